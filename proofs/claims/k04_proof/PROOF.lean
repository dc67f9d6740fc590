import PyProof.Rows.All
import Wide.All
import OpenK.AllK
import Wide.FinOn
import HandS.ForMost
import HandS.Exc
import HandS.ExcOwn
import HandS.WordsExc
import HandS.CallSlots
import HandS.Walk
import HandS.Lambda
import HandS.Wide
import HandS.IsInst
import HandS.Style
import HandS.ClsMeth
import HandS.OwnEq
import KE.KExcIs
import HandS.TryMany
import HandS.ExcField
import PySem.Challenge.RW_thinwall_k04_whole_chain_or_island
import KE.KExcSuper
import HandS.ExcInit
import HandS.FStr
import HandS.DictComp
import HandS.RevRange
import HandS.Conv
import KE.KDictZip
import PyProof.ListNew
import HandS.Iter
import HandS.SetFor
import HandS.Strs
import HandS.Small
import HandS.Star
import HandS.Comp
import HandS.ExcIs
import HandS.EndTab
import KE.KNestM
set_option Elab.async false
set_option linter.all false
set_option maxRecDepth 100000
set_option maxHeartbeats 1000000
/-! The data layer: values as trees of data, a stable heap S, owned cells w, a frame F; wishes in data. -/
namespace DL
open PySem PySem.Spec PyProof.Rows L2 LamX
/-- data: a value as it is, a list that stands, a tuple, a list that is only read, an instance that stands -/
inductive D where
  | val (v : V)
  | lst (ds : List D)
  | tup (ds : List D)
  | rd (ds : List D)
  | obj (C : Addr) (ns : List Str) (ds : List D)
  | exc (a dd : Addr) (ns : List Str) (ds : List D)
  | dic (kvs : List (Key × V))
  | dct (kvs : List (List Key × V))
abbrev I (i : Int) : D := .val (.int i)
abbrev B (b : Bool) : D := .val (.bl b)
abbrev T (s : Str) : D := .val (.str s)
abbrev N : D := .val .non
abbrev R (a : Addr) : D := .val (.ref a)
mutual
def Rep (K : PySem.W.Frag) (S : Hp) : D → V → Prop
  | .val v, x => x = v
  | .lst ds, x => ∃ a xs, x = .ref a ∧ S a = some (.lst xs) ∧ RepL K S ds xs
  | .tup ds, x => ∃ a xs, x = .ref a ∧ S a = some (.tup xs) ∧ RepL K S ds xs
  | .rd ds, x => ∃ a xs, x = .ref a ∧ SqL K S a xs ∧ RepL K S ds xs
  | .obj C ns ds, x => ∃ a dx ys, x = .ref a ∧ S a = some (.ins C dx ys) ∧ ys.map (·.1) = ns ∧ RepL K S ds (ys.map (·.2))
  | .exc a dd ns ds, x => ∃ ys, x = .ref a ∧ S dd = some (.xd ys) ∧ ys.map (·.1) = ns ∧ RepL K S ds (ys.map (·.2))
  | .dic kvs, x => ∃ a, x = .ref a ∧ S a = some (.dK kvs)
  | .dct kvs, x => ∃ a, x = .ref a ∧ S a = some (.dT kvs)
def RepL (K : PySem.W.Frag) (S : Hp) : List D → List V → Prop
  | [], xs => xs = []
  | d :: ds, xs => ∃ y ys, xs = y :: ys ∧ Rep K S d y ∧ RepL K S ds ys
end
section
variable {K : PySem.W.Frag} {S S' H H' : Hp}
mutual
theorem Rep.mono (e : Same S S') : ∀ {d : D} {v : V}, Rep K S d v → Rep K S' d v
  | .val v, x, h => h
  | .lst ds, x, h => by
    obtain ⟨a, xs, h1, h2, h3⟩ := h
    exact ⟨a, xs, h1, e _ _ h2, RepL.mono e h3⟩
  | .tup ds, x, h => by
    obtain ⟨a, xs, h1, h2, h3⟩ := h
    exact ⟨a, xs, h1, e _ _ h2, RepL.mono e h3⟩
  | .rd ds, x, h => by
    obtain ⟨a, xs, h1, h2, h3⟩ := h
    exact ⟨a, xs, h1, e.seq h2, RepL.mono e h3⟩
  | .obj C ns ds, x, h => by
    obtain ⟨a, dx, ys, h1, h2, h3, h4⟩ := h
    exact ⟨a, dx, ys, h1, e _ _ h2, h3, RepL.mono e h4⟩
  | .exc a dd ns ds, x, h => by
    obtain ⟨ys, h1, h2, h3, h4⟩ := h
    exact ⟨ys, h1, e _ _ h2, h3, RepL.mono e h4⟩
  | .dic kvs, x, h => by
    obtain ⟨a, h1, h2⟩ := h
    exact ⟨a, h1, e _ _ h2⟩
  | .dct kvs, x, h => by
    obtain ⟨a, h1, h2⟩ := h
    exact ⟨a, h1, e _ _ h2⟩
theorem RepL.mono (e : Same S S') : ∀ {ds : List D} {xs : List V}, RepL K S ds xs → RepL K S' ds xs
  | [], xs, h => h
  | d :: ds, xs, h => by
    obtain ⟨y, ys, h1, h2, h3⟩ := h
    exact ⟨y, ys, h1, Rep.mono e h2, RepL.mono e h3⟩
end
theorem RepL.length : ∀ {ds : List D} {xs : List V}, RepL K S ds xs → xs.length = ds.length
  | [], xs, h => by
    have h' : xs = [] := h
    rw [h']
    rfl
  | d :: ds, xs, h => by
    obtain ⟨y, ys, rfl, h2, h3⟩ := h
    show ys.length + 1 = ds.length + 1
    rw [RepL.length h3]
theorem RepL.get : ∀ {ds : List D} {xs : List V}, RepL K S ds xs → ∀ {i : Nat} {d : D}, ds[i]? = some d → ∃ x, xs[i]? = some x ∧ Rep K S d x
  | [], _, _, i, d, e => by simp at e
  | d0 :: ds, xs, h, i, d, e => by
    obtain ⟨y, ys, rfl, h2, h3⟩ := h
    cases i with
    | zero =>
      have e' : d0 = d := Option.some.inj e
      subst e'
      exact ⟨y, rfl, h2⟩
    | succ i => exact RepL.get h3 (i := i) e
theorem RepL.app : ∀ {ds es : List D} {xs ys : List V}, RepL K S ds xs → RepL K S es ys → RepL K S (ds ++ es) (xs ++ ys)
  | [], es, xs, ys, h, k => by
    have h' : xs = [] := h
    subst h'
    exact k
  | d :: ds, es, xs, ys, h, k => by
    obtain ⟨y, zs, rfl, h2, h3⟩ := h
    exact ⟨y, zs ++ ys, rfl, h2, RepL.app h3 k⟩
theorem RepL.one {d : D} {x : V} (h : Rep K S d x) : RepL K S [d] [x] := ⟨x, [], rfl, h, rfl⟩
theorem RepL.ints : ∀ {ns : List Int} {xs : List V}, RepL K S (ns.map I) xs → xs = ns.map V.int
  | [], xs, h => h
  | n :: ns, xs, h => by
    obtain ⟨y, ys, rfl, h2, h3⟩ := h
    have h2' : y = V.int n := h2
    rw [h2', RepL.ints h3]
    rfl
theorem RepL.vals : ∀ {vs : List V} {xs : List V}, RepL K S (vs.map D.val) xs → xs = vs
  | [], xs, h => h
  | n :: ns, xs, h => by
    obtain ⟨y, ys, rfl, h2, h3⟩ := h
    have h2' : y = n := h2
    rw [h2', RepL.vals h3]
theorem RepL.of_vals : ∀ {vs : List V}, RepL K S (vs.map D.val) vs
  | [] => rfl
  | n :: ns => ⟨n, ns, rfl, rfl, RepL.of_vals⟩
/-- a part -/
theorem RepL.drop : ∀ {ds : List D} {xs : List V} (n : Nat), RepL K S ds xs → RepL K S (ds.drop n) (xs.drop n)
  | ds, xs, 0, h => h
  | [], xs, n + 1, h => by
    have h' : xs = [] := h
    subst h'
    rfl
  | d :: ds, xs, n + 1, h => by
    obtain ⟨y, ys, rfl, h2, h3⟩ := h
    exact RepL.drop n h3
theorem RepL.take : ∀ {ds : List D} {xs : List V} (n : Nat), RepL K S ds xs → RepL K S (ds.take n) (xs.take n)
  | ds, xs, 0, h => rfl
  | [], xs, n + 1, h => by
    have h' : xs = [] := h
    subst h'
    rfl
  | d :: ds, xs, n + 1, h => by
    obtain ⟨y, ys, rfl, h2, h3⟩ := h
    exact ⟨y, ys.take n, rfl, h2, RepL.take n h3⟩
theorem RepL.set : ∀ {ds : List D} {xs : List V} (n : Nat) {d : D} {x : V}, RepL K S ds xs → Rep K S d x → RepL K S (ds.set n d) (xs.set n x)
  | [], xs, n, d, x, h, k => by
    have h' : xs = [] := h
    subst h'
    rfl
  | d0 :: ds, xs, 0, d, x, h, k => by
    obtain ⟨y, ys, rfl, h2, h3⟩ := h
    exact ⟨x, ys, rfl, k, h3⟩
  | d0 :: ds, xs, n + 1, d, x, h, k => by
    obtain ⟨y, ys, rfl, h2, h3⟩ := h
    exact ⟨y, ys.set n x, rfl, h2, RepL.set n h3 k⟩
theorem RepL.rev : ∀ {ds : List D} {xs : List V}, RepL K S ds xs → RepL K S ds.reverse xs.reverse
  | [], xs, h => by
    have h' : xs = [] := h
    subst h'
    rfl
  | d :: ds, xs, h => by
    obtain ⟨y, ys, rfl, h2, h3⟩ := h
    rw [List.reverse_cons, List.reverse_cons]
    exact RepL.app (RepL.rev h3) (RepL.one h2)
theorem RepL.dropLast : ∀ {ds : List D} {xs : List V}, RepL K S ds xs → RepL K S ds.dropLast xs.dropLast := fun {ds xs} h => by
  rw [List.dropLast_eq_take, List.dropLast_eq_take, RepL.length h]
  exact RepL.take _ h
theorem RepL.eraseIdx : ∀ {ds : List D} {xs : List V} (n : Nat), RepL K S ds xs → RepL K S (ds.eraseIdx n) (xs.eraseIdx n)
  | [], xs, n, h => by
    have h' : xs = [] := h
    subst h'
    rfl
  | d0 :: ds, xs, 0, h => by
    obtain ⟨y, ys, rfl, h2, h3⟩ := h
    exact h3
  | d0 :: ds, xs, n + 1, h => by
    obtain ⟨y, ys, rfl, h2, h3⟩ := h
    exact ⟨y, ys.eraseIdx n, rfl, h2, RepL.eraseIdx n h3⟩
end
/-- an owned cell -/
inductive HD where
  | lst (ds : List D)
  | ins (C dx : Addr) (ns : List Str) (ds : List D)
  | dic (kvs : List (Key × V))
def RepH (K : PySem.W.Frag) (S : Hp) : HD → HO → Prop
  | .lst ds, o => ∃ xs, o = .lst xs ∧ RepL K S ds xs
  | .ins C dx ns ds, o => ∃ ys, o = .ins C dx ys ∧ ys.map (·.1) = ns ∧ RepL K S ds (ys.map (·.2))
  | .dic kvs, o => o = .dK kvs
theorem RepH.mono {K : PySem.W.Frag} {S S' : Hp} (e : Same S S') : ∀ {h : HD} {o : HO}, RepH K S h o → RepH K S' h o
  | .lst ds, o, h => by
    obtain ⟨xs, h1, h2⟩ := h
    exact ⟨xs, h1, h2.mono e⟩
  | .ins C dx ns ds, o, h => by
    obtain ⟨ys, h1, h2, h3⟩ := h
    exact ⟨ys, h1, h2, h3.mono e⟩
  | .dic kvs, o, h => h
abbrev Wp := Addr → Option HD
def wu (w : Wp) (a : Addr) (h : HD) : Wp := fun b => if b = a then some h else w b
def wd (w : Wp) (a : Addr) : Wp := fun b => if b = a then none else w b
def w0 : Wp := fun _ => none
theorem wu_same {w : Wp} {a : Addr} {h : HD} : wu w a h a = some h := if_pos rfl
theorem wu_ne {w : Wp} {a b : Addr} {h : HD} (e : b ≠ a) : wu w a h b = w b := if_neg e
theorem wu_wu {w : Wp} {a : Addr} {h k : HD} : wu (wu w a h) a k = wu w a k := by
  funext b
  by_cases e : b = a
  · rw [e, wu_same, wu_same]
  · rw [wu_ne e, wu_ne e, wu_ne e]
theorem wd_wu {w : Wp} {a : Addr} {h : HD} (e : w a = none) : wd (wu w a h) a = w := by
  funext b
  by_cases q : b = a
  · rw [q, e]
    exact if_pos rfl
  · show (if b = a then none else wu w a h b) = w b
    rw [if_neg q, wu_ne q]
/-- how the heap H stands: S stands for ever, w is owned, F is somebody else's -/
structure World (K : PySem.W.Frag) (T : List (Addr × Str)) (S : Hp) (w : Wp) (F H : Hp) : Prop where
  same : Same S H
  notbl : ∀ a ps, S a ≠ some (.tbl ps)
  own : ∀ a h, w a = some h → S a = none ∧ F a = none ∧ ∃ o, H a = some o ∧ RepH K S h o
  frm : ∀ a o, F a = some o → S a = none ∧ H a = some o
  tabs : Tabs T H
  nf : ∀ a ps, F a ≠ some (.tbl ps)
section
variable {K : PySem.W.Frag} {T : List (Addr × Str)} {S S' F H H' : Hp} {w : Wp} {a : Addr} {o : HO} {h : HD}
theorem World.free (W : World K T S w F H) (e : H a = none) : S a = none ∧ w a = none ∧ F a = none := by
  refine ⟨W.same.free e, ?_, ?_⟩
  · cases q : w a with
    | none => rfl
    | some h =>
      obtain ⟨_, _, o, q2, _⟩ := W.own a h q
      rw [e] at q2
      cases q2
  · cases q : F a with
    | none => rfl
    | some o =>
      have q2 := (W.frm a o q).2
      rw [e] at q2
      cases q2
theorem same_upd {H : Hp} {p : Addr} {o : HO} (h : H p = none) : Same H (upd H p o) := fun b x e => by
  rw [upd_ne (ne_of_none e h)]
  exact e
/-- a new object that stands -/
theorem World.laid (W : World K T S w F H) (e : H a = none) (hn : ∀ ps, o ≠ .tbl ps) : World K T (upd S a o) w F (upd H a o) := by
  obtain ⟨e1, e2, e3⟩ := W.free e
  have sS : Same S (upd S a o) := same_upd e1
  have sH : Same H (upd H a o) := same_upd e
  refine ⟨fun b x q => ?_, fun b ps q => ?_, fun b h q => ?_, fun b x q => ?_, W.tabs.ext sH, W.nf⟩
  · by_cases hb : b = a
    · subst hb
      rw [upd_same] at q ⊢
      exact q
    · rw [upd_ne hb] at q ⊢
      exact W.same _ _ q
  · by_cases hb : b = a
    · subst hb
      rw [upd_same] at q
      exact hn ps (Option.some.inj q)
    · rw [upd_ne hb] at q
      exact W.notbl _ _ q
  · have hb : b ≠ a := fun z => by
      rw [z, e2] at q
      cases q
    obtain ⟨q1, q2, x, q3, q4⟩ := W.own b h q
    exact ⟨by rw [upd_ne hb]; exact q1, q2, x, sH _ _ q3, q4.mono sS⟩
  · have hb : b ≠ a := fun z => by
      rw [z, e3] at q
      cases q
    obtain ⟨q1, q2⟩ := W.frm b x q
    exact ⟨by rw [upd_ne hb]; exact q1, sH _ _ q2⟩
/-- a new object that nobody looks at -/
theorem World.junk (W : World K T S w F H) (e : H a = none) : World K T S w F (upd H a o) := by
  have sH : Same H (upd H a o) := same_upd e
  refine ⟨W.same.trans sH, W.notbl, fun b h q => ?_, fun b x q => ?_, W.tabs.ext sH, W.nf⟩
  · obtain ⟨q1, q2, x, q3, q4⟩ := W.own b h q
    exact ⟨q1, q2, x, sH _ _ q3, q4⟩
  · obtain ⟨q1, q2⟩ := W.frm b x q
    exact ⟨q1, sH _ _ q2⟩
/-- a new owned cell -/
theorem World.take (W : World K T S w F H) (e : H a = none) (r : RepH K S h o) : World K T S (wu w a h) F (upd H a o) := by
  obtain ⟨e1, e2, e3⟩ := W.free e
  have sH : Same H (upd H a o) := same_upd e
  refine ⟨W.same.trans sH, W.notbl, fun b k q => ?_, fun b x q => ?_, W.tabs.ext sH, W.nf⟩
  · by_cases hb : b = a
    · subst hb
      rw [wu_same] at q
      cases q
      exact ⟨e1, e3, o, upd_same, r⟩
    · rw [wu_ne hb] at q
      obtain ⟨q1, q2, x, q3, q4⟩ := W.own b k q
      exact ⟨q1, q2, x, sH _ _ q3, q4⟩
  · obtain ⟨q1, q2⟩ := W.frm b x q
    exact ⟨q1, sH _ _ q2⟩
theorem nf_upd {F : Hp} {a : Addr} {o : HO} (h : ∀ a ps, F a ≠ some (.tbl ps)) (hn : ∀ ps, o ≠ .tbl ps) : ∀ b ps, upd F a o b ≠ some (.tbl ps) := fun b ps z => by
  by_cases e : b = a
  · rw [e, upd_same] at z
    exact hn ps (Option.some.inj z)
  · rw [upd_ne e] at z
    exact h b ps z
/-- a new cell of the frame -/
theorem World.takeF (W : World K T S w F H) (e : H a = none) (hn : ∀ ps, o ≠ .tbl ps) : World K T S w (upd F a o) (upd H a o) := by
  obtain ⟨e1, e2, e3⟩ := W.free e
  have sH : Same H (upd H a o) := same_upd e
  refine ⟨W.same.trans sH, W.notbl, fun b k q => ?_, fun b x q => ?_, W.tabs.ext sH, nf_upd W.nf hn⟩
  · have hb : b ≠ a := fun z => by
      rw [z, e2] at q
      cases q
    obtain ⟨q1, q2, x, q3, q4⟩ := W.own b k q
    exact ⟨q1, by rw [upd_ne hb]; exact q2, x, sH _ _ q3, q4⟩
  · by_cases hb : b = a
    · subst hb
      rw [upd_same] at q ⊢
      exact ⟨e1, q⟩
    · rw [upd_ne hb] at q
      obtain ⟨q1, q2⟩ := W.frm b x q
      exact ⟨q1, sH _ _ q2⟩
theorem TabS.put {H : Hp} {P a : Addr} {q : Str} {u o : HO} (t : TabS H P q) (e : H a = some u) (h1 : ∀ ps, u ≠ .tbl ps) (h2 : ∀ φ, u ≠ .ext φ) : TabS (upd H a o) P q := by
  obtain ⟨ps, k1, k2, k3⟩ := t
  refine ⟨ps, ?_, k2, fun pos cv hc => ?_⟩
  · rw [upd_ne (ne_of k1 e (fun z => h1 ps z.symm))]
    exact k1
  · obtain ⟨c, e1, e2⟩ := k3 pos cv hc
    refine ⟨c, e1, ?_⟩
    rw [upd_ne (ne_of e2 e (fun z => h2 _ z.symm))]
    exact e2
theorem RepH.notbl {h : HD} {o : HO} (r : RepH K S h o) : (∀ ps, o ≠ .tbl ps) ∧ (∀ φ, o ≠ .ext φ) := by
  cases h with
  | lst ds =>
    obtain ⟨xs, rfl, _⟩ := r
    exact ⟨fun _ z => (by cases z), fun _ z => (by cases z)⟩
  | ins C dx ns ds =>
    obtain ⟨ys, rfl, _⟩ := r
    exact ⟨fun _ z => (by cases z), fun _ z => (by cases z)⟩
  | dic kvs =>
    have r' : o = .dK kvs := r
    subst r'
    exact ⟨fun _ z => (by cases z), fun _ z => (by cases z)⟩
/-- an owned cell is written -/
theorem World.put (W : World K T S w F H) {k : HD} (e : w a = some k) (r : RepH K S h o) : World K T S (wu w a h) F (upd H a o) := by
  obtain ⟨e1, e2, u, e3, e4⟩ := W.own a k e
  refine ⟨fun b x q => ?_, W.notbl, fun b k q => ?_, fun b x q => ?_, fun p hp => TabS.put (W.tabs p hp) e3 e4.notbl.1 e4.notbl.2, W.nf⟩
  · rw [upd_ne (ne_of_none q e1)]
    exact W.same _ _ q
  · by_cases hb : b = a
    · subst hb
      rw [wu_same] at q
      cases q
      exact ⟨e1, e2, o, upd_same, r⟩
    · rw [wu_ne hb] at q
      obtain ⟨q1, q2, x, q3, q4⟩ := W.own b k q
      exact ⟨q1, q2, x, by rw [upd_ne hb]; exact q3, q4⟩
  · obtain ⟨q1, q2⟩ := W.frm b x q
    refine ⟨q1, ?_⟩
    rw [upd_ne (fun z => by rw [z, e2] at q; cases q)]
    exact q2
/-- an owned cell stands from now on -/
theorem World.freeze (W : World K T S w F H) (e : w a = some h) : ∃ o, S a = none ∧ RepH K S h o ∧ World K T (upd S a o) (wd w a) F H := by
  obtain ⟨e1, e2, o, e3, e4⟩ := W.own a h e
  have sS : Same S (upd S a o) := same_upd e1
  refine ⟨o, e1, e4, fun b x q => ?_, fun b ps q => ?_, fun b k q => ?_, fun b x q => ?_, W.tabs, W.nf⟩
  · by_cases hb : b = a
    · subst hb
      rw [upd_same] at q
      rw [e3]
      exact q
    · rw [upd_ne hb] at q
      exact W.same _ _ q
  · by_cases hb : b = a
    · subst hb
      rw [upd_same] at q
      exact e4.notbl.1 ps (Option.some.inj q)
    · rw [upd_ne hb] at q
      exact W.notbl _ _ q
  · have hb : b ≠ a := fun z => by
      rw [z] at q
      have q' : (if a = a then none else w a) = some k := q
      rw [if_pos rfl] at q'
      cases q'
    have q' : w b = some k := by
      have q' : (if b = a then none else w b) = some k := q
      rw [if_neg hb] at q'
      exact q'
    obtain ⟨q1, q2, x, q3, q4⟩ := W.own b k q'
    exact ⟨by rw [upd_ne hb]; exact q1, q2, x, q3, q4.mono sS⟩
  · obtain ⟨q1, q2⟩ := W.frm b x q
    refine ⟨?_, q2⟩
    rw [upd_ne (fun z => by rw [z, e2] at q; cases q)]
    exact q1
/-- a cell of the frame is written; is taken out and stands -/
theorem World.putF (W : World K T S w F H) {u : HO} (e : F a = some u) (h1 : ∀ ps, u ≠ .tbl ps) (h2 : ∀ φ, u ≠ .ext φ) (hn : ∀ ps, o ≠ .tbl ps) : World K T S w (upd F a o) (upd H a o) := by
  obtain ⟨e1, e2⟩ := W.frm a u e
  refine ⟨fun b x q => ?_, W.notbl, fun b k q => ?_, fun b x q => ?_, fun p hp => TabS.put (W.tabs p hp) e2 h1 h2, nf_upd W.nf hn⟩
  · rw [upd_ne (ne_of_none q e1)]
    exact W.same _ _ q
  · obtain ⟨q1, q2, x, q3, q4⟩ := W.own b k q
    have hb : b ≠ a := fun z => by
      rw [z, e] at q2
      cases q2
    exact ⟨q1, by rw [upd_ne hb]; exact q2, x, by rw [upd_ne hb]; exact q3, q4⟩
  · by_cases hb : b = a
    · subst hb
      rw [upd_same] at q ⊢
      exact ⟨e1, q⟩
    · rw [upd_ne hb] at q
      obtain ⟨q1, q2⟩ := W.frm b x q
      exact ⟨q1, by rw [upd_ne hb]; exact q2⟩
theorem World.freezeF {F0 : Hp} (W : World K T S w (upd F0 a o) H) (e : F0 a = none) (h1 : ∀ ps, o ≠ .tbl ps) : S a = none ∧ World K T (upd S a o) w F0 H := by
  obtain ⟨e1, e2⟩ := W.frm a o upd_same
  have sS : Same S (upd S a o) := same_upd e1
  refine ⟨e1, fun b x q => ?_, fun b ps q => ?_, fun b k q => ?_, fun b x q => ?_, W.tabs, fun b ps z => ?_⟩
  · by_cases hb : b = a
    · subst hb
      rw [upd_same] at q
      rw [e2]
      exact q
    · rw [upd_ne hb] at q
      exact W.same _ _ q
  · by_cases hb : b = a
    · subst hb
      rw [upd_same] at q
      exact h1 ps (Option.some.inj q)
    · rw [upd_ne hb] at q
      exact W.notbl _ _ q
  · obtain ⟨q1, q2, x, q3, q4⟩ := W.own b k q
    have hb : b ≠ a := fun z => by
      rw [z, upd_same] at q2
      cases q2
    refine ⟨by rw [upd_ne hb]; exact q1, ?_, x, q3, q4.mono sS⟩
    rw [upd_ne hb] at q2
    exact q2
  · have hb : b ≠ a := fun z => by
      rw [z, e] at q
      cases q
    obtain ⟨q1, q2⟩ := W.frm b x (by rw [upd_ne hb]; exact q)
    exact ⟨by rw [upd_ne hb]; exact q1, q2⟩
  · by_cases hb : b = a
    · rw [hb, e] at z
      cases z
    · exact W.nf b ps (by rw [upd_ne hb]; exact z)
end
/-! ### the frame's slots, in data -/
abbrev Dn := List (Option D)
structure EnvD (K : PySem.W.Frag) (S : Hp) (δ : Dn) (σ : L2.St) : Prop where
  len : δ.length = σ.length
  at_ : ∀ (i : Nat) (d : D), δ[i]? = some (some d) → ∃ v, σ[i]? = some (some v) ∧ Rep K S d v
theorem EnvD.mono {K : PySem.W.Frag} {S S' : Hp} {δ : Dn} {σ : L2.St} (e : Same S S') (h : EnvD K S δ σ) : EnvD K S' δ σ := ⟨h.len, fun i d q => by
  obtain ⟨v, h1, h2⟩ := h.at_ i d q
  exact ⟨v, h1, h2.mono e⟩⟩
theorem EnvD.set {K : PySem.W.Frag} {S : Hp} {δ : Dn} {σ : L2.St} (h : EnvD K S δ σ) (i : Nat) {d : D} {v : V} (r : Rep K S d v) : EnvD K S (δ.set i (some d)) (σ.set i (some v)) := by
  refine ⟨by rw [List.length_set, List.length_set]; exact h.len, fun j d' q => ?_⟩
  by_cases e : i = j
  · subst e
    by_cases hl : i < δ.length
    · rw [List.getElem?_set_self hl] at q
      cases q
      exact ⟨v, by rw [List.getElem?_set_self (by rw [← h.len]; exact hl)], r⟩
    · rw [List.getElem?_eq_none (by simpa using hl)] at q
      cases q
  · rw [List.getElem?_set_ne e] at q
    obtain ⟨v', h1, h2⟩ := h.at_ j d' q
    exact ⟨v', by rw [List.getElem?_set_ne e]; exact h1, h2⟩
theorem EnvD.unset {K : PySem.W.Frag} {S : Hp} {δ : Dn} {σ : L2.St} (h : EnvD K S δ σ) (i : Nat) : EnvD K S (δ.set i none) (σ.set i none) := by
  refine ⟨by rw [List.length_set, List.length_set]; exact h.len, fun j d' q => ?_⟩
  by_cases e : i = j
  · subst e
    by_cases hl : i < δ.length
    · rw [List.getElem?_set_self hl] at q
      cases q
    · rw [List.getElem?_eq_none (by simpa using hl)] at q
      cases q
  · rw [List.getElem?_set_ne e] at q
    obtain ⟨v', h1, h2⟩ := h.at_ j d' q
    exact ⟨v', by rw [List.getElem?_set_ne e]; exact h1, h2⟩
def wipeD (δ : Dn) : List Nat → Dn
  | [] => δ
  | v :: vs => (wipeD δ vs).set v none
theorem EnvD.wipe {K : PySem.W.Frag} {S : Hp} {δ : Dn} {σ : L2.St} (h : EnvD K S δ σ) : ∀ vs : List Nat, EnvD K S (wipeD δ vs) (L2.wipe σ vs)
  | [] => h
  | v :: vs => (EnvD.wipe h vs).unset v
/-- a slot's data is told otherwise -/
theorem EnvD.tell {K : PySem.W.Frag} {S : Hp} {δ : Dn} {σ : L2.St} (h : EnvD K S δ σ) (i : Nat) {d d' : D} (q : δ[i]? = some (some d)) (r : ∀ v, Rep K S d v → Rep K S d' v) : EnvD K S (δ.set i (some d')) σ := by
  refine ⟨by rw [List.length_set]; exact h.len, fun j e q' => ?_⟩
  by_cases z : i = j
  · subst z
    have hl : i < δ.length := (List.getElem?_eq_some_iff.mp q).1
    rw [List.getElem?_set_self hl] at q'
    cases q'
    obtain ⟨v, h1, h2⟩ := h.at_ i d q
    exact ⟨v, h1, r v h2⟩
  · rw [List.getElem?_set_ne z] at q'
    exact h.at_ j e q'
end DL

set_option Elab.async false
set_option linter.all false
set_option maxRecDepth 100000
set_option maxHeartbeats 1000000
/-! The judgements in data: expressions, tests, argument lists, statements. -/
namespace DL
open PySem PySem.Spec PyProof.Rows L2 LamX
/-! ### the weakest readings -/
section
variable (X : Cx)
def wpE (e : Expr) : TE := fun σ H Q => ∀ pins s, Inv X pins σ H s → wpAny (model X.prog X.w) X.A (eval e X.env) (EP X pins σ Q) X.xe s
def wpT (e : Expr) : TT := fun σ H Q => ∀ pins s, Inv X pins σ H s → wpAny (model X.prog X.w) X.A (isTrue e X.env (eval e X.env)) (TP X pins σ Q) X.xe s
def wpA (es : List Expr) : TA := fun σ H Q => ∀ (pos : Pos) pins s, Inv X pins σ H s → wpAny (model X.prog X.w) X.A (spliced (backTo pos (starEach es X.env))) (AP X pins σ Q) X.xe s
def wpS (st : Stmt) : TS := fun D σ H => ∀ pins s, Inv X pins σ H s → wpAny (model X.prog X.w) X.A (exec st X.env) (SP X pins D) X.xe s
def wpSs (st : List Stmt) : TS := fun D σ H => ∀ pins s, Inv X pins σ H s → wpAny (model X.prog X.w) X.A (execs st X.env) (SP X pins D) X.xe s
def wpG (tg : Expr) : TG := fun v σ H Q => ∀ pins s u, Inv X pins σ H s → RelV v u → wpAny (model X.prog X.w) X.A (assign tg X.env u) (fun _ s' => ∃ σ' H', Inv X pins σ' H' s' ∧ Q σ' H') X.xe s
def wpTs (ifs : List Expr) : TT := fun σ H Q => ∀ pins s, Inv X pins σ H s → wpAny (model X.prog X.w) X.A (forIn ifs true fun c r => if r = true then do let ok ← isTrue c X.env (eval c X.env); pure (ForInStep.yield ok) else pure (ForInStep.yield r)) (TP X pins σ Q) X.xe s
end
section
variable {X : Cx}
theorem pe_wp (e : Expr) : PE X e (wpE X e) := ⟨fun pins s _ _ _ I h => h pins s I⟩
theorem pt_wp (e : Expr) : PT X e (wpT X e) := ⟨fun pins s _ _ _ I h => h pins s I⟩
theorem pa_wp (es : List Expr) : PA X es (wpA X es) := ⟨fun pos pins s _ _ _ I h => h pos pins s I⟩
theorem ps_wp (st : Stmt) : PS X st (wpS X st) := ⟨fun pins s _ _ _ I h => h pins s I⟩
theorem pss_wp (st : List Stmt) : PSs X st (wpSs X st) := ⟨fun pins s _ _ _ I h => h pins s I⟩
theorem pg_wp (tg : Expr) : PG X tg (wpG X tg) := ⟨fun pins s _ _ _ u _ I r h => h pins s u I r⟩
theorem pts_wp (ifs : List Expr) : PTs X ifs (wpTs X ifs) := ⟨fun pins s _ _ _ I h => h pins s I⟩
theorem wp_pe {e : Expr} {t : TE} (h : PE X e t) {σ : L2.St} {H : Hp} {Q : VK} (q : t σ H Q) : wpE X e σ H Q := fun pins s I => h.run pins s σ H Q I q
theorem wp_pt {e : Expr} {t : TT} (h : PT X e t) {σ : L2.St} {H : Hp} {Q : Bool → Hp → Prop} (q : t σ H Q) : wpT X e σ H Q := fun pins s I => h.run pins s σ H Q I q
theorem wp_pa {es : List Expr} {t : TA} (h : PA X es t) {σ : L2.St} {H : Hp} {Q : List V → Hp → Prop} (q : t σ H Q) : wpA X es σ H Q := fun pos pins s I => h.run pos pins s σ H Q I q
theorem wp_ps {st : Stmt} {t : TS} (h : PS X st t) {σ : L2.St} {H : Hp} {D : Ends} (q : t D σ H) : wpS X st D σ H := fun pins s I => h.run pins s σ H D I q
theorem wp_pss {st : List Stmt} {t : TS} (h : PSs X st t) {σ : L2.St} {H : Hp} {D : Ends} (q : t D σ H) : wpSs X st D σ H := fun pins s I => h.run pins s σ H D I q
theorem wp_pg {tg : Expr} {t : TG} (h : PG X tg t) {v : V} {σ : L2.St} {H : Hp} {Q : L2.St → Hp → Prop} (q : t v σ H Q) : wpG X tg v σ H Q := fun pins s u I r => h.run pins s σ H v u Q I r q
end
/-! ### wishes in data -/
/-- an exception's wish: class, fields, owned cells -/
abbrev XD := Addr → List Str → List D → Wp → Prop
abbrev noX : XD := fun _ _ _ _ => False
/-- an exception's own dict -/
def XdR (K : PySem.W.Frag) (S : Hp) (d : Addr) (ns : List Str) (ds : List D) : Prop := ∃ ys, S d = some (.xd ys) ∧ ys.map (·.1) = ns ∧ RepL K S ds (ys.map (·.2))
/-- W takes what χ tells -/
def ExD (K : PySem.W.Frag) (T : List (Addr × Str)) (W : WX) (χ : XD) (σ : L2.St) (S F : Hp) : Prop :=
  ∀ C ns ds w' d S' H', χ C ns ds w' → Same S S' → World K T S' w' F H' → XdR K S' d ns ds → W (.ref C) (some d) σ H'
def KD (K : PySem.W.Frag) (T : List (Addr × Str)) (κ : D → Wp → Prop) (S F : Hp) (Q : VK) : Prop :=
  ∀ d w' v S' H', κ d w' → Same S S' → World K T S' w' F H' → Rep K S' d v → Q v H'
def KB (K : PySem.W.Frag) (T : List (Addr × Str)) (κ : Bool → Wp → Prop) (S F : Hp) (Q : Bool → Hp → Prop) : Prop :=
  ∀ b w' S' H', κ b w' → Same S S' → World K T S' w' F H' → Q b H'
def KA (K : PySem.W.Frag) (T : List (Addr × Str)) (κ : List D → Wp → Prop) (S F : Hp) (Q : List V → Hp → Prop) : Prop :=
  ∀ ds w' vs S' H', κ ds w' → Same S S' → World K T S' w' F H' → RepL K S' ds vs → Q vs H'
def KS (K : PySem.W.Frag) (T : List (Addr × Str)) (κ : Dn → Wp → Prop) (S F : Hp) (Q : L2.St → Hp → Prop) : Prop :=
  ∀ δ' w' σ' S' H', κ δ' w' → Same S S' → EnvD K S' δ' σ' → World K T S' w' F H' → Q σ' H'
section
variable {K : PySem.W.Frag} {T : List (Addr × Str)} {W : WX} {χ : XD} {σ : L2.St} {S S' F : Hp}
theorem ExD.mono (e : Same S S') (h : ExD K T W χ σ S F) : ExD K T W χ σ S' F := fun C ns ds w' d S2 H2 x s1 wd r => h C ns ds w' d S2 H2 x (e.trans s1) wd r
theorem KD.mono {κ : D → Wp → Prop} {Q : VK} (e : Same S S') (h : KD K T κ S F Q) : KD K T κ S' F Q := fun d w' v S2 H2 x s1 wd r => h d w' v S2 H2 x (e.trans s1) wd r
theorem KB.mono {κ : Bool → Wp → Prop} {Q : Bool → Hp → Prop} (e : Same S S') (h : KB K T κ S F Q) : KB K T κ S' F Q := fun d w' S2 H2 x s1 wd => h d w' S2 H2 x (e.trans s1) wd
theorem KA.mono {κ : List D → Wp → Prop} {Q : List V → Hp → Prop} (e : Same S S') (h : KA K T κ S F Q) : KA K T κ S' F Q := fun d w' v S2 H2 x s1 wd r => h d w' v S2 H2 x (e.trans s1) wd r
theorem KS.mono {κ : Dn → Wp → Prop} {Q : L2.St → Hp → Prop} (e : Same S S') (h : KS K T κ S F Q) : KS K T κ S' F Q := fun d w' v S2 H2 x s1 en wd => h d w' v S2 H2 x (e.trans s1) en wd
end
/-! ### the judgements -/
section
variable (X : Cx) (T : List (Addr × Str)) (W : WX) (χ : XD)
def PD (e : Expr) (δ : Dn) (w : Wp) (κ : D → Wp → Prop) : Prop :=
  ∀ (F : Hp) (σ : L2.St) (S H : Hp) (Q : VK), EnvD X.K S δ σ → World X.K T S w F H → ExD X.K T W χ σ S F → KD X.K T κ S F Q → wpE X e σ H Q
def PTD (e : Expr) (δ : Dn) (w : Wp) (κ : Bool → Wp → Prop) : Prop :=
  ∀ (F : Hp) (σ : L2.St) (S H : Hp) (Q : Bool → Hp → Prop), EnvD X.K S δ σ → World X.K T S w F H → ExD X.K T W χ σ S F → KB X.K T κ S F Q → wpT X e σ H Q
/-- a test whatever its whole is -/
def PWD (e : Expr) (δ : Dn) (w : Wp) (κ : Bool → Wp → Prop) : Prop :=
  ∀ (F : Hp) (σ : L2.St) (S H : Hp) (Q : Bool → Hp → Prop), EnvD X.K S δ σ → World X.K T S w F H → ExD X.K T W χ σ S F → KB X.K T κ S F Q →
    ∀ (whole : Sem Value) pins s, Inv X pins σ H s → wpAny (model X.prog X.w) X.A (isTrue e X.env whole) (TP X pins σ Q) X.xe s
def PAD (es : List Expr) (δ : Dn) (w : Wp) (κ : List D → Wp → Prop) : Prop :=
  ∀ (F : Hp) (σ : L2.St) (S H : Hp) (Q : List V → Hp → Prop), EnvD X.K S δ σ → World X.K T S w F H → ExD X.K T W χ σ S F → KA X.K T κ S F Q → wpA X es σ H Q
def PGD (tg : Expr) (d : D) (δ : Dn) (w : Wp) (κ : Dn → Wp → Prop) : Prop :=
  ∀ (F : Hp) (v : V) (σ : L2.St) (S H : Hp) (Q : L2.St → Hp → Prop), Rep X.K S d v → EnvD X.K S δ σ → World X.K T S w F H → KS X.K T κ S F Q → wpG X tg v σ H Q
structure Fin where
  nx : Dn → Wp → Prop
  rt : D → Wp → Prop
  bk : Dn → Wp → Prop := fun _ _ => False
  ct : Dn → Wp → Prop := fun _ _ => False
structure KE (C : Fin) (S F : Hp) (E : Ends) : Prop where
  nx : KS X.K T C.nx S F E.nx
  rt : KD X.K T C.rt S F E.rt
  bk : KS X.K T C.bk S F E.bk
  ct : KS X.K T C.ct S F E.ct
def ExS (S F : Hp) : Prop := ∀ σ, ExD X.K T W χ σ S F
def PSD (st : Stmt) (δ : Dn) (w : Wp) (C : Fin) : Prop :=
  ∀ (F : Hp) (σ : L2.St) (S H : Hp) (E : Ends), EnvD X.K S δ σ → World X.K T S w F H → ExS X T W χ S F → KE X T C S F E → wpS X st E σ H
def PSsD (sts : List Stmt) (δ : Dn) (w : Wp) (C : Fin) : Prop :=
  ∀ (F : Hp) (σ : L2.St) (S H : Hp) (E : Ends), EnvD X.K S δ σ → World X.K T S w F H → ExS X T W χ S F → KE X T C S F E → wpSs X sts E σ H
end
section
variable {X : Cx} {T : List (Addr × Str)} {W : WX} {χ : XD} {δ : Dn} {w : Wp} {pos : Pos}
theorem KE.mono {C : Fin} {S S' F : Hp} {E : Ends} (e : Same S S') (h : KE X T C S F E) : KE X T C S' F E := ⟨h.nx.mono e, h.rt.mono e, h.bk.mono e, h.ct.mono e⟩
theorem ExS.mono {S S' F : Hp} (e : Same S S') (h : ExS X T W χ S F) : ExS X T W χ S' F := fun σ => (h σ).mono e
theorem PD.imp {e : Expr} {κ κ' : D → Wp → Prop} (h : PD X T W χ e δ w κ) (i : ∀ d w', κ d w' → κ' d w') : PD X T W χ e δ w κ' :=
  fun F σ S H Q hE hW hX hK => h F σ S H Q hE hW hX fun d w' v S' H' x => hK d w' v S' H' (i d w' x)
theorem PSsD.imp {sts : List Stmt} {C C' : Fin} (h : PSsD X T W χ sts δ w C) (hn : ∀ δ' w', C.nx δ' w' → C'.nx δ' w') (hr : ∀ d w', C.rt d w' → C'.rt d w') (hb : ∀ δ' w', C.bk δ' w' → C'.bk δ' w') (hc : ∀ δ' w', C.ct δ' w' → C'.ct δ' w') : PSsD X T W χ sts δ w C' :=
  fun F σ S H E hE hW hX hK => h F σ S H E hE hW hX ⟨fun δ' w' σ' S' H' x => hK.nx δ' w' σ' S' H' (hn _ _ x), fun d w' v S' H' x => hK.rt d w' v S' H' (hr _ _ x), fun δ' w' σ' S' H' x => hK.bk δ' w' σ' S' H' (hb _ _ x), fun δ' w' σ' S' H' x => hK.ct δ' w' σ' S' H' (hc _ _ x)⟩
/-! ### names and constants -/
theorem pd_var {x : Str} {i : Nat} {d : D} {κ : D → Wp → Prop} (hN : X.N[i]? = some x) (hd : δ[i]? = some (some d)) (k : κ d w)
    (hv : Vis X.env.scope x := by first | exact Or.inl rfl | exact Or.inr (Or.inl rfl) | exact Or.inr (Or.inr rfl)) (h1 : (x == ("__debug__" : Str)) = false := by decide) (h2 : (x == ("__classdict__" : Str)) = false := by decide) :
    PD X T W χ (.Name x pos) δ w κ := fun F σ S H Q hE hW hX hK => by
  obtain ⟨v, e1, r⟩ := hE.at_ i d hd
  exact wp_pe (pe_var hN hv h1 h2) ⟨v, e1, hK d w v S H k (Same.refl _) hW r⟩
theorem pd_int {i : Int} {j : Nat} {κ : D → Wp → Prop} (k : κ (I i) w) : PD X T W χ (.Constant (.int i) j pos) δ w κ := fun F σ S H Q hE hW hX hK => wp_pe pe_int (hK _ w _ S H k (Same.refl _) hW rfl)
theorem pd_bl {b : Bool} {j : Nat} {κ : D → Wp → Prop} (k : κ (B b) w) : PD X T W χ (.Constant (.bool b) j pos) δ w κ := fun F σ S H Q hE hW hX hK => wp_pe pe_bl (hK _ w _ S H k (Same.refl _) hW rfl)
theorem pd_non {j : Nat} {κ : D → Wp → Prop} (k : κ N w) : PD X T W χ (.Constant .none j pos) δ w κ := fun F σ S H Q hE hW hX hK => wp_pe pe_non (hK _ w _ S H k (Same.refl _) hW rfl)
theorem pd_str {x : Str} {j : Nat} {κ : D → Wp → Prop} (k : κ (DL.T x) w) : PD X T W χ (.Constant (.str x) j pos) δ w κ := fun F σ S H Q hE hW hX hK => wp_pe pe_str (hK _ w _ S H k (Same.refl _) hW rfl)
/-! ### argument lists -/
theorem pad_nil {κ : List D → Wp → Prop} (k : κ [] w) : PAD X T W χ [] δ w κ := fun F σ S H Q hE hW hX hK => wp_pa pa_nil (hK _ w _ S H k (Same.refl _) hW rfl)
theorem pad_cons {e : Expr} {es : List Expr} {κ : List D → Wp → Prop} (h : PD X T W χ e δ w fun d w1 => PAD X T W χ es δ w1 fun ds w2 => κ (d :: ds) w2)
    (hs : starEach (e :: es) X.env = (false, eval e X.env) :: starEach es X.env := by rfl) : PAD X T W χ (e :: es) δ w κ := fun F σ S H Q hE hW hX hK => by
  refine wp_pa (pa_cons (pe_wp e) (pa_wp es) hs) ?_
  refine h F σ S H _ hE hW hX fun d w1 v S1 H1 k s1 W1 r => ?_
  refine k F σ S1 H1 _ (hE.mono s1) W1 (hX.mono s1) fun ds w2 vs S2 H2 k2 s2 W2 r2 => ?_
  exact hK _ w2 _ S2 H2 k2 (s1.trans s2) W2 ⟨v, vs, rfl, r.mono s2, r2⟩
/-! ### operators, by values -/
/-- the value rule r, in data -/
def VR1 (K : PySem.W.Frag) (T : List (Addr × Str)) (r : V → Hp → VK → Prop) (d : D) (w : Wp) (κ : D → Wp → Prop) : Prop :=
  ∀ (F S H : Hp) (x : V) (Q : VK), World K T S w F H → Rep K S d x → KD K T κ S F Q → r x H Q
def VR2 (K : PySem.W.Frag) (T : List (Addr × Str)) (r : R2) (d e : D) (w : Wp) (κ : D → Wp → Prop) : Prop :=
  ∀ (F S H : Hp) (x y : V) (Q : VK), World K T S w F H → Rep K S d x → Rep K S e y → KD K T κ S F Q → r x y H Q
def VRA (K : PySem.W.Frag) (T : List (Addr × Str)) (r : List V → Hp → VK → Prop) (ds : List D) (w : Wp) (κ : D → Wp → Prop) : Prop :=
  ∀ (F S H : Hp) (xs : List V) (Q : VK), World K T S w F H → RepL K S ds xs → KD K T κ S F Q → r xs H Q
def VRM (K : PySem.W.Frag) (T : List (Addr × Str)) (r : V → List V → Hp → VK → Prop) (d : D) (ds : List D) (w : Wp) (κ : D → Wp → Prop) : Prop :=
  ∀ (F S H : Hp) (x : V) (xs : List V) (Q : VK), World K T S w F H → Rep K S d x → RepL K S ds xs → KD K T κ S F Q → r x xs H Q
theorem two {a b : Expr} {r : R2} {κ : D → Wp → Prop} (h : PD X T W χ a δ w fun d w1 => PD X T W χ b δ w1 fun e w2 => VR2 X.K T r d e w2 κ) {F : Hp} {σ : L2.St} {S H : Hp} {Q : VK} (hE : EnvD X.K S δ σ) (hW : World X.K T S w F H) (hX : ExD X.K T W χ σ S F) (hK : KD X.K T κ S F Q) :
    tOp r (wpE X a) (wpE X b) σ H Q := by
  refine h F σ S H _ hE hW hX fun d w1 v S1 H1 k s1 W1 r1 => ?_
  refine k F σ S1 H1 _ (hE.mono s1) W1 (hX.mono s1) fun e w2 u S2 H2 k2 s2 W2 r2 => ?_
  exact k2 F S2 H2 v u _ W2 (r1.mono s2) r2 (hK.mono (s1.trans s2))
theorem pd_op {a b : Expr} {op : Operator} {r : R2} {κ : D → Wp → Prop} (ho : OpR X (binaryOp op) r) (h : PD X T W χ a δ w fun d w1 => PD X T W χ b δ w1 fun e w2 => VR2 X.K T r d e w2 κ) : PD X T W χ (.BinOp a op b pos) δ w κ :=
  fun F σ S H Q hE hW hX hK => wp_pe (pe_op ho (pe_wp a) (pe_wp b)) (two h hE hW hX hK)
theorem pd_cmp {a b : Expr} {op : CmpOp} {r : R2} {κ : D → Wp → Prop} (ho : OpR X (compareOp op) r) (h : PD X T W χ a δ w fun d w1 => PD X T W χ b δ w1 fun e w2 => VR2 X.K T r d e w2 κ)
    (hm : behindInMarks op b = false := by first | exact nomark _ | rfl) : PD X T W χ (.Compare a [op] [b] pos) δ w κ :=
  fun F σ S H Q hE hW hX hK => wp_pe (pe_cmpR ho (pe_wp a) (pe_wp b) hm) (two h hE hW hX hK)
theorem pd_un {a : Expr} {op : UnaryOp} {r : V → Hp → VK → Prop} {κ : D → Wp → Prop} (ho : UnR X (unaryOp op) r) (h : PD X T W χ a δ w fun d w1 => VR1 X.K T r d w1 κ) : PD X T W χ (.UnaryOp op a pos) δ w κ :=
  fun F σ S H Q hE hW hX hK => wp_pe (pe_un ho (pe_wp a)) (by
    refine h F σ S H _ hE hW hX fun d w1 v S1 H1 k s1 W1 r1 => ?_
    exact k F S1 H1 v _ W1 r1 (hK.mono s1))
theorem pd_ix {a b : Expr} {r : R2} {κ : D → Wp → Prop} (ho : IxR X r) (h : PD X T W χ a δ w fun d w1 => PD X T W χ b δ w1 fun e w2 => VR2 X.K T r d e w2 κ) (hs : PlainIx b := by exact fun _ _ => rfl) : PD X T W χ (.Subscript a b pos) δ w κ :=
  fun F σ S H Q hE hW hX hK => wp_pe (pe_ix ho (pe_wp a) (pe_wp b) hs) (two h hE hW hX hK)
/-! ### tests -/
/-- an expression whose value is a bool, as a test -/
theorem ptd_val {e : Expr} {κ : Bool → Wp → Prop} (h : PD X T W χ e δ w fun d w' => ∃ b, d = B b ∧ κ b w')
    (he : ∀ whole, isTrue e X.env whole = (do let v ← whole; standAt e.pos; holding [v] (truthy v)) := by intro _; rfl) : PTD X T W χ e δ w κ :=
  fun F σ S H Q hE hW hX hK => wp_pt (pt_val (pe_wp e) he) (by
    refine h F σ S H _ hE hW hX fun d w' v S' H' k s1 W1 r => ?_
    obtain ⟨b, rfl, k⟩ := k
    have rv : v = .bl b := r
    exact ⟨b, rv, hK b w' S' H' k s1 W1⟩)
/-- a comparison, as a test -/
theorem ptd_cmp {a b : Expr} {op : CmpOp} {r : R2} {κ : Bool → Wp → Prop} (ho : OpR X (compareOp op) r) (h : PD X T W χ a δ w fun d w1 => PD X T W χ b δ w1 fun e w2 => VR2 X.K T r d e w2 fun d w' => ∃ b, d = B b ∧ κ b w')
    (hm : behindInMarks op b = false := by first | exact nomark _ | rfl) : PTD X T W χ (.Compare a [op] [b] pos) δ w κ :=
  fun F σ S H Q hE hW hX hK => wp_pt (pt_cmpR ho (pe_wp a) (pe_wp b) hm) (two (κ := fun d w' => ∃ b, d = B b ∧ κ b w') h hE hW hX fun d w' v S' H' k s1 W1 r => by
    obtain ⟨b, rfl, k⟩ := k
    have rv : v = .bl b := r
    exact ⟨b, rv, hK b w' S' H' k s1 W1⟩)
theorem ptd_not {e : Expr} {κ : Bool → Wp → Prop} (h : PTD X T W χ e δ w fun b w' => κ (!b) w') : PTD X T W χ (.UnaryOp .Not e pos) δ w κ :=
  fun F σ S H Q hE hW hX hK => wp_pt (pt_not (pt_wp e)) (by
    refine h F σ S H _ hE hW hX fun b w' S' H' k s1 W1 => ?_
    exact hK _ w' S' H' k s1 W1)
theorem pwd_pt {e : Expr} {κ : Bool → Wp → Prop} (h : PWD X T W χ e δ w κ) : PTD X T W χ e δ w κ := fun F σ S H Q hE hW hX hK pins s I => h F σ S H Q hE hW hX hK _ pins s I
theorem pwd_and1 {a : Expr} {κ : Bool → Wp → Prop} (h : PTD X T W χ a δ w κ) : PWD X T W χ (.BoolOp .And [a] pos) δ w κ := fun F σ S H Q hE hW hX hK whole pins s I =>
  (pw_and1 (pt_wp a)).run whole pins s σ H Q I (h F σ S H Q hE hW hX hK)
theorem pwd_or1 {a : Expr} {κ : Bool → Wp → Prop} (h : PTD X T W χ a δ w κ) : PWD X T W χ (.BoolOp .Or [a] pos) δ w κ := fun F σ S H Q hE hW hX hK whole pins s I =>
  (pw_or1 (pt_wp a)).run whole pins s σ H Q I (h F σ S H Q hE hW hX hK)
def wpW (X : Cx) (e : Expr) : TT := fun σ H Q => ∀ whole pins s, Inv X pins σ H s → wpAny (model X.prog X.w) X.A (isTrue e X.env whole) (TP X pins σ Q) X.xe s
theorem pw_wp (e : Expr) : PW X e (wpW X e) := ⟨fun whole pins s _ _ _ I h => h whole pins s I⟩
theorem pwd_and {a b : Expr} {rest : List Expr} {κ : Bool → Wp → Prop} (h : PTD X T W χ a δ w fun c w1 => if c = true then PWD X T W χ (.BoolOp .And (b :: rest) pos) δ w1 κ else κ false w1) : PWD X T W χ (.BoolOp .And (a :: b :: rest) pos) δ w κ :=
  fun F σ S H Q hE hW hX hK whole pins s I => (pw_and (pt_wp a) (pw_wp _)).run whole pins s σ H Q I (by
    refine h F σ S H _ hE hW hX fun c w1 S1 H1 k s1 W1 => ?_
    cases c with
    | true =>
      rw [if_pos rfl] at k ⊢
      exact fun whole pins s I => k F σ S1 H1 Q (hE.mono s1) W1 (hX.mono s1) (hK.mono s1) whole pins s I
    | false =>
      rw [if_neg Bool.false_ne_true] at k ⊢
      exact hK _ w1 S1 H1 k s1 W1)
theorem pwd_or {a b : Expr} {rest : List Expr} {κ : Bool → Wp → Prop} (h : PTD X T W χ a δ w fun c w1 => if c = true then κ true w1 else PWD X T W χ (.BoolOp .Or (b :: rest) pos) δ w1 κ) : PWD X T W χ (.BoolOp .Or (a :: b :: rest) pos) δ w κ :=
  fun F σ S H Q hE hW hX hK whole pins s I => (pw_or (pt_wp a) (pw_wp _)).run whole pins s σ H Q I (by
    refine h F σ S H _ hE hW hX fun c w1 S1 H1 k s1 W1 => ?_
    cases c with
    | true =>
      rw [if_pos rfl] at k ⊢
      exact hK _ w1 S1 H1 k s1 W1
    | false =>
      rw [if_neg Bool.false_ne_true] at k ⊢
      exact fun whole pins s I => k F σ S1 H1 Q (hE.mono s1) W1 (hX.mono s1) (hK.mono s1) whole pins s I)
/-- and, or as values -/
theorem pd_and {a b : Expr} {rest : List Expr} {κ : D → Wp → Prop} (h : PD X T W χ a δ w fun d w1 => ∃ c, d = B c ∧ if c = true then PD X T W χ (.BoolOp .And (b :: rest) pos) δ w1 κ else κ (B false) w1) : PD X T W χ (.BoolOp .And (a :: b :: rest) pos) δ w κ :=
  fun F σ S H Q hE hW hX hK => wp_pe (pe_and (pe_wp a) (pe_wp _)) (by
    refine h F σ S H _ hE hW hX fun d w1 v S1 H1 k s1 W1 r => ?_
    obtain ⟨c, rfl, k⟩ := k
    have rv : v = .bl c := r
    refine ⟨c, rv, ?_⟩
    cases c with
    | true =>
      rw [if_pos rfl] at k ⊢
      exact k F σ S1 H1 Q (hE.mono s1) W1 (hX.mono s1) (hK.mono s1)
    | false =>
      rw [if_neg Bool.false_ne_true] at k ⊢
      exact hK _ w1 _ S1 H1 k s1 W1 rfl)
theorem pd_or {a b : Expr} {rest : List Expr} {κ : D → Wp → Prop} (h : PD X T W χ a δ w fun d w1 => ∃ c, d = B c ∧ if c = true then κ (B true) w1 else PD X T W χ (.BoolOp .Or (b :: rest) pos) δ w1 κ) : PD X T W χ (.BoolOp .Or (a :: b :: rest) pos) δ w κ :=
  fun F σ S H Q hE hW hX hK => wp_pe (pe_or (pe_wp a) (pe_wp _)) (by
    refine h F σ S H _ hE hW hX fun d w1 v S1 H1 k s1 W1 r => ?_
    obtain ⟨c, rfl, k⟩ := k
    have rv : v = .bl c := r
    refine ⟨c, rv, ?_⟩
    cases c with
    | true =>
      rw [if_pos rfl] at k ⊢
      exact hK _ w1 _ S1 H1 k s1 W1 rfl
    | false =>
      rw [if_neg Bool.false_ne_true] at k ⊢
      exact k F σ S1 H1 Q (hE.mono s1) W1 (hX.mono s1) (hK.mono s1))
theorem pd_one {op : BoolOp} {a : Expr} {κ : D → Wp → Prop} (h : PD X T W χ a δ w κ) : PD X T W χ (.BoolOp op [a] pos) δ w κ := fun F σ S H Q hE hW hX hK => wp_pe (pe_one (pe_wp a)) (h F σ S H Q hE hW hX hK)
theorem pd_not {a : Expr} {κ : D → Wp → Prop} (h : PD X T W χ a δ w fun d w1 => ∃ c, d = B c ∧ κ (B (!c)) w1) : PD X T W χ (.UnaryOp .Not a pos) δ w κ := fun F σ S H Q hE hW hX hK => wp_pe (pe_not (pe_wp a)) (by
  refine h F σ S H _ hE hW hX fun d w1 v S1 H1 k s1 W1 r => ?_
  obtain ⟨c, rfl, k⟩ := k
  have rv : v = .bl c := r
  exact ⟨c, rv, hK _ w1 _ S1 H1 k s1 W1 rfl⟩)
theorem pd_if {c a b : Expr} {κ : D → Wp → Prop} (h : PTD X T W χ c δ w fun k w1 => if k = true then PD X T W χ a δ w1 κ else PD X T W χ b δ w1 κ) : PD X T W χ (.IfExp c a b pos) δ w κ := fun F σ S H Q hE hW hX hK => wp_pe (pe_ifExp (pt_wp c) (pe_wp a) (pe_wp b)) (by
  refine h F σ S H _ hE hW hX fun k w1 S1 H1 q s1 W1 => ?_
  cases k with
  | true =>
    rw [if_pos rfl] at q ⊢
    exact q F σ S1 H1 Q (hE.mono s1) W1 (hX.mono s1) (hK.mono s1)
  | false =>
    rw [if_neg Bool.false_ne_true] at q ⊢
    exact q F σ S1 H1 Q (hE.mono s1) W1 (hX.mono s1) (hK.mono s1))
/-! ### displays -/
theorem pd_lst {es : List Expr} {κ : D → Wp → Prop} (h : PAD X T W χ es δ w fun ds w1 => ds.length ≤ sizeLine ∧ κ (.lst ds) w1) : PD X T W χ (.List es pos) δ w κ := fun F σ S H Q hE hW hX hK => wp_pe (pe_lst (pa_wp es)) (by
  refine h F σ S H _ hE hW hX fun ds w1 vs S1 H1 k s1 W1 r => ?_
  refine ⟨by rw [r.length]; exact k.1, fun p hp => ?_⟩
  have s2 : Same S1 (upd S1 p (.lst vs)) := same_upd (W1.free hp).1
  exact hK _ w1 _ _ _ k.2 (s1.trans s2) (W1.laid hp fun _ z => by cases z) ⟨p, vs, rfl, upd_same, r.mono s2⟩)
/-- an owned list -/
theorem pd_lstO {es : List Expr} {κ : D → Wp → Prop} (h : PAD X T W χ es δ w fun ds w1 => ds.length ≤ sizeLine ∧ ∀ a, w1 a = none → κ (R a) (wu w1 a (.lst ds))) : PD X T W χ (.List es pos) δ w κ := fun F σ S H Q hE hW hX hK => wp_pe (pe_lst (pa_wp es)) (by
  refine h F σ S H _ hE hW hX fun ds w1 vs S1 H1 k s1 W1 r => ?_
  refine ⟨by rw [r.length]; exact k.1, fun p hp => ?_⟩
  exact hK _ _ _ _ _ (k.2 p (W1.free hp).2.1) s1 (W1.take hp ⟨vs, rfl, r⟩) rfl)
theorem pd_tup {es : List Expr} {x1 : Nat} {κ : D → Wp → Prop} (h : PAD X T W χ es δ w fun ds w1 => ds.length ≤ sizeLine ∧ κ (.tup ds) w1) : PD X T W χ (.Tuple es x1 pos) δ w κ := fun F σ S H Q hE hW hX hK => wp_pe (pe_tup (pa_wp es)) (by
  refine h F σ S H _ hE hW hX fun ds w1 vs S1 H1 k s1 W1 r => ?_
  refine ⟨by rw [r.length]; exact k.1, fun p hp => ?_⟩
  have s2 : Same S1 (upd S1 p (.tup vs)) := same_upd (W1.free hp).1
  exact hK _ w1 _ _ _ k.2 (s1.trans s2) (W1.laid hp fun _ z => by cases z) ⟨p, vs, rfl, upd_same, r.mono s2⟩)
/-! ### blocks and small statements -/
theorem pssd_nil {C : Fin} (k : C.nx δ w) : PSsD X T W χ [] δ w C := fun F σ S H E hE hW hX hK => wp_pss pss_nil (hK.nx δ w σ S H k (Same.refl _) hE hW)
theorem pssd_cons {st : Stmt} {rest : List Stmt} {C : Fin} (h : PSD X T W χ st δ w { C with nx := fun δ' w' => PSsD X T W χ rest δ' w' C }) : PSsD X T W χ (st :: rest) δ w C := fun F σ S H E hE hW hX hK => wp_pss (pss_cons (ps_wp st) (pss_wp rest)) (by
  refine h F σ S H _ hE hW hX ⟨fun δ' w' σ' S' H' k s1 hE1 W1 => ?_, hK.rt, hK.bk, hK.ct⟩
  exact k F σ' S' H' E hE1 W1 (hX.mono s1) (hK.mono s1))
theorem pssd_one {st : Stmt} {C : Fin} (h : PSD X T W χ st δ w C) : PSsD X T W χ [st] δ w C := fun F σ S H E hE hW hX hK => wp_pss (pss_one (ps_wp st)) (h F σ S H E hE hW hX hK)
theorem psd_pass {C : Fin} (k : C.nx δ w) : PSD X T W χ (.Pass pos) δ w C := fun F σ S H E hE hW hX hK => wp_ps ps_pass (hK.nx δ w σ S H k (Same.refl _) hE hW)
theorem psd_break {C : Fin} (k : C.bk δ w) : PSD X T W χ (.Break pos) δ w C := fun F σ S H E hE hW hX hK => wp_ps ps_break (hK.bk δ w σ S H k (Same.refl _) hE hW)
theorem psd_cont {C : Fin} (k : C.ct δ w) : PSD X T W χ (.Continue pos) δ w C := fun F σ S H E hE hW hX hK => wp_ps ps_continue (hK.ct δ w σ S H k (Same.refl _) hE hW)
theorem psd_ret {e : Expr} {C : Fin} (h : PD X T W χ e δ w C.rt) : PSD X T W χ (.Return (some e) pos) δ w C := fun F σ S H E hE hW hX hK => wp_ps (ps_ret (pe_wp e)) (h F σ S H _ hE hW (hX σ) hK.rt)
theorem psd_retN {C : Fin} (k : C.rt N w) : PSD X T W χ (.Return none pos) δ w C := fun F σ S H E hE hW hX hK => wp_ps ps_retN (hK.rt N w _ S H k (Same.refl _) hW rfl)
theorem psd_expr {e : Expr} {C : Fin} (h : PD X T W χ e δ w fun _ w' => C.nx δ w') (hs : swapsWith e none pos.line X.env = pure false := by rfl) : PSD X T W χ (.Expr e pos) δ w C := fun F σ S H E hE hW hX hK => wp_ps (ps_expr (pe_wp e) hs) (by
  refine h F σ S H _ hE hW (hX σ) fun d w' v S' H' k s1 W1 r => ?_
  exact hK.nx δ w' σ S' H' k s1 (hE.mono s1) W1)
theorem psd_if {c : Expr} {a b : List Stmt} {C : Fin} (h : PTD X T W χ c δ w fun k w1 => if k = true then PSsD X T W χ a δ w1 C else PSsD X T W χ b δ w1 C) : PSD X T W χ (.If c a b pos) δ w C := fun F σ S H E hE hW hX hK => wp_ps (ps_if (pt_wp c) (pss_wp a) (pss_wp b)) (by
  refine h F σ S H _ hE hW (hX σ) fun k w1 S1 H1 q s1 W1 => ?_
  cases k with
  | true =>
    rw [if_pos rfl] at q ⊢
    exact q F σ S1 H1 E (hE.mono s1) W1 (hX.mono s1) (hK.mono s1)
  | false =>
    rw [if_neg Bool.false_ne_true] at q ⊢
    exact q F σ S1 H1 E (hE.mono s1) W1 (hX.mono s1) (hK.mono s1))
/-! ### targets -/
theorem pgd_name {i : Nat} {x : Str} {d : D} {κ : Dn → Wp → Prop} (hN : X.N.Nodup) (hi : X.N[i]? = some x) (k : κ (δ.set i (some d)) w) (hx : Loc X.env.scope x := by first | exact .inl rfl | exact .inr rfl)
    (hf : X.fn x = true ∨ X.env.scope.names.lookup x = some .local := by first | exact .inl rfl | exact .inr rfl) : PGD X T (.Name x pos) d δ w κ := fun F v σ S H Q r hE hW hK => wp_pg (pg_name hN hi hx hf) (hK _ w _ S H k (Same.refl _) (hE.set i r) hW)
theorem psd_set {i : Nat} {x : Str} {e : Expr} {pos' : Pos} {C : Fin} (hN : X.N.Nodup) (hi : X.N[i]? = some x) (h : PD X T W χ e δ w fun d w' => C.nx (δ.set i (some d)) w') (hx : Loc X.env.scope x := by first | exact .inl rfl | exact .inr rfl)
    (hs : swapsWith e (some (.Name x pos')) pos.line X.env = pure false := by rfl) (hf : X.fn x = true ∨ X.env.scope.names.lookup x = some .local := by first | exact .inl rfl | exact .inr rfl) : PSD X T W χ (.Assign [.Name x pos'] e pos) δ w C :=
  fun F σ S H E hE hW hX hK => wp_ps (ps_set hN hi hx (pe_wp e) hs hf) (by
    refine h F σ S H _ hE hW (hX σ) fun d w' v S' H' k s1 W1 r => ?_
    exact hK.nx _ w' _ S' H' k s1 ((hE.mono s1).set i r) W1)
/-- o[i] = e, an owned list -/
def VRS (K : PySem.W.Frag) (T : List (Addr × Str)) (t : TSet) (o i d : D) (w : Wp) (κ : Wp → Prop) : Prop :=
  ∀ (F S H : Hp) (x y v : V) (Q : Hp → Prop), World K T S w F H → Rep K S o x → Rep K S i y → Rep K S d v → (∀ w' S' H', κ w' → Same S S' → World K T S' w' F H' → Q H') → t x y v H Q
theorem psd_sub {o i e : Expr} {t : TSet} {tp : Pos} {C : Fin} (hs : PSet X t) (h : PD X T W χ e δ w fun d w1 => PD X T W χ o δ w1 fun od w2 => PD X T W χ i δ w2 fun id w3 => VRS X.K T t od id d w3 fun w' => C.nx δ w')
    (h1 : swapsWithSole [.Subscript o i tp] e pos.line X.env = pure false := by rfl) (h2 : swappedStores [.Subscript o i tp] e X.env = pure none := by rfl) (h3 : (assignEach [.Subscript o i tp] X.env).map (·.2) = [assign (.Subscript o i tp) X.env] := by rfl)
    (ha : ∀ v, assign (.Subscript o i tp) X.env v = (do
      let ov ← holding [v] (eval o X.env)
      let iv ← holding [v, ov] (eval i X.env)
      standAt tp
      holding [v, ov, iv] (setItem ov iv v)
      release [v, ov, iv] []) := by intro _; rfl) : PSD X T W χ (.Assign [.Subscript o i tp] e pos) δ w C :=
  fun F σ S H E hE hW hX hK => wp_ps (ps_asg (pe_wp e) (pg_sub (pe_wp o) (pe_wp i) hs ha) h1 h2 h3) (by
    refine h F σ S H _ hE hW (hX σ) fun d w1 v S1 H1 k s1 W1 r => ?_
    refine k F σ S1 H1 _ (hE.mono s1) W1 ((hX σ).mono s1) fun od w2 x S2 H2 k2 s2 W2 r2 => ?_
    refine k2 F σ S2 H2 _ (hE.mono (s1.trans s2)) W2 ((hX σ).mono (s1.trans s2)) fun id w3 y S3 H3 k3 s3 W3 r3 => ?_
    refine k3 F S3 H3 x y v _ W3 (r2.mono s3) r3 (r.mono (s2.trans s3)) fun w' S' H' k' s' W' => ?_
    have ss := s1.trans (s2.trans (s3.trans s'))
    exact hK.nx δ w' σ S' H' k' ss (hE.mono ss) W')
/-! ### ghost steps -/
/-- an owned list stands from now on -/
theorem pssd_freeze {sts : List Stmt} {C : Fin} {a : Addr} {ds : List D} (i : Nat) (hi : δ[i]? = some (some (R a))) (hw : w a = some (.lst ds)) (h : PSsD X T W χ sts (δ.set i (some (.lst ds))) (wd w a) C) : PSsD X T W χ sts δ w C :=
  fun F σ S H E hE hW hX hK => by
    obtain ⟨o, e1, r, W1⟩ := hW.freeze hw
    obtain ⟨xs, rfl, r⟩ := r
    have s1 : Same S (upd S a (.lst xs)) := same_upd e1
    refine h F σ _ H E ((hE.mono s1).tell i hi fun v q => ?_) W1 (hX.mono s1) (hK.mono s1)
    have q' : v = .ref a := q
    exact ⟨a, xs, q', upd_same, r.mono s1⟩
end
end DL

set_option Elab.async false
set_option linter.all false
set_option maxRecDepth 100000
set_option maxHeartbeats 1000000
/-! Value rules in data; calls; loops; comprehensions; defs. -/
namespace DL
open PySem PySem.Spec PyProof.Rows L2 LamX
section
variable {K : PySem.W.Frag} {T : List (Addr × Str)} {w : Wp} {κ : D → Wp → Prop}
/-! ### numbers -/
theorem vr_I {f : Int → Int → V} {i j : Int} (k : κ (.val (f i j)) w) : VR2 K T (rI0 f) (I i) (I j) w κ := fun F S H x y Q hW r1 r2 hK => ⟨i, j, r1, r2, hK _ w _ S H k (Same.refl _) hW rfl⟩
theorem vr_IC {C : Int → Int → Prop} {f : Int → Int → V} {i j : Int} (c : C i j) (k : κ (.val (f i j)) w) : VR2 K T (rI C f) (I i) (I j) w κ := fun F S H x y Q hW r1 r2 hK => ⟨i, j, r1, r2, c, hK _ w _ S H k (Same.refl _) hW rfl⟩
theorem vr_U {f : Int → V} {i : Int} (k : κ (.val (f i)) w) : VR1 K T (rU f) (I i) w κ := fun F S H x Q hW r1 hK => ⟨i, r1, hK _ w _ S H k (Same.refl _) hW rfl⟩
theorem vr_eq {v u : V} (s : scal v u = true) (k : κ (B (decide (v = u))) w) : VR2 K T rEq (.val v) (.val u) w κ := fun F S H x y Q hW r1 r2 hK => by
  have e1 : x = v := r1
  have e2 : y = u := r2
  subst e1 e2
  exact ⟨s, hK _ w _ S H k (Same.refl _) hW rfl⟩
theorem vr_ne {v u : V} (s : scal v u = true) (k : κ (B (!decide (v = u))) w) : VR2 K T rNe (.val v) (.val u) w κ := fun F S H x y Q hW r1 r2 hK => by
  have e1 : x = v := r1
  have e2 : y = u := r2
  subst e1 e2
  exact ⟨s, hK _ w _ S H k (Same.refl _) hW rfl⟩
/-! ### is -/
def isV (d : D) (v : V) : Bool := match d with
  | .val u => decide (u = v)
  | _ => false
theorem Rep.isn {S : Hp} {d : D} {x : V} (r : Rep K S d x) (v : V) (hv : ∀ a, v ≠ .ref a) : decide (x = v) = isV d v := by
  cases d with
  | val u =>
    have e : x = u := r
    rw [e]
    rfl
  | lst ds =>
    obtain ⟨a, xs, rfl, _⟩ := r
    exact decide_eq_false fun z => hv a z.symm
  | tup ds =>
    obtain ⟨a, xs, rfl, _⟩ := r
    exact decide_eq_false fun z => hv a z.symm
  | rd ds =>
    obtain ⟨a, xs, rfl, _⟩ := r
    exact decide_eq_false fun z => hv a z.symm
  | obj C ns ds =>
    obtain ⟨a, dx, xs, rfl, _⟩ := r
    exact decide_eq_false fun z => hv a z.symm
  | exc a dd ns ds =>
    obtain ⟨ys, rfl, _⟩ := r
    exact decide_eq_false fun z => hv a z.symm
  | dic kvs =>
    obtain ⟨a, rfl, _⟩ := r
    exact decide_eq_false fun z => hv a z.symm
  | dct kvs =>
    obtain ⟨a, rfl, _⟩ := r
    exact decide_eq_false fun z => hv a z.symm
theorem vr_isN {d : D} (k : κ (B (isV d .non)) w) : VR2 K T (fun x y H Q => y = .non ∧ Q (.bl (decide (x = .non))) H) d N w κ := fun F S H x y Q hW r1 r2 hK => ⟨r2, by
  rw [r1.isn .non (fun a z => by cases z)]
  exact hK _ w _ S H k (Same.refl _) hW rfl⟩
theorem vr_notN {d : D} (k : κ (B (!isV d .non)) w) : VR2 K T (fun x y H Q => y = .non ∧ Q (.bl (!decide (x = .non))) H) d N w κ := fun F S H x y Q hW r1 r2 hK => ⟨r2, by
  rw [r1.isn .non (fun a z => by cases z)]
  exact hK _ w _ S H k (Same.refl _) hW rfl⟩
def rIsBl : R2 := fun x y H Q => ∃ b : Bool, y = .bl b ∧ Q (.bl (decide (x = .bl b))) H
theorem op_isBl {X : Cx} : OpR X (compareOp .Is) rIsBl := by
  intro pins s σ H x y v u Q I rx ry h
  obtain ⟨b, rfl, q⟩ := h
  cases (show u = Value.bool b from ry)
  have hp : ∀ v : Value, (∀ z, v ≠ .builtin z) → PySem.plainIs v (.bool b) = true := fun v hv => by
    cases v <;> first | rfl | exact absurd rfl (hv _)
  have go : ∀ c : Bool, (v == Value.bool b) = c → decide (x = V.bl b) = c := fun c e => by
    rw [← e]
    by_cases z : x = .bl b
    · subst z
      cases (show v = Value.bool b from rx)
      simp
    · have : v ≠ Value.bool b := fun z2 => by
        subst z2
        cases x <;> first | exact Value.noConfusion (show Value.bool b = _ from rx) | (obtain ⟨t, q⟩ := rx; cases q) | skip
        rename_i c
        have e2 : Value.bool b = Value.bool c := rx
        cases e2
        exact z rfl
      simp [z, this]
  refine PySem.wpAny_is_plain (hp v fun z e => ?_) ?_
  · subst e
    cases x <;> first | exact Value.noConfusion (show Value.builtin z = _ from rx) | (obtain ⟨t, q⟩ := rx; cases q)
  · refine ⟨.bl (decide (x = V.bl b)), H, I, ?_, q⟩
    show Value.bool _ = Value.bool _
    rw [go _ rfl]
theorem vr_isBl {d : D} {b : Bool} (k : κ (B (isV d (.bl b))) w) : VR2 K T rIsBl d (B b) w κ := fun F S H x y Q hW r1 r2 hK => ⟨b, r2, by
  rw [r1.isn (.bl b) (fun a z => by cases z)]
  exact hK _ w _ S H k (Same.refl _) hW rfl⟩
/-! ### lists -/
theorem ix_at {α : Type} {xs : List α} {i : Nat} {v : α} (h : xs[i]? = some v) : atI xs (i : Int) = some v := atI_nat h
theorem vr_ixL {ds : List D} {i : Nat} {d : D} (h : ds[i]? = some d) (k : κ d w) : VR2 K T (rIxL K) (.lst ds) (I (i : Int)) w κ := fun F S H x y Q hW r1 r2 hK => by
  obtain ⟨a, xs, rfl, h1, h2⟩ := r1
  obtain ⟨v, h3, h4⟩ := h2.get h
  exact ⟨a, xs, i, v, rfl, r2, SqL.of (hW.same _ _ h1), ix_at h3, hK d w v S H k (Same.refl _) hW h4⟩
theorem vr_ixT {ds : List D} {i : Nat} {d : D} (h : ds[i]? = some d) (k : κ d w) : VR2 K T (rIxT K) (.tup ds) (I (i : Int)) w κ := fun F S H x y Q hW r1 r2 hK => by
  obtain ⟨a, xs, rfl, h1, h2⟩ := r1
  obtain ⟨v, h3, h4⟩ := h2.get h
  exact ⟨a, xs, i, v, rfl, r2, SqT.of (hW.same _ _ h1), ix_at h3, hK d w v S H k (Same.refl _) hW h4⟩
/-- an item of an owned list -/
theorem vr_ixO {a : Addr} {ds : List D} {i : Nat} {d : D} (hw : w a = some (.lst ds)) (h : ds[i]? = some d) (k : κ d w) : VR2 K T (rIxL K) (R a) (I (i : Int)) w κ := fun F S H x y Q hW r1 r2 hK => by
  obtain ⟨_, _, o, h1, h2⟩ := hW.own a _ hw
  obtain ⟨xs, rfl, h2⟩ := h2
  obtain ⟨v, h3, h4⟩ := h2.get h
  exact ⟨a, xs, i, v, r1, r2, SqL.of h1, ix_at h3, hK d w v S H k (Same.refl _) hW h4⟩
/-- a store into an owned list -/
theorem vr_setO {a : Addr} {ds : List D} {i : Nat} {d : D} {κ : Wp → Prop} (hw : w a = some (.lst ds)) (h : i < ds.length) (k : κ (wu w a (.lst (ds.set i d)))) : VRS K T rSetL (R a) (I (i : Int)) d w κ := fun F S H x y v Q hW r1 r2 r3 hK => by
  obtain ⟨_, _, o, h1, h2⟩ := hW.own a _ hw
  obtain ⟨xs, rfl, h2⟩ := h2
  refine ⟨a, xs, (i : Int), i, r1, r2, h1, ?_, hK _ S _ k (Same.refl _) (hW.put hw ⟨_, rfl, h2.set i r3⟩)⟩
  rw [h2.length]
  unfold ixN
  rw [if_pos (by omega), if_pos (by omega)]
  rfl
theorem vr_cat {ds es : List D} (hz : ds.length + es.length ≤ sizeLine) (k : κ (.lst (ds ++ es)) w) : VR2 K T rCat (.lst ds) (.lst es) w κ := fun F S H x y Q hW r1 r2 hK => by
  obtain ⟨a, xs, rfl, h1, h2⟩ := r1
  obtain ⟨b, ys, rfl, h3, h4⟩ := r2
  refine ⟨a, b, xs, ys, rfl, rfl, hW.same _ _ h1, hW.same _ _ h3, by rw [h2.length, h4.length]; exact hz, fun p hp => ?_⟩
  have s1 : Same S (upd S p (.lst (xs ++ ys))) := same_upd (hW.free hp).1
  exact hK _ w _ _ _ k s1 (hW.laid hp fun _ z => by cases z) ⟨p, _, rfl, upd_same, (h2.app h4).mono s1⟩
theorem RepL.rep {S : Hp} {ds : List D} {xs : List V} (h : RepL K S ds xs) : ∀ n : Nat, RepL K S (List.replicate n ds).flatten (List.replicate n xs).flatten
  | 0 => rfl
  | n + 1 => by
    rw [List.replicate_succ, List.replicate_succ, List.flatten_cons, List.flatten_cons]
    exact h.app (RepL.rep h n)
theorem vr_rep {ds : List D} {n : Nat} (h1 : (n : Int) < 2 ^ 63) (hz : ds.length * n ≤ sizeLine) (k : κ (.lst (List.replicate n ds).flatten) w) : VR2 K T rRep (.lst ds) (I (n : Int)) w κ := fun F S H x y Q hW r1 r2 hK => by
  obtain ⟨a, xs, rfl, h3, h4⟩ := r1
  refine ⟨a, n, xs, rfl, r2, hW.same _ _ h3, by omega, h1, by rw [h4.length]; exact hz, fun p hp => ?_⟩
  have s1 : Same S (upd S p (.lst (List.replicate (n : Int).toNat xs).flatten)) := same_upd (hW.free hp).1
  exact hK _ w _ _ _ k s1 (hW.laid hp fun _ z => by cases z) ⟨p, _, rfl, upd_same, (h4.rep n).mono s1⟩
/-! ### == of data -/
mutual
def pyD : D → Option PyData
  | .val .non => some .none
  | .val (.bl b) => some (.bool b)
  | .val (.int i) => some (.int i)
  | .val (.str x) => some (.str x)
  | .val _ => none
  | .lst ds => (pyDs ds).map PyData.list
  | .tup ds => (pyDs ds).map PyData.tuple
  | .rd ds => (pyDs ds).map PyData.list
  | .obj _ _ _ => none
  | .exc _ _ _ _ => none
  | .dic _ => none
  | .dct _ => none
def pyDs : List D → Option (List PyData)
  | [] => some []
  | d :: ds => (pyD d).bind fun x => (pyDs ds).map fun xs => x :: xs
end
mutual
theorem dp_of {S H : Hp} (e : Same S H) : ∀ {d : D} {p : PyData} {x : V}, pyD d = some p → Rep K S d x → Dp K H x p
  | .val v, p, x, h, r => by
    have r' : x = v := r
    subst r'
    cases x <;> first | (cases h; constructor) | cases h
  | .lst ds, p, x, h, r => by
    obtain ⟨a, xs, rfl, h1, h2⟩ := r
    have h' : (pyDs ds).map PyData.list = some p := h
    cases q : pyDs ds with
    | none =>
      rw [q] at h'
      cases h'
    | some ps =>
      rw [q] at h'
      cases h'
      exact .lst (SqL.of (e _ _ h1)) (dp_all e q h2)
  | .tup ds, p, x, h, r => by
    obtain ⟨a, xs, rfl, h1, h2⟩ := r
    have h' : (pyDs ds).map PyData.tuple = some p := h
    cases q : pyDs ds with
    | none =>
      rw [q] at h'
      cases h'
    | some ps =>
      rw [q] at h'
      cases h'
      exact .tup (SqT.of (e _ _ h1)) (dp_all e q h2)
  | .rd ds, p, x, h, r => by
    obtain ⟨a, xs, rfl, h1, h2⟩ := r
    have h' : (pyDs ds).map PyData.list = some p := h
    cases q : pyDs ds with
    | none =>
      rw [q] at h'
      cases h'
    | some ps =>
      rw [q] at h'
      cases h'
      exact .lst (e.seq h1) (dp_all e q h2)
  | .obj _ _ _, p, x, h, r => by cases h
  | .exc _ _ _ _, p, x, h, r => by cases h
  | .dic _, p, x, h, r => by cases h
  | .dct _, p, x, h, r => by cases h
theorem dp_all {S H : Hp} (e : Same S H) : ∀ {ds : List D} {ps : List PyData} {xs : List V}, pyDs ds = some ps → RepL K S ds xs → DpAll K H xs ps
  | [], ps, xs, h, r => by
    have r' : xs = [] := r
    subst r'
    cases h
    exact .nil
  | d :: ds, ps, xs, h, r => by
    obtain ⟨y, ys, rfl, h1, h2⟩ := r
    have h' : ((pyD d).bind fun x => (pyDs ds).map fun xs => x :: xs) = some ps := h
    cases q : pyD d with
    | none =>
      rw [q] at h'
      cases h'
    | some p =>
      cases q2 : pyDs ds with
      | none =>
        rw [q, q2] at h'
        cases h'
      | some qs =>
        rw [q, q2] at h'
        cases h'
        exact .cons (dp_of e q h1) (dp_all e q2 h2)
end
theorem vr_eqD {d e : D} {p q : PyData} (hd : pyD d = some p) (he : pyD e = some q) (s1 : SeqAt.shaped p = true) (s2 : SeqAt.shaped q = true) (k : κ (B (PyData.eqv p q)) w) : VR2 K T (rEqD K) d e w κ := fun F S H x y Q hW r1 r2 hK =>
  ⟨p, q, dp_of hW.same hd r1, dp_of hW.same he r2, s1, s2, hK _ w _ S H k (Same.refl _) hW rfl⟩
theorem vr_neD {d e : D} {p q : PyData} (hd : pyD d = some p) (he : pyD e = some q) (s1 : SeqAt.shaped p = true) (s2 : SeqAt.shaped q = true) (k : κ (B (!PyData.eqv p q)) w) : VR2 K T (rNeD K) d e w κ := fun F S H x y Q hW r1 r2 hK =>
  ⟨p, q, dp_of hW.same hd r1, dp_of hW.same he r2, s1, s2, hK _ w _ S H k (Same.refl _) hW rfl⟩
/-- an owned list against data -/
theorem vr_neDO {a : Addr} {ds : List D} {e : D} {ps : List PyData} {q : PyData} (hw : w a = some (.lst ds)) (hd : pyDs ds = some ps) (he : pyD e = some q) (s1 : SeqAt.shaped (.list ps) = true) (s2 : SeqAt.shaped q = true) (k : κ (B (!PyData.eqv (.list ps) q)) w) : VR2 K T (rNeD K) (R a) e w κ := fun F S H x y Q hW r1 r2 hK => by
  obtain ⟨_, _, o, h1, h2⟩ := hW.own a _ hw
  obtain ⟨xs, rfl, h2⟩ := h2
  have r1' : x = .ref a := r1
  subst r1'
  exact ⟨.list ps, q, .lst (SqL.of h1) (dp_all hW.same hd h2 |> fun z => z), dp_of hW.same he r2, s1, s2, hK _ w _ S H k (Same.refl _) hW rfl⟩
end
section
variable {X : Cx} {T : List (Addr × Str)} {W : WX} {χ : XD} {δ : Dn} {w : Wp} {pos : Pos}
/-! ### built-ins -/
theorem pd_callB {x : Str} {id : String} {r : List V → Hp → VK → Prop} {e : Expr} {es : List Expr} {p : Pos} {κ : D → Wp → Prop} (hc : CallR X (.builtin id) r) (hg : Gl X x) (hm : X.mg x = none) (hv : bootBuiltins x = some (.builtin id))
    (h : PAD X T W χ (e :: es) δ w fun ds w1 => VRA X.K T r ds w1 κ) (hn : x ≠ "__name__" := by decide) (hdb : (x == ("__debug__" : Str)) = false := by decide)
    (he : starEach (e :: es) X.env = (false, eval e X.env) :: starEach es X.env := by rfl) (hpl : (backTo pos (starEach es X.env)).any (·.1) = false := by rfl) : PD X T W χ (.Call (.Name x p) (e :: es) [] pos) δ w κ :=
  fun F σ S H Q hE hW hX hK => wp_pe (pe_callB hc hg hm hv (pa_wp _) hn hdb he hpl) (by
    refine h F σ S H _ hE hW hX fun ds w1 vs S1 H1 k s1 W1 r1 => ?_
    exact k F S1 H1 vs _ W1 r1 (hK.mono s1))
theorem pd_callTy {x : Str} {id : String} {r : List V → Hp → VK → Prop} {e : Expr} {es : List Expr} {p : Pos} {κ : D → Wp → Prop} (hc : CallR X (.type id) r) (hg : Gl X x) (hm : X.mg x = none) (hv : bootBuiltins x = some (.type id))
    (h : PAD X T W χ (e :: es) δ w fun ds w1 => VRA X.K T r ds w1 κ) (hn : x ≠ "__name__" := by decide) (hdb : (x == ("__debug__" : Str)) = false := by decide)
    (he : starEach (e :: es) X.env = (false, eval e X.env) :: starEach es X.env := by rfl) (hpl : (backTo pos (starEach es X.env)).any (·.1) = false := by rfl) : PD X T W χ (.Call (.Name x p) (e :: es) [] pos) δ w κ :=
  fun F σ S H Q hE hW hX hK => wp_pe (pe_callTy hc hg hm hv (pa_wp _) hn hdb he hpl) (by
    refine h F σ S H _ hE hW hX fun ds w1 vs S1 H1 k s1 W1 r1 => ?_
    exact k F S1 H1 vs _ W1 r1 (hK.mono s1))
/-- a type's method -/
def TyD (K : PySem.W.Frag) (TT : String) (d : D) (w : Wp) : Prop := match d with
  | .lst _ => TT = "list"
  | .rd _ => TT = "list"
  | .val (.ref a) => TT = "list" ∧ ∃ ds, w a = some (.lst ds)
  | .val (.str _) => TT = "str"
  | _ => False
theorem TyD.is {K : PySem.W.Frag} {TT : String} {d : D} {w : Wp} {S F H : Hp} {x : V} (t : TyD K TT d w) (hW : World K T S w F H) (r : Rep K S d x) : tyV K TT x H := by
  cases d with
  | val v =>
    have e : x = v := r
    subst e
    cases x with
    | ref a =>
      obtain ⟨t, ds, hw⟩ := t
      obtain ⟨_, _, o, h1, h2⟩ := hW.own a _ hw
      obtain ⟨xs, rfl, h2⟩ := h2
      exact .inl ⟨t, xs, SqL.of h1⟩
    | str z => exact t
    | _ => exact t.elim
  | lst ds =>
    obtain ⟨a, xs, rfl, h1, h2⟩ := r
    exact .inl ⟨t, xs, SqL.of (hW.same _ _ h1)⟩
  | rd ds =>
    obtain ⟨a, xs, rfl, h1, h2⟩ := r
    exact .inl ⟨t, xs, hW.same.seq h1⟩
  | tup ds => exact t.elim
  | obj C ns ds => exact t.elim
  | exc a dd ns ds => exact t.elim
  | dic kvs => exact t.elim
  | dct kvs => exact t.elim
theorem pd_bm0 {TT id : String} {r : V → List V → Hp → VK → Prop} {o : Expr} {name : Str} {apos cpos : Pos} {κ : D → Wp → Prop} (pa : PlainAttrs TT) (slot : Slot TT name id) (hty : typeOf (.builtin id) = pure (.type "method_descriptor")) (hm : MtR X id r)
    (h : PD X T W χ o δ w fun d w1 => TyD X.K TT d w1 ∧ VRM X.K T r d [] w1 κ)
    (hbase : attributeBase o name X.env (eval o X.env) = eval o X.env := by rfl) (hline : (apos.endLine == cpos.line) = true := by rfl) : PD X T W χ (.Call (.Attribute o name apos) [] [] cpos) δ w κ :=
  fun F σ S H Q hE hW hX hK => wp_pe (pe_bm0 pa slot hty hm (pe_wp o) hbase hline) (by
    refine h F σ S H _ hE hW hX fun d w1 v S1 H1 k s1 W1 r1 => ?_
    exact ⟨k.1.is W1 r1, k.2 F S1 H1 v [] _ W1 r1 rfl (hK.mono s1)⟩)
theorem pd_bm {TT id : String} {r : V → List V → Hp → VK → Prop} {o e : Expr} {es : List Expr} {name : Str} {apos cpos : Pos} {κ : D → Wp → Prop} (pa : PlainAttrs TT) (slot : Slot TT name id) (hty : typeOf (.builtin id) = pure (.type "method_descriptor")) (hm : MtR X id r)
    (h : PD X T W χ o δ w fun d w1 => TyD X.K TT d w1 ∧ PAD X T W χ (e :: es) δ w1 fun ds w2 => VRM X.K T r d ds w2 κ)
    (hbase : attributeBase o name X.env (eval o X.env) = eval o X.env := by rfl)
    (hfew : ((backTo cpos (starEach (e :: es) X.env)).all (fun x => !x.1) && (backToKw cpos (keywordEach [] X.env)).all (fun x => x.1.isSome)
      && decide ((e :: es).length + ([] : List Keyword).length + (if ([] : List Keyword).isEmpty then 0 else 1) < 30)) = true := by rfl)
    (hline : (apos.endLine == cpos.line) = true := by rfl) (hs : starEach (e :: es) X.env = (false, eval e X.env) :: starEach es X.env := by rfl) (hplain : (backTo cpos (starEach es X.env)).any (·.1) = false := by rfl) : PD X T W χ (.Call (.Attribute o name apos) (e :: es) [] cpos) δ w κ :=
  fun F σ S H Q hE hW hX hK => wp_pe (pe_bm pa slot hty hm (pe_wp o) (pa_wp _) hbase hfew hline hs hplain) (by
    refine h F σ S H _ hE hW hX fun d w1 v S1 H1 k s1 W1 r1 => ?_
    refine ⟨k.1.is W1 r1, ?_⟩
    refine k.2 F σ S1 H1 _ (hE.mono s1) W1 (hX.mono s1) fun ds w2 vs S2 H2 k2 s2 W2 r2 => ?_
    exact k2 F S2 H2 v vs _ W2 (r1.mono s2) r2 (hK.mono (s1.trans s2)))
end
section
variable {K : PySem.W.Frag} {T : List (Addr × Str)} {w : Wp} {κ : D → Wp → Prop}
theorem va_int {i : Int} (k : κ (I i) w) : VRA K T (fun xs H Q => (∃ i, xs = [.int i] ∧ Q (.int i) H) ∨ ∃ k, xs = [.bl k] ∧ Q (.int (if k then 1 else 0)) H) [I i] w κ := fun F S H xs Q hW r hK => by
  obtain ⟨y, ys, rfl, h1, h2⟩ := r
  have h1' : y = .int i := h1
  have h2' : ys = [] := h2
  subst h1' h2'
  exact .inl ⟨i, rfl, hK _ w _ S H k (Same.refl _) hW rfl⟩
theorem va_len {ds : List D} (k : κ (I (ds.length : Int)) w) : VRA K T (fun xs H Q => ∃ p ys, xs = [.ref p] ∧ (SqL K H p ys ∨ SqT K H p ys) ∧ Q (.int ys.length) H) [.lst ds] w κ := fun F S H xs Q hW r hK => by
  obtain ⟨y, ys, rfl, h1, h2⟩ := r
  obtain ⟨a, zs, rfl, h3, h4⟩ := h1
  have h2' : ys = [] := h2
  subst h2'
  refine ⟨a, zs, rfl, .inl (SqL.of (hW.same _ _ h3)), ?_⟩
  rw [h4.length]
  exact hK _ w _ S H k (Same.refl _) hW rfl
theorem va_lenT {ds : List D} (k : κ (I (ds.length : Int)) w) : VRA K T (fun xs H Q => ∃ p ys, xs = [.ref p] ∧ (SqL K H p ys ∨ SqT K H p ys) ∧ Q (.int ys.length) H) [.tup ds] w κ := fun F S H xs Q hW r hK => by
  obtain ⟨y, ys, rfl, h1, h2⟩ := r
  obtain ⟨a, zs, rfl, h3, h4⟩ := h1
  have h2' : ys = [] := h2
  subst h2'
  refine ⟨a, zs, rfl, .inr (SqT.of (hW.same _ _ h3)), ?_⟩
  rw [h4.length]
  exact hK _ w _ S H k (Same.refl _) hW rfl
abbrev rListOf (K : PySem.W.Frag) : List V → Hp → VK → Prop := fun xs H Q => ∃ p ys, xs = [.ref p] ∧ (SqL K H p ys ∨ SqT K H p ys) ∧ ∀ l, H l = none → Q (.ref l) (upd H l (.lst ys))
theorem va_listS {ds : List D} (k : κ (.lst ds) w) : VRA K T (rListOf K) [.lst ds] w κ := fun F S H xs Q hW r hK => by
  obtain ⟨y, ys, rfl, h1, h2⟩ := r
  obtain ⟨a, zs, rfl, h3, h4⟩ := h1
  have h2' : ys = [] := h2
  subst h2'
  refine ⟨a, zs, rfl, .inl (SqL.of (hW.same _ _ h3)), fun p hp => ?_⟩
  have s1 : Same S (upd S p (.lst zs)) := same_upd (hW.free hp).1
  exact hK _ w _ _ _ k s1 (hW.laid hp fun _ z => by cases z) ⟨p, _, rfl, upd_same, h4.mono s1⟩
/-- list(xs), owned -/
theorem va_listO {ds : List D} (k : ∀ a, w a = none → κ (R a) (wu w a (.lst ds))) : VRA K T (rListOf K) [.lst ds] w κ := fun F S H xs Q hW r hK => by
  obtain ⟨y, ys, rfl, h1, h2⟩ := r
  obtain ⟨a, zs, rfl, h3, h4⟩ := h1
  have h2' : ys = [] := h2
  subst h2'
  refine ⟨a, zs, rfl, .inl (SqL.of (hW.same _ _ h3)), fun p hp => ?_⟩
  exact hK _ _ _ _ _ (k p (hW.free hp).2.1) (Same.refl _) (hW.take hp ⟨zs, rfl, h4⟩) rfl
abbrev rTupleOf (K : PySem.W.Frag) : List V → Hp → VK → Prop := fun xs H Q => ∃ p ys, xs = [.ref p] ∧ ((SqL K H p ys ∧ ∀ l, H l = none → Q (.ref l) (upd H l (.tup ys))) ∨ (SqT K H p ys ∧ Q (.ref p) H))
theorem va_tuple {ds : List D} (k : κ (.tup ds) w) : VRA K T (rTupleOf K) [.lst ds] w κ := fun F S H xs Q hW r hK => by
  obtain ⟨y, ys, rfl, h1, h2⟩ := r
  obtain ⟨a, zs, rfl, h3, h4⟩ := h1
  have h2' : ys = [] := h2
  subst h2'
  refine ⟨a, zs, rfl, .inl ⟨SqL.of (hW.same _ _ h3), fun p hp => ?_⟩⟩
  have s1 : Same S (upd S p (.tup zs)) := same_upd (hW.free hp).1
  exact hK _ w _ _ _ k s1 (hW.laid hp fun _ z => by cases z) ⟨p, _, rfl, upd_same, h4.mono s1⟩
/-! ### methods of lists -/
theorem vm_append {a : Addr} {ds : List D} {d : D} (hw : w a = some (.lst ds)) (hz : ds.length < sizeLine) (k : κ N (wu w a (.lst (ds ++ [d])))) : VRM K T rAppend (R a) [d] w κ := fun F S H x xs Q hW r1 r2 hK => by
  obtain ⟨_, _, o, h1, h2⟩ := hW.own a _ hw
  obtain ⟨zs, rfl, h2⟩ := h2
  obtain ⟨y, ys, rfl, h3, h4⟩ := r2
  have h4' : ys = [] := h4
  subst h4'
  refine ⟨a, zs, y, r1, rfl, h1, by rw [h2.length]; exact hz, ?_⟩
  exact hK _ _ _ S _ k (Same.refl _) (hW.put hw ⟨_, rfl, h2.app (RepL.one h3)⟩) rfl
theorem vm_pop0 {a : Addr} {d : D} {ds : List D} (hw : w a = some (.lst (d :: ds))) (k : κ d (wu w a (.lst ds))) : VRM K T rPopAt (R a) [I 0] w κ := fun F S H x xs Q hW r1 r2 hK => by
  obtain ⟨_, _, o, h1, h2⟩ := hW.own a _ hw
  obtain ⟨zs, rfl, h2⟩ := h2
  obtain ⟨y, ys, rfl, h3, h4⟩ := r2
  have h4' : ys = [] := h4
  have h3' : y = .int 0 := h3
  subst h4' h3'
  obtain ⟨v, vs, rfl, h5, h6⟩ := h2
  refine ⟨a, v :: vs, 0, 0, v, r1, rfl, h1, by omega, by omega, ?_, rfl, ?_⟩
  · unfold seqIndex?
    simp
  · exact hK _ _ _ S _ k (Same.refl _) (hW.put hw ⟨_, rfl, h6⟩) h5
theorem vm_pop {a : Addr} {d : D} {ds : List D} (hw : w a = some (.lst ds)) (hd : ds[ds.length - 1]? = some d) (k : κ d (wu w a (.lst ds.dropLast))) : VRM K T rPop (R a) [] w κ := fun F S H x xs Q hW r1 r2 hK => by
  obtain ⟨_, _, o, h1, h2⟩ := hW.own a _ hw
  obtain ⟨zs, rfl, h2⟩ := h2
  have r2' : xs = [] := r2
  subst r2'
  obtain ⟨v, h5, h6⟩ := h2.get hd
  rw [← h2.length] at h5
  exact ⟨a, zs, v, r1, rfl, h1, h5, hK _ _ _ S _ k (Same.refl _) (hW.put hw ⟨_, rfl, h2.dropLast⟩) h6⟩
theorem vm_reverse {a : Addr} {ds : List D} (hw : w a = some (.lst ds)) (k : κ N (wu w a (.lst ds.reverse))) : VRM K T rReverse (R a) [] w κ := fun F S H x xs Q hW r1 r2 hK => by
  obtain ⟨_, _, o, h1, h2⟩ := hW.own a _ hw
  obtain ⟨zs, rfl, h2⟩ := h2
  have r2' : xs = [] := r2
  subst r2'
  exact ⟨a, zs, r1, rfl, h1, hK _ _ _ S _ k (Same.refl _) (hW.put hw ⟨_, rfl, h2.rev⟩) rfl⟩
theorem vm_clear {a : Addr} {ds : List D} (hw : w a = some (.lst ds)) (k : κ N (wu w a (.lst []))) : VRM K T rClear (R a) [] w κ := fun F S H x xs Q hW r1 r2 hK => by
  obtain ⟨_, _, o, h1, h2⟩ := hW.own a _ hw
  obtain ⟨zs, rfl, h2⟩ := h2
  have r2' : xs = [] := r2
  subst r2'
  exact ⟨a, zs, r1, rfl, h1, hK _ _ _ S _ k (Same.refl _) (hW.put hw ⟨_, rfl, rfl⟩) rfl⟩
end
end DL

set_option Elab.async false
set_option linter.all false
set_option maxRecDepth 100000
set_option maxHeartbeats 1000000
/-! Loops, comprehensions, calls, fields, defs. -/
namespace DL
open PySem PySem.Spec PyProof.Rows L2 LamX
/-! ### iteration -/
section
variable (X : Cx) (T : List (Addr × Str)) (W : WX) (χ : XD)
def IterD (tg iter : Expr) (δ : Dn) (w : Wp) (κ : List D → Wp → Prop) : Prop :=
  ∃ wi, PI X tg iter wi ∧ ∀ (F : Hp) (σ : L2.St) (S H : Hp) (R : It → Hp → Prop), EnvD X.K S δ σ → World X.K T S w F H → ExD X.K T W χ σ S F →
    (∀ (ds : List D) (w1 : Wp) (S1 H1 : Hp) (J : It) (G : Hp → Prop) (Y : Nat → Hp → V → Hp → Prop), κ ds w1 → Same S S1 → World X.K T S1 w1 F H1 → Walk J ds.length G Y →
      (∀ S2 w2 F2 H2, Same S1 S2 → World X.K T S2 w2 F2 H2 → G H2) →
      (∀ (i : Nat) (d : D) S2 w2 F2 H2 x H3, ds[i]? = some d → Same S1 S2 → World X.K T S2 w2 F2 H2 → Y i H2 x H3 → ∃ S3, Same S2 S3 ∧ World X.K T S3 w2 F2 H3 ∧ Rep X.K S3 d x) → R J H1) → wi σ H R
end
section
variable {X : Cx} {T : List (Addr × Str)} {W : WX} {χ : XD} {δ : Dn} {w : Wp} {pos : Pos}
theorem it_list {tg e : Expr} {κ : List D → Wp → Prop} (h : PD X T W χ e δ w fun d w1 => ∃ ds, d = .lst ds ∧ κ ds w1) : IterD X T W χ tg e δ w κ :=
  ⟨_, pi_list (pe_wp e), fun F σ S H R hE hW hX hK => by
    refine h F σ S H _ hE hW hX fun d w1 v S1 H1 k s1 W1 r => ?_
    obtain ⟨ds, rfl, k⟩ := k
    obtain ⟨a, xs, rfl, h1, h2⟩ := r
    refine ⟨a, rfl, ⟨xs, SqL.of (W1.same _ _ h1)⟩, ?_⟩
    have ww := walk_list (K := X.K) (a := a) (xs := xs)
    rw [h2.length] at ww
    refine hK ds w1 S1 H1 _ _ _ k s1 W1 ww (fun S2 w2 F2 H2 s2 W2 => SqL.of (W2.same _ _ (s2 _ _ h1))) fun i d S2 w2 F2 H2 x H3 hd s2 W2 y => ?_
    obtain ⟨rfl, hx⟩ := y
    obtain ⟨v, h3, h4⟩ := h2.get hd
    rw [hx] at h3
    cases h3
    exact ⟨S2, Same.refl _, W2, h4.mono s2⟩⟩
theorem it_rd {tg e : Expr} {κ : List D → Wp → Prop} (h : PD X T W χ e δ w fun d w1 => ∃ ds, d = .rd ds ∧ κ ds w1) : IterD X T W χ tg e δ w κ :=
  ⟨_, pi_list (pe_wp e), fun F σ S H R hE hW hX hK => by
    refine h F σ S H _ hE hW hX fun d w1 v S1 H1 k s1 W1 r => ?_
    obtain ⟨ds, rfl, k⟩ := k
    obtain ⟨a, xs, rfl, h1, h2⟩ := r
    refine ⟨a, rfl, ⟨xs, W1.same.seq h1⟩, ?_⟩
    have ww := walk_list (K := X.K) (a := a) (xs := xs)
    rw [h2.length] at ww
    refine hK ds w1 S1 H1 _ _ _ k s1 W1 ww (fun S2 w2 F2 H2 s2 W2 => W2.same.seq (s2.seq h1)) fun i d S2 w2 F2 H2 x H3 hd s2 W2 y => ?_
    obtain ⟨rfl, hx⟩ := y
    obtain ⟨v, h3, h4⟩ := h2.get hd
    rw [hx] at h3
    cases h3
    exact ⟨S2, Same.refl _, W2, h4.mono s2⟩⟩
theorem it_tup {tg e : Expr} {κ : List D → Wp → Prop} (h : PD X T W χ e δ w fun d w1 => ∃ ds, d = .tup ds ∧ κ ds w1) : IterD X T W χ tg e δ w κ :=
  ⟨_, pi_tup (pe_wp e), fun F σ S H R hE hW hX hK => by
    refine h F σ S H _ hE hW hX fun d w1 v S1 H1 k s1 W1 r => ?_
    obtain ⟨ds, rfl, k⟩ := k
    obtain ⟨a, xs, rfl, h1, h2⟩ := r
    refine ⟨a, rfl, ⟨xs, SqT.of (W1.same _ _ h1)⟩, ?_⟩
    have ww := walk_tup (K := X.K) (a := a) (xs := xs)
    rw [h2.length] at ww
    refine hK ds w1 S1 H1 _ _ _ k s1 W1 ww (fun S2 w2 F2 H2 s2 W2 => SqT.of (W2.same _ _ (s2 _ _ h1))) fun i d S2 w2 F2 H2 x H3 hd s2 W2 y => ?_
    obtain ⟨rfl, hx⟩ := y
    obtain ⟨v, h3, h4⟩ := h2.get hd
    rw [hx] at h3
    cases h3
    exact ⟨S2, Same.refl _, W2, h4.mono s2⟩⟩
def ups (n : Nat) : List D := (List.range n).map fun (k : Nat) => I (k : Int)
theorem ups_len (n : Nat) : (ups n).length = n := by unfold ups; rw [List.length_map, List.length_range]
theorem ups_at {n i : Nat} {d : D} (h : (ups n)[i]? = some d) : i < n ∧ d = I (i : Int) := by
  unfold ups at h
  rw [List.getElem?_map] at h
  by_cases hi : i < n
  · rw [List.getElem?_range hi] at h
    exact ⟨hi, (Option.some.inj h).symm⟩
  · rw [List.getElem?_eq_none (by simpa using hi)] at h
    cases h
/-- range(n), n known not to be below 0 -/
theorem it_range {tg e : Expr} {p : Pos} {κ : List D → Wp → Prop} (hm : X.mg "range" = none) (h : PD X T W χ e δ w fun d w1 => ∃ n : Nat, d = I (n : Int) ∧ (n : Int) < 2 ^ 62 ∧ κ (ups n) w1)
    (hg : Gl X "range" := by rfl) (he : starEach [e] X.env = [(false, eval e X.env)] := by rfl) : IterD X T W χ tg (.Call (.Name "range" p) [e] [] pos) δ w κ :=
  ⟨_, pi_range1 hg hm (pa_wp [e]) he, fun F σ S H R hE hW hX hK => by
    have ha : PAD X T W χ [e] δ w fun ds w1 => ∃ n : Nat, ds = [I (n : Int)] ∧ (n : Int) < 2 ^ 62 ∧ κ (ups n) w1 := pad_cons (h.imp fun d w1 ⟨n, e1, h1, k⟩ => pad_nil ⟨n, by rw [e1], h1, k⟩) he
    refine ha F σ S H _ hE hW hX fun ds w1 vs S1 H1 k s1 W1 r => ?_
    obtain ⟨n, rfl, hn, k⟩ := k
    obtain ⟨y, ys, rfl, h1, h2⟩ := r
    have h1' : y = .int n := h1
    have h2' : ys = [] := h2
    subst h1' h2'
    refine ⟨n, rfl, by omega, by omega, ?_⟩
    have ww := walk_range (lo := 0) (n := n)
    have en : ((n : Int)).toNat = n := Int.toNat_natCast n
    rw [en]
    refine hK (ups n) w1 S1 H1 _ (fun _ => True) (YFn fun i => .int (0 + i)) k s1 W1 (by rw [ups_len]; exact ww) (fun S2 w2 F2 H2 s2 W2 => True.intro) fun i d S2 w2 F2 H2 x H3 hd s2 W2 y => ?_
    obtain ⟨rfl, hx⟩ := y
    obtain ⟨_, rfl⟩ := ups_at hd
    refine ⟨S2, Same.refl _, W2, ?_⟩
    show x = .int (i : Int)
    rw [hx]
    show V.int (0 + (i : Int)) = _
    rw [Int.zero_add]⟩
def pairs (ds : List D) : List D := (List.range ds.length).zipWith (fun (k : Nat) d => .tup [I (k : Int), d]) ds
theorem pairs_len (ds : List D) : (pairs ds).length = ds.length := by unfold pairs; rw [List.length_zipWith, List.length_range, Nat.min_self]
theorem pairs_at {ds : List D} {i : Nat} {d : D} (h : (pairs ds)[i]? = some d) : ∃ e, ds[i]? = some e ∧ d = .tup [I (i : Int), e] := by
  have hi : i < ds.length := by
    have := (List.getElem?_eq_some_iff.mp h).1
    rwa [pairs_len] at this
  refine ⟨ds[i], List.getElem?_eq_getElem hi, ?_⟩
  unfold pairs at h
  rw [List.getElem?_zipWith, List.getElem?_range hi, List.getElem?_eq_getElem hi] at h
  exact (Option.some.inj h).symm
/-- enumerate(xs) -/
theorem it_enum {elts : List Expr} {kk : Nat} {tpos : Pos} {e : Expr} {p : Pos} {κ : List D → Wp → Prop} (hm : X.mg "enumerate" = none) (h : PD X T W χ e δ w fun d w1 => ∃ ds, d = .lst ds ∧ κ (pairs ds) w1)
    (hg : Gl X "enumerate" := by rfl) (he : starEach [e] X.env = [(false, eval e X.env)] := by rfl) : IterD X T W χ (.Tuple elts kk tpos) (.Call (.Name "enumerate" p) [e] [] pos) δ w κ :=
  ⟨_, pi_enum hg hm (pa_wp [e]) he, fun F σ S H R hE hW hX hK => by
    have ha : PAD X T W χ [e] δ w fun ds w1 => ∃ es, ds = [.lst es] ∧ κ (pairs es) w1 := pad_cons (h.imp fun d w1 ⟨es, e1, k⟩ => pad_nil ⟨es, by rw [e1], k⟩) he
    refine ha F σ S H _ hE hW hX fun ds w1 vs S1 H1 k s1 W1 r => ?_
    obtain ⟨es, rfl, k⟩ := k
    obtain ⟨y, ys, rfl, h1, h2⟩ := r
    obtain ⟨a, xs, rfl, h3, h4⟩ := h1
    have h2' : ys = [] := h2
    subst h2'
    refine ⟨a, xs, rfl, SqL.of (W1.same _ _ h3), ?_⟩
    have ww := walk_enum (K := X.K) (a := a) (xs := xs)
    rw [h4.length] at ww
    refine hK (pairs es) w1 S1 H1 _ _ _ k s1 W1 (by rw [pairs_len]; exact ww) (fun S2 w2 F2 H2 s2 W2 => SqL.of (W2.same _ _ (s2 _ _ h3))) fun i d S2 w2 F2 H2 x H3 hd s2 W2 y => ?_
    obtain ⟨t, x1, x2, rfl, nt, rfl, f1, f2⟩ := y
    obtain ⟨e, he, rfl⟩ := pairs_at hd
    obtain ⟨v, h5, h6⟩ := h4.get he
    have f2' : xs[i]? = some x2 := f2
    rw [h5] at f2'
    cases f2'
    cases f1
    have s3 : Same S2 (upd S2 t (.tup [.int (i : Int), x2])) := same_upd (W2.free nt).1
    exact ⟨_, s3, W2.laid nt fun _ z => (by cases z), t, _, rfl, upd_same, V.int i, [x2], rfl, rfl, x2, [], rfl, (h6.mono s2).mono s3, rfl⟩⟩
/-! ### for -/
theorem psd_for {tg iter : Expr} {body : List Stmt} {C : Fin} (hp : PassesOwn (model X.prog X.w) X.A X.env X.xe) (hc : X.calm = true)
    (h : IterD X T W χ tg iter δ w (fun ds w1 => ∃ Pv : Nat → Dn → Wp → Prop, Pv 0 δ w1 ∧
      (∀ (i : Nat) (d : D) δ' w', ds[i]? = some d → Pv i δ' w' → PGD X T tg d δ' w' fun δ2 w2 => PSsD X T W χ body δ2 w2 { nx := Pv (i + 1), rt := C.rt, bk := C.nx, ct := Pv (i + 1) }) ∧
      ∀ δ' w', Pv ds.length δ' w' → C.nx δ' w'))
    (hs : ∀ x, foldedSetIterable iter X.env x = pure x := by intro _; rfl) : PSD X T W χ (.For tg iter body [] pos) δ w C := fun F σ S H E hE hW hX hK => by
  obtain ⟨wi, hi, h⟩ := h
  refine wp_ps (ps_for hp hc hi (pg_wp tg) (pss_wp body) hs) ?_
  refine h F σ S H _ hE hW (hX σ) fun ds w1 S1 H1 J G Y k s1 W1 ww hG hY => ?_
  obtain ⟨Pv, p0, turn, done⟩ := k
  refine for_it ww (D := E) (fun i σ' H' => ∃ δ' w' S', Pv i δ' w' ∧ Same S1 S' ∧ EnvD X.K S' δ' σ' ∧ World X.K T S' w' F H') ⟨δ, w1, S1, p0, Same.refl _, hE.mono s1, W1⟩ (fun i σ' H' _ ⟨δ', w', S', _, s2, _, W2⟩ => hG S' w' F H' s2 W2) ?_ ?_
  · rintro i x σ' H' H3 hi ⟨δ', w', S', pv, s2, hE2, W2⟩ y
    obtain ⟨S3, s3, W3, r⟩ := hY i ds[i] S' w' F H' x H3 (List.getElem?_eq_getElem hi) s2 W2 y
    refine turn i ds[i] δ' w' (List.getElem?_eq_getElem hi) pv F x σ' S3 H3 _ r (hE2.mono s3) W3 fun δ2 w2 σ2 S4 H4 k s4 hE4 W4 => ?_
    have ss := s1.trans (s2.trans (s3.trans s4))
    refine k F σ2 S4 H4 _ hE4 W4 (hX.mono ss) ⟨fun δ5 w5 σ5 S5 H5 k5 s5 hE5 W5 => ⟨δ5, w5, S5, k5, s2.trans (s3.trans (s4.trans s5)), hE5, W5⟩, hK.rt.mono ss, hK.nx.mono ss, fun δ5 w5 σ5 S5 H5 k5 s5 hE5 W5 => ⟨δ5, w5, S5, k5, s2.trans (s3.trans (s4.trans s5)), hE5, W5⟩⟩
  · rintro σ' H' ⟨δ', w', S', pv, s2, hE2, W2⟩
    exact hK.nx δ' w' σ' S' H' (done δ' w' pv) (s1.trans s2) hE2 W2
/-! ### targets that touch only some slots -/
def PGL (X : Cx) (T : List (Addr × Str)) (is : List Nat) (tg : Expr) (d : D) (δ : Dn) (w : Wp) (κ : Dn → Wp → Prop) : Prop :=
  ∀ (F : Hp) (v : V) (σ : L2.St) (S H : Hp) (Q : L2.St → Hp → Prop), Rep X.K S d v → EnvD X.K S δ σ → World X.K T S w F H →
    (∀ δ' w' σ' S' H', κ δ' w' → Same S S' → EnvD X.K S' δ' σ' → World X.K T S' w' F H' → (∀ j, j ∉ is → σ'[j]? = σ[j]?) → σ'.length = σ.length → Q σ' H') → wpG X tg v σ H Q
theorem PGL.pgd {is : List Nat} {tg : Expr} {d : D} {κ : Dn → Wp → Prop} (h : PGL X T is tg d δ w κ) : PGD X T tg d δ w κ := fun F v σ S H Q r hE hW hK => h F v σ S H Q r hE hW fun δ' w' σ' S' H' k s e W _ _ => hK δ' w' σ' S' H' k s e W
theorem pgl_name {i : Nat} {x : Str} {d : D} {κ : Dn → Wp → Prop} (hN : X.N.Nodup) (hi : X.N[i]? = some x) (k : κ (δ.set i (some d)) w) (hx : Loc X.env.scope x := by first | exact .inl rfl | exact .inr rfl)
    (hf : X.fn x = true ∨ X.env.scope.names.lookup x = some .local := by first | exact .inl rfl | exact .inr rfl) : PGL X T [i] (.Name x pos) d δ w κ := fun F v σ S H Q r hE hW hK => wp_pg (pg_name hN hi hx hf) (hK _ w _ S H k (Same.refl _) (hE.set i r) hW (fun j hj => by
  rw [List.getElem?_set_ne (fun z => hj (by rw [z]; exact List.mem_singleton.mpr rfl))]) (by rw [List.length_set]))
theorem pgl_two {i j : Nat} {a b : Expr} {k0 : Nat} {d e : D} {κ : Dn → Wp → Prop} (hc : X.calm = true) (h : PGL X T [i] a d δ w fun δ1 w1 => PGL X T [j] b e δ1 w1 κ)
    (hs1 : (assignEach [a, b] X.env).map (·.2) = assign a X.env :: (assignEach [b] X.env).map (·.2) := by rfl) (hs2 : (assignEach [b] X.env).map (·.2) = assign b X.env :: (assignEach [] X.env).map (·.2) := by rfl)
    (hn : (assignEach [a, b] X.env).length = 2 := by rfl) (hst : (assignEach [a, b] X.env).findIdx? (·.1) = none := by rfl) : PGL X T [i, j] (.Tuple [a, b] k0 pos) (.tup [d, e]) δ w κ := fun F v σ S H Q r hE hW hK => by
  refine wp_pg (pg_tup hc (pgs_cons (pg_wp a) (pgs_cons (pg_wp b) pgs_nil hs2) hs1) hn hst) ?_
  obtain ⟨t, xs, rfl, h1, y, ys, rfl, h2, z, zs, rfl, h3, h4⟩ := r
  have h4' : zs = [] := h4
  subst h4'
  refine ⟨t, [y, z], rfl, SqT.of (hW.same _ _ h1), rfl, y, [z], rfl, ?_⟩
  refine h F y σ S H _ h2 hE hW fun δ1 w1 σ1 S1 H1 k1 s1 hE1 W1 o1 l1 => ?_
  refine ⟨z, [], rfl, ?_⟩
  refine k1 F z σ1 S1 H1 _ (h3.mono s1) hE1 W1 fun δ2 w2 σ2 S2 H2 k2 s2 hE2 W2 o2 l2 => ⟨rfl, ?_⟩
  exact hK δ2 w2 σ2 S2 H2 k2 (s1.trans s2) hE2 W2 (fun n hn => by
    rw [o2 n (fun z => hn (by simp at z; simp [z])), o1 n (fun z => hn (by simp at z; simp [z]))]) (l2.trans l1)
theorem wipe_eq {σ1 σ2 : L2.St} {vs : List Nat} (hl : σ2.length = σ1.length) (h : ∀ j, j ∉ vs → σ2[j]? = σ1[j]?) : L2.wipe σ2 vs = L2.wipe σ1 vs := by
  refine List.ext_getElem? fun j => ?_
  have key : ∀ (σ : L2.St) (vs : List Nat), (L2.wipe σ vs)[j]? = if j ∈ vs then (if j < σ.length then some none else none) else σ[j]? := by
    intro σ vs
    induction vs with
    | nil => rfl
    | cons v vs ih =>
      show ((L2.wipe σ vs).set v none)[j]? = _
      by_cases e : v = j
      · subst e
        rw [if_pos (List.mem_cons_self ..)]
        by_cases hj : v < σ.length
        · rw [if_pos hj, List.getElem?_set_self (by rw [L2.wipe_length]; exact hj)]
        · rw [if_neg hj, List.getElem?_eq_none (by rw [List.length_set, L2.wipe_length]; omega)]
      · rw [List.getElem?_set_ne e, ih]
        by_cases hm : j ∈ vs
        · rw [if_pos hm, if_pos (List.mem_cons_of_mem _ hm)]
        · rw [if_neg hm, if_neg (fun z => by cases z with | head => exact e rfl | tail _ z => exact hm z)]
  rw [key, key]
  by_cases hm : j ∈ vs
  · rw [if_pos hm, if_pos hm, hl]
  · rw [if_neg hm, if_neg hm, h j hm]
/-! ### comprehensions -/
/-- the list that a comprehension made: it stands, or is owned -/
theorem fin_stay {K : PySem.W.Frag} {κ : D → Wp → Prop} {S F : Hp} {Q : VK} (hK : KD K T κ S F Q) : ∀ (L : Addr) (acc : List D) w' S' xs H', κ (.lst acc) w' → Same S S' → F L = none → World K T S' w' (upd F L (.lst xs)) H' → RepL K S' acc xs → Q (.ref L) H' := fun L acc w' S' xs H' k s1 fL W2 ra => by
  obtain ⟨e1, W3⟩ := W2.freezeF fL fun _ z => by cases z
  have s3 : Same S' (upd S' L (.lst xs)) := same_upd e1
  exact hK _ w' _ _ H' k (s1.trans s3) W3 ⟨L, xs, rfl, upd_same, ra.mono s3⟩
theorem World.moveF {K : PySem.W.Frag} {S F0 H : Hp} {w : Wp} {a : Addr} {o : HO} {h : HD} (W : World K T S w (upd F0 a o) H) (e : F0 a = none) (r : RepH K S h o) : w a = none ∧ World K T S (wu w a h) F0 H := by
  obtain ⟨e1, e2⟩ := W.frm a o upd_same
  have ew : w a = none := by
    cases q : w a with
    | none => rfl
    | some k =>
      have q2 := (W.own a k q).2.1
      rw [upd_same] at q2
      cases q2
  refine ⟨ew, W.same, W.notbl, fun b k q => ?_, fun b x q => ?_, W.tabs, fun b ps z => W.nf b ps (by rw [upd_ne (fun q => by rw [q, e] at z; cases z)]; exact z)⟩
  · by_cases hb : b = a
    · subst hb
      rw [wu_same] at q
      cases q
      exact ⟨e1, e, o, e2, r⟩
    · rw [wu_ne hb] at q
      obtain ⟨q1, q2, x, q3, q4⟩ := W.own b k q
      rw [upd_ne hb] at q2
      exact ⟨q1, q2, x, q3, q4⟩
  · have hb : b ≠ a := fun z => by
      rw [z, e] at q
      cases q
    exact W.frm b x (by rw [upd_ne hb]; exact q)
theorem fin_own {K : PySem.W.Frag} {κ : D → Wp → Prop} {S F : Hp} {Q : VK} (hK : KD K T κ S F Q) : ∀ (L : Addr) (acc : List D) w' S' xs H', (∀ a, w' a = none → κ (R a) (wu w' a (.lst acc))) → Same S S' → F L = none → World K T S' w' (upd F L (.lst xs)) H' → RepL K S' acc xs → Q (.ref L) H' := fun L acc w' S' xs H' k s1 fL W2 ra => by
  obtain ⟨e1, W3⟩ := W2.moveF fL (h := .lst acc) ⟨xs, rfl, ra⟩
  exact hK _ _ _ S' H' (k L e1) s1 W3 rfl
def PTsD (X : Cx) (T : List (Addr × Str)) (ifs : List Expr) (δ : Dn) (w : Wp) (κ : Bool → Wp → Prop) : Prop :=
  ∀ (F : Hp) (σ : L2.St) (S H : Hp) (Q : Bool → Hp → Prop), EnvD X.K S δ σ → World X.K T S w F H → KB X.K T κ S F Q → wpTs X ifs σ H Q
abbrev Wf : WX := fun _ _ _ _ => False
theorem ptsd_nil {κ : Bool → Wp → Prop} (k : κ true w) : PTsD X T [] δ w κ := fun F σ S H Q hE hW hK pins s I => (pts_nil).run pins s σ H Q I (hK true w S H k (Same.refl _) hW)
theorem exf {K : PySem.W.Frag} {σ : L2.St} {S F : Hp} {W : WX} : ExD K T W noX σ S F := fun _ _ _ _ _ _ _ z => z.elim
theorem exsf {S F : Hp} {W : WX} : ExS X T W noX S F := fun _ => exf
theorem ptsd_one {c : Expr} {κ : Bool → Wp → Prop} (h : PTD X T Wf noX c δ w κ) : PTsD X T [c] δ w κ := fun F σ S H Q hE hW hK pins s I => (pts_one (pt_wp c)).run pins s σ H Q I (h F σ S H Q hE hW exf hK)
abbrev bx (X : Cx) (s : Shared) (H : Hp) (scope : Scope) (cl : List (Str × Addr)) (C : Addr) (fp : List Addr) : Cx := X.blk s H scope (compEnvC scope cl C X.env) fp
/-- what a comprehension asks -/
def LcD (X : Cx) (T : List (Addr × Str)) (is : List Nat) (tg : Expr) (ifs : List Expr) (elt : Expr) (scope : Scope) (vs : List Nat) (δ : Dn) (κ : List D → Wp → Prop) (ds : List D) (w1 : Wp) : Prop :=
  ds.length < sizeLine ∧ ∃ Pv : Nat → List D → Wp → Prop, Pv 0 [] w1 ∧
    (∀ (i : Nat) (d : D) acc w', ds[i]? = some d → Pv i acc w' → ∀ s H0 C cl fp, PGL (bx X s H0 scope cl C fp) T is tg d (wipeD δ vs) w' fun δ2 w2 => ∀ s H0 C cl fp, PTsD (bx X s H0 scope cl C fp) T ifs δ2 w2 fun b w3 =>
      if b = true then ∀ s H0 C cl fp, PD (bx X s H0 scope cl C fp) T Wf noX elt δ2 w3 fun y w4 => Pv (i + 1) (acc ++ [y]) w4 else Pv (i + 1) acc w3) ∧
    ∀ acc w', Pv ds.length acc w' → κ acc w'
abbrev lcG (X : Cx) (scope : Scope) (tg : Expr) : TG := fun v σ' H' Q' => ∀ s H0 C cl fp, wpG (bx X s H0 scope cl C fp) tg v σ' H' Q'
abbrev lcT (X : Cx) (scope : Scope) (ifs : List Expr) : TT := fun σ' H' Q' => ∀ s H0 C cl fp, wpTs (bx X s H0 scope cl C fp) ifs σ' H' Q'
abbrev lcE (X : Cx) (scope : Scope) (elt : Expr) : TE := fun σ' H' Q' => ∀ s H0 C cl fp, wpE (bx X s H0 scope cl C fp) elt σ' H' Q'
theorem lc_read {tg elt : Expr} {ifs : List Expr} {scope : Scope} {vs is : List Nat} {κ : List D → Wp → Prop} {wi : TI} {F : Hp} {σ : L2.St} {S H : Hp} {Q : VK} (hsub : ∀ i ∈ is, i ∈ vs) (hE : EnvD X.K S δ σ) (hW : World X.K T S w F H)
    (h : ∀ (R : It → Hp → Prop), (∀ (ds : List D) (w1 : Wp) (S1 H1 : Hp) (J : It) (G : Hp → Prop) (Y : Nat → Hp → V → Hp → Prop), LcD X T is tg ifs elt scope vs δ κ ds w1 → Same S S1 → World X.K T S1 w1 F H1 → Walk J ds.length G Y →
      (∀ S2 w2 F2 H2, Same S1 S2 → World X.K T S2 w2 F2 H2 → G H2) →
      (∀ (i : Nat) (d : D) S2 w2 F2 H2 x H3, ds[i]? = some d → Same S1 S2 → World X.K T S2 w2 F2 H2 → Y i H2 x H3 → ∃ S3, Same S2 S3 ∧ World X.K T S3 w2 F2 H3 ∧ Rep X.K S3 d x) → R J H1) → wi σ H R)
    (hK : ∀ (L : Addr) acc w' S' xs H', κ acc w' → Same S S' → F L = none → World X.K T S' w' (upd F L (.lst xs)) H' → RepL X.K S' acc xs → Q (.ref L) H') :
    tLc wi (lcG X scope tg) (lcT X scope ifs) (lcE X scope elt) vs σ H Q := by
  refine h _ fun ds w1 S1 H1 J G Y k s1 W1 ww hG hY L nL => ?_
  obtain ⟨hz, Pv, p0, turn, done⟩ := k
  have fL : F L = none := (W1.free nL).2.2
  refine lc_it ww (g := lcG X scope tg) (tt := lcT X scope ifs) (te := lcE X scope elt) (vs := vs) (σ := σ) (H1 := H1) (D := L) (Qd := fun H => Q (.ref L) H) (fun i H' => ∃ acc w' S' xs, Pv i acc w' ∧ acc.length ≤ i ∧ Same S1 S' ∧ World X.K T S' w' (upd F L (.lst xs)) H' ∧ RepL X.K S' acc xs) ?_ (fun i H' _ ⟨acc, w', S', xs, _, _, s2, W2, _⟩ => hG S' w' _ H' s2 W2) ?_ ?_
  · exact ⟨[], w1, S1, [], p0, Nat.le_refl _, Same.refl _, W1.takeF nL (fun _ z => by cases z), rfl⟩
  · rintro i x H' H3 hi ⟨acc, w', S', xs, pv, hacc, s2, W2, ra⟩ y
    obtain ⟨S3, s3, W3, r⟩ := hY i ds[i] S' w' _ H' x H3 (List.getElem?_eq_getElem hi) s2 W2 y
    intro s H0 C cl fp
    refine turn i ds[i] acc w' (List.getElem?_eq_getElem hi) pv s H0 C cl fp (upd F L (.lst xs)) x (L2.wipe σ vs) S3 H3 _ r ((hE.mono (s1.trans (s2.trans s3))).wipe vs) W3 fun δ2 w2 σ2 S4 H4 k s4 hE4 W4 o4 l4 => ?_
    refine ⟨?_, ?_⟩
    · rw [wipe_eq (σ1 := L2.wipe σ vs) (σ2 := σ2) l4 fun j hj => o4 j fun z => hj (hsub j z)]
      exact wipe_eq (L2.wipe_length σ vs) fun j hj => L2.wipe_out hj
    · intro s H0 C cl fp
      refine k s H0 C cl fp (upd F L (.lst xs)) σ2 S4 H4 _ hE4 W4 fun b w5 S5 H5 k5 s5 W5 => ?_
      cases b with
      | false =>
        rw [if_neg Bool.false_ne_true] at k5 ⊢
        exact ⟨acc, w5, S5, xs, k5, Nat.le_succ_of_le hacc, s2.trans (s3.trans (s4.trans s5)), W5, ra.mono (s3.trans (s4.trans s5))⟩
      | true =>
        rw [if_pos rfl] at k5 ⊢
        intro s H0 C cl fp
        refine k5 s H0 C cl fp (upd F L (.lst xs)) σ2 S5 H5 _ (hE4.mono s5) W5 exf fun d6 w6 v6 S6 H6 k6 s6 W6 r6 => ?_
        have ra6 := ra.mono (s3.trans (s4.trans (s5.trans s6)))
        refine ⟨xs, (W6.frm L _ upd_same).2, by rw [ra6.length]; omega, acc ++ [d6], w6, S6, xs ++ [v6], k6, ?_, s2.trans (s3.trans (s4.trans (s5.trans s6))), ?_, ra6.app (RepL.one r6)⟩
        · rw [List.length_append]
          show acc.length + 1 ≤ i + 1
          omega
        · have W7 := W6.putF (o := .lst (xs ++ [v6])) upd_same (fun _ z => by cases z) (fun _ z => by cases z) (fun _ z => by cases z)
          rw [upd_upd] at W7
          exact W7
  · rintro H' ⟨acc, w', S', xs, pv, hacc, s2, W2, ra⟩
    exact hK L acc w' S' xs H' (done acc w' pv) (s1.trans s2) fL W2 ra
end
end DL

set_option Elab.async false
set_option linter.all false
set_option maxRecDepth 100000
set_option maxHeartbeats 1000000
/-! Comprehensions as expressions and stored; calls of own defs, methods, classes; fields; the rule for a def. -/
namespace DL
open PySem PySem.Spec PyProof.Rows L2 LamX
section
variable {X : Cx} {T : List (Addr × Str)} {W : WX} {χ : XD} {δ : Dn} {w : Wp} {pos : Pos}
theorem pg_bx {scope : Scope} {tg : Expr} (s : Shared) (H : Hp) (C : Addr) (cl : List (Str × Addr)) (fp : List Addr) : PG (X.blk s H scope (compEnvC scope cl C X.env) fp) tg (lcG X scope tg) := ⟨fun pins s1 σ H1 v u Q I r h => h s H C cl fp pins s1 u I r⟩
theorem pt_bx {scope : Scope} {ifs : List Expr} (s : Shared) (H : Hp) (C : Addr) (cl : List (Str × Addr)) (fp : List Addr) : PTs (X.blk s H scope (compEnvC scope cl C X.env) fp) ifs (lcT X scope ifs) := ⟨fun pins s1 σ H1 Q I h => h s H C cl fp pins s1 I⟩
theorem pe_bx {scope : Scope} {e : Expr} (s : Shared) (H : Hp) (C : Addr) (cl : List (Str × Addr)) (fp : List Addr) : PE (X.blk s H scope (compEnvC scope cl C X.env) fp) e (lcE X scope e) := ⟨fun pins s1 σ H1 Q I h => h s H C cl fp pins s1 I⟩
theorem pd_lc {elt tg iter : Expr} {ifs : List Expr} {scope : Scope} (own : List (Str × Nat)) (is : List Nat) {κ : D → Wp → Prop} (hc : X.calm = true) (hN : X.N.Nodup) (ok : BlkOk X.N X.env.scope scope own) (hsub : ∀ i ∈ is, i ∈ own.map (·.2))
    (h : IterD X T W χ tg iter δ w (LcD X T is tg ifs elt scope (own.map (·.2)) δ (fun acc w' => κ (.lst acc) w'))) (hs : ∀ x, foldedSetIterable iter X.env x = pure x := by intro _; rfl) : PD X T W χ (.ListComp elt [⟨tg, iter, ifs, 0⟩] scope pos) δ w κ := fun F σ S H Q hE hW hX hK => by
  obtain ⟨wi, hi, h⟩ := h
  exact wp_pe (pe_lc hc hN hi ok pg_bx pt_bx pe_bx hs) (lc_read hsub hE hW (fun R hR => h F σ S H R hE hW hX hR) (fin_stay hK))
theorem psd_setLc {i : Nat} {y : Str} {py spos : Pos} {elt tg iter : Expr} {ifs : List Expr} {scope : Scope} {C : Fin} (own : List (Str × Nat)) (is : List Nat) (hc : X.calm = true) (hN : X.N.Nodup) (hy : X.N[i]? = some y) (hyl : X.env.scope.names.lookup y = some .local)
    (hsw : swapsWith (.ListComp elt [⟨tg, iter, ifs, 0⟩] scope pos) (some (.Name y py)) spos.line X.env = pure true) (ok : BlkOk X.N X.env.scope scope own) (hsub : ∀ i ∈ is, i ∈ own.map (·.2))
    (h : IterD X T W χ tg iter δ w (LcD X T is tg ifs elt scope (own.map (·.2)) δ (fun acc w' => (fun d w' => C.nx (δ.set i (some d)) w') (.lst acc) w'))) (hs : ∀ x, foldedSetIterable iter X.env x = pure x := by intro _; rfl) : PSD X T W χ (.Assign [.Name y py] (.ListComp elt [⟨tg, iter, ifs, 0⟩] scope pos) spos) δ w C := fun F σ S H E hE hW hX hK => by
  obtain ⟨wi, hi, h⟩ := h
  refine wp_ps (ps_setLc hc hN hy hyl hsw hi ok pg_bx pt_bx pe_bx hs) ?_
  have q := lc_read (Q := fun v H' => gName i v σ H' E.nx) hsub hE hW (fun R hR => h F σ S H R hE hW (hX σ) hR) (fin_stay (κ := fun d w' => C.nx (δ.set i (some d)) w') fun d w' v S' H' k s1 W1 r => hK.nx _ w' _ S' H' k s1 ((hE.mono s1).set i r) W1)
  exact q
theorem pd_lcO {elt tg iter : Expr} {ifs : List Expr} {scope : Scope} (own : List (Str × Nat)) (is : List Nat) {κ : D → Wp → Prop} (hc : X.calm = true) (hN : X.N.Nodup) (ok : BlkOk X.N X.env.scope scope own) (hsub : ∀ i ∈ is, i ∈ own.map (·.2))
    (h : IterD X T W χ tg iter δ w (LcD X T is tg ifs elt scope (own.map (·.2)) δ (fun acc w' => ∀ a, w' a = none → κ (R a) (wu w' a (.lst acc))))) (hs : ∀ x, foldedSetIterable iter X.env x = pure x := by intro _; rfl) : PD X T W χ (.ListComp elt [⟨tg, iter, ifs, 0⟩] scope pos) δ w κ := fun F σ S H Q hE hW hX hK => by
  obtain ⟨wi, hi, h⟩ := h
  exact wp_pe (pe_lc hc hN hi ok pg_bx pt_bx pe_bx hs) (lc_read hsub hE hW (fun R hR => h F σ S H R hE hW hX hR) (fin_own hK))
theorem psd_setLcO {i : Nat} {y : Str} {py spos : Pos} {elt tg iter : Expr} {ifs : List Expr} {scope : Scope} {C : Fin} (own : List (Str × Nat)) (is : List Nat) (hc : X.calm = true) (hN : X.N.Nodup) (hy : X.N[i]? = some y) (hyl : X.env.scope.names.lookup y = some .local)
    (hsw : swapsWith (.ListComp elt [⟨tg, iter, ifs, 0⟩] scope pos) (some (.Name y py)) spos.line X.env = pure true) (ok : BlkOk X.N X.env.scope scope own) (hsub : ∀ i ∈ is, i ∈ own.map (·.2))
    (h : IterD X T W χ tg iter δ w (LcD X T is tg ifs elt scope (own.map (·.2)) δ (fun acc w' => ∀ a, w' a = none → (fun d w' => C.nx (δ.set i (some d)) w') (R a) (wu w' a (.lst acc))))) (hs : ∀ x, foldedSetIterable iter X.env x = pure x := by intro _; rfl) : PSD X T W χ (.Assign [.Name y py] (.ListComp elt [⟨tg, iter, ifs, 0⟩] scope pos) spos) δ w C := fun F σ S H E hE hW hX hK => by
  obtain ⟨wi, hi, h⟩ := h
  refine wp_ps (ps_setLc hc hN hy hyl hsw hi ok pg_bx pt_bx pe_bx hs) ?_
  have q := lc_read (Q := fun v H' => gName i v σ H' E.nx) hsub hE hW (fun R hR => h F σ S H R hE hW (hX σ) hR) (fin_own (κ := fun d w' => C.nx (δ.set i (some d)) w') fun d w' v S' H' k s1 W1 r => hK.nx _ w' _ S' H' k s1 ((hE.mono s1).set i r) W1)
  exact q
/-! ### specs in data -/
abbrev SpD := List D → Wp → (D → Wp → Prop) → XD → Prop
def spOf (K : PySem.W.Frag) (T : List (Addr × Str)) (sp : SpD) : Sp := fun vs H Q E => ∃ ds w F S κ χ, sp ds w κ χ ∧ RepL K S ds vs ∧ World K T S w F H ∧ KD K T κ S F Q ∧
  (∀ C ns fs w' d S' H', χ C ns fs w' → Same S S' → World K T S' w' F H' → XdR K S' d ns fs → E (.ref C) (some d) H')
theorem pass0At {X : Cx} {σ : L2.St} {E : XK} : PassesAt CX0 X σ E := fun _ _ _ _ _ _ h => h.elim
theorem pd_call {CX : CXT} {k : Nat} {f : Addr} {fd : FuncData} {ps : List Str} {sp : SpD} {x : Str} {p : Pos} {e : Expr} {es : List Expr} {κ : D → Wp → Prop} (G : FnOk X.prog X.w X.K X.mg X.base CX k f fd ps (spOf X.K T sp)) (hr : Room k X.A) (hm : X.mg x = some (.ref f))
    (hk : PySem.W.keepIn X.K (.ref f) = true) (hb : Binds X.K fd ps []) (hx : ∀ σ, PassesAt CX X σ (WE W σ)) (h : PAD X T W χ (e :: es) δ w fun ds w1 => sp ds w1 κ χ) (hg : Gl X x := by rfl) (hdb : (x == ("__debug__" : Str)) = false := by decide)
    (he : starEach (e :: es) X.env = (false, eval e X.env) :: starEach es X.env := by rfl) (hpl : (backTo pos (starEach es X.env)).any (·.1) = false := by rfl) : PD X T W χ (.Call (.Name x p) (e :: es) [] pos) δ w κ := fun F σ S H Q hE hW hX hK =>
  wp_pe (pe_callSD G hr hg hm hk hb .nil hx (pa_wp _) hdb he hpl) (by
    refine h F σ S H _ hE hW hX fun ds w1 vs S1 H1 k s1 W1 r => ?_
    show spOf X.K T sp (vs ++ []) H1 Q (WE W σ)
    rw [List.append_nil]
    exact ⟨ds, w1, F, S1, κ, χ, k, r, W1, hK.mono s1, fun C ns fs w' d S' H' x s2 W2 xr => hX C ns fs w' d S' H' x (s1.trans s2) W2 xr⟩)
/-- a receiver: an instance of the class at C that has no field m -/
def InsD (C : Addr) (m : Str) (d : D) (w : Wp) : Prop := match d with
  | .obj C' ns _ => C' = C ∧ m ∉ ns
  | .val (.ref a) => ∃ dx ns ds, w a = some (.ins C dx ns ds) ∧ m ∉ ns
  | _ => False
theorem lookup_no {ys : List (Str × V)} {m : Str} (h : m ∉ ys.map (·.1)) : ys.lookup m = none := by
  induction ys with
  | nil => rfl
  | cons p ys ih =>
    obtain ⟨g, x⟩ := p
    have h1 : ¬ m = g := fun z => h (by rw [z]; exact List.mem_cons_self ..)
    have hb : (m == g) = false := beq_eq_false_iff_ne.mpr h1
    simp only [List.lookup, hb]
    exact ih fun z => h (List.mem_cons_of_mem _ z)
theorem InsD.is {K : PySem.W.Frag} {C : Addr} {m : Str} {d : D} {w : Wp} {S F H : Hp} {x : V} (i : InsD C m d w) (hW : World K T S w F H) (r : Rep K S d x) : ∃ a dx fs, x = .ref a ∧ H a = some (.ins C dx fs) ∧ fs.lookup m = none := by
  cases d with
  | obj C' ns ds =>
    obtain ⟨rfl, hm⟩ := i
    obtain ⟨a, dx, ys, rfl, h1, rfl, _⟩ := r
    exact ⟨a, dx, ys, rfl, hW.same _ _ h1, lookup_no hm⟩
  | val v =>
    have e : x = v := r
    subst e
    cases x with
    | ref a =>
      obtain ⟨dx, ns, ds, hw, hm⟩ := i
      obtain ⟨_, _, o, h1, h2⟩ := hW.own a _ hw
      obtain ⟨ys, rfl, rfl, h3⟩ := h2
      exact ⟨a, dx, ys, rfl, h1, lookup_no hm⟩
    | _ => exact i.elim
  | _ => exact i.elim
def tMethSD (C : Addr) (m : Str) (sp : Sp) (E : L2.St → XK) (ta : TE) (t : TA) : TE := fun σ H Q => ta σ H fun x H1 => ∃ a dx fs, x = .ref a ∧ H1 a = some (.ins C dx fs) ∧ fs.lookup m = none ∧
  t σ H1 fun vs H2 => sp (x :: vs) H2 Q (E σ)
theorem pe_methSD {CX : CXT} {k : Nat} {f C : Addr} {fd : FuncData} {ps : List Str} {sp : Sp} {E : L2.St → XK} {m : Str} {apos : Pos} {e o : Expr} {es : List Expr} {ta : TE} {t : TA} {pl : Sem Bool} (he : PE X o ta) (c : Cls X.K C) (hm : Meth X.K C m f) (G : FnOk X.prog X.w X.K X.mg X.base CX k f fd ps sp) (hr : Room k X.A) (hb : Binds X.K fd ps [])
    (hx : ∀ σ, PassesAt CX X σ (E σ)) (ha : PA X (e :: es) t)
    (hst : starEach (e :: es) X.env = (false, eval e X.env) :: starEach es X.env := by rfl) (hpl : (backTo pos (starEach es X.env)).any (·.1) = false := by rfl)
    (ht : eval (.Call (.Attribute o m apos) (e :: es) [] pos) X.env = (do
      let ov ← eval o X.env
      standAt apos.atName
      let (f, first) ← holding [ov] (getMethod ov m pl)
      callWith pos f first (backTo pos (starEach (e :: es) X.env)) (backToKw pos (keywordEach [] X.env))) := by rfl) : PE X (.Call (.Attribute o m apos) (e :: es) [] pos) (tMethSD C m sp E ta t) := by
  refine ⟨fun pins s σ H Q I h => ?_⟩
  refine PySem.W.methodCall_KW (pl := pl) (thn (he.run pins s σ H _ I h) fun u s1 ⟨x, H1, I1, rx, a, dx, fs, ex, ea, l, q⟩ => ?_) ht
  subst ex
  obtain rfl : u = Value.ref a := rx
  refine getmeth_ok I1 ea c hm l ?_
  refine PySem.W.callWith_K (first := [.ref a]) (h₀ := X.base) I.ok.mod.kin hm.kp (thn (ha.run pos pins s1 σ H1 _ I1 q) fun us s2 ⟨vs, H2, I2, r, q2⟩ => ⟨I2.kIn, ?_⟩) hst hpl
  exact run_fnSD (us := .ref a :: us) (vs := .ref a :: vs) (dvs := []) (ds := []) G hr hb .nil (hx σ) I2 (.cons rfl r) (by rw [List.append_nil]; exact q2)
theorem pe_meth0SD {CX : CXT} {k : Nat} {f C : Addr} {fd : FuncData} {ps : List Str} {sp : Sp} {E : L2.St → XK} {m : Str} {apos : Pos} {o : Expr} {ta : TE} {pl : Sem Bool} (he : PE X o ta) (c : Cls X.K C) (hm : Meth X.K C m f) (G : FnOk X.prog X.w X.K X.mg X.base CX k f fd ps sp) (hr : Room k X.A) (hb : Binds X.K fd ps [])
    (hx : ∀ σ, PassesAt CX X σ (E σ))
    (ht : eval (.Call (.Attribute o m apos) [] [] pos) X.env = (do
      let ov ← eval o X.env
      standAt apos.atName
      let (f, first) ← holding [ov] (getMethod ov m pl)
      callWith pos f first (backTo pos (starEach [] X.env)) (backToKw pos (keywordEach [] X.env))) := by rfl) : PE X (.Call (.Attribute o m apos) [] [] pos) (tMethSD C m sp E ta tNil) := by
  refine ⟨fun pins s σ H Q I h => ?_⟩
  refine PySem.W.methodCall_KW (pl := pl) (thn (he.run pins s σ H _ I h) fun u s1 ⟨x, H1, I1, rx, a, dx, fs, ex, ea, l, q⟩ => ?_) ht
  subst ex
  obtain rfl : u = Value.ref a := rx
  refine getmeth_ok I1 ea c hm l ?_
  exact PySem.W.callWith_K0 (first := [.ref a]) I1.kIn hm.kp (run_fnSD (us := [.ref a]) (vs := [.ref a]) (dvs := []) (ds := []) G hr hb .nil (hx σ) I1 (.cons rfl .nil) q)
theorem pd_meth {CX : CXT} {k : Nat} {f C : Addr} {fd : FuncData} {ps : List Str} {sp : SpD} {m : Str} {apos : Pos} {e o : Expr} {es : List Expr} {κ : D → Wp → Prop} {pl : Sem Bool} (c : Cls X.K C) (hm : Meth X.K C m f) (G : FnOk X.prog X.w X.K X.mg X.base CX k f fd ps (spOf X.K T sp)) (hr : Room k X.A) (hb : Binds X.K fd ps [])
    (hx : ∀ σ, PassesAt CX X σ (WE W σ)) (h : PD X T W χ o δ w fun d w1 => InsD C m d w1 ∧ PAD X T W χ (e :: es) δ w1 fun ds w2 => sp (d :: ds) w2 κ χ)
    (hst : starEach (e :: es) X.env = (false, eval e X.env) :: starEach es X.env := by rfl) (hpl : (backTo pos (starEach es X.env)).any (·.1) = false := by rfl)
    (ht : eval (.Call (.Attribute o m apos) (e :: es) [] pos) X.env = (do
      let ov ← eval o X.env
      standAt apos.atName
      let (f, first) ← holding [ov] (getMethod ov m pl)
      callWith pos f first (backTo pos (starEach (e :: es) X.env)) (backToKw pos (keywordEach [] X.env))) := by rfl) : PD X T W χ (.Call (.Attribute o m apos) (e :: es) [] pos) δ w κ := fun F σ S H Q hE hW hX hK =>
  wp_pe (pe_methSD (pe_wp o) c hm G hr hb hx (pa_wp _) hst hpl ht) (by
    refine h F σ S H _ hE hW hX fun d w1 v S1 H1 k s1 W1 r => ?_
    obtain ⟨a, dx, fs, rfl, h1, h2⟩ := k.1.is W1 r
    refine ⟨a, dx, fs, rfl, h1, h2, ?_⟩
    refine k.2 F σ S1 H1 _ (hE.mono s1) W1 (hX.mono s1) fun ds w2 vs S2 H2 k2 s2 W2 r2 => ?_
    exact ⟨d :: ds, w2, F, S2, κ, χ, k2, ⟨_, vs, rfl, r.mono s2, r2⟩, W2, hK.mono (s1.trans s2), fun C ns fs w' d S' H' x s3 W3 xr => hX C ns fs w' d S' H' x (s1.trans (s2.trans s3)) W3 xr⟩)
theorem pd_meth0 {CX : CXT} {k : Nat} {f C : Addr} {fd : FuncData} {ps : List Str} {sp : SpD} {m : Str} {apos : Pos} {o : Expr} {κ : D → Wp → Prop} {pl : Sem Bool} (c : Cls X.K C) (hm : Meth X.K C m f) (G : FnOk X.prog X.w X.K X.mg X.base CX k f fd ps (spOf X.K T sp)) (hr : Room k X.A) (hb : Binds X.K fd ps [])
    (hx : ∀ σ, PassesAt CX X σ (WE W σ)) (h : PD X T W χ o δ w fun d w1 => InsD C m d w1 ∧ sp [d] w1 κ χ)
    (ht : eval (.Call (.Attribute o m apos) [] [] pos) X.env = (do
      let ov ← eval o X.env
      standAt apos.atName
      let (f, first) ← holding [ov] (getMethod ov m pl)
      callWith pos f first (backTo pos (starEach [] X.env)) (backToKw pos (keywordEach [] X.env))) := by rfl) : PD X T W χ (.Call (.Attribute o m apos) [] [] pos) δ w κ := fun F σ S H Q hE hW hX hK =>
  wp_pe (pe_meth0SD (pe_wp o) c hm G hr hb hx ht) (by
    refine h F σ S H _ hE hW hX fun d w1 v S1 H1 k s1 W1 r => ?_
    obtain ⟨a, dx, fs, rfl, h1, h2⟩ := k.1.is W1 r
    refine ⟨a, dx, fs, rfl, h1, h2, ?_⟩
    exact ⟨[d], w1, F, S1, κ, χ, k.2, ⟨_, [], rfl, r, rfl⟩, W1, hK.mono s1, fun C ns fs w' d S' H' x s3 W3 xr => hX C ns fs w' d S' H' x (s1.trans s3) W3 xr⟩)
/-- C(e, ..) -/
theorem run_makeSD {CX : CXT} {k : Nat} {f C : Addr} {fd : FuncData} {ps : List Str} {sp : Sp} {E : XK} {pins : List (Addr × Obj)} {σ : L2.St} {H : Hp} {s : Shared} {Q : VK} {us : List Value} {vs : List V} (M : Mk X.K C f) (G : FnOk X.prog X.w X.K X.mg X.base CX k f fd ps sp) (hr : Room (k + 1) X.A) (hb : Binds X.K fd ps [])
    (hx : PassesAt CX X σ E) (I : Inv X pins σ H s) (r : Vals vs us)
    (h : ∀ x dx, H x = none → H dx = none → dx ≠ x → sp (.ref x :: vs) (upd (upd H dx (.own x)) x (.ins C dx [])) (fun v H2 => v = .non ∧ Q (.ref x) H2) E) :
    wpAny (model X.prog X.w) X.A (call (.ref C) us) (EP X pins σ Q) X.xe s := by
  have hq := h (s.heap.objs.size + 1) s.heap.objs.size (I.hok.fresh (Nat.le_succ _)) (I.hok.fresh (Nat.le_refl _)) (Nat.ne_of_lt (Nat.lt_succ_self _))
  have I2 := Inv.made (C := C) I
  have r2 : Vals (V.ref (s.heap.objs.size + 1) :: vs) (Value.ref (s.heap.objs.size + 1) :: us) := .cons rfl r
  have hl : ((Value.ref (s.heap.objs.size + 1) :: us) ++ []).length = ps.length := by
    have e := r2.length
    rw [F_len G hq] at e
    rw [List.append_nil]
    exact e.symm
  have bb := hb _ (Value.ref (s.heap.objs.size + 1) :: us) I2.kIn hl
  rw [List.append_nil] at bb
  refine wpAny_call (make_map (f := f) I.kIn M.makes M.init (beq_iff_eq.mp M.fn) (codeAny_mono (G.run _ X.stack _ _ ⟨Value.ref (s.heap.objs.size + 1) :: us, []⟩ (Value.ref (s.heap.objs.size + 1) :: us) _ _ E (hr.make C us [])
    (I2.env0.make C us []) bb r2 hq) fun r s' hq' => ?_))
  cases r with
  | error e => exact hx pins _ _ e s' I2 hq'
  | ok fl =>
    cases fl with
    | ret u =>
      obtain ⟨v, H', I3, rv, ev, q3⟩ := I2.after hq'
      subst ev
      exact ⟨rv, ⟨V.ref (s.heap.objs.size + 1), H', I3, rfl, q3⟩⟩
    | next => exact False.elim hq'
    | brk => exact False.elim hq'
    | cont => exact False.elim hq'
where F_len {CX : CXT} {k : Nat} {f : Addr} {fd : FuncData} {ps : List Str} {sp : Sp} {E : XK} {Q : VK} {H : Hp} {vs : List V} (G : FnOk X.prog X.w X.K X.mg X.base CX k f fd ps sp) (h : sp vs H Q E) : vs.length = ps.length := G.len _ _ _ _ h
def tMakeSD (C : Addr) (sp : Sp) (E : L2.St → XK) (t : TA) : TE := fun σ H Q => t σ H fun vs H1 => ∀ x dx, H1 x = none → H1 dx = none → dx ≠ x →
  sp (.ref x :: vs) (upd (upd H1 dx (.own x)) x (.ins C dx [])) (fun v H2 => v = .non ∧ Q (.ref x) H2) (E σ)
theorem pe_makeSD {CX : CXT} {k : Nat} {f C : Addr} {fd : FuncData} {ps : List Str} {sp : Sp} {E : L2.St → XK} {x : Str} {p : Pos} {e : Expr} {es : List Expr} {t : TA} (M : Mk X.K C f) (G : FnOk X.prog X.w X.K X.mg X.base CX k f fd ps sp) (hr : Room (k + 1) X.A) (hg : Gl X x) (hm : X.mg x = some (.ref C)) (hb : Binds X.K fd ps []) (hx : ∀ σ, PassesAt CX X σ (E σ))
    (ha : PA X (e :: es) t) (hdb : (x == ("__debug__" : Str)) = false := by decide) (he : starEach (e :: es) X.env = (false, eval e X.env) :: starEach es X.env := by rfl) (hpl : (backTo pos (starEach es X.env)).any (·.1) = false := by rfl) :
    PE X (.Call (.Name x p) (e :: es) [] pos) (tMakeSD C sp E t) := by
  refine ⟨fun pins s σ H Q I h => ?_⟩
  refine wpAny_Call_Name_kw (ld_glob I hg hm ?_ hdb)
  refine PySem.W.callWith_K (h₀ := X.base) I.ok.mod.kin M.kp (thn (ha.run pos pins s σ H _ I h) fun us s1 ⟨vs, H1, I1, r, q⟩ => ⟨I1.kIn, ?_⟩) he hpl
  exact run_makeSD M G hr hb (hx σ) I1 r q
theorem pd_make {CX : CXT} {k : Nat} {f C : Addr} {fd : FuncData} {ps : List Str} {sp : SpD} {x : Str} {p : Pos} {e : Expr} {es : List Expr} {κ : D → Wp → Prop} (M : Mk X.K C f) (G : FnOk X.prog X.w X.K X.mg X.base CX k f fd ps (spOf X.K T sp)) (hr : Room (k + 1) X.A) (hm : X.mg x = some (.ref C)) (hb : Binds X.K fd ps []) (hx : ∀ σ, PassesAt CX X σ (WE W σ))
    (h : PAD X T W χ (e :: es) δ w fun ds w1 => ∀ a dx, w1 a = none → sp (R a :: ds) (wu w1 a (.ins C dx [] [])) (fun d w2 => d = N ∧ ∃ ns es, w2 a = some (.ins C dx ns es) ∧ κ (.obj C ns es) (wd w2 a)) χ)
    (hg : Gl X x := by rfl) (hdb : (x == ("__debug__" : Str)) = false := by decide) (he : starEach (e :: es) X.env = (false, eval e X.env) :: starEach es X.env := by rfl) (hpl : (backTo pos (starEach es X.env)).any (·.1) = false := by rfl) :
    PD X T W χ (.Call (.Name x p) (e :: es) [] pos) δ w κ := fun F σ S H Q hE hW hX hK => wp_pe (pe_makeSD M G hr hg hm hb hx (pa_wp _) hdb he hpl) (by
  refine h F σ S H _ hE hW hX fun ds w1 vs S1 H1 k s1 W1 r => ?_
  intro a dx na ndx nad
  have W2 := (W1.junk (o := .own a) ndx).take (a := a) (h := .ins C dx [] []) (o := .ins C dx []) (by rw [upd_ne (Ne.symm nad)]; exact na) ⟨[], rfl, rfl, rfl⟩
  refine ⟨R a :: ds, _, F, S1, _, χ, k a dx (W1.free na).2.1, ⟨_, vs, rfl, rfl, r⟩, W2, ?_, fun C ns fs w' d S' H' x s3 W3 xr => hX C ns fs w' d S' H' x (s1.trans s3) W3 xr⟩
  rintro d w' v S' H' ⟨rfl, ns, es, ew, kk⟩ s2 W3 rv
  refine ⟨rv, ?_⟩
  obtain ⟨o, e1, r3, W4⟩ := W3.freeze ew
  obtain ⟨ys, rfl, hys, r4⟩ := r3
  have s3 : Same S' (upd S' a (.ins C dx ys)) := same_upd e1
  exact hK _ _ _ _ _ kk (s1.trans (s2.trans s3)) W4 ⟨a, dx, ys, rfl, upd_same, hys, r4.mono s3⟩)
/-! ### fields -/
def look2 : List Str → List D → Str → Option D
  | n :: ns, d :: ds, f => if f = n then some d else look2 ns ds f
  | _, _, _ => none
theorem look2_at {K : PySem.W.Frag} {S : Hp} : ∀ {ys : List (Str × V)} {ds : List D} {f : Str} {d : D}, RepL K S ds (ys.map (·.2)) → look2 (ys.map (·.1)) ds f = some d → ∃ v, ys.lookup f = some v ∧ Rep K S d v
  | [], ds, f, d, r, h => by cases h
  | (g, x) :: ys, [], f, d, r, h => by cases h
  | (g, x) :: ys, d0 :: ds, f, d, r, h => by
    obtain ⟨y, zs, e, r1, r2⟩ := r
    have e' : x :: ys.map (·.2) = y :: zs := e
    cases e'
    have h' : (if f = g then some d0 else look2 (ys.map (·.1)) ds f) = some d := h
    by_cases q : f = g
    · rw [if_pos q] at h'
      cases h'
      subst q
      exact ⟨x, by simp [List.lookup], r1⟩
    · rw [if_neg q] at h'
      obtain ⟨v, h1, h2⟩ := look2_at r2 h'
      have hb : (f == g) = false := beq_eq_false_iff_ne.mpr q
      exact ⟨v, by simp only [List.lookup, hb]; exact h1, h2⟩
/-- the instance d of the class at C has at f the data u -/
def FldD (C : Addr) (f : Str) (d : D) (w : Wp) (u : D) : Prop := match d with
  | .obj C' ns ds => C' = C ∧ look2 ns ds f = some u
  | .val (.ref a) => ∃ dx ns ds, w a = some (.ins C dx ns ds) ∧ look2 ns ds f = some u
  | _ => False
theorem pd_fld {e : Expr} {f : Str} {C : Addr} {κ : D → Wp → Prop} (c : Cls X.K C) (n : NoAttr X.K C f) (h : PD X T W χ e δ w fun d w1 => ∃ u, FldD C f d w1 u ∧ κ u w1)
    (hb : attributeBase e f X.env (eval e X.env) = eval e X.env := by rfl) : PD X T W χ (.Attribute e f pos) δ w κ := fun F σ S H Q hE hW hX hK => wp_pe (pe_fld (pe_wp e) hb) (by
  refine h F σ S H _ hE hW hX fun d w1 v S1 H1 k s1 W1 r => ?_
  obtain ⟨u, hf, k⟩ := k
  cases d with
  | obj C' ns ds =>
    obtain ⟨rfl, hl⟩ := hf
    obtain ⟨a, dx, ys, rfl, h1, rfl, h3⟩ := r
    obtain ⟨v, h4, h5⟩ := look2_at h3 hl
    exact ⟨a, _, dx, ys, v, rfl, W1.same _ _ h1, c, n, h4, hK u w1 v S1 H1 k s1 W1 h5⟩
  | val v' =>
    have e' : v = v' := r
    subst e'
    cases v with
    | ref a =>
      obtain ⟨dx, ns, ds, hw, hl⟩ := hf
      obtain ⟨_, _, o, h1, h2⟩ := W1.own a _ hw
      obtain ⟨ys, rfl, rfl, h3⟩ := h2
      obtain ⟨v, h4, h5⟩ := look2_at h3 hl
      exact ⟨a, _, dx, ys, v, rfl, h1, c, n, h4, hK u w1 v S1 H1 k s1 W1 h5⟩
    | _ => exact hf.elim
  | _ => exact hf.elim)
theorem putF_new {f : Str} {v : V} : ∀ {ys : List (Str × V)}, f ∉ ys.map (·.1) → putF f v ys = ys ++ [(f, v)]
  | [], _ => rfl
  | (g, x) :: ys, h => by
    show (if g = f then (g, v) :: ys else (g, x) :: putF f v ys) = _
    rw [if_neg (fun z => h (by rw [← z]; exact List.mem_cons_self ..)), putF_new fun z => h (List.mem_cons_of_mem _ z)]
    rfl
/-- self.f = e, f new -/
theorem psd_fldNew {o e : Expr} {f : Str} {fp : Pos} {C : Addr} {Fi : Fin} (c : Cls X.K C) (n : NoAttr X.K C f) (h : PD X T W χ e δ w fun d w1 => PD X T W χ o δ w1 fun od w2 => ∃ a dx ns ds, od = R a ∧ w2 a = some (.ins C dx ns ds) ∧ f ∉ ns ∧ ns.length < 1000 ∧ Fi.nx δ (wu w2 a (.ins C dx (ns ++ [f]) (ds ++ [d]))))
    (hs : swapsWith e (some (.Attribute o f fp)) pos.line X.env = pure false := by rfl) : PSD X T W χ (.Assign [.Attribute o f fp] e pos) δ w Fi := fun F σ S H E hE hW hX hK => wp_ps (ps_fld (pe_wp o) (pe_wp e) hs) (by
  refine h F σ S H _ hE hW (hX σ) fun d w1 v S1 H1 k s1 W1 r => ?_
  refine k F σ S1 H1 _ (hE.mono s1) W1 ((hX σ).mono s1) fun od w2 x S2 H2 k2 s2 W2 r2 => ?_
  obtain ⟨a, dx, ns, ds, rfl, hw, hn, hl, k2⟩ := k2
  have r2' : x = .ref a := r2
  subst r2'
  obtain ⟨_, _, ob, h1, h2⟩ := W2.own a _ hw
  obtain ⟨ys, rfl, rfl, h3⟩ := h2
  refine ⟨a, C, dx, ys, rfl, h1, c, n, by rw [List.length_map] at hl; exact hl, ?_⟩
  rw [putF_new hn]
  refine hK.nx δ _ σ S2 _ k2 (s1.trans s2) (hE.mono (s1.trans s2)) (W2.put hw ⟨_, rfl, by rw [List.map_append]; rfl, ?_⟩)
  rw [List.map_append]
  exact h3.app (RepL.one (r.mono s2)))
/-- a class's constant -/
theorem pd_cval {e : Expr} {f : Str} {mc : Value} {C : Addr} {v : V} {u : Value} {κ : D → Wp → Prop} (r : ClX.CRead X.K C mc) (k : ClX.CVal X.K C mc f v u) (h : PD X T W χ e δ w fun d w1 => d = R C ∧ κ (.val v) w1)
    (hb : attributeBase e f X.env (eval e X.env) = eval e X.env := by rfl) : PD X T W χ (.Attribute e f pos) δ w κ := fun F σ S H Q hE hW hX hK => wp_pe (ClX.pe_cval (pe_wp e) hb) (by
  refine h F σ S H _ hE hW hX fun d w1 x S1 H1 q s1 W1 r1 => ?_
  obtain ⟨rfl, q⟩ := q
  exact ⟨C, mc, v, u, r1, r, k, hK _ w1 _ S1 H1 q s1 W1 rfl⟩)
theorem pd_glob {x : Str} {v : V} {u : Value} {κ : D → Wp → Prop} (hm : X.mg x = some u) (r : RelV v u) (k : κ (.val v) w) (hg : Gl X x := by rfl) (hd : (x == ("__debug__" : Str)) = false := by decide) : PD X T W χ (.Name x pos) δ w κ :=
  fun F σ S H Q hE hW hX hK => wp_pe (pe_glob hg hm r hd) (hK _ w _ S H k (Same.refl _) hW rfl)
theorem pd_bltn {x : Str} {v : V} {u : Value} {κ : D → Wp → Prop} (hm : X.mg x = none) (hv : bootBuiltins x = some u) (r : RelV v u) (k : κ (.val v) w) (hg : Gl X x := by rfl) (hn : x ≠ "__name__" := by decide) (hd : (x == ("__debug__" : Str)) = false := by decide) : PD X T W χ (.Name x pos) δ w κ :=
  fun F σ S H Q hE hW hX hK => wp_pe (pe_bltn hg hm hv r hn hd) (hK _ w _ S H k (Same.refl _) hW rfl)
end
/-! ### defs -/
def startD (N : List Str) (ds : List D) : Dn := ds.map some ++ List.replicate (N.length - ds.length) none
theorem env_start {K : PySem.W.Frag} {S : Hp} {N : List Str} {ds : List D} {vs : List V} (r : RepL K S ds vs) : EnvD K S (startD N ds) (L2.start N vs) := by
  have hl := r.length
  refine ⟨by unfold startD L2.start; rw [List.length_append, List.length_append, List.length_map, List.length_map, List.length_replicate, List.length_replicate, hl], fun i d h => ?_⟩
  unfold startD at h
  by_cases hi : i < ds.length
  · rw [List.getElem?_append_left (by rw [List.length_map]; exact hi), List.getElem?_map] at h
    cases e : ds[i]? with
    | none =>
      rw [e] at h
      cases h
    | some d' =>
      rw [e] at h
      cases h
      obtain ⟨v, h1, h2⟩ := r.get e
      refine ⟨v, ?_, h2⟩
      unfold L2.start
      rw [List.getElem?_append_left (by rw [List.length_map, hl]; exact hi), List.getElem?_map, h1]
      rfl
  · rw [List.getElem?_append_right (by rw [List.length_map]; omega), List.getElem?_replicate] at h
    split at h <;> cases h
section
variable {P : Program} {w : PySem.World} {K : PySem.W.Frag} {mg : Str → Option Value} {base : Heap} {T : List (Addr × Str)}
/-- a def that lets no error out -/
theorem fnD {x qual : Str} {st : Stmt} {f : Addr} {fd : FuncData} {N ps : List Str} {k : Nat} {sp : SpD} (G : Fun K x qual st f fd) (S : FnScope N ps (defScope st)) (len : ∀ ds w κ χ, sp ds w κ χ → ds.length = ps.length)
    (body : ∀ (cdv : Value) (A : Around) (outer : List Env) (s : Shared) (H : Hp) (E : XK) (ds : List D) (w0 : Wp) (κ : D → Wp → Prop) (χ : XD), Room k (A.deeper (envOfC qual (defScope st) s.heap.objs.size f cdv)) → sp ds w0 κ χ →
      PSsD (cxOf CX0 P w K mg base N qual (defScope st) f cdv A outer s H E).nox T Wf noX (defBody st) (startD N ds) w0 { nx := fun _ w' => κ DL.N w', rt := κ }) : FnOk P w K mg base CX0 (k + 1) f fd ps (spOf K T sp) := by
  refine G.ok S (fun vs H Q E h => ?_) (fun cdv A outer s H vs Q E hr h => ?_)
  · obtain ⟨ds, w0, F, S0, κ, χ, h1, h2, _⟩ := h
    rw [h2.length]
    exact len _ _ _ _ h1
  · obtain ⟨ds, w0, F, S0, κ, χ, h1, h2, h3, h4, h5⟩ := h
    refine ⟨_, pss_wp _, ?_⟩
    exact body cdv A outer s H E ds w0 κ χ hr h1 F _ S0 H _ (env_start h2) h3 exsf ⟨fun δ' w' σ' S' H' k s1 hE W1 => h4 _ w' _ S' H' k s1 W1 rfl, h4, fun _ _ _ _ _ z => z.elim, fun _ _ _ _ _ z => z.elim⟩
/-- a def that may raise -/
theorem fnX {x qual : Str} {st : Stmt} {f : Addr} {fd : FuncData} {N ps : List Str} {k : Nat} {sp : SpD} (G : Fun K x qual st f fd) (S : FnScope N ps (defScope st)) (len : ∀ ds w κ χ, sp ds w κ χ → ds.length = ps.length)
    (body : ∀ (cdv : Value) (A : Around) (outer : List Env) (s : Shared) (H : Hp) (E : XK) (ds : List D) (w0 : Wp) (κ : D → Wp → Prop) (χ : XD), Room k (A.deeper (envOfC qual (defScope st) s.heap.objs.size f cdv)) → sp ds w0 κ χ →
      PSsD (cxOf (L2.CX P w) P w K mg base N qual (defScope st) f cdv A outer s H E) T (fun cls d _ H => E cls d H) χ (defBody st) (startD N ds) w0 { nx := fun _ w' => κ DL.N w', rt := κ }) : FnOk P w K mg base (L2.CX P w) (k + 1) f fd ps (spOf K T sp) := by
  refine G.okX S (fun vs H Q E h => ?_) (fun cdv A outer s H vs Q E hr h => ?_)
  · obtain ⟨ds, w0, F, S0, κ, χ, h1, h2, _⟩ := h
    rw [h2.length]
    exact len _ _ _ _ h1
  · obtain ⟨ds, w0, F, S0, κ, χ, h1, h2, h3, h4, h5⟩ := h
    refine ⟨_, pss_wp _, ?_⟩
    exact body cdv A outer s H E ds w0 κ χ hr h1 F _ S0 H _ (env_start h2) h3 (fun σ C ns fs w' d S' H' x s1 W1 xr => h5 C ns fs w' d S' H' x s1 W1 xr) ⟨fun δ' w' σ' S' H' k s1 hE W1 => h4 _ w' _ S' H' k s1 W1 rfl, h4, fun _ _ _ _ _ z => z.elim, fun _ _ _ _ _ z => z.elim⟩
end
end DL

set_option Elab.async false
set_option linter.all false
set_option maxRecDepth 100000
set_option maxHeartbeats 1000000
/-! Slices, index, isinstance. -/
namespace DL
open PySem PySem.Spec PyProof.Rows L2 LamX
theorem cut_to (xs : List V) (n : Nat) : cutV xs none (some (n : Int)) = xs.take n := by
  unfold cutV
  rw [HT.sIx_none, HT.sIx_nat, List.drop_zero, Nat.sub_zero]
  by_cases h : n ≤ xs.length
  · rw [Nat.min_eq_left h]
  · rw [Nat.min_eq_right (by omega), List.take_of_length_le (Nat.le_refl _), List.take_of_length_le (by omega)]
theorem cut_from (xs : List V) (n : Nat) : cutV xs (some (n : Int)) none = xs.drop n := by
  unfold cutV
  rw [HT.sIx_none, HT.sIx_nat]
  by_cases h : n ≤ xs.length
  · rw [Nat.min_eq_left h, List.take_of_length_le (by rw [List.length_drop]; omega)]
  · rw [Nat.min_eq_right (by omega), List.drop_eq_nil_of_le (Nat.le_refl _), List.drop_eq_nil_of_le (by omega), List.take_nil]
section
variable {X : Cx} {T : List (Addr × Str)} {W : WX} {χ : XD} {δ : Dn} {w : Wp} {pos : Pos}
/-- what may be read as a list -/
def LstD (d : D) (ds : List D) : Prop := d = .lst ds ∨ d = .rd ds
theorem LstD.at_ {K : PySem.W.Frag} {S F H : Hp} {w : Wp} {d : D} {ds : List D} {x : V} (l : LstD d ds) (hW : World K T S w F H) (r : Rep K S d x) : ∃ a xs, x = .ref a ∧ SqL K H a xs ∧ RepL K S ds xs := by
  rcases l with rfl | rfl
  · obtain ⟨a, xs, rfl, h1, h2⟩ := r
    exact ⟨a, xs, rfl, SqL.of (hW.same _ _ h1), h2⟩
  · obtain ⟨a, xs, rfl, h1, h2⟩ := r
    exact ⟨a, xs, rfl, hW.same.seq h1, h2⟩
/-- xs[:n] -/
theorem pd_slTo {e : Expr} {n : Nat} {j : Nat} {p1 p2 : Pos} {κ : D → Wp → Prop} (h : PD X T W χ e δ w fun d w1 => ∃ ds, LstD d ds ∧ κ (.lst (ds.take n)) w1) : PD X T W χ (.Subscript e (.Slice none (some (.Constant (.int (n : Int)) j p1)) none p2) pos) δ w κ := fun F σ S H Q hE hW hX hK =>
  wp_pe (pe_slice sl_list (pe_wp e) po_none (po_some pe_int)) (by
    refine h F σ S H _ hE hW hX fun d w1 v S1 H1 k s1 W1 r => ?_
    obtain ⟨ds, hl, k⟩ := k
    obtain ⟨a, xs, rfl, h1, h2⟩ := hl.at_ W1 r
    refine ⟨n, rfl, a, xs, rfl, h1, fun p hp => ?_⟩
    rw [cut_to]
    have s2 : Same S1 (upd S1 p (.lst (xs.take n))) := same_upd (W1.free hp).1
    exact hK _ w1 _ _ _ k (s1.trans s2) (W1.laid hp fun _ z => by cases z) ⟨p, _, rfl, upd_same, (h2.take n).mono s2⟩)
/-- xs[n:] -/
theorem pd_slFrom {e : Expr} {n : Nat} {j : Nat} {p1 p2 : Pos} {κ : D → Wp → Prop} (h : PD X T W χ e δ w fun d w1 => ∃ ds, LstD d ds ∧ κ (.lst (ds.drop n)) w1) : PD X T W χ (.Subscript e (.Slice (some (.Constant (.int (n : Int)) j p1)) none none p2) pos) δ w κ := fun F σ S H Q hE hW hX hK =>
  wp_pe (pe_slice sl_list (pe_wp e) (po_some pe_int) po_none) (by
    refine h F σ S H _ hE hW hX fun d w1 v S1 H1 k s1 W1 r => ?_
    obtain ⟨ds, hl, k⟩ := k
    obtain ⟨a, xs, rfl, h1, h2⟩ := hl.at_ W1 r
    refine ⟨n, rfl, a, xs, rfl, h1, fun p hp => ?_⟩
    rw [cut_from]
    have s2 : Same S1 (upd S1 p (.lst (xs.drop n))) := same_upd (W1.free hp).1
    exact hK _ w1 _ _ _ k (s1.trans s2) (W1.laid hp fun _ z => by cases z) ⟨p, _, rfl, upd_same, (h2.drop n).mono s2⟩)
end
section
variable {K : PySem.W.Frag} {T : List (Addr × Str)} {w : Wp} {κ : D → Wp → Prop}
theorem before_ix : ∀ {ns : List Int} {m : Nat} {n : Int}, m < ns.idxOf n → ns[m]? ≠ some n
  | [], m, n, h => by simp at h
  | a :: ns, m, n, h => by
    rw [List.idxOf_cons] at h
    by_cases e : a = n
    · have e' : (a == n) = true := beq_iff_eq.mpr e
      rw [e'] at h
      exact absurd h (Nat.not_lt_zero _)
    · have e' : (a == n) = false := beq_eq_false_iff_ne.mpr e
      rw [e'] at h
      have h' : m < ns.idxOf n + 1 := h
      cases m with
      | zero => exact fun z => e (Option.some.inj z)
      | succ m => exact before_ix (ns := ns) (m := m) (by omega)
/-- xs.index(x), ints -/
theorem vm_index {ns : List Int} {n : Int} (hm : n ∈ ns) (k : κ (I ((ns.idxOf n : Nat) : Int)) w) : VRM K T (rIndex K) (.lst (ns.map I)) [I n] w κ := fun F S H x xs Q hW r1 r2 hK => by
  obtain ⟨a, ys, rfl, h1, h2⟩ := r1
  obtain ⟨y, zs, rfl, h3, h4⟩ := r2
  have h3' : y = .int n := h3
  have h4' : zs = [] := h4
  have h2' := h2.ints
  subst h3' h4' h2'
  have hi : ns.idxOf n < ns.length := List.idxOf_lt_length_of_mem hm
  refine ⟨a, ns.map V.int, .int n, ns.idxOf n, .int n, rfl, rfl, SqL.of (hW.same _ _ h1), rfl, ?_, ?_, ?_, ?_, hK _ w _ S H k (Same.refl _) hW rfl⟩
  · rw [List.all_eq_true]
    intro v hv
    obtain ⟨m, _, rfl⟩ := List.mem_map.mp hv
    rfl
  · rw [List.getElem?_map, List.getElem?_eq_getElem hi, List.getElem_idxOf hi]
    rfl
  · show (n == n) = true
    exact beq_self_eq_true n
  · intro m z' hlt hz
    rw [List.getElem?_map] at hz
    cases e : ns[m]? with
    | none =>
      rw [e] at hz
      cases hz
    | some z =>
      rw [e] at hz
      cases hz
      show (z == n) = false
      have hne : z ≠ n := fun q => by
        subst q
        exact before_ix hlt e
      exact beq_eq_false_iff_ne.mpr hne
/-- a datum's built-in type -/
def tyD : D → Option String
  | .val .non => some "NoneType"
  | .val (.bl _) => some "bool"
  | .val (.int _) => some "int"
  | .val (.str _) => some "str"
  | .val _ => none
  | .lst _ => some "list"
  | .rd _ => none
  | .tup _ => some "tuple"
  | .obj _ _ _ => none
  | .exc _ _ _ _ => none
  | .dic _ => none
  | .dct _ => none
theorem tyx {S F H : Hp} {d : D} {x : V} {t : String} (hW : World K T S w F H) (h : tyD d = some t) (r : Rep K S d x) : TyX K H x (.type t) := by
  cases d with
  | val v =>
    have e : x = v := r
    subst e
    cases x <;> first | (cases h; exact .base (by constructor)) | cases h
  | lst ds =>
    obtain ⟨a, xs, rfl, h1, h2⟩ := r
    cases h
    exact .base (.lst (hW.same _ _ h1))
  | tup ds =>
    obtain ⟨a, xs, rfl, h1, h2⟩ := r
    cases h
    exact .base (.tup (hW.same _ _ h1))
  | _ => cases h
/-- isinstance(x, T), both built-in -/
theorem va_isi {d : D} {t n : String} {b : Bool} (ht : tyD d = some t) (hk : kitB t n = some b) (k : κ (B b) w) : VRA K T (rIsi K) [d, .val (.ty n)] w κ := fun F S H xs Q hW r hK => by
  obtain ⟨x, ys, rfl, h1, y, zs, rfl, h2, h3⟩ := r
  have h2' : y = .ty n := h2
  have h3' : zs = [] := h3
  subst h2' h3'
  exact ⟨x, .ty n, .type t, .type n, b, rfl, .ty n, tyx hW ht h1, kit_ty hk, hK _ w _ S H k (Same.refl _) hW rfl⟩
end
end DL

set_option Elab.async false
set_option linter.all false
set_option maxRecDepth 100000
set_option maxHeartbeats 1000000
/-! Usual comprehensions. -/
namespace DL
open PySem PySem.Spec PyProof.Rows L2 LamX
section
variable {X : Cx} {T : List (Addr × Str)} {δ : Dn} {w : Wp} {is vs : List Nat} {tg elt : Expr} {ifs : List Expr} {scope : Scope} {κ : List D → Wp → Prop}
/-- one turn: the item d, the test's answer b, the element y; w stays -/
def TurnD (X : Cx) (T : List (Addr × Str)) (is : List Nat) (tg : Expr) (ifs : List Expr) (elt : Expr) (scope : Scope) (δ : Dn) (w : Wp) (d : D) (b : Bool) (y : D) : Prop :=
  ∀ s H0 C cl fp, PGL (bx X s H0 scope cl C fp) T is tg d δ w fun δ2 w2 => ∀ s H0 C cl fp, PTsD (bx X s H0 scope cl C fp) T ifs δ2 w2 fun b' w3 =>
    if b' = true then ∀ s H0 C cl fp, PD (bx X s H0 scope cl C fp) T Wf noX elt δ2 w3 fun y' w4 => b = true ∧ y' = y ∧ w4 = w else b = false ∧ w3 = w
theorem lcd_ix {ds : List D} (p : Nat → Bool) (f : Nat → D) (hz : ds.length < sizeLine) (turn : ∀ i d, ds[i]? = some d → TurnD X T is tg ifs elt scope (wipeD δ vs) w d (p i) (f i))
    (k : κ (((List.range ds.length).filter p).map f) w) : LcD X T is tg ifs elt scope vs δ κ ds w := by
  refine ⟨hz, fun i acc w' => acc = ((List.range i).filter p).map f ∧ w' = w, ⟨rfl, rfl⟩, ?_, fun acc w' ⟨e1, e2⟩ => by rw [e1, e2]; exact k⟩
  rintro i d acc w' hd ⟨rfl, rfl⟩ s H0 C cl fp
  intro F v σ S H Q r hE hW hK
  refine turn i d hd s H0 C cl fp F v σ S H Q r hE hW fun δ' w' σ' S' H' k' s1 hE1 W1 o1 l1 => ?_
  refine hK δ' w' σ' S' H' (fun s H0 C cl fp => ?_) s1 hE1 W1 o1 l1
  intro F2 σ2 S2 H2 Q2 hE2 W2 hK2
  refine k' s H0 C cl fp F2 σ2 S2 H2 Q2 hE2 W2 fun b w3 S3 H3 k3 s3 W3 => ?_
  refine hK2 b w3 S3 H3 ?_ s3 W3
  try dsimp only at k3 ⊢
  cases b with
  | true =>
    rw [if_pos rfl] at k3 ⊢
    intro s H0 C cl fp
    refine (k3 s H0 C cl fp).imp fun y w4 ⟨e1, e2, e3⟩ => ⟨?_, e3⟩
    rw [e2, List.range_succ, List.filter_append, List.map_append, List.filter_cons, if_pos e1]
    rfl
  | false =>
    rw [if_neg Bool.false_ne_true] at k3 ⊢
    refine ⟨?_, k3.2⟩
    rw [List.range_succ, List.filter_append, List.map_append, List.filter_cons, if_neg (by rw [k3.1]; exact Bool.false_ne_true)]
    show _ = _ ++ []
    rw [List.append_nil]
theorem range_map {α β : Type} (xs : List α) (f : α → β) (g : Nat → β) (h : ∀ i x, xs[i]? = some x → g i = f x) : (List.range xs.length).map g = xs.map f := by
  refine List.ext_getElem (by simp) fun i h1 h2 => ?_
  rw [List.getElem_map, List.getElem_map, List.getElem_range]
  exact h i _ (List.getElem?_eq_getElem (by simpa using h2))
/-- over a list, all items -/
theorem lcd_map {α : Type} {xs : List α} {g : α → D} (f : α → D) (hz : xs.length < sizeLine) (turn : ∀ x ∈ xs, TurnD X T is tg ifs elt scope (wipeD δ vs) w (g x) true (f x)) (k : κ (xs.map f) w) : LcD X T is tg ifs elt scope vs δ κ (xs.map g) w := by
  refine ⟨by rw [List.length_map]; exact hz, fun i acc w' => acc = (xs.take i).map f ∧ w' = w, ⟨rfl, rfl⟩, ?_, fun acc w' ⟨e1, e2⟩ => by rw [e1, e2, List.length_map, List.take_length]; exact k⟩
  rintro i d acc w' hd ⟨rfl, rfl⟩ s H0 C cl fp
  rw [List.getElem?_map] at hd
  cases e : xs[i]? with
  | none =>
    rw [e] at hd
    cases hd
  | some x =>
    rw [e] at hd
    cases hd
    intro F v σ S H Q r hE hW hK
    refine turn x (List.mem_of_getElem? e) s H0 C cl fp F v σ S H Q r hE hW fun δ' w' σ' S' H' k' s1 hE1 W1 o1 l1 => ?_
    refine hK δ' w' σ' S' H' (fun s H0 C cl fp => ?_) s1 hE1 W1 o1 l1
    intro F2 σ2 S2 H2 Q2 hE2 W2 hK2
    refine k' s H0 C cl fp F2 σ2 S2 H2 Q2 hE2 W2 fun b w3 S3 H3 k3 s3 W3 => ?_
    refine hK2 b w3 S3 H3 ?_ s3 W3
    try dsimp only at k3 ⊢
    cases b with
    | true =>
      rw [if_pos rfl] at k3 ⊢
      intro s H0 C cl fp
      refine (k3 s H0 C cl fp).imp fun y w4 ⟨e1, e2, e3⟩ => ⟨?_, e3⟩
      rw [e2, List.take_add_one, e, List.map_append]
      rfl
    | false =>
      rw [if_neg Bool.false_ne_true] at k3
      exact absurd k3.1 (by simp)
/-- over a list, with a test -/
theorem lcd_filter {α : Type} {xs : List α} {g : α → D} (p : α → Bool) (f : α → D) (hz : xs.length < sizeLine) (turn : ∀ x ∈ xs, TurnD X T is tg ifs elt scope (wipeD δ vs) w (g x) (p x) (f x)) (k : κ ((xs.filter p).map f) w) : LcD X T is tg ifs elt scope vs δ κ (xs.map g) w := by
  refine ⟨by rw [List.length_map]; exact hz, fun i acc w' => acc = ((xs.take i).filter p).map f ∧ w' = w, ⟨rfl, rfl⟩, ?_, fun acc w' ⟨e1, e2⟩ => by rw [e1, e2, List.length_map, List.take_length]; exact k⟩
  rintro i d acc w' hd ⟨rfl, rfl⟩ s H0 C cl fp
  rw [List.getElem?_map] at hd
  cases e : xs[i]? with
  | none =>
    rw [e] at hd
    cases hd
  | some x =>
    rw [e] at hd
    cases hd
    intro F v σ S H Q r hE hW hK
    refine turn x (List.mem_of_getElem? e) s H0 C cl fp F v σ S H Q r hE hW fun δ' w' σ' S' H' k' s1 hE1 W1 o1 l1 => ?_
    refine hK δ' w' σ' S' H' (fun s H0 C cl fp => ?_) s1 hE1 W1 o1 l1
    intro F2 σ2 S2 H2 Q2 hE2 W2 hK2
    refine k' s H0 C cl fp F2 σ2 S2 H2 Q2 hE2 W2 fun b w3 S3 H3 k3 s3 W3 => ?_
    refine hK2 b w3 S3 H3 ?_ s3 W3
    have tk : xs.take (i + 1) = xs.take i ++ [x] := by rw [List.take_add_one, e]; rfl
    try dsimp only at k3 ⊢
    cases b with
    | true =>
      rw [if_pos rfl] at k3 ⊢
      intro s H0 C cl fp
      refine (k3 s H0 C cl fp).imp fun y w4 ⟨e1, e2, e3⟩ => ⟨?_, e3⟩
      rw [e2, tk, List.filter_append, List.map_append, List.filter_cons, if_pos e1]
      rfl
    | false =>
      rw [if_neg Bool.false_ne_true] at k3 ⊢
      refine ⟨?_, k3.2⟩
      rw [tk, List.filter_append, List.map_append, List.filter_cons, if_neg (by rw [k3.1]; exact Bool.false_ne_true)]
      show _ = _ ++ []
      rw [List.append_nil]
end
end DL

set_option Elab.async false
set_option linter.all false
set_option maxRecDepth 100000
set_option maxHeartbeats 1000000
/-! == and != by an own method, len by an own method, isinstance of an own class, freezing within an expression. -/
namespace DL
open PySem PySem.Spec PyProof.Rows L2 LamX
/-- an own class as isinstance and type(..) see it -/
structure ClsI (K : PySem.W.Frag) (C : Addr) : Prop where
  cl : Cls K C
  cc : PySem.W.findIn K (.ref C) "__class__" = some (some (.builtin "object.__class__"))
  cg : PySem.W.specialIn K (.builtin "object.__class__") "__get__" = some (some (.builtin "getset_descriptor.__get__"))
  ct : PySem.W.takesIn K (.builtin "object.__class__") = some true
  mo : PySem.W.mroIn K C (.type "object") = some true
/-- the type of a datum, own classes too -/
def TyDD (K : PySem.W.Frag) (d : D) (t : Value) : Prop := (∃ n, tyD d = some n ∧ t = .type n) ∨ ∃ C ns ds, d = .obj C ns ds ∧ ClsI K C ∧ t = .ref C
theorem TyDD.tyx {K : PySem.W.Frag} {T : List (Addr × Str)} {w : Wp} {S F H : Hp} {d : D} {t : Value} {x : V} (h : TyDD K d t) (hW : World K T S w F H) (r : Rep K S d x) : TyX K H x t := by
  rcases h with ⟨n, h1, rfl⟩ | ⟨C, ns, ds, rfl, c, rfl⟩
  · exact DL.tyx hW h1 r
  · obtain ⟨a, dx, ys, rfl, h1, _, _⟩ := r
    exact .base (.ins (hW.same _ _ h1) c.cl c.cc c.cg c.ct c.mo)
section
variable {X : Cx}
def rOwn (C : Addr) (sp : Sp) : R2 := fun x y H Q => ∃ a dx fs t, x = .ref a ∧ H a = some (.ins C dx fs) ∧ TyX X.K H y t ∧ PySem.W.notFirst X.K C t = true ∧ sp [x, y] H (fun v H' => ∃ b, v = .bl b ∧ Q v H') E0
theorem op_own {op : CmpOp} {C f : Addr} {fd : FuncData} {ps : List Str} {k : Nat} {sp : Sp} (hop : ∀ a b, compareOp op a b = richCompare op a b) (G : FnOk X.prog X.w X.K X.mg X.base CX0 k f fd ps sp) (hr : Room k X.A) (hs : PySem.W.findIn X.K (.ref C) (cmpInfo op).2.1 = some (some (.ref f))) (hf : PySem.W.isFn X.K (.ref f) = true) (hb : Binds X.K fd ps []) :
    OpR X (compareOp op) (rOwn (X := X) C sp) := by
  intro pins s σ H x y v u Q I rx ry h
  obtain ⟨a, dx, fs, t, rfl, ha, ty, nf, hsp⟩ := h
  cases rx
  obtain ⟨mA, J, _⟩ := ins_get I.hok ha
  obtain ⟨od, J, _⟩ := J.look
  obtain ⟨m, hF⟩ := I.fr
  obtain ⟨Pz, Z, p, _⟩ := kit_of I ry ty
  show wpAny (model X.prog X.w) X.A (compareOp op (.ref a) u) (EP X pins σ Q) X.xe s
  rw [hop]
  refine PySem.W.cmp_K (op := op) (tb := t) hr.units0 hF I.ok.mod.kin J (Z.ty _ _ I.kIn p) nf hs hf ?_
  have r2 : Vals [V.ref a, y] [Value.ref a, u] := .cons rfl (.cons ry .nil)
  have q := run_fnSD (σ := σ) (E := fun _ => E0) (dvs := []) (ds := []) G hr hb .nil pass0At I r2 (by rw [List.append_nil]; exact hsp)
  refine thn q fun r s' z => ?_
  obtain ⟨v', H', I', rv, ⟨b, rfl, q⟩⟩ := z
  cases rv
  exact ⟨.bl b, H', I', rfl, q⟩
/-- len(x), x an instance with an own __len__ -/
theorem call_lenOwn {C f : Addr} {fd : FuncData} {ps : List Str} {k : Nat} {sp : Sp} (G : FnOk X.prog X.w X.K X.mg X.base CX0 k f fd ps sp) (hr : Room (k + 1) X.A) (hs : PySem.W.findIn X.K (.ref C) "__len__" = some (some (.ref f))) (hf : PySem.W.isFn X.K (.ref f) = true) (hb : Binds X.K fd ps []) :
    CallR X (.builtin "len") (fun xs H Q => ∃ a dx fs, xs = [.ref a] ∧ H a = some (.ins C dx fs) ∧ sp [.ref a] H (fun v H' => ∃ n : Int, v = .int n ∧ 0 ≤ n ∧ n < 2 ^ 63 ∧ Q v H') E0) := by
  intro pins s σ H xs us Q I r h
  obtain ⟨a, dx, fs, rfl, ha, hsp⟩ := h
  obtain ⟨u, rfl, rx⟩ := vals1 r
  cases (show u = Value.ref a from rx)
  obtain ⟨mA, J, _⟩ := ins_get I.hok ha
  obtain ⟨od, J, _⟩ := J.look
  obtain ⟨m, hF⟩ := I.fr
  refine PySem.W.len_K hF I.ok.mod.kin J hs hf ?_
  have r2 : Vals [V.ref a] [Value.ref a] := .cons rfl .nil
  have hl : ([Value.ref a] ++ []).length = ps.length := by
    have e := r2.length
    rw [G.len _ _ _ _ hsp] at e
    rw [List.append_nil]
    exact e.symm
  have bb := hb s [Value.ref a] I.kIn hl
  rw [List.append_nil] at bb
  refine wpAny_call (codeAny_mono (G.run X.A.in1 X.stack s H ⟨[.ref a], []⟩ [.ref a] [.ref a] _ E0 hr.in1 I.env0.in1 bb r2 hsp) fun r s' hq => ?_)
  cases r with
  | error e => exact hq.elim
  | ok fl =>
    cases fl with
    | ret u =>
      obtain ⟨v', H', I', rv, n, rfl, h0, h1, q⟩ := I.after hq
      obtain ⟨t, rfl⟩ := rv
      exact ⟨⟨h0, h1⟩, .int n, H', I'.tok _, ⟨_, rfl⟩, q⟩
    | next => exact False.elim hq
    | brk => exact False.elim hq
    | cont => exact False.elim hq
end
section
variable {X : Cx} {T : List (Addr × Str)} {W : WX} {χ : XD} {δ : Dn} {w : Wp} {pos : Pos}
/-- == by the own method, in data -/
theorem vr_own {C : Addr} {sp : SpD} {d e : D} {t : Value} {κ : D → Wp → Prop} (hd : ∃ ns ds, d = .obj C ns ds) (he : TyDD X.K e t) (nf : PySem.W.notFirst X.K C t = true) (h : sp [d, e] w (fun d' w' => ∃ b, d' = B b ∧ κ d' w') noX) :
    VR2 X.K T (rOwn (X := X) C (spOf X.K T sp)) d e w κ := fun F S H x y Q hW r1 r2 hK => by
  obtain ⟨ns, ds, rfl⟩ := hd
  obtain ⟨a, dx, ys, rfl, h1, h2, h3⟩ := id r1
  refine ⟨a, dx, ys, t, rfl, hW.same _ _ h1, he.tyx hW r2, nf, [.obj C ns ds, e], w, F, S, _, noX, h, ⟨_, _, rfl, r1, _, _, rfl, r2, rfl⟩, hW, ?_, fun _ _ _ _ _ _ _ z => z.elim⟩
  rintro d' w' v S' H' ⟨b, rfl, k⟩ s1 W1 r
  have r' : v = .bl b := r
  exact ⟨b, r', hK _ w' v S' H' k s1 W1 r⟩
theorem va_lenOwn {C : Addr} {sp : SpD} {d : D} {κ : D → Wp → Prop} (hd : ∃ ns ds, d = .obj C ns ds) (h : sp [d] w (fun d' w' => ∃ n : Int, d' = I n ∧ 0 ≤ n ∧ n < 2 ^ 63 ∧ κ d' w') noX) :
    VRA X.K T (fun xs H Q => ∃ a dx fs, xs = [.ref a] ∧ H a = some (.ins C dx fs) ∧ spOf X.K T sp [.ref a] H (fun v H' => ∃ n : Int, v = .int n ∧ 0 ≤ n ∧ n < 2 ^ 63 ∧ Q v H') E0) [d] w κ := fun F S H xs Q hW r1 hK => by
  obtain ⟨ns, ds, rfl⟩ := hd
  obtain ⟨y, zs, rfl, r2, r3⟩ := r1
  have r3' : zs = [] := r3
  subst r3'
  obtain ⟨a, dx, ys, rfl, h1, h2, h3⟩ := id r2
  refine ⟨a, dx, ys, rfl, hW.same _ _ h1, [.obj C ns ds], w, F, S, _, noX, h, ⟨_, _, rfl, r2, rfl⟩, hW, ?_, fun _ _ _ _ _ _ _ z => z.elim⟩
  rintro d' w' v S' H' ⟨n, rfl, h0, h1, k⟩ s1 W1 r
  have r' : v = .int n := r
  exact ⟨n, r', h0, h1, hK _ w' v S' H' k s1 W1 r⟩
/-- isinstance(x, C), C an own class -/
theorem va_isC {C : Addr} {d : D} {t : Value} {b : Bool} {κ : D → Wp → Prop} (ht : TyDD X.K d t) (hk : PySem.W.kitOne X.K t (.ref C) = some b) (k : κ (B b) w) : VRA X.K T (rIsi X.K) [d, R C] w κ := fun F S H xs Q hW r hK => by
  obtain ⟨x, ys, rfl, h1, y, zs, rfl, h2, h3⟩ := r
  have h2' : y = .ref C := h2
  have h3' : zs = [] := h3
  subst h2' h3'
  exact ⟨x, .ref C, t, .ref C, b, rfl, .own C, ht.tyx hW h1, hk, hK _ w _ S H k (Same.refl _) hW rfl⟩
/-- an owned list stands from now on, within an expression -/
theorem pd_frz {e : Expr} {κ : D → Wp → Prop} (h : PD X T W χ e δ w fun d w1 => ∃ a ds, d = R a ∧ w1 a = some (.lst ds) ∧ κ (.lst ds) (wd w1 a)) : PD X T W χ e δ w κ := fun F σ S H Q hE hW hX hK =>
  h F σ S H Q hE hW hX fun d w1 v S1 H1 k s1 W1 r => by
    obtain ⟨a, ds, rfl, hw, k⟩ := k
    obtain ⟨o, e1, r1, W2⟩ := W1.freeze hw
    obtain ⟨xs, rfl, r1⟩ := r1
    have s2 : Same S1 (upd S1 a (.lst xs)) := same_upd e1
    have r' : v = .ref a := r
    exact hK _ _ v _ H1 k (s1.trans s2) W2 ⟨a, xs, r', upd_same, r1.mono s2⟩
end
end DL

set_option Elab.async false
set_option linter.all false
set_option maxRecDepth 100000
set_option maxHeartbeats 2000000
/-! try with several clauses, some of them with a name; isinstance of a caught error that has fields. -/
namespace DL
open PySem PySem.Spec PyProof.Rows L2 LamX
abbrev TSx := Addr → Value → Option Addr → TS
/-- what happens behind a suite whose clause has a name: the name goes -/
def goneD (i : Nat) (D : Ends) : Ends := { nx := fun σ H => D.nx (σ.set i none) H, rt := D.rt, bk := fun σ H => D.bk (σ.set i none) H, ct := fun σ H => D.ct (σ.set i none) H }
def suiteW (o : Option Nat) (ts : TSx) (D : Ends) (a : Addr) (cls : Value) (d : Option Addr) (σ : L2.St) (H : Hp) : Prop := match o with
  | none => ts a cls d D σ H
  | some i => ts a cls d (goneD i D) (σ.set i (some (.ref a))) H
def wMix (K : PySem.W.Frag) (Wout : WX) (D : Ends) : List (Value × Option Nat × TSx) → WX
  | [] => Wout
  | (c, o, ts) :: more => fun cls d σ H => ∃ b, PySem.W.exmOne K cls c = some b ∧ (b = true → ∀ a, H a = none → suiteW o ts D a cls d σ H) ∧ (b = false → wMix K Wout D more cls d σ H)
inductive HdMix (X : Cx) : List ExceptHandler → List (Value × Option Nat × TSx) → Prop
  | none : HdMix X [] []
  | bare {x : Str} {c : Value} {ts : TSx} {st : Stmt} {sts : List Stmt} {np hp : Pos} {hds : List ExceptHandler} {l : List (Value × Option Nat × TSx)} (nm : Names X x c)
      (su : ∀ (a : Addr) (oe : Obj) (cls : Value) (d : Option Addr) (pn : List (Addr × Obj)), Zc cls d oe → (∃ vs, oe.data = .fields vs) → PSs (X.suite a ((a, oe) :: pn)) (st :: sts) (ts a cls d)) (more : HdMix X hds l) :
      HdMix X (.ExceptHandler (some (.Name x np)) .none (st :: sts) hp :: hds) ((c, .none, ts) :: l)
  | named {x n : Str} {i : Nat} {c : Value} {ts : TSx} {st : Stmt} {sts : List Stmt} {np hp : Pos} {hds : List ExceptHandler} {l : List (Value × Option Nat × TSx)} (nm : Names X x c) (hi : X.N[i]? = some n) (hl : X.env.kindOf n = some .local)
      (su : ∀ (a : Addr) (oe : Obj) (cls : Value) (d : Option Addr) (pn : List (Addr × Obj)), Zc cls d oe → (∃ vs, oe.data = .fields vs) → PSs (X.suite a ((a, oe) :: pn)) (st :: sts) (ts a cls d)) (more : HdMix X hds l) :
      HdMix X (.ExceptHandler (some (.Name x np)) (some n) (st :: sts) hp :: hds) ((c, some i, ts) :: l)
section
variable {X : Cx} {body : List Stmt} {hd0 : ExceptHandler} {hds : List ExceptHandler} {l : List (Value × Option Nat × TSx)} {pos : Pos} {tb : WX → TS} {Wout : WX}
theorem ps_try_mix (hs : X.stack = X.env :: X.outer) (hf : X.env.frame = some X.env.locals) (hN : X.N.Nodup) (tk : Takes X Wout)
    (hb : ∀ (W : WX) (pn : List (Addr × Obj)) (xe : Value → Shared → Prop), Takes (X.tr pn xe) W → PassesOwn (model X.prog X.w) X.A X.env xe → PSs (X.tr pn xe) body (tb W))
    (hh : HdMix X (hd0 :: hds) l) : PS X (.Try body (hd0 :: hds) [] [] pos) (fun D σ H => tb (fun cls d σ' H' => σ'.length = X.N.length → wMix X.K Wout D l cls d σ' H') D σ H) := ⟨fun pins s σ H D I h => by
  have ok := I.ok
  have frA : X.A.frames = some (X.env :: X.outer) := ok.frames.trans (by rw [hs])
  refine wpAny_Try_except ?_
  let xe' : Value → Shared → Prop := fun e t1 => wpAny (model X.prog X.w) X.A (noteFrame e X.env) (fun _ t2 => wpAny (model X.prog X.w) X.A (setFlight e none) (fun _ t3 => wpAny (model X.prog X.w) X.A (handleBy e X.env (hd0 :: hds)) (SP X pins D) X.xe t3) X.xe t2) X.xe t1
  have taken : Takes (X.tr (X.pn ++ pins) xe') (fun cls d σ' H' => σ'.length = X.N.length → wMix X.K Wout D l cls d σ' H') := by
    rintro u s' ⟨a, B, sI, pins', σ', H', cls, d, rfl, J', nb, up, sky, na, os, ag, w⟩
    have J := Inv.ofTry J' ok
    have w := w J.len
    rw [show (X.tr (X.pn ++ pins) xe').stack = X.env :: X.outer from hs] at sky
    show wpAny (model X.prog X.w) X.A (noteFrame (.ref a) X.env) _ _ s'
    refine Sky.land Zc.steady frA hf sky fun hA flA upA => ?_
    have JA : Inv X pins σ' H' { s' with heap := hA } := Inv.landed J nb flA.1 (up.trans upA) os ag
    obtain ⟨oA, vA, eA, zA, dA⟩ := flA.there
    have out : a ∉ frs (X.env :: X.outer) := by
      intro hm
      obtain ⟨_, o', e', n'⟩ := flA.2.2.1.mem hm
      rw [eA] at e'
      cases e'
      exact n' _ dA
    have outL : a ≠ X.env.locals := by
      rintro rfl
      exact out (List.mem_filterMap.mpr ⟨X.env, List.mem_cons_self, hf⟩)
    have outF : a ∉ X.fs := by
      intro hm
      obtain ⟨e, he, q⟩ := List.mem_filterMap.mp hm
      exact out (List.mem_filterMap.mpr ⟨e, List.mem_cons_of_mem _ he, q⟩)
    have SA := Inv.suite JA eA dA na outL outF
    have asked : ∀ {x : Str} {c : Value} {np : Pos}, Names X x c → ∀ {Q E : Value → Shared → Prop}, Q c { s' with heap := hA } → wpAny (model X.prog X.w) (X.A.mark (some (.ref a))) (eval (.Name x np) X.env) Q E { s' with heap := hA } := by
      rintro x c np ⟨g1, g2, m1 | ⟨m1, m2, m3⟩⟩ Q E q
      · exact ld_glob (X := X.suite a ((a, oA) :: (X.pn ++ pins))) SA g1 m1 q g2
      · exact ld_blt (X := X.suite a ((a, oA) :: (X.pn ++ pins))) SA g1 m1 m2 q m3 g2
    have ofA : PySem.W.Looks (model X.prog X.w) hA (typeOf (.ref a)) cls := by
      intro A' Q E t k q
      exact wpAny_typeOf_ref (k _ _ eA) (by rw [zA.1]; exact q)
    suffices go : ∀ {hs' : List ExceptHandler} {l' : List (Value × Option Nat × TSx)}, HdMix X hs' l' → wMix X.K Wout D l' cls d σ' H' → wpAny (model X.prog X.w) X.A (handleBy (.ref a) X.env hs') (SP X pins D) X.xe { s' with heap := hA } by exact go hh w
    intro hs' l' hk
    induction hk with
    | none =>
      intro w
      refine wpAny_handleBy_nil ?_
      obtain ⟨_, _, _, oe, vs, T, oT, ts', he, hz, hd, h1, hr⟩ := id flA
      unfold PySem.passOn
      refine wpAny_bind (wpAny_field he hd h1 ?_)
      have nn : ¬ ((Value.ref T == Value.none) = true) := by simp
      rw [if_neg nn]
      have last : wpAny (model X.prog X.w) X.A (setFlight (.ref a) X.env.frame) (fun _ t4 => wpAny (model X.prog X.w) X.A (throw (.ref a) : Sem Flow) (SP X pins D) X.xe t4) X.xe { s' with heap := hA } := by
        rw [hf]
        refine HandSPX.setFlight_upZ flA fun hB goB upB => wpAny_throw (tk _ _ ?_)
        refine ⟨a, B, sI, pins, σ', H', cls, d, rfl, J, nb, (up.trans upA).trans upB, .inr (.inr ?_), na, os, ag, w⟩
        rw [hs]
        exact goB
      first
        | exact wpAny_bind last
        | exact wpAny_bind (wpAny_pure (wpAny_bind last))
    | bare nm su more ih =>
      rintro ⟨b, b1, byes, bno⟩
      refine wpAny_handleBy_cons (codeAny_handlers_test ?_) (by intro q; cases q)
      refine asked nm ((PySem.W.exm_one (M := model X.prog X.w) JA.kIn ofA b1).here ?_)
      cases b with
      | false => exact ih (bno rfl)
      | true =>
        refine codeAny_handlers_suite (HandSPX.lands_againZ flA fun hB flB upB => ?_)
        obtain ⟨oB, vB, eB, zB, dB⟩ := flB.there
        have JB : Inv X pins σ' H' { s' with heap := hB } := Inv.landed J nb flB.1 ((up.trans upA).trans upB) os ag
        have SB := Inv.suite JB eB dB na outL outF
        refine wpAny_mono ((su a oB cls d (X.pn ++ pins) zB ⟨_, dB⟩).run [] _ _ H' _ SB (byes rfl a na)) (fun f t hsp => ?_) (fun _ _ z => z.elim)
        cases f with
        | ret u =>
          obtain ⟨v6, σ6, H6, S6, r6, q6⟩ := hsp
          exact ⟨_, _, _, Inv.unsuite S6 ok, r6, q6⟩
        | next =>
          obtain ⟨σ6, H6, S6, q6⟩ := hsp
          exact ⟨_, _, Inv.unsuite S6 ok, q6⟩
        | brk =>
          obtain ⟨σ6, H6, S6, q6⟩ := hsp
          exact ⟨_, _, Inv.unsuite S6 ok, q6⟩
        | cont =>
          obtain ⟨σ6, H6, S6, q6⟩ := hsp
          exact ⟨_, _, Inv.unsuite S6 ok, q6⟩
    | named nm hi hl su more ih =>
      rintro ⟨b, b1, byes, bno⟩
      refine wpAny_handleBy_cons (codeAny_handlers_test ?_) (by intro q; cases q)
      refine asked nm ((PySem.W.exm_one (M := model X.prog X.w) JA.kIn ofA b1).here ?_)
      cases b with
      | false => exact ih (bno rfl)
      | true =>
        refine codeAny_handlers_suite_as (HandSPX.lands_againZ flA fun hB flB upB => ?_)
        obtain ⟨oB, vB, eB, zB, dB⟩ := flB.there
        have JB : Inv X pins σ' H' { s' with heap := hB } := Inv.landed J nb flB.1 ((up.trans upA).trans upB) os ag
        have SB := Inv.suite JB eB dB na outL outF
        refine store_ok (X := X.suite a ((a, oB) :: (X.pn ++ pins))) (v := .ref a) SB hN hi (.inl hl) rfl (fun t5 S5 => ?_) (.inr hl)
        refine wpAny_mono ((su a oB cls d (X.pn ++ pins) zB ⟨_, dB⟩).run [] t5 _ H' _ S5 (byes rfl a na)) (fun f t hsp => ?_) (fun _ _ z => z.elim)
        cases f with
        | ret u =>
          obtain ⟨v6, σ6, H6, S6, r6, q6⟩ := hsp
          exact gone_ok (Inv.unsuite S6 ok) hN hi hl fun t7 J7 => ⟨_, _, _, J7, r6, q6⟩
        | next =>
          obtain ⟨σ6, H6, S6, q6⟩ := hsp
          exact gone_ok (Inv.unsuite S6 ok) hN hi hl fun t7 J7 => ⟨_, _, J7, q6⟩
        | brk =>
          obtain ⟨σ6, H6, S6, q6⟩ := hsp
          exact gone_ok (Inv.unsuite S6 ok) hN hi hl fun t7 J7 => ⟨_, _, J7, q6⟩
        | cont =>
          obtain ⟨σ6, H6, S6, q6⟩ := hsp
          exact gone_ok (Inv.unsuite S6 ok) hN hi hl fun t7 J7 => ⟨_, _, J7, q6⟩
  refine wpAny_mono ((hb _ (X.pn ++ pins) xe' taken PassesOwn.looking).run [] s σ H D (Inv.toTry I _) h) (fun f t hsp => ?_) (fun e t he => he)
  cases f with
  | next =>
    obtain ⟨σ', H', J', q⟩ := hsp
    exact wpAny_execs_nil ⟨σ', H', Inv.ofTry J' ok, q⟩
  | brk =>
    obtain ⟨σ', H', J', q⟩ := hsp
    exact ⟨σ', H', Inv.ofTry J' ok, q⟩
  | cont =>
    obtain ⟨σ', H', J', q⟩ := hsp
    exact ⟨σ', H', Inv.ofTry J' ok, q⟩
  | ret u =>
    obtain ⟨v, σ', H', J', r, q⟩ := hsp
    exact ⟨v, σ', H', Inv.ofTry J' ok, r, q⟩⟩
end
end DL

set_option Elab.async false
set_option linter.all false
set_option maxRecDepth 100000
set_option maxHeartbeats 1000000
/-! Lists that stand or are owned, read alike. -/
namespace DL
open PySem PySem.Spec PyProof.Rows L2 LamX
/-- a list that stands or is owned -/
def Lk (w : Wp) (d : D) (ds : List D) : Prop := d = .lst ds ∨ ∃ a, d = R a ∧ w a = some (.lst ds)
section
variable {K : PySem.W.Frag} {T : List (Addr × Str)} {w : Wp} {κ : D → Wp → Prop}
theorem Lk.at_ {S F H : Hp} {d : D} {ds : List D} {x : V} (l : Lk w d ds) (hW : World K T S w F H) (r : Rep K S d x) : ∃ a xs, x = .ref a ∧ H a = some (.lst xs) ∧ RepL K S ds xs := by
  rcases l with rfl | ⟨a, rfl, hw⟩
  · obtain ⟨a, xs, rfl, h1, h2⟩ := r
    exact ⟨a, xs, rfl, hW.same _ _ h1, h2⟩
  · obtain ⟨_, _, o, h1, h2⟩ := hW.own a _ hw
    obtain ⟨xs, rfl, h2⟩ := h2
    have r' : x = .ref a := r
    exact ⟨a, xs, r', h1, h2⟩
theorem vr_ixK {d : D} {ds : List D} {i : Nat} {e : D} (l : Lk w d ds) (h : ds[i]? = some e) (k : κ e w) : VR2 K T (rIxL K) d (I (i : Int)) w κ := fun F S H x y Q hW r1 r2 hK => by
  obtain ⟨a, xs, rfl, h1, h2⟩ := l.at_ hW r1
  obtain ⟨v, h3, h4⟩ := h2.get h
  exact ⟨a, xs, i, v, rfl, r2, SqL.of h1, ix_at h3, hK e w v S H k (Same.refl _) hW h4⟩
theorem va_lenK {d : D} {ds : List D} (l : Lk w d ds) (k : κ (I (ds.length : Int)) w) : VRA K T (fun xs H Q => ∃ p ys, xs = [.ref p] ∧ (SqL K H p ys ∨ SqT K H p ys) ∧ Q (.int ys.length) H) [d] w κ := fun F S H xs Q hW r hK => by
  obtain ⟨y, ys, rfl, h1, h2⟩ := r
  obtain ⟨a, zs, rfl, h3, h4⟩ := l.at_ hW h1
  have h2' : ys = [] := h2
  subst h2'
  refine ⟨a, zs, rfl, .inl (SqL.of h3), ?_⟩
  rw [h4.length]
  exact hK _ w _ S H k (Same.refl _) hW rfl
theorem va_isiK {d : D} {ds : List D} {n : String} {b : Bool} (l : Lk w d ds) (hk : kitB "list" n = some b) (k : κ (B b) w) : VRA K T (rIsi K) [d, .val (.ty n)] w κ := fun F S H xs Q hW r hK => by
  obtain ⟨x, ys, rfl, h1, y, zs, rfl, h2, h3⟩ := r
  have h2' : y = .ty n := h2
  have h3' : zs = [] := h3
  subst h2' h3'
  obtain ⟨a, xs, rfl, h4, h5⟩ := l.at_ hW h1
  exact ⟨_, .ty n, .type "list", .type n, b, rfl, .ty n, .base (.lst h4), kit_ty hk, hK _ w _ S H k (Same.refl _) hW rfl⟩
end
/-- the same data, n deep -/
inductive Sm : Nat → D → D → Prop
  | non {n : Nat} : Sm n N N
  | bl {n : Nat} (b : Bool) : Sm n (B b) (B b)
  | int {n : Nat} (i : Int) : Sm n (I i) (I i)
  | str {n : Nat} (x : Str) : Sm n (DL.T x) (DL.T x)
  | lst {n : Nat} {ds es : List D} (hl : ds.length = es.length) (hz : es.length ≤ sizeLine) (h : ∀ (i : Nat) (x y : D), ds[i]? = some x → es[i]? = some y → Sm n x y) : Sm (n + 1) (.lst ds) (.lst es)
  | tup {n : Nat} {ds es : List D} (hl : ds.length = es.length) (hz : es.length ≤ sizeLine) (h : ∀ (i : Nat) (x y : D), ds[i]? = some x → es[i]? = some y → Sm n x y) : Sm (n + 1) (.tup ds) (.tup es)
theorem Sm.map {α : Type} {n : Nat} {xs : List α} {f g : α → D} (hz : xs.length ≤ sizeLine) (h : ∀ x ∈ xs, Sm n (f x) (g x)) : Sm (n + 1) (.lst (xs.map f)) (.lst (xs.map g)) := by
  refine .lst (by rw [List.length_map, List.length_map]) (by rw [List.length_map]; exact hz) fun i x y h1 h2 => ?_
  rw [List.getElem?_map] at h1 h2
  cases e : xs[i]? with
  | none =>
    rw [e] at h1
    cases h1
  | some z =>
    rw [e] at h1 h2
    cases h1
    cases h2
    exact h z (List.mem_of_getElem? e)
theorem Sm.nil {n : Nat} : Sm (n + 1) (.lst []) (.lst []) := .lst rfl (Nat.zero_le _) fun i x y h _ => by simp at h
theorem Sm.cons {n : Nat} {d e : D} {ds es : List D} (h : Sm n d e) (k : Sm (n + 1) (.lst ds) (.lst es)) (hz : es.length + 1 ≤ sizeLine) : Sm (n + 1) (.lst (d :: ds)) (.lst (e :: es)) := by
  cases k with
  | lst hl hz' h' =>
    refine .lst (by simp [hl]) (by simpa using hz) fun i x y h1 h2 => ?_
    cases i with
    | zero =>
      cases h1
      cases h2
      exact h
    | succ i => exact h' i x y h1 h2
end DL

set_option Elab.async false
set_option linter.all false
set_option maxRecDepth 100000
set_option maxHeartbeats 1000000
/-! the draws -/
namespace Tw
open PySem PySem.Spec PyProof.Rows L2 LamX DL
def top (i : Nat) : Stmt := PySem.Challenge.pw_thinwall_k04_whole_chain_or_island.main.body.getD i (.Pass ⟨0, 0, 0, 0⟩)
abbrev sTake : Stmt := top 29
structure Bag where
  row : List Int
  seed : Int
  cnt : Int
def take (b : Bag) (m : Int) : Int × Bag :=
  match b.row with
  | x :: rest => (x % m, { b with row := if x / m = 0 then rest else x / m :: rest })
  | [] => ((((b.seed * 48271 + (b.cnt + 1) * 69621 + 7) % 2147483647 * 16807 + (b.seed * 48271 + (b.cnt + 1) * 69621 + 7) % 2147483647 / 4099 + (b.cnt + 1) * 40692) % 2147483629) / 127 % m,
    ⟨[], (b.seed * 48271 + (b.cnt + 1) * 69621 + 7) % 2147483647, b.cnt + 1⟩)
def bagPut (w : Wp) (a r : Addr) (b : Bag) : Wp := wu (wu w a (.lst [R r, I b.seed, I b.cnt])) r (.lst (b.row.map I))
structure BagAt (w : Wp) (a r : Addr) (b : Bag) : Prop where
  at_ : w a = some (.lst [R r, I b.seed, I b.cnt])
  row : w r = some (.lst (b.row.map I))
  ne : a ≠ r
theorem bag_put {w : Wp} {a r : Addr} {b : Bag} (h : a ≠ r) : BagAt (bagPut w a r b) a r b := ⟨by unfold bagPut; rw [wu_ne h, wu_same], by unfold bagPut; rw [wu_same], h⟩
theorem wu_comm {w : Wp} {a r : Addr} {h k : HD} (e : a ≠ r) : wu (wu w a h) r k = wu (wu w r k) a h := by
  funext b
  by_cases h1 : b = r
  · subst h1
    rw [wu_same, wu_ne (fun z => e z.symm), wu_same]
  · rw [wu_ne h1]
    by_cases h2 : b = a
    · subst h2
      rw [wu_same, wu_same]
    · rw [wu_ne h2, wu_ne h2, wu_ne h1]
theorem bag_put2 {w : Wp} {a r : Addr} {b b' : Bag} (h : a ≠ r) : bagPut (bagPut w a r b) a r b' = bagPut w a r b' := by
  unfold bagPut
  rw [wu_comm (w := wu (wu w a _) r _) h, wu_wu, wu_comm (w := wu w a _) h.symm, wu_wu, wu_comm h]
theorem wu_id {w : Wp} {a : Addr} {h : HD} (e : w a = some h) : wu w a h = w := by
  funext b
  by_cases z : b = a
  · rw [z, wu_same, e]
  · rw [wu_ne z]
theorem BagAt.put {w : Wp} {a r : Addr} {b : Bag} (h : BagAt w a r b) : bagPut w a r b = w := by
  unfold bagPut
  rw [wu_id h.at_, wu_id h.row]
def spTake : SpD := fun ds w κ χ => ∃ a r b m, ds = [R a, I m] ∧ BagAt w a r b ∧ (0 < m ∧ m.natAbs.log2 < 9000) ∧ κ (I (take b m).1) (bagPut w a r (take b m).2)
theorem py_ints : ∀ ns : List Int, pyDs (ns.map I) = some (ns.map PyData.int)
  | [] => rfl
  | n :: ns => by
    show ((pyD (I n)).bind fun x => (pyDs (ns.map I)).map fun xs => x :: xs) = _
    rw [py_ints ns]
    rfl
theorem lay_ints : ∀ ns : List Int, PyData.canLayAll0 (ns.map PyData.int) = true
  | [] => rfl
  | n :: ns => by
    show (PyData.canLay0 (.int n) && PyData.canLayAll0 (ns.map PyData.int)) = true
    rw [lay_ints ns]
    rfl
theorem dep_ints : ∀ ns : List Int, PyData.depthAll (ns.map PyData.int) = 0
  | [] => rfl
  | n :: ns => by
    show max (PyData.depth (.int n)) (PyData.depthAll (ns.map PyData.int)) = 0
    rw [dep_ints ns]
    rfl
theorem shaped_ints (ns : List Int) : SeqAt.shaped (.list (ns.map PyData.int)) = true := by
  show (PyData.canLayAll0 (ns.map PyData.int) && decide (PyData.depthAll (ns.map PyData.int) + 1 ≤ 64)) = true
  rw [lay_ints, dep_ints]
  rfl
theorem eqv_nil (ps : List PyData) : PyData.eqv (.list ps) (.list []) = ps.isEmpty := by
  cases ps <;> simp [PyData.eqv, PyData.eqvAll]
structure Nm (mg : Str → Option Value) : Prop where
  int : mg "int" = none
section
variable {P : Program} {w : PySem.World} {K : PySem.W.Frag} {mg : Str → Option Value} {base : Heap} {T : List (Addr × Str)}
theorem scTake : FnScope ["bag", "many", "row", "digit", "mixed"] ["bag", "many"] (defScope sTake) := ⟨rfl, rfl, rfl, by decide +kernel, rfl, by decide +kernel, by decide +kernel⟩
theorem ok_take {f : Addr} {fd : FuncData} (G : Fun K "_law_take" "_law_take" sTake f fd) (hm : Nm mg) : FnOk P w K mg base CX0 1 f fd ["bag", "many"] (spOf K T spTake) := by
  refine fnD G scTake (fun ds w κ χ h => ?_) (fun cdv A outer s H E ds w0 κ χ hr h => ?_)
  · obtain ⟨a, r, b, m, rfl, _⟩ := h
    rfl
  · obtain ⟨a, r, b, m, rfl, hb, hm0, k⟩ := h
    have hu := hr.units
    have nd := scTake.nd
    -- row = bag[0]
    refine pssd_cons (psd_set (i := 2) nd rfl ?_)
    refine pd_ix ix_list ?_
    refine pd_var (i := 0) rfl rfl ?_
    refine pd_int ?_
    refine vr_ixO (i := 0) hb.at_ rfl ?_
    -- if row != []
    refine pssd_cons (psd_if ?_)
    refine ptd_cmp (op_neD hu) ?_
    refine pd_var (i := 2) rfl rfl ?_
    refine pd_lst ?_
    refine pad_nil ?_
    refine ⟨Nat.zero_le _, ?_⟩
    refine vr_neDO hb.row (py_ints _) rfl (shaped_ints _) rfl ?_
    refine ⟨_, rfl, ?_⟩
    rw [eqv_nil]
    cases b with
    | mk row seed cnt =>
      cases row with
      | cons x rest =>
        refine iteT ?_
        have hr0 : w0 r = some (.lst (I x :: rest.map I)) := hb.row
        -- digit = int(row[0]) % many
        refine pssd_cons (psd_set (i := 3) nd rfl ?_)
        refine pd_op op_mod ?_
        refine pd_callTy call_int1 rfl hm.int PyProof.Rows.boot_int ?_
        refine pad_cons ?_
        refine pd_ix ix_list ?_
        refine pd_var (i := 2) rfl rfl ?_
        refine pd_int ?_
        refine vr_ixO (i := 0) hr0 rfl ?_
        refine pad_nil ?_
        refine va_int ?_
        refine pd_var (i := 1) rfl rfl ?_
        refine vr_IC hm0.1 ?_
        -- row[0] = int(row[0]) // many
        refine pssd_cons (psd_sub set_list ?_)
        refine pd_op op_fdivW ?_
        refine pd_callTy call_int1 rfl hm.int PyProof.Rows.boot_int ?_
        refine pad_cons ?_
        refine pd_ix ix_list ?_
        refine pd_var (i := 2) rfl rfl ?_
        refine pd_int ?_
        refine vr_ixO (i := 0) hr0 rfl ?_
        refine pad_nil ?_
        refine va_int ?_
        refine pd_var (i := 1) rfl rfl ?_
        refine vr_IC hm0 ?_
        refine pd_var (i := 2) rfl rfl ?_
        refine pd_int ?_
        refine vr_setO (i := 0) hr0 (Nat.succ_pos _) ?_
        generalize hw1 : wu w0 r (.lst ((I x :: rest.map I).set 0 (D.val (V.int (x / m))))) = w1
        have e1 : w1 r = some (.lst (I (x / m) :: rest.map I)) := by
          rw [← hw1]
          exact wu_same
        -- if row[0] == 0: row.pop(0)
        refine pssd_cons (psd_if ?_)
        refine ptd_cmp op_eq ?_
        refine pd_ix ix_list ?_
        refine pd_var (i := 2) rfl rfl ?_
        refine pd_int ?_
        refine vr_ixO (i := 0) e1 rfl ?_
        refine pd_int ?_
        refine vr_eq rfl ⟨_, rfl, ?_⟩
        refine ite2 (fun c => ?_) (fun c => ?_)
        · have c' : x / m = 0 := V.int.inj (of_decide_eq_true c)
          refine pssd_one (psd_expr ?_)
          refine pd_bm PySem.F.plainAttrs_list PySem.F.slot_list_pop PySem.F.type_list_pop mt_popAt ?_
          refine pd_var (i := 2) rfl rfl ?_
          refine ⟨⟨rfl, _, e1⟩, ?_⟩
          refine pad_cons ?_
          refine pd_int ?_
          refine pad_nil ?_
          refine vm_pop0 e1 ?_
          refine pssd_one (psd_ret ?_)
          refine pd_var (i := 3) rfl rfl ?_
          have e2 : take ⟨x :: rest, seed, cnt⟩ m = (x % m, ⟨rest, seed, cnt⟩) := by
            unfold take
            simp only [c', if_pos]
          rw [e2] at k
          have e3 : wu w1 r (.lst (rest.map I)) = bagPut w0 a r ⟨rest, seed, cnt⟩ := by
            unfold bagPut
            rw [← hw1, wu_wu, wu_id hb.at_]
          rw [e3]
          exact k
        · have c' : ¬ x / m = 0 := fun z => c (decide_eq_true (congrArg V.int z))
          refine pssd_nil ?_
          refine pssd_one (psd_ret ?_)
          refine pd_var (i := 3) rfl rfl ?_
          have e2 : take ⟨x :: rest, seed, cnt⟩ m = (x % m, ⟨x / m :: rest, seed, cnt⟩) := by
            unfold take
            simp only [c', if_neg, not_false_eq_true]
          rw [e2] at k
          have e3 : w1 = bagPut w0 a r ⟨x / m :: rest, seed, cnt⟩ := by
            unfold bagPut
            rw [← hw1, wu_id hb.at_]
            rfl
          rw [e3]
          exact k
      | nil =>
        refine iteF ?_
        refine pssd_nil ?_
        have ha0 : w0 a = some (.lst [R r, I seed, I cnt]) := hb.at_
        -- bag[2] = bag[2] + 1
        refine pssd_cons (psd_sub set_list ?_)
        refine pd_op op_add ?_
        refine pd_ix ix_list ?_
        refine pd_var (i := 0) rfl rfl ?_
        refine pd_int ?_
        refine vr_ixO (i := 2) ha0 rfl ?_
        refine pd_int ?_
        refine vr_I ?_
        refine pd_var (i := 0) rfl rfl ?_
        refine pd_int ?_
        refine vr_setO (i := 2) ha0 (by simp) ?_
        generalize hw1 : wu w0 a (.lst ([R r, I seed, I cnt].set 2 (D.val (V.int (cnt + 1))))) = w1
        have e1 : w1 a = some (.lst [R r, I seed, I (cnt + 1)]) := by
          rw [← hw1]
          exact wu_same
        -- bag[1] = ..
        refine pssd_cons (psd_sub set_list ?_)
        refine pd_op op_mod ?_
        refine pd_callTy call_int1 rfl hm.int PyProof.Rows.boot_int ?_
        refine pad_cons ?_
        refine pd_op op_add ?_
        refine pd_op op_add ?_
        refine pd_op op_mul ?_
        refine pd_ix ix_list ?_
        refine pd_var (i := 0) rfl rfl ?_
        refine pd_int ?_
        refine vr_ixO (i := 1) e1 rfl ?_
        refine pd_int ?_
        refine vr_IC (.inr ⟨by decide, by decide⟩) ?_
        refine pd_op op_mul ?_
        refine pd_ix ix_list ?_
        refine pd_var (i := 0) rfl rfl ?_
        refine pd_int ?_
        refine vr_ixO (i := 2) e1 rfl ?_
        refine pd_int ?_
        refine vr_IC (.inr ⟨by decide, by decide⟩) ?_
        refine vr_I ?_
        refine pd_int ?_
        refine vr_I ?_
        refine pad_nil ?_
        refine va_int ?_
        refine pd_int ?_
        refine vr_IC (by decide) ?_
        refine pd_var (i := 0) rfl rfl ?_
        refine pd_int ?_
        refine vr_setO (i := 1) e1 (by simp) ?_
        generalize hs : (seed * 48271 + (cnt + 1) * 69621 + 7) % 2147483647 = sd
        generalize hw2 : wu w1 a (.lst ([R r, I seed, I (cnt + 1)].set 1 (D.val (V.int sd)))) = w2
        have e2 : w2 a = some (.lst [R r, I sd, I (cnt + 1)]) := by
          rw [← hw2]
          exact wu_same
        -- mixed = ..
        refine pssd_cons (psd_set (i := 4) nd rfl ?_)
        refine pd_op op_mod ?_
        refine pd_callTy call_int1 rfl hm.int PyProof.Rows.boot_int ?_
        refine pad_cons ?_
        refine pd_op op_add ?_
        refine pd_op op_add ?_
        refine pd_op op_mul ?_
        refine pd_ix ix_list ?_
        refine pd_var (i := 0) rfl rfl ?_
        refine pd_int ?_
        refine vr_ixO (i := 1) e2 rfl ?_
        refine pd_int ?_
        refine vr_IC (.inr ⟨by decide, by decide⟩) ?_
        refine pd_op op_fdiv ?_
        refine pd_ix ix_list ?_
        refine pd_var (i := 0) rfl rfl ?_
        refine pd_int ?_
        refine vr_ixO (i := 1) e2 rfl ?_
        refine pd_int ?_
        refine vr_IC ⟨by decide, by decide⟩ ?_
        refine vr_I ?_
        refine pd_op op_mul ?_
        refine pd_ix ix_list ?_
        refine pd_var (i := 0) rfl rfl ?_
        refine pd_int ?_
        refine vr_ixO (i := 2) e2 rfl ?_
        refine pd_int ?_
        refine vr_IC (.inr ⟨by decide, by decide⟩) ?_
        refine vr_I ?_
        refine pad_nil ?_
        refine va_int ?_
        refine pd_int ?_
        refine vr_IC (by decide) ?_
        -- return mixed // 127 % many
        refine pssd_one (psd_ret ?_)
        refine pd_op op_mod ?_
        refine pd_op op_fdiv ?_
        refine pd_var (i := 4) rfl rfl ?_
        refine pd_int ?_
        refine vr_IC ⟨by decide, by decide⟩ ?_
        refine pd_var (i := 1) rfl rfl ?_
        refine vr_IC hm0.1 ?_
        have e4 : take ⟨[], seed, cnt⟩ m = (((sd * 16807 + sd / 4099 + (cnt + 1) * 40692) % 2147483629) / 127 % m, ⟨[], sd, cnt + 1⟩) := by
          rw [← hs]
          rfl
        rw [e4] at k
        have e3 : w2 = bagPut w0 a r ⟨[], sd, cnt + 1⟩ := by
          unfold bagPut
          have hr0 : (wu w0 a (.lst [R r, I sd, I (cnt + 1)])) r = some (.lst (List.map I [])) := by
            rw [wu_ne hb.ne.symm]
            exact hb.row
          rw [wu_id hr0, ← hw2, ← hw1, wu_wu]
          rfl
        rw [e3]
        exact k
end
/-! ### _law_start -/
abbrev sStart : Stmt := top 28
def pos0 (n : Int) : Int := if n ≥ 0 then n else -1 - n
def seeds (ns : List Int) : Int := ns.foldl (fun s c => (s * 48271 + c % 1000003 + 11) % 2147483647) 120355
def start (ns : List Int) : Bag :=
  ⟨((ns.take 63).map pos0).filter (fun c => decide (c ≥ 10 ^ 18)), seeds ((ns.take 63).map pos0), 0⟩
def spStart : SpD := fun ds w κ χ => ∃ ns : List Int, ds = [.rd (ns.map I)] ∧ ∀ a r, w a = none → w r = none → a ≠ r → κ (R a) (bagPut w a r (start ns))
theorem lt_line {n : Nat} (h : n ≤ 1000) : n < sizeLine := small1000 h
section
variable {P : Program} {w : PySem.World} {K : PySem.W.Frag} {mg : Str → Option Value} {base : Heap} {T : List (Addr × Str)}
theorem scStart : FnScope ["script", "cells", "seed", "cell"] ["script"] (defScope sStart) := ⟨rfl, rfl, rfl, by decide +kernel, rfl, by decide +kernel, by decide +kernel⟩
theorem ok_start {f : Addr} {fd : FuncData} (G : Fun K "_law_start" "_law_start" sStart f fd) (hm : Nm mg) : FnOk P w K mg base CX0 1 f fd ["script"] (spOf K T spStart) := by
  refine fnD G scStart (fun ds w κ χ h => ?_) (fun cdv A outer s H E ds w0 κ χ hr h => ?_)
  · obtain ⟨ns, rfl, _⟩ := h
    rfl
  · obtain ⟨ns, rfl, k⟩ := h
    have hu := hr.units
    have nd := scStart.nd
    have hz : (ns.take 63).length ≤ 63 := by
      rw [List.length_take]
      exact Nat.min_le_left _ _
    -- cells = [int(cell) if cell >= 0 else -1 - int(cell) for cell in script[:63]]
    refine pssd_cons ?_
    refine psd_setLc (i := 1) (own := [("cell", 3)]) (is := [3]) rfl nd rfl rfl (sw_true rfl rfl rfl (by decide +kernel)) (blkOk_by (N := ["script", "cells", "seed", "cell"]) (sc := defScope sStart) (by decide +kernel)) (by decide) ?_
    refine it_list ?_
    refine pd_slTo (n := 63) ?_
    refine pd_var (i := 0) rfl rfl ?_
    refine ⟨_, .inr rfl, ?_⟩
    rw [← List.map_take]
    refine ⟨_, rfl, ?_⟩
    refine lcd_map (fun n => I (pos0 n)) (lt_line (by omega)) (fun n hn s H0 C cl fp => ?_) ?_
    · refine pgl_name nd rfl ?_
      intro s H0 C cl fp
      refine ptsd_nil ?_
      refine iteT fun s H0 C cl fp => ?_
      refine pd_if ?_
      refine ptd_cmp op_ge ?_
      refine pd_var (i := 3) rfl rfl ?_
      refine pd_int ?_
      refine vr_I ?_
      refine ⟨_, rfl, ?_⟩
      refine ite2 (fun c => ?_) (fun c => ?_)
      · refine pd_callTy call_int1 rfl hm.int PyProof.Rows.boot_int ?_
        refine pad_cons ?_
        refine pd_var (i := 3) rfl rfl ?_
        refine pad_nil ?_
        refine va_int ?_
        refine ⟨rfl, ?_, rfl⟩
        unfold pos0
        rw [if_pos (of_decide_eq_true c)]
      · refine pd_op op_sub ?_
        refine pd_un un_neg ?_
        refine pd_int ?_
        refine vr_U ?_
        refine pd_callTy call_int1 rfl hm.int PyProof.Rows.boot_int ?_
        refine pad_cons ?_
        refine pd_var (i := 3) rfl rfl ?_
        refine pad_nil ?_
        refine va_int ?_
        refine vr_I ?_
        refine ⟨rfl, ?_, rfl⟩
        unfold pos0
        rw [if_neg (fun z => c (decide_eq_true z))]
    have em : (List.map (fun n => I (pos0 n)) (ns.take 63)) = ((ns.take 63).map pos0).map I := by rw [List.map_map]; rfl
    rw [em]
    have hz2 : ((ns.take 63).map pos0).length ≤ 63 := by rw [List.length_map]; exact hz
    have k2 : ∀ a r, w0 a = none → w0 r = none → a ≠ r → κ (R a) (bagPut w0 a r ⟨((ns.take 63).map pos0).filter (fun c => decide (c ≥ 10 ^ 18)), seeds ((ns.take 63).map pos0), 0⟩) := k
    revert k2 hz2
    generalize (ns.take 63).map pos0 = cs
    intro hz2 k2
    -- seed = 4959
    refine pssd_cons (psd_set (i := 2) nd rfl ?_)
    refine pd_int ?_
    -- for cell in cells
    refine pssd_cons (psd_for PassesOwn.never rfl ?_)
    refine it_list ?_
    refine pd_var (i := 1) rfl rfl ?_
    refine ⟨_, rfl, ?_⟩
    refine ⟨fun i δ' w' => w' = w0 ∧ ∃ y3, δ' = [some (.rd (ns.map I)), some (.lst (cs.map I)), some (I (seeds (cs.take i))), y3], ⟨rfl, none, rfl⟩, ?_, ?_⟩
    · rintro i d δ' w' hd ⟨rfl, y3, rfl⟩
      rw [List.getElem?_map] at hd
      cases e : cs[i]? with
      | none =>
        rw [e] at hd
        cases hd
      | some c =>
        rw [e] at hd
        cases hd
        refine pgd_name (i := 3) nd rfl ?_
        refine pssd_one (psd_set (i := 2) nd rfl ?_)
        refine pd_op op_mod ?_
        refine pd_callTy call_int1 rfl hm.int PyProof.Rows.boot_int ?_
        refine pad_cons ?_
        refine pd_op op_add ?_
        refine pd_op op_add ?_
        refine pd_op op_mul ?_
        refine pd_var (i := 2) rfl rfl ?_
        refine pd_int ?_
        refine vr_IC (.inr ⟨by decide, by decide⟩) ?_
        refine pd_op op_mod ?_
        refine pd_var (i := 3) rfl rfl ?_
        refine pd_int ?_
        refine vr_IC (by decide) ?_
        refine vr_I ?_
        refine pd_int ?_
        refine vr_I ?_
        refine pad_nil ?_
        refine va_int ?_
        refine pd_int ?_
        refine vr_IC (by decide) ?_
        refine ⟨rfl, some (I c), ?_⟩
        have es : seeds (cs.take (i + 1)) = (seeds (cs.take i) * 48271 + c % 1000003 + 11) % 2147483647 := by
          unfold seeds
          rw [List.take_add_one, e, List.foldl_append]
          rfl
        rw [es]
        rfl
    rintro δ' w' ⟨rfl, y3, rfl⟩
    rw [List.length_map, List.take_length]
    -- return [[cell for cell in cells if cell >= 10 ** 18], seed, 0]
    refine pssd_one (psd_ret ?_)
    refine pd_lstO ?_
    refine pad_cons ?_
    refine pd_lcO (own := [("cell", 3)]) (is := [3]) rfl nd (blkOk_by (N := ["script", "cells", "seed", "cell"]) (sc := defScope sStart) (by decide +kernel)) (by decide) ?_
    refine it_list ?_
    refine pd_var (i := 1) rfl rfl ?_
    refine ⟨_, rfl, ?_⟩
    refine lcd_filter (fun c => decide (c ≥ 10 ^ 18)) I (lt_line (by omega)) (fun c hc s H0 C cl fp => ?_) ?_
    · refine pgl_name nd rfl ?_
      intro s H0 C cl fp
      refine ptsd_one ?_
      refine ptd_cmp op_ge ?_
      refine pd_var (i := 3) rfl rfl ?_
      refine pd_op op_pow ?_
      refine pd_int ?_
      refine pd_int ?_
      refine vr_IC ⟨by decide, by decide, by decide⟩ ?_
      refine vr_I ?_
      refine ⟨_, rfl, ?_⟩
      refine ite2 (fun c1 => fun s H0 C cl fp => ?_) (fun c1 => ⟨by simpa using c1, rfl⟩)
      refine pd_var (i := 3) rfl rfl ?_
      exact ⟨c1, rfl, rfl⟩
    intro r hr0
    refine pad_cons ?_
    refine pd_var (i := 2) rfl rfl ?_
    refine pad_cons ?_
    refine pd_int ?_
    refine pad_nil ?_
    refine ⟨by show 3 ≤ sizeLine; decide, fun a ha => ?_⟩
    have ne : a ≠ r := fun z => by
      rw [z, wu_same] at ha
      cases ha
    rw [wu_ne ne] at ha
    have kk := k2 a r ha hr0 ne
    unfold bagPut at kk
    rw [wu_comm ne] at kk
    exact kk
end
end Tw

set_option Elab.async false
set_option linter.all false
set_option maxRecDepth 100000
set_option maxHeartbeats 1000000
namespace Tw
open PySem PySem.Spec PyProof.Rows L2 LamX DL
abbrev sSame : Stmt := top 30
/-- the names that no module binds -/
structure Nm2 (mg : Str → Option Value) : Prop where
  int : mg "int" = none
  str : mg "str" = none
  bool : mg "bool" = none
  list : mg "list" = none
  tuple : mg "tuple" = none
  len : mg "len" = none
  range : mg "range" = none
  enumerate : mg "enumerate" = none
  isinstance : mg "isinstance" = none
theorem Nm2.nm {mg : Str → Option Value} (h : Nm2 mg) : Nm mg := ⟨h.int⟩
theorem bt_int : bootBuiltins "int" = some (.type "int") := by decide +kernel
theorem bt_str : bootBuiltins "str" = some (.type "str") := by decide +kernel
theorem bt_bool : bootBuiltins "bool" = some (.type "bool") := by decide +kernel
theorem bt_list : bootBuiltins "list" = some (.type "list") := by decide +kernel
theorem bt_tuple : bootBuiltins "tuple" = some (.type "tuple") := by decide +kernel
theorem kb_ii : kitB "int" "int" = some true := by decide +kernel
theorem kb_ib : kitB "int" "bool" = some false := by decide +kernel
theorem kb_si : kitB "str" "int" = some false := by decide +kernel
theorem kb_ss : kitB "str" "str" = some true := by decide +kernel
theorem kb_li : kitB "list" "int" = some false := by decide +kernel
theorem kb_ls : kitB "list" "str" = some false := by decide +kernel
theorem kb_ll : kitB "list" "list" = some true := by decide +kernel
theorem kb_lt : kitB "list" "tuple" = some false := by decide +kernel
theorem kb_ti : kitB "tuple" "int" = some false := by decide +kernel
theorem kb_ts : kitB "tuple" "str" = some false := by decide +kernel
theorem kb_tl : kitB "tuple" "list" = some false := by decide +kernel
theorem kb_tt : kitB "tuple" "tuple" = some true := by decide +kernel
/-- the same data; what stands for it may be owned -/
def SmO (w : Wp) (n : Nat) (d e : D) : Prop := Sm n d e ∨ ∃ a xs, d = R a ∧ w a = some (.lst xs) ∧ Sm n (.lst xs) e
def spSame (n : Nat) : SpD := fun ds w κ χ => ∃ d e, ds = [d, e] ∧ (SmO w n d e ∨ ∃ m xs es, n = m + 1 ∧ e = .lst es ∧ Lk w d xs ∧ xs.length = es.length ∧ es.length ≤ sizeLine ∧ ∀ (i : Nat) (x y : D), xs[i]? = some x → es[i]? = some y → SmO w m x y) ∧ κ (B true) w
theorem lt62 {n : Nat} (h : n ≤ sizeLine) : (n : Int) < 2 ^ 62 := by
  have e := sizeLine_eq
  omega
section
variable {P : Program} {w : PySem.World} {K : PySem.W.Frag} {mg : Str → Option Value} {base : Heap} {T : List (Addr × Str)}
theorem scSame : FnScope ["actual", "due", "k"] ["actual", "due"] (defScope sSame) := ⟨rfl, rfl, rfl, by decide +kernel, rfl, by decide +kernel, by decide +kernel⟩
theorem same_step {f : Addr} {fd : FuncData} (G : Fun K "_law_same" "_law_same" sSame f fd) (hm : Nm2 mg) (hf : mg "_law_same" = some (.ref f)) (hb : Binds K fd ["actual", "due"] []) (n : Nat)
    (ih : ∀ m, n = m + 1 → FnOk P w K mg base CX0 n f fd ["actual", "due"] (spOf K T (spSame m))) : FnOk P w K mg base CX0 (n + 1) f fd ["actual", "due"] (spOf K T (spSame n)) := by
  refine fnD G scSame (fun ds w κ χ h => ?_) (fun cdv A outer s H E ds w0 κ χ hr h => ?_)
  · obtain ⟨d, e, rfl, _⟩ := h
    rfl
  obtain ⟨d, e, rfl, h, k⟩ := h
  have hu := hr.units
  have nd := scSame.nd
  have key : ∀ (m : Nat) (xs es : List D), n = m + 1 → e = .lst es → Lk w0 d xs → xs.length = es.length → es.length ≤ sizeLine → (∀ (i : Nat) (x y : D), xs[i]? = some x → es[i]? = some y → SmO w0 m x y) →
      PSsD (cxOf CX0 P w K mg base ["actual", "due", "k"] "_law_same" (defScope sSame) f cdv A outer s H E).nox T Wf noX (defBody sSame) (startD ["actual", "due", "k"] [d, e]) w0 { nx := fun _ w' => κ DL.N w', rt := κ } := by
    intro m xs es en ee hk hl hz it
    subst en ee
    refine pssd_cons (psd_if ?_)
    refine ptd_cmp op_isN ?_
    refine pd_var (i := 1) rfl rfl ?_
    refine pd_non ?_
    refine vr_isN ?_
    refine ⟨_, rfl, ?_⟩
    refine iteF ?_
    refine pssd_nil ?_
    refine pssd_cons (psd_if ?_)
    refine ptd_cmp DL.op_isBl ?_
    refine pd_var (i := 1) rfl rfl ?_
    refine pd_bl ?_
    refine vr_isBl ?_
    refine ⟨_, rfl, ?_⟩
    refine iteF ?_
    refine pssd_nil ?_
    refine pssd_cons (psd_if ?_)
    refine ptd_cmp DL.op_isBl ?_
    refine pd_var (i := 1) rfl rfl ?_
    refine pd_bl ?_
    refine vr_isBl ?_
    refine ⟨_, rfl, ?_⟩
    refine iteF ?_
    refine pssd_nil ?_
    refine pssd_cons (psd_if ?_)
    refine ptd_val ?_
    (refine pd_callB call_isi rfl hm.isinstance PyProof.Rows.boot_isinstance ?_; refine pad_cons ?_; refine pd_var (i := 1) rfl rfl ?_; refine pad_cons ?_; refine pd_bltn (v := .ty "int") hm.int bt_int rfl ?_; refine pad_nil ?_)
    refine va_isi rfl kb_li ?_
    refine ⟨_, rfl, ?_⟩
    refine iteF ?_
    refine pssd_nil ?_
    refine pssd_cons (psd_if ?_)
    refine ptd_val ?_
    (refine pd_callB call_isi rfl hm.isinstance PyProof.Rows.boot_isinstance ?_; refine pad_cons ?_; refine pd_var (i := 1) rfl rfl ?_; refine pad_cons ?_; refine pd_bltn (v := .ty "str") hm.str bt_str rfl ?_; refine pad_nil ?_)
    refine va_isi rfl kb_ls ?_
    refine ⟨_, rfl, ?_⟩
    refine iteF ?_
    refine pssd_nil ?_
    refine pssd_cons (psd_if ?_)
    refine pwd_pt ?_
    refine pwd_and ?_
    refine ptd_val ?_
    (refine pd_callB call_isi rfl hm.isinstance PyProof.Rows.boot_isinstance ?_; refine pad_cons ?_; refine pd_var (i := 1) rfl rfl ?_; refine pad_cons ?_; refine pd_bltn (v := .ty "list") hm.list bt_list rfl ?_; refine pad_nil ?_)
    refine va_isi rfl kb_ll ?_
    refine ⟨_, rfl, ?_⟩
    refine iteT ?_
    refine pwd_and1 ?_
    refine ptd_not ?_
    refine ptd_val ?_
    (refine pd_callB call_isi rfl hm.isinstance PyProof.Rows.boot_isinstance ?_; refine pad_cons ?_; refine pd_var (i := 0) rfl rfl ?_; refine pad_cons ?_; refine pd_bltn (v := .ty "list") hm.list bt_list rfl ?_; refine pad_nil ?_)
    refine va_isiK hk kb_ll ?_
    refine ⟨_, rfl, ?_⟩
    refine iteF ?_
    refine pssd_nil ?_
    refine pssd_cons (psd_if ?_)
    refine pwd_pt ?_
    refine pwd_and ?_
    refine ptd_val ?_
    (refine pd_callB call_isi rfl hm.isinstance PyProof.Rows.boot_isinstance ?_; refine pad_cons ?_; refine pd_var (i := 1) rfl rfl ?_; refine pad_cons ?_; refine pd_bltn (v := .ty "tuple") hm.tuple bt_tuple rfl ?_; refine pad_nil ?_)
    refine va_isi rfl kb_lt ?_
    refine ⟨_, rfl, ?_⟩
    refine iteF ?_
    refine iteF ?_
    refine pssd_nil ?_
    refine pssd_cons (psd_if ?_)
    refine ptd_cmp op_ne ?_
    refine pd_callB call_len_seq rfl hm.len PySem.boot_len ?_
    refine pad_cons ?_
    refine pd_var (i := 0) rfl rfl ?_
    refine pad_nil ?_
    refine va_lenK hk ?_
    refine pd_callB call_len_seq rfl hm.len PySem.boot_len ?_
    refine pad_cons ?_
    refine pd_var (i := 1) rfl rfl ?_
    refine pad_nil ?_
    refine va_len ?_
    refine vr_ne rfl ?_
    refine ⟨_, rfl, ?_⟩
    rw [hl, decide_eq_true rfl]
    refine iteF ?_
    refine pssd_nil ?_
    refine pssd_cons (psd_for PassesOwn.never rfl ?_)
    refine it_range hm.range ?_
    refine pd_callB call_len_seq rfl hm.len PySem.boot_len ?_
    refine pad_cons ?_
    refine pd_var (i := 1) rfl rfl ?_
    refine pad_nil ?_
    refine va_len ?_
    refine ⟨es.length, rfl, lt62 hz, ?_⟩
    refine ⟨fun i δ' w' => w' = w0 ∧ δ'[0]? = some (some (d)) ∧ δ'[1]? = some (some (.lst es)) ∧ δ'.length = 3, ⟨rfl, rfl, rfl, rfl⟩, ?_, ?_⟩
    · rintro i dk δ' w' hd ⟨rfl, h0, h1, h3⟩
      obtain ⟨hi, rfl⟩ := ups_at hd
      have e2 : es[i]? = some es[i] := List.getElem?_eq_getElem hi
      have e1 : xs[i]? = some (xs[i]'(by omega)) := List.getElem?_eq_getElem (by omega)
      have sm := it i _ _ e1 e2
      refine pgd_name (i := 2) nd rfl ?_
      have g0 : (δ'.set 2 (some (I (i : Int))))[0]? = some (some (d)) := by
        rw [List.getElem?_set_ne (by decide)]
        exact h0
      have g1 : (δ'.set 2 (some (I (i : Int))))[1]? = some (some (.lst es)) := by
        rw [List.getElem?_set_ne (by decide)]
        exact h1
      have g2 : (δ'.set 2 (some (I (i : Int))))[2]? = some (some (I (i : Int))) := List.getElem?_set_self (by omega)
      refine pssd_one (psd_if ?_)
      refine ptd_not ?_
      refine ptd_val ?_
      refine pd_call (ih m rfl) hr hf G.kp hb (fun _ => pass0At) ?_
      refine pad_cons ?_
      refine pd_ix ix_list ?_
      refine pd_var (i := 0) rfl g0 ?_
      refine pd_var (i := 2) rfl g2 ?_
      refine vr_ixK hk e1 ?_
      refine pad_cons ?_
      refine pd_ix ix_list ?_
      refine pd_var (i := 1) rfl g1 ?_
      refine pd_var (i := 2) rfl g2 ?_
      refine vr_ixL e2 ?_
      refine pad_nil ?_
      refine ⟨_, _, rfl, .inl sm, ?_⟩
      refine ⟨_, rfl, ?_⟩
      refine iteF ?_
      exact pssd_nil ⟨rfl, g0, g1, by rw [List.length_set]; exact h3⟩
    · rintro δ' w' ⟨rfl, _, _, _⟩
      refine pssd_one (psd_ret ?_)
      refine pd_bl ?_
      exact k
  rcases h with h | h
  case inr =>
    obtain ⟨m, xs, es, en, ee, hk, hl, hz, it⟩ := h
    exact key m xs es en ee hk hl hz it
  rcases h with h | ⟨a, xs, rfl, hw, h⟩
  case inr =>
    cases h with
    | lst hl hz it => exact key _ _ _ rfl rfl (.inr ⟨a, rfl, hw⟩) hl hz fun i x y h1 h2 => .inl (it i x y h1 h2)
  cases h with
  | lst hl hz it => exact key _ _ _ rfl rfl (.inl rfl) hl hz fun i x y h1 h2 => .inl (it i x y h1 h2)
  | non =>
    refine pssd_cons (psd_if ?_)
    refine ptd_cmp op_isN ?_
    refine pd_var (i := 1) rfl rfl ?_
    refine pd_non ?_
    refine vr_isN ?_
    refine ⟨_, rfl, ?_⟩
    refine iteT ?_
    refine pssd_one (psd_ret ?_)
    refine pd_cmp op_isN ?_
    refine pd_var (i := 0) rfl rfl ?_
    refine pd_non ?_
    refine vr_isN ?_
    exact k
  | bl b =>
    cases b
    case true =>
      refine pssd_cons (psd_if ?_)
      refine ptd_cmp op_isN ?_
      refine pd_var (i := 1) rfl rfl ?_
      refine pd_non ?_
      refine vr_isN ?_
      refine ⟨_, rfl, ?_⟩
      refine iteF ?_
      refine pssd_nil ?_
      refine pssd_cons (psd_if ?_)
      refine ptd_cmp DL.op_isBl ?_
      refine pd_var (i := 1) rfl rfl ?_
      refine pd_bl ?_
      refine vr_isBl ?_
      refine ⟨_, rfl, ?_⟩
      refine iteT ?_
      refine pssd_one (psd_ret ?_)
      refine pd_cmp DL.op_isBl ?_
      refine pd_var (i := 0) rfl rfl ?_
      refine pd_bl ?_
      refine vr_isBl ?_
      exact k
    case false =>
      refine pssd_cons (psd_if ?_)
      refine ptd_cmp op_isN ?_
      refine pd_var (i := 1) rfl rfl ?_
      refine pd_non ?_
      refine vr_isN ?_
      refine ⟨_, rfl, ?_⟩
      refine iteF ?_
      refine pssd_nil ?_
      refine pssd_cons (psd_if ?_)
      refine ptd_cmp DL.op_isBl ?_
      refine pd_var (i := 1) rfl rfl ?_
      refine pd_bl ?_
      refine vr_isBl ?_
      refine ⟨_, rfl, ?_⟩
      refine iteF ?_
      refine pssd_nil ?_
      refine pssd_cons (psd_if ?_)
      refine ptd_cmp DL.op_isBl ?_
      refine pd_var (i := 1) rfl rfl ?_
      refine pd_bl ?_
      refine vr_isBl ?_
      refine ⟨_, rfl, ?_⟩
      refine iteT ?_
      refine pssd_one (psd_ret ?_)
      refine pd_cmp DL.op_isBl ?_
      refine pd_var (i := 0) rfl rfl ?_
      refine pd_bl ?_
      refine vr_isBl ?_
      exact k
  | int i =>
    refine pssd_cons (psd_if ?_)
    refine ptd_cmp op_isN ?_
    refine pd_var (i := 1) rfl rfl ?_
    refine pd_non ?_
    refine vr_isN ?_
    refine ⟨_, rfl, ?_⟩
    refine iteF ?_
    refine pssd_nil ?_
    refine pssd_cons (psd_if ?_)
    refine ptd_cmp DL.op_isBl ?_
    refine pd_var (i := 1) rfl rfl ?_
    refine pd_bl ?_
    refine vr_isBl ?_
    refine ⟨_, rfl, ?_⟩
    refine iteF ?_
    refine pssd_nil ?_
    refine pssd_cons (psd_if ?_)
    refine ptd_cmp DL.op_isBl ?_
    refine pd_var (i := 1) rfl rfl ?_
    refine pd_bl ?_
    refine vr_isBl ?_
    refine ⟨_, rfl, ?_⟩
    refine iteF ?_
    refine pssd_nil ?_
    refine pssd_cons (psd_if ?_)
    refine ptd_val ?_
    (refine pd_callB call_isi rfl hm.isinstance PyProof.Rows.boot_isinstance ?_; refine pad_cons ?_; refine pd_var (i := 1) rfl rfl ?_; refine pad_cons ?_; refine pd_bltn (v := .ty "int") hm.int bt_int rfl ?_; refine pad_nil ?_)
    refine va_isi rfl kb_ii ?_
    refine ⟨_, rfl, ?_⟩
    refine iteT ?_
    refine pssd_one (psd_ret ?_)
    refine pd_and ?_
    (refine pd_callB call_isi rfl hm.isinstance PyProof.Rows.boot_isinstance ?_; refine pad_cons ?_; refine pd_var (i := 0) rfl rfl ?_; refine pad_cons ?_; refine pd_bltn (v := .ty "int") hm.int bt_int rfl ?_; refine pad_nil ?_)
    refine va_isi rfl kb_ii ?_
    refine ⟨_, rfl, ?_⟩
    refine iteT ?_
    refine pd_and ?_
    refine pd_not ?_
    (refine pd_callB call_isi rfl hm.isinstance PyProof.Rows.boot_isinstance ?_; refine pad_cons ?_; refine pd_var (i := 0) rfl rfl ?_; refine pad_cons ?_; refine pd_bltn (v := .ty "bool") hm.bool bt_bool rfl ?_; refine pad_nil ?_)
    refine va_isi rfl kb_ib ?_
    refine ⟨_, rfl, ?_⟩
    refine ⟨_, rfl, ?_⟩
    refine iteT ?_
    refine pd_one ?_
    refine pd_cmp op_eq ?_
    refine pd_var (i := 0) rfl rfl ?_
    refine pd_var (i := 1) rfl rfl ?_
    refine vr_eq rfl ?_
    rw [decide_eq_true rfl]
    exact k
  | str x =>
    refine pssd_cons (psd_if ?_)
    refine ptd_cmp op_isN ?_
    refine pd_var (i := 1) rfl rfl ?_
    refine pd_non ?_
    refine vr_isN ?_
    refine ⟨_, rfl, ?_⟩
    refine iteF ?_
    refine pssd_nil ?_
    refine pssd_cons (psd_if ?_)
    refine ptd_cmp DL.op_isBl ?_
    refine pd_var (i := 1) rfl rfl ?_
    refine pd_bl ?_
    refine vr_isBl ?_
    refine ⟨_, rfl, ?_⟩
    refine iteF ?_
    refine pssd_nil ?_
    refine pssd_cons (psd_if ?_)
    refine ptd_cmp DL.op_isBl ?_
    refine pd_var (i := 1) rfl rfl ?_
    refine pd_bl ?_
    refine vr_isBl ?_
    refine ⟨_, rfl, ?_⟩
    refine iteF ?_
    refine pssd_nil ?_
    refine pssd_cons (psd_if ?_)
    refine ptd_val ?_
    (refine pd_callB call_isi rfl hm.isinstance PyProof.Rows.boot_isinstance ?_; refine pad_cons ?_; refine pd_var (i := 1) rfl rfl ?_; refine pad_cons ?_; refine pd_bltn (v := .ty "int") hm.int bt_int rfl ?_; refine pad_nil ?_)
    refine va_isi rfl kb_si ?_
    refine ⟨_, rfl, ?_⟩
    refine iteF ?_
    refine pssd_nil ?_
    refine pssd_cons (psd_if ?_)
    refine ptd_val ?_
    (refine pd_callB call_isi rfl hm.isinstance PyProof.Rows.boot_isinstance ?_; refine pad_cons ?_; refine pd_var (i := 1) rfl rfl ?_; refine pad_cons ?_; refine pd_bltn (v := .ty "str") hm.str bt_str rfl ?_; refine pad_nil ?_)
    refine va_isi rfl kb_ss ?_
    refine ⟨_, rfl, ?_⟩
    refine iteT ?_
    refine pssd_one (psd_ret ?_)
    refine pd_and ?_
    (refine pd_callB call_isi rfl hm.isinstance PyProof.Rows.boot_isinstance ?_; refine pad_cons ?_; refine pd_var (i := 0) rfl rfl ?_; refine pad_cons ?_; refine pd_bltn (v := .ty "str") hm.str bt_str rfl ?_; refine pad_nil ?_)
    refine va_isi rfl kb_ss ?_
    refine ⟨_, rfl, ?_⟩
    refine iteT ?_
    refine pd_one ?_
    refine pd_cmp op_eq ?_
    refine pd_var (i := 0) rfl rfl ?_
    refine pd_var (i := 1) rfl rfl ?_
    refine vr_eq rfl ?_
    rw [decide_eq_true rfl]
    exact k
  | @tup m xs es hl hz it =>
    refine pssd_cons (psd_if ?_)
    refine ptd_cmp op_isN ?_
    refine pd_var (i := 1) rfl rfl ?_
    refine pd_non ?_
    refine vr_isN ?_
    refine ⟨_, rfl, ?_⟩
    refine iteF ?_
    refine pssd_nil ?_
    refine pssd_cons (psd_if ?_)
    refine ptd_cmp DL.op_isBl ?_
    refine pd_var (i := 1) rfl rfl ?_
    refine pd_bl ?_
    refine vr_isBl ?_
    refine ⟨_, rfl, ?_⟩
    refine iteF ?_
    refine pssd_nil ?_
    refine pssd_cons (psd_if ?_)
    refine ptd_cmp DL.op_isBl ?_
    refine pd_var (i := 1) rfl rfl ?_
    refine pd_bl ?_
    refine vr_isBl ?_
    refine ⟨_, rfl, ?_⟩
    refine iteF ?_
    refine pssd_nil ?_
    refine pssd_cons (psd_if ?_)
    refine ptd_val ?_
    (refine pd_callB call_isi rfl hm.isinstance PyProof.Rows.boot_isinstance ?_; refine pad_cons ?_; refine pd_var (i := 1) rfl rfl ?_; refine pad_cons ?_; refine pd_bltn (v := .ty "int") hm.int bt_int rfl ?_; refine pad_nil ?_)
    refine va_isi rfl kb_ti ?_
    refine ⟨_, rfl, ?_⟩
    refine iteF ?_
    refine pssd_nil ?_
    refine pssd_cons (psd_if ?_)
    refine ptd_val ?_
    (refine pd_callB call_isi rfl hm.isinstance PyProof.Rows.boot_isinstance ?_; refine pad_cons ?_; refine pd_var (i := 1) rfl rfl ?_; refine pad_cons ?_; refine pd_bltn (v := .ty "str") hm.str bt_str rfl ?_; refine pad_nil ?_)
    refine va_isi rfl kb_ts ?_
    refine ⟨_, rfl, ?_⟩
    refine iteF ?_
    refine pssd_nil ?_
    refine pssd_cons (psd_if ?_)
    refine pwd_pt ?_
    refine pwd_and ?_
    refine ptd_val ?_
    (refine pd_callB call_isi rfl hm.isinstance PyProof.Rows.boot_isinstance ?_; refine pad_cons ?_; refine pd_var (i := 1) rfl rfl ?_; refine pad_cons ?_; refine pd_bltn (v := .ty "list") hm.list bt_list rfl ?_; refine pad_nil ?_)
    refine va_isi rfl kb_tl ?_
    refine ⟨_, rfl, ?_⟩
    refine iteF ?_
    refine iteF ?_
    refine pssd_nil ?_
    refine pssd_cons (psd_if ?_)
    refine pwd_pt ?_
    refine pwd_and ?_
    refine ptd_val ?_
    (refine pd_callB call_isi rfl hm.isinstance PyProof.Rows.boot_isinstance ?_; refine pad_cons ?_; refine pd_var (i := 1) rfl rfl ?_; refine pad_cons ?_; refine pd_bltn (v := .ty "tuple") hm.tuple bt_tuple rfl ?_; refine pad_nil ?_)
    refine va_isi rfl kb_tt ?_
    refine ⟨_, rfl, ?_⟩
    refine iteT ?_
    refine pwd_and1 ?_
    refine ptd_not ?_
    refine ptd_val ?_
    (refine pd_callB call_isi rfl hm.isinstance PyProof.Rows.boot_isinstance ?_; refine pad_cons ?_; refine pd_var (i := 0) rfl rfl ?_; refine pad_cons ?_; refine pd_bltn (v := .ty "tuple") hm.tuple bt_tuple rfl ?_; refine pad_nil ?_)
    refine va_isi rfl kb_tt ?_
    refine ⟨_, rfl, ?_⟩
    refine iteF ?_
    refine pssd_nil ?_
    refine pssd_cons (psd_if ?_)
    refine ptd_cmp op_ne ?_
    refine pd_callB call_len_seq rfl hm.len PySem.boot_len ?_
    refine pad_cons ?_
    refine pd_var (i := 0) rfl rfl ?_
    refine pad_nil ?_
    refine va_lenT ?_
    refine pd_callB call_len_seq rfl hm.len PySem.boot_len ?_
    refine pad_cons ?_
    refine pd_var (i := 1) rfl rfl ?_
    refine pad_nil ?_
    refine va_lenT ?_
    refine vr_ne rfl ?_
    refine ⟨_, rfl, ?_⟩
    rw [hl, decide_eq_true rfl]
    refine iteF ?_
    refine pssd_nil ?_
    refine pssd_cons (psd_for PassesOwn.never rfl ?_)
    refine it_range hm.range ?_
    refine pd_callB call_len_seq rfl hm.len PySem.boot_len ?_
    refine pad_cons ?_
    refine pd_var (i := 1) rfl rfl ?_
    refine pad_nil ?_
    refine va_lenT ?_
    refine ⟨es.length, rfl, lt62 hz, ?_⟩
    refine ⟨fun i δ' w' => w' = w0 ∧ δ'[0]? = some (some (.tup xs)) ∧ δ'[1]? = some (some (.tup es)) ∧ δ'.length = 3, ⟨rfl, rfl, rfl, rfl⟩, ?_, ?_⟩
    · rintro i dk δ' w' hd ⟨rfl, h0, h1, h3⟩
      obtain ⟨hi, rfl⟩ := ups_at hd
      have e2 : es[i]? = some es[i] := List.getElem?_eq_getElem hi
      have e1 : xs[i]? = some (xs[i]'(by omega)) := List.getElem?_eq_getElem (by omega)
      have sm := it i _ _ e1 e2
      refine pgd_name (i := 2) nd rfl ?_
      have g0 : (δ'.set 2 (some (I (i : Int))))[0]? = some (some (.tup xs)) := by
        rw [List.getElem?_set_ne (by decide)]
        exact h0
      have g1 : (δ'.set 2 (some (I (i : Int))))[1]? = some (some (.tup es)) := by
        rw [List.getElem?_set_ne (by decide)]
        exact h1
      have g2 : (δ'.set 2 (some (I (i : Int))))[2]? = some (some (I (i : Int))) := List.getElem?_set_self (by omega)
      refine pssd_one (psd_if ?_)
      refine ptd_not ?_
      refine ptd_val ?_
      refine pd_call (ih m rfl) hr hf G.kp hb (fun _ => pass0At) ?_
      refine pad_cons ?_
      refine pd_ix ix_tup ?_
      refine pd_var (i := 0) rfl g0 ?_
      refine pd_var (i := 2) rfl g2 ?_
      refine vr_ixT e1 ?_
      refine pad_cons ?_
      refine pd_ix ix_tup ?_
      refine pd_var (i := 1) rfl g1 ?_
      refine pd_var (i := 2) rfl g2 ?_
      refine vr_ixT e2 ?_
      refine pad_nil ?_
      refine ⟨_, _, rfl, .inl (.inl sm), ?_⟩
      refine ⟨_, rfl, ?_⟩
      refine iteF ?_
      exact pssd_nil ⟨rfl, g0, g1, by rw [List.length_set]; exact h3⟩
    · rintro δ' w' ⟨rfl, _, _, _⟩
      refine pssd_one (psd_ret ?_)
      refine pd_bl ?_
      exact k
theorem ok_same {f : Addr} {fd : FuncData} (G : Fun K "_law_same" "_law_same" sSame f fd) (hm : Nm2 mg) (hf : mg "_law_same" = some (.ref f)) (hb : Binds K fd ["actual", "due"] []) : ∀ n : Nat, FnOk P w K mg base CX0 (n + 1) f fd ["actual", "due"] (spOf K T (spSame n))
  | 0 => same_step G hm hf hb 0 fun m h => by cases h
  | n + 1 => same_step G hm hf hb (n + 1) fun m h => by
    cases h
    exact ok_same G hm hf hb n
end
end Tw

set_option Elab.async false
set_option linter.all false
set_option maxRecDepth 100000
set_option maxHeartbeats 1000000
namespace Tw
open PySem PySem.Spec PyProof.Rows L2 LamX DL
/-- the global x is a def that keeps sp -/
def HasF (P : Program) (w : PySem.World) (K : PySem.W.Frag) (mg : Str → Option Value) (base : Heap) (T : List (Addr × Str)) (CX : CXT) (x : Str) (k : Nat) (ps : List Str) (sp : SpD) : Prop :=
  ∃ f fd, FnOk P w K mg base CX k f fd ps (spOf K T sp) ∧ mg x = some (.ref f) ∧ PySem.W.keepIn K (.ref f) = true ∧ Binds K fd ps []
section
variable {X : Cx} {T : List (Addr × Str)} {W : WX} {χ : XD} {δ : Dn} {w : Wp} {pos : Pos}
theorem pd_has {CX : CXT} {k : Nat} {ps : List Str} {sp : SpD} {x : Str} {p : Pos} {e : Expr} {es : List Expr} {κ : D → Wp → Prop} (G : HasF X.prog X.w X.K X.mg X.base T CX x k ps sp) (hr : Room k X.A)
    (hx : ∀ σ, PassesAt CX X σ (WE W σ)) (h : PAD X T W χ (e :: es) δ w fun ds w1 => sp ds w1 κ χ) (hg : Gl X x := by rfl) (hdb : (x == ("__debug__" : Str)) = false := by decide)
    (he : starEach (e :: es) X.env = (false, eval e X.env) :: starEach es X.env := by rfl) (hpl : (backTo pos (starEach es X.env)).any (·.1) = false := by rfl) : PD X T W χ (.Call (.Name x p) (e :: es) [] pos) δ w κ := by
  obtain ⟨f, fd, h1, h2, h3, h4⟩ := G
  exact pd_call h1 hr h2 h3 h4 hx h hg hdb he hpl
theorem take_lt {b : Bag} {m : Int} (h : 0 < m) : 0 ≤ (take b m).1 ∧ (take b m).1 < m := by
  unfold take
  split
  · exact ⟨Int.emod_nonneg _ (by omega), Int.emod_lt_of_pos _ h⟩
  · exact ⟨Int.emod_nonneg _ (by omega), Int.emod_lt_of_pos _ h⟩
/-- _law_take(bag, e) -/
theorem pd_take {x y : Str} {k i : Nat} {p p1 : Pos} {e : Expr} {a r : Addr} {b : Bag} {κ : D → Wp → Prop} (G : HasF X.prog X.w X.K X.mg X.base T CX0 x k ["bag", "many"] spTake) (hr : Room k X.A)
    (hN : X.N[i]? = some y) (hd : δ[i]? = some (some (R a))) (hb : BagAt w a r b) (h : PD X T W χ e δ w fun d w1 => w1 = w ∧ ∃ m, d = I m ∧ 0 < m ∧ m.natAbs.log2 < 9000 ∧ ∀ v b', 0 ≤ v → v < m → κ (I v) (bagPut w a r b'))
    (hg : Gl X x := by rfl) (hdb : (x == ("__debug__" : Str)) = false := by decide)
    (he : starEach [.Name y p1, e] X.env = (false, eval (.Name y p1) X.env) :: starEach [e] X.env := by rfl) (he2 : starEach [e] X.env = (false, eval e X.env) :: starEach [] X.env := by rfl) (hpl : (backTo pos (starEach [e] X.env)).any (·.1) = false := by rfl)
    (hv : Vis X.env.scope y := by first | exact Or.inl rfl | exact Or.inr (Or.inl rfl) | exact Or.inr (Or.inr rfl)) (h1 : (y == ("__debug__" : Str)) = false := by decide) (h2 : (y == ("__classdict__" : Str)) = false := by decide) : PD X T W χ (.Call (.Name x p) [.Name y p1, e] [] pos) δ w κ := by
  refine pd_has G hr (fun _ => pass0At) ?_ hg hdb he hpl
  refine pad_cons (pd_var hN hd ?_ hv h1 h2) he
  refine pad_cons (h.imp ?_) he2
  rintro d w1 ⟨rfl, m, rfl, h3, h4, k⟩
  refine pad_nil ⟨a, r, b, m, rfl, hb, ⟨h3, h4⟩, ?_⟩
  exact k _ _ (take_lt h3).1 (take_lt h3).2
end
theorem log_of {x : Int} (h : x.natAbs < 2 ^ 1000) : x.natAbs.log2 < 1920 := by
  by_cases z : x.natAbs = 0
  · rw [z]
    decide
  · exact Nat.lt_trans ((Nat.log2_lt z).mpr h) (by decide)
end Tw

set_option Elab.async false
set_option linter.all false
set_option maxRecDepth 100000
set_option maxHeartbeats 1000000
/-! An own error class whose __init__ begins with super().__init__(e, ..), the base's __init__ that of ValueError: the rule for that def. -/
namespace DL
open PySem PySem.Spec PyProof.Rows L2 LamX
open PySem.W (ksEnv)
structure ScopeS (N ps : List Str) (sc : Scope) : Prop where
  kind : sc.kind = .function
  co : sc.isCoroutine = false
  gen : sc.isGenerator = false
  nd : N.Nodup
  pre : N.take ps.length = ps
  par : ∀ x ∈ ps, sc.names.lookup x = some .local
  nocell : ∀ y ∈ sc.names, y.2 ≠ .cell
  nofree : ∀ x, sc.names.lookup x = some .cell ∨ sc.names.lookup x = some .free → x = "__class__"
  cls : sc.names.lookup ("__class__" : Str) = some .free
  sup : sc.names.lookup ("super" : Str) = some .globalImplicit
/-- what the written part says of the def at f, __init__ of the class at C -/
structure SupTxt (P : Program) (K : PySem.W.Frag) (mg : Str → Option Value) (C f cc cda : Addr) (qual : Str) (st : Stmt) (fd : FuncData) : Prop where
  ex : ∃ (oc : Value) (od : Option Addr) (kV doc pm : Value) (an : Option Addr) (ct : Value) (osl : Array (Option Value)),
    fd = PySem.W.fnX "__init__" qual (defArgs st) (defBody st) (defScope st) [("__class__", cc)] .none kV doc pm an (.ref cda) ct ∧ K.lookup f = some ⟨oc, od, .func fd, osl⟩ ∧ PySem.W.codeIn K (.ref cda) qual = true
  code : ∃ (ccl : Value) (cdd : Option Addr) (ccs : Array (Option Value)) (vs : Array Value) (file : Str) (tf : Tok), K.lookup cda = some ⟨ccl, cdd, .fields vs, ccs⟩ ∧ vs[2]? = some (.str file tf) ∧ ((P.main.file : Str) == file) = true
  cell : ∃ (cl : Value) (cld : Option Addr) (csl : Array (Option Value)), K.lookup cc = some ⟨cl, cld, .cell (some (.ref C)), csl⟩
  along : PySem.W.ks_superIn K C C "__init__" = some (some (.builtin "ValueError.__init__"))
  opq : PySem.W.nsIn K cStatics "thirdparty.any" = some none
  sub : PySem.W.subIn K (.ref C) (.type "ValueError") = some true
  selfc : PySem.W.mroIn K C (.ref C) = some true
  mgs : mg "super" = none
  top : (P.main.scope.names.lookup ("super" : Str)).isSome = false
theorem boot_super : bootBuiltins "super" = some (.type "super") := by decide +kernel
def cxS (CX : CXT) (P : Program) (w : PySem.World) (K : PySem.W.Frag) (mg : Str → Option Value) (base : Heap) (N : List Str) (qual : Str) (scope : Scope) (f : Addr) (cd : Value) (cc : Addr) (A : Around) (outer : List Env) (s : Shared) (H : Hp) (E : XK) : Cx where
  prog := P
  w := w
  K := K
  mg := mg
  base := base
  A := A.deeper (ksEnv qual scope s.heap.objs.size f cd cc)
  N := N
  s_0 := s
  H_0 := H
  env := ksEnv qual scope s.heap.objs.size f cd cc
  outer := outer
  stack := ksEnv qual scope s.heap.objs.size f cd cc :: outer
  ex := []
  calm := true
  fn := fun _ => false
  pn := []
  xe := fun e s' => wpAny (model P w) (A.deeper (ksEnv qual scope s.heap.objs.size f cd cc)) (leaving (ksEnv qual scope s.heap.objs.size f cd cc) e) (fun _ s'' => CX outer H s E e s'') (fun e' s'' => CX outer H s E e' s'') s'
theorem look_app {α β : Type} [BEq α] (x : α) : ∀ (a b : List (α × β)), (a ++ b).lookup x = match a.lookup x with | some v => some v | none => b.lookup x
  | [], b => rfl
  | (k, v) :: a, b => by
    have ih := look_app x a b
    cases hb : x == k with
    | true => simp only [List.cons_append, List.lookup, hb]
    | false =>
      simp only [List.cons_append, List.lookup, hb]
      exact ih
theorem look_rev_none {x : Str} : ∀ {l : List (Str × Value)}, x ∉ l.map (·.1) → l.reverse.lookup x = none
  | [], _ => rfl
  | (k, v) :: l, h => by
    rw [List.reverse_cons, look_app, look_rev_none (l := l) fun z => h (List.mem_cons_of_mem _ z)]
    have hb : (x == k) = false := beq_eq_false_iff_ne.mpr fun z => h (by rw [z]; exact List.mem_cons_self ..)
    simp only [List.lookup, hb]
theorem look_rev {x : Str} {u : Value} : ∀ {ps : List Str} {us : List Value} {i : Nat}, ps.Nodup → ps[i]? = some x → us[i]? = some u → (ps.zip us).reverse.lookup x = some u
  | [], _, _, _, h, _ => by simp at h
  | _ :: _, [], _, _, _, h => by simp at h
  | p :: ps, v :: us, 0, nd, h1, h2 => by
    have e1 : p = x := Option.some.inj h1
    have e2 : v = u := Option.some.inj h2
    subst e1 e2
    show ((p, v) :: ps.zip us).reverse.lookup p = some v
    rw [List.reverse_cons, look_app, look_rev_none]
    · simp [List.lookup]
    · intro z
      obtain ⟨q, hq, e⟩ := List.mem_map.mp z
      obtain ⟨a, b⟩ := q
      have e' : a = p := e
      subst e'
      exact (List.nodup_cons.mp nd).1 (List.of_mem_zip hq).1
  | p :: ps, v :: us, i + 1, nd, h1, h2 => by
    show ((p, v) :: ps.zip us).reverse.lookup x = some u
    rw [List.reverse_cons, look_app, look_rev (i := i) (List.nodup_cons.mp nd).2 h1 h2]
theorem inv_startS {CX : CXT} {P : Program} {w : PySem.World} {K : PySem.W.Frag} {mg : Str → Option Value} {base : Heap} {N ps : List Str} {qual : Str} {scope : Scope} {f cc : Addr} {cd : Value} {A : Around} {outer : List Env} {s : Shared} {H : Hp} {E : XK} {us : List Value} {vs : List V} {h1 : Heap} {tk : Nat}
    (S : ScopeS N ps scope) (hd : A.handled = none) (e0 : Env0 P w K mg base A outer s H) (hl : vs.length = ps.length) (r : Vals vs us) (hcc : ∃ (cl : Value) (cld : Option Addr) (csl : Array (Option Value)) (v : Option Value), K.lookup cc = some ⟨cl, cld, .cell v, csl⟩)
    (hns : h1.Ns s.heap.objs.size (fun x => (ps.zip us).reverse.lookup x)) (hk : ∀ b o, s.heap.get? b = some o → h1.get? b = some o) :
    Inv (cxS CX P w K mg base N qual scope f cd cc A outer s H E) [] (L2.start N vs) H { s with heap := h1, toks := tk } := by
  have hpl : ps.length ≤ N.length := by have := congrArg List.length S.pre; rw [List.length_take] at this; omega
  obtain ⟨cl, cld, csl, cv, hcc⟩ := hcc
  have bcc := e0.mod.kin cc _ hcc
  have lk : ∀ y c, List.lookup y [(("__class__" : Str), cc)] = some c → y = "__class__" ∧ c = cc := fun y c h => by
    by_cases e : y = "__class__"
    · subst e
      have : List.lookup ("__class__" : Str) [(("__class__" : Str), cc)] = some cc := by simp [List.lookup]
      rw [this] at h
      exact ⟨rfl, (Option.some.inj h).symm⟩
    · have hb : (y == ("__class__" : Str)) = false := beq_eq_false_iff_ne.mpr e
      simp only [List.lookup, hb] at h
      cases h
  have noA : ∀ b : Addr, b ∉ (cxS CX P w K mg base N qual scope f cd cc A outer s H E).ex := fun b z => absurd (show b ∈ ([] : List Addr) from z) (by simp)
  refine ⟨⟨e0.mod, S.kind, rfl, rfl, Nat.le_refl _, fun y z c h1 h2 => ?_, fun y hy => ?_, fun y c q h => absurd (show false = true from q) Bool.false_ne_true, fun _ => hd, Around.frames_deeper e0.frames, .inr ⟨rfl, rfl⟩, fun b z => absurd z (noA b), e0.bs, e0.bsz, fun b _ _ => noA b, fun b z => absurd z (noA b), e0.funs, e0.frf⟩,
    rfl, e0.bare, Un.kept hk, ⟨_, hns, fun i y v h1 h2 h3 => ?_⟩, fun y c h => ?_, e0.hok.fresh (Nat.le_refl _), fun y c h => ?_, fun p hp => absurd (show p ∈ ([] : List (Addr × Obj)) from hp) (by simp), e0.hok.kept hk, ?_⟩
  · rw [(lk y c h1).1, (lk z c h2).1]
  · have hy : scope.names.lookup y = some .cell ∨ scope.names.lookup y = some .free := hy
    have e := S.nofree y hy
    subst e
    exact ⟨cc, by show List.lookup ("__class__" : Str) [(("__class__" : Str), cc)] = some cc; simp [List.lookup]⟩
  · have hi : i < vs.length := by
      unfold L2.start at h2
      by_cases hi : i < vs.length
      · exact hi
      · rw [List.getElem?_append_right (by simpa using hi)] at h2
        rw [List.getElem?_replicate] at h2
        split at h2 <;> cases h2
    have ha : vs[i]? = some v := by
      unfold L2.start at h2
      rw [List.getElem?_append_left (by simpa using hi), List.getElem?_map] at h2
      cases e : vs[i]? with
      | none => rw [e] at h2; cases h2
      | some a => rw [e] at h2; cases h2; rfl
    obtain ⟨u, hu, rv⟩ := r.get ha
    have hp : ps[i]? = some y := by
      rw [← S.pre, List.getElem?_take_of_lt (by omega)]; exact h1
    have ndP : ps.Nodup := by rw [← S.pre]; exact S.nd.sublist (List.take_sublist _ _)
    exact ⟨u, rv, .inl ⟨S.par y (List.mem_of_getElem? hp), look_rev ndP hp hu⟩⟩
  · obtain ⟨_, rfl⟩ := lk y c h
    exact ⟨_, ⟨_, hk _ _ (e0.bs _ _ bcc).1, rfl⟩⟩
  · obtain ⟨_, rfl⟩ := lk y c h
    exact (e0.bs _ _ bcc).2
  · unfold L2.start
    show _ = N.length
    rw [List.length_append, List.length_map, List.length_replicate]
    omega
/-- the wrapper called -/
theorem call_mw {prog : Program} {w : PySem.World} {A : Around} {E : Value → Shared → Prop} {h : Heap} {g : Array GenState} {d : Drawn} {t : Nat} {os : OsState} {nm q : Str} {C N : Addr} {bs bm : List Value} {hdct : Bool} {sn : List Str} {sub : List Value} {ab : Bool} {col : Option Bool} {dd : Option Addr} {k0 k1 k2 k3 k5 : Option Value}
    {u e t0 : Addr} {rest : List Value} {Q : Value → Shared → Prop}
    (hC : h.get? C = some (excClassObj nm q C N bs bm hdct sn sub ab col dd k0 k1 k2 k3 k5 "ValueError.__new__")) (he : h.get? e = some (HandSPX.excO C t0)) (hu : h.get? u = some (PySem.W.kxs_mw "ValueError.__init__" e)) (hrest : rest.length ≤ sizeLine)
    (hq : ∀ h' t1, (∀ b o, b ≠ e → h.get? b = some o → h'.get? b = some o) → h'.get? e = some (HandSPX.excO C t1) → Q .none ⟨h', g, d, t, os⟩) :
    wpAny (model prog w) A (call (.ref u) rest) Q E ⟨h, g, d, t, os⟩ := by
  refine wpAny_call (codeAny_of_tree ?_)
  show wpAny _ A.in1 (callAny (.ref u) ⟨rest, []⟩) _ _ _
  simp only [callAny]
  refine wpAny_bind (wpAny_load hu ?_)
  simp only [PySem.W.kxs_mw, show (Value.type "method-wrapper" == Value.type "method" || Value.type "method-wrapper" == Value.type "builtin_function_or_method" || Value.type "method-wrapper" == Value.type "method-wrapper") = true by decide, if_true]
  refine PySem.W.KFB.if_so (by decide) ?_
  refine wpAny_bind (PySem.W.check_bound_init F.excBase_ValueError.toExcCallFacts hC he rfl ?_)
  refine wpAny_bind (wpAny_pure (wpAny_pure ?_))
  refine ⟨plainId_quiet F.excBase_ValueError.init.plain _, codeAny_builtin F.excBase_ValueError.initEntry ?_⟩
  rw [Around.under_plainId F.excBase_ValueError.init.plain _]
  wp_walk
  refine hq _ h.objs.size (fun b o hb ho => ?_) ?_
  · rw [Heap.get?_update_other _ _ (Ne.symm hb)]
    exact Heap.get?_push_of_some _ ho
  · rw [Heap.get?_update_self _ (Heap.get?_push_of_some _ he) rfl]
    rfl
end DL

set_option Elab.async false
set_option linter.all false
set_option maxRecDepth 100000
set_option maxHeartbeats 2000000
namespace DL
open PySem PySem.Spec PyProof.Rows L2 LamX
open PySem.W (ksEnv)
theorem callWith_mw {M : Model} {A : Around} {E : Value → Shared → Prop} {s : Shared} {i : String} {u x : Addr} {pos : Pos} {env : Env} {e : Expr} {rest : List Expr} {Q : Value → Shared → Prop}
    (he : starEach (e :: rest) env = (false, eval e env) :: starEach rest env) (hplain : (backTo pos (starEach rest env)).any (·.1) = false)
    (h : wpAny M A (spliced (backTo pos (starEach (e :: rest) env))) (fun vs s₁ => PySem.W.KxsAt i u x s₁.heap ∧ wpAny M A (call (.ref u) vs) Q E s₁) E s) :
    wpAny M A (callWith pos (.ref u) [] (backTo pos (starEach (e :: rest) env)) []) Q E s := by
  rw [he] at h ⊢
  refine PySem.W.kxs_callWith (i := i) (x := x) (by show (false || (backTo pos (starEach rest env)).any (·.1)) = false; rw [hplain]; rfl) ?_
  exact Calls.evalArgs_plain h
theorem fnSup {P : Program} {w : PySem.World} {K : PySem.W.Frag} {mg : Str → Option Value} {base : Heap} {CX : CXT} {N ps : List Str} {qual : Str} {st : Stmt} {f C cc cda : Addr} {fd : FuncData} {k : Nat} {sp : Sp} {p0 p1 ap cp xp : Pos} {e : Expr} {es : List Expr} {rest : List Stmt} {ar : Arg} {pl : Env → Sem Bool}
    (G : SupTxt P K mg C f cc cda qual st fd) (T : OexC K C) (S : ScopeS N ps (defScope st)) (hbody : defBody st = .Expr (.Call (.Attribute (.Call (.Name "super" p0) [] [] p1) "__init__" ap) (e :: es) [] cp) xp :: rest)
    (hp : ((defArgs st).posonlyargs ++ (defArgs st).args).head? = some ar) (hN0 : N[0]? = some ar.arg) (hpl : ps[0]? = some ar.arg) (len : ∀ vs H Q E, sp vs H Q E → vs.length = ps.length)
    (he : ∀ env, starEach (e :: es) env = (false, eval e env) :: starEach es env) (hpn : ∀ env, (backTo cp (starEach es env)).any (·.1) = false)
    (hev : ∀ env, eval (.Call (.Attribute (.Call (.Name "super" p0) [] [] p1) "__init__" ap) (e :: es) [] cp) env = (do
      let ov ← attributeBase (.Call (.Name "super" p0) [] [] p1) "__init__" env (eval (.Call (.Name "super" p0) [] [] p1) env)
      standAt ap.atName
      let (f, first) ← holding [ov] (getMethod ov "__init__" (pl env))
      callWith cp f first (backTo cp (starEach (e :: es) env)) []))
    (hsw : ∀ env, swapsWith (.Call (.Attribute (.Call (.Name "super" p0) [] [] p1) "__init__" ap) (e :: es) [] cp) none xp.line env = pure false)
    (body : ∀ (A : Around) (outer : List Env) (s : Shared) (H : Hp) (vs : List V) (Q : VK) (E : XK), Room k (A.deeper (ksEnv qual (defScope st) s.heap.objs.size f (.ref cda) cc)) → sp vs H Q E → ∃ ta t a,
      PA (cxS CX P w K mg base N qual (defScope st) f (.ref cda) cc A outer s H E) (e :: es) ta ∧ PSs (cxS CX P w K mg base N qual (defScope st) f (.ref cda) cc A outer s H E) rest t ∧ vs[0]? = some (.ref a) ∧ H a = some (exo a C none) ∧
      ta (L2.start N vs) H fun ws H1 => ws.length ≤ 1000 ∧ H1 a = some (exo a C none) ∧ t { nx := fun _ H' => Q .non H', rt := Q } (L2.start N vs) H1) : FnOk P w K mg base CX (k + 1) f fd ps sp := by
  refine ⟨len, fun A outer s H args us vs Q E hr e0 hb r hsp => ?_⟩
  obtain ⟨oc, od, kV, doc, pm, an, ct, osl, rfl, lk, hcd⟩ := G.ex
  obtain ⟨ccl, cdd, ccs, cvs, file, tf, hcode, hvs, hfile⟩ := G.code
  obtain ⟨cl, cld, csl, hcell⟩ := G.cell
  obtain ⟨nm, q, NN, bs, bm, sn, sub, ab, col, dd, k0, k1, k2, k3, k5, hC, hbm⟩ := T.cls
  have hcls : PySem.W.clsIn K C = some { name := nm, bases := bs, mro := .ref C :: bm, ns := NN, qualname := q, hasDict := true, slotNames := sn, subclasses := sub, abstract := ab, collection := col, hasDel := false } := by unfold PySem.W.clsIn; rw [hC] <;> rfl
  have halong : PySem.W.alongIn K "__init__" bm = some (some (.builtin "ValueError.__init__")) := by
    have z := G.along
    unfold PySem.W.ks_superIn at z
    rw [hcls] at z
    have z2 : PySem.W.alongIn K "__init__" (((Value.ref C :: bm).dropWhile (· != .ref C)).drop 1) = _ := z
    have e2 : ((Value.ref C :: bm).dropWhile (· != .ref C)).drop 1 = bm := by simp [List.dropWhile_cons]
    rw [e2] at z2
    exact z2
  have hl := len _ _ _ _ hsp
  have KX : K.In s.heap := e0.mod.kin.keeps fun b o e => (e0.bs b o e).1
  have lim : s.heap.NoLimit := e0.mod.nolimit.keeps fun b o e => (e0.bs b o e).1
  refine PySem.ks_codeAny_call_defAt (body := defBody st) (binds := ps.zip us) hr.depth (KX _ _ lk) rfl lim (PySem.W.codeRec_of KX hcd) rfl hb S.nocell (fun x hx => S.par _ (List.of_mem_zip hx).1) (fun h1 hns hk => ?_) S.co S.gen S.kind
  obtain ⟨ta, t, a, hta, ht, ha0, hHa, hq⟩ := body A outer s H vs Q E (hr.deeper _) hsp
  have I := inv_startS (CX := CX) (P := P) (w := w) (mg := mg) (qual := qual) (f := f) (cd := .ref cda) (E := E) (tk := s.toks + (ps.zip us).length) S hr.hd e0 hl r ⟨cl, cld, csl, _, hcell⟩ hns hk
  generalize hX : cxS CX P w K mg base N qual (defScope st) f (.ref cda) cc A outer s H E = X at I hta ht
  have xK : X.K = K := by rw [← hX]; rfl
  have xE : callEnv (PySem.W.fnX "__init__" qual (defArgs st) (defBody st) (defScope st) [("__class__", cc)] .none kV doc pm an (.ref cda) ct) s.heap.objs.size f = X.env := by rw [← hX]; rfl
  have xA : A.deeper X.env = X.A := by rw [← hX]; rfl
  have xP : X.prog = P := by rw [← hX]; rfl
  have xw : X.w = w := by rw [← hX]; rfl
  have xm : X.mg = mg := by rw [← hX]; rfl
  have xN : X.N = N := by rw [← hX]; rfl
  have xo : X.outer = outer := by rw [← hX]; rfl
  have xex : X.ex = [] := by rw [← hX]; rfl
  have xH0 : X.H_0 = H := by rw [← hX]; rfl
  have xs0 : X.s_0 = s := by rw [← hX]; rfl
  have xf : X.env.func = some f := by rw [← hX]; rfl
  have xc : X.env.code = .ref cda := by rw [← hX]; rfl
  have xs : X.env.scope = defScope st := by rw [← hX]; rfl
  have xcell : X.env.cells = [(("__class__" : Str), cc)] := by rw [← hX]; rfl
  have xk : ∀ y, X.env.kindOf y = (defScope st).names.lookup y := fun y => by rw [← hX]; rfl
  have xxe : (fun e s' => wpAny (model P w) X.A (leaving X.env e) (fun _ s'' => CR CX outer P w H s Q E (.error e) s'') (fun e' s'' => CR CX outer P w H s Q E (.error e') s'') s') = X.xe := by rw [← hX]; rfl
  rw [xE, xA, hbody]
  subst xP xw xK xm xN
  rw [xxe]
  have hlc : X.env.kindOf ar.arg = some .local := by
    rw [xk]
    exact S.par _ (List.mem_of_getElem? hpl)
  have hs0 : (L2.start X.N vs)[0]? = some (some (V.ref a)) := by
    unfold L2.start
    have hv : 0 < vs.length := (List.getElem?_eq_some_iff.mp ha0).1
    rw [List.getElem?_append_left (by rw [List.length_map]; exact hv), List.getElem?_map, ha0]
    rfl
  have hvis : Vis X.env.scope ar.arg := .inl (by rw [xs]; exact S.par _ (List.mem_of_getElem? hpl))
  refine PySem.ks_wpAt_execs_cons (PySem.ks_wpAt_Expr_any (PySem.ks_wpAt_MethodCall (pl := pl X.env) ?_ (hev _)) I.quiet (hsw _))
  have hof := I.kIn _ _ lk
  have hoc := I.kIn _ _ hcode
  have hcl2 := I.kIn _ _ hcell
  have hC2 := I.kIn _ _ hC
  refine PySem.ks_wpAt_super_base (vs := cvs) (by rw [xk]; exact S.sup) (by rw [xk]; exact S.cls) (by decide) xf hof rfl hp xc hoc rfl hvs hfile G.top ?_
  obtain ⟨mb, b1, b2⟩ := I.mod.blt
  refine PySem.W.ks_loadName_global I.ok.kind (by rw [xk]; exact S.sup) (Calls.loadGlobal_builtin (by rw [I.ok.glob]; exact I.mod.glob.keeps I.bk) G.mgs (by rw [I.ok.blt]; exact b1.keeps I.bk) ((b2 "super" (by decide)).trans boot_super) ⟨rfl, ?_⟩)
  refine wpAny_loadName_free I.ok.kind (by rw [xk]; exact S.cls) (by rw [xcell]; rfl) ⟨_, hcl2, rfl⟩ ?_
  obtain ⟨m, hn, hlo⟩ := I.loc
  obtain ⟨u0, ru, lu⟩ := hlo 0 ar.arg (.ref a) hN0 hs0 hvis
  have ru' : u0 = Value.ref a := ru
  subst ru'
  rcases lu with ⟨_, hm⟩ | ⟨hk2, _⟩
  case inr => rw [hlc] at hk2; rcases hk2 with z | z <;> cases z
  refine wpAny_loadName_local I.ok.kind hlc hn hm ?_
  obtain ⟨t1, hx⟩ := exo_at I.hok hHa
  refine PySem.ks_wpAny_isType_cls hC2 rfl ⟨rfl, ?_⟩
  refine PySem.ks_wpAny_call_super hC2 rfl hx rfl (fun c z => by cases z) (PySem.W.looks_mroIn I.kIn G.selfc) (fun h2 hso k2 => ?_)
  have I2 : L2.Inv X [] (L2.start X.N vs) H { s with heap := h2, toks := s.toks + (ps.zip us).length } := I.kept (t' := s.toks + (ps.zip us).length) k2
  have hx2 := k2 _ _ hx
  have hxC : a ≠ C := fun z => by
    rw [z, hC2] at hx
    have z2 := congrArg Obj.data (Option.some.inj hx)
    cases z2
  have hno : PySem.W.Looks (model X.prog X.w) h2 (opaqueClassAbove (.ref C)) none := PySem.W.looks_opaque I2.kIn G.opq
  have hCm : PySem.W.Looks (model X.prog X.w) h2 (mroOf (.ref C)) (.ref C :: bm) := (PySem.W.looks_clsIn I2.kIn hcls).andThen .now
  have e2 : ((Value.ref C :: bm).dropWhile (· != .ref C)).drop 1 = bm := by simp [List.dropWhile_cons]
  have IA : PySem.W.InstAt h2 a { cls := .ref C, dict := none, data := .fields #[.ref t1, .none, .none, .none, .bool false, .none] } C none := ⟨hx2, rfl, rfl, trivial⟩
  have hI : PySem.W.Looks (model X.prog X.w) h2 (isInstance (.ref a) (.type "ValueError")) true := IA.type.andThen (PySem.W.looks_subIn I2.kIn G.sub)
  refine PySem.W.kxs_getMethod PySem.W.kxs_ValueError hso hno hCm e2 I2.kIn halong hI hxC (by decide) ?_
  have I3 := ClX.pin_new (o := PySem.W.kxs_mw "ValueError.__init__" a) (a := h2.objs.size) (h' := h2.push (PySem.W.kxs_mw "ValueError.__init__" a)) (t' := s.toks + (ps.zip us).length + 1) I2 (fun b o e => Heap.get?_push_of_some _ e) (Nat.le_refl _) (Heap.get?_push_at rfl rfl) (fun v z => by cases z)
  -- the call
  show wpAny (model X.prog X.w) X.A (callWith cp (.ref h2.objs.size) [] (backTo cp (starEach (e :: es) X.env)) []) _ _ _
  refine callWith_mw (i := "ValueError.__init__") (x := a) (he _) (hpn _) ?_
  refine thn (hta.run cp _ _ _ H _ I3 hq) fun ws s3 ⟨vs3, H3, I4, r3, hz3, hH3, q3⟩ => ?_
  refine ⟨ClX.pin_at I4, ?_⟩
  obtain ⟨t2, hx3⟩ := exo_at I4.hok hH3
  obtain ⟨hp3, g3, d3, tk3, os3⟩ := s3
  show wpAny (model X.prog X.w) X.A (call (.ref h2.objs.size) ws) _ _ _
  refine call_mw (I4.kIn _ _ hC) hx3 (ClX.pin_at I4) (by rw [← Paired.length r3, sizeLine_eq]; omega) fun h4 t4 k4 hx4 => ?_
  have J := (ClX.unpin I4).write (t' := tk3) (x := a) (e := a) (o := exo a C none) (by rw [hH3]; exact True.intro) (.inl rfl) k4 ⟨_, hx4⟩ (exo_ok hx4)
  have eu : upd H3 a (exo a C none) = H3 := by
    funext b
    by_cases hb : b = a
    · rw [hb, upd_same, hH3]
    · rw [upd_ne hb]
  rw [eu] at J
  refine wpAt_of_wpAny (wpAny_mono (ht.run [] _ (L2.start X.N vs) H3 _ J q3) (fun fl s' hs => ?_) fun e s' hs => hs)
  have fin : ∀ {σ' : L2.St} {H' : Hp} {v : V} {u : Value}, L2.Inv X [] σ' H' s' → RelV v u → Q v H' → CE outer X.prog X.w H s Q u s' :=
    fun {σ' H' v u} J rv q => by
      have b : Un (frs X.outer) X.ex X.H_0 H' X.s_0.heap s'.heap := J.base
      have os : s'.os = X.s_0.os := J.os
      rw [xo, xex, xH0, xs0] at b
      rw [xs0] at os
      exact ⟨v, H', os, J.bare, b, J.hok, rv, q⟩
  cases fl with
  | ret u =>
    obtain ⟨v, σ', H', J, rv, q⟩ := hs
    exact fin J rv q
  | next =>
    obtain ⟨σ', H', J, q⟩ := hs
    exact fin (v := V.non) (u := Value.none) J rfl q
  | brk =>
    obtain ⟨_, _, _, q⟩ := hs
    exact False.elim q
  | cont =>
    obtain ⟨_, _, _, q⟩ := hs
    exact False.elim q
end DL

set_option Elab.async false
set_option linter.all false
set_option maxRecDepth 100000
set_option maxHeartbeats 2000000
namespace DL
open PySem PySem.Spec PyProof.Rows L2 LamX
open PySem.W (ksEnv)
/-- __init__ of an error class of one field: what it is called with, what it leaves -/
def spX1 (C : Addr) (f : Str) (ok : V → Prop) : Sp := fun vs H Q _ => ∃ a v, vs = [.ref a, v] ∧ H a = some (exo a C none) ∧ ok v ∧
  ∀ dx, H dx = none → dx ≠ a → Q .non (upd (upd H dx (exd dx [(f, v)])) a (exo a C (some dx)))
def intFits (v : V) : Prop := ∃ i : Int, v = .int i ∧ i.natAbs.log2 < 1920
/-- what a made error leaves -/
theorem made_heap {H1 : Hp} {a dx C : Addr} {f : Str} {v : V} (na : H1 a = none) (nd : dx ≠ a) : upd (del (upd (upd (upd H1 a (exo a C none)) dx (exd dx [(f, v)])) a (exo a C (some dx))) a) dx (.xd [(f, v)]) = upd H1 dx (.xd [(f, v)]) := by
  funext b
  by_cases h1 : b = dx
  · rw [h1, upd_same, upd_same]
  · rw [upd_ne h1, upd_ne h1]
    by_cases h2 : b = a
    · rw [h2, del_same, na]
    · rw [del_ne h2, upd_ne h2, upd_ne h1, upd_ne h2]
section
variable {X : Cx} {T : List (Addr × Str)} {W : WX} {χ : XD} {δ : Dn} {w : Wp} {pos : Pos}
/-- raise X(e), X an error class of one field -/
theorem psd_raise1 {CX : CXT} {x f : Str} {C fI : Addr} {k : Nat} {fd : FuncData} {ok : V → Prop} {e : Expr} {p cpos : Pos} {Fi : Fin} (hc : X.calm = true) (tk : Takes X W) (TC : OexC X.K C) (iC : PySem.W.findIn X.K (.ref C) "__init__" = some (some (.ref fI))) (tI : PySem.W.typeIn X.K (.ref fI) = some (.type "function"))
    (G : FnOk X.prog X.w X.K X.mg X.base CX0 k fI fd ["self", f] (spX1 C f ok)) (hr : Room (k + 1) X.A) (hb : Binds X.K fd ["self", f] []) (hm : X.mg x = some (.ref C))
    (h : PD X T W χ e δ w fun d w1 => ∃ v, d = .val v ∧ ok v ∧ χ C [f] [d] w1) (hg : Gl X x := by rfl) (hdb : (x == ("__debug__" : Str)) = false := by decide)
    (he : starEach [e] X.env = (false, eval e X.env) :: starEach [] X.env := by rfl) (hpl : (backTo cpos (starEach [] X.env)).any (·.1) = false := by rfl) : PSD X T W χ (.Raise (some (.Call (.Name x p) [e] [] cpos)) none pos) δ w Fi := fun F σ S H E hE hW hX hK => by
  refine wp_ps (ps_raise hc tk (pmk_oex (dvs := []) (ds := []) TC iC tI G hr hb .nil pass0 hg hm (pa_cons (pe_wp e) pa_nil he) hdb he hpl)) ?_
  refine h F σ S H _ hE hW (hX σ) fun d w1 v S1 H1 q s1 W1 r => ?_
  obtain ⟨v', rfl, hv, q⟩ := q
  have r' : v = v' := r
  subst r'
  refine ⟨by show 1 ≤ 1000; decide, fun a na => ?_⟩
  refine ⟨a, v, rfl, upd_same, hv, fun dx nd nda => ⟨rfl, dx, [(f, v)], upd_same, ?_, ?_, ?_⟩⟩
  · rw [upd_ne nda, upd_same]
  · rw [upd_ne nda] at nd
    exact nd
  · rw [upd_ne nda] at nd
    rw [made_heap na nda]
    have s2 : Same S1 (upd S1 dx (.xd [(f, v)])) := same_upd (W1.free nd).1
    exact hX σ C [f] [.val v] w1 dx _ _ q (s1.trans s2) (W1.laid nd fun _ z => by cases z) ⟨[(f, v)], upd_same, rfl, v, [], rfl, rfl, rfl⟩
end
end DL
namespace Tw
open PySem PySem.Spec PyProof.Rows L2 LamX DL
open PySem.W (ksEnv)
def topX (i : Nat) : Stmt := PySem.Challenge.pw_thinwall_k04_whole_chain_or_island.main.body.getD i (.Pass ⟨0, 0, 0, 0⟩)
abbrev sBadSize : Stmt := inClass (topX 3) 0
abbrev sUnkCase : Stmt := inClass (topX 4) 0
theorem txt_fits {x y : Str} (h : x.length ≤ 100) (k : y.length ≤ 1921) : (x ++ y).length ≤ sizeLine := by
  have e : (x ++ y).length = x.length + y.length := Str.length_append x y
  rw [e, sizeLine_eq]
  omega
theorem txt_fits2 {x y z : Str} (h : x.length ≤ 100) (k : y.length ≤ 1921) (l : z.length ≤ 100) : (x ++ y ++ z).length ≤ sizeLine := by
  have e : (x ++ y ++ z).length = x.length + y.length + z.length := by rw [Str.length_append, Str.length_append]
  rw [e, sizeLine_eq]
  omega
section
variable {P : Program} {w : PySem.World} {K : PySem.W.Frag} {mg : Str → Option Value} {base : Heap}
theorem scBS : ScopeS ["self", "size"] ["self", "size"] (defScope sBadSize) := by
  refine ⟨rfl, rfl, rfl, by decide +kernel, rfl, by decide +kernel, by decide +kernel, ?_, by decide +kernel, by decide +kernel⟩
  intro x h
  have key : ∀ y ∈ (defScope sBadSize).names, (y.2 = .cell ∨ y.2 = .free) → y.1 = "__class__" := by decide +kernel
  rcases h with h | h
  · exact key (x, _) (PySem.mem_of_lookup h) (.inl rfl)
  · exact key (x, _) (PySem.mem_of_lookup h) (.inr rfl)
theorem ok_bs {f C cc cda : Addr} {fd : FuncData} (G : SupTxt P K mg C f cc cda "BadSize.__init__" sBadSize fd) (TC : OexC K C) (no : PySem.W.findIn K (.ref C) "size" = some none) : FnOk P w K mg base CX0 1 f fd ["self", "size"] (spX1 C "size" intFits) := by
  refine fnSup G TC scBS rfl rfl rfl rfl (fun vs H Q E h => ?_) (fun _ => rfl) (fun _ => rfl) (fun _ => rfl) (fun _ => rfl) (fun A outer s H vs Q E hr h => ?_)
  · obtain ⟨a, v, rfl, _⟩ := h
    rfl
  · obtain ⟨a, v, rfl, ha, ⟨i, rfl, hi⟩, q⟩ := h
    refine ⟨_, _, a, pa_cons (pe_joined (.cons pe_str (.cons (pe_fmt (pv 1)) (.cons pe_str .nil)))) pa_nil, pss_one (ps_ost (pv 0) (pv 1)), rfl, ha, ?_⟩
    refine ⟨_, rfl, by decide +kernel, ?_⟩
    refine ⟨_, rfl, .inr ⟨i, rfl, hi, ?_⟩⟩
    have l0 : (Str.ofString (toString i)).length ≤ 1921 := by
      have e := int_text_length_le (k := 1920) (by decide) hi
      rw [PySem.ofString_length]
      omega
    refine ⟨_, rfl, txt_fits (by decide +kernel : (Str.empty ++ ("the size " : Str)).length ≤ 100) l0, ?_⟩
    refine ⟨_, rfl, txt_fits2 (by decide +kernel : (Str.empty ++ ("the size " : Str)).length ≤ 100) l0 (by decide +kernel), ?_⟩
    refine ⟨by show 1 ≤ 1000; decide, ha, ?_⟩
    refine ⟨_, rfl, _, rfl, a, C, rfl, TC, no, .inl ⟨ha, fun dx nd nda => ?_⟩⟩
    exact q dx nd nda
theorem scUC : ScopeS ["self", "case"] ["self", "case"] (defScope sUnkCase) := by
  refine ⟨rfl, rfl, rfl, by decide +kernel, rfl, by decide +kernel, by decide +kernel, ?_, by decide +kernel, by decide +kernel⟩
  intro x h
  have key : ∀ y ∈ (defScope sUnkCase).names, (y.2 = .cell ∨ y.2 = .free) → y.1 = "__class__" := by decide +kernel
  rcases h with h | h
  · exact key (x, _) (PySem.mem_of_lookup h) (.inl rfl)
  · exact key (x, _) (PySem.mem_of_lookup h) (.inr rfl)
theorem ok_uc {f C cc cda : Addr} {fd : FuncData} (G : SupTxt P K mg C f cc cda "UnknownCase.__init__" sUnkCase fd) (TC : OexC K C) (no : PySem.W.findIn K (.ref C) "case" = some none) : FnOk P w K mg base CX0 1 f fd ["self", "case"] (spX1 C "case" intFits) := by
  refine fnSup G TC scUC rfl rfl rfl rfl (fun vs H Q E h => ?_) (fun _ => rfl) (fun _ => rfl) (fun _ => rfl) (fun _ => rfl) (fun A outer s H vs Q E hr h => ?_)
  · obtain ⟨a, v, rfl, _⟩ := h
    rfl
  · obtain ⟨a, v, rfl, ha, ⟨i, rfl, hi⟩, q⟩ := h
    refine ⟨_, _, a, pa_cons (pe_joined (.cons pe_str (.cons (pe_fmt (pv 1)) .nil))) pa_nil, pss_one (ps_ost (pv 0) (pv 1)), rfl, ha, ?_⟩
    refine ⟨_, rfl, by decide +kernel, ?_⟩
    refine ⟨_, rfl, .inr ⟨i, rfl, hi, ?_⟩⟩
    have l0 : (Str.ofString (toString i)).length ≤ 1921 := by
      have e := int_text_length_le (k := 1920) (by decide) hi
      rw [PySem.ofString_length]
      omega
    refine ⟨_, rfl, txt_fits (by decide +kernel : (Str.empty ++ ("there is no case " : Str)).length ≤ 100) l0, ?_⟩
    refine ⟨by show 1 ≤ 1000; decide, ha, ?_⟩
    refine ⟨_, rfl, _, rfl, a, C, rfl, TC, no, .inl ⟨ha, fun dx nd nda => ?_⟩⟩
    exact q dx nd nda
end
end Tw

set_option Elab.async false
set_option linter.all false
set_option maxRecDepth 100000
set_option maxHeartbeats 1000000
namespace Tw
open PySem PySem.Spec PyProof.Rows L2 LamX DL
/-- what a raise of an own error class of one field asks -/
def HasE (P : Program) (w : PySem.World) (K : PySem.W.Frag) (mg : Str → Option Value) (base : Heap) (x : Str) (C : Addr) (k : Nat) (f : Str) : Prop :=
  ∃ fI fd, FnOk P w K mg base CX0 k fI fd ["self", f] (spX1 C f intFits) ∧ mg x = some (.ref C) ∧ OexC K C ∧ PySem.W.findIn K (.ref C) "__init__" = some (some (.ref fI)) ∧ PySem.W.typeIn K (.ref fI) = some (.type "function") ∧ Binds K fd ["self", f] []
/-- C.m is a method that keeps sp -/
def HasM (P : Program) (w : PySem.World) (K : PySem.W.Frag) (mg : Str → Option Value) (base : Heap) (T : List (Addr × Str)) (CX : CXT) (C : Addr) (m : Str) (k : Nat) (ps : List Str) (sp : SpD) : Prop :=
  ∃ f fd, FnOk P w K mg base CX k f fd ps (spOf K T sp) ∧ Meth K C m f ∧ Binds K fd ps []
theorem passLf {X : Cx} {σ : L2.St} : PassesAt (L2.CX X.prog X.w) X σ (WE Wf σ) := fun pins H s e s' I h => passL pins σ H s e s' I h
section
variable {X : Cx} {T : List (Addr × Str)} {W : WX} {χ : XD} {δ : Dn} {w : Wp} {pos : Pos}
theorem psd_raiseH {x f : Str} {C : Addr} {k : Nat} {e : Expr} {p cpos : Pos} {Fi : DL.Fin} (hc : X.calm = true) (tk : Takes X W) (G : HasE X.prog X.w X.K X.mg X.base x C k f) (hr : Room (k + 1) X.A)
    (h : PD X T W χ e δ w fun d w1 => ∃ i : Int, d = I i ∧ i.natAbs.log2 < 1920 ∧ χ C [f] [I i] w1) (hg : Gl X x := by rfl) (hdb : (x == ("__debug__" : Str)) = false := by decide)
    (he : starEach [e] X.env = (false, eval e X.env) :: starEach [] X.env := by rfl) (hpl : (backTo cpos (starEach [] X.env)).any (·.1) = false := by rfl) : PSD X T W χ (.Raise (some (.Call (.Name x p) [e] [] cpos)) none pos) δ w Fi := by
  obtain ⟨fI, fd, h1, h2, h3, h4, h5, h6⟩ := G
  refine psd_raise1 (CX := CX0) hc tk h3 h4 h5 h1 hr h6 h2 (h.imp ?_) hg hdb he hpl
  rintro d w1 ⟨i, rfl, hi, k⟩
  exact ⟨.int i, rfl, ⟨i, rfl, hi⟩, k⟩
theorem pd_hasm {CX : CXT} {k : Nat} {C : Addr} {ps : List Str} {sp : SpD} {m : Str} {apos : Pos} {e o : Expr} {es : List Expr} {κ : D → Wp → Prop} {pl : Sem Bool} (c : Cls X.K C) (G : HasM X.prog X.w X.K X.mg X.base T CX C m k ps sp) (hr : Room k X.A)
    (hx : ∀ σ, PassesAt CX X σ (WE W σ)) (h : PD X T W χ o δ w fun d w1 => InsD C m d w1 ∧ PAD X T W χ (e :: es) δ w1 fun ds w2 => sp (d :: ds) w2 κ χ)
    (hst : starEach (e :: es) X.env = (false, eval e X.env) :: starEach es X.env := by rfl) (hpl : (backTo pos (starEach es X.env)).any (·.1) = false := by rfl)
    (ht : eval (.Call (.Attribute o m apos) (e :: es) [] pos) X.env = (do
      let ov ← eval o X.env
      standAt apos.atName
      let (f, first) ← holding [ov] (getMethod ov m pl)
      callWith pos f first (backTo pos (starEach (e :: es) X.env)) (backToKw pos (keywordEach [] X.env))) := by rfl) : PD X T W χ (.Call (.Attribute o m apos) (e :: es) [] pos) δ w κ := by
  obtain ⟨f, fd, h1, h2, h3⟩ := G
  exact pd_meth c h2 h1 hr h3 hx h hst hpl ht
theorem pd_hasm0 {CX : CXT} {k : Nat} {C : Addr} {ps : List Str} {sp : SpD} {m : Str} {apos : Pos} {o : Expr} {κ : D → Wp → Prop} {pl : Sem Bool} (c : Cls X.K C) (G : HasM X.prog X.w X.K X.mg X.base T CX C m k ps sp) (hr : Room k X.A)
    (hx : ∀ σ, PassesAt CX X σ (WE W σ)) (h : PD X T W χ o δ w fun d w1 => InsD C m d w1 ∧ sp [d] w1 κ χ)
    (ht : eval (.Call (.Attribute o m apos) [] [] pos) X.env = (do
      let ov ← eval o X.env
      standAt apos.atName
      let (f, first) ← holding [ov] (getMethod ov m pl)
      callWith pos f first (backTo pos (starEach [] X.env)) (backToKw pos (keywordEach [] X.env))) := by rfl) : PD X T W χ (.Call (.Attribute o m apos) [] [] pos) δ w κ := by
  obtain ⟨f, fd, h1, h2, h3⟩ := G
  exact pd_meth0 c h2 h1 hr h3 hx h ht
end
/-! ### data -/
def nats (l : List Nat) : D := .lst (l.map fun (k : Nat) => I (k : Int))
def spl (C : Addr) (lo : List Nat) : D := .obj C ["size", "_marks"] [I (lo.length : Int), nats lo]
def cellN (lo : List Nat) (m : Nat) : List Nat := (List.range lo.length).filter fun o => decide (lo[o]? = some m)
def heads (lo : List Nat) : List Nat := (List.range lo.length).filter fun c => decide (lo[c]? = some c)
def cellsN (lo : List Nat) : List (List Nat) := (heads lo).map fun c => cellN lo c
def lowN (ms : List Int) : List Nat := ms.map fun m => ms.idxOf m
/-! ### check_case, _check_size -/
def InR (c s : Int) : Prop := 0 ≤ c ∧ c < s
def spCheck (CU : Addr) : SpD := fun ds w κ χ => ∃ c s, ds = [I c, I s] ∧ (InR c s → κ N w) ∧ (¬ InR c s → c.natAbs.log2 < 1920 ∧ χ CU ["case"] [I c] w)
abbrev sCheck : Stmt := top 8
def spSize (CB : Addr) : SpD := fun ds w κ χ => ∃ s : Int, ds = [I s] ∧ ((1 ≤ s ∧ s ≤ 12) → κ N w) ∧ (¬ (1 ≤ s ∧ s ≤ 12) → s.natAbs.log2 < 1920 ∧ χ CB ["size"] [I s] w)
abbrev sSize : Stmt := top 13
section
variable {P : Program} {w : PySem.World} {K : PySem.W.Frag} {mg : Str → Option Value} {base : Heap} {T : List (Addr × Str)}
theorem takesX {N : List Str} {qual : Str} {sc : Scope} {f : Addr} {cdv : Value} {A : Around} {outer : List Env} {s : Shared} {H : Hp} {E : XK} : Takes (cxOf (L2.CX P w) P w K mg base N qual sc f cdv A outer s H E) (fun cls d _ H => E cls d H) := takes_of rfl rfl rfl rfl
theorem passX {N : List Str} {qual : Str} {sc : Scope} {f : Addr} {cdv : Value} {A : Around} {outer : List Env} {s : Shared} {H : Hp} {E : XK} (σ : L2.St) : PassesAt (L2.CX P w) (cxOf (L2.CX P w) P w K mg base N qual sc f cdv A outer s H E) σ (WE (fun cls d _ H => E cls d H) σ) := passAt takesX σ
theorem scCheck : FnScope ["case", "size"] ["case", "size"] (defScope sCheck) := ⟨rfl, rfl, rfl, by decide +kernel, rfl, by decide +kernel, by decide +kernel⟩
theorem ok_check {f CU : Addr} {fd : FuncData} (G : Fun K "check_case" "check_case" sCheck f fd) (hE : HasE P w K mg base "UnknownCase" CU 1 "case") : FnOk P w K mg base (L2.CX P w) 3 f fd ["case", "size"] (spOf K T (spCheck CU)) := by
  refine fnX G scCheck (fun ds w κ χ h => ?_) (fun cdv A outer s H E ds w0 κ χ hr h => ?_)
  · obtain ⟨c, s, rfl, _⟩ := h
    rfl
  obtain ⟨c, sz, rfl, k1, k2⟩ := h
  refine pssd_one (psd_if ?_)
  refine pwd_pt ?_
  refine pwd_or ?_
  refine ptd_cmp op_lt ?_
  refine pd_var (i := 0) rfl rfl ?_
  refine pd_int ?_
  refine vr_I ?_
  refine ⟨_, rfl, ?_⟩
  have out : ¬ InR c sz → ∀ p1 p2 p3 p4 : Pos, PSsD (cxOf (L2.CX P w) P w K mg base ["case", "size"] "check_case" (defScope sCheck) f cdv A outer s H E) T (fun cls d _ H => E cls d H) χ [.Raise (some (.Call (.Name "UnknownCase" p1) [.Name "case" p2] [] p3)) none p4] (startD ["case", "size"] [I c, I sz]) w0 { nx := fun _ w' => κ DL.N w', rt := κ } := fun ho p1 p2 p3 p4 => by
    refine pssd_one (psd_raiseH rfl takesX hE hr ?_)
    refine pd_var (i := 0) rfl rfl ?_
    exact ⟨c, rfl, k2 ho⟩
  refine ite2 (fun h1 => ?_) (fun h1 => ?_)
  · refine iteT ?_
    exact out (fun h => by simp only [decide_eq_true_eq] at h1; exact absurd h.1 (by omega)) _ _ _ _
  refine pwd_or1 ?_
  refine ptd_cmp op_ge ?_
  refine pd_var (i := 0) rfl rfl ?_
  refine pd_var (i := 1) rfl rfl ?_
  refine vr_I ?_
  refine ⟨_, rfl, ?_⟩
  refine ite2 (fun h2 => ?_) (fun h2 => ?_)
  · exact out (fun h => by simp only [decide_eq_true_eq] at h2; exact absurd h.2 (by omega)) _ _ _ _
  · exact pssd_nil (k1 (by simp only [decide_eq_true_eq] at h1 h2; exact ⟨by omega, by omega⟩))
theorem scSize : FnScope ["size"] ["size"] (defScope sSize) := ⟨rfl, rfl, rfl, by decide +kernel, rfl, by decide +kernel, by decide +kernel⟩
theorem ok_size {f CB C : Addr} {mc : Value} {u : Value} {fd : FuncData} (G : Fun K "check_size" "check_size" sSize f fd) (hE : HasE P w K mg base "BadSize" CB 1 "size") (hS : mg "Split" = some (.ref C)) (rC : ClX.CRead K C mc) (vC : ClX.CVal K C mc "MOST" (.int 12) u) : FnOk P w K mg base (L2.CX P w) 3 f fd ["size"] (spOf K T (spSize CB)) := by
  refine fnX G scSize (fun ds w κ χ h => ?_) (fun cdv A outer s H E ds w0 κ χ hr h => ?_)
  · obtain ⟨c, rfl, _⟩ := h
    rfl
  obtain ⟨sz, rfl, k1, k2⟩ := h
  refine pssd_one (psd_if ?_)
  refine pwd_pt ?_
  refine pwd_or ?_
  refine ptd_cmp op_lt ?_
  refine pd_var (i := 0) rfl rfl ?_
  refine pd_int ?_
  refine vr_I ?_
  refine ⟨_, rfl, ?_⟩
  have out : ¬ (1 ≤ sz ∧ sz ≤ 12) → ∀ p1 p2 p3 p4 : Pos, PSsD (cxOf (L2.CX P w) P w K mg base ["size"] "check_size" (defScope sSize) f cdv A outer s H E) T (fun cls d _ H => E cls d H) χ [.Raise (some (.Call (.Name "BadSize" p1) [.Name "size" p2] [] p3)) none p4] (startD ["size"] [I sz]) w0 { nx := fun _ w' => κ DL.N w', rt := κ } := fun ho p1 p2 p3 p4 => by
    refine pssd_one (psd_raiseH rfl takesX hE hr ?_)
    refine pd_var (i := 0) rfl rfl ?_
    exact ⟨sz, rfl, k2 ho⟩
  refine ite2 (fun h1 => ?_) (fun h1 => ?_)
  · refine iteT ?_
    exact out (fun h => by simp only [decide_eq_true_eq] at h1; exact absurd h.1 (by omega)) _ _ _ _
  refine pwd_or1 ?_
  refine ptd_cmp op_gt ?_
  refine pd_var (i := 0) rfl rfl ?_
  refine pd_cval rC vC ?_
  refine pd_glob (v := .ref C) hS rfl ?_
  refine ⟨rfl, ?_⟩
  refine vr_I ?_
  refine ⟨_, rfl, ?_⟩
  refine ite2 (fun h2 => ?_) (fun h2 => ?_)
  · exact out (fun h => by simp only [decide_eq_true_eq] at h2; exact absurd h.2 (by omega)) _ _ _ _
  · exact pssd_nil (k1 (by simp only [decide_eq_true_eq] at h1 h2; exact ⟨by omega, by omega⟩))
end
end Tw

set_option Elab.async false
set_option linter.all false
set_option maxRecDepth 100000
set_option maxHeartbeats 1000000
namespace Tw
open PySem PySem.Spec PyProof.Rows L2 LamX DL
abbrev sM (i : Nat) : Stmt := inClass (top 10) i
abbrev sMarks : Stmt := sM 5
abbrev sCells : Stmt := sM 6
abbrev sCell : Stmt := sM 7
abbrev sTog : Stmt := sM 8
/-- what of the class stands -/
structure SplC (K : PySem.W.Frag) (C : Addr) : Prop where
  cl : Cls K C
  nS : NoAttr K C "size"
  nM : NoAttr K C "_marks"
def nl (l : List Nat) : List D := l.map fun (k : Nat) => I (k : Int)
theorem nl_len (l : List Nat) : (nl l).length = l.length := List.length_map _
theorem nl_at {l : List Nat} {i m : Nat} (h : l[i]? = some m) : (nl l)[i]? = some (I (m : Int)) := by
  unfold nl
  rw [List.getElem?_map, h]
  rfl
def spMarks (C : Addr) : SpD := fun ds w κ χ => ∃ lo, ds = [spl C lo] ∧ ∀ a, w a = none → κ (R a) (wu w a (.lst (nl lo)))
def markAt (lo : List Nat) (c : Int) : Nat := lo.getD c.toNat 0
def spCell (C CU : Addr) : SpD := fun ds w κ χ => ∃ lo c, ds = [spl C lo, I c] ∧ lo.length ≤ 12 ∧ (InR c lo.length → ∀ a, w a = none → κ (R a) (wu w a (.lst (nl (cellN lo (markAt lo c)))))) ∧ (¬ InR c lo.length → c.natAbs.log2 < 1920 ∧ χ CU ["case"] [I c] w)
def spTog (C CU : Addr) : SpD := fun ds w κ χ => ∃ lo c d, ds = [spl C lo, I c, I d] ∧ lo.length ≤ 12 ∧ (InR c lo.length → InR d lo.length → κ (B (decide (markAt lo c = markAt lo d))) w) ∧
  (¬ InR c lo.length → c.natAbs.log2 < 1920 ∧ χ CU ["case"] [I c] w) ∧ (InR c lo.length → ¬ InR d lo.length → d.natAbs.log2 < 1920 ∧ χ CU ["case"] [I d] w)
theorem fld_size {C : Addr} {lo : List Nat} {w : Wp} : FldD C "size" (spl C lo) w (I (lo.length : Int)) := ⟨rfl, rfl⟩
theorem fld_marks {C : Addr} {lo : List Nat} {w : Wp} : FldD C "_marks" (spl C lo) w (nats lo) := ⟨rfl, rfl⟩
theorem ins_spl {C : Addr} {lo : List Nat} {w : Wp} {m : Str} (h : m ∉ (["size", "_marks"] : List Str)) : InsD C m (spl C lo) w := ⟨rfl, h⟩
theorem inR_nat {c : Int} {n : Nat} (h : InR c n) : ∃ i : Nat, c = i ∧ i < n := ⟨c.toNat, by obtain ⟨h1, h2⟩ := h; omega, by obtain ⟨h1, h2⟩ := h; omega⟩
theorem mark_at {lo : List Nat} {i : Nat} (h : i < lo.length) : lo[i]? = some (markAt lo i) := by
  unfold markAt
  rw [Int.toNat_natCast, List.getD_eq_getElem?_getD, List.getElem?_eq_getElem h]
  rfl
section
variable {P : Program} {w : PySem.World} {K : PySem.W.Frag} {mg : Str → Option Value} {base : Heap} {T : List (Addr × Str)} {C CU : Addr}
theorem scMarks : FnScope ["self"] ["self"] (defScope sMarks) := ⟨rfl, rfl, rfl, by decide +kernel, rfl, by decide +kernel, by decide +kernel⟩
theorem ok_marks {f : Addr} {fd : FuncData} (G : Fun K "marks" "Split.marks" sMarks f fd) (hm : Nm2 mg) (c : SplC K C) : FnOk P w K mg base CX0 1 f fd ["self"] (spOf K T (spMarks C)) := by
  refine fnD G scMarks (fun ds w κ χ h => ?_) (fun cdv A outer s H E ds w0 κ χ hr h => ?_)
  · obtain ⟨lo, rfl, _⟩ := h
    rfl
  obtain ⟨lo, rfl, k⟩ := h
  refine pssd_one (psd_ret ?_)
  refine pd_callTy call_list_of rfl hm.list bt_list ?_
  refine pad_cons ?_
  refine pd_fld c.cl c.nM ?_
  refine pd_var (i := 0) rfl rfl ?_
  refine ⟨_, fld_marks, ?_⟩
  refine pad_nil ?_
  exact va_listO k
theorem scCell : FnScope ["self", "case", "other", "mark"] ["self", "case"] (defScope sCell) := ⟨rfl, rfl, rfl, by decide +kernel, rfl, by decide +kernel, by decide +kernel⟩
theorem ok_cell {f : Addr} {fd : FuncData} (G : Fun K "cell" "Split.cell" sCell f fd) (hm : Nm2 mg) (c : SplC K C) (hC : HasF P w K mg base T (L2.CX P w) "check_case" 3 ["case", "size"] (spCheck CU)) : FnOk P w K mg base (L2.CX P w) 4 f fd ["self", "case"] (spOf K T (spCell C CU)) := by
  refine fnX G scCell (fun ds w κ χ h => ?_) (fun cdv A outer s H E ds w0 κ χ hr h => ?_)
  · obtain ⟨lo, c, rfl, _⟩ := h
    rfl
  obtain ⟨lo, cs, rfl, hz, k1, k2⟩ := h
  have nd := scCell.nd
  refine pssd_cons (psd_expr ?_)
  refine pd_has hC hr passX ?_
  refine pad_cons ?_
  refine pd_var (i := 1) rfl rfl ?_
  refine pad_cons ?_
  refine pd_fld c.cl c.nS ?_
  refine pd_var (i := 0) rfl rfl ?_
  refine ⟨_, fld_size, ?_⟩
  refine pad_nil ?_
  refine ⟨cs, _, rfl, fun hin => ?_, k2⟩
  obtain ⟨i0, rfl, hi0⟩ := inR_nat hin
  have k := k1 hin
  refine pssd_one (psd_ret ?_)
  refine pd_lcO (own := [("other", 2), ("mark", 3)]) (is := [2, 3]) rfl nd (blkOk_by rfl) (by decide) ?_
  refine it_enum hm.enumerate ?_
  refine pd_fld c.cl c.nM ?_
  refine pd_var (i := 0) rfl rfl ?_
  refine ⟨_, fld_marks, ?_⟩
  refine ⟨_, rfl, ?_⟩
  have el : (pairs (nl lo)).length = lo.length := by rw [DL.pairs_len, nl_len]
  refine lcd_ix (fun o => decide (lo[o]? = some (markAt lo i0))) (fun o => I (o : Int)) (by show (pairs (nl lo)).length < _; rw [el]; exact small1000 (by omega)) (fun i d hd => ?_) ?_
  · obtain ⟨e, he, rfl⟩ := pairs_at (show (pairs (nl lo))[i]? = some d from hd)
    have hi : i < lo.length := by
      have z := (List.getElem?_eq_some_iff.mp hd).1
      exact el ▸ z
    rw [nl_at (mark_at hi)] at he
    cases he
    intro s H0 C1 cl1 fp1
    refine pgl_two rfl ?_
    refine pgl_name nd rfl ?_
    refine pgl_name nd rfl ?_
    intro s H0 C1 cl1 fp1
    refine ptsd_one ?_
    refine ptd_cmp op_eq ?_
    refine pd_var (i := 3) rfl rfl ?_
    refine pd_ix ix_list ?_
    refine pd_fld c.cl c.nM ?_
    refine pd_var (i := 0) rfl rfl ?_
    refine ⟨_, fld_marks, ?_⟩
    refine pd_var (i := 1) rfl rfl ?_
    refine vr_ixL (nl_at (mark_at hi0)) ?_
    refine vr_eq rfl ⟨_, rfl, ?_⟩
    have e2 : decide (lo[i]? = some (markAt lo i0)) = decide (V.int (markAt lo i : Int) = V.int (markAt lo i0 : Int)) := by
      rw [mark_at hi]
      refine decide_eq_decide.mpr ⟨fun z => ?_, fun z => ?_⟩
      · rw [Option.some.inj z]
      · have z2 := V.int.inj z
        congr 1
        omega
    refine ite2 (fun c1 => ?_) (fun c1 => ?_)
    · intro s H0 C1 cl1 fp1
      refine pd_var (i := 2) rfl rfl ?_
      exact ⟨e2.trans c1, rfl, rfl⟩
    · exact ⟨e2.trans (Bool.eq_false_iff.mpr c1), rfl⟩
  · show ∀ a, w0 a = none → κ (R a) (wu w0 a (.lst (((List.range (pairs (nl lo)).length).filter _).map _)))
    rw [el]
    exact k
end
end Tw

set_option Elab.async false
set_option linter.all false
set_option maxRecDepth 100000
set_option maxHeartbeats 1000000
namespace DL
open PySem PySem.Spec PyProof.Rows L2 LamX
section
variable {X : Cx} {T : List (Addr × Str)} {W : WX} {χ : XD} {δ : Dn} {w : Wp} {pos : Pos}
/-- an owned list whose first item is an owned list: both stand from now on -/
theorem pd_frz2 {e : Expr} {κ : D → Wp → Prop} (h : PD X T W χ e δ w fun d w1 => ∃ a a1 es ds, d = R a ∧ w1 a = some (.lst (R a1 :: ds)) ∧ w1 a1 = some (.lst es) ∧ a ≠ a1 ∧ κ (.lst (.lst es :: ds)) (wd (wd w1 a1) a)) : PD X T W χ e δ w κ := fun F σ S H Q hE hW hX hK =>
  h F σ S H Q hE hW hX fun d w1 v S1 H1 k s1 W1 r => by
    obtain ⟨a, a1, es, ds, rfl, hw, hw1, ne, k⟩ := k
    obtain ⟨o, e1, r1, W2⟩ := W1.freeze hw1
    obtain ⟨ys, rfl, r1⟩ := r1
    have hw2 : (wd w1 a1) a = some (.lst (R a1 :: ds)) := by
      show (if a = a1 then none else w1 a) = _
      rw [if_neg ne]
      exact hw
    obtain ⟨o, e2, r2, W3⟩ := W2.freeze hw2
    obtain ⟨xs, rfl, y, zs, rfl, r2, r3⟩ := r2
    have s2 : Same S1 (upd S1 a1 (.lst ys)) := same_upd e1
    have r2' : y = .ref a1 := r2
    subst r2'
    have s3 : Same (upd S1 a1 (.lst ys)) (upd (upd S1 a1 (.lst ys)) a (.lst (.ref a1 :: zs))) := same_upd e2
    have r' : v = .ref a := r
    exact hK _ _ v _ H1 k (s1.trans (s2.trans s3)) W3 ⟨a, _, r', upd_same, .ref a1, zs, rfl, ⟨a1, ys, rfl, s3 _ _ upd_same, (r1.mono s2).mono s3⟩, r3.mono s3⟩
theorem World.drop {K : PySem.W.Frag} {S F H : Hp} (W : World K T S w F H) (a : Addr) : World K T S (wd w a) F H := by
  refine ⟨W.same, W.notbl, fun b k q => ?_, W.frm, W.tabs, W.nf⟩
  have q' : (if b = a then none else w b) = some k := q
  by_cases e : b = a
  · rw [if_pos e] at q'
    cases q'
  · rw [if_neg e] at q'
    exact W.own b k q'
/-- C(e, ..); what is let out comes without the unfinished instance -/
theorem pd_makeX {CX : CXT} {k : Nat} {f C : Addr} {fd : FuncData} {ps : List Str} {sp : SpD} {x : Str} {p : Pos} {e : Expr} {es : List Expr} {κ : D → Wp → Prop} (M : Mk X.K C f) (G : FnOk X.prog X.w X.K X.mg X.base CX k f fd ps (spOf X.K T sp)) (hr : Room (k + 1) X.A) (hm : X.mg x = some (.ref C)) (hb : Binds X.K fd ps []) (hx : ∀ σ, PassesAt CX X σ (WE W σ))
    (h : PAD X T W χ (e :: es) δ w fun ds w1 => ∀ a dx, w1 a = none → sp (R a :: ds) (wu w1 a (.ins C dx [] [])) (fun d w2 => d = N ∧ ∃ ns es, w2 a = some (.ins C dx ns es) ∧ κ (.obj C ns es) (wd w2 a)) (fun C ns fs w2 => χ C ns fs (wd w2 a)))
    (hg : Gl X x := by rfl) (hdb : (x == ("__debug__" : Str)) = false := by decide) (he : starEach (e :: es) X.env = (false, eval e X.env) :: starEach es X.env := by rfl) (hpl : (backTo pos (starEach es X.env)).any (·.1) = false := by rfl) :
    PD X T W χ (.Call (.Name x p) (e :: es) [] pos) δ w κ := fun F σ S H Q hE hW hX hK => wp_pe (pe_makeSD M G hr hg hm hb hx (pa_wp _) hdb he hpl) (by
  refine h F σ S H _ hE hW hX fun ds w1 vs S1 H1 k s1 W1 r => ?_
  intro a dx na ndx nad
  have W2 := (W1.junk (o := .own a) ndx).take (a := a) (h := .ins C dx [] []) (o := .ins C dx []) (by rw [upd_ne (Ne.symm nad)]; exact na) ⟨[], rfl, rfl, rfl⟩
  refine ⟨R a :: ds, _, F, S1, _, _, k a dx (W1.free na).2.1, ⟨_, vs, rfl, rfl, r⟩, W2, ?_, fun C ns fs w' d S' H' x s3 W3 xr => hX C ns fs _ d S' H' x (s1.trans s3) (W3.drop a) xr⟩
  rintro d w' v S' H' ⟨rfl, ns, es, ew, kk⟩ s2 W3 rv
  refine ⟨rv, ?_⟩
  obtain ⟨o, e1, r3, W4⟩ := W3.freeze ew
  obtain ⟨ys, rfl, hys, r4⟩ := r3
  have s3 : Same S' (upd S' a (.ins C dx ys)) := same_upd e1
  exact hK _ _ _ _ _ kk (s1.trans (s2.trans s3)) W4 ⟨a, dx, ys, rfl, upd_same, hys, r4.mono s3⟩)
end
end DL
namespace Tw
open PySem PySem.Spec PyProof.Rows L2 LamX DL
abbrev sInit : Stmt := sM 1
abbrev sEq : Stmt := sM 14
abbrev sNe : Stmt := sM 15
abbrev sLen : Stmt := sM 16
def isHead (lo : List Nat) (c : Nat) : Bool := decide (lo[c]? = some c)
def tails (lo : List Nat) (i : Nat) : List Nat := (List.range' 1 (i - 1)).filter (isHead lo)
theorem tails_succ {lo : List Nat} {i : Nat} (h : 0 < i) : tails lo (i + 1) = tails lo i ++ (if isHead lo i = true then [i] else []) := by
  obtain ⟨j, rfl⟩ : ∃ j, i = j + 1 := ⟨i - 1, by omega⟩
  unfold tails
  rw [Nat.add_sub_cancel, Nat.add_sub_cancel, List.range'_1_concat, List.filter_append]
  congr 1
  rw [Nat.add_comm 1 j]
  by_cases q : isHead lo (j + 1) = true
  · rw [if_pos q, List.filter_cons, if_pos q]
    rfl
  · rw [if_neg q, List.filter_cons, if_neg q]
    rfl
theorem heads_eq {lo : List Nat} (h : lo[0]? = some 0) : heads lo = 0 :: tails lo lo.length := by
  have hn : 0 < lo.length := (List.getElem?_eq_some_iff.mp h).1
  unfold heads tails
  obtain ⟨n, e⟩ : ∃ n, lo.length = n + 1 := ⟨lo.length - 1, by omega⟩
  rw [e, List.range_eq_range', List.range'_succ, List.filter_cons, if_pos (decide_eq_true h), Nat.add_sub_cancel]
  rfl
def spCells (C : Addr) : SpD := fun ds w κ χ => ∃ lo, ds = [spl C lo] ∧ lo[0]? = some 0 ∧ lo.length ≤ 12 ∧
  ∀ a a1, a ≠ a1 → w a = none → w a1 = none → κ (R a) (wu (wu w a1 (.lst (nl (cellN lo 0)))) a (.lst (R a1 :: (tails lo lo.length).map fun c => nats (cellN lo c))))
def spLen (C : Addr) : SpD := fun ds w κ χ => ∃ lo, ds = [spl C lo] ∧ lo[0]? = some 0 ∧ lo.length ≤ 12 ∧ κ (I ((heads lo).length : Int)) w
section
variable {P : Program} {w : PySem.World} {K : PySem.W.Frag} {mg : Str → Option Value} {base : Heap} {T : List (Addr × Str)} {C CU CB : Addr}
theorem scCells : FnScope ["self", "case", "mark"] ["self"] (defScope sCells) := ⟨rfl, rfl, rfl, by decide +kernel, rfl, by decide +kernel, by decide +kernel⟩
theorem ok_cells {f : Addr} {fd : FuncData} (G : Fun K "cells" "Split.cells" sCells f fd) (hm : Nm2 mg) (c : SplC K C) (hC : HasM P w K mg base T (L2.CX P w) C "cell" 4 ["self", "case"] (spCell C CU)) : FnOk P w K mg base CX0 5 f fd ["self"] (spOf K T (spCells C)) := by
  refine fnD G scCells (fun ds w κ χ h => ?_) (fun cdv A outer s H E ds w0 κ χ hr h => ?_)
  · obtain ⟨lo, rfl, _⟩ := h
    rfl
  obtain ⟨lo, rfl, h0, hz, k⟩ := h
  have nd := scCells.nd
  refine pssd_one (psd_ret ?_)
  refine pd_lcO (own := [("case", 1), ("mark", 2)]) (is := [1, 2]) rfl nd (blkOk_by rfl) (by decide) ?_
  refine it_enum hm.enumerate ?_
  refine pd_fld c.cl c.nM ?_
  refine pd_var (i := 0) rfl rfl ?_
  refine ⟨_, fld_marks, ?_⟩
  refine ⟨_, rfl, ?_⟩
  have el : (pairs (nl lo)).length = lo.length := by rw [DL.pairs_len, nl_len]
  refine ⟨by show (pairs (nl lo)).length < _; rw [el]; exact small1000 (by omega), fun i acc w' => (i = 0 ∧ acc = [] ∧ w' = w0) ∨ (0 < i ∧ ∃ a1, w0 a1 = none ∧ acc = R a1 :: (tails lo i).map (fun c => nats (cellN lo c)) ∧ w' = wu w0 a1 (.lst (nl (cellN lo 0)))), .inl ⟨rfl, rfl, rfl⟩, ?_, ?_⟩
  · intro i d acc w1 hd pv s H0 C1 cl1 fp1
    obtain ⟨e, he, rfl⟩ := pairs_at (show (pairs (nl lo))[i]? = some d from hd)
    have hi : i < lo.length := by
      have z := (List.getElem?_eq_some_iff.mp hd).1
      exact el ▸ z
    rw [nl_at (mark_at hi)] at he
    cases he
    refine pgl_two rfl ?_
    refine pgl_name nd rfl ?_
    refine pgl_name nd rfl ?_
    intro s H0 C1 cl1 fp1
    refine ptsd_one ?_
    refine ptd_cmp op_eq ?_
    refine pd_var (i := 1) rfl rfl ?_
    refine pd_var (i := 2) rfl rfl ?_
    refine vr_eq rfl ⟨_, rfl, ?_⟩
    have e2 : decide (V.int (i : Int) = V.int (markAt lo i : Int)) = isHead lo i := by
      unfold isHead
      rw [mark_at hi]
      refine decide_eq_decide.mpr ⟨fun z => ?_, fun z => ?_⟩
      · have z2 := V.int.inj z
        congr 1
        omega
      · rw [Option.some.inj z]
    rw [e2]
    have hin : InR (i : Int) (lo.length : Int) := ⟨by omega, by omega⟩
    refine ite2 (fun c1 => ?_) (fun c1 => ?_)
    · have em : markAt lo i = i := by
        have z := of_decide_eq_true c1
        rw [mark_at hi] at z
        exact Option.some.inj z
      intro s H0 C1 cl1 fp1
      rcases pv with ⟨rfl, rfl, rfl⟩ | ⟨hi0, a1, ha1, rfl, rfl⟩
      · refine pd_hasm c.cl hC hr (fun _ => passLf) ?_
        refine pd_var (i := 0) rfl rfl ?_
        refine ⟨ins_spl (by decide), ?_⟩
        refine pad_cons ?_
        refine pd_var (i := 1) rfl rfl ?_
        refine pad_nil ?_
        refine ⟨lo, _, rfl, hz, fun _ a ha => .inr ⟨by omega, a, ha, ?_, ?_⟩, fun q => absurd hin q⟩
        · rfl
        · rw [em]
      · refine pd_frz ?_
        refine pd_hasm c.cl hC hr (fun _ => passLf) ?_
        refine pd_var (i := 0) rfl rfl ?_
        refine ⟨ins_spl (by decide), ?_⟩
        refine pad_cons ?_
        refine pd_var (i := 1) rfl rfl ?_
        refine pad_nil ?_
        refine ⟨lo, _, rfl, hz, fun _ a ha => ⟨a, _, rfl, wu_same, .inr ⟨by omega, a1, ha1, ?_, wd_wu ha⟩⟩, fun q => absurd hin q⟩
        rw [em, tails_succ hi0, if_pos c1, List.map_append]
        rfl
    · rcases pv with ⟨rfl, rfl, rfl⟩ | ⟨hi0, a1, ha1, rfl, rfl⟩
      · exact absurd (decide_eq_true h0) c1
      · refine .inr ⟨by omega, a1, ha1, ?_, rfl⟩
        rw [tails_succ hi0, if_neg c1, List.append_nil]
  · intro acc w' pv a ha
    rw [show (pairs (List.map (fun (k : Nat) => I (k : Int)) lo)).length = lo.length from el] at pv
    have hn : 0 < lo.length := (List.getElem?_eq_some_iff.mp h0).1
    rcases pv with ⟨z, _⟩ | ⟨_, a1, ha1, rfl, rfl⟩
    · omega
    · have ne : a ≠ a1 := fun z => by
        rw [z, wu_same] at ha
        cases ha
      rw [wu_ne ne] at ha
      exact k a a1 ne ha ha1
theorem scLen : FnScope ["self"] ["self"] (defScope sLen) := ⟨rfl, rfl, rfl, by decide +kernel, rfl, by decide +kernel, by decide +kernel⟩
theorem wd_cells {w : Wp} {a a1 : Addr} {h k : HD} (ne : a ≠ a1) (ha : w a = none) (ha1 : w a1 = none) : wd (wd (wu (wu w a1 h) a k) a1) a = w := by
  funext b
  by_cases h1 : b = a
  · rw [h1, ha]
    exact if_pos rfl
  · show (if b = a then none else (if b = a1 then none else wu (wu w a1 h) a k b)) = w b
    rw [if_neg h1]
    by_cases h2 : b = a1
    · rw [if_pos h2, h2, ha1]
    · rw [if_neg h2, wu_ne h1, wu_ne h2]
theorem ok_len {f : Addr} {fd : FuncData} (G : Fun K "__len__" "Split.__len__" sLen f fd) (hm : Nm2 mg) (c : SplC K C) (hC : HasM P w K mg base T CX0 C "cells" 5 ["self"] (spCells C)) : FnOk P w K mg base CX0 6 f fd ["self"] (spOf K T (spLen C)) := by
  refine fnD G scLen (fun ds w κ χ h => ?_) (fun cdv A outer s H E ds w0 κ χ hr h => ?_)
  · obtain ⟨lo, rfl, _⟩ := h
    rfl
  obtain ⟨lo, rfl, h0, hz, k⟩ := h
  refine pssd_one (psd_ret ?_)
  refine pd_callB call_len_seq rfl hm.len PySem.boot_len ?_
  refine pad_cons ?_
  refine pd_frz2 ?_
  refine pd_hasm0 c.cl hC hr (fun _ => pass0At) ?_
  refine pd_var (i := 0) rfl rfl ?_
  refine ⟨ins_spl (by decide), lo, rfl, h0, hz, fun a a1 ne ha ha1 => ⟨a, a1, nl (cellN lo 0), _, rfl, wu_same, ?_, ne, ?_⟩⟩
  · rw [wu_ne ne.symm]
    exact wu_same
  rw [wd_cells ne ha ha1]
  refine pad_nil ?_
  refine va_len ?_
  rw [heads_eq h0] at k
  have e : (D.lst (nl (cellN lo 0)) :: (tails lo lo.length).map fun c => nats (cellN lo c)).length = (0 :: tails lo lo.length).length := by simp
  rw [e]
  exact k
end
end Tw

set_option Elab.async false
set_option linter.all false
set_option maxRecDepth 100000
set_option maxHeartbeats 1000000
namespace Tw
open PySem PySem.Spec PyProof.Rows L2 LamX DL
def four (n : String) : Prop := n = "list" ∨ n = "tuple" ∨ n = "int" ∨ n = "str"
structure SplQ (K : PySem.W.Frag) (C : Addr) : Prop where
  ci : ClsI K C
  nfC : PySem.W.notFirst K C (.ref C) = true
  kC : PySem.W.kitOne K (.ref C) (.ref C) = some true
  nf : ∀ n, four n → PySem.W.notFirst K C (.type n) = true
  kt : ∀ n, four n → PySem.W.kitOne K (.type n) (.ref C) = some false
def casts (l : List Nat) : List Int := l.map fun (k : Nat) => (k : Int)
theorem nl_casts (l : List Nat) : nl l = (casts l).map I := by
  unfold nl casts
  rw [List.map_map]
  rfl
theorem casts_inj {l m : List Nat} : casts l = casts m ↔ l = m := by
  refine ⟨fun h => ?_, fun h => by rw [h]⟩
  have h2 := congrArg (List.map Int.toNat) h
  unfold casts at h2
  rw [List.map_map, List.map_map] at h2
  have e : (Int.toNat ∘ fun (k : Nat) => (k : Int)) = id := by
    funext k
    simp
  rw [e, List.map_id, List.map_id] at h2
  exact h2
theorem eqv_all_ints : ∀ ns ms : List Int, PyData.eqvAll (ns.map PyData.int) (ms.map PyData.int) = decide (ns = ms)
  | [], [] => rfl
  | [], m :: ms => rfl
  | n :: ns, [] => rfl
  | n :: ns, m :: ms => by
    show (PyData.eqv (.int n) (.int m) && PyData.eqvAll (ns.map PyData.int) (ms.map PyData.int)) = _
    rw [eqv_all_ints ns ms]
    have e : PyData.eqv (.int n) (.int m) = decide (n = m) := rfl
    rw [e]
    by_cases h1 : n = m
    · by_cases h2 : ns = ms
      · simp [h1, h2]
      · simp [h1, h2]
    · simp [h1]
theorem eqv_ints (ns ms : List Int) : PyData.eqv (.list (ns.map PyData.int)) (.list (ms.map PyData.int)) = decide (ns = ms) := eqv_all_ints ns ms
theorem py_nats (l : List Nat) : pyD (nats l) = some (.list ((casts l).map PyData.int)) := by
  show (pyDs (nl l)).map PyData.list = _
  rw [nl_casts, py_ints]
  rfl
def spEq (C : Addr) : SpD := fun ds w κ χ => ∃ lo e, ds = [spl C lo, e] ∧ ((∃ lo2, e = spl C lo2 ∧ κ (B (decide (lo = lo2))) w) ∨ (∃ n, tyD e = some n ∧ four n ∧ κ (B false) w))
def spNe (C : Addr) : SpD := fun ds w κ χ => ∃ lo e, ds = [spl C lo, e] ∧ ((∃ lo2, e = spl C lo2 ∧ κ (B (!decide (lo = lo2))) w) ∨ (∃ n, tyD e = some n ∧ four n ∧ κ (B true) w))
def spPlaces : SpD := fun ds w κ χ => ∃ (d : D) (ms : List Int), ds = [d] ∧ Lk w d (ms.map I) ∧ ms.length ≤ 12 ∧ κ (nats (lowN ms)) w
def spInit (C CB : Addr) : SpD := fun ds w κ χ => ∃ (a dx : Addr) (d : D) (ms : List Int), ds = [R a, d] ∧ w a = some (.ins C dx [] []) ∧ Lk w d (ms.map I) ∧ ms.length ≤ 1000 ∧
  ((1 ≤ ms.length ∧ ms.length ≤ 12) → κ N (wu w a (.ins C dx ["size", "_marks"] [I (ms.length : Int), nats (lowN ms)]))) ∧ (¬ (1 ≤ ms.length ∧ ms.length ≤ 12) → χ CB ["size"] [I (ms.length : Int)] w)
section
variable {P : Program} {w : PySem.World} {K : PySem.W.Frag} {mg : Str → Option Value} {base : Heap} {T : List (Addr × Str)} {C CU CB : Addr}
theorem scEq : FnScope ["self", "other"] ["self", "other"] (defScope sEq) := ⟨rfl, rfl, rfl, by decide +kernel, rfl, by decide +kernel, by decide +kernel⟩
theorem ok_eq {f : Addr} {fd : FuncData} (G : Fun K "__eq__" "Split.__eq__" sEq f fd) (hm : Nm2 mg) (c : SplC K C) (q : SplQ K C) (hS : mg "Split" = some (.ref C)) : FnOk P w K mg base CX0 1 f fd ["self", "other"] (spOf K T (spEq C)) := by
  refine fnD G scEq (fun ds w κ χ h => ?_) (fun cdv A outer s H E ds w0 κ χ hr h => ?_)
  · obtain ⟨lo, e, rfl, _⟩ := h
    rfl
  obtain ⟨lo, e, rfl, h⟩ := h
  have hu := hr.units
  refine pssd_one (psd_ret ?_)
  refine pd_and ?_
  refine pd_callB call_isi rfl hm.isinstance PyProof.Rows.boot_isinstance ?_
  refine pad_cons ?_
  refine pd_var (i := 1) rfl rfl ?_
  refine pad_cons ?_
  refine pd_glob (v := .ref C) hS rfl ?_
  refine pad_nil ?_
  rcases h with ⟨lo2, rfl, k⟩ | ⟨n, hn, h4, k⟩
  · refine va_isC (t := .ref C) (b := true) (.inr ⟨C, _, _, rfl, q.ci, rfl⟩) q.kC ?_
    refine ⟨_, rfl, ?_⟩
    refine iteT ?_
    refine pd_one ?_
    refine pd_cmp (op_eqD hu) ?_
    refine pd_fld c.cl c.nM ?_
    refine pd_var (i := 0) rfl rfl ?_
    refine ⟨_, fld_marks, ?_⟩
    refine pd_fld c.cl c.nM ?_
    refine pd_var (i := 1) rfl rfl ?_
    refine ⟨_, fld_marks, ?_⟩
    refine vr_eqD (py_nats lo) (py_nats lo2) (shaped_ints _) (shaped_ints _) ?_
    rw [eqv_ints, decide_eq_decide.mpr casts_inj]
    exact k
  · refine va_isC (t := .type n) (b := false) (.inl ⟨n, hn, rfl⟩) (q.kt n h4) ?_
    refine ⟨_, rfl, ?_⟩
    refine iteF ?_
    exact k
theorem scNe : FnScope ["self", "other"] ["self", "other"] (defScope sNe) := ⟨rfl, rfl, rfl, by decide +kernel, rfl, by decide +kernel, by decide +kernel⟩
theorem ok_ne {f : Addr} {fd : FuncData} (G : Fun K "__ne__" "Split.__ne__" sNe f fd) (q : SplQ K C) (hE : HasM P w K mg base T CX0 C "__eq__" 1 ["self", "other"] (spEq C)) : FnOk P w K mg base CX0 2 f fd ["self", "other"] (spOf K T (spNe C)) := by
  refine fnD G scNe (fun ds w κ χ h => ?_) (fun cdv A outer s H E ds w0 κ χ hr h => ?_)
  · obtain ⟨lo, e, rfl, _⟩ := h
    rfl
  obtain ⟨lo, e, rfl, h⟩ := h
  obtain ⟨fE, fdE, h1, h2, h3⟩ := hE
  refine pssd_one (psd_ret ?_)
  refine pd_not ?_
  refine pd_cmp (op_own (op := .Eq) (fun _ _ => rfl) h1 hr h2.at_ h2.fn h3) ?_
  refine pd_var (i := 0) rfl rfl ?_
  refine pd_var (i := 1) rfl rfl ?_
  rcases h with ⟨lo2, rfl, k⟩ | ⟨n, hn, h4, k⟩
  · refine vr_own (t := .ref C) ⟨_, _, rfl⟩ (.inr ⟨C, _, _, rfl, q.ci, rfl⟩) q.nfC ?_
    exact ⟨lo, _, rfl, .inl ⟨lo2, rfl, _, rfl, _, rfl, k⟩⟩
  · refine vr_own (t := .type n) ⟨_, _, rfl⟩ (.inl ⟨n, hn, rfl⟩) (q.nf n h4) ?_
    exact ⟨lo, _, rfl, .inr ⟨n, hn, h4, _, rfl, _, rfl, k⟩⟩
theorem scInit : FnScope ["self", "marks"] ["self", "marks"] (defScope sInit) := ⟨rfl, rfl, rfl, by decide +kernel, rfl, by decide +kernel, by decide +kernel⟩
theorem ok_init {f : Addr} {fd : FuncData} (G : Fun K "__init__" "Split.__init__" sInit f fd) (hm : Nm2 mg) (c : SplC K C) (hS : HasF P w K mg base T (L2.CX P w) "check_size" 3 ["size"] (spSize CB)) (hF : HasF P w K mg base T CX0 "first_places" 3 ["items"] spPlaces) :
    FnOk P w K mg base (L2.CX P w) 4 f fd ["self", "marks"] (spOf K T (spInit C CB)) := by
  refine fnX G scInit (fun ds w κ χ h => ?_) (fun cdv A outer s H E ds w0 κ χ hr h => ?_)
  · obtain ⟨a, dx, d, ms, rfl, _⟩ := h
    rfl
  obtain ⟨a, dx, d, ms, rfl, ha, hl, hz, k1, k2⟩ := h
  have hl2 : ∀ h : HD, Lk (wu w0 a h) d (ms.map I) := fun h => by
    rcases hl with rfl | ⟨b, rfl, hb⟩
    · exact .inl rfl
    · refine .inr ⟨b, rfl, ?_⟩
      rw [wu_ne (fun z => by rw [z, ha] at hb; cases hb)]
      exact hb
  refine pssd_cons (psd_expr ?_)
  refine pd_has hS hr passX ?_
  refine pad_cons ?_
  refine pd_callB call_len_seq rfl hm.len PySem.boot_len ?_
  refine pad_cons ?_
  refine pd_var (i := 1) rfl rfl ?_
  refine pad_nil ?_
  refine va_lenK hl ?_
  rw [List.length_map]
  refine pad_nil ?_
  refine ⟨_, rfl, fun hin => ?_, fun hout => ?_⟩
  case refine_2 =>
    refine ⟨log_of (Nat.lt_of_lt_of_le (by omega : _ < 2000) (by decide)), k2 fun z => hout ⟨by omega, by omega⟩⟩
  refine pssd_cons (psd_fldNew c.cl c.nS ?_)
  refine pd_callB call_len_seq rfl hm.len PySem.boot_len ?_
  refine pad_cons ?_
  refine pd_var (i := 1) rfl rfl ?_
  refine pad_nil ?_
  refine va_lenK hl ?_
  rw [List.length_map]
  refine pd_var (i := 0) rfl rfl ?_
  refine ⟨a, dx, _, _, rfl, ha, by decide, by decide, ?_⟩
  refine pssd_one (psd_fldNew c.cl c.nM ?_)
  refine pd_has hF (hr.mono (by decide)) (fun _ => pass0At) ?_
  refine pad_cons ?_
  refine pd_var (i := 1) rfl rfl ?_
  refine pad_nil ?_
  refine ⟨d, ms, rfl, hl2 _, by omega, ?_⟩
  refine pd_var (i := 0) rfl rfl ?_
  refine ⟨a, dx, _, _, rfl, wu_same, by decide, by decide, ?_⟩
  rw [wu_wu]
  exact k1 ⟨by omega, by omega⟩
end
end Tw

set_option Elab.async false
set_option linter.all false
set_option maxRecDepth 100000
set_option maxHeartbeats 1000000
/-! Dicts that stand: made by a comprehension, read by a key; ranges from their end. -/
namespace DL
open PySem PySem.Spec PyProof.Rows L2 LamX
section
variable {X : Cx} {T : List (Addr × Str)} {W : WX} {χ : XD} {δ : Dn} {w : Wp} {pos : Pos}
def downs (n : Nat) : List D := (List.range n).map fun (k : Nat) => I (((n - 1 - k : Nat)) : Int)
theorem downs_len (n : Nat) : (downs n).length = n := by unfold downs; rw [List.length_map, List.length_range]
theorem downs_at {n i : Nat} {d : D} (h : (downs n)[i]? = some d) : i < n ∧ d = I (((n - 1 - i : Nat)) : Int) := by
  unfold downs at h
  rw [List.getElem?_map] at h
  by_cases hi : i < n
  · rw [List.getElem?_range hi] at h
    exact ⟨hi, (Option.some.inj h).symm⟩
  · rw [List.getElem?_eq_none (by simpa using hi)] at h
    cases h
/-- reversed(range(n)) -/
theorem it_revR {tg e : Expr} {p p2 pos2 : Pos} {κ : List D → Wp → Prop} (hm : X.mg "reversed" = none) (hm2 : X.mg "range" = none) (h : PD X T W χ e δ w fun d w1 => ∃ n : Nat, d = I (n : Int) ∧ (n : Int) < 2 ^ 62 ∧ κ (downs n) w1)
    (hg : Gl X "reversed" := by rfl) (hg2 : Gl X "range" := by rfl) (he : starEach [e] X.env = (false, eval e X.env) :: starEach [] X.env := by rfl)
    (he2 : starEach [.Call (.Name "range" p2) [e] [] pos2] X.env = (false, eval (.Call (.Name "range" p2) [e] [] pos2) X.env) :: starEach [] X.env := by rfl) :
    IterD X T W χ tg (.Call (.Name "reversed" p) [.Call (.Name "range" p2) [e] [] pos2] [] pos) δ w κ :=
  ⟨_, pi_revR hg hm (prg_1 hg2 hm2 (pe_wp e) he) he2, fun F σ S H R hE hW hX hK => by
    refine h F σ S H _ hE hW hX fun d w1 v S1 H1 k s1 W1 r => ?_
    obtain ⟨n, rfl, hn, k⟩ := k
    have r' : v = .int (n : Int) := r
    refine ⟨n, r', by decide, by decide, by omega, hn, ?_⟩
    have en : (((n : Int)) - 0).toNat = n := by omega
    rw [en]
    have ww := walk_rangeC (lo := (0 : Int) + ((n : Nat) : Int) - 1) (c := -1) (n := n)
    refine hK (downs n) w1 S1 H1 _ _ _ k s1 W1 (by rw [downs_len]; exact ww) (fun S2 w2 F2 H2 s2 W2 => True.intro) fun i d S2 w2 F2 H2 x H3 hd s2 W2 y => ?_
    obtain ⟨rfl, hx⟩ := y
    obtain ⟨hi, rfl⟩ := downs_at hd
    refine ⟨S2, Same.refl _, W2, ?_⟩
    show x = .int ((n - 1 - i : Nat) : Int)
    rw [hx]
    show V.int (0 + (n : Int) - 1 + (i : Int) * (-1)) = _
    congr 1
    omega⟩
/-- d[k] -/
theorem pd_dget {o i : Expr} {κ : D → Wp → Prop} (hu : X.A.units + 1 < cLine) (h : PD X T W χ o δ w fun d w1 => PD X T W χ i δ w1 fun e w2 => ∃ kvs k v, d = .dic kvs ∧ e = .val (kV k) ∧ valV kvs k = some v ∧ κ (.val v) w2)
    (hs : NoSl i := by exact fun _ _ => rfl) : PD X T W χ (.Subscript o i pos) δ w κ := fun F σ S H Q hE hW hX hK =>
  wp_pe (pe_dget hu (pe_wp o) (pe_wp i) hs) (by
    refine h F σ S H _ hE hW hX fun d w1 x S1 H1 k s1 W1 r1 => ?_
    refine k F σ S1 H1 _ (hE.mono s1) W1 (hX.mono s1) fun e w2 y S2 H2 k2 s2 W2 r2 => ?_
    obtain ⟨kvs, ky, v, rfl, rfl, hv, k2⟩ := k2
    obtain ⟨a, rfl, ha⟩ := r1
    have r2' : y = kV ky := r2
    subst r2'
    refine ⟨a, v, rfl, .inl ⟨kvs, ky, .inl (W2.same _ _ (s2 _ _ ha)), rfl, hv.symm⟩, ?_⟩
    exact hK _ w2 _ S2 H2 k2 (s1.trans s2) W2 rfl)
/-- the turns of a dict's comprehension over what is walked -/
theorem dc_turns {J : It} {n : Nat} {G : Hp → Prop} {Y : Nat → Hp → V → Hp → Prop} (w : Walk J n G Y) {g : TG} {tt : TT} {tk tv : TE} {vs : List Nat} {σ : L2.St} {H1 : Hp} {L : Addr} {Qd : Hp → Prop} (Pv : Nat → Hp → Prop)
    (h0 : Pv 0 (upd H1 L (.dK []))) (hG : ∀ i H, i ≤ n → Pv i H → G H)
    (hs : ∀ i x H H', i < n → Pv i H → Y i H x H' → g x (L2.wipe σ vs) H' fun σ2 H2 => L2.wipe σ2 vs = L2.wipe σ vs ∧ tt σ2 H2 fun b H3 =>
      if b = true then tk σ2 H3 fun y H4 => tv σ2 H4 fun z H5 => ∃ kvs k, y = kV k ∧ H5 L = some (.dK kvs) ∧ kvs.length < sizeLine ∧ Pv (i + 1) (upd H5 L (.dK (putK kvs k z))) else Pv (i + 1) H3)
    (hd : ∀ H, Pv n H → Qd H) : ∃ W : Nat → Nat → Hp → Prop, (∃ m, W 0 m (upd H1 L (.dK []))) ∧ ∀ i m H, W i m H →
      (J.stop i H ∧ Qd H) ∨ (J.go i H ∧ ∃ Nx : Hp → Prop, (∀ H', Nx H' → ∃ m', m' < m ∧ W (i + 1) m' H') ∧ ∀ x H', J.yld i H x H' → g x (L2.wipe σ vs) H' fun σ2 H2 => L2.wipe σ2 vs = L2.wipe σ vs ∧ tt σ2 H2 fun b H3 =>
        if b = true then tk σ2 H3 fun y H4 => tv σ2 H4 fun z H5 => ∃ kvs k, y = kV k ∧ H5 L = some (.dK kvs) ∧ kvs.length < sizeLine ∧ Nx (upd H5 L (.dK (putK kvs k z))) else Nx H3) :=
  ⟨fun i m H => m = n - i ∧ i ≤ n ∧ Pv i H, ⟨n, rfl, Nat.zero_le _, h0⟩, by
    intro i m H h
    obtain ⟨hm, hi, p⟩ := h
    have gg := hG i H hi p
    cases Nat.lt_or_ge i n with
    | inl hlt =>
      exact Or.inr ⟨w.goes i H hlt gg, Pv (i + 1), (fun H' p' => ⟨n - (i + 1), (by omega), rfl, hlt, p'⟩), fun x H' y => hs i x H H' hlt p (w.yields i H x H' hlt gg y)⟩
    | inr hge =>
      obtain rfl : i = n := Nat.le_antisymm hi hge
      exact Or.inl ⟨w.stops H gg, hd H p⟩⟩
/-- what a dict's comprehension (without a test) asks -/
def DcD (X : Cx) (T : List (Addr × Str)) (is : List Nat) (tg kx vx : Expr) (scope : Scope) (vs : List Nat) (δ : Dn) (κ : List (Key × V) → Wp → Prop) (ds : List D) (w1 : Wp) : Prop :=
  ds.length < sizeLine ∧ ∃ Pv : Nat → List (Key × V) → Wp → Prop, Pv 0 [] w1 ∧
    (∀ (i : Nat) (d : D) acc w', ds[i]? = some d → Pv i acc w' → ∀ s H0 C cl fp, PGL (bx X s H0 scope cl C fp) T is tg d (wipeD δ vs) w' fun δ2 w2 => ∀ s H0 C cl fp, PD (bx X s H0 scope cl C fp) T Wf noX kx δ2 w2 fun kd w3 =>
      ∀ s H0 C cl fp, PD (bx X s H0 scope cl C fp) T Wf noX vx δ2 w3 fun vd w4 => ∃ k v, kd = .val (kV k) ∧ vd = .val v ∧ Pv (i + 1) (putK acc k v) w4) ∧
    ∀ acc w', Pv ds.length acc w' → κ acc w'
theorem ptsx_nil {scope : Scope} (s : Shared) (H : Hp) (C : Addr) (cl : List (Str × Addr)) (fp : List Addr) : PTs (X.blk s H scope (compEnvC scope cl C X.env) fp) [] (fun σ H Q => Q true H) := pts_nil
theorem pd_dc {kx vx tg iter : Expr} {scope : Scope} (own : List (Str × Nat)) (is : List Nat) {κ : D → Wp → Prop} (hc : X.calm = true) (hN : X.N.Nodup) (ok : BlkOk X.N X.env.scope scope own) (hsub : ∀ i ∈ is, i ∈ own.map (·.2))
    (h : IterD X T W χ tg iter δ w (DcD X T is tg kx vx scope (own.map (·.2)) δ (fun acc w' => κ (.dic acc) w'))) (hs : ∀ x, foldedSetIterable iter X.env x = pure x := by intro _; rfl) : PD X T W χ (.DictComp kx vx [⟨tg, iter, [], 0⟩] scope pos) δ w κ := fun F σ S H Q hE hW hX hK => by
  obtain ⟨wi, hi, h⟩ := h
  refine wp_pe (pe_dc hc hN hi ok pg_bx ptsx_nil pe_bx pe_bx hs) ?_
  refine h F σ S H _ hE hW hX fun ds w1 S1 H1 J G Y k s1 W1 ww hG hY L nL => ?_
  obtain ⟨hz, Pv, p0, turn, done⟩ := k
  have fL : F L = none := (W1.free nL).2.2
  refine dc_turns ww (g := lcG X scope tg) (tt := fun σ H Q => Q true H) (tk := lcE X scope kx) (tv := lcE X scope vx) (vs := own.map (·.2)) (σ := σ) (H1 := H1) (L := L) (Qd := fun H => Q (.ref L) H) (fun i H' => ∃ acc w' S', Pv i acc w' ∧ acc.length ≤ i ∧ Same S1 S' ∧ World X.K T S' w' (upd F L (.dK acc)) H') ?_ (fun i H' _ ⟨acc, w', S', _, _, s2, W2⟩ => hG S' w' _ H' s2 W2) ?_ ?_
  · exact ⟨[], w1, S1, p0, Nat.le_refl _, Same.refl _, W1.takeF nL (fun _ z => by cases z)⟩
  · rintro i x H' H3 hi ⟨acc, w', S', pv, hacc, s2, W2⟩ y
    obtain ⟨S3, s3, W3, r⟩ := hY i ds[i] S' w' _ H' x H3 (List.getElem?_eq_getElem hi) s2 W2 y
    intro s H0 C cl fp
    refine turn i ds[i] acc w' (List.getElem?_eq_getElem hi) pv s H0 C cl fp (upd F L (.dK acc)) x (L2.wipe σ (own.map (·.2))) S3 H3 _ r ((hE.mono (s1.trans (s2.trans s3))).wipe _) W3 fun δ2 w2 σ2 S4 H4 k s4 hE4 W4 o4 l4 => ?_
    refine ⟨?_, ?_⟩
    · rw [wipe_eq (σ1 := L2.wipe σ (own.map (·.2))) (σ2 := σ2) l4 fun j hj => o4 j fun z => hj (hsub j z)]
      exact wipe_eq (L2.wipe_length σ _) fun j hj => L2.wipe_out hj
    · show (if true = true then _ else _)
      rw [if_pos rfl]
      intro s H0 C cl fp
      refine k s H0 C cl fp (upd F L (.dK acc)) σ2 S4 H4 _ hE4 W4 exf fun kd w5 y5 S5 H5 k5 s5 W5 r5 => ?_
      intro s H0 C cl fp
      refine k5 s H0 C cl fp (upd F L (.dK acc)) σ2 S5 H5 _ (hE4.mono s5) W5 exf fun vd w6 z6 S6 H6 k6 s6 W6 r6 => ?_
      obtain ⟨ky, v, rfl, rfl, k6⟩ := k6
      have r5' : y5 = kV ky := r5
      have r6' : z6 = v := r6
      subst r5' r6'
      refine ⟨acc, ky, rfl, (W6.frm L _ upd_same).2, by omega, putK acc ky z6, w6, S6, k6, ?_, s2.trans (s3.trans (s4.trans (s5.trans s6))), ?_⟩
      · have := length_putK acc ky z6
        omega
      · have W7 := W6.putF (o := .dK (putK acc ky z6)) upd_same (fun _ z => by cases z) (fun _ z => by cases z) (fun _ z => by cases z)
        rw [upd_upd] at W7
        exact W7
  · rintro H' ⟨acc, w', S', pv, hacc, s2, W2⟩
    obtain ⟨e1, W3⟩ := W2.freezeF fL fun _ z => by cases z
    have s3 : Same S' (upd S' L (.dK acc)) := same_upd e1
    exact hK _ w' _ _ H' (done acc w' pv) (s1.trans (s2.trans s3)) W3 ⟨L, rfl, upd_same⟩
end
end DL

set_option Elab.async false
set_option linter.all false
set_option maxRecDepth 100000
set_option maxHeartbeats 1000000
/-! Loops and comprehensions over a list of plain values that stands or is owned, and is left as it is. -/
namespace DL
open PySem PySem.Spec PyProof.Rows L2 LamX
def IterDK (X : Cx) (T : List (Addr × Str)) (W : WX) (χ : XD) (Kp : Wp → Prop) (tg iter : Expr) (δ : Dn) (w : Wp) (κ : List D → Wp → Prop) : Prop :=
  ∃ wi, PI X tg iter wi ∧ ∀ (F : Hp) (σ : L2.St) (S H : Hp) (R : It → Hp → Prop), EnvD X.K S δ σ → World X.K T S w F H → ExD X.K T W χ σ S F →
    (∀ (ds : List D) (w1 : Wp) (S1 H1 : Hp) (J : It) (G : Hp → Prop) (Y : Nat → Hp → V → Hp → Prop), κ ds w1 → Same S S1 → World X.K T S1 w1 F H1 → Walk J ds.length G Y →
      (∀ S2 w2 F2 H2, Kp w2 → Same S1 S2 → World X.K T S2 w2 F2 H2 → G H2) →
      (∀ (i : Nat) (d : D) S2 w2 F2 H2 x H3, ds[i]? = some d → Kp w2 → Same S1 S2 → World X.K T S2 w2 F2 H2 → Y i H2 x H3 → ∃ S3, Same S2 S3 ∧ World X.K T S3 w2 F2 H3 ∧ Rep X.K S3 d x) → R J H1) → wi σ H R
section
variable {X : Cx} {T : List (Addr × Str)} {W : WX} {χ : XD} {δ : Dn} {w : Wp} {pos : Pos}
theorem it_lk {tg e : Expr} {dd : D} {vs : List V} {κ : List D → Wp → Prop} (h : PD X T W χ e δ w fun d w1 => d = dd ∧ Lk w1 dd (vs.map D.val) ∧ κ (vs.map D.val) w1) : IterDK X T W χ (fun w2 => Lk w2 dd (vs.map D.val)) tg e δ w κ :=
  ⟨_, pi_list (pe_wp e), fun F σ S H R hE hW hX hK => by
    refine h F σ S H _ hE hW hX fun d w1 v S1 H1 k s1 W1 r => ?_
    obtain ⟨rfl, lk, k⟩ := k
    obtain ⟨a, xs, rfl, h1, h2⟩ := lk.at_ W1 r
    have e2 := h2.vals
    subst e2
    refine ⟨a, rfl, ⟨xs, SqL.of h1⟩, ?_⟩
    have ww := walk_list (K := X.K) (a := a) (xs := xs)
    have el : xs.length = (xs.map D.val).length := (List.length_map _).symm
    rw [el] at ww
    have at2 : ∀ S2 w2 F2 H2, Lk w2 d (xs.map D.val) → Same S1 S2 → World X.K T S2 w2 F2 H2 → H2 a = some (.lst xs) := fun S2 w2 F2 H2 l2 s2 W2 => by
      obtain ⟨a2, xs2, e3, h3, h4⟩ := l2.at_ W2 (r.mono s2)
      cases e3
      rw [h4.vals] at h3
      exact h3
    refine hK _ w1 S1 H1 _ _ _ k s1 W1 ww (fun S2 w2 F2 H2 l2 s2 W2 => SqL.of (at2 S2 w2 F2 H2 l2 s2 W2)) fun i d' S2 w2 F2 H2 x H3 hd l2 s2 W2 y => ?_
    obtain ⟨rfl, hx⟩ := y
    rw [List.getElem?_map, hx] at hd
    cases hd
    exact ⟨S2, Same.refl _, W2, rfl⟩⟩
theorem psd_forK {Kp : Wp → Prop} {tg iter : Expr} {body : List Stmt} {C : DL.Fin} (hp : PassesOwn (model X.prog X.w) X.A X.env X.xe) (hc : X.calm = true)
    (h : IterDK X T W χ Kp tg iter δ w (fun ds w1 => ∃ Pv : Nat → Dn → Wp → Prop, Pv 0 δ w1 ∧ (∀ i δ' w', Pv i δ' w' → Kp w') ∧
      (∀ (i : Nat) (d : D) δ' w', ds[i]? = some d → Pv i δ' w' → PGD X T tg d δ' w' fun δ2 w2 => PSsD X T W χ body δ2 w2 { nx := Pv (i + 1), rt := C.rt, bk := C.nx, ct := Pv (i + 1) }) ∧
      ∀ δ' w', Pv ds.length δ' w' → C.nx δ' w'))
    (hs : ∀ x, foldedSetIterable iter X.env x = pure x := by intro _; rfl) : PSD X T W χ (.For tg iter body [] pos) δ w C := fun F σ S H E hE hW hX hK => by
  obtain ⟨wi, hi, h⟩ := h
  refine wp_ps (ps_for hp hc hi (pg_wp tg) (pss_wp body) hs) ?_
  refine h F σ S H _ hE hW (hX σ) fun ds w1 S1 H1 J G Y k s1 W1 ww hG hY => ?_
  obtain ⟨Pv, p0, pk, turn, done⟩ := k
  refine for_it ww (D := E) (fun i σ' H' => ∃ δ' w' S', Pv i δ' w' ∧ Same S1 S' ∧ EnvD X.K S' δ' σ' ∧ World X.K T S' w' F H') ⟨δ, w1, S1, p0, Same.refl _, hE.mono s1, W1⟩ (fun i σ' H' _ ⟨δ', w', S', pv, s2, _, W2⟩ => hG S' w' F H' (pk _ _ _ pv) s2 W2) ?_ ?_
  · rintro i x σ' H' H3 hi ⟨δ', w', S', pv, s2, hE2, W2⟩ y
    obtain ⟨S3, s3, W3, r⟩ := hY i ds[i] S' w' F H' x H3 (List.getElem?_eq_getElem hi) (pk _ _ _ pv) s2 W2 y
    refine turn i ds[i] δ' w' (List.getElem?_eq_getElem hi) pv F x σ' S3 H3 _ r (hE2.mono s3) W3 fun δ2 w2 σ2 S4 H4 k s4 hE4 W4 => ?_
    have ss := s1.trans (s2.trans (s3.trans s4))
    refine k F σ2 S4 H4 _ hE4 W4 (hX.mono ss) ⟨fun δ5 w5 σ5 S5 H5 k5 s5 hE5 W5 => ⟨δ5, w5, S5, k5, s2.trans (s3.trans (s4.trans s5)), hE5, W5⟩, hK.rt.mono ss, hK.nx.mono ss, fun δ5 w5 σ5 S5 H5 k5 s5 hE5 W5 => ⟨δ5, w5, S5, k5, s2.trans (s3.trans (s4.trans s5)), hE5, W5⟩⟩
  · rintro σ' H' ⟨δ', w', S', pv, s2, hE2, W2⟩
    exact hK.nx δ' w' σ' S' H' (done δ' w' pv) (s1.trans s2) hE2 W2
/-- what a comprehension asks -/
def LcDK (X : Cx) (T : List (Addr × Str)) (is : List Nat) (tg : Expr) (ifs : List Expr) (elt : Expr) (scope : Scope) (vs : List Nat) (δ : Dn) (κ : List D → Wp → Prop) (ds : List D) (Kp : Wp → Prop) (w1 : Wp) : Prop :=
  ds.length < sizeLine ∧ ∃ Pv : Nat → List D → Wp → Prop, Pv 0 [] w1 ∧ (∀ i acc w', Pv i acc w' → Kp w') ∧
    (∀ (i : Nat) (d : D) acc w', ds[i]? = some d → Pv i acc w' → ∀ s H0 C cl fp, PGL (bx X s H0 scope cl C fp) T is tg d (wipeD δ vs) w' fun δ2 w2 => ∀ s H0 C cl fp, PTsD (bx X s H0 scope cl C fp) T ifs δ2 w2 fun b w3 =>
      if b = true then ∀ s H0 C cl fp, PD (bx X s H0 scope cl C fp) T Wf noX elt δ2 w3 fun y w4 => Pv (i + 1) (acc ++ [y]) w4 else Pv (i + 1) acc w3) ∧
    ∀ acc w', Pv ds.length acc w' → κ acc w'
theorem lc_readK {Kp : Wp → Prop} {tg elt : Expr} {ifs : List Expr} {scope : Scope} {vs is : List Nat} {κ : List D → Wp → Prop} {wi : TI} {F : Hp} {σ : L2.St} {S H : Hp} {Q : VK} (hsub : ∀ i ∈ is, i ∈ vs) (hE : EnvD X.K S δ σ) (hW : World X.K T S w F H)
    (h : ∀ (R : It → Hp → Prop), (∀ (ds : List D) (w1 : Wp) (S1 H1 : Hp) (J : It) (G : Hp → Prop) (Y : Nat → Hp → V → Hp → Prop), LcDK X T is tg ifs elt scope vs δ κ ds Kp w1 → Same S S1 → World X.K T S1 w1 F H1 → Walk J ds.length G Y →
      (∀ S2 w2 F2 H2, Kp w2 → Same S1 S2 → World X.K T S2 w2 F2 H2 → G H2) →
      (∀ (i : Nat) (d : D) S2 w2 F2 H2 x H3, ds[i]? = some d → Kp w2 → Same S1 S2 → World X.K T S2 w2 F2 H2 → Y i H2 x H3 → ∃ S3, Same S2 S3 ∧ World X.K T S3 w2 F2 H3 ∧ Rep X.K S3 d x) → R J H1) → wi σ H R)
    (hK : ∀ (L : Addr) acc w' S' xs H', κ acc w' → Same S S' → F L = none → World X.K T S' w' (upd F L (.lst xs)) H' → RepL X.K S' acc xs → Q (.ref L) H') :
    tLc wi (lcG X scope tg) (lcT X scope ifs) (lcE X scope elt) vs σ H Q := by
  refine h _ fun ds w1 S1 H1 J G Y k s1 W1 ww hG hY L nL => ?_
  obtain ⟨hz, Pv, p0, pk, turn, done⟩ := k
  have fL : F L = none := (W1.free nL).2.2
  refine lc_it ww (g := lcG X scope tg) (tt := lcT X scope ifs) (te := lcE X scope elt) (vs := vs) (σ := σ) (H1 := H1) (D := L) (Qd := fun H => Q (.ref L) H) (fun i H' => ∃ acc w' S' xs, Pv i acc w' ∧ acc.length ≤ i ∧ Same S1 S' ∧ World X.K T S' w' (upd F L (.lst xs)) H' ∧ RepL X.K S' acc xs) ?_ (fun i H' _ ⟨acc, w', S', xs, pv, _, s2, W2, _⟩ => hG S' w' _ H' (pk _ _ _ pv) s2 W2) ?_ ?_
  · exact ⟨[], w1, S1, [], p0, Nat.le_refl _, Same.refl _, W1.takeF nL (fun _ z => by cases z), rfl⟩
  · rintro i x H' H3 hi ⟨acc, w', S', xs, pv, hacc, s2, W2, ra⟩ y
    obtain ⟨S3, s3, W3, r⟩ := hY i ds[i] S' w' _ H' x H3 (List.getElem?_eq_getElem hi) (pk _ _ _ pv) s2 W2 y
    intro s H0 C cl fp
    refine turn i ds[i] acc w' (List.getElem?_eq_getElem hi) pv s H0 C cl fp (upd F L (.lst xs)) x (L2.wipe σ vs) S3 H3 _ r ((hE.mono (s1.trans (s2.trans s3))).wipe vs) W3 fun δ2 w2 σ2 S4 H4 k s4 hE4 W4 o4 l4 => ?_
    refine ⟨?_, ?_⟩
    · rw [wipe_eq (σ1 := L2.wipe σ vs) (σ2 := σ2) l4 fun j hj => o4 j fun z => hj (hsub j z)]
      exact wipe_eq (L2.wipe_length σ vs) fun j hj => L2.wipe_out hj
    · intro s H0 C cl fp
      refine k s H0 C cl fp (upd F L (.lst xs)) σ2 S4 H4 _ hE4 W4 fun b w5 S5 H5 k5 s5 W5 => ?_
      cases b with
      | false =>
        rw [if_neg Bool.false_ne_true] at k5 ⊢
        exact ⟨acc, w5, S5, xs, k5, Nat.le_succ_of_le hacc, s2.trans (s3.trans (s4.trans s5)), W5, ra.mono (s3.trans (s4.trans s5))⟩
      | true =>
        rw [if_pos rfl] at k5 ⊢
        intro s H0 C cl fp
        refine k5 s H0 C cl fp (upd F L (.lst xs)) σ2 S5 H5 _ (hE4.mono s5) W5 exf fun d6 w6 v6 S6 H6 k6 s6 W6 r6 => ?_
        have ra6 := ra.mono (s3.trans (s4.trans (s5.trans s6)))
        refine ⟨xs, (W6.frm L _ upd_same).2, by rw [ra6.length]; omega, acc ++ [d6], w6, S6, xs ++ [v6], k6, ?_, s2.trans (s3.trans (s4.trans (s5.trans s6))), ?_, ra6.app (RepL.one r6)⟩
        · rw [List.length_append]
          show acc.length + 1 ≤ i + 1
          omega
        · have W7 := W6.putF (o := .lst (xs ++ [v6])) upd_same (fun _ z => by cases z) (fun _ z => by cases z) (fun _ z => by cases z)
          rw [upd_upd] at W7
          exact W7
  · rintro H' ⟨acc, w', S', xs, pv, hacc, s2, W2, ra⟩
    exact hK L acc w' S' xs H' (done acc w' pv) (s1.trans s2) fL W2 ra
theorem pd_lcK {Kp : Wp → Prop} {elt tg iter : Expr} {ifs : List Expr} {scope : Scope} (own : List (Str × Nat)) (is : List Nat) {κ : D → Wp → Prop} (hc : X.calm = true) (hN : X.N.Nodup) (ok : BlkOk X.N X.env.scope scope own) (hsub : ∀ i ∈ is, i ∈ own.map (·.2))
    (h : IterDK X T W χ Kp tg iter δ w (fun ds => LcDK X T is tg ifs elt scope (own.map (·.2)) δ (fun acc w' => κ (.lst acc) w') ds Kp)) (hs : ∀ x, foldedSetIterable iter X.env x = pure x := by intro _; rfl) : PD X T W χ (.ListComp elt [⟨tg, iter, ifs, 0⟩] scope pos) δ w κ := fun F σ S H Q hE hW hX hK => by
  obtain ⟨wi, hi, h⟩ := h
  exact wp_pe (pe_lc hc hN hi ok pg_bx pt_bx pe_bx hs) (lc_readK hsub hE hW (fun R hR => h F σ S H R hE hW hX hR) (fin_stay hK))
end
section
variable {K : PySem.W.Frag} {T : List (Addr × Str)} {w : Wp} {κ : D → Wp → Prop}
/-- xs.index(x), ints, owned or not -/
theorem vm_indexK {d : D} {ns : List Int} {n : Int} (l : Lk w d (ns.map I)) (hm : n ∈ ns) (k : κ (I ((ns.idxOf n : Nat) : Int)) w) : VRM K T (rIndex K) d [I n] w κ := fun F S H x xs Q hW r1 r2 hK => by
  obtain ⟨a, ys, rfl, h1, h2⟩ := l.at_ hW r1
  obtain ⟨y, zs, rfl, h3, h4⟩ := r2
  have h3' : y = .int n := h3
  have h4' : zs = [] := h4
  have h2' := h2.ints
  subst h3' h4' h2'
  have hi : ns.idxOf n < ns.length := List.idxOf_lt_length_of_mem hm
  refine ⟨a, ns.map V.int, .int n, ns.idxOf n, .int n, rfl, rfl, SqL.of h1, rfl, ?_, ?_, ?_, ?_, hK _ w _ S H k (Same.refl _) hW rfl⟩
  · rw [List.all_eq_true]
    intro v hv
    obtain ⟨m, _, rfl⟩ := List.mem_map.mp hv
    rfl
  · rw [List.getElem?_map, List.getElem?_eq_getElem hi, List.getElem_idxOf hi]
    rfl
  · show (n == n) = true
    exact beq_self_eq_true n
  · intro m z' hlt hz
    rw [List.getElem?_map] at hz
    cases e : ns[m]? with
    | none =>
      rw [e] at hz
      cases hz
    | some z =>
      rw [e] at hz
      cases hz
      show (z == n) = false
      refine beq_eq_false_iff_ne.mpr fun q => ?_
      subst q
      exact before_ix hlt e
theorem TyD.lk {d : D} {ds : List D} (l : Lk w d ds) : TyD K "list" d w := by
  rcases l with rfl | ⟨a, rfl, h⟩
  · exact rfl
  · exact ⟨rfl, ds, h⟩
end
end DL

set_option Elab.async false
set_option linter.all false
set_option maxRecDepth 100000
set_option maxHeartbeats 1000000
/-! Dicts whose keys are tuples: made by a comprehension without a test, read by a key. -/
namespace DL
open PySem PySem.Spec PyProof.Rows L2 LamX
section
variable {X : Cx}
/-- the store of one pair, the key a tuple -/
theorem store_tk {pins : List (Addr × Obj)} {σ : L2.St} {H : Hp} {s : Shared} {E : Value → Shared → Prop} {L b : Addr} {kvs : List (List Key × V)} {ks : List Key} {z : V} {r : Value} {Q : Unit → Shared → Prop} (room : X.A.units < cLine) (I : Inv X pins σ H s)
    (atL : H L = some (.dT kvs)) (atb : H b = some (.tup (ks.map kV))) (few : kvs.length < sizeLine) (rz : RelV z r) (go : ∀ s', Inv X pins σ (upd H L (.dT (putK kvs ks z))) s' → Q () s') : wpAny (model X.prog X.w) X.A (dictSet L (.ref b) r) Q E s := by
  obtain ⟨c1, c2, xs, rel, dd⟩ := dt_of I.hok atL
  have c3 : xs.length ≤ sizeLine := (Paired.length rel).symm ▸ c1
  have c4 := length_putK kvs ks z
  refine wpAny_dictSet_heap (hsz := c3) (show (tupleKind (mixKind X.prog X.w)).room X.A from room) (key_of I.hok atb) dd (fun h' dd' sb => go _ ?_)
  obtain ⟨ob, es, ep, g1, g2, g3, g4, _, g5⟩ := dd'
  refine d_write I (by rw [atL]; exact True.intro) sb ⟨ob, g1⟩ ⟨by omega, c2, _, (rel.put ks atb rz).keeps (fun c ys ec => ?_), ob, es, ep, g1, g2, g3, g4, g5⟩
  rw [upd_ne (ne_of ec atL (fun q => nomatch q))]
  exact ec
def tDcT (wi : TI) (g : TG) (tk tv : TE) (vs : List Nat) : TE := fun σ H Q => wi σ H fun J H1 => ∀ L, H1 L = none → ∃ Wt : Nat → Nat → Hp → Prop, (∃ m, Wt 0 m (upd H1 L (.dT []))) ∧ ∀ i m Hi, Wt i m Hi →
  (J.stop i Hi ∧ Q (.ref L) Hi) ∨ (J.go i Hi ∧ ∃ Nx : Hp → Prop, (∀ Hn, Nx Hn → ∃ m', m' < m ∧ Wt (i + 1) m' Hn) ∧ ∀ x Hy, J.yld i Hi x Hy → g x (L2.wipe σ vs) Hy fun σ2 H2 => L2.wipe σ2 vs = L2.wipe σ vs ∧
    tk σ2 H2 fun y H4 => tv σ2 H4 fun z H5 => ∃ kvs ks b, y = .ref b ∧ H5 b = some (.tup (ks.map kV)) ∧ H5 L = some (.dT kvs) ∧ kvs.length < sizeLine ∧ Nx (upd H5 L (.dT (putK kvs ks z))))
theorem pe_dcT {kx vx tg iter : Expr} {scope : Scope} {own : List (Str × Nat)} {pos : Pos} {wi : TI} {g : TG} {tk tv : TE} (room : X.A.units < cLine) (hc : X.calm = true) (hN : X.N.Nodup) (hi : PI X tg iter wi) (ok : BlkOk X.N X.env.scope scope own)
    (pg0 : ∀ (s : Shared) (H : Hp) (C : Addr) (cl : List (Str × Addr)) (fp : List Addr), PG (X.blk s H scope (compEnvC scope cl C X.env) fp) tg g)
    (pk0 : ∀ (s : Shared) (H : Hp) (C : Addr) (cl : List (Str × Addr)) (fp : List Addr), PE (X.blk s H scope (compEnvC scope cl C X.env) fp) kx tk)
    (pv0 : ∀ (s : Shared) (H : Hp) (C : Addr) (cl : List (Str × Addr)) (fp : List Addr), PE (X.blk s H scope (compEnvC scope cl C X.env) fp) vx tv) (hs : ∀ x, foldedSetIterable iter X.env x = pure x := by intro _; rfl) :
    PE X (.DictComp kx vx [⟨tg, iter, [], 0⟩] scope pos) (tDcT wi g tk tv (own.map (·.2))) := ⟨fun pins s σ H Q I q0 => by
  rw [arm_eval_DictComp]
  have closes : ∀ y ∈ scope.names, y.2 = .free → ∃ c, X.env.cells.lookup y.1 = some c := by
    intro y hy e
    cases ok.free y hy e with
    | inl k => exact I.ok.has _ (Or.inl k)
    | inr k => exact I.ok.has _ (Or.inr k)
  refine wpAny_comprehension_free (use := none) rfl hs (closure_ok closes) ok.kind (fun y hy e => (ok.uniq y hy).trans (congrArg some e)) ?_
  refine thn (hi.run pins s σ H _ I q0) (fun xv sa hx => thn hx (fun itv sb hb => ?_))
  obtain ⟨it, fp, tn, J, Hb, rfl, Ib, Tr, at0, fpb, q1⟩ := hb
  refine wpAny_newObj_type (newEnv_comp ?_)
  generalize eL : sb.heap.objs.size = L
  have freeL : Hb L = none := Ib.hok.fresh (Nat.le_of_eq eL)
  obtain ⟨Wt, ⟨m0, w0⟩, turns⟩ := q1 L freeL
  generalize esc : ({ sb with heap := sb.heap.push { cls := .type "dict", data := .dict #[] } } : Shared) = sc
  have hsc : sc.heap = sb.heap.push { cls := .type "dict", data := .dict #[] } := esc ▸ rfl
  have Ic : Inv X pins σ (upd Hb L (.dT [])) sc := by
    subst esc
    subst eL
    exact Ib.laid (t' := sb.toks) (fun b o e => Heap.get?_push_of_some _ e) (Nat.le_refl _) (dt_empty sb.heap Ib.big)
  have below : ∀ b ∈ fp, b < sb.heap.objs.size := by
    intro b hb
    obtain ⟨o, e, _⟩ := Tr.obj _ _ at0 b hb
    exact Heap.lt_size e
  have fpc : ∀ b ∈ fp, FpOk X pins (upd Hb L (.dT [])) b ∧ b < sc.heap.objs.size := by
    intro b hb
    have lt := below b hb
    refine ⟨⟨?_, (fpb b hb).2⟩, ?_⟩
    · rw [upd_ne (eL ▸ Nat.ne_of_lt lt)]
      exact (fpb b hb).1
    · rw [hsc, Heap.size_push]
      exact Nat.lt_succ_of_lt lt
  have at1 : tn 0 sc.heap := Tr.keep _ _ _ at0 (fun b _ o e => hsc ▸ Heap.get?_push_of_some _ e)
  have Id := block_start Ic ok hN fpc
  generalize ecl : cellsFrom (sc.heap.objs.size + 1) scope.names (cloFrom X.env.cells scope.names []) = cl at Id
  have pg := pg0 sc (upd Hb L (.dT [])) sc.heap.objs.size cl fp
  have pk := pk0 sc (upd Hb L (.dT [])) sc.heap.objs.size cl fp
  have pv := pv0 sc (upd Hb L (.dT [])) sc.heap.objs.size cl fp
  have nfp : ∀ b ∈ fp, (upd Hb L (.dT [])) b = none := fun b hb => (fpc b hb).1.1
  have goal : codeAny (model X.prog X.w) X.A (.compStart (.DictComp kx vx [⟨tg, iter, [], 0⟩] scope pos) 0 (.ref it) (.ref L) (compEnvC scope cl sc.heap.objs.size X.env)) (compPost (model X.prog X.w) X.A X.xe none (EP X pins σ Q) (.ref L) sc.heap.objs.size) { sc with heap := pushCells (sc.heap.push { cls := .type "dict", data := .dict #[] }) scope.names } := by
    generalize ece : compEnvC scope cl sc.heap.objs.size X.env = ce at Id pg pk pv ⊢
    have ceL : ce.locals = sc.heap.objs.size := ece ▸ rfl
    generalize eH : upd Hb L (.dT []) = Hc at Ic Id pg pk pv w0 nfp fpc
    generalize esd : ({ sc with heap := pushCells (sc.heap.push { cls := .type "dict", data := .dict #[] }) scope.names } : Shared) = sd at Id ⊢
    have at2 : tn 0 sd.heap := Tr.keep _ _ _ at1 (fun b _ o e => esd ▸ pushCells_keeps _ _ _ _ (Heap.get?_push_of_some _ e))
    have calmB : (X.blk sc Hc scope ce fp).calm = true := hc
    have fpB : ∀ {σ' : L2.St} {H' : Hp} {s' : Shared}, Inv (X.blk sc Hc scope ce fp) [] σ' H' s' → (∀ b ∈ fp, H' b = none) → ∀ b ∈ fp, FpOk (X.blk sc Hc scope ce fp) [] H' b := by
      intro σ' H' s' I' n' b hb
      refine ⟨n' b hb, (I'.ok.exf b hb).1, I'.ok.exfs b hb, .inl hb, (fun x c e => (I'.ok.exf b hb).2 x c e), ?_⟩
      intro p hp
      have hp' : p ∈ ([] : List (Addr × Obj)) ++ [] := hp
      simp at hp'
    refine codeAny_compStart_dict (rest := []) ?loop (Tr.self X.A 0 _ _ _ at2 ?loop)
    case loop =>
    refine compLoop_anyD (fun n s' => ∃ i H', Inv (X.blk sc Hc scope ce fp) [] (L2.wipe σ (own.map (·.2))) H' s' ∧ tn i s'.heap ∧ (∀ b ∈ fp, H' b = none) ∧ Wt i n H') ?_ m0 ⟨0, Hc, Id, at2, nfp, w0⟩
    rintro n se ⟨i, He, Ie, ate, ne, we⟩
    cases turns i n He we with
    | inl st =>
      obtain ⟨stop, qe⟩ := st
      refine thnF (Tr.done (X.blk sc Hc scope ce fp) rfl rfl rfl calmB i [] se _ He (fun _ _ => False) Ie (fpB Ie ne) ate stop) (fun r sf hr => ?_)
      obtain ⟨rfl, If⟩ := hr
      have Ig : Inv X pins σ He sf := by
        refine Ic.call' (ch := fp) If.os If.base If.hok If.bare (fun b hb => ?_)
        obtain ⟨⟨_, y1, y2, y3, y4, y5⟩, _⟩ := fpc b hb
        exact ⟨y3, y1, y4, y5⟩
      have nC : He sc.heap.objs.size = none := by
        have q := If.free
        exact ceL ▸ q
      obtain ⟨m, hn, _⟩ := If.loc
      have hn' : sf.heap.Ns sc.heap.objs.size m := by
        have q : sf.heap.Ns ce.locals m := hn
        exact ceL ▸ q
      refine ⟨m, hn', fun h'' sbb => ?_⟩
      obtain ⟨y0, y1, y2, y3, y4, y5⟩ := Ic.fpOk (Nat.le_refl _) nC
      exact ⟨.ref L, He, Ig.turned (t' := sf.toks) (fun b o hb e => (sbb.2 b hb).trans e) y0 y1 y3 y4 y5, rfl, qe⟩
    | inr gn =>
      obtain ⟨go, Nx, hNx, step⟩ := gn
      refine thnF (Tr.item (X.blk sc Hc scope ce fp) rfl rfl rfl calmB i [] se _ He (fun _ _ => False) Ie (fpB Ie ne) ate go) (fun r sf hr => ?_)
      obtain ⟨u, rfl, hu⟩ := hr
      refine thnF hu (fun _ sg hg => ?_)
      obtain ⟨x, Hg, Ig, rg, yg, atg, ng⟩ := hg
      have Ig' := Ig.pinned (fpB Ig ng) (Tr.obj _ _ atg)
      refine thnF (pg.run _ sg _ Hg x u _ Ig' rg (step x Hg yg)) (fun _ sh hh => ?_)
      obtain ⟨σ8, Hh, Ih, wh, qh⟩ := hh
      show wpAny _ _ (pure true) _ _ _
      refine wpAny_pure ?_
      rw [if_pos rfl]
      refine thnF (pk.run _ sh σ8 Hh _ Ih qh) (fun kv si hk => ?_)
      obtain ⟨yk, Hi, Ii, ri, qi⟩ := hk
      refine thnF (pv.run _ si σ8 Hi _ Ii qi) (fun vv sj hv => ?_)
      obtain ⟨yv, Hj, Ij, rj, kvs, ks, b, rfl, atb, atL, few, nx⟩ := hv
      obtain rfl : kv = Value.ref b := ri
      refine store_tk (X := X.blk sc Hc scope ce fp) room Ij atL atb few rj (fun sk Ik => ?_)
      obtain ⟨m', lt, wn⟩ := hNx _ nx
      have stay : ∀ c ∈ fp, ∀ o, sg.heap.get? c = some o → sk.heap.get? c = some o ∧ (upd Hj L (.dT (putK kvs ks yv))) c = none := by
        intro c hc' o e
        have z := Ik.pin (c, o) (List.mem_append_right _ (List.mem_append_right _ (mem_pinsAt hc' e)))
        exact ⟨z.1, z.2.1⟩
      have len : (L2.wipe σ (own.map (·.2))).length = σ8.length := wh ▸ L2.wipe_length σ8 _
      refine ⟨m', lt, i + 1, _, (Ik.unpinned (pins := [])).weak len (fun j v e => ?_), Tr.keep _ _ _ atg (fun c hc' o e => (stay c hc' o e).1), (fun c hc' => ?_), wn⟩
      · exact (wipe_some (wh ▸ e)).1
      · obtain ⟨o, e, _⟩ := Tr.obj _ _ atg c hc'
        exact (stay c hc' o e).2
  subst ecl
  exact goal⟩
end
section
variable {X : Cx} {T : List (Addr × Str)} {W : WX} {χ : XD} {δ : Dn} {w : Wp} {pos : Pos}
/-- d[k], k a tuple -/
theorem pd_dgetT {o i : Expr} {κ : D → Wp → Prop} (hu : X.A.units + 1 < cLine) (h : PD X T W χ o δ w fun d w1 => PD X T W χ i δ w1 fun e w2 => ∃ kvs ks v, d = .dct kvs ∧ e = .tup (ks.map fun k => .val (kV k)) ∧ valV kvs ks = some v ∧ κ (.val v) w2)
    (hs : NoSl i := by exact fun _ _ => rfl) : PD X T W χ (.Subscript o i pos) δ w κ := fun F σ S H Q hE hW hX hK =>
  wp_pe (pe_dget hu (pe_wp o) (pe_wp i) hs) (by
    refine h F σ S H _ hE hW hX fun d w1 x S1 H1 k s1 W1 r1 => ?_
    refine k F σ S1 H1 _ (hE.mono s1) W1 (hX.mono s1) fun e w2 y S2 H2 k2 s2 W2 r2 => ?_
    obtain ⟨kvs, ks, v, rfl, rfl, hv, k2⟩ := k2
    obtain ⟨a, rfl, ha⟩ := r1
    obtain ⟨b, xs, rfl, hb, hxs⟩ := r2
    have ex : xs = ks.map kV := by
      have e2 : (ks.map fun k => D.val (kV k)) = (ks.map kV).map D.val := by rw [List.map_map]; rfl
      rw [e2] at hxs
      exact hxs.vals
    subst ex
    refine ⟨a, v, rfl, .inr ⟨kvs, ks, b, .inl (W2.same _ _ (s2 _ _ ha)), rfl, W2.same _ _ hb, hv.symm⟩, ?_⟩
    exact hK _ w2 _ S2 H2 k2 (s1.trans s2) W2 rfl)
/-- what a dict's comprehension with tuples as keys asks -/
def DcDT (X : Cx) (T : List (Addr × Str)) (is : List Nat) (tg kx vx : Expr) (scope : Scope) (vs : List Nat) (δ : Dn) (κ : List (List Key × V) → Wp → Prop) (ds : List D) (w1 : Wp) : Prop :=
  ds.length < sizeLine ∧ ∃ Pv : Nat → List (List Key × V) → Wp → Prop, Pv 0 [] w1 ∧
    (∀ (i : Nat) (d : D) acc w', ds[i]? = some d → Pv i acc w' → ∀ s H0 C cl fp, PGL (bx X s H0 scope cl C fp) T is tg d (wipeD δ vs) w' fun δ2 w2 => ∀ s H0 C cl fp, PD (bx X s H0 scope cl C fp) T Wf noX kx δ2 w2 fun kd w3 =>
      ∀ s H0 C cl fp, PD (bx X s H0 scope cl C fp) T Wf noX vx δ2 w3 fun vd w4 => ∃ ks v, kd = .tup (ks.map fun k => .val (kV k)) ∧ vd = .val v ∧ Pv (i + 1) (putK acc ks v) w4) ∧
    ∀ acc w', Pv ds.length acc w' → κ acc w'
theorem pd_dcT {kx vx tg iter : Expr} {scope : Scope} (own : List (Str × Nat)) (is : List Nat) {κ : D → Wp → Prop} (room : X.A.units < cLine) (hc : X.calm = true) (hN : X.N.Nodup) (ok : BlkOk X.N X.env.scope scope own) (hsub : ∀ i ∈ is, i ∈ own.map (·.2))
    (h : IterD X T W χ tg iter δ w (DcDT X T is tg kx vx scope (own.map (·.2)) δ (fun acc w' => κ (.dct acc) w'))) (hs : ∀ x, foldedSetIterable iter X.env x = pure x := by intro _; rfl) : PD X T W χ (.DictComp kx vx [⟨tg, iter, [], 0⟩] scope pos) δ w κ := fun F σ S H Q hE hW hX hK => by
  obtain ⟨wi, hi, h⟩ := h
  refine wp_pe (pe_dcT room hc hN hi ok pg_bx pe_bx pe_bx hs) ?_
  refine h F σ S H _ hE hW hX fun ds w1 S1 H1 J G Y k s1 W1 ww hG hY L nL => ?_
  obtain ⟨hz, Pv, p0, turn, done⟩ := k
  have fL : F L = none := (W1.free nL).2.2
  refine ⟨fun i m Hi => m = ds.length - i ∧ i ≤ ds.length ∧ ∃ acc w' S', Pv i acc w' ∧ acc.length ≤ i ∧ Same S1 S' ∧ World X.K T S' w' (upd F L (.dT acc)) Hi, ⟨_, rfl, Nat.zero_le _, [], w1, S1, p0, Nat.le_refl _, Same.refl _, W1.takeF nL (fun _ z => by cases z)⟩, ?_⟩
  rintro i m H' ⟨rfl, hi, acc, w', S', pv, hacc, s2, W2⟩
  have gg := hG S' w' _ H' s2 W2
  cases Nat.lt_or_ge i ds.length with
  | inr ge =>
    obtain rfl : i = ds.length := Nat.le_antisymm hi ge
    refine .inl ⟨ww.stops H' gg, ?_⟩
    obtain ⟨e1, W3⟩ := W2.freezeF fL fun _ z => by cases z
    have s3 : Same S' (upd S' L (.dT acc)) := same_upd e1
    exact hK _ w' _ _ H' (done acc w' pv) (s1.trans (s2.trans s3)) W3 ⟨L, rfl, upd_same⟩
  | inl hlt =>
    refine .inr ⟨ww.goes i H' hlt gg, fun Hn => ∃ acc w' S', Pv (i + 1) acc w' ∧ acc.length ≤ i + 1 ∧ Same S1 S' ∧ World X.K T S' w' (upd F L (.dT acc)) Hn, fun Hn p => ⟨ds.length - (i + 1), by omega, rfl, hlt, p⟩, fun x H3 y => ?_⟩
    obtain ⟨S3, s3, W3, r⟩ := hY i ds[i] S' w' _ H' x H3 (List.getElem?_eq_getElem hlt) s2 W2 (ww.yields i H' x H3 hlt gg y)
    intro s H0 C cl fp
    refine turn i ds[i] acc w' (List.getElem?_eq_getElem hlt) pv s H0 C cl fp (upd F L (.dT acc)) x (L2.wipe σ (own.map (·.2))) S3 H3 _ r ((hE.mono (s1.trans (s2.trans s3))).wipe _) W3 fun δ2 w2 σ2 S4 H4 k s4 hE4 W4 o4 l4 => ?_
    refine ⟨?_, ?_⟩
    · rw [wipe_eq (σ1 := L2.wipe σ (own.map (·.2))) (σ2 := σ2) l4 fun j hj => o4 j fun z => hj (hsub j z)]
      exact wipe_eq (L2.wipe_length σ _) fun j hj => L2.wipe_out hj
    intro s H0 C cl fp
    refine k s H0 C cl fp (upd F L (.dT acc)) σ2 S4 H4 _ hE4 W4 exf fun kd w5 y5 S5 H5 k5 s5 W5 r5 => ?_
    intro s H0 C cl fp
    refine k5 s H0 C cl fp (upd F L (.dT acc)) σ2 S5 H5 _ (hE4.mono s5) W5 exf fun vd w6 z6 S6 H6 k6 s6 W6 r6 => ?_
    obtain ⟨ks, v, rfl, rfl, k6⟩ := k6
    obtain ⟨b, xs, rfl, hb, hxs⟩ := r5
    have ex : xs = ks.map kV := by
      have e2 : (ks.map fun k => D.val (kV k)) = (ks.map kV).map D.val := by rw [List.map_map]; rfl
      rw [e2] at hxs
      exact hxs.vals
    subst ex
    have r6' : z6 = v := r6
    subst r6'
    refine ⟨acc, ks, b, rfl, W6.same _ _ (s6 _ _ hb), (W6.frm L _ upd_same).2, by omega, putK acc ks z6, w6, S6, k6, ?_, s2.trans (s3.trans (s4.trans (s5.trans s6))), ?_⟩
    · have := length_putK acc ks z6
      omega
    · have W7 := W6.putF (o := .dT (putK acc ks z6)) upd_same (fun _ z => by cases z) (fun _ z => by cases z) (fun _ z => by cases z)
      rw [upd_upd] at W7
      exact W7
end
end DL

set_option Elab.async false
set_option linter.all false
set_option maxRecDepth 100000
set_option maxHeartbeats 1000000
/-! a op b by an own method, both of one class. -/
namespace DL
open PySem PySem.Spec PyProof.Rows L2 LamX
section
variable {X : Cx}
def rBin (C : Addr) (sp : Sp) (E : XK) : R2 := fun x y H Q => ∃ a dx fs b dy gs, x = .ref a ∧ H a = some (.ins C dx fs) ∧ y = .ref b ∧ H b = some (.ins C dy gs) ∧ sp [x, y] H (fun v H' => ∃ p, v = .ref p ∧ Q v H') E
theorem op_bin {op : Operator} {C f : Addr} {fd : FuncData} {ps : List Str} {k : Nat} {sp : Sp} {CX : CXT} {E : XK} (G : FnOk X.prog X.w X.K X.mg X.base CX k f fd ps sp) (hr : Room k X.A) (hs : PySem.W.findIn X.K (.ref C) (PySem.dunder op.info.2) = some (some (.ref f))) (hf : PySem.W.isFn X.K (.ref f) = true) (hc : PySem.W.selfFirst X.K C = true) (hb : Binds X.K fd ps [])
    (hx : ∀ σ, PassesAt CX X σ E) : OpR X (binaryOp op) (rBin C sp E) := by
  intro pins s σ H x y v u Q I rx ry h
  obtain ⟨a, dx, fs, b, dy, gs, rfl, ha, rfl, hbb, hsp⟩ := h
  cases rx
  cases ry
  obtain ⟨mA, J, _⟩ := ins_get I.hok ha
  obtain ⟨od, J, _⟩ := J.look
  obtain ⟨mB, J2, _⟩ := ins_get I.hok hbb
  obtain ⟨od2, J2, _⟩ := J2.look
  obtain ⟨m, hF⟩ := I.fr
  show wpAny (model X.prog X.w) X.A (binaryOp op (.ref a) (.ref b)) (EP X pins σ Q) X.xe s
  refine PySem.W.binop_K hF I.ok.mod.kin J J2.type hc hs hf ?_
  have r2 : Vals [V.ref a, V.ref b] [Value.ref a, Value.ref b] := .cons rfl (.cons rfl .nil)
  have q := run_fnSD (σ := σ) (E := fun _ => E) (dvs := []) (ds := []) G hr hb .nil (hx σ) I r2 (by rw [List.append_nil]; exact hsp)
  refine thn q fun r s' z => ?_
  obtain ⟨v', H', I', rv, ⟨p, rfl, q⟩⟩ := z
  cases rv
  exact ⟨.ref p, H', I', rfl, q⟩
variable {T : List (Addr × Str)} {χ : XD} {δ : Dn} {w : Wp} {pos : Pos}
theorem pd_bin {a b : Expr} {op : Operator} {C f : Addr} {fd : FuncData} {ps : List Str} {k : Nat} {sp : SpD} {CX : CXT} {E : XK} {κ : D → Wp → Prop} (G : FnOk X.prog X.w X.K X.mg X.base CX k f fd ps (spOf X.K T sp)) (hr : Room k X.A) (hs : PySem.W.findIn X.K (.ref C) (PySem.dunder op.info.2) = some (some (.ref f))) (hf : PySem.W.isFn X.K (.ref f) = true) (hc : PySem.W.selfFirst X.K C = true) (hb : Binds X.K fd ps [])
    (hx : ∀ σ, PassesAt CX X σ E) (h : PD X T (fun cls d _ H => E cls d H) χ a δ w fun d w1 => PD X T (fun cls d _ H => E cls d H) χ b δ w1 fun e w2 => (∃ ns ds, d = .obj C ns ds) ∧ (∃ ns ds, e = .obj C ns ds) ∧ sp [d, e] w2 (fun d' w' => (∃ C' ns ds, d' = .obj C' ns ds) ∧ κ d' w') χ) :
    PD X T (fun cls d _ H => E cls d H) χ (.BinOp a op b pos) δ w κ := fun F σ S H Q hE hW hX hK => wp_pe (pe_op (op_bin G hr hs hf hc hb hx) (pe_wp a) (pe_wp b)) (by
  refine h F σ S H _ hE hW hX fun d w1 v S1 H1 k s1 W1 r1 => ?_
  refine k F σ S1 H1 _ (hE.mono s1) W1 (hX.mono s1) fun e w2 u S2 H2 k2 s2 W2 r2 => ?_
  obtain ⟨⟨ns, ds, rfl⟩, ⟨ms, es, rfl⟩, k2⟩ := k2
  have r1 := r1.mono s2
  have r1' := r1
  have r2' := r2
  obtain ⟨p, dx, ys, rfl, h1, _, _⟩ := r1'
  obtain ⟨q, dy, zs, rfl, h2, _, _⟩ := r2'
  refine ⟨p, dx, ys, q, dy, zs, rfl, W2.same _ _ h1, rfl, W2.same _ _ h2, ?_⟩
  refine ⟨[_, _], w2, F, S2, _, χ, k2, ⟨_, _, rfl, r1, _, [], rfl, r2, rfl⟩, W2, fun d' w' v' S' H' kk s' W' r' => ?_, fun C ns fs w' d S' H' x s3 W3 xr => hX C ns fs w' d S' H' x (s1.trans (s2.trans s3)) W3 xr⟩
  obtain ⟨⟨C', ns', ds', rfl⟩, kk⟩ := kk
  have r3 := r'
  obtain ⟨p', _, _, rfl, _⟩ := r3
  exact ⟨p', rfl, hK _ w' _ S' H' kk (s1.trans (s2.trans s')) W' r'⟩)
end
end DL

set_option Elab.async false
set_option linter.all false
set_option maxRecDepth 100000
set_option maxHeartbeats 1000000
/-! list(zip(xs, ys)), two lists of one length: a new list of new pairs. -/
namespace DL
open PySem PySem.Spec PyProof.Rows L2 LamX
theorem lz_len : typeLookup (.type "zip") "__len__" = pure none := am_miss_of_fast (by decide +kernel)
theorem lz_hint : typeLookup (.type "zip") "__length_hint__" = pure none := am_miss_of_fast (by decide +kernel)
/-- pairs laid one after the other -/
inductive GrowT : Hp → List (V × V) → List Addr → Hp → Prop
  | nil {H : Hp} : GrowT H [] [] H
  | snoc {H Hk : Hp} {ps : List (V × V)} {ts : List Addr} {x y : V} {t : Addr} (g : GrowT H ps ts Hk) (n : Hk t = none) : GrowT H (ps ++ [(x, y)]) (ts ++ [t]) (upd Hk t (.tup [x, y]))
theorem GrowT.same {H H' : Hp} {ps : List (V × V)} {ts : List Addr} (g : GrowT H ps ts H') : Same H H' := by
  induction g with
  | nil => exact Same.refl _
  | snoc g n ih => exact ih.trans (same_upd n)
theorem GrowT.len {H H' : Hp} {ps : List (V × V)} {ts : List Addr} (g : GrowT H ps ts H') : ts.length = ps.length := by
  induction g with
  | nil => rfl
  | snoc g n ih => simp [ih]
abbrev fpz (z TI TO i1 i2 : Addr) : List Addr := [z, TI, TO, i1, i2]
/-- how a zip over the lists at a and b stands behind k draws whose pairs are kept -/
structure ZS (h : Heap) (z TI TO i1 i2 a b S : Addr) (k : Nat) : Prop where
  ti : IsPair h TI (.ref i1) (.ref i2)
  h1 : h.IsListIter i1 a k
  h2 : h.IsListIter i2 b k
  lt : ∀ c ∈ fpz z TI TO i1 i2, c < h.objs.size
  out : (IsZip h z TI TO .none ∧ ∃ u v, IsPair h TO u v) ∨ ∃ T f oT, IsZipHeld h z TI TO T f ∧ h.get? T = some oT ∧ T ≠ z ∧ T ≠ i1 ∧ T ≠ i2 ∧ T ≠ S
theorem ZS.typ {h : Heap} {z TI TO i1 i2 a b S : Addr} {k : Nat} (st : ZS h z TI TO i1 i2 a b S k) : ∃ o, h.get? z = some o ∧ o.cls = .type "zip" := by
  rcases st.out with ⟨e, _⟩ | ⟨T, f, oT, e, _⟩
  · exact ⟨_, e, rfl⟩
  · exact ⟨_, e, rfl⟩
theorem ZS.over {h h' : Heap} {z TI TO i1 i2 a b S : Addr} {k : Nat} (st : ZS h z TI TO i1 i2 a b S k) (nS : S ∉ fpz z TI TO i1 i2) (hs : h.objs.size ≤ h'.objs.size) (kp : ∀ c o, c ≠ S → h.get? c = some o → h'.get? c = some o) : ZS h' z TI TO i1 i2 a b S k := by
  have nz : ∀ c ∈ fpz z TI TO i1 i2, c ≠ S := fun c hc e => nS (e ▸ hc)
  have m1 : z ∈ fpz z TI TO i1 i2 := by simp
  have m2 : TI ∈ fpz z TI TO i1 i2 := by simp
  have m3 : TO ∈ fpz z TI TO i1 i2 := by simp
  have m4 : i1 ∈ fpz z TI TO i1 i2 := by simp
  have m5 : i2 ∈ fpz z TI TO i1 i2 := by simp
  refine ⟨kp _ _ (nz _ m2) st.ti, st.h1.at fun o q => kp _ o (nz _ m4) q, st.h2.at fun o q => kp _ o (nz _ m5) q, fun c hc => Nat.lt_of_lt_of_le (st.lt c hc) hs, ?_⟩
  rcases st.out with ⟨e, u, v, e2⟩ | ⟨T, f, oT, e, e2, n1, n2, n3, n4⟩
  · exact .inl ⟨kp _ _ (nz _ m1) e, u, v, kp _ _ (nz _ m3) e2⟩
  · exact .inr ⟨T, f, oT, kp _ _ (nz _ m1) e, kp _ _ n4 e2, n1, n2, n3, n4⟩
section
variable {X : Cx} {pins : List (Addr × Obj)} {σ : L2.St} {A : Around} {E : Value → Shared → Prop} {s : Shared} {H : Hp} {z TI TO i1 i2 a b S : Addr} {k : Nat} {xs ys : List V}
theorem zip_step {x y : V} {Q : Option Value → Shared → Prop} (D : ZipApart z TI TO i1 i2 a b) (I : Inv X pins σ H s) (fpo : ∀ c ∈ fpz z TI TO i1 i2, FpOk X pins H c) (st : ZS s.heap z TI TO i1 i2 a b S k) (hS : S < s.heap.objs.size) (nS : S ∉ fpz z TI TO i1 i2)
    (qx : SqL X.K H a xs) (qy : SqL X.K H b ys) (hx : xs[k]? = some x) (hy : ys[k]? = some y)
    (go : ∀ s', Inv X pins σ (upd H s.heap.objs.size (.tup [x, y])) s' → (∀ c ∈ fpz z TI TO i1 i2, FpOk X pins (upd H s.heap.objs.size (.tup [x, y])) c) → ZS s'.heap z TI TO i1 i2 a b S (k + 1) → S < s'.heap.objs.size → Q (some (.ref s.heap.objs.size)) s') :
    wpAny (model X.prog X.w) A (pyNext (.ref z)) Q E s := by
  obtain ⟨its, rv, p1, _⟩ := I.list qx
  obtain ⟨its2, rv2, p2, _⟩ := I.list qy
  obtain ⟨u, hu, ru⟩ := rv.get hx
  obtain ⟨u2, hu2, ru2⟩ := rv2.get hy
  have fin : ∀ h' : Heap, IsPair h' s.heap.objs.size u u2 → h'.objs.size = s.heap.objs.size + 1 → (∀ c o, c ∉ fpz z TI TO i1 i2 → s.heap.get? c = some o → h'.get? c = some o) → ZS h' z TI TO i1 i2 a b S (k + 1) → Q (some (.ref s.heap.objs.size)) { s with heap := h' } := by
    intro h' hT hsz hk zs
    have new : ObjOk X.prog X.w (upd H s.heap.objs.size (.tup [x, y])) h' s.heap.objs.size (.tup [x, y]) := ⟨by show 2 ≤ sizeLine; decide, [u, u2], .cons ru (.cons ru2 .nil), ⟨_, hT, rfl, _, rfl⟩⟩
    have J : Inv X pins σ (upd H s.heap.objs.size (.tup [x, y])) { s with heap := h' } := I.turnedNew (t' := s.toks) (ch := fpz z TI TO i1 i2) (fun c o hb q => hk c o hb q) fpo (Nat.le_refl _) new
    refine go _ J (fun c hc => ⟨?_, (fpo c hc).2⟩) zs (Nat.lt_of_lt_of_le hS (by show s.heap.objs.size ≤ h'.objs.size; rw [hsz]; exact Nat.le_succ _))
    rw [upd_ne (Nat.ne_of_lt (st.lt c hc))]
    exact (fpo c hc).1
  have ltz := st.lt z (by simp)
  have lt1 := st.lt i1 (by simp)
  have lt2 := st.lt i2 (by simp)
  have ltI : ∀ h' : Heap, h'.objs.size = s.heap.objs.size + 1 → ∀ c ∈ fpz z TI TO i1 i2, c < h'.objs.size := fun h' e c hc => Nat.lt_of_lt_of_le (st.lt c hc) (by rw [e]; exact Nat.le_succ _)
  rcases st.out with ⟨hz, u0, v0, hO⟩ | ⟨T, f, oT, hz, hT, n1, n2, n3, n4⟩
  · refine wpAny_pyNext_zip_item D hz st.ti hO st.h1 st.h2 p1.isList p2.isList (x := u) (y := u2) (by simpa using hu) (by simpa using hu2) fun h' g1 g2 g3 g4 g5 g6 kp => ?_
    refine fin h' g5 g6 (fun c o hc q => kp c o (fun e => hc (by simp [e])) (fun e => hc (by simp [e])) (fun e => hc (by simp [e])) (fun e => hc (by simp [e])) q) ⟨kp _ _ D.TIz D.TITO D.TIi1 D.TIi2 st.ti, g3, g4, ltI h' g6, .inr ⟨_, false, _, g1, g5, Nat.ne_of_gt ltz, Nat.ne_of_gt lt1, Nat.ne_of_gt lt2, Nat.ne_of_gt hS⟩⟩
  · refine wpAny_pyNext_zip_item_held D hz hT st.ti st.h1 st.h2 p1.isList p2.isList (x := u) (y := u2) (by simpa using hu) (by simpa using hu2) fun h' g1 g3 g4 g5 g6 kp => ?_
    refine fin h' g5 g6 (fun c o hc q => kp c o (fun e => hc (by simp [e])) (fun e => hc (by simp [e])) (fun e => hc (by simp [e])) q) ⟨kp _ _ D.TIz D.TIi1 D.TIi2 st.ti, g3, g4, ltI h' g6, .inr ⟨T, true, oT, g1, kp _ _ n1 n2 n3 hT, n1, n2, n3, n4⟩⟩
theorem zip_over {Q : Option Value → Shared → Prop} (hA : A.handled = none) (D : ZipApart z TI TO i1 i2 a b) (I : Inv X pins σ H s) (fpo : ∀ c ∈ fpz z TI TO i1 i2, FpOk X pins H c) (st : ZS s.heap z TI TO i1 i2 a b S k)
    (qx : SqL X.K H a xs) (qy : SqL X.K H b ys) (hx : xs.length ≤ k) (go : ∀ s', Inv X pins σ H s' → Q none s') : wpAny (model X.prog X.w) A (pyNext (.ref z)) Q E s := by
  obtain ⟨its, rv, p1, _⟩ := I.list qx
  obtain ⟨its2, rv2, p2, _⟩ := I.list qy
  have l1 := rv.length
  have none1 : its.toArray[k]? = none ∨ its2.toArray[k]? = none := .inl (by simp; omega)
  rcases st.out with ⟨hz, u0, v0, hO⟩ | ⟨T, f, oT, hz, hT, n1, n2, n3, n4⟩
  · exact wpAny_pyNext_zip_end hA D hz st.ti hO st.h1 st.h2 p1.isList p2.isList none1 fun h' kp => go _ (I.turnedL (t' := s.toks) (ch := fpz z TI TO i1 i2) (fun c o hc q => kp c o (fun e => hc (by simp [e])) (fun e => hc (by simp [e])) (fun e => hc (by simp [e])) (fun e => hc (by simp [e])) q) fpo)
  · exact wpAny_pyNext_zip_end_held hA D hz hT st.ti st.h1 st.h2 p1.isList p2.isList none1 fun h' kp => go _ (I.turnedL (t' := s.toks) (ch := fpz z TI TO i1 i2) (fun c o hc q => kp c o (fun e => hc (by simp [e])) (fun e => hc (by simp [e])) (fun e => hc (by simp [e])) q) fpo)
end
section
variable {X : Cx} {pins : List (Addr × Obj)} {σ : L2.St} {A : Around} {H0 : Hp} {z TI TO i1 i2 a b S : Addr} {xs ys : List V}
theorem upd_swap {H : Hp} {p q : Addr} {u v : HO} (h : p ≠ q) : upd (upd H p u) q v = upd (upd H q v) p u := by
  funext c
  by_cases e1 : c = q
  · subst e1
    rw [upd_same, upd_ne (Ne.symm h), upd_same]
  · rw [upd_ne e1]
    by_cases e2 : c = p
    · subst e2
      rw [upd_same, upd_same]
    · rw [upd_ne e2, upd_ne e2, upd_ne e1]
theorem take_zip {x y : V} {k : Nat} (hx : xs[k]? = some x) (hy : ys[k]? = some y) : (xs.zip ys).take (k + 1) = (xs.zip ys).take k ++ [(x, y)] := by
  have e : (xs.zip ys)[k]? = some (x, y) := by rw [List.getElem?_zip_eq_some]; exact ⟨hx, hy⟩
  rw [List.take_add_one, e]
  rfl
theorem ext_zip {R : Result → Shared → Prop} (hA : A.in1.handled = none) (D : ZipApart z TI TO i1 i2 a b) (nS : S ∉ fpz z TI TO i1 i2) (hl : xs.length = ys.length) (hz : xs.length ≤ 1000)
    (fin : ∀ s' Hn ts, Hn S = none → GrowT H0 (xs.zip ys) ts Hn → Inv X pins σ (upd Hn S (.lst (ts.map V.ref))) s' → R (.ok (.ret .none)) s') :
    ∀ (r k : Nat) (s : Shared) (Hk : Hp) (ts : List Addr), xs.length - k = r → k ≤ xs.length → Hk S = none → GrowT H0 ((xs.zip ys).take k) ts Hk → Inv X pins σ (upd Hk S (.lst (ts.map V.ref))) s →
      (∀ c ∈ fpz z TI TO i1 i2, FpOk X pins (upd Hk S (.lst (ts.map V.ref))) c) → ZS s.heap z TI TO i1 i2 a b S k → S < s.heap.objs.size → SqL X.K Hk a xs → SqL X.K Hk b ys →
      codeAny (model X.prog X.w) A (.builtin "list.extend.loop" ⟨[.ref S, .ref z, .none], []⟩) R s := by
  intro r
  induction r with
  | zero =>
    intro k s Hk ts hr hk hn g I fpo st hS qx qy
    have ek : k = xs.length := by omega
    subst ek
    refine codeAny_builtin F.entry_extend_loop ?_
    rw [Around.under_plainId F.plain_extend_loop _]
    show wpAny _ A.in1 (pyNext (.ref z) >>= _) _ _ s
    have sm : Same Hk (upd Hk S (.lst (ts.map V.ref))) := same_upd hn
    refine wpAny_bind (zip_over hA D I fpo st (sm.seq qx) (sm.seq qy) (Nat.le_refl _) fun s' I' => ?_)
    refine wpAny_pure (fin s' Hk ts hn ?_ I')
    have e : (xs.zip ys).take xs.length = xs.zip ys := List.take_of_length_le (by rw [List.length_zip]; omega)
    rw [e] at g
    exact g
  | succ r ih =>
    intro k s Hk ts hr hk hn g I fpo st hS qx qy
    have hlt : k < xs.length := by omega
    have ex : xs[k]? = some xs[k] := List.getElem?_eq_getElem hlt
    have ey : ys[k]? = some (ys[k]'(by omega)) := List.getElem?_eq_getElem (by omega)
    refine codeAny_builtin F.entry_extend_loop ?_
    rw [Around.under_plainId F.plain_extend_loop _]
    show wpAny _ A.in1 (pyNext (.ref z) >>= _) _ _ s
    have sm : Same Hk (upd Hk S (.lst (ts.map V.ref))) := same_upd hn
    refine wpAny_bind (zip_step D I fpo st hS nS (sm.seq qx) (sm.seq qy) ex ey fun s' I' fpo' st' hS' => ?_)
    generalize hp : s.heap.objs.size = p at I' fpo' ⊢
    have pS : S ≠ p := fun e => Nat.ne_of_lt hS (e.trans hp.symm)
    have np : Hk p = none := by
      have q := I.hok.fresh (Nat.le_of_eq hp)
      rw [upd_ne (Ne.symm pS)] at q
      exact q
    rw [upd_swap pS] at I' fpo'
    obtain ⟨hz1, its, n, vals, hget⟩ := I'.hok S _ upd_same
    show wpAny _ A.in1 (updateSeq S (·.push (Value.ref p)) >>= _) _ _ _
    have li : its.length = ts.length := by
      have q := vals.length
      rw [List.length_map] at q
      exact q.symm
    have lts : ts.length = k := by
      rw [g.len, List.length_take, List.length_zip]
      omega
    have lim : sizeLine ≥ 5000 := by decide
    have eS := Heap.get?_update_self (Obj.mapSeq (·.push (Value.ref p))) hget rfl
    have sb : Heap.SameBut S s'.heap (s'.heap.update S (Obj.mapSeq (·.push (Value.ref p)))) := Heap.SameBut.update ..
    refine wpAny_bind (wpAny_updateSeq hget rfl (wpAny_pure ⟨plainId_quiet F.plain_extend_loop _, ?_⟩) (by rw [List.size_toArray]; omega) (by rw [Array.size_push, List.size_toArray]; omega))
    have nS2 : (upd Hk p (.tup [xs[k], ys[k]'(by omega)])) S = none := by rw [upd_ne pS]; exact hn
    have e1 : upd (upd (upd Hk p (.tup [xs[k], ys[k]'(by omega)])) S (.lst (ts.map V.ref))) S (.lst ((ts ++ [p]).map V.ref)) = upd (upd Hk p (.tup [xs[k], ys[k]'(by omega)])) S (.lst ((ts ++ [p]).map V.ref)) := upd_upd
    have J := I'.write (t' := s'.toks) (h' := s'.heap.update S (Obj.mapSeq (·.push (Value.ref p)))) (x := S) (e := S) (o := .lst ((ts ++ [p]).map V.ref)) (by rw [upd_same]; exact True.intro) (.inl rfl) (fun c o hc q => (sb.2 c hc).trans q) ⟨_, eS⟩
      ⟨by rw [List.length_map, List.length_append]; show ts.length + 1 ≤ sizeLine; omega, its ++ [.ref p], _, by rw [List.map_append]; exact vals.append (.cons rfl .nil), by rw [eS]; simp only [Obj.mapSeq, List.push_toArray]; rfl⟩
    rw [e1] at J
    refine ih (k + 1) _ _ (ts ++ [p]) (by omega) hlt nS2 (by rw [take_zip ex ey]; exact g.snoc np) J (fun c hc => ⟨?_, (fpo' c hc).2⟩) (st'.over nS (by rw [Heap.size_update]; exact Nat.le_refl _) fun c o hc q => (sb.2 c hc).trans q) (by show S < (s'.heap.update S _).objs.size; rw [Heap.size_update]; exact hS') ((same_upd np).seq qx) ((same_upd np).seq qy)
    have cS : c ≠ S := fun e => nS (e ▸ hc)
    have q := (fpo' c hc).1
    rw [upd_ne cS] at q ⊢
    exact q
end
end DL
namespace DL
open PySem PySem.Spec PyProof.Rows L2 LamX
section
variable {X : Cx} {pins : List (Addr × Obj)} {σ : L2.St} {A : Around} {H0 : Hp} {z TI TO i1 i2 a b S : Addr} {xs ys : List V}
theorem lz_extend {R : Result → Shared → Prop} {s : Shared} (hA : A.in1.handled = none) (D : ZipApart z TI TO i1 i2 a b) (nS : S ∉ fpz z TI TO i1 i2) (hl : xs.length = ys.length) (hz : xs.length ≤ 1000) (n0 : H0 S = none) (I : Inv X pins σ (upd H0 S (.lst [])) s)
    (fpo : ∀ c ∈ fpz z TI TO i1 i2, FpOk X pins (upd H0 S (.lst [])) c) (st : ZS s.heap z TI TO i1 i2 a b S 0) (zfree : IsZip s.heap z TI TO .none) (hS : S < s.heap.objs.size) (qx : SqL X.K H0 a xs) (qy : SqL X.K H0 b ys)
    (fin : ∀ s' Hn ts, Hn S = none → GrowT H0 (xs.zip ys) ts Hn → Inv X pins σ (upd Hn S (.lst (ts.map V.ref))) s' → R (.ok (.ret .none)) s') :
    wpAny (model X.prog X.w) A.in1 (Builtin.List.listExtendWith (.ref S) (.ref z) .none) (fun r s' => match r with | .done f => R (.ok f) s' | .again c => c.quiet = true ∧ codeAny (model X.prog X.w) A c R s') (fun e s' => R (.error e) s') s := by
  have neS : S ≠ z := fun e => nS (by rw [e]; simp)
  have tz : s.TypeIs (.ref z) "zip" := st.typ
  obtain ⟨hz1, its, n, vals, hget⟩ := I.hok S _ upd_same
  cases vals
  have k1 : Builtin.List.listSameRef (.ref S) (.ref z) = false := by simp [Builtin.List.listSameRef, neS]
  have k2 : (Value.type "zip" == Value.type "list") = false := by decide
  have k3 : (Value.type "zip" == Value.type "tuple") = false := by decide
  unfold Builtin.List.listExtendWith
  refine wpAny_bind (wpAny_typeOf tz ?_)
  simp only [k1, k2, k3, Bool.or_false, Bool.false_eq_true, if_false]
  refine wpAny_bind (wpAny_pyIter_zip zfree ?_)
  refine wpAny_bind (wpAny_holding ?_)
  unfold Builtin.List.listLengthHint
  refine wpAny_bind (wpAny_specialOf tz lz_len ?_)
  show wpAny _ _ (specialOf (Value.ref z) (Str.ofString "__length_hint__") >>= _) _ _ _
  refine wpAny_bind (wpAny_specialOf tz lz_hint (wpAny_pure ?_))
  show wpAny _ _ (rule "list.extend.makes-room" >>= fun _ => Builtin.List.listTouch (.ref S) >>= fun _ => again _) _ _ _
  refine wpAny_bind (wpAny_rule (wpAny_bind ?_))
  show wpAny _ _ (updateSeq S (·.push .none) >>= fun _ => updateSeq S (·.pop)) _ _ _
  have lim : sizeLine ≥ 5000 := by decide
  refine wpAny_bind (wpAny_updateSeq hget rfl ?_)
  have g2 := Heap.get?_update_self (Obj.mapSeq (·.push Value.none)) hget rfl
  refine wpAny_updateSeq (hz := by seq_fits) g2 rfl ?_
  have g3 := Heap.get?_update_self (Obj.mapSeq (·.pop)) g2 rfl
  have far : ∀ c o, c ≠ S → s.heap.get? c = some o → ((s.heap.update S (Obj.mapSeq (·.push Value.none))).update S (Obj.mapSeq (·.pop))).get? c = some o := fun c o hc e =>
    (Heap.get?_update_other _ _ (Ne.symm hc)).trans ((Heap.get?_update_other _ _ (Ne.symm hc)).trans e)
  have J := I.write (t' := s.toks) (h' := (s.heap.update S (Obj.mapSeq (·.push Value.none))).update S (Obj.mapSeq (·.pop))) (x := S) (e := S) (o := .lst []) (by rw [upd_same]; exact True.intro) (.inl rfl) far ⟨_, g3⟩ ⟨Nat.zero_le _, [], _, .nil, by rw [g3]; rfl⟩
  rw [upd_upd] at J
  refine wpAny_pure ⟨plainId_quiet F.plain_extend_loop _, ?_⟩
  exact ext_zip hA D nS hl hz fin _ 0 _ H0 [] rfl (Nat.zero_le _) n0 GrowT.nil J fpo (st.over nS (by rw [Heap.size_update, Heap.size_update]; exact Nat.le_refl _) far) (Nat.lt_of_lt_of_le hS (by rw [Heap.size_update, Heap.size_update]; exact Nat.le_refl _)) qx qy
theorem lz_init {R : Result → Shared → Prop} {s : Shared} (hA : A.in1.handled = none) (D : ZipApart z TI TO i1 i2 a b) (nS : S ∉ fpz z TI TO i1 i2) (hl : xs.length = ys.length) (hz : xs.length ≤ 1000) (n0 : H0 S = none) (I : Inv X pins σ (upd H0 S (.lst [])) s)
    (fpo : ∀ c ∈ fpz z TI TO i1 i2, FpOk X pins (upd H0 S (.lst [])) c) (st : ZS s.heap z TI TO i1 i2 a b S 0) (zfree : IsZip s.heap z TI TO .none) (hS : S < s.heap.objs.size) (qx : SqL X.K H0 a xs) (qy : SqL X.K H0 b ys)
    (fin : ∀ s' Hn ts, Hn S = none → GrowT H0 (xs.zip ys) ts Hn → Inv X pins σ (upd Hn S (.lst (ts.map V.ref))) s' → R (.ok (.ret .none)) s') :
    wpAny (model X.prog X.w) A.in1 (Builtin.«list.__init__» ⟨[.ref S, .ref z], []⟩) (fun r s' => match r with | .done f => R (.ok f) s' | .again c => c.quiet = true ∧ codeAny (model X.prog X.w) A c R s') (fun e s' => R (.error e) s') s := by
  obtain ⟨hz1, its, n, vals, hget⟩ := I.hok S _ upd_same
  cases vals
  have zne : z ≠ S := fun e => nS (by rw [← e]; simp)
  show wpAny _ _ (Builtin.List.listItems (.ref S) >>= fun old => Builtin.List.listUpdate (.ref S) (fun _ => #[]) >>= fun _ => letGo old.toList.reverse >>= fun _ => Builtin.List.listExtendWith (.ref S) (.ref z) .none) _ _ s
  refine wpAny_bind ?_
  unfold Builtin.List.listItems
  refine wpAny_bind (wpAny_seqItems hget rfl (wpAny_pure (wpAny_bind ?_)))
  show wpAny _ _ (updateSeq S (fun _ => #[])) _ _ s
  refine wpAny_updateSeq hget rfl (wpAny_bind (wpAny_letGo ?_))
  have g3 := Heap.get?_update_self (Obj.mapSeq (fun _ => (#[] : Array Value))) hget rfl
  have far : ∀ c o, c ≠ S → s.heap.get? c = some o → (s.heap.update S (Obj.mapSeq (fun _ => (#[] : Array Value)))).get? c = some o := fun c o hc e => (Heap.get?_update_other _ _ (Ne.symm hc)).trans e
  have J := I.write (t' := s.toks) (h' := s.heap.update S (Obj.mapSeq (fun _ => (#[] : Array Value)))) (x := S) (e := S) (o := .lst []) (by rw [upd_same]; exact True.intro) (.inl rfl) far ⟨_, g3⟩ ⟨Nat.zero_le _, [], _, .nil, by rw [g3]; rfl⟩
  rw [upd_upd] at J
  exact lz_extend hA D nS hl hz n0 J fpo (st.over nS (by rw [Heap.size_update]; exact Nat.le_refl _) far) (far _ _ zne zfree) (Nat.lt_of_lt_of_le hS (by rw [Heap.size_update]; exact Nat.le_refl _)) qx qy fin
def tLZ (K : PySem.W.Frag) (ta : TA) : TE := fun σ H Q => ta σ H fun vs H1 => ∃ a b xs ys, vs = [.ref a, .ref b] ∧ SqL K H1 a xs ∧ SqL K H1 b ys ∧ xs.length = ys.length ∧ xs.length ≤ 1000 ∧ ∀ S Hn ts, Hn S = none → GrowT H1 (xs.zip ys) ts Hn → Q (.ref S) (upd Hn S (.lst (ts.map V.ref)))
theorem pe_listZip {e1 e2 : Expr} {ta : TA} {p p2 pos pos2 : Pos} (hc : X.calm = true) (hg : Gl X "list") (hm : X.mg "list" = none) (hg2 : Gl X "zip") (hm2 : X.mg "zip" = none) (ha : PA X [e1, e2] ta)
    (hs : starEach [e1, e2] X.env = (false, eval e1 X.env) :: starEach [e2] X.env := by rfl) (hpl : (backTo pos2 (starEach [e2] X.env)).any (·.1) = false := by rfl)
    (hs2 : starEach [.Call (.Name "zip" p2) [e1, e2] [] pos2] X.env = (false, eval (.Call (.Name "zip" p2) [e1, e2] [] pos2) X.env) :: starEach [] X.env := by rfl) :
    PE X (.Call (.Name "list" p) [.Call (.Name "zip" p2) [e1, e2] [] pos2] [] pos) (tLZ X.K ta) := ⟨fun pins s σ H Q I h => by
  refine Call_ (ld_blt I hg hm boot_list (PyProof.Rows.callWith_type1 (args_cons (Call_ (ld_blt I hg2 hm2 PyProof.Rows.boot_zip (PyProof.Rows.callWith_type1 (thn (ha.run pos2 pins s σ H _ I h) fun us s1 hx => ?_) hs hpl))) hs2) hs2 rfl))
  obtain ⟨vs, H1, I1, r1, a, b, xs, ys, rfl, qx, qy, hl, hz, q⟩ := hx
  obtain ⟨u1, u2, rfl, e1', e2'⟩ : ∃ u1 u2, us = [u1, u2] ∧ u1 = Value.ref a ∧ u2 = Value.ref b := by
    cases r1 with
    | cons ra rr =>
      cases rr with
      | cons rb rc =>
        cases rc
        exact ⟨_, _, rfl, ra, rb⟩
  subst e1' e2'
  obtain ⟨its, rv, p1, _⟩ := I1.list qx
  obtain ⟨its2, rv2, p2', _⟩ := I1.list qy
  refine call_zip_2 p1.isList p2'.isList fun h1 g1 g2 g3 g4 g5 g6 kp => args_nil ?_
  generalize hn0 : s1.heap.objs.size = n0 at g1 g2 g3 g4 g5 g6
  have I2 : Inv X pins σ H1 { s1 with heap := h1 } := I1.kept (t' := s1.toks) kp
  have D : ZipApart (n0 + 4) (n0 + 2) (n0 + 3) n0 (n0 + 1) a b := by
    rw [← hn0]
    exact PySem.W.ktu_apart s1.heap.objs.size a b p1.lt p2'.lt
  have fz : ∀ c ∈ fpz (n0 + 4) (n0 + 2) (n0 + 3) n0 (n0 + 1), n0 ≤ c ∧ c < n0 + 5 := by
    intro c hcm
    simp only [fpz, List.mem_cons, List.not_mem_nil, or_false] at hcm
    rcases hcm with e | e | e | e | e <;> subst e <;> exact ⟨by first | exact Nat.le_refl _ | exact Nat.le_add_right _ _, by first | exact Nat.lt_add_of_pos_right (by decide) | exact Nat.add_lt_add_left (by decide) _⟩
  refine callType_codes (Q₁ := fun ob s2 => ob = .ref h1.objs.size ∧ s2 = { s1 with heap := h1.push { cls := .type "list", data := .seq #[] } }) F.called_list (F.typeCall_list_1 _) F.entry_list_init (code_list_new _ ⟨rfl, rfl⟩) fun ob s2 h2 => ?_
  obtain ⟨rfl, rfl⟩ := h2
  generalize hS : h1.objs.size = S
  have eS : (h1.push { cls := .type "list", data := .seq #[] }).get? S = some { cls := .type "list", data := .seq #[] } := by rw [← hS]; exact Heap.get?_push_size _ rfl
  have kp2 : ∀ c o, h1.get? c = some o → (h1.push { cls := .type "list", data := .seq #[] }).get? c = some o := fun c o e => Heap.get?_push_of_some _ e
  have nH : H1 S = none := I2.hok.fresh (Nat.le_of_eq hS)
  have J : Inv X pins σ (upd H1 S (.lst [])) { s1 with heap := h1.push { cls := .type "list", data := .seq #[] } } := I2.laid (t' := s1.toks) kp2 (Nat.le_of_eq hS) ⟨Nat.zero_le _, [], 0, .nil, eS⟩
  have nS : S ∉ fpz (n0 + 4) (n0 + 2) (n0 + 3) n0 (n0 + 1) := fun e => by
    have q := (fz S e).2
    rw [← hS, g6] at q
    exact absurd q (Nat.lt_irrefl _)
  refine ⟨⟨_, eS, rfl⟩, F.args_list_init_2 _ _, ?_⟩
  refine lz_init (H0 := H1) (xs := xs) (ys := ys) ?_ D nS hl hz nH J (fun c hcm => ?_) ⟨kp2 _ _ g2, g4.at fun o e => kp2 _ o e, g5.at fun o e => kp2 _ o e, fun c hcm => ?_, .inl ⟨kp2 _ _ g1, _, _, kp2 _ _ g3⟩⟩ (kp2 _ _ g1) ?_ qx qy fun s' Hn ts nn gr I' => ⟨rfl, .ref S, _, I', rfl, q S Hn ts nn gr⟩
  · exact I1.ok.hd hc
  · have hle : s1.heap.objs.size ≤ c := by rw [hn0]; exact (fz c hcm).1
    refine I1.fpOk hle ?_
    have cS : c ≠ S := fun e => nS (e ▸ hcm)
    rw [upd_ne cS]
    exact I1.hok.fresh hle
  · show c < (h1.push _).objs.size
    rw [Heap.size_push, g6]
    exact Nat.lt_succ_of_lt (fz c hcm).2
  · show S < (h1.push _).objs.size
    rw [Heap.size_push, hS]
    exact Nat.lt_succ_self _⟩
end
section
variable {X : Cx} {T : List (Addr × Str)} {W : WX} {χ : XD} {δ : Dn} {w : Wp} {pos : Pos}
/-- the pairs of two lists of plain values -/
def zipD (xs ys : List V) : List D := (xs.zip ys).map fun p => .tup [.val p.1, .val p.2]
theorem grow_world {K : PySem.W.Frag} {S F H H' : Hp} {ps : List (V × V)} {ts : List Addr} (g : GrowT H ps ts H') (hW : World K T S w F H) : ∃ S', Same S S' ∧ World K T S' w F H' ∧ RepL K S' (ps.map fun p => D.tup [.val p.1, .val p.2]) (ts.map V.ref) := by
  induction g with
  | nil => exact ⟨S, Same.refl _, hW, rfl⟩
  | @snoc Hk ps ts x y t g n ih =>
    obtain ⟨S', s1, W1, r1⟩ := ih
    have s2 := same_upd (o := HO.tup [x, y]) (W1.free n).1
    refine ⟨_, s1.trans s2, W1.laid n (fun _ z => by cases z), ?_⟩
    rw [List.map_append, List.map_append]
    exact (r1.mono s2).app (RepL.one ⟨_, _, rfl, upd_same, _, _, rfl, rfl, _, _, rfl, rfl, rfl⟩)
theorem pd_listZip {e1 e2 : Expr} {p p2 pos2 : Pos} {κ : D → Wp → Prop} (hc : X.calm = true) (hm : X.mg "list" = none) (hm2 : X.mg "zip" = none)
    (h : PAD X T W χ [e1, e2] δ w fun ds w1 => ∃ d1 d2 xs ys, ds = [d1, d2] ∧ Lk w1 d1 (xs.map D.val) ∧ Lk w1 d2 (ys.map D.val) ∧ xs.length = ys.length ∧ xs.length ≤ 1000 ∧ κ (.lst (zipD xs ys)) w1)
    (hg : Gl X "list" := by rfl) (hg2 : Gl X "zip" := by rfl)
    (hs : starEach [e1, e2] X.env = (false, eval e1 X.env) :: starEach [e2] X.env := by rfl) (hpl : (backTo pos2 (starEach [e2] X.env)).any (·.1) = false := by rfl)
    (hs2 : starEach [.Call (.Name "zip" p2) [e1, e2] [] pos2] X.env = (false, eval (.Call (.Name "zip" p2) [e1, e2] [] pos2) X.env) :: starEach [] X.env := by rfl) :
    PD X T W χ (.Call (.Name "list" p) [.Call (.Name "zip" p2) [e1, e2] [] pos2] [] pos) δ w κ := fun F σ S H Q hE hW hX hK => wp_pe (pe_listZip hc hg hm hg2 hm2 (pa_wp _) hs hpl hs2) (by
  refine h F σ S H _ hE hW hX fun ds w1 vs S1 H1 k s1 W1 r => ?_
  obtain ⟨d1, d2, xs, ys, rfl, l1, l2, hl, hz, k⟩ := k
  obtain ⟨v1, r0, rfl, r1, v2, r3, rfl, r2, r4⟩ := r
  have r4' : r3 = [] := r4
  subst r4'
  obtain ⟨a, xs', rfl, h1, h2⟩ := l1.at_ W1 r1
  obtain ⟨b, ys', rfl, h3, h4⟩ := l2.at_ W1 r2
  have e1 := h2.vals
  have e2 := h4.vals
  subst e1 e2
  refine ⟨a, b, _, _, rfl, SqL.of h1, SqL.of h3, hl, hz, fun L Hn ts nn gr => ?_⟩
  obtain ⟨S2, s2, W2, r5⟩ := grow_world gr W1
  have s3 := same_upd (o := HO.lst (ts.map V.ref)) (W2.free nn).1
  exact hK _ w1 _ _ _ k (s1.trans (s2.trans s3)) (W2.laid nn fun _ z => by cases z) ⟨L, _, rfl, upd_same, r5.mono s3⟩)
end
end DL

set_option Elab.async false
set_option linter.all false
set_option maxRecDepth 100000
set_option maxHeartbeats 2000000
/-! Error classes of two fields. -/
namespace DL
open PySem PySem.Spec PyProof.Rows L2 LamX
open PySem.W (ksEnv)
def spX2 (C : Addr) (f g : Str) (ok : V → Prop) : Sp := fun vs H Q _ => ∃ a v u, vs = [.ref a, v, u] ∧ H a = some (exo a C none) ∧ ok v ∧ ok u ∧
  ∀ dx, H dx = none → dx ≠ a → Q .non (upd (upd H dx (exd dx [(g, u), (f, v)])) a (exo a C (some dx)))
theorem made_heap2 {H1 : Hp} {a dx C : Addr} {fs : List (Str × V)} (na : H1 a = none) (nd : dx ≠ a) : upd (del (upd (upd (upd H1 a (exo a C none)) dx (exd dx fs)) a (exo a C (some dx))) a) dx (.xd fs) = upd H1 dx (.xd fs) := by
  funext b
  by_cases h1 : b = dx
  · subst h1
    rw [upd_same, upd_same]
  · rw [upd_ne h1, upd_ne h1]
    by_cases h2 : b = a
    · subst h2
      rw [del_same, na]
    · rw [del_ne h2, upd_ne h2, upd_ne h1, upd_ne h2]
section
variable {X : Cx} {T : List (Addr × Str)} {W : WX} {χ : XD} {δ : Dn} {w : Wp} {pos : Pos}
/-- raise X(e1, e2), X an error class of two fields -/
theorem psd_raise2 {CX : CXT} {x f g : Str} {C fI : Addr} {k : Nat} {fd : FuncData} {ok : V → Prop} {e1 e2 : Expr} {p cpos : Pos} {Fi : Fin} (hc : X.calm = true) (tk : Takes X W) (TC : OexC X.K C) (iC : PySem.W.findIn X.K (.ref C) "__init__" = some (some (.ref fI))) (tI : PySem.W.typeIn X.K (.ref fI) = some (.type "function"))
    (G : FnOk X.prog X.w X.K X.mg X.base CX0 k fI fd ["self", f, g] (spX2 C f g ok)) (hr : Room (k + 1) X.A) (hb : Binds X.K fd ["self", f, g] []) (hm : X.mg x = some (.ref C))
    (h : PD X T W χ e1 δ w fun d w1 => PD X T W χ e2 δ w1 fun d2 w2 => ∃ v u, d = .val v ∧ d2 = .val u ∧ ok v ∧ ok u ∧ χ C [g, f] [d2, d] w2) (hg : Gl X x := by rfl) (hdb : (x == ("__debug__" : Str)) = false := by decide)
    (he1 : starEach [e1, e2] X.env = (false, eval e1 X.env) :: starEach [e2] X.env := by rfl) (he2 : starEach [e2] X.env = (false, eval e2 X.env) :: starEach [] X.env := by rfl) (hpl : (backTo cpos (starEach [e2] X.env)).any (·.1) = false := by rfl) : PSD X T W χ (.Raise (some (.Call (.Name x p) [e1, e2] [] cpos)) none pos) δ w Fi := fun F σ S H E hE hW hX hK => by
  refine wp_ps (ps_raise hc tk (pmk_oex (dvs := []) (ds := []) TC iC tI G hr hb .nil pass0 hg hm (pa_cons (pe_wp e1) (pa_cons (pe_wp e2) pa_nil he2) he1) hdb he1 hpl)) ?_
  refine h F σ S H _ hE hW (hX σ) fun d w1 v S1 H1 q s1 W1 r => ?_
  refine q F σ S1 H1 _ (hE.mono s1) W1 ((hX σ).mono s1) fun d2 w2 u S2 H2 q2 s2 W2 r2 => ?_
  obtain ⟨v', u', rfl, rfl, hv, hu, q2⟩ := q2
  have r' : v = v' := r
  have r2' : u = u' := r2
  subst r' r2'
  refine ⟨by show 2 ≤ 1000; decide, fun a na => ?_⟩
  refine ⟨a, v, u, rfl, upd_same, hv, hu, fun dx nd nda => ⟨rfl, dx, [(g, u), (f, v)], upd_same, ?_, ?_, ?_⟩⟩
  · rw [upd_ne nda, upd_same]
  · rw [upd_ne nda] at nd
    exact nd
  · rw [upd_ne nda] at nd
    rw [made_heap2 na nda]
    have s3 : Same S2 (upd S2 dx (.xd [(g, u), (f, v)])) := same_upd (W2.free nd).1
    exact hX σ C [g, f] [.val u, .val v] w2 dx _ _ q2 (s1.trans (s2.trans s3)) (W2.laid nd fun _ z => by cases z) ⟨_, upd_same, rfl, u, [v], rfl, rfl, v, [], rfl, rfl, rfl⟩
end
end DL
namespace Tw
open PySem PySem.Spec PyProof.Rows L2 LamX DL
open PySem.W (ksEnv)
abbrev sSizeMis : Stmt := inClass (topX 5) 0
theorem txt_fits3 {x y z : Str} (h : x.length ≤ 2100) (k : y.length ≤ 1921) (l : z.length ≤ 100) : (x ++ y ++ z).length ≤ sizeLine := by
  have e : (x ++ y ++ z).length = x.length + y.length + z.length := by rw [Str.length_append, Str.length_append]
  rw [e, sizeLine_eq]
  omega
def HasE2 (P : Program) (w : PySem.World) (K : PySem.W.Frag) (mg : Str → Option Value) (base : Heap) (x : Str) (C : Addr) (k : Nat) (f g : Str) : Prop :=
  ∃ fI fd, FnOk P w K mg base CX0 k fI fd ["self", f, g] (spX2 C f g intFits) ∧ mg x = some (.ref C) ∧ OexC K C ∧ PySem.W.findIn K (.ref C) "__init__" = some (some (.ref fI)) ∧ PySem.W.typeIn K (.ref fI) = some (.type "function") ∧ Binds K fd ["self", f, g] []
section
variable {X : Cx} {T : List (Addr × Str)} {W : WX} {χ : XD} {δ : Dn} {w : Wp} {pos : Pos}
theorem psd_raiseH2 {x f g : Str} {C : Addr} {k : Nat} {e1 e2 : Expr} {p cpos : Pos} {Fi : DL.Fin} (hc : X.calm = true) (tk : Takes X W) (G : HasE2 X.prog X.w X.K X.mg X.base x C k f g) (hr : Room (k + 1) X.A)
    (h : PD X T W χ e1 δ w fun d w1 => PD X T W χ e2 δ w1 fun d2 w2 => ∃ i j : Int, d = I i ∧ d2 = I j ∧ i.natAbs.log2 < 1920 ∧ j.natAbs.log2 < 1920 ∧ χ C [g, f] [I j, I i] w2) (hg : Gl X x := by rfl) (hdb : (x == ("__debug__" : Str)) = false := by decide)
    (he1 : starEach [e1, e2] X.env = (false, eval e1 X.env) :: starEach [e2] X.env := by rfl) (he2 : starEach [e2] X.env = (false, eval e2 X.env) :: starEach [] X.env := by rfl) (hpl : (backTo cpos (starEach [e2] X.env)).any (·.1) = false := by rfl) : PSD X T W χ (.Raise (some (.Call (.Name x p) [e1, e2] [] cpos)) none pos) δ w Fi := by
  obtain ⟨fI, fd, h1, h2, h3, h4, h5, h6⟩ := G
  refine psd_raise2 (CX := CX0) hc tk h3 h4 h5 h1 hr h6 h2 (h.imp fun d w1 q => q.imp ?_) hg hdb he1 he2 hpl
  rintro d2 w2 ⟨i, j, rfl, rfl, hi, hj, k⟩
  exact ⟨.int i, .int j, rfl, rfl, ⟨i, rfl, hi⟩, ⟨j, rfl, hj⟩, k⟩
end
section
variable {P : Program} {w : PySem.World} {K : PySem.W.Frag} {mg : Str → Option Value} {base : Heap}
theorem scSM : ScopeS ["self", "first", "second"] ["self", "first", "second"] (defScope sSizeMis) := by
  refine ⟨rfl, rfl, rfl, by decide +kernel, rfl, by decide +kernel, by decide +kernel, ?_, by decide +kernel, by decide +kernel⟩
  intro x h
  have key : ∀ y ∈ (defScope sSizeMis).names, (y.2 = .cell ∨ y.2 = .free) → y.1 = "__class__" := by decide +kernel
  rcases h with h | h
  · exact key (x, _) (PySem.mem_of_lookup h) (.inl rfl)
  · exact key (x, _) (PySem.mem_of_lookup h) (.inr rfl)
theorem ok_sm {f C cc cda : Addr} {fd : FuncData} (G : SupTxt P K mg C f cc cda "SizeMismatch.__init__" sSizeMis fd) (TC : OexC K C) (no : PySem.W.findIn K (.ref C) "first" = some none) (no2 : PySem.W.findIn K (.ref C) "second" = some none) : FnOk P w K mg base CX0 1 f fd ["self", "first", "second"] (spX2 C "first" "second" intFits) := by
  refine fnSup G TC scSM rfl rfl rfl rfl (fun vs H Q E h => ?_) (fun _ => rfl) (fun _ => rfl) (fun _ => rfl) (fun _ => rfl) (fun A outer s H vs Q E hr h => ?_)
  · obtain ⟨a, v, u, rfl, _⟩ := h
    rfl
  · obtain ⟨a, v, u, rfl, ha, ⟨i, rfl, hi⟩, ⟨j, rfl, hj⟩, q⟩ := h
    refine ⟨_, _, a, pa_cons (pe_joined (.cons pe_str (.cons (pe_fmt (pv 1)) (.cons pe_str (.cons (pe_fmt (pv 2)) (.cons pe_str .nil)))))) pa_nil, pss_cons (ps_ost (pv 0) (pv 1)) (pss_one (ps_ost (pv 0) (pv 2))), rfl, ha, ?_⟩
    have l0 : (Str.ofString (toString i)).length ≤ 1921 := by
      have e := int_text_length_le (k := 1920) (by decide) hi
      rw [PySem.ofString_length]
      omega
    have l1 : (Str.ofString (toString j)).length ≤ 1921 := by
      have e := int_text_length_le (k := 1920) (by decide) hj
      rw [PySem.ofString_length]
      omega
    have c1 : (Str.empty ++ ("the sizes " : Str)).length ≤ 50 := by decide +kernel
    have c2 : (" and " : Str).length ≤ 50 := by decide +kernel
    have c3 : (" differ" : Str).length ≤ 50 := by decide +kernel
    have big : sizeLine ≥ 5000 := by decide
    refine ⟨_, rfl, by decide +kernel, ?_⟩
    refine ⟨_, rfl, .inr ⟨i, rfl, hi, ?_⟩⟩
    refine ⟨_, rfl, by rw [Str.length_append]; omega, ?_⟩
    refine ⟨_, rfl, by rw [Str.length_append, Str.length_append]; omega, ?_⟩
    refine ⟨_, rfl, .inr ⟨j, rfl, hj, ?_⟩⟩
    refine ⟨_, rfl, by rw [Str.length_append, Str.length_append, Str.length_append]; omega, ?_⟩
    refine ⟨_, rfl, by rw [Str.length_append, Str.length_append, Str.length_append, Str.length_append]; omega, ?_⟩
    refine ⟨by show 1 ≤ 1000; decide, ha, ?_⟩
    refine ⟨_, rfl, _, rfl, a, C, rfl, TC, no, .inl ⟨ha, fun dx nd nda => ?_⟩⟩
    refine ⟨_, rfl, _, rfl, a, C, rfl, TC, no2, .inr ⟨dx, _, upd_same, by rw [upd_ne nda, upd_same], by show 1 ≤ 900; decide, ?_⟩⟩
    have e : upd (upd (upd H dx (exd dx [("first", V.int i)])) a (exo a C (some dx))) dx (exd dx [("second", V.int j), ("first", V.int i)]) = upd (upd H dx (exd dx [("second", V.int j), ("first", V.int i)])) a (exo a C (some dx)) := by
      funext b
      by_cases h1 : b = dx
      · subst h1
        rw [upd_same, upd_ne nda, upd_same]
      · rw [upd_ne h1]
        by_cases h2 : b = a
        · subst h2
          rw [upd_same, upd_same]
        · rw [upd_ne h2, upd_ne h2, upd_ne h1, upd_ne h1]
    show Q .non (upd (upd (upd H dx (exd dx [("first", V.int i)])) a (exo a C (some dx))) dx (exd dx [("second", V.int j), ("first", V.int i)]))
    rw [e]
    exact q dx nd nda
end
end Tw

set_option Elab.async false
set_option linter.all false
set_option maxRecDepth 100000
set_option maxHeartbeats 2000000
namespace DL
open PySem PySem.Spec PyProof.Rows L2 LamX
section
variable {X : Cx} {T : List (Addr × Str)} {W : WX} {χ : XD} {δ : Dn} {w : Wp} {pos : Pos}
/-- an owned cell is forgotten -/
theorem pssd_drop {sts : List Stmt} {C : DL.Fin} (a : Addr) (h : PSsD X T W χ sts δ (wd w a) C) : PSsD X T W χ sts δ w C := fun F σ S H E hE hW hX hK => h F σ S H E hE (hW.drop a) hX hK
theorem pd_drop {e : Expr} {κ : D → Wp → Prop} (h : PD X T W χ e δ w fun d w' => ∃ a, κ d (wd w' a)) : PD X T W χ e δ w κ := fun F σ S H Q hE hW hX hK => h F σ S H Q hE hW hX fun d w' v S' H' ⟨a, k⟩ s1 W1 r => hK d _ v S' H' k s1 (W1.drop a) r
end
end DL
namespace DL
open PySem PySem.Spec PyProof.Rows L2 LamX
section
variable {X : Cx} {T : List (Addr × Str)} {W : WX} {χ : XD} {δ : Dn} {w : Wp} {pos : Pos}
theorem rg_ups {K : PySem.W.Frag} {S : Hp} (n : Nat) : RepL K S (ups n) (rgV 0 n) := by
  have e : rgV 0 (n : Int) = (List.range n).map fun (k : Nat) => V.int (k : Int) := by
    unfold rgV
    rw [Int.sub_zero, Int.toNat_natCast]
    refine List.map_congr_left fun k _ => ?_
    rw [Int.zero_add]
  rw [e]
  have h : ∀ l : List Nat, RepL K S (l.map fun (k : Nat) => I (k : Int)) (l.map fun (k : Nat) => V.int (k : Int)) := by
    intro l
    induction l with
    | nil => rfl
    | cons a l ih => exact ⟨V.int a, _, rfl, rfl, ih⟩
  exact h _
/-- list(range(n)) -/
theorem pd_listRg {e : Expr} {p p2 pos2 : Pos} {κ : D → Wp → Prop} (hc : X.calm = true) (hmL : X.mg "list" = none) (hmR : X.mg "range" = none) (h : PD X T W χ e δ w fun d w1 => ∃ n : Nat, d = I (n : Int) ∧ n ≤ 1000 ∧ κ (.lst (ups n)) w1)
    (hg1 : Gl X "list" := by rfl) (hg2 : Gl X "range" := by rfl) (na : starEach [e] X.env = (false, eval e X.env) :: starEach [] X.env := by rfl)
    (nb : starEach [.Call (.Name "range" p2) [e] [] pos2] X.env = (false, eval (.Call (.Name "range" p2) [e] [] pos2) X.env) :: starEach [] X.env := by rfl) : PD X T W χ (.Call (.Name "list" p) [.Call (.Name "range" p2) [e] [] pos2] [] pos) δ w κ := by
  intro F σ S H Q hE hW hX hK
  refine wp_pe (pe_listRg hc hg1 hmL (prg_1 hg2 hmR (pe_wp e) na) nb) ?_
  refine h F σ S H _ hE hW hX fun d w1 v S1 H1 k s1 W1 r => ?_
  obtain ⟨n, rfl, hn, k⟩ := k
  refine ⟨n, r, RgOk.of_le (by omega) (by omega) (by omega) (by omega), fun q hq => ?_⟩
  have s2 : Same S1 (upd S1 q (.lst (rgV 0 n))) := same_upd (W1.free hq).1
  exact hK _ w1 _ _ _ k (s1.trans s2) (W1.laid hq fun _ z => by cases z) ⟨q, _, rfl, upd_same, rg_ups n⟩
end
end DL
namespace Tw
open PySem PySem.Spec PyProof.Rows L2 LamX DL
theorem nats_low (ms : List Int) : D.lst (ms.map fun m => I ((ms.idxOf m : Nat) : Int)) = nats (lowN ms) := by
  unfold nats lowN
  rw [List.map_map]
  rfl
theorem lt62k {n : Nat} (h : n ≤ 1000) : (n : Int) < 2 ^ 62 := by omega
section
variable {P : Program} {w : PySem.World} {K : PySem.W.Frag} {mg : Str → Option Value} {base : Heap} {T : List (Addr × Str)} {C CU CB : Addr}
end
/-- the global x is the class at C, its __init__ keeps sp -/
def HasMk (P : Program) (w : PySem.World) (K : PySem.W.Frag) (mg : Str → Option Value) (base : Heap) (T : List (Addr × Str)) (CX : CXT) (x : Str) (C : Addr) (k : Nat) (ps : List Str) (sp : SpD) : Prop :=
  ∃ f fd, FnOk P w K mg base CX k f fd ps (spOf K T sp) ∧ mg x = some (.ref C) ∧ Mk K C f ∧ Binds K fd ps []
section
variable {X : Cx} {T : List (Addr × Str)} {W : WX} {χ : XD} {δ : Dn} {w : Wp} {pos : Pos}
theorem pd_hasmk {CX : CXT} {k : Nat} {C : Addr} {ps : List Str} {sp : SpD} {x : Str} {p : Pos} {e : Expr} {es : List Expr} {κ : D → Wp → Prop} (G : HasMk X.prog X.w X.K X.mg X.base T CX x C k ps sp) (hr : Room (k + 1) X.A) (hx : ∀ σ, PassesAt CX X σ (WE W σ))
    (h : PAD X T W χ (e :: es) δ w fun ds w1 => ∀ a dx, w1 a = none → sp (R a :: ds) (wu w1 a (.ins C dx [] [])) (fun d w2 => d = N ∧ ∃ ns es, w2 a = some (.ins C dx ns es) ∧ κ (.obj C ns es) (wd w2 a)) (fun C ns fs w2 => χ C ns fs (wd w2 a)))
    (hg : Gl X x := by rfl) (hdb : (x == ("__debug__" : Str)) = false := by decide) (he : starEach (e :: es) X.env = (false, eval e X.env) :: starEach es X.env := by rfl) (hpl : (backTo pos (starEach es X.env)).any (·.1) = false := by rfl) :
    PD X T W χ (.Call (.Name x p) (e :: es) [] pos) δ w κ := by
  obtain ⟨f, fd, h1, h2, h3, h4⟩ := G
  exact pd_makeX h3 h1 hr h2 h4 hx h hg hdb he hpl
end
theorem low_len (ms : List Int) : (lowN ms).length = ms.length := List.length_map _
theorem le_line {n : Nat} (h : n ≤ 1000) : n ≤ sizeLine := Nat.le_of_lt (small1000 h)
theorem rep_flat (n : Nat) (x : Int) : (List.replicate n [I x]).flatten = (List.replicate n x).map I := by
  induction n with
  | zero => rfl
  | succ n ih =>
    rw [List.replicate_succ, List.replicate_succ, List.flatten_cons, ih]
    rfl
theorem ups_ints (n : Nat) : ups n = ((List.range n).map fun (k : Nat) => (k : Int)).map I := by
  unfold ups
  rw [List.map_map]
  rfl
theorem BagAt.own {w : Wp} {a r c : Addr} {b : Bag} {h : HD} (k : BagAt w a r b) (n : w c = none) : BagAt (wu w c h) a r b := by
  have n1 : a ≠ c := fun z => by rw [← z, k.at_] at n; cases n
  have n2 : r ≠ c := fun z => by rw [← z, k.row] at n; cases n
  exact ⟨by rw [wu_ne n1]; exact k.at_, by rw [wu_ne n2]; exact k.row, k.ne⟩
theorem bag_comm {w : Wp} {a r c : Addr} {b b' : Bag} {h : HD} (k : BagAt w a r b) (n : w c = none) : bagPut (wu w c h) a r b' = wu (bagPut w a r b') c h := by
  have n1 : a ≠ c := fun z => by rw [← z, k.at_] at n; cases n
  have n2 : r ≠ c := fun z => by rw [← z, k.row] at n; cases n
  unfold bagPut
  rw [wu_comm (Ne.symm n1), wu_comm (Ne.symm n2)]
theorem low0 {ms : List Int} (h : 1 ≤ ms.length) : (lowN ms)[0]? = some 0 := by
  cases ms with
  | nil => simp at h
  | cons x xs =>
    show some ((x :: xs).idxOf x) = some 0
    rw [List.idxOf_cons_self]
theorem sm_ints {n : Nat} {ns : List Int} (h : ns.length ≤ 1000) : Sm (n + 1) (.lst (ns.map I)) (.lst (ns.map I)) := Sm.map (le_line h) fun x _ => .int x
theorem sm_nats {n : Nat} {l : List Nat} (h : l.length ≤ 1000) : Sm (n + 1) (nats l) (nats l) := Sm.map (le_line h) fun x _ => .int x
theorem int_eq_dec {a b : Nat} : decide (V.int (a : Int) = V.int (b : Int)) = decide (a = b) := by
  refine decide_eq_decide.mpr ⟨fun z => ?_, fun z => ?_⟩
  · have z2 := V.int.inj z
    omega
  · rw [z]
theorem some_eq_dec {a b : Nat} : decide (some a = some b) = decide (a = b) := decide_eq_decide.mpr ⟨fun z => Option.some.inj z, fun z => by rw [z]⟩
end Tw

set_option Elab.async false
set_option linter.all false
set_option maxRecDepth 100000
set_option maxHeartbeats 2000000
namespace Tw
open PySem PySem.Spec PyProof.Rows L2 LamX DL
abbrev sPlaces : Stmt := top 12
def firstAt : List Int → Nat → Int → Option V
  | [], _, _ => none
  | x :: xs, s, m => if m = x then some (.int (s : Nat)) else firstAt xs (s + 1) m
theorem firstAt_mem : ∀ {ms : List Int} {s : Nat} {m : Int}, m ∈ ms → firstAt ms s m = some (.int ((s + ms.idxOf m : Nat) : Int))
  | [], s, m, h => by cases h
  | x :: xs, s, m, h => by
    unfold firstAt
    by_cases e : m = x
    · rw [if_pos e, e, List.idxOf_cons_self]
      rfl
    · have e2 : (x == m) = false := beq_eq_false_iff_ne.mpr fun z => e z.symm
      have e3 : (x :: xs).idxOf m = xs.idxOf m + 1 := by
        rw [List.idxOf_cons, e2]
        rfl
      have e4 : s + 1 + xs.idxOf m = s + (xs.idxOf m + 1) := by omega
      rw [if_neg e, firstAt_mem (List.mem_of_ne_of_mem e h), e3, e4]
theorem firstAt_step {ms : List Int} {p : Nat} {m j : Int} (h : ms[p]? = some m) : firstAt (ms.drop p) p j = if j = m then some (.int (p : Nat)) else firstAt (ms.drop (p + 1)) (p + 1) j := by
  obtain ⟨hp, e⟩ := List.getElem?_eq_some_iff.mp h
  rw [List.drop_eq_getElem_cons hp, e]
  rfl
section
variable {P : Program} {w : PySem.World} {K : PySem.W.Frag} {mg : Str → Option Value} {base : Heap} {T : List (Addr × Str)}
theorem scPlaces : FnScope ["items", "firsts", "place", "item"] ["items"] (defScope sPlaces) := ⟨rfl, rfl, rfl, by decide +kernel, rfl, by decide +kernel, by decide +kernel⟩
theorem ok_places2 {f : Addr} {fd : FuncData} (G : Fun K "first_places" "first_places" sPlaces f fd) (hm : Nm2 mg) (hrv : mg "reversed" = none) : FnOk P w K mg base CX0 3 f fd ["items"] (spOf K T spPlaces) := by
  refine fnD G scPlaces (fun ds w κ χ h => ?_) (fun cdv A outer s H E ds w0 κ χ hr h => ?_)
  · obtain ⟨d, ms, rfl, _⟩ := h
    rfl
  obtain ⟨d, ms, rfl, hl, hz, k⟩ := h
  have nd := scPlaces.nd
  have hu := Nat.lt_of_le_of_lt (Nat.add_le_add_left (show 1 ≤ 64 by decide) _) hr.units
  have ev : ms.map I = (ms.map V.int).map D.val := by
    rw [List.map_map]
    rfl
  refine pssd_cons (psd_set (i := 1) nd rfl ?_)
  refine pd_dc (own := [("place", 2)]) (is := [2]) rfl nd (blkOk_by rfl) (by decide) ?_
  refine it_revR hrv hm.range ?_
  refine pd_callB call_len_seq rfl hm.len PySem.boot_len ?_
  refine pad_cons ?_
  refine pd_var (i := 0) rfl rfl ?_
  refine pad_nil ?_
  refine va_lenK hl ?_
  rw [List.length_map]
  refine ⟨ms.length, rfl, by omega, ?_⟩
  refine ⟨by rw [downs_len]; exact small1000 (by omega), fun i acc w' => (i ≤ ms.length → ∀ m, valV acc (.inl m) = firstAt (ms.drop (ms.length - i)) (ms.length - i) m) ∧ w' = w0, ⟨fun _ m => ?_, rfl⟩, ?_, ?_⟩
  · rw [Nat.sub_zero, List.drop_length]
    rfl
  · rintro i d' acc w' hd ⟨hv, rfl⟩ s H0 C1 cl1 fp1
    obtain ⟨hi, rfl⟩ := downs_at hd
    have hp : ms.length - 1 - i < ms.length := by omega
    have hg : ms[ms.length - 1 - i]? = some (ms[ms.length - 1 - i]) := List.getElem?_eq_getElem hp
    refine pgl_name nd rfl ?_
    intro s H0 C1 cl1 fp1
    refine pd_ix ix_list ?_
    refine pd_var (i := 0) rfl rfl ?_
    refine pd_var (i := 2) rfl rfl ?_
    refine vr_ixK hl (e := I (ms[ms.length - 1 - i])) (by rw [List.getElem?_map, hg]; rfl) ?_
    intro s H0 C1 cl1 fp1
    refine pd_var (i := 2) rfl rfl ?_
    refine ⟨.inl (ms[ms.length - 1 - i]), _, rfl, rfl, fun _ m => ?_, rfl⟩
    have e1 : ms.length - (i + 1) = ms.length - 1 - i := by omega
    have e2 : ms.length - 1 - i + 1 = ms.length - i := by omega
    rw [valV_put, hv (by omega), e1, firstAt_step hg, e2]
    by_cases q : m = ms[ms.length - 1 - i]
    · rw [if_pos q, if_pos (by rw [q])]
    · rw [if_neg q, if_neg (fun z => q (Sum.inl.inj z))]
  rintro acc w' ⟨hv, rfl⟩
  rw [downs_len] at hv
  have hv := hv (Nat.le_refl _)
  rw [Nat.sub_self, List.drop_zero] at hv
  refine pssd_one (psd_ret ?_)
  refine pd_lcK (Kp := fun w2 => Lk w2 d ((ms.map V.int).map D.val)) (own := [("item", 3)]) (is := [3]) rfl nd (blkOk_by rfl) (by decide) ?_
  refine it_lk ?_
  refine pd_var (i := 0) rfl rfl ?_
  refine ⟨rfl, by rw [← ev]; exact hl, ?_⟩
  rw [← ev]
  refine ⟨by rw [List.length_map]; exact small1000 (by omega), fun i acc w2 => acc = ((ms.take i).map fun m => I ((ms.idxOf m : Nat) : Int)) ∧ w2 = w', ⟨rfl, rfl⟩, ?_, ?_, ?_⟩
  · rintro i acc w' ⟨_, rfl⟩
    exact hl
  · rintro i d' acc w' hd ⟨rfl, rfl⟩ s H0 C1 cl1 fp1
    rw [List.getElem?_map] at hd
    cases e : ms[i]? with
    | none =>
      rw [e] at hd
      cases hd
    | some m =>
    rw [e] at hd
    cases hd
    refine pgl_name nd rfl ?_
    intro s H0 C1 cl1 fp1
    refine ptsd_nil ?_
    intro s H0 C1 cl1 fp1
    refine pd_dget hu ?_
    refine pd_var (i := 1) rfl rfl ?_
    refine pd_var (i := 3) rfl rfl ?_
    refine ⟨_, .inl m, _, rfl, rfl, (hv m).trans (firstAt_mem (List.mem_of_getElem? e)), ?_, rfl⟩
    rw [Nat.zero_add, List.take_add_one, e, List.map_append]
    rfl
  · rintro acc w' ⟨rfl, rfl⟩
    rw [List.length_map, List.take_length, nats_low]
    exact k
end
end Tw

set_option linter.all false
/-! Lists of marks: the low form, the common parts, the joined cells. No Python here. -/
namespace Mth
section
variable {α β γ : Type} [BEq α] [LawfulBEq α] [BEq β] [LawfulBEq β]
def lowG (l : List α) : List Nat := l.map fun x => l.idxOf x
/-- the same cells -/
def Pat (l : List α) (m : List β) : Prop := l.length = m.length ∧ ∀ (i j : Nat), i < l.length → j < l.length → (l[i]? = l[j]? ↔ m[i]? = m[j]?)
theorem Pat.refl (l : List α) : Pat l l := ⟨rfl, fun _ _ _ _ => Iff.rfl⟩
theorem Pat.symm {l : List α} {m : List β} (p : Pat l m) : Pat m l := ⟨p.1.symm, fun i j hi hj => (p.2 i j (by rw [p.1]; exact hi) (by rw [p.1]; exact hj)).symm⟩
theorem Pat.trans {l : List α} {m : List β} {k : List γ} (p : Pat l m) (q : Pat m k) : Pat l k := ⟨p.1.trans q.1, fun i j hi hj => (p.2 i j hi hj).trans (q.2 i j (by rw [← p.1]; exact hi) (by rw [← p.1]; exact hj))⟩
theorem idx_le : ∀ {l : List α} {i : Nat} {x : α}, l[i]? = some x → l.idxOf x ≤ i
  | [], i, x, h => by simp at h
  | a :: l, 0, x, h => by
    have e : a = x := by simpa using h
    rw [e, List.idxOf_cons_self]
    exact Nat.le_refl _
  | a :: l, i + 1, x, h => by
    rw [List.idxOf_cons]
    have h' : l[i]? = some x := by simpa using h
    have := idx_le h'
    cases a == x
    · exact Nat.succ_le_succ this
    · exact Nat.zero_le _
theorem idx_at {l : List α} {x : α} (h : x ∈ l) : l[l.idxOf x]? = some x := by
  have hi := List.idxOf_lt_length_of_mem h
  rw [List.getElem?_eq_getElem hi, List.getElem_idxOf hi]
theorem low_len (l : List α) : (lowG l).length = l.length := List.length_map _
theorem low_at {l : List α} {i : Nat} {x : α} (h : l[i]? = some x) : (lowG l)[i]? = some (l.idxOf x) := by
  unfold lowG
  rw [List.getElem?_map, h]
  rfl
theorem at_lt {l : List γ} {i : Nat} (h : i < l.length) : ∃ x, l[i]? = some x := ⟨l[i], List.getElem?_eq_getElem h⟩
theorem low_pat (l : List α) : Pat (lowG l) l := by
  refine ⟨low_len l, fun i j hi hj => ?_⟩
  rw [low_len] at hi hj
  obtain ⟨x, hx⟩ := at_lt hi
  obtain ⟨y, hy⟩ := at_lt hj
  rw [low_at hx, low_at hy, hx, hy]
  refine ⟨fun e => ?_, fun e => by rw [Option.some.inj e]⟩
  have e' := Option.some.inj e
  have h1 := idx_at (List.mem_of_getElem? hx)
  rw [e', idx_at (List.mem_of_getElem? hy)] at h1
  exact h1.symm
theorem low_eq {l : List α} {m : List β} (p : Pat l m) : lowG l = lowG m := by
  refine List.ext_getElem? fun i => ?_
  by_cases hi : i < l.length
  · have hm : i < m.length := by rw [← p.1]; exact hi
    obtain ⟨x, hx⟩ := at_lt hi
    obtain ⟨y, hy⟩ := at_lt hm
    rw [low_at hx, low_at hy]
    congr 1
    have hxl := List.idxOf_lt_length_of_mem (List.mem_of_getElem? hx)
    have hym := List.idxOf_lt_length_of_mem (List.mem_of_getElem? hy)
    refine Nat.le_antisymm ?_ ?_
    · refine idx_le ?_
      rw [← hx]
      exact (p.2 _ _ (by rw [p.1]; exact hym) hi).mpr ((idx_at (List.mem_of_getElem? hy)).trans hy.symm)
    · refine idx_le ?_
      rw [← hy]
      exact (p.2 _ _ hxl hi).mp ((idx_at (List.mem_of_getElem? hx)).trans hx.symm)
  · rw [List.getElem?_eq_none (by rw [low_len]; omega), List.getElem?_eq_none (by rw [low_len, ← p.1]; omega)]
theorem low_low (l : List α) : lowG (lowG l) = lowG l := low_eq (low_pat l)
/-- a list of marks in low form -/
def IsLow (lo : List Nat) : Prop := ∀ (i x : Nat), lo[i]? = some x → x ≤ i ∧ lo[x]? = some x
theorem low_isLow (l : List α) : IsLow (lowG l) := by
  intro i x h
  have hi : i < l.length := by
    have := (List.getElem?_eq_some_iff.mp h).1
    rwa [low_len] at this
  obtain ⟨y, hy⟩ := at_lt hi
  rw [low_at hy] at h
  cases h
  exact ⟨idx_le hy, low_at (idx_at (List.mem_of_getElem? hy))⟩
theorem isLow_low {lo : List Nat} (h : IsLow lo) : lowG lo = lo := by
  refine List.ext_getElem? fun i => ?_
  by_cases hi : i < lo.length
  · obtain ⟨x, hx⟩ := at_lt hi
    rw [low_at hx, hx]
    congr 1
    obtain ⟨h1, h2⟩ := h i x hx
    have h3 := idx_le h2
    obtain ⟨h4, _⟩ := h _ _ (idx_at (List.mem_of_getElem? hx))
    omega
  · rw [List.getElem?_eq_none (by rw [low_len]; omega), List.getElem?_eq_none (by omega)]
theorem pat_map {f : α → γ} {l : List α} (inj : ∀ a ∈ l, ∀ b ∈ l, f a = f b → a = b) : Pat (l.map f) l := by
  refine ⟨List.length_map _, fun i j hi hj => ?_⟩
  rw [List.length_map] at hi hj
  obtain ⟨x, hx⟩ := at_lt hi
  obtain ⟨y, hy⟩ := at_lt hj
  rw [List.getElem?_map, List.getElem?_map, hx, hy]
  refine ⟨fun e => ?_, fun e => by rw [Option.some.inj e]⟩
  rw [inj x (List.mem_of_getElem? hx) y (List.mem_of_getElem? hy) (Option.some.inj e)]
theorem pat_zip {l l' : List Nat} {δ ε : Type} {a : List δ} {b : List ε} {m : List β} {k : List γ} (hl : a.length = m.length) (p : Pat a b) (q : Pat m k) : Pat (a.zip m) (b.zip k) := by
  have h1 := p.1
  have h2 := q.1
  refine ⟨by rw [List.length_zip, List.length_zip]; omega, fun i j hi hj => ?_⟩
  rw [List.length_zip] at hi hj
  obtain ⟨x, hx⟩ := at_lt (l := a) (i := i) (by omega)
  obtain ⟨y, hy⟩ := at_lt (l := a) (i := j) (by omega)
  obtain ⟨u, hu⟩ := at_lt (l := m) (i := i) (by omega)
  obtain ⟨v, hv⟩ := at_lt (l := m) (i := j) (by omega)
  obtain ⟨x', hx'⟩ := at_lt (l := b) (i := i) (by omega)
  obtain ⟨y', hy'⟩ := at_lt (l := b) (i := j) (by omega)
  obtain ⟨u', hu'⟩ := at_lt (l := k) (i := i) (by omega)
  obtain ⟨v', hv'⟩ := at_lt (l := k) (i := j) (by omega)
  have z1 : (a.zip m)[i]? = some (x, u) := List.getElem?_zip_eq_some.mpr ⟨hx, hu⟩
  have z2 : (a.zip m)[j]? = some (y, v) := List.getElem?_zip_eq_some.mpr ⟨hy, hv⟩
  have z3 : (b.zip k)[i]? = some (x', u') := List.getElem?_zip_eq_some.mpr ⟨hx', hu'⟩
  have z4 : (b.zip k)[j]? = some (y', v') := List.getElem?_zip_eq_some.mpr ⟨hy', hv'⟩
  have p2 := p.2 i j (by omega) (by omega)
  have q2 := q.2 i j (by omega) (by omega)
  rw [hx, hy, hx', hy'] at p2
  rw [hu, hv, hu', hv'] at q2
  rw [z1, z2, z3, z4]
  simp only [Option.some.injEq, Prod.mk.injEq] at p2 q2 ⊢
  rw [p2, q2]
end
/-! ### joined cells -/
inductive Cn (E : Nat → Nat → Prop) : Nat → Nat → Prop
  | refl (i : Nat) : Cn E i i
  | step {i j k : Nat} (h : Cn E i j) (e : E j k) : Cn E i k
theorem Cn.trans {E : Nat → Nat → Prop} {i j k : Nat} (h : Cn E i j) (g : Cn E j k) : Cn E i k := by
  induction g with
  | refl => exact h
  | step _ e ih => exact .step ih e
theorem Cn.one {E : Nat → Nat → Prop} {i j : Nat} (e : E i j) : Cn E i j := .step (.refl i) e
theorem Cn.symm {E : Nat → Nat → Prop} (s : ∀ i j, E i j → E j i) {i j : Nat} (h : Cn E i j) : Cn E j i := by
  induction h with
  | refl => exact .refl _
  | step _ e ih => exact (Cn.one (s _ _ e)).trans ih
def E2 {α β : Type} (l : List α) (m : List β) (i j : Nat) : Prop := i < l.length ∧ j < l.length ∧ (l[i]? = l[j]? ∨ m[i]? = m[j]?)
theorem E2.symm {α β : Type} {l : List α} {m : List β} (i j : Nat) (h : E2 l m i j) : E2 l m j i := ⟨h.2.1, h.1, h.2.2.imp Eq.symm Eq.symm⟩
theorem E2.pat {α β γ δ : Type} {l : List α} {m : List β} {l' : List γ} {m' : List δ} (hl : l.length = m.length) (p : Pat l l') (q : Pat m m') : E2 l m = E2 l' m' := by
  funext i j
  refine propext ⟨fun h => ?_, fun h => ?_⟩
  · refine ⟨by rw [← p.1]; exact h.1, by rw [← p.1]; exact h.2.1, h.2.2.imp (p.2 i j h.1 h.2.1).mp (q.2 i j (by rw [← hl]; exact h.1) (by rw [← hl]; exact h.2.1)).mp⟩
  · have h1 : i < l.length := by rw [p.1]; exact h.1
    have h2 : j < l.length := by rw [p.1]; exact h.2.1
    exact ⟨h1, h2, h.2.2.imp (p.2 i j h1 h2).mpr (q.2 i j (by rw [← hl]; exact h1) (by rw [← hl]; exact h2)).mpr⟩
structure Good (E : Nat → Nat → Prop) (n : Nat) (m : List Nat) : Prop where
  len : m.length = n
  low : ∀ (i x : Nat), m[i]? = some x → x ≤ i ∧ Cn E i x
structure IsJoin (E : Nat → Nat → Prop) (n : Nat) (m : List Nat) : Prop extends Good E n m where
  const : ∀ (i j : Nat), E i j → m[i]? = m[j]?
theorem IsJoin.along {E : Nat → Nat → Prop} {n : Nat} {m : List Nat} (J : IsJoin E n m) {i j : Nat} (h : Cn E i j) : m[i]? = m[j]? := by
  induction h with
  | refl => rfl
  | step _ e ih => exact ih.trans (J.const _ _ e)
theorem join_le {E : Nat → Nat → Prop} {n : Nat} {m m' : List Nat} (J : IsJoin E n m) (J' : IsJoin E n m') {i x x' : Nat} (h : m[i]? = some x) (h' : m'[i]? = some x') : x' ≤ x := by
  have c := (J.low i x h).2
  have e := J'.along c
  rw [h'] at e
  exact (J'.low x x' e.symm).1
theorem IsJoin.uniq {E : Nat → Nat → Prop} {n : Nat} {m m' : List Nat} (J : IsJoin E n m) (J' : IsJoin E n m') : m = m' := by
  refine List.ext_getElem? fun i => ?_
  by_cases hi : i < n
  · obtain ⟨x, hx⟩ := at_lt (l := m) (i := i) (by rw [J.len]; exact hi)
    obtain ⟨x', hx'⟩ := at_lt (l := m') (i := i) (by rw [J'.len]; exact hi)
    rw [hx, hx']
    congr 1
    exact Nat.le_antisymm (join_le J' J hx' hx) (join_le J J' hx hx')
  · rw [List.getElem?_eq_none (by rw [J.len]; omega), List.getElem?_eq_none (by rw [J'.len]; omega)]
theorem IsJoin.isLow {E : Nat → Nat → Prop} {n : Nat} {m : List Nat} (J : IsJoin E n m) : IsLow m := by
  intro i x h
  obtain ⟨h1, h2⟩ := J.low i x h
  exact ⟨h1, (J.along h2).symm.trans h⟩
/-! ### by merging one pair after the other -/
def mergeN (m : List Nat) (i j : Nat) : List Nat := m.map fun x => if x = max (m.getD i 0) (m.getD j 0) then min (m.getD i 0) (m.getD j 0) else x
def orFrom (lo2 : List Nat) : Nat → List Nat → List Nat
  | 0, m => m
  | k + 1, m => mergeN (orFrom lo2 k m) k (lo2.getD k 0)
def orN (lo1 lo2 : List Nat) : List Nat := orFrom lo2 lo2.length lo1
theorem merge_at {m : List Nat} {i j k x : Nat} (h : m[k]? = some x) : (mergeN m i j)[k]? = some (if x = max (m.getD i 0) (m.getD j 0) then min (m.getD i 0) (m.getD j 0) else x) := by
  unfold mergeN
  rw [List.getElem?_map, h]
  rfl
theorem merge_len (m : List Nat) (i j : Nat) : (mergeN m i j).length = m.length := List.length_map _
theorem getD_of {m : List Nat} {i a : Nat} (h : m[i]? = some a) : m.getD i 0 = a := by
  rw [List.getD_eq_getElem?_getD, h]
  rfl
theorem merge_same {m : List Nat} {i j k l : Nat} (h : m[k]? = m[l]?) : (mergeN m i j)[k]? = (mergeN m i j)[l]? := by
  unfold mergeN
  rw [List.getElem?_map, List.getElem?_map, h]
theorem merge_pair {m : List Nat} {i j a b : Nat} (h1 : m[i]? = some a) (h2 : m[j]? = some b) : (mergeN m i j)[i]? = (mergeN m i j)[j]? := by
  rw [merge_at h1, merge_at h2, getD_of h1, getD_of h2]
  congr 1
  by_cases e1 : a = max a b
  · rw [if_pos e1]
    by_cases e2 : b = max a b
    · rw [if_pos e2]
    · rw [if_neg e2]
      omega
  · rw [if_neg e1]
    by_cases e2 : b = max a b
    · rw [if_pos e2]
      omega
    · omega
theorem merge_good {E : Nat → Nat → Prop} (sy : ∀ i j, E i j → E j i) {n i j a b : Nat} {m : List Nat} (G : Good E n m) (h1 : m[i]? = some a) (h2 : m[j]? = some b) (e : Cn E i j) : Good E n (mergeN m i j) := by
  refine ⟨(merge_len m i j).trans G.len, fun k x h => ?_⟩
  have hk : k < m.length := by
    have := (List.getElem?_eq_some_iff.mp h).1
    rwa [merge_len] at this
  obtain ⟨y, hy⟩ := at_lt hk
  rw [merge_at hy, getD_of h1, getD_of h2] at h
  have h := Option.some.inj h
  obtain ⟨g1, g2⟩ := G.low k y hy
  by_cases q : y = max a b
  · rw [if_pos q] at h
    subst h
    refine ⟨by omega, ?_⟩
    have ca := (G.low i a h1).2
    have cb := (G.low j b h2).2
    have cab : Cn E a b := ((ca.symm sy).trans e).trans cb
    rcases Nat.le_total a b with hab | hab
    · have e1 : max a b = b := by omega
      have e2 : min a b = a := by omega
      rw [e2]
      rw [q, e1] at g2
      exact g2.trans (cab.symm sy)
    · have e1 : max a b = a := by omega
      have e2 : min a b = b := by omega
      rw [e2]
      rw [q, e1] at g2
      exact g2.trans cab
  · rw [if_neg q] at h
    subst h
    exact ⟨g1, g2⟩
theorem or_join {lo1 lo2 : List Nat} (l1 : IsLow lo1) (l2 : IsLow lo2) (hl : lo1.length = lo2.length) : IsJoin (E2 lo1 lo2) lo1.length (orN lo1 lo2) := by
  have lt_of : ∀ {l : List Nat} {i x : Nat}, l[i]? = some x → i < l.length := fun h => (List.getElem?_eq_some_iff.mp h).1
  have key : ∀ k, k ≤ lo2.length → Good (E2 lo1 lo2) lo1.length (orFrom lo2 k lo1) ∧ (∀ (i j : Nat), lo1[i]? = lo1[j]? → (orFrom lo2 k lo1)[i]? = (orFrom lo2 k lo1)[j]?) ∧ ∀ (i y : Nat), i < k → lo2[i]? = some y → (orFrom lo2 k lo1)[i]? = (orFrom lo2 k lo1)[y]? := by
    intro k
    induction k with
    | zero =>
      intro _
      refine ⟨⟨rfl, fun i x h => ?_⟩, fun i j h => h, fun i y h => absurd h (Nat.not_lt_zero _)⟩
      obtain ⟨h1, h2⟩ := l1 i x h
      exact ⟨h1, Cn.one ⟨lt_of h, lt_of h2, .inl (h.trans h2.symm)⟩⟩
    | succ k ih =>
      intro hk
      obtain ⟨G, c1, c2⟩ := ih (by omega)
      obtain ⟨y, hy⟩ := at_lt (l := lo2) (i := k) (by omega)
      obtain ⟨h1, h2⟩ := l2 k y hy
      obtain ⟨a, ha⟩ := at_lt (l := orFrom lo2 k lo1) (i := k) (by rw [G.len]; omega)
      obtain ⟨b, hb⟩ := at_lt (l := orFrom lo2 k lo1) (i := y) (by rw [G.len]; omega)
      have eE : Cn (E2 lo1 lo2) k y := Cn.one ⟨by omega, by omega, .inr (hy.trans h2.symm)⟩
      have em : orFrom lo2 (k + 1) lo1 = mergeN (orFrom lo2 k lo1) k y := by
        show mergeN (orFrom lo2 k lo1) k (lo2.getD k 0) = _
        rw [getD_of hy]
      rw [em]
      refine ⟨merge_good E2.symm G ha hb eE, fun i j h => merge_same (c1 i j h), fun i z hi hz => ?_⟩
      by_cases q : i = k
      · subst q
        rw [hy] at hz
        cases hz
        exact merge_pair ha hb
      · exact merge_same (c2 i z (by omega) hz)
  obtain ⟨G, c1, c2⟩ := key lo2.length (Nat.le_refl _)
  refine ⟨G, fun i j h => ?_⟩
  obtain ⟨h1, h2, h3⟩ := h
  rcases h3 with h3 | h3
  · exact c1 i j h3
  · obtain ⟨y, hy⟩ := at_lt (l := lo2) (i := i) (by omega)
    have hy2 := h3.symm.trans hy
    exact (c2 i y (by omega) hy).trans (c2 j y (by omega) hy2).symm
/-! ### by taking the least one, round after round -/
structure PassR {α : Type} (ks : List α) (low low' : List Nat) : Prop where
  len : low'.length = ks.length
  some_ : ∀ (i x : Nat), low'[i]? = some x → ∃ j : Nat, j < ks.length ∧ ks[j]? = ks[i]? ∧ low[j]? = some x
  le : ∀ (i x : Nat), low'[i]? = some x → ∀ (j y : Nat), ks[j]? = ks[i]? → low[j]? = some y → x ≤ y
theorem pass_good {α : Type} {E : Nat → Nat → Prop} {ks : List α} {n : Nat} {low low' : List Nat} (hn : ks.length = n) (sub : ∀ (i j : Nat), i < n → j < n → ks[i]? = ks[j]? → E i j) (G : Good E n low) (p : PassR ks low low') : Good E n low' := by
  refine ⟨p.len.trans hn, fun i x h => ?_⟩
  have hi : i < n := by
    have := (List.getElem?_eq_some_iff.mp h).1
    rwa [p.len, hn] at this
  obtain ⟨y, hy⟩ := at_lt (l := low) (i := i) (by rw [G.len]; exact hi)
  obtain ⟨j, hj, e, hx⟩ := p.some_ i x h
  exact ⟨Nat.le_trans (p.le i x h i y rfl hy) (G.low i y hy).1, (Cn.one (sub i j hi (by omega) e.symm)).trans (G.low j x hx).2⟩
def cnt (c : Nat) (l : List Nat) : Nat := (l.filter fun x => decide (x ≤ c)).length
theorem cnt_le (c : Nat) (l : List Nat) : cnt c l ≤ l.length := List.length_filter_le _ _
theorem cnt_mono {c : Nat} : ∀ {l l' : List Nat}, l.length = l'.length → (∀ (i : Nat) (x y : Nat), l[i]? = some x → l'[i]? = some y → y ≤ x) → cnt c l ≤ cnt c l'
  | [], [], _, _ => Nat.le_refl _
  | [], _ :: _, h, _ => by simp at h
  | _ :: _, [], h, _ => by simp at h
  | a :: l, b :: l', h, q => by
    have ih := cnt_mono (c := c) (l := l) (l' := l') (by simpa using h) fun i x y h1 h2 => q (i + 1) x y (by simpa using h1) (by simpa using h2)
    have hab := q 0 a b rfl rfl
    unfold cnt at ih ⊢
    rw [List.filter_cons, List.filter_cons]
    by_cases h1 : a ≤ c
    · rw [if_pos (decide_eq_true h1), if_pos (decide_eq_true (Nat.le_trans hab h1))]
      exact Nat.succ_le_succ ih
    · rw [if_neg (by simpa using h1)]
      by_cases h2 : b ≤ c
      · rw [if_pos (decide_eq_true h2)]
        exact Nat.le_succ_of_le ih
      · rw [if_neg (by simpa using h2)]
        exact ih
theorem cnt_lt {c : Nat} : ∀ {l l' : List Nat} {k u v : Nat}, l.length = l'.length → (∀ (i : Nat) (x y : Nat), l[i]? = some x → l'[i]? = some y → y ≤ x) → l[k]? = some u → l'[k]? = some v → ¬ u ≤ c → v ≤ c → cnt c l + 1 ≤ cnt c l'
  | [], _, k, u, v, _, _, h, _, _, _ => by simp at h
  | _ :: _, [], k, u, v, h, _, _, _, _, _ => by simp at h
  | a :: l, b :: l', 0, u, v, h, q, h1, h2, h3, h4 => by
    have e1 : a = u := by simpa using h1
    have e2 : b = v := by simpa using h2
    subst e1 e2
    have ih := cnt_mono (c := c) (l := l) (l' := l') (by simpa using h) fun i x y h1 h2 => q (i + 1) x y (by simpa using h1) (by simpa using h2)
    unfold cnt at ih ⊢
    rw [List.filter_cons, List.filter_cons, if_neg (by simpa using h3), if_pos (decide_eq_true h4)]
    exact Nat.succ_le_succ ih
  | a :: l, b :: l', k + 1, u, v, h, q, h1, h2, h3, h4 => by
    have ih := cnt_lt (c := c) (l := l) (l' := l') (k := k) (u := u) (v := v) (by simpa using h) (fun i x y h1 h2 => q (i + 1) x y (by simpa using h1) (by simpa using h2)) (by simpa using h1) (by simpa using h2) h3 h4
    have hab := q 0 a b rfl rfl
    unfold cnt at ih ⊢
    rw [List.filter_cons, List.filter_cons]
    by_cases h1 : a ≤ c
    · rw [if_pos (decide_eq_true h1), if_pos (decide_eq_true (Nat.le_trans hab h1)), List.length_cons, List.length_cons]
      omega
    · rw [if_neg (by simpa using h1)]
      by_cases h2 : b ≤ c
      · rw [if_pos (decide_eq_true h2), List.length_cons]
        omega
      · rw [if_neg (by simpa using h2)]
        exact ih
/-- after t rounds -/
inductive Runs {α β : Type} (l : List α) (m : List β) : Nat → List Nat → Prop
  | zero : Runs l m 0 (List.range l.length)
  | succ {t : Nat} {a b c : List Nat} (r : Runs l m t a) (p : PassR l a b) (q : PassR m b c) : Runs l m (t + 1) c
section
variable {α β : Type} {l : List α} {m : List β}
theorem runs_good (hl : l.length = m.length) {t : Nat} {a : List Nat} (r : Runs l m t a) : Good (E2 l m) l.length a := by
  induction r with
  | zero =>
    refine ⟨List.length_range, fun i x h => ?_⟩
    have hi : i < l.length := by
      have := (List.getElem?_eq_some_iff.mp h).1
      rwa [List.length_range] at this
    rw [List.getElem?_range hi] at h
    cases h
    exact ⟨Nat.le_refl _, .refl _⟩
  | succ r p q ih =>
    refine pass_good hl.symm (fun i j hi hj e => ⟨hi, hj, .inr e⟩) ?_ q
    exact pass_good rfl (fun i j hi hj e => ⟨hi, hj, .inl e⟩) ih p
theorem runs_all (hl : l.length = m.length) {c : Nat} (hc : c < l.length) {t : Nat} {a : List Nat} (r : Runs l m t a) : (∀ (i x : Nat), Cn (E2 l m) c i → a[i]? = some x → x ≤ c) ∨ t + 1 ≤ cnt c a := by
  induction r with
  | zero =>
    refine .inr ?_
    have h : ∃ x ∈ List.range l.length, decide (x ≤ c) = true := ⟨c, List.mem_range.mpr hc, by simp⟩
    obtain ⟨x, h1, h2⟩ := h
    exact List.length_pos_of_mem (List.mem_filter.mpr ⟨h1, h2⟩)
  | @succ t a b d r p q ih =>
    have G := runs_good hl r
    have Gb : Good (E2 l m) l.length b := pass_good rfl (fun i j hi hj e => ⟨hi, hj, .inl e⟩) G p
    have Gd : Good (E2 l m) l.length d := pass_good hl.symm (fun i j hi hj e => ⟨hi, hj, .inr e⟩) Gb q
    have mid : ∀ {i x : Nat}, d[i]? = some x → ∃ y z, b[i]? = some y ∧ a[i]? = some z ∧ x ≤ y ∧ y ≤ z := fun {i x} h => by
      have hi : i < l.length := by
        have := (List.getElem?_eq_some_iff.mp h).1
        rwa [Gd.len] at this
      obtain ⟨y, hy⟩ := at_lt (l := b) (i := i) (by rw [Gb.len]; exact hi)
      obtain ⟨z, hz⟩ := at_lt (l := a) (i := i) (by rw [G.len]; exact hi)
      exact ⟨y, z, hy, hz, q.le i x h i y rfl hy, p.le i y hy i z rfl hz⟩
    have down : ∀ (i : Nat) (x y : Nat), a[i]? = some x → d[i]? = some y → y ≤ x := fun i x y h1 h2 => by
      obtain ⟨u, v, _, e, h3, h4⟩ := mid h2
      rw [h1] at e
      cases e
      omega
    have reach : ∀ {i j x y : Nat}, E2 l m i j → a[i]? = some x → x ≤ c → d[j]? = some y → y ≤ c := fun {i j x y} e h1 h2 h3 => by
      obtain ⟨u, v, hu, hv, h4, h5⟩ := mid h3
      rcases e.2.2 with e1 | e1
      · have := p.le j u hu i x e1 h1
        omega
      · obtain ⟨z, hz⟩ := at_lt (l := b) (i := i) (by rw [Gb.len]; exact e.1)
        have h6 := q.le j y h3 i z e1 hz
        have h7 := p.le i z hz i x rfl h1
        omega
    rcases ih with ih | ih
    · refine .inl fun i x h1 h2 => ?_
      obtain ⟨u, v, _, hv, h4, h5⟩ := mid h2
      have := ih i v h1 hv
      omega
    · by_cases cl : ∀ (i j x y : Nat), E2 l m i j → a[i]? = some x → a[j]? = some y → x ≤ c → y ≤ c
      · refine .inl fun i x h1 h2 => ?_
        obtain ⟨u, v, _, hv, h4, h5⟩ := mid h2
        have all : ∀ {i}, Cn (E2 l m) c i → ∀ v, a[i]? = some v → v ≤ c := fun {i} h => by
          induction h with
          | refl => exact fun v hv => (G.low c v hv).1
          | @step j k _ e ih2 =>
            intro v hv
            obtain ⟨z, hz⟩ := at_lt (l := a) (i := j) (by rw [G.len]; exact e.1)
            exact cl j k z v e hz hv (ih2 z hz)
        have := all h1 v hv
        omega
      · refine .inr ?_
        have ex : ∃ (i j x y : Nat), E2 l m i j ∧ a[i]? = some x ∧ a[j]? = some y ∧ x ≤ c ∧ ¬ y ≤ c := by
          refine Classical.byContradiction fun no => cl fun i j x y h1 h2 h3 h4 => ?_
          refine Classical.byContradiction fun h5 => no ⟨i, j, x, y, h1, h2, h3, h4, h5⟩
        obtain ⟨i, j, x, y, h1, h2, h3, h4, h5⟩ := ex
        obtain ⟨v, hv⟩ := at_lt (l := d) (i := j) (by rw [Gd.len]; exact h1.2.1)
        have := cnt_lt (c := c) (G.len.trans Gd.len.symm) down h3 hv h5 (reach h1 h2 h4 hv)
        omega
theorem runs_join (hl : l.length = m.length) {a : List Nat} (r : Runs l m l.length a) : IsJoin (E2 l m) l.length a := by
  have G := runs_good hl r
  have half : ∀ {i j x y : Nat}, E2 l m i j → a[i]? = some x → a[j]? = some y → y ≤ x := fun {i j x y} e h1 h2 => by
    have hx : x < l.length := by
      have := (G.low i x h1).1
      have := e.1
      omega
    have c := ((G.low i x h1).2.symm E2.symm).trans (Cn.one e)
    rcases runs_all hl hx r with h | h
    · exact h j y c h2
    · have h3 := cnt_le x a
      rw [G.len] at h3
      omega
  refine ⟨G, fun i j e => ?_⟩
  obtain ⟨x, hx⟩ := at_lt (l := a) (i := i) (by rw [G.len]; exact e.1)
  obtain ⟨y, hy⟩ := at_lt (l := a) (i := j) (by rw [G.len]; exact e.2.1)
  rw [hx, hy]
  congr 1
  exact Nat.le_antisymm (half (E2.symm _ _ e) hy hx) (half e hx hy)
end
end Mth

set_option Elab.async false
set_option linter.all false
set_option maxRecDepth 100000
set_option maxHeartbeats 2000000
namespace DL
open PySem PySem.Spec PyProof.Rows L2 LamX
def tupK (ks : List Key) : D := .tup (ks.map fun k => .val (kV k))
end DL
namespace Tw
open PySem PySem.Spec PyProof.Rows L2 LamX DL Mth
def lowK (kss : List (List Key)) : List Nat := @lowG (List Key) instBEqOfDecidableEq kss
def ixK (kss : List (List Key)) (m : List Key) : Nat := @List.idxOf (List Key) instBEqOfDecidableEq m kss
def pairK (lo : List Nat) (ks : List Key) : List (List Key) := (lo.zip ks).map fun p => [.inl (p.1 : Int), p.2]
def keysN (lo : List Nat) : List Key := lo.map fun (x : Nat) => .inl (x : Int)
theorem pair_low (lo lo2 : List Nat) : lowK (pairK lo (keysN lo2)) = lowG (lo.zip lo2) := by
  refine @low_eq (List Key) (Nat × Nat) instBEqOfDecidableEq _ _ _ _ _ ?_
  have e : pairK lo (keysN lo2) = (lo.zip lo2).map fun p => [Sum.inl (p.1 : Int), Sum.inl (p.2 : Int)] := by
    unfold pairK keysN
    rw [List.zip_map_right, List.map_map]
    rfl
  rw [e]
  refine pat_map fun a _ b _ h => ?_
  simp only [List.cons.injEq, Sum.inl.injEq, and_true] at h
  exact Prod.ext (by exact_mod_cast h.1) (by exact_mod_cast h.2)
abbrev sSame2 : Stmt := top 14
abbrev sMerged : Stmt := top 16
abbrev sOr : Stmt := sM 13
def spSame2 (C CM : Addr) : SpD := fun ds w κ χ => ∃ lo lo2, ds = [spl C lo, spl C lo2] ∧ lo.length ≤ 12 ∧ lo2.length ≤ 12 ∧ (lo.length = lo2.length → κ N w) ∧ (lo.length ≠ lo2.length → χ CM ["second", "first"] [I (lo2.length : Int), I (lo.length : Int)] w)
def spMerged : SpD := fun ds w κ χ => ∃ (m : List Nat) (i j : Nat), ds = [nats m, I (i : Int), I (j : Int)] ∧ m.length ≤ 12 ∧ i < m.length ∧ j < m.length ∧ κ (nats (mergeN m i j)) w
def spOr (C CM : Addr) : SpD := fun ds w κ χ => ∃ lo lo2, ds = [spl C lo, spl C lo2] ∧ IsLow lo ∧ IsLow lo2 ∧ 1 ≤ lo.length ∧ lo.length ≤ 12 ∧ lo2.length ≤ 12 ∧
  (lo.length = lo2.length → κ (spl C (orN lo lo2)) w) ∧ (lo.length ≠ lo2.length → χ CM ["second", "first"] [I (lo2.length : Int), I (lo.length : Int)] w)
theorem lowN_G (ms : List Int) : lowN ms = lowG ms := rfl
theorem low_casts (m : List Nat) : lowN (casts m) = lowG m := by
  rw [lowN_G]
  exact low_eq (pat_map fun a _ b _ e => by exact_mod_cast e)
theorem eo_spl (C : Addr) (xs : List Int) : D.obj C ["size", "_marks"] [I (xs.length : Int), nats (lowN xs)] = spl C (lowN xs) := by
  unfold spl
  rw [low_len]
theorem mark_val {lo : List Nat} {i x : Nat} (h : lo[i]? = some x) : markAt lo i = x := by
  unfold markAt
  rw [Int.toNat_natCast, List.getD_eq_getElem?_getD, h]
  rfl
theorem log_small {n : Nat} (h : n ≤ 1000) : ((n : Int)).natAbs.log2 < 1920 := log_of (Nat.lt_of_lt_of_le (by omega : _ < 2000) (by decide))
section
variable {P : Program} {w : PySem.World} {K : PySem.W.Frag} {mg : Str → Option Value} {base : Heap} {T : List (Addr × Str)} {C CU CB CM : Addr}
theorem scSame2 : FnScope ["one", "other"] ["one", "other"] (defScope sSame2) := ⟨rfl, rfl, rfl, by decide +kernel, rfl, by decide +kernel, by decide +kernel⟩
theorem ok_same2 {f : Addr} {fd : FuncData} (G : Fun K "_check_same_size" "_check_same_size" sSame2 f fd) (c : SplC K C) (hE : HasE2 P w K mg base "SizeMismatch" CM 1 "first" "second") : FnOk P w K mg base (L2.CX P w) 3 f fd ["one", "other"] (spOf K T (spSame2 C CM)) := by
  refine fnX G scSame2 (fun ds w κ χ h => ?_) (fun cdv A outer s H E ds w0 κ χ hr h => ?_)
  · obtain ⟨lo, lo2, rfl, _⟩ := h
    rfl
  obtain ⟨lo, lo2, rfl, h1, h2, k1, k2⟩ := h
  refine pssd_one (psd_if ?_)
  refine ptd_cmp op_ne ?_
  refine pd_fld c.cl c.nS ?_
  refine pd_var (i := 0) rfl rfl ?_
  refine ⟨_, fld_size, ?_⟩
  refine pd_fld c.cl c.nS ?_
  refine pd_var (i := 1) rfl rfl ?_
  refine ⟨_, fld_size, ?_⟩
  refine vr_ne rfl ?_
  refine ⟨_, rfl, ?_⟩
  rw [int_eq_dec]
  refine ite2 (fun q => ?_) (fun q => ?_)
  · refine pssd_one (psd_raiseH2 rfl takesX hE hr ?_)
    refine pd_fld c.cl c.nS ?_
    refine pd_var (i := 0) rfl rfl ?_
    refine ⟨_, fld_size, ?_⟩
    refine pd_fld c.cl c.nS ?_
    refine pd_var (i := 1) rfl rfl ?_
    refine ⟨_, fld_size, ?_⟩
    exact ⟨_, _, rfl, rfl, log_small (by omega), log_small (by omega), k2 (by simpa using q)⟩
  · exact pssd_nil (k1 (by simpa using q))
theorem scMerged : FnScope ["marks", "first", "second", "low", "high", "mark"] ["marks", "first", "second"] (defScope sMerged) := ⟨rfl, rfl, rfl, by decide +kernel, rfl, by decide +kernel, by decide +kernel⟩
theorem va_two {r : List V → Hp → VK → Prop} {g : Int → Int → Int} {w : Wp} {κ : D → Wp → Prop} {i j : Int} (hr : r = fun xs H Q => ∃ i j, xs = [.int i, .int j] ∧ Q (.int (g i j)) H) (k : κ (I (g i j)) w) : VRA K T r [I i, I j] w κ := by
  subst hr
  intro F S H xs Q hW r hK
  obtain ⟨y, ys, rfl, h1, z, zs, rfl, h2, h3⟩ := r
  have h1' : y = .int i := h1
  have h2' : z = .int j := h2
  have h3' : zs = [] := h3
  subst h1' h2' h3'
  exact ⟨i, j, rfl, hK _ w _ S H k (Same.refl _) hW rfl⟩
theorem bt_min : bootBuiltins "min" = some (.builtin "min") := by decide +kernel
theorem bt_max : bootBuiltins "max" = some (.builtin "max") := by decide +kernel
theorem ok_merged {f : Addr} {fd : FuncData} (G : Fun K "_merged_marks" "_merged_marks" sMerged f fd) (hmn : mg "min" = none) (hmx : mg "max" = none) : FnOk P w K mg base CX0 1 f fd ["marks", "first", "second"] (spOf K T spMerged) := by
  refine fnD G scMerged (fun ds w κ χ h => ?_) (fun cdv A outer s H E ds w0 κ χ hr h => ?_)
  · obtain ⟨m, i, j, rfl, _⟩ := h
    rfl
  obtain ⟨m, i, j, rfl, hz, hi, hj, k⟩ := h
  have nd := scMerged.nd
  obtain ⟨a, ha⟩ := at_lt hi
  obtain ⟨b, hb⟩ := at_lt hj
  refine pssd_cons (psd_set (i := 3) nd rfl ?_)
  refine pd_callB (call_min2 rfl) rfl hmn bt_min ?_
  refine pad_cons ?_
  refine pd_ix ix_list ?_
  refine pd_var (i := 0) rfl rfl ?_
  refine pd_var (i := 1) rfl rfl ?_
  refine vr_ixL (nl_at ha) ?_
  refine pad_cons ?_
  refine pd_ix ix_list ?_
  refine pd_var (i := 0) rfl rfl ?_
  refine pd_var (i := 2) rfl rfl ?_
  refine vr_ixL (nl_at hb) ?_
  refine pad_nil ?_
  refine va_two (g := fun i j => if j < i then j else i) rfl ?_
  have e1 : (if (b : Int) < (a : Int) then (b : Int) else (a : Int)) = ((min a b : Nat) : Int) := by
    by_cases q : (b : Int) < (a : Int)
    · rw [if_pos q]
      congr 1
      omega
    · rw [if_neg q]
      congr 1
      omega
  rw [e1]
  refine pssd_cons (psd_set (i := 4) nd rfl ?_)
  refine pd_callB (call_max2 rfl) rfl hmx bt_max ?_
  refine pad_cons ?_
  refine pd_ix ix_list ?_
  refine pd_var (i := 0) rfl rfl ?_
  refine pd_var (i := 1) rfl rfl ?_
  refine vr_ixL (nl_at ha) ?_
  refine pad_cons ?_
  refine pd_ix ix_list ?_
  refine pd_var (i := 0) rfl rfl ?_
  refine pd_var (i := 2) rfl rfl ?_
  refine vr_ixL (nl_at hb) ?_
  refine pad_nil ?_
  refine va_two (g := fun i j => if j > i then j else i) rfl ?_
  have e2 : (if (b : Int) > (a : Int) then (b : Int) else (a : Int)) = ((max a b : Nat) : Int) := by
    by_cases q : (b : Int) > (a : Int)
    · rw [if_pos q]
      congr 1
      omega
    · rw [if_neg q]
      congr 1
      omega
  rw [e2]
  refine pssd_one (psd_ret ?_)
  refine pd_lc (own := [("mark", 5)]) (is := [5]) rfl nd (blkOk_by rfl) (by decide) ?_
  refine it_list ?_
  refine pd_var (i := 0) rfl rfl ?_
  refine ⟨_, rfl, ?_⟩
  refine lcd_map (fun (x : Nat) => I (((if x = max a b then min a b else x : Nat)) : Int)) (small1000 (by omega)) (fun x hx s H0 C cl fp => ?_) ?_
  · refine pgl_name nd rfl ?_
    intro s H0 C cl fp
    refine ptsd_nil ?_
    intro s H0 C cl fp
    refine pd_if ?_
    refine ptd_cmp op_eq ?_
    refine pd_var (i := 5) rfl rfl ?_
    refine pd_var (i := 4) rfl rfl ?_
    refine vr_eq rfl ?_
    refine ⟨_, rfl, ?_⟩
    rw [int_eq_dec]
    refine ite2 (fun q => ?_) (fun q => ?_)
    · refine pd_var (i := 3) rfl rfl ?_
      refine ⟨rfl, ?_, rfl⟩
      rw [if_pos (by simpa using q)]
    · refine pd_var (i := 5) rfl rfl ?_
      refine ⟨rfl, ?_, rfl⟩
      rw [if_neg (by simpa using q)]
  · have e : D.lst (m.map fun (x : Nat) => I (((if x = max a b then min a b else x : Nat)) : Int)) = nats (mergeN m i j) := by
      unfold nats mergeN
      rw [List.map_map, getD_of ha, getD_of hb]
      rfl
    show κ (.lst (m.map fun (x : Nat) => I (((if x = max a b then min a b else x : Nat)) : Int))) w0
    rw [e]
    exact k
end
end Tw

set_option Elab.async false
set_option linter.all false
set_option maxRecDepth 100000
set_option maxHeartbeats 2000000
namespace Tw
open PySem PySem.Spec PyProof.Rows L2 LamX DL Mth
theorem va_all {K : PySem.W.Frag} {T : List (Addr × Str)} {w : Wp} {κ : D → Wp → Prop} {bs : List Bool} (k : κ (B (bs.all id)) w) : VRA K T (rAll K) [.lst (bs.map B)] w κ := fun F S H xs Q hW r hK => by
  obtain ⟨y, ys, rfl, h1, h2⟩ := r
  obtain ⟨a, zs, rfl, h3, h4⟩ := h1
  have h2' : ys = [] := h2
  subst h2'
  have e : bs.map B = (bs.map V.bl).map D.val := by
    rw [List.map_map]
    rfl
  rw [e] at h4
  have e2 := h4.vals
  subst e2
  exact ⟨a, bs, rfl, SqL.of (hW.same _ _ h3), hK _ w _ S H k (Same.refl _) hW rfl⟩
theorem bt_all : bootBuiltins "all" = some (.builtin "all") := by decide +kernel
theorem low_lt {lo : List Nat} (h : IsLow lo) {i : Nat} (hi : i < lo.length) : markAt lo i < lo.length := by
  have := (h i _ (mark_at hi)).1
  omega
section
variable {P : Program} {w : PySem.World} {K : PySem.W.Frag} {mg : Str → Option Value} {base : Heap} {T : List (Addr × Str)} {C CU CB CM : Addr}
theorem pair_len {lo : List Nat} {ks : List Key} (h : ks.length = lo.length) : (pairK lo ks).length = lo.length := by
  unfold pairK
  rw [List.length_map, List.length_zip]
  omega
theorem lowK_len (kss : List (List Key)) : (lowK kss).length = kss.length := List.length_map _
theorem lowK_low (kss : List (List Key)) : IsLow (lowK kss) := @low_isLow (List Key) instBEqOfDecidableEq _ kss
theorem low_casts_of {m : List Nat} (h : IsLow m) : lowN (casts m) = m := (low_casts m).trans (isLow_low h)
theorem nats_casts (m : List Nat) : nats m = .lst ((casts m).map I) := by
  show D.lst (nl m) = _
  rw [nl_casts]
theorem nats_vals (m : List Nat) : nats m = .lst ((m.map fun (x : Nat) => V.int (x : Int)).map D.val) := by
  unfold nats
  rw [List.map_map]
  rfl
theorem keys_nats (lo : List Nat) : nl lo = (keysN lo).map fun k => D.val (kV k) := by
  unfold nl keysN
  rw [List.map_map]
  rfl
theorem keys_len (lo : List Nat) : (keysN lo).length = lo.length := List.length_map _
theorem scOr : FnScope ["self", "other", "marks", "case", "mark"] ["self", "other"] (defScope sOr) := ⟨rfl, rfl, rfl, by decide +kernel, rfl, by decide +kernel, by decide +kernel⟩
theorem orFrom_len (lo2 : List Nat) (k : Nat) (m : List Nat) : (orFrom lo2 k m).length = m.length := by
  induction k with
  | zero => rfl
  | succ k ih => exact (merge_len _ _ _).trans ih
theorem ok_or {f : Addr} {fd : FuncData} (G : Fun K "__or__" "Split.__or__" sOr f fd) (hm : Nm2 mg) (c : SplC K C) (hS : HasF P w K mg base T (L2.CX P w) "_check_same_size" 3 ["one", "other"] (spSame2 C CM)) (hM : HasM P w K mg base T CX0 C "marks" 1 ["self"] (spMarks C))
    (hG : HasF P w K mg base T CX0 "_merged_marks" 1 ["marks", "first", "second"] spMerged) (hMk : HasMk P w K mg base T (L2.CX P w) "Split" C 4 ["self", "marks"] (spInit C CB)) :
    FnOk P w K mg base (L2.CX P w) 7 f fd ["self", "other"] (spOf K T (spOr C CM)) := by
  refine fnX G scOr (fun ds w κ χ h => ?_) (fun cdv A outer s H E ds w0 κ χ hr h => ?_)
  · obtain ⟨lo, lo2, rfl, _⟩ := h
    rfl
  obtain ⟨lo, lo2, rfl, l1, l2, h1, h12, h22, k1, k2⟩ := h
  have nd := scOr.nd
  refine pssd_cons (psd_expr ?_)
  refine pd_has hS (hr.mono (by decide)) passX ?_
  refine pad_cons ?_
  refine pd_var (i := 0) rfl rfl ?_
  refine pad_cons ?_
  refine pd_var (i := 1) rfl rfl ?_
  refine pad_nil ?_
  refine ⟨lo, lo2, rfl, h12, h22, fun e => ?_, k2⟩
  refine pssd_cons (psd_set (i := 2) nd rfl ?_)
  refine pd_frz ?_
  refine pd_hasm0 c.cl hM (hr.mono (by decide)) (fun _ => pass0At) ?_
  refine pd_var (i := 0) rfl rfl ?_
  refine ⟨ins_spl (by decide), lo, rfl, fun a ha => ?_⟩
  refine ⟨a, _, rfl, wu_same, ?_⟩
  rw [wd_wu ha]
  refine pssd_cons (psd_for (passes_of rfl) rfl ?_)
  refine it_enum hm.enumerate ?_
  refine pd_frz ?_
  refine pd_hasm0 c.cl hM (hr.mono (by decide)) (fun _ => pass0At) ?_
  refine pd_var (i := 1) rfl rfl ?_
  refine ⟨ins_spl (by decide), lo2, rfl, fun a ha => ?_⟩
  refine ⟨a, _, rfl, wu_same, ?_⟩
  rw [wd_wu ha]
  refine ⟨_, rfl, ?_⟩
  have el : (pairs (nl lo2)).length = lo2.length := by rw [DL.pairs_len, nl_len]
  refine ⟨fun i δ' w' => ∃ x y, δ' = [some (spl C lo), some (spl C lo2), some (nats (orFrom lo2 i lo)), x, y] ∧ w' = w0, ⟨none, none, rfl, rfl⟩, ?_, ?_⟩
  · rintro i d δ' w' hd ⟨x, y, rfl, rfl⟩
    obtain ⟨e0, he, rfl⟩ := pairs_at hd
    have hi : i < lo2.length := by
      have z := (List.getElem?_eq_some_iff.mp hd).1
      exact el ▸ z
    have hml := low_lt l2 hi
    rw [nl_at (mark_at hi)] at he
    cases he
    refine PGL.pgd (is := [3, 4]) ?_
    refine pgl_two rfl ?_
    refine pgl_name nd rfl ?_
    refine pgl_name nd rfl ?_
    refine pssd_one (psd_set (i := 2) nd rfl ?_)
    refine pd_has hG (hr.mono (by decide)) (fun _ => pass0At) ?_
    refine pad_cons ?_
    refine pd_var (i := 2) rfl rfl ?_
    refine pad_cons ?_
    refine pd_var (i := 3) rfl rfl ?_
    refine pad_cons ?_
    refine pd_var (i := 4) rfl rfl ?_
    refine pad_nil ?_
    refine ⟨orFrom lo2 i lo, i, markAt lo2 i, rfl, by rw [orFrom_len]; omega, by rw [orFrom_len]; omega, by rw [orFrom_len]; omega, ?_⟩
    have es : orFrom lo2 (i + 1) lo = mergeN (orFrom lo2 i lo) i (markAt lo2 i) := by
      show mergeN (orFrom lo2 i lo) i (lo2.getD i 0) = _
      rw [getD_of (mark_at hi)]
    exact ⟨_, _, by rw [es]; rfl, rfl⟩
  · rintro δ' w' ⟨x, y, rfl, rfl⟩
    have eo : orFrom lo2 (pairs (nl lo2)).length lo = orN lo lo2 := by
      rw [el]
      rfl
    have k := k1 e
    refine pssd_one (psd_ret ?_)
    refine pd_hasmk hMk (hr.mono (by decide)) passX ?_
    refine pad_cons ?_
    refine pd_var (i := 2) rfl rfl ?_
    refine pad_nil ?_
    intro a dx ha
    have J := or_join l1 l2 e
    have en : (casts (orN lo lo2)).length = lo.length := by
      unfold casts
      rw [List.length_map]
      exact J.len
    refine ⟨a, dx, _, casts (orN lo lo2), rfl, wu_same, .inl ?_, by omega, fun _ => ⟨rfl, _, _, wu_same, ?_⟩, fun z => absurd ⟨by omega, by omega⟩ z⟩
    · show nats (orFrom lo2 (pairs (nl lo2)).length lo) = _
      rw [eo, nats_casts]
    · rw [wu_wu, wd_wu ha, eo_spl, low_casts_of J.isLow]
      exact k
end
end Tw

set_option Elab.async false
set_option linter.all false
set_option maxRecDepth 100000
set_option maxHeartbeats 4000000
/-! set(xs) of a list of allI; sorted(set(xs)). -/
namespace DL
open PySem PySem.Spec PyProof.Rows L2 LamX
section
variable {P : Program} {w : PySem.World} {A : Around} {E : Value → Shared → Prop} {s : Shared}
theorem set_of_list {l : Addr} {vals : Array Value} (ks : List Int) {Q : Value → Shared → Prop} (calm0 : A.handled = none) (lh : s.heap.IsList l vals) (allI : IntsAre vals.toList ks) (room : ks.length + 1 < scanBound)
    (h : ∀ (h' : Heap) (tk c : Nat), SetR w h' s.heap.objs.size (fun j => decide (j ∈ ks)) c → c ≤ ks.length → (∀ b o, s.heap.get? b = some o → h'.get? b = some o) → Q (.ref s.heap.objs.size) { s with heap := h', toks := tk }) :
    wpAny (model P w) A (call (.type "set") [.ref l]) Q E s := by
  have szE : vals.size = ks.length := by
    have q := IntsAre.length allI
    rw [Array.length_toList] at q
    exact q
  obtain ⟨c, tl, mroE⟩ := F.called_set.mro
  have mdE := F.called_set.made
  have sbE := F.called_set.sub
  refine wpAny_call (codeAny_of_tree ?_)
  show wpAny _ _ (callAny (.type "set") _) _ _ _
  refine wpAny_pure ⟨Code.quiet_builtin _ (by decide +kernel), codeAny_builtin F.entry_type_call ?_⟩
  rw [Around.under_plain (weight_type_call_type "set" [.ref l] []) rfl]
  have n1 := F.called_set.notType
  have n2 := F.called_set.canCreate
  have tcE := F.typeCall_set_1 (.ref l)
  repeat (any_goals (first | wp_step | assumption))

  refine codeAny_mono (code_set_led1 (.ref l) (E := E) (Q₁ := fun obj s₁ => obj = .ref s.heap.objs.size ∧ s₁ = { s with heap := s.heap.push { cls := .type "set", dict := none, data := .set #[] 0 (.fresh 0 0 (!w.params.followText "set-order")) } }) ⟨rfl, rfl⟩) fun r s₁ rE => ?_
  cases r with
  | error e => exact rE
  | ok fl =>
    cases fl with
    | ret obj =>
      obtain ⟨rfl, rfl⟩ := rE
      have atS : (s.heap.push { cls := .type "set", dict := none, data := .set #[] 0 (.fresh 0 0 (!w.params.followText "set-order")) }).get? s.heap.objs.size = some { cls := .type "set", dict := none, data := .set #[] 0 (.fresh 0 0 (!w.params.followText "set-order")) } := Heap.get?_push_size _ rfl
      have tyS : Shared.TypeIs { s with heap := s.heap.push { cls := .type "set", dict := none, data := .set #[] 0 (.fresh 0 0 (!w.params.followText "set-order")) } } (.ref s.heap.objs.size) "set" := ⟨_, atS, rfl⟩
      have liE := F.called_set.init.lookup
      have biE := F.called_set.init.bind (.ref s.heap.objs.size)
      repeat (any_goals (first | wp_step | assumption))

      refine codeAny_mono (codeAny_call_builtin (R := wants (fun r s₂ => r = .none ∧ ∃ h' tk c, s₂ = { s with heap := h', toks := tk } ∧ SetR w h' s.heap.objs.size (fun j => decide (j ∈ ks)) c ∧ c ≤ ks.length ∧
          (∀ b o, s.heap.get? b = some o → h'.get? b = some o)) E) F.called_set.init.plain F.entry_set_init (check_set_init_1 tyS ?_)) fun r₂ s₂ hr₂ => ?_
      · obtain ⟨obj0, obL, clL, n0, dtL⟩ := lh
        obtain ⟨ocls, odict, odata, oslots⟩ := obj0
        simp only at clL dtL
        subst clL; subst dtL
        have obL2 : (s.heap.push { cls := .type "set", dict := none, data := .set #[] 0 (.fresh 0 0 (!w.params.followText "set-order")) }).get? l = some { cls := .type "list", dict := odict, data := .seq vals n0, slots := oslots } := Heap.get?_push_of_some _ obL
        have slS := F.sub_list_set
        have slF := F.sub_list_frozenset
        have neD : (Value.type "list" == Value.type "dict") = false := by decide
        have lh1 : (s.heap.push { cls := .type "set", dict := none, data := .set #[] 0 (.fresh 0 0 (!w.params.followText "set-order")) }).IsList l vals := ⟨_, obL2, rfl, n0, rfl⟩
        unfold Builtin.«set.__init__» noKeywords Builtin.Frozenset.updateFrom
        generalize hPI : pyIter = PI
        wp_walk
        subst hPI

        refine wpAny_pyIter_list lh1 ?_
        refine wpAny_bind (wpAny_runValue ?_)
        have ltS : l < s.heap.objs.size := Heap.lt_size obL
        have calm3 : A.in1.in1.in1.handled = none := by simp [calm0]
        have sz1 : (s.heap.push { cls := .type "set", dict := none, data := .set #[] 0 (.fresh 0 0 (!w.params.followText "set-order")) }).objs.size = s.heap.objs.size + 1 := Heap.size_push ..
        have neI : l ≠ (s.heap.push { cls := .type "set", dict := none, data := .set #[] 0 (.fresh 0 0 (!w.params.followText "set-order")) }).objs.size := by
          rw [Heap.size_push]; exact Nat.ne_of_lt (Nat.lt_succ_of_lt ltS)
        have notS : s.heap.objs.size ∉ [(s.heap.push { cls := .type "set", dict := none, data := .set #[] 0 (.fresh 0 0 (!w.params.followText "set-order")) }).objs.size, l] := by
          rw [Heap.size_push]; simp only [List.mem_cons, List.mem_singleton, List.not_mem_nil, or_false, not_or]
          exact ⟨Nat.ne_of_lt (Nat.lt_succ_self _), Nat.ne_of_gt ltS⟩
        have valE : ∀ (i : Nat) (v : Value), vals[i]? = some v → ∃ k t, ks[i]? = some k ∧ v = .int k t := fun i v hv => by
          have hi : i < ks.length := by rw [← szE]; exact (Array.getElem?_eq_some_iff.mp hv).1
          obtain ⟨t, e⟩ := PyProof.Rows.IntsAre.int_at allI i v (by rw [Array.getElem?_toList]; exact hv)
          refine ⟨ks[i], t, List.getElem?_eq_getElem hi, ?_⟩
          rw [e, List.getD_eq_getElem?_getD, List.getElem?_eq_getElem hi] <;> rfl
        refine set_update_ints ((Walks.list calm3 _ l neI vals).toS) s.heap.objs.size
          notS ks szE room valE (vals.size - 0) 0 _ (by omega) (Nat.zero_le _)
          ⟨⟨_, Heap.get?_push_size _ rfl, rfl, rfl⟩, (lh1.push _)⟩ ?hS0 ?hR
        case hS0 =>
          have getE : ((s.heap.push { cls := .type "set", dict := none, data := .set #[] 0 (.fresh 0 0 (!w.params.followText "set-order")) }).push { cls := .type "list_iterator", data := .fields #[.ref l, .int 0 0] }).get? s.heap.objs.size
              = some { cls := .type "set", dict := none, data := .set #[] 0 (.fresh 0 0 (!w.params.followText "set-order")) } := Heap.get?_push_of_some _ atS
          exact ⟨0, Nat.le_refl 0, setR_new_at getE⟩
        case hR =>
          intro s' c' hm hc' hS'
          obtain ⟨h', g2, d', tk', os'⟩ := s'
          have eg : g2 = s.gens := hm.gens
          have ed : d' = s.drawn := hm.drawn
          have eo : os' = s.os := hm.os
          subst eg; subst ed; subst eo
          show wpAny _ _ _ _ _ _
          refine wpAny_pure ?_
          show wpAny _ _ (ret Value.none) _ _ _
          rw [szE] at hc'
          refine wpAny_pure ⟨rfl, h', tk', c', rfl, hS', hc', fun b o e => ?_⟩
          have hb0 : b < s.heap.objs.size := Heap.lt_size e
          have hb1 : b ≠ s.heap.objs.size := Nat.ne_of_lt hb0
          have hb2 : b ≠ (s.heap.push { cls := .type "set", dict := none, data := .set #[] 0 (.fresh 0 0 (!w.params.followText "set-order")) }).objs.size := by
            rw [Heap.size_push]; exact Nat.ne_of_lt (Nat.lt_succ_of_lt hb0)
          exact hm.heap b o (by simp only [List.mem_cons, List.mem_singleton, List.not_mem_nil, or_false, not_or]; exact ⟨hb1, hb2⟩) (Heap.get?_push_of_some _ (Heap.get?_push_of_some _ e))

      · cases r₂ with
        | error e => exact hr₂
        | ok fl₂ =>
          cases fl₂ with
          | ret r =>
            obtain ⟨rfl, h', tk, c', rfl, hS', hc', hk'⟩ := hr₂
            repeat (any_goals (first | wp_step | assumption))
            exact h _ _ _ hS' hc' hk'
          | _ => exact hr₂.elim
    | _ => exact rE.elim


end
end DL

set_option Elab.async false
set_option linter.all false
set_option maxRecDepth 100000
set_option maxHeartbeats 1000000
/-! while, in data. -/
namespace DL
open PySem PySem.Spec PyProof.Rows L2 LamX
section
variable {X : Cx} {T : List (Addr × Str)} {W : WX} {χ : XD} {δ : Dn} {w : Wp} {pos : Pos}
theorem psd_while {c : Expr} {body : List Stmt} {C : Fin} (hp : PassesOwn (model X.prog X.w) X.A X.env X.xe) (Pv : Nat → Dn → Wp → Prop) (h0 : ∃ m, Pv m δ w)
    (turn : ∀ m δ' w', Pv m δ' w' → PTD X T W χ c δ' w' fun b w1 => if b = true then PSsD X T W χ body δ' w1 { nx := fun δ2 w2 => ∃ m', m' < m ∧ Pv m' δ2 w2, rt := C.rt, bk := C.nx, ct := fun δ2 w2 => ∃ m', m' < m ∧ Pv m' δ2 w2 } else C.nx δ' w1) :
    PSD X T W χ (.While c body [] pos) δ w C := fun F σ S H E hE hW hX hK => by
  refine wp_ps (ps_while hp (pt_wp c) (pss_wp body)) ?_
  obtain ⟨m0, p0⟩ := h0
  refine ⟨fun m σ' H' => ∃ δ' w' S', Pv m δ' w' ∧ Same S S' ∧ EnvD X.K S' δ' σ' ∧ World X.K T S' w' F H', ⟨m0, δ, w, S, p0, Same.refl _, hE, hW⟩, ?_⟩
  rintro m σ' H' ⟨δ', w', S', pv, s1, hE1, W1⟩
  refine turn m δ' w' pv F σ' S' H' _ hE1 W1 ((hX σ').mono s1) fun b w1 S1 H1 k s2 W2 => ?_
  have ss := s1.trans s2
  cases b with
  | false =>
    rw [if_neg Bool.false_ne_true] at k ⊢
    exact hK.nx δ' w1 σ' S1 H1 k ss (hE1.mono s2) W2
  | true =>
    rw [if_pos rfl] at k ⊢
    refine ⟨fun σ2 H2 => ∃ m', m' < m ∧ ∃ δ2 w2 S2, Pv m' δ2 w2 ∧ Same S S2 ∧ EnvD X.K S2 δ2 σ2 ∧ World X.K T S2 w2 F H2, fun σ2 H2 z => z, ?_⟩
    refine k F σ' S1 H1 _ (hE1.mono s2) W2 (hX.mono ss) ⟨?_, hK.rt.mono ss, hK.nx.mono ss, ?_⟩
    · rintro δ2 w2 σ2 S2 H2 ⟨m', l, pv2⟩ s3 hE3 W3
      exact ⟨m', l, δ2, w2, S2, pv2, ss.trans s3, hE3, W3⟩
    · rintro δ2 w2 σ2 S2 H2 ⟨m', l, pv2⟩ s3 hE3 W3
      exact ⟨m', l, δ2, w2, S2, pv2, ss.trans s3, hE3, W3⟩
end
end DL

set_option Elab.async false
set_option linter.all false
set_option maxRecDepth 100000
set_option maxHeartbeats 1000000
/-! Dicts (keys ints and texts) that are owned: written with one entry, read, asked, stored; they stand from some row on. -/
namespace DL
open PySem PySem.Spec PyProof.Rows L2 LamX
/-- a dict that stands or is owned -/
def Dk (w : Wp) (d : D) (kvs : List (Key × V)) : Prop := d = .dic kvs ∨ ∃ a, d = R a ∧ w a = some (.dic kvs)
section
variable {K : PySem.W.Frag} {T : List (Addr × Str)} {w : Wp} {κ : D → Wp → Prop}
theorem Dk.at_ {S F H : Hp} {d : D} {kvs : List (Key × V)} {x : V} (l : Dk w d kvs) (hW : World K T S w F H) (r : Rep K S d x) : ∃ a, x = .ref a ∧ H a = some (.dK kvs) := by
  rcases l with rfl | ⟨a, rfl, hw⟩
  · obtain ⟨a, rfl, h⟩ := r
    exact ⟨a, rfl, hW.same _ _ h⟩
  · have r' : x = .ref a := r
    subst r'
    obtain ⟨_, _, o, h1, h2⟩ := hW.own a _ hw
    have h2' : o = .dK kvs := h2
    subst h2'
    exact ⟨a, rfl, h1⟩
/-- d[k] = v -/
theorem vr_setD {a : Addr} {kvs : List (Key × V)} {k : Key} {v : V} {κ : Wp → Prop} (hw : w a = some (.dic kvs)) (hz : kvs.length < sizeLine) (q : κ (wu w a (.dic (putK kvs k v)))) : VRS K T rSetD (R a) (.val (kV k)) (.val v) w κ := fun F S H x y v' Q hW r1 r2 r3 hK => by
  obtain ⟨_, _, o, h1, h2⟩ := hW.own a _ hw
  have h2' : o = .dK kvs := h2
  subst h2'
  have r1' : x = .ref a := r1
  have r2' : y = kV k := r2
  have r3' : v' = v := r3
  subst r1' r2' r3'
  exact ⟨a, _, rfl, DPut.k h1 hz, hK _ S _ q (Same.refl _) (hW.put hw rfl)⟩
end
section
variable {X : Cx} {T : List (Addr × Str)} {W : WX} {χ : XD} {δ : Dn} {w : Wp} {pos : Pos}
/-- d[k], d owned or standing -/
theorem pd_dgetK {o i : Expr} {κ : D → Wp → Prop} (hu : X.A.units + 1 < cLine) (h : PD X T W χ o δ w fun d w1 => PD X T W χ i δ w1 fun e w2 => ∃ kvs k v, Dk w1 d kvs ∧ w2 = w1 ∧ e = .val (kV k) ∧ valV kvs k = some v ∧ κ (.val v) w2)
    (hs : NoSl i := by exact fun _ _ => rfl) : PD X T W χ (.Subscript o i pos) δ w κ := fun F σ S H Q hE hW hX hK =>
  wp_pe (pe_dget hu (pe_wp o) (pe_wp i) hs) (by
    refine h F σ S H _ hE hW hX fun d w1 x S1 H1 k s1 W1 r1 => ?_
    refine k F σ S1 H1 _ (hE.mono s1) W1 (hX.mono s1) fun e w2 y S2 H2 k2 s2 W2 r2 => ?_
    obtain ⟨kvs, ky, v, l, rfl, rfl, hv, k2⟩ := k2
    obtain ⟨a, rfl, ha⟩ := l.at_ W2 (r1.mono s2)
    have r2' : y = kV ky := r2
    subst r2'
    refine ⟨a, v, rfl, .inl ⟨kvs, ky, .inl ha, rfl, hv.symm⟩, ?_⟩
    exact hK _ w2 _ S2 H2 k2 (s1.trans s2) W2 rfl)
/-- k in d, k not in d -/
theorem pd_din {o i : Expr} {κ : D → Wp → Prop} (hu : X.A.units + 1 < cLine) (h : PD X T W χ i δ w fun e w1 => PD X T W χ o δ w1 fun d w2 => ∃ kvs k, Dk w2 d kvs ∧ e = .val (kV k) ∧ κ (B (valV kvs k).isSome) w2)
    (h1 : behindInMarks .In o = false := by rfl) : PD X T W χ (.Compare i [.In] [o] pos) δ w κ := fun F σ S H Q hE hW hX hK =>
  wp_pe (pe_cmp (pc_din hu (pe_wp i) (pe_wp o)) h1) (by
    refine h F σ S H _ hE hW hX fun e w1 y S1 H1 k s1 W1 r1 => ?_
    refine k F σ S1 H1 _ (hE.mono s1) W1 (hX.mono s1) fun d w2 x S2 H2 k2 s2 W2 r2 => ?_
    obtain ⟨kvs, ky, l, rfl, k2⟩ := k2
    obtain ⟨a, rfl, ha⟩ := l.at_ W2 r2
    have r1' : y = kV ky := r1
    subst r1'
    exact ⟨a, _, rfl, .inl ⟨kvs, ky, .inl ha, rfl, rfl⟩, hK _ w2 _ S2 H2 k2 (s1.trans s2) W2 rfl⟩)
theorem pd_dnin {o i : Expr} {κ : D → Wp → Prop} (hu : X.A.units + 1 < cLine) (h : PD X T W χ i δ w fun e w1 => PD X T W χ o δ w1 fun d w2 => ∃ kvs k, Dk w2 d kvs ∧ e = .val (kV k) ∧ κ (B (!(valV kvs k).isSome)) w2)
    (h1 : behindInMarks .NotIn o = false := by rfl) : PD X T W χ (.Compare i [.NotIn] [o] pos) δ w κ := fun F σ S H Q hE hW hX hK =>
  wp_pe (pe_cmp (pc_dnotin hu (pe_wp i) (pe_wp o)) h1) (by
    refine h F σ S H _ hE hW hX fun e w1 y S1 H1 k s1 W1 r1 => ?_
    refine k F σ S1 H1 _ (hE.mono s1) W1 (hX.mono s1) fun d w2 x S2 H2 k2 s2 W2 r2 => ?_
    obtain ⟨kvs, ky, l, rfl, k2⟩ := k2
    obtain ⟨a, rfl, ha⟩ := l.at_ W2 r2
    have r1' : y = kV ky := r1
    subst r1'
    exact ⟨a, _, rfl, .inl ⟨kvs, ky, .inl ha, rfl, rfl⟩, hK _ w2 _ S2 H2 k2 (s1.trans s2) W2 rfl⟩)
/-- {k: v}, owned -/
theorem pd_d1 {kx vx : Expr} {κ : D → Wp → Prop} (h : PD X T W χ kx δ w fun kd w1 => PD X T W χ vx δ w1 fun vd w2 => ∃ k v, kd = .val (kV k) ∧ vd = .val v ∧ ∀ a, w2 a = none → κ (R a) (wu w2 a (.dic [(k, v)]))) : PD X T W χ (.Dict [some kx] [vx] pos) δ w κ := fun F σ S H Q hE hW hX hK =>
  wp_pe (pe_disp (pps_cons (pe_wp kx) (pe_wp vx) pps_nil) rfl rfl (fun z => by cases z) (Nat.le_of_ble_eq_true rfl)) (by
    intro p hp
    have fp : F p = none := (hW.free hp).2.2
    refine h (upd F p (.dK [])) σ S _ _ hE (hW.takeF hp fun _ z => by cases z) ?_ fun kd w1 y S1 H1 k s1 W1 r1 => ?_
    · intro C ns ds w' d S' H' x s1 W1 xr
      obtain ⟨_, W2⟩ := W1.moveF (h := .dic []) fp rfl
      obtain ⟨e1, W3⟩ := W1.freezeF fp fun _ z => by cases z
      have s3 : Same S' (upd S' p (.dK [])) := same_upd e1
      obtain ⟨ys, x1, x2, x3⟩ := xr
      exact hX C ns ds w' d _ H' x (s1.trans s3) W3 ⟨ys, s3 _ _ x1, x2, x3.mono s3⟩
    refine k (upd F p (.dK [])) σ S1 H1 _ (hE.mono s1) W1 ?_ fun vd w2 z S2 H2 k2 s2 W2 r2 => ?_
    · intro C ns ds w' d S' H' x s2 W2 xr
      obtain ⟨e1, W3⟩ := W2.freezeF fp fun _ z => by cases z
      have s3 : Same S' (upd S' p (.dK [])) := same_upd e1
      obtain ⟨ys, x1, x2, x3⟩ := xr
      exact hX C ns ds w' d _ H' x (s1.trans (s2.trans s3)) W3 ⟨ys, s3 _ _ x1, x2, x3.mono s3⟩
    obtain ⟨ky, v, rfl, rfl, k2⟩ := k2
    have r1' : y = kV ky := r1
    have r2' : z = v := r2
    subst r1' r2'
    refine ⟨(W2.frm p _ upd_same).2, [(ky, z)], rfl, Nat.le_of_ble_eq_true rfl, ?_⟩
    have W3 := W2.putF (o := .dK (mergeK [] [(ky, z)])) upd_same (fun _ z => by cases z) (fun _ z => by cases z) (fun _ z => by cases z)
    rw [upd_upd] at W3
    obtain ⟨e1, W4⟩ := W3.moveF (h := .dic [(ky, z)]) fp rfl
    exact hK _ _ _ S2 _ (k2 p e1) (s1.trans s2) W4 rfl)
/-- an owned dict stands from now on -/
theorem pssd_freezeD {sts : List Stmt} {C : Fin} {a : Addr} {kvs : List (Key × V)} (i : Nat) (hi : δ[i]? = some (some (R a))) (hw : w a = some (.dic kvs)) (h : PSsD X T W χ sts (δ.set i (some (.dic kvs))) (wd w a) C) : PSsD X T W χ sts δ w C :=
  fun F σ S H E hE hW hX hK => by
    obtain ⟨o, e1, r, W1⟩ := hW.freeze hw
    have r' : o = .dK kvs := r
    subst r'
    have s1 : Same S (upd S a (.dK kvs)) := same_upd e1
    refine h F σ _ H E ((hE.mono s1).tell i hi fun v q => ?_) W1 (hX.mono s1) (hK.mono s1)
    have q' : v = .ref a := q
    exact ⟨a, q', upd_same⟩
theorem pd_frzD {e : Expr} {κ : D → Wp → Prop} (h : PD X T W χ e δ w fun d w1 => ∃ a kvs, d = R a ∧ w1 a = some (.dic kvs) ∧ κ (.dic kvs) (wd w1 a)) : PD X T W χ e δ w κ := fun F σ S H Q hE hW hX hK =>
  h F σ S H Q hE hW hX fun d w1 v S1 H1 k s1 W1 r => by
    obtain ⟨a, kvs, rfl, hw, k⟩ := k
    obtain ⟨o, e1, r1, W2⟩ := W1.freeze hw
    have r1' : o = .dK kvs := r1
    subst r1'
    have s2 : Same S1 (upd S1 a (.dK kvs)) := same_upd e1
    have r' : v = .ref a := r
    exact hK _ _ v _ H1 k (s1.trans s2) W2 ⟨a, r', upd_same⟩
end
end DL

set_option Elab.async false
set_option linter.all false
set_option maxRecDepth 100000
set_option maxHeartbeats 2000000
/-! Comprehensions of two sources, the inner one a list. -/
namespace DL
open PySem PySem.Spec PyProof.Rows L2 LamX
section
variable {X : Cx} {T : List (Addr × Str)} {W : WX} {χ : XD} {δ : Dn} {w : Wp} {pos : Pos}
/-- the inner walk, from acc on -/
def InD (X : Cx) (T : List (Addr × Str)) (is1 : List Nat) (tg1 : Expr) (ifs1 : List Expr) (elt : Expr) (scope : Scope) (vs1 : List Nat) (δ2 : Dn) (acc : List D) (κ : List D → Wp → Prop) (es : List D) (w1 : Wp) : Prop :=
  ∃ Pv : Nat → List D → Wp → Prop, Pv 0 acc w1 ∧
    (∀ (j : Nat) (d : D) acc w', es[j]? = some d → Pv j acc w' → ∀ s H0 C cl fp, PGL (bx X s H0 scope cl C fp) T is1 tg1 d (wipeD δ2 vs1) w' fun δ3 w2 => ∀ s H0 C cl fp, PTsD (bx X s H0 scope cl C fp) T ifs1 δ3 w2 fun b w3 =>
      if b = true then acc.length < sizeLine ∧ ∀ s H0 C cl fp, PD (bx X s H0 scope cl C fp) T Wf noX elt δ3 w3 fun y w4 => Pv (j + 1) (acc ++ [y]) w4 else Pv (j + 1) acc w3) ∧
    ∀ acc w', Pv es.length acc w' → κ acc w'
/-- the outer walk -/
def Lc2D (X : Cx) (T : List (Addr × Str)) (is is1 : List Nat) (tg : Expr) (ifs : List Expr) (tg1 iter1 : Expr) (ifs1 : List Expr) (elt : Expr) (scope : Scope) (vs vs1 : List Nat) (δ : Dn) (κ : List D → Wp → Prop) (ds : List D) (w1 : Wp) : Prop :=
  ∃ Pv : Nat → List D → Wp → Prop, Pv 0 [] w1 ∧
    (∀ (i : Nat) (d : D) acc w', ds[i]? = some d → Pv i acc w' → ∀ s H0 C cl fp, PGL (bx X s H0 scope cl C fp) T is tg d (wipeD δ vs) w' fun δ2 w2 => ∀ s H0 C cl fp, PTsD (bx X s H0 scope cl C fp) T ifs δ2 w2 fun b w3 =>
      if b = true then ∀ s H0 C cl fp, PD (bx X s H0 scope cl C fp) T Wf noX iter1 δ2 w3 fun y w4 => ∃ es, y = .lst es ∧ InD X T is1 tg1 ifs1 elt scope vs1 δ2 acc (Pv (i + 1)) es w4 else Pv (i + 1) acc w3) ∧
    ∀ acc w', Pv ds.length acc w' → κ acc w'
theorem pd_lc2 {elt tg iter tg1 iter1 : Expr} {ifs ifs1 : List Expr} {scope : Scope} (own : List (Str × Nat)) (is is1 vs1 : List Nat) {κ : D → Wp → Prop} (hc : X.calm = true) (hN : X.N.Nodup) (ok : BlkOk X.N X.env.scope scope own) (hsub : ∀ i ∈ is, i ∈ own.map (·.2)) (hv : ∀ i ∈ vs1, i ∈ own.map (·.2)) (hsub1 : ∀ i ∈ is1, i ∈ vs1)
    (h : IterD X T W χ tg iter δ w (Lc2D X T is is1 tg ifs tg1 iter1 ifs1 elt scope (own.map (·.2)) vs1 δ (fun acc w' => κ (.lst acc) w'))) (hs : ∀ x, foldedSetIterable iter X.env x = pure x := by intro _; rfl) (hs1 : ∀ env x, foldedSetIterable iter1 env x = pure x := by intro _ _; rfl) : PD X T W χ (.ListComp elt [⟨tg, iter, ifs, 0⟩, ⟨tg1, iter1, ifs1, 0⟩] scope pos) δ w κ := fun F σ S H Q hE hW hX hK => by
  obtain ⟨wi, hi, h⟩ := h
  refine wp_pe (pe_lc2 hc hN hi ok hv pg_bx pt_bx (wi1 := iList X.K (lcE X scope iter1)) (fun s H C cl fp => pi_list (X := X.blk s H scope (compEnvC scope cl C X.env) fp) (pe_bx s H C cl fp)) pg_bx pt_bx pe_bx hs hs1) ?_
  refine h F σ S H _ hE hW hX fun ds w1 S1 H1 J G Y k s1 W1 ww hG hY L nL => ?_
  obtain ⟨Pv, p0, turn, done⟩ := k
  have fL : F L = none := (W1.free nL).2.2
  let P : Nat → Hp → Prop := fun i H' => ∃ acc w' S' xs, Pv i acc w' ∧ Same S1 S' ∧ World X.K T S' w' (upd F L (.lst xs)) H' ∧ RepL X.K S' acc xs
  refine ⟨fun i m H => m = ds.length - i ∧ i ≤ ds.length ∧ P i H, ⟨ds.length, rfl, Nat.zero_le _, [], w1, S1, [], p0, Same.refl _, W1.takeF nL (fun _ z => by cases z), rfl⟩, ?_⟩
  rintro i m H' ⟨hm, hi', acc, w', S', xs, pv, s2, W2, ra⟩
  have gg := hG S' w' _ H' s2 W2
  cases Nat.lt_or_ge i ds.length with
  | inr hge =>
    obtain rfl : i = ds.length := Nat.le_antisymm hi' hge
    exact Or.inl ⟨ww.stops H' gg, fin_stay hK L acc w' S' xs H' (done acc w' pv) (s1.trans s2) fL W2 ra⟩
  | inl hlt =>
    refine Or.inr ⟨ww.goes i H' hlt gg, P (i + 1), fun H2 p2 => ⟨ds.length - (i + 1), by omega, rfl, hlt, p2⟩, fun x H3 y => ?_⟩
    obtain ⟨S3, s3, W3, r⟩ := hY i ds[i] S' w' _ H' x H3 (List.getElem?_eq_getElem hlt) s2 W2 (ww.yields i H' x H3 hlt gg y)
    intro s H0 C cl fp
    refine turn i ds[i] acc w' (List.getElem?_eq_getElem hlt) pv s H0 C cl fp (upd F L (.lst xs)) x (L2.wipe σ (own.map (·.2))) S3 H3 _ r ((hE.mono (s1.trans (s2.trans s3))).wipe _) W3 fun δ2 w2 σ2 S4 H4 k s4 hE4 W4 o4 l4 => ?_
    refine ⟨?_, ?_⟩
    · rw [wipe_eq (σ1 := L2.wipe σ (own.map (·.2))) (σ2 := σ2) l4 fun j hj => o4 j fun z => hj (hsub j z)]
      exact wipe_eq (L2.wipe_length σ _) fun j hj => L2.wipe_out hj
    intro s H0 C cl fp
    refine k s H0 C cl fp (upd F L (.lst xs)) σ2 S4 H4 _ hE4 W4 fun b w5 S5 H5 k5 s5 W5 => ?_
    have s25 : Same S1 S5 := s2.trans (s3.trans (s4.trans s5))
    have ra5 : RepL X.K S5 acc xs := ra.mono (s3.trans (s4.trans s5))
    cases b with
    | false =>
      rw [if_neg Bool.false_ne_true] at k5 ⊢
      exact ⟨acc, w5, S5, xs, k5, s25, W5, ra5⟩
    | true =>
      rw [if_pos rfl] at k5 ⊢
      intro s H0 C cl fp
      refine k5 s H0 C cl fp (upd F L (.lst xs)) σ2 S5 H5 _ (hE4.mono s5) W5 exf fun d6 w6 v6 S6 H6 k6 s6 W6 r6 => ?_
      obtain ⟨es, rfl, Pv1, q0, turn1, done1⟩ := k6
      obtain ⟨a, zs, rfl, h1, h2⟩ := r6
      refine ⟨a, rfl, ⟨zs, SqL.of (W6.same _ _ h1)⟩, ?_⟩
      have w2' := walk_list (K := X.K) (a := a) (xs := zs)
      rw [h2.length] at w2'
      let P1 : Nat → Hp → Prop := fun j H' => ∃ acc w' S' xs, Pv1 j acc w' ∧ Same S6 S' ∧ World X.K T S' w' (upd F L (.lst xs)) H' ∧ RepL X.K S' acc xs
      refine ⟨fun j m H => m = es.length - j ∧ j ≤ es.length ∧ P1 j H, ⟨es.length, rfl, Nat.zero_le _, acc, w6, S6, xs, q0, Same.refl _, W6, ra5.mono s6⟩, ?_⟩
      rintro j m1 H7 ⟨hm1, hj, acc7, w7, S7, xs7, pv7, s7, W7, ra7⟩
      have g7 : SqL X.K H7 a zs := SqL.of (W7.same _ _ (s7 _ _ h1))
      cases Nat.lt_or_ge j es.length with
      | inr hge =>
        obtain rfl : j = es.length := Nat.le_antisymm hj hge
        exact Or.inl ⟨w2'.stops H7 g7, acc7, w7, S7, xs7, done1 acc7 w7 pv7, s25.trans (s6.trans s7), W7, ra7⟩
      | inl hlt1 =>
        refine Or.inr ⟨w2'.goes j H7 hlt1 g7, P1 (j + 1), fun H2 p2 => ⟨es.length - (j + 1), by omega, rfl, hlt1, p2⟩, fun x H8 y => ?_⟩
        obtain ⟨rfl, hx⟩ := w2'.yields j H7 x H8 hlt1 g7 y
        obtain ⟨v, h3, h4⟩ := h2.get (List.getElem?_eq_getElem hlt1)
        rw [hx] at h3
        cases h3
        intro s H0 C cl fp
        refine turn1 j es[j] acc7 w7 (List.getElem?_eq_getElem hlt1) pv7 s H0 C cl fp (upd F L (.lst xs7)) x (L2.wipe σ2 vs1) S7 H8 _ (h4.mono s7) ((hE4.mono (s5.trans (s6.trans s7))).wipe _) W7 fun δ3 w8 σ3 S8 H9 k8 s8 hE8 W8 o8 l8 => ?_
        refine ⟨?_, ?_⟩
        · rw [wipe_eq (σ1 := L2.wipe σ2 vs1) (σ2 := σ3) l8 fun j hj => o8 j fun z => hj (hsub1 j z)]
          exact wipe_eq (L2.wipe_length σ2 _) fun j hj => L2.wipe_out hj
        intro s H0 C cl fp
        refine k8 s H0 C cl fp (upd F L (.lst xs7)) σ3 S8 H9 _ hE8 W8 fun b w9 S9 H10 k9 s9 W9 => ?_
        cases b with
        | false =>
          rw [if_neg Bool.false_ne_true] at k9 ⊢
          exact ⟨acc7, w9, S9, xs7, k9, s7.trans (s8.trans s9), W9, ra7.mono (s8.trans s9)⟩
        | true =>
          rw [if_pos rfl] at k9 ⊢
          obtain ⟨hz, k9⟩ := k9
          intro s H0 C cl fp
          refine k9 s H0 C cl fp (upd F L (.lst xs7)) σ3 S9 H10 _ (hE8.mono s9) W9 exf fun d10 w10 v10 S10 H11 k10 s10 W10 r10 => ?_
          have ra10 := ra7.mono (s8.trans (s9.trans s10))
          refine ⟨xs7, (W10.frm L _ upd_same).2, by rw [ra10.length]; exact hz, acc7 ++ [d10], w10, S10, xs7 ++ [v10], k10, s7.trans (s8.trans (s9.trans s10)), ?_, ra10.app (RepL.one r10)⟩
          have W11 := W10.putF (o := .lst (xs7 ++ [v10])) upd_same (fun _ z => by cases z) (fun _ z => by cases z) (fun _ z => by cases z)
          rw [upd_upd] at W11
          exact W11
end
end DL

set_option Elab.async false
set_option linter.all false
set_option maxRecDepth 100000
set_option maxHeartbeats 2000000
/-! sorted(set(xs)), any, the truth of a list, slices, chained comparisons, int of a bool, in. -/
namespace DL
open PySem PySem.Spec PyProof.Rows L2 LamX
/-! ### set(xs), sorted(set(xs)) -/
def rSetL (K : PySem.W.Frag) (w : PySem.World) : List V → Hp → VK → Prop := fun xs H Q => ∃ (l : Addr) (ks : List Int), xs = [V.ref l] ∧ SqL K H l (ks.map V.int) ∧ ks.length ≤ 1000 ∧
  ∀ (q : Addr) (c : Nat), H q = none → c ≤ ks.length → Q (.ref q) (upd H q (SetO w q (fun j => decide (j ∈ ks)) c))
theorem cr_setL {X : Cx} (hc : X.calm = true) : CallR X (.type "set") (rSetL X.K X.w) := by
  intro pins s σ H xs us Q I r h
  obtain ⟨l, ks, rfl, hs, hz, q⟩ := h
  rw [Vals.ref1 r]
  obtain ⟨its, rv, pl, _⟩ := I.list hs
  have al : IntsAre its.toArray.toList ks := ints_of_vals rv
  obtain ⟨o, ho, hcl, n, hd⟩ := pl.isList
  refine set_of_list ks (I.ok.hd hc) ⟨o, ho, hcl, n, hd⟩ al (by unfold scanBound; omega) fun h' tk c R hcn kp => ?_
  have new : H s.heap.objs.size = none := I.hok.fresh (Nat.le_refl _)
  exact ⟨.ref _, upd H s.heap.objs.size (SetO X.w s.heap.objs.size (fun j => decide (j ∈ ks)) c), I.laid (t' := tk) kp (Nat.le_refl _) (setO_new R), rfl, q _ c new hcn⟩
theorem bt_set : bootBuiltins "set" = some (.type "set") := by decide +kernel
theorem bt_sorted : bootBuiltins "sorted" = some (.builtin "sorted") := by decide +kernel
theorem bt_any : bootBuiltins "any" = some (.builtin "any") := by decide +kernel
section
variable {X : Cx} {T : List (Addr × Str)} {W : WX} {χ : XD} {δ : Dn} {w : Wp} {pos : Pos}
theorem RepL.ofInts {K : PySem.W.Frag} {S : Hp} : ∀ ns : List Int, RepL K S (ns.map I) (ns.map V.int)
  | [] => rfl
  | n :: ns => ⟨V.int n, ns.map V.int, rfl, rfl, RepL.ofInts ns⟩
theorem pd_sortSet {e : Expr} {p p2 pos2 : Pos} {κ : D → Wp → Prop} (hc : X.calm = true) (hmS : X.mg "sorted" = none) (hmT : X.mg "set" = none)
    (h : PD X T W χ e δ w fun d w1 => ∃ ks : List Int, Lk w1 d (ks.map I) ∧ ks.length ≤ 60 ∧ ∀ out : List Int, out.Pairwise (· < ·) → (∀ k : Int, k ∈ out ↔ k ∈ ks) → κ (.lst (out.map I)) w1)
    (hg1 : Gl X "sorted" := by rfl) (hg2 : Gl X "set" := by rfl) (na : starEach [e] X.env = (false, eval e X.env) :: starEach [] X.env := by rfl)
    (nb : starEach [.Call (.Name "set" p2) [e] [] pos2] X.env = (false, eval (.Call (.Name "set" p2) [e] [] pos2) X.env) :: starEach [] X.env := by rfl) :
    PD X T W χ (.Call (.Name "sorted" p) [.Call (.Name "set" p2) [e] [] pos2] [] pos) δ w κ := fun F σ S H Q hE hW hX hK => by
  refine wp_pe (pe_callB (cr_sortedSet hc) hg1 hmS bt_sorted (pa_cons (pe_callTy (cr_setL hc) hg2 hmT bt_set (pa_cons (pe_wp e) pa_nil na) (by decide) (by decide) na) pa_nil nb) (by decide) (by decide) nb) ?_
  refine h F σ S H _ hE hW hX fun d w1 v S1 H1 k s1 W1 r => ?_
  obtain ⟨ks, lk, hz, k⟩ := k
  obtain ⟨a, xs, rfl, h1, h2⟩ := lk.at_ W1 r
  have e2 := h2.ints
  subst e2
  refine ⟨a, ks, rfl, SqL.of h1, by omega, fun q c hq hcn => ?_⟩
  have W2 : World X.K T S1 w1 F (upd H1 q (SetO X.w q (fun j => decide (j ∈ ks)) c)) := W1.junk hq
  refine ⟨q, _, c, rfl, upd_same, by omega, fun out p hs hm hl hp => ?_⟩
  have s2 : Same S1 (upd S1 p (.lst (out.map V.int))) := same_upd (W2.free hp).1
  exact hK _ w1 _ _ _ (k out hs fun j => by rw [hm j, decide_eq_true_eq]) (s1.trans s2) (W2.laid hp fun _ z => by cases z) ⟨p, _, rfl, upd_same, RepL.ofInts out⟩
/-! ### the truth of a list -/
theorem ptd_lst {e : Expr} {κ : Bool → Wp → Prop} (h : PD X T W χ e δ w fun d w1 => ∃ ds, Lk w1 d ds ∧ κ (!ds.isEmpty) w1)
    (he : ∀ whole, isTrue e X.env whole = (do let v ← whole; standAt e.pos; holding [v] (truthy v)) := by intro _; rfl) : PTD X T W χ e δ w κ := fun F σ S H Q hE hW hX hK =>
  wp_pt (pt_truth (pe_wp e) he) (by
    refine h F σ S H _ hE hW hX fun d w1 v S1 H1 k s1 W1 r => ?_
    obtain ⟨ds, lk, k⟩ := k
    obtain ⟨a, xs, rfl, h1, h2⟩ := lk.at_ W1 r
    refine ⟨!ds.isEmpty, .inl ⟨xs, SqL.of h1, ?_⟩, hK _ w1 S1 H1 k s1 W1⟩
    have e := h2.length
    cases xs <;> cases ds <;> first | rfl | (simp at e))
/-! ### slices with any bounds -/
theorem pd_slToE {e hi : Expr} {p2 : Pos} {κ : D → Wp → Prop} (h : PD X T W χ e δ w fun d w1 => PD X T W χ hi δ w1 fun u w2 => ∃ (ds : List D) (n : Nat), LstD d ds ∧ u = I (n : Int) ∧ κ (.lst (ds.take n)) w2) :
    PD X T W χ (.Subscript e (.Slice none (some hi) none p2) pos) δ w κ := fun F σ S H Q hE hW hX hK =>
  wp_pe (pe_slice sl_list (pe_wp e) po_none (po_some (pe_wp hi))) (by
    refine h F σ S H _ hE hW hX fun d w1 v S1 H1 k s1 W1 r => ?_
    refine k F σ S1 H1 _ (hE.mono s1) W1 (hX.mono s1) fun u w2 y S2 H2 k2 s2 W2 r2 => ?_
    obtain ⟨ds, n, hl, rfl, k2⟩ := k2
    obtain ⟨a, xs, rfl, h1, h2⟩ := hl.at_ W2 (r.mono s2)
    refine ⟨n, r2, a, xs, rfl, h1, fun p hp => ?_⟩
    rw [cut_to]
    have s3 : Same S2 (upd S2 p (.lst (xs.take n))) := same_upd (W2.free hp).1
    exact hK _ w2 _ _ _ k2 (s1.trans (s2.trans s3)) (W2.laid hp fun _ z => by cases z) ⟨p, _, rfl, upd_same, (h2.take n).mono s3⟩)
theorem pd_slFromE {e lo : Expr} {p2 : Pos} {κ : D → Wp → Prop} (h : PD X T W χ e δ w fun d w1 => PD X T W χ lo δ w1 fun u w2 => ∃ (ds : List D) (n : Nat), LstD d ds ∧ u = I (n : Int) ∧ κ (.lst (ds.drop n)) w2) :
    PD X T W χ (.Subscript e (.Slice (some lo) none none p2) pos) δ w κ := fun F σ S H Q hE hW hX hK =>
  wp_pe (pe_slice sl_list (pe_wp e) (po_some (pe_wp lo)) po_none) (by
    refine h F σ S H _ hE hW hX fun d w1 v S1 H1 k s1 W1 r => ?_
    refine k F σ S1 H1 _ (hE.mono s1) W1 (hX.mono s1) fun u w2 y S2 H2 k2 s2 W2 r2 => ?_
    obtain ⟨ds, n, hl, rfl, k2⟩ := k2
    obtain ⟨a, xs, rfl, h1, h2⟩ := hl.at_ W2 (r.mono s2)
    refine ⟨n, r2, a, xs, rfl, h1, fun p hp => ?_⟩
    rw [cut_from]
    have s3 : Same S2 (upd S2 p (.lst (xs.drop n))) := same_upd (W2.free hp).1
    exact hK _ w2 _ _ _ k2 (s1.trans (s2.trans s3)) (W2.laid hp fun _ z => by cases z) ⟨p, _, rfl, upd_same, (h2.drop n).mono s3⟩)
/-- xs[::-1] -/
theorem pd_revL {e : Expr} {j : Nat} {p1 p2 p3 : Pos} {κ : D → Wp → Prop} (h : PD X T W χ e δ w fun d w1 => ∃ ds, LstD d ds ∧ κ (.lst ds.reverse) w1) : PD X T W χ (.Subscript e (.Slice none none (some (.UnaryOp .USub (.Constant (.int 1) j p1) p2)) p3) pos) δ w κ := fun F σ S H Q hE hW hX hK =>
  wp_pe (pe_revL (pe_wp e)) (by
    refine h F σ S H _ hE hW hX fun d w1 v S1 H1 k s1 W1 r => ?_
    obtain ⟨ds, hl, k⟩ := k
    obtain ⟨a, xs, rfl, h1, h2⟩ := hl.at_ W1 r
    refine ⟨a, xs, rfl, h1, fun p hp => ?_⟩
    have s2 : Same S1 (upd S1 p (.lst xs.reverse)) := same_upd (W1.free hp).1
    exact hK _ w1 _ _ _ k (s1.trans s2) (W1.laid hp fun _ z => by cases z) ⟨p, _, rfl, upd_same, h2.rev.mono s2⟩)
theorem pssd_as {sts : List Stmt} {F : DL.Fin} (δ' : Dn) (e : δ = δ') (h : PSsD X T W χ sts δ' w F) : PSsD X T W χ sts δ w F := e ▸ h
/-! ### a op b op c -/
theorem ptd_chain {a b c : Expr} {op op' : CmpOp} {r r' : R2} {κ : Bool → Wp → Prop} (ho : OpR X (compareOp op) r) (ho' : OpR X (compareOp op') r')
    (h : PD X T W χ a δ w fun d w1 => PD X T W χ b δ w1 fun e w2 => VR2 X.K T r d e w2 fun z w3 => ∃ k : Bool, z = B k ∧ if k = true then PD X T W χ c δ w3 fun f w4 => VR2 X.K T r' e f w4 fun z' w5 => ∃ k' : Bool, z' = B k' ∧ κ k' w5 else κ false w3)
    (hm : lastMarks [op, op'] [b, c] = false := by with_unfolding_all rfl) : PTD X T W χ (.Compare a [op, op'] [b, c] pos) δ w κ := fun F σ S H Q hE hW hX hK =>
  wp_pt (pt_chain ho ho' (pe_wp a) (pe_wp b) (pe_wp c) hm) (by
    refine h F σ S H _ hE hW hX fun d w1 v S1 H1 k1 s1 W1 r1 => ?_
    refine k1 F σ S1 H1 _ (hE.mono s1) W1 (hX.mono s1) fun e w2 u S2 H2 k2 s2 W2 r2 => ?_
    refine k2 F S2 H2 v u _ W2 (r1.mono s2) r2 fun z w3 x S3 H3 k3 s3 W3 r3 => ?_
    obtain ⟨k, rfl, k3⟩ := k3
    have r3' : x = .bl k := r3
    refine ⟨k, r3', ?_⟩
    have ss := s1.trans (s2.trans s3)
    cases k with
    | true =>
      rw [if_pos rfl] at k3 ⊢
      refine k3 F σ S3 H3 _ (hE.mono ss) W3 (hX.mono ss) fun f w4 y S4 H4 k4 s4 W4 r4 => ?_
      refine k4 F S4 H4 u y _ W4 (r2.mono (s3.trans s4)) r4 fun z' w5 x5 S5 H5 k5 s5 W5 r5 => ?_
      obtain ⟨k', rfl, k5⟩ := k5
      have r5' : x5 = .bl k' := r5
      exact ⟨k', r5', hK k' w5 S5 H5 k5 (ss.trans (s4.trans s5)) W5⟩
    | false =>
      rw [if_neg Bool.false_ne_true] at k3 ⊢
      exact ⟨false, rfl, hK false w3 S3 H3 k3 ss W3⟩)
end
section
variable {K : PySem.W.Frag} {T : List (Addr × Str)} {w : Wp} {κ : D → Wp → Prop}
theorem va_any {bs : List Bool} (k : κ (B (bs.any id)) w) : VRA K T (rAny K) [.lst (bs.map B)] w κ := fun F S H xs Q hW r hK => by
  obtain ⟨y, ys, rfl, h1, h2⟩ := r
  obtain ⟨a, zs, rfl, h3, h4⟩ := h1
  have h2' : ys = [] := h2
  subst h2'
  have e : bs.map B = (bs.map V.bl).map D.val := by
    rw [List.map_map]
    rfl
  rw [e] at h4
  have e2 := h4.vals
  subst e2
  exact ⟨a, bs, rfl, SqL.of (hW.same _ _ h3), hK _ w _ S H k (Same.refl _) hW rfl⟩
theorem va_intB {b : Bool} (k : κ (I (if b then 1 else 0)) w) : VRA K T (fun xs H Q => (∃ i, xs = [.int i] ∧ Q (.int i) H) ∨ ∃ k, xs = [.bl k] ∧ Q (.int (if k then 1 else 0)) H) [B b] w κ := fun F S H xs Q hW r hK => by
  obtain ⟨y, ys, rfl, h1, h2⟩ := r
  have h1' : y = .bl b := h1
  have h2' : ys = [] := h2
  subst h1' h2'
  exact .inr ⟨b, rfl, hK _ w _ S H k (Same.refl _) hW rfl⟩
theorem va_minI {ns : List Int} (h0 : 0 < ns.length) (k : ∀ m, m ∈ ns → (∀ y, y ∈ ns → m ≤ y) → κ (I m) w) : VRA K T (rMin K) [.lst (ns.map I)] w κ := fun F S H xs Q hW r hK => by
  obtain ⟨y, ys, rfl, h1, h2⟩ := r
  obtain ⟨a, zs, rfl, h3, h4⟩ := h1
  have h2' : ys = [] := h2
  subst h2'
  have e2 := h4.ints
  subst e2
  exact ⟨a, ns, rfl, SqL.of (hW.same _ _ h3), h0, fun m h5 h6 => hK _ w _ S H (k m h5 h6) (Same.refl _) hW rfl⟩
/-- list(xs), xs standing or owned -/
theorem va_listK {d : D} {ds : List D} (l : Lk w d ds) (k : κ (.lst ds) w) : VRA K T (rListOf K) [d] w κ := fun F S H xs Q hW r hK => by
  obtain ⟨y, ys, rfl, h1, h2⟩ := r
  obtain ⟨a, zs, rfl, h3, h4⟩ := l.at_ hW h1
  have h2' : ys = [] := h2
  subst h2'
  refine ⟨a, zs, rfl, .inl (SqL.of h3), fun p hp => ?_⟩
  have s1 : Same S (upd S p (.lst zs)) := same_upd (hW.free hp).1
  exact hK _ w _ _ _ k s1 (hW.laid hp fun _ z => by cases z) ⟨p, _, rfl, upd_same, h4.mono s1⟩
theorem flatI : ∀ ys : List Int, (ys.map V.int).all flatV = true
  | [] => rfl
  | y :: ys => by
    rw [List.map_cons, List.all_cons, flatI ys]
    rfl
theorem inV_I (y : Int) : ∀ ys : List Int, inV (.int y) (ys.map V.int) = decide (y ∈ ys)
  | [] => rfl
  | z :: zs => by
    have ih := inV_I y zs
    unfold inV at ih ⊢
    rw [List.map_cons, List.any_cons, ih]
    have e : eqV (.int z) (.int y) = decide (z = y) := by
      show (z == y) = _
      by_cases h : z = y
      · rw [decide_eq_true h, h]
        exact beq_self_eq_true y
      · rw [decide_eq_false h]
        exact beq_eq_false_iff_ne.mpr h
    rw [e, Bool.eq_iff_iff, Bool.or_eq_true, decide_eq_true_eq, decide_eq_true_eq, decide_eq_true_eq, List.mem_cons]
    exact or_congr eq_comm Iff.rfl
theorem vr_inK {y : Int} {d : D} {ys : List Int} (l : Lk w d (ys.map I)) (k : κ (B (decide (y ∈ ys))) w) : VR2 K T (rIn K false) (I y) d w κ := fun F S H x z Q hW r1 r2 hK => by
  obtain ⟨p, us, rfl, h1, h2⟩ := l.at_ hW r2
  have e := h2.ints
  have r1' : x = .int y := r1
  subst e r1'
  refine ⟨p, _, rfl, .inl (SqL.of h1), rfl, flatI ys, ?_⟩
  refine hK _ w _ S H k (Same.refl _) hW ?_
  show V.bl (inV (.int y) (ys.map V.int)) = .bl _
  rw [inV_I]
theorem vr_ninK {y : Int} {d : D} {ys : List Int} (l : Lk w d (ys.map I)) (k : κ (B (!decide (y ∈ ys))) w) : VR2 K T (rIn K true) (I y) d w κ := fun F S H x z Q hW r1 r2 hK => by
  obtain ⟨p, us, rfl, h1, h2⟩ := l.at_ hW r2
  have e := h2.ints
  have r1' : x = .int y := r1
  subst e r1'
  refine ⟨p, _, rfl, .inl (SqL.of h1), rfl, flatI ys, ?_⟩
  refine hK _ w _ S H k (Same.refl _) hW ?_
  show V.bl (!inV (.int y) (ys.map V.int)) = .bl _
  rw [inV_I]
end
end DL

set_option Elab.async false
set_option linter.all false
set_option maxRecDepth 100000
set_option maxHeartbeats 2000000
/-! def f(*v, k), and f(*e, k = d). -/
namespace DL
open PySem PySem.Spec PyProof.Rows L2 LamX
/-! ### the arguments: a lone star, then keywords -/
section
variable {M : Model} {A : Around} {E : Value → Shared → Prop} {s : Shared}
theorem lone_kw {f : Value} {x : Sem Value} {pos : Pos} {kws : List (Option Str × Sem Value)} {Q : Args → Shared → Prop} (all : kws.all (·.1.isSome) = true)
    (h : wpAny M A x (fun v s1 => wpAny M A (evalAll (kws.map (·.2))) (fun zs s2 => PySem.W.StarOf M A E v (fun vs s3 => Q ⟨vs, (kws.filterMap (·.1)).zip zs⟩ s3) s2) E s1) E s) :
    wpAny M A (evalArgs f true [(true, (do let v ← x; standAt pos; pure v))] kws) Q E s := by
  unfold evalArgs
  first
    | refine wpAny_bind (wpAny_bind (wpAny_mono h (fun v s1 h1 => wpAny_bind (wpAny_standAt (wpAny_pure ?_))) fun _ _ z => z))
    | refine wpAny_bind (wpAny_bind (wpAny_bind (wpAny_mono h (fun v s1 h1 => wpAny_bind (wpAny_standAt (wpAny_pure (wpAny_pure ?_)))) fun _ _ z => z)))
  refine wpAny_holding ?_
  simp only [all, if_true]
  refine wpAny_bind (wpAny_mono h1 (fun zs s2 h2 => ?_) fun _ _ z => z)
  unfold PySem.W.StarOf at h2
  refine wpAny_bind (wpAny_bind (wpAny_mono h2 (fun b s3 h3 => ?_) fun _ _ z => z))
  obtain ⟨rfl, h3⟩ := h3
  have go := wpAny_holding (vs := ((kws.filterMap (·.1)).zip zs).map (·.2)) (wpAny_mono h3 (fun vs s4 h4 => (wpAny_pure h4 : wpAny M A (pure (⟨vs, (kws.filterMap (·.1)).zip zs⟩ : Args)) Q E s4)) fun _ _ z => z)
  have go2 := wpAny_holding (vs := ((kws.filterMap (·.1)).zip zs).map (·.2)) (wpAny_mono h3 (fun vs s4 h4 => (wpAny_pure h4 : wpAny M A (pure (⟨vs, (kws.filterMap (·.1)).zip zs⟩ : Args)) Q E s4)) fun _ _ z => z)
  try simp only [Bool.false_eq_true, if_false]
  exact wpAny_holding (wpAny_mono h3 (fun vs s4 h4 => wpAny_pure h4) fun _ _ z => z)
theorem call_kws {f : Value} {fst : List Value} {pos : Pos} {Q : Value → Shared → Prop} {P : Heap → Prop} {args : List (Bool × Sem Value)} {kws : List (Option Str × Sem Value)} (st : args.any (·.1) = true)
    (hk : ∀ h, P h → ∃ k, (k = Keeper.frame ∨ k = Keeper.machine ∨ k = Keeper.boundFrame) ∧ PySem.W.Looks M h (keeperOf f) k)
    (h : wpAny M A (evalArgs f true args kws) (fun a s1 => P s1.heap ∧ wpAny M A (call f (fst ++ a.pos) a.kw) Q E s1) E s) : wpAny M A (callWith pos f fst args kws) Q E s := by
  unfold callWith
  refine wpAny_bind (wpAny_holding (wpAny_mono h (fun a s1 h1 => wpAny_bind (wpAny_standAt ?_)) fun _ _ z => z))
  obtain ⟨k, hk', L⟩ := hk _ h1.1
  simp only [st, Bool.true_or]
  refine wpAny_bind (L.here ?_)
  have tl : ∀ {t : Sem Value}, wpAny M A t Q E s1 → wpAny M A (t >>= fun r => holding [r] point >>= fun _ => pure r) Q E s1 := fun ht =>
    wpAny_bind (wpAny_mono ht (fun r s2 hr => wpAny_bind (wpAny_holding (wpAny_point (wpAny_pure hr)))) fun _ _ z => z)
  have mk (u : Value) : wpAny M A (callMarked u f (fst ++ a.pos) a.kw) Q E s1 := by
    unfold callMarked
    exact Calls.wpAny_keep h1.2
  rcases hk' with rfl | rfl | rfl <;> dsimp only <;> first | exact tl (mk _) | exact tl (wpAny_operating h1.2)
end
/-! ### the def -/
abbrev SpK := List V → V → Hp → VK → XK → Prop
def FnS (P : Program) (w : PySem.World) (K : PySem.W.Frag) (mg : Str → Option Value) (base : Heap) (CX : CXT) (k : Nat) (f : Addr) (nk : Str) (sp : SpK) : Prop :=
  ∀ (A : Around) (outer : List Env) (s : Shared) (H : Hp) (us : List Value) (u : Value) (vs : List V) (v : V) (Q : VK) (E : XK), Room k A → Env0 P w K mg base A outer s H → Vals vs us → RelV v u → sp vs v H Q E →
    codeAny (model P w) A (.call (.ref f) ⟨us, [(nk, u)]⟩) (CR CX outer P w H s Q E) s
section
variable {CX : CXT} {P : Program} {w : PySem.World} {K : PySem.W.Frag} {mg : Str → Option Value} {base : Heap} {k : Nat} {f : Addr} {N : List Str} {sp : Sp} {x qual nk nv : Str} {st : Stmt} {fd : FuncData}
theorem fn_starK (F : L2.Fun K x qual st f fd) (S : FnScope N [nk, nv] (defScope st)) (hCX : StX.CXUp CX)
    (hb : ∀ (kV doc pm : Value) (an : Option Addr) (cdv ct : Value) (us : List Value) (u : Value), bindArgs (PySem.W.fnOf x qual (defArgs st) (defBody st) (defScope st) .none kV doc pm an cdv ct) ⟨us, [(nk, u)]⟩ = (newTuple us >>= fun t => pure [(nk, u), (nv, t)]))
    (body : ∀ (cdv : Value) (A : Around) (outer : List Env) (s : Shared) (H : Hp) (vs : List V) (Q : VK) (E : XK), Room k (A.deeper (envOfC qual (defScope st) s.heap.objs.size f cdv)) → sp vs H Q E →
      ∃ t, PSs (cxOf CX P w K mg base N qual (defScope st) f cdv A outer s H E) (defBody st) t ∧ t { nx := fun _ H' => Q .non H', rt := Q } (start N vs) H) :
    FnS P w K mg base CX (k + 1) f nk (fun vs v H Q E => vs.length ≤ sizeLine ∧ ∀ p, H p = Option.none → sp [v, V.ref p] (upd H p (.tup vs)) Q E) := by
  intro A outer s H us u vs v Q E hr e0 r rv hsp
  obtain ⟨hz, hq⟩ := hsp
  obtain ⟨oc, od, kV, doc, pm, an, cdv, ct, osl, rfl, lk, hcd⟩ := F.ex
  have new0 : H s.heap.objs.size = Option.none := e0.hok.fresh (Nat.le_refl _)
  have lz : us.length ≤ sizeLine := by rw [← r.length]; exact hz
  refine StX.run_bnd lk hcd S hr e0 (G := fun xs H2 => ∃ p, H p = Option.none ∧ xs = [v, V.ref p] ∧ H2 = upd H p (.tup vs)) (fun A' Ex Q' h => ?_) fun s2 H2 xs ⟨p, hp, ex, eH⟩ hr' => ?_
  · rw [hb]
    refine wpAny_bind (wpAny_newTuple (wpAny_pure ?_) lz)
    have ob : ObjOk P w (upd H s.heap.objs.size (.tup vs)) (s.heap.push ({ cls := .type "tuple", data := .seq us.toArray } : Obj)) s.heap.objs.size (.tup vs) := ⟨hz, us, r, ⟨_, Heap.get?_push_size _ rfl, rfl, _, rfl⟩⟩
    have un := StX.un_laid (fs := frs outer) (s := s) (o := ({ cls := .type "tuple", data := .seq us.toArray } : Obj)) (u := .tup vs) new0
    exact h _ _ [v, V.ref s.heap.objs.size] [u, Value.ref s.heap.objs.size] (StX.env0_laid e0 ob) un rfl (fun e s' => hCX outer s H _ _ E e s' un (fun b o q => Heap.get?_push_of_some _ q) rfl) (.cons rv (.cons rfl .nil)) rfl ⟨_, new0, rfl, rfl⟩
  · subst ex eH
    exact body cdv A outer s2 _ _ Q E hr' (hq p hp)
end
/-! ### the call -/
section
variable {X : Cx} {T : List (Addr × Str)} {W : WX} {χ : XD} {δ : Dn} {w : Wp} {pos : Pos}
theorem run_fnS {CX : CXT} {k : Nat} {f : Addr} {nk : Str} {sp : SpK} {E : XK} {pins : List (Addr × Obj)} {σ : L2.St} {H : Hp} {s : Shared} {Q : VK} {us : List Value} {u : Value} {vs : List V} {v : V} (F : FnS X.prog X.w X.K X.mg X.base CX k f nk sp) (hr : Room k X.A)
    (hx : PassesAt CX X σ E) (I : Inv X pins σ H s) (r : Vals vs us) (rv : RelV v u) (h : sp vs v H Q E) : wpAny (model X.prog X.w) X.A (call (.ref f) us [(nk, u)]) (EP X pins σ Q) X.xe s := by
  refine wpAny_call (codeAny_mono (F X.A X.stack s H us u vs v Q E hr I.env0 r rv h) fun r s' hq => ?_)
  cases r with
  | error e => exact hx pins H s e s' I hq
  | ok fl =>
    cases fl with
    | ret u => exact I.after hq
    | next => exact False.elim hq
    | brk => exact False.elim hq
    | cont => exact False.elim hq
theorem pe_callSK {CX : CXT} {k : Nat} {f : Addr} {nk : Str} {sp : SpK} {E : L2.St → XK} {x : Str} {p sp_ kp : Pos} {e e2 : Expr} {te te2 : TE} (F : FnS X.prog X.w X.K X.mg X.base CX k f nk sp) (hr : Room k X.A) (hm : X.mg x = some (.ref f)) (hk : PySem.W.keepIn X.K (.ref f) = true)
    (hx : ∀ σ, PassesAt CX X σ (E σ)) (he : PE X e te) (he2 : PE X e2 te2) (hg : Gl X x := by rfl) (hd : (x == ("__debug__" : Str)) = false := by decide) (hst : starEach [.Starred e sp_] X.env = [(true, eval e X.env)] := by rfl)
    (hall : (backToKw pos (keywordEach [⟨some nk, e2, kp⟩] X.env)).all (·.1.isSome) = true := by rfl) (hks : (backToKw pos (keywordEach [⟨some nk, e2, kp⟩] X.env)).filterMap (·.1) = [nk] := by rfl) :
    PE X (.Call (.Name x p) [.Starred e sp_] [⟨some nk, e2, kp⟩] pos) (fun σ H Q => te σ H fun y H1 => ∃ a, y = V.ref a ∧ te2 σ H1 fun z H2 => ∃ xs, (SqT X.K H2 a xs ∨ SqL X.K H2 a xs) ∧ sp xs z H2 Q (E σ)) := by
  refine ⟨fun pins s σ H Q I h => ?_⟩
  refine wpAny_Call_Name_kw (ld_glob I hg hm ?_ hd)
  rw [hst]
  refine call_kws rfl (PySem.W.keeps_K hk) (lone_kw hall (thn (he.run pins s σ H _ I h) fun v s1 ⟨y, H1, I1, ry, a, ey, q⟩ => ?_))
  subst ey
  obtain rfl : v = Value.ref a := ry
  refine thn ((pk_cons he2 pk_nil).run pos pins s1 σ H1 (fun zs H2 => match zs with
    | [z] => ∃ xs, (SqT X.K H2 a xs ∨ SqL X.K H2 a xs) ∧ sp xs z H2 Q (E σ)
    | _ => False) I1 q) fun zs s2 ⟨ws, H2, I2, rz, q2⟩ => ?_
  match ws, q2 with
  | [z], q2 =>
    obtain ⟨xs, hxs, q3⟩ := q2
    obtain ⟨u, rfl, ru⟩ := rz.one
    refine StX.star_any I2 hxs fun us s3 I3 r3 => ⟨I3.kIn, ?_⟩
    rw [hks]
    exact run_fnS F hr (hx σ) I3 r3 ru q3
end
end DL

set_option Elab.async false
set_option linter.all false
set_option maxRecDepth 100000
set_option maxHeartbeats 2000000
/-! C.m(..), m a class method, in data; cls(..) within it. -/
namespace DL
open PySem PySem.Spec PyProof.Rows L2 LamX
section
variable {X : Cx} {T : List (Addr × Str)} {W : WX} {χ : XD} {δ : Dn} {w : Wp} {pos : Pos}
theorem pe_cmetD {CX : CXT} {k : Nat} {C p g : Addr} {mc : Value} {m : Str} {fd : FuncData} {ps : List Str} {sp : Sp} {E : L2.St → XK} {o e : Expr} {es : List Expr} {ta : TE} {t : TA} {apos : Pos} {pl : Sem Bool} (he : PE X o ta) (r : ClX.CRead X.K C mc) (c : ClX.CMet X.K C mc m p g)
    (G : FnOk X.prog X.w X.K X.mg X.base CX k g fd ps sp) (hr : Room k X.A) (hb : Binds X.K fd ps []) (hx : ∀ σ, PassesAt CX X σ (E σ)) (ha : PA X (e :: es) t)
    (hst : starEach (e :: es) X.env = (false, eval e X.env) :: starEach es X.env := by rfl) (hpl : (backTo pos (starEach es X.env)).any (·.1) = false := by rfl)
    (ht : eval (.Call (.Attribute o m apos) (e :: es) [] pos) X.env = (do
      let ov ← eval o X.env
      standAt apos.atName
      let (f, first) ← holding [ov] (getMethod ov m pl)
      callWith pos f first (backTo pos (starEach (e :: es) X.env)) (backToKw pos (keywordEach [] X.env))) := by rfl) :
    PE X (.Call (.Attribute o m apos) (e :: es) [] pos) (fun σ H Q => ta σ H fun x H1 => x = .ref C ∧ t σ H1 fun vs H2 => sp (.ref C :: vs) H2 Q (E σ)) := by
  refine ⟨fun pins s σ H Q I h => ?_⟩
  refine PySem.W.methodCall_KW (pl := pl) (thn (he.run pins s σ H _ I h) fun u s1 ⟨x, H1, I1, rx, ex, q⟩ => ?_) ht
  subst ex
  obtain rfl : u = Value.ref C := rx
  refine ClX.getmethcm_ok I1 r c fun s2 I2 => ?_
  refine ClX.callwith_cm I2 (ClX.base_none I1 (Nat.le_refl _)) c.fi (thn (ha.run pos _ s2 σ H1 _ I2 q) fun us s3 ⟨vs, H2, I3, rv, q2⟩ => ⟨⟨ClX.pin_at I3, I3.kIn⟩, ?_⟩) hst hpl
  have r2 : Vals (.ref C :: vs) (Value.ref C :: us) := .cons rfl rv
  have hl : ((Value.ref C :: us) ++ []).length = ps.length := by
    rw [List.append_nil, ← r2.length]
    exact G.len _ _ _ _ q2
  have bb := hb _ (Value.ref C :: us) I3.kIn hl
  rw [List.append_nil] at bb
  have z : wpAny (model X.prog X.w) X.A (call (.ref s1.heap.objs.size) us) (EP X ((s1.heap.objs.size, PySem.W.methodObj (.ref g) (.ref C)) :: pins) σ Q) X.xe s3 := by
    refine wpAny_call (PySem.W.method_call (ClX.pin_at I3) (codeAny_mono (G.run X.A X.stack s3 H2 ⟨Value.ref C :: us, []⟩ (Value.ref C :: us) _ Q (E σ) hr I3.env0 bb r2 q2) fun r s' hq => ?_))
    cases r with
    | error e => exact hx σ _ H2 s3 e s' I3 hq
    | ok fl =>
      cases fl with
      | ret u => exact I3.after hq
      | next => exact False.elim hq
      | brk => exact False.elim hq
      | cont => exact False.elim hq
  exact thn z fun _ _ y => ClX.unpinE y
/-- c(e, ..), c a name that holds the class at C -/
theorem pe_makeL {CX : CXT} {k : Nat} {f C : Addr} {fd : FuncData} {ps : List Str} {sp : Sp} {E : L2.St → XK} {x : Str} {p : Pos} {e : Expr} {es : List Expr} {tf : TE} {t : TA} (hf : PE X (.Name x p) tf) (M : Mk X.K C f) (G : FnOk X.prog X.w X.K X.mg X.base CX k f fd ps sp) (hr : Room (k + 1) X.A) (hb : Binds X.K fd ps [])
    (hx : ∀ σ, PassesAt CX X σ (E σ)) (ha : PA X (e :: es) t) (he : starEach (e :: es) X.env = (false, eval e X.env) :: starEach es X.env := by rfl) (hpl : (backTo pos (starEach es X.env)).any (·.1) = false := by rfl) :
    PE X (.Call (.Name x p) (e :: es) [] pos) (fun σ H Q => tf σ H fun y H0 => y = .ref C ∧ tMakeSD C sp E t σ H0 Q) := by
  refine ⟨fun pins s σ H Q I h => ?_⟩
  refine wpAny_Call_Name_kw (thn (hf.run pins s σ H _ I h) fun u s0 ⟨y, H0, I0, r0, ey, q0⟩ => ?_)
  subst ey
  obtain rfl : u = Value.ref C := r0
  refine PySem.W.callWith_K (h₀ := X.base) I0.ok.mod.kin M.kp (thn (ha.run pos pins s0 σ H0 _ I0 q0) fun us s1 ⟨vs, H1, I1, r, q⟩ => ⟨I1.kIn, ?_⟩) he hpl
  exact run_makeSD M G hr hb (hx σ) I1 r q
theorem pd_makeL {CX : CXT} {k : Nat} {f C : Addr} {fd : FuncData} {ps : List Str} {sp : SpD} {x : Str} {p : Pos} {e : Expr} {es : List Expr} {κ : D → Wp → Prop} (M : Mk X.K C f) (G : FnOk X.prog X.w X.K X.mg X.base CX k f fd ps (spOf X.K T sp)) (hr : Room (k + 1) X.A) (hb : Binds X.K fd ps []) (hx : ∀ σ, PassesAt CX X σ (WE W σ))
    (h : PD X T W χ (.Name x p) δ w fun d0 w0 => d0 = R C ∧ PAD X T W χ (e :: es) δ w0 fun ds w1 => ∀ a dx, w1 a = none → sp (R a :: ds) (wu w1 a (.ins C dx [] [])) (fun d w2 => d = N ∧ ∃ ns es, w2 a = some (.ins C dx ns es) ∧ κ (.obj C ns es) (wd w2 a)) (fun C ns fs w2 => χ C ns fs (wd w2 a)))
    (he : starEach (e :: es) X.env = (false, eval e X.env) :: starEach es X.env := by rfl) (hpl : (backTo pos (starEach es X.env)).any (·.1) = false := by rfl) :
    PD X T W χ (.Call (.Name x p) (e :: es) [] pos) δ w κ := fun F σ S H Q hE hW hX hK => wp_pe (pe_makeL (pe_wp _) M G hr hb hx (pa_wp _) he hpl) (by
  refine h F σ S H _ hE hW hX fun d0 w0 v0 S0 H0 k0 s0 W0 r0 => ?_
  obtain ⟨rfl, k0⟩ := k0
  refine ⟨r0, ?_⟩
  refine k0 F σ S0 H0 _ (hE.mono s0) W0 (hX.mono s0) fun ds w1 vs S1 H1 k s1 W1 r => ?_
  intro a dx na ndx nad
  have W2 := (W1.junk (o := .own a) ndx).take (a := a) (h := .ins C dx [] []) (o := .ins C dx []) (by rw [upd_ne (Ne.symm nad)]; exact na) ⟨[], rfl, rfl, rfl⟩
  refine ⟨R a :: ds, _, F, S1, _, _, k a dx (W1.free na).2.1, ⟨_, vs, rfl, rfl, r⟩, W2, ?_, fun C ns fs w' d S' H' x s3 W3 xr => hX C ns fs _ d S' H' x (s0.trans (s1.trans s3)) (W3.drop a) xr⟩
  rintro d w' v S' H' ⟨rfl, ns, es, ew, kk⟩ s2 W3 rv
  refine ⟨rv, ?_⟩
  obtain ⟨o, e1, r3, W4⟩ := W3.freeze ew
  obtain ⟨ys, rfl, hys, r4⟩ := r3
  have s3 : Same S' (upd S' a (.ins C dx ys)) := same_upd e1
  exact hK _ _ _ _ _ kk (s0.trans (s1.trans (s2.trans s3))) W4 ⟨a, dx, ys, rfl, upd_same, hys, r4.mono s3⟩)
theorem pd_cmet {CX : CXT} {k : Nat} {C p g : Addr} {mc : Value} {m : Str} {fd : FuncData} {ps : List Str} {sp : SpD} {o e : Expr} {es : List Expr} {apos : Pos} {pl : Sem Bool} {κ : D → Wp → Prop} (r : ClX.CRead X.K C mc) (c : ClX.CMet X.K C mc m p g)
    (G : FnOk X.prog X.w X.K X.mg X.base CX k g fd ps (spOf X.K T sp)) (hr : Room k X.A) (hb : Binds X.K fd ps []) (hx : ∀ σ, PassesAt CX X σ (WE W σ)) (h : PD X T W χ o δ w fun d w1 => d = R C ∧ PAD X T W χ (e :: es) δ w1 fun ds w2 => sp (R C :: ds) w2 κ χ)
    (hst : starEach (e :: es) X.env = (false, eval e X.env) :: starEach es X.env := by rfl) (hpl : (backTo pos (starEach es X.env)).any (·.1) = false := by rfl)
    (ht : eval (.Call (.Attribute o m apos) (e :: es) [] pos) X.env = (do
      let ov ← eval o X.env
      standAt apos.atName
      let (f, first) ← holding [ov] (getMethod ov m pl)
      callWith pos f first (backTo pos (starEach (e :: es) X.env)) (backToKw pos (keywordEach [] X.env))) := by rfl) :
    PD X T W χ (.Call (.Attribute o m apos) (e :: es) [] pos) δ w κ := fun F σ S H Q hE hW hX hK =>
  wp_pe (pe_cmetD (pe_wp o) r c G hr hb hx (pa_wp _) hst hpl ht) (by
    refine h F σ S H _ hE hW hX fun d w1 v S1 H1 k s1 W1 rv => ?_
    obtain ⟨rfl, k⟩ := k
    refine ⟨rv, ?_⟩
    refine k F σ S1 H1 _ (hE.mono s1) W1 (hX.mono s1) fun ds w2 vs S2 H2 k2 s2 W2 r2 => ?_
    exact ⟨R C :: ds, w2, F, S2, κ, χ, k2, ⟨_, vs, rfl, rfl, r2⟩, W2, hK.mono (s1.trans s2), fun C ns fs w' d S' H' x s3 W3 xr => hX C ns fs w' d S' H' x (s1.trans (s2.trans s3)) W3 xr⟩)
end
end DL

set_option Elab.async false
set_option linter.all false
set_option maxRecDepth 100000
set_option maxHeartbeats 2000000
/-! Comprehensions of three sources. -/
namespace L2
open PySem PySem.Spec PyProof.Rows

theorem turn3_0 (elt t0 i0 t1 i1 t2 i2 : Expr) (ifs0 ifs1 ifs2 : List Expr) (scope : Scope) (pos : Pos) (it acc : Value) (env : Env) :
    compTurn (.ListComp elt [⟨t0, i0, ifs0, 0⟩, ⟨t1, i1, ifs1, 0⟩, ⟨t2, i2, ifs2, 0⟩] scope pos) 0 it acc env = (do
      standAt i0.pos
      match ← pyNext it with
      | none => pure (.done .next)
      | some v =>
        letOwnedTupleGo t0 it v
        assign t0 env v
        let mut ok := true
        for c in ifs0 do
          if ok then ok ← isTrue c env (eval c env)
        if ok then
          let x ← eval i1 env
          standAt i1.pos
          let x ← foldedSetIterable i1 env x
          let _ ← runOwn (.compStart (.ListComp elt [⟨t0, i0, ifs0, 0⟩, ⟨t1, i1, ifs1, 0⟩, ⟨t2, i2, ifs2, 0⟩] scope pos) 1 (← holding [x] (pyIter x)) acc env) env
        again (.compLoop (.ListComp elt [⟨t0, i0, ifs0, 0⟩, ⟨t1, i1, ifs1, 0⟩, ⟨t2, i2, ifs2, 0⟩] scope pos) 0 it acc env)) := by rfl
theorem turn3_1 (elt t0 i0 t1 i1 t2 i2 : Expr) (ifs0 ifs1 ifs2 : List Expr) (scope : Scope) (pos : Pos) (it acc : Value) (env : Env) :
    compTurn (.ListComp elt [⟨t0, i0, ifs0, 0⟩, ⟨t1, i1, ifs1, 0⟩, ⟨t2, i2, ifs2, 0⟩] scope pos) 1 it acc env = (do
      standAt i1.pos
      match ← pyNext it with
      | none => pure (.done .next)
      | some v =>
        letOwnedTupleGo t1 it v
        assign t1 env v
        let mut ok := true
        for c in ifs1 do
          if ok then ok ← isTrue c env (eval c env)
        if ok then
          let x ← eval i2 env
          standAt i2.pos
          let x ← foldedSetIterable i2 env x
          let _ ← runOwn (.compStart (.ListComp elt [⟨t0, i0, ifs0, 0⟩, ⟨t1, i1, ifs1, 0⟩, ⟨t2, i2, ifs2, 0⟩] scope pos) 2 (← holding [x] (pyIter x)) acc env) env
        again (.compLoop (.ListComp elt [⟨t0, i0, ifs0, 0⟩, ⟨t1, i1, ifs1, 0⟩, ⟨t2, i2, ifs2, 0⟩] scope pos) 1 it acc env)) := by rfl
theorem turn3_2 (elt t0 i0 t1 i1 t2 i2 : Expr) (ifs0 ifs1 ifs2 : List Expr) (scope : Scope) (pos : Pos) (it acc : Value) (env : Env) :
    compTurn (.ListComp elt [⟨t0, i0, ifs0, 0⟩, ⟨t1, i1, ifs1, 0⟩, ⟨t2, i2, ifs2, 0⟩] scope pos) 2 it acc env = (do
      standAt i2.pos
      match ← pyNext it with
      | none => pure (.done .next)
      | some v =>
        letOwnedTupleGo t2 it v
        assign t2 env v
        let mut ok := true
        for c in ifs2 do
          if ok then ok ← isTrue c env (eval c env)
        if ok then
          (do let _ ← call (.builtin "list.append") [acc, ← eval elt env])
        again (.compLoop (.ListComp elt [⟨t0, i0, ifs0, 0⟩, ⟨t1, i1, ifs1, 0⟩, ⟨t2, i2, ifs2, 0⟩] scope pos) 2 it acc env)) := by rfl

section
variable {prog : Program} {w : World} {A : Around} {R : Result → Shared → Prop} {s : Shared} {elt t0 i0 t1 i1 t2 i2 : Expr} {ifs0 ifs1 ifs2 : List Expr} {scope : Scope} {pos : Pos} {it acc : Value} {env : Env}
/-- the loop of the first clause -/
theorem loop3_0 (hs : ∀ x, foldedSetIterable i1 env x = pure x) (I : Nat → Shared → Prop)
    (turn : ∀ n s, I n s → wpAny (model prog w) A (pyNext it) (fun r q1 => match r with
      | none => R (.ok .next) q1
      | some v => wpAny (model prog w) A (letOwnedTupleGo t0 it v) (fun _ q1x => wpAny (model prog w) A (assign t0 env v) (fun _ q2 =>
          wpAny (model prog w) A (forIn ifs0 true fun c r => if r = true then do let ok ← isTrue c env (eval c env); pure (ForInStep.yield ok) else pure (ForInStep.yield r)) (fun ok q3 =>
            if ok = true then wpAny (model prog w) A (eval i1 env) (fun x q4 => wpAny (model prog w) A (pyIter x) (fun it1 q5 =>
              codeAny (model prog w) A (.compStart (.ListComp elt [⟨t0, i0, ifs0, 0⟩, ⟨t1, i1, ifs1, 0⟩, ⟨t2, i2, ifs2, 0⟩] scope pos) 1 it1 acc env) (fun r s' => match r with
                | .ok _ => ∃ m, m < n ∧ I m s'
                | .error _ => False) q5) (notedBy (model prog w) A env fun e s' => R (.error e) s') q4) (notedBy (model prog w) A env fun e s' => R (.error e) s') q3
            else ∃ m, m < n ∧ I m q3) (notedBy (model prog w) A env fun e s' => R (.error e) s') q2) (notedBy (model prog w) A env fun e s' => R (.error e) s') q1x) (notedBy (model prog w) A env fun e s' => R (.error e) s') q1) (notedBy (model prog w) A env fun e s' => R (.error e) s') s)
    (n : Nat) (h : I n s) :
    codeAny (model prog w) A (.compLoop (.ListComp elt [⟨t0, i0, ifs0, 0⟩, ⟨t1, i1, ifs1, 0⟩, ⟨t2, i2, ifs2, 0⟩] scope pos) 0 it acc env) R s := by
  refine codeAny_loop rfl I (fun n s hI => ?_) n h
  show wpAny _ A ((compTurn (.ListComp elt [⟨t0, i0, ifs0, 0⟩, ⟨t1, i1, ifs1, 0⟩, ⟨t2, i2, ifs2, 0⟩] scope pos) 0 it acc env).onRaise (fun x => do noteFrame x env; theTreesLotGoes x)) _ _ s
  refine wpAny_noted ?_
  rw [turn3_0]
  refine wpAny_bind (wpAny_standAt (wpAny_bind (wpAny_mono (turn n s hI) (fun r q1 g1 => ?_) fun _ _ gz => gz)))
  cases r with
  | none => exact wpAny_pure g1
  | some v =>
    refine wpAny_bind (wpAny_mono g1 (fun _ q1x g1x => ?_) fun _ _ gz => gz)
    refine wpAny_bind (wpAny_mono g1x (fun _ q2 g2 => wpAny_bind (wpAny_mono g2 (fun ok q3 g3 => ?_) fun _ _ gz => gz)) fun _ _ gz => gz)
    cases ok with
    | false => exact wpAny_pure ⟨rfl, g3⟩
    | true =>
      refine wpAny_bind (wpAny_mono g3 (fun x q4 g4 => ?_) fun _ _ gz => gz)
      refine wpAny_bind (wpAny_standAt (wpAny_bind (wpAny_of_eq (hs x) (wpAny_bind (wpAny_holding (wpAny_mono g4 (fun it1 q5 g5 => ?_) fun _ _ gz => gz))))))
      refine wpAny_bind (wpAny_runOwn ?_)
      rw [Around.mark_none]
      refine codeAny_mono g5 fun r s' hr => ?_
      cases r with
      | ok f =>
        first
          | exact wpAny_pure ⟨rfl, hr⟩
          | exact wpAny_bind (wpAny_pure (wpAny_pure ⟨rfl, hr⟩))
      | error e => exact hr.elim
/-- the loop of the first clause -/
theorem loop3_1 (hs : ∀ x, foldedSetIterable i2 env x = pure x) (I : Nat → Shared → Prop)
    (turn : ∀ n s, I n s → wpAny (model prog w) A (pyNext it) (fun r q1 => match r with
      | none => R (.ok .next) q1
      | some v => wpAny (model prog w) A (letOwnedTupleGo t1 it v) (fun _ q1x => wpAny (model prog w) A (assign t1 env v) (fun _ q2 =>
          wpAny (model prog w) A (forIn ifs1 true fun c r => if r = true then do let ok ← isTrue c env (eval c env); pure (ForInStep.yield ok) else pure (ForInStep.yield r)) (fun ok q3 =>
            if ok = true then wpAny (model prog w) A (eval i2 env) (fun x q4 => wpAny (model prog w) A (pyIter x) (fun it1 q5 =>
              codeAny (model prog w) A (.compStart (.ListComp elt [⟨t0, i0, ifs0, 0⟩, ⟨t1, i1, ifs1, 0⟩, ⟨t2, i2, ifs2, 0⟩] scope pos) 2 it1 acc env) (fun r s' => match r with
                | .ok _ => ∃ m, m < n ∧ I m s'
                | .error _ => False) q5) (notedBy (model prog w) A env fun e s' => R (.error e) s') q4) (notedBy (model prog w) A env fun e s' => R (.error e) s') q3
            else ∃ m, m < n ∧ I m q3) (notedBy (model prog w) A env fun e s' => R (.error e) s') q2) (notedBy (model prog w) A env fun e s' => R (.error e) s') q1x) (notedBy (model prog w) A env fun e s' => R (.error e) s') q1) (notedBy (model prog w) A env fun e s' => R (.error e) s') s)
    (n : Nat) (h : I n s) :
    codeAny (model prog w) A (.compLoop (.ListComp elt [⟨t0, i0, ifs0, 0⟩, ⟨t1, i1, ifs1, 0⟩, ⟨t2, i2, ifs2, 0⟩] scope pos) 1 it acc env) R s := by
  refine codeAny_loop rfl I (fun n s hI => ?_) n h
  show wpAny _ A ((compTurn (.ListComp elt [⟨t0, i0, ifs0, 0⟩, ⟨t1, i1, ifs1, 0⟩, ⟨t2, i2, ifs2, 0⟩] scope pos) 1 it acc env).onRaise (fun x => do noteFrame x env; theTreesLotGoes x)) _ _ s
  refine wpAny_noted ?_
  rw [turn3_1]
  refine wpAny_bind (wpAny_standAt (wpAny_bind (wpAny_mono (turn n s hI) (fun r q1 g1 => ?_) fun _ _ gz => gz)))
  cases r with
  | none => exact wpAny_pure g1
  | some v =>
    refine wpAny_bind (wpAny_mono g1 (fun _ q1x g1x => ?_) fun _ _ gz => gz)
    refine wpAny_bind (wpAny_mono g1x (fun _ q2 g2 => wpAny_bind (wpAny_mono g2 (fun ok q3 g3 => ?_) fun _ _ gz => gz)) fun _ _ gz => gz)
    cases ok with
    | false => exact wpAny_pure ⟨rfl, g3⟩
    | true =>
      refine wpAny_bind (wpAny_mono g3 (fun x q4 g4 => ?_) fun _ _ gz => gz)
      refine wpAny_bind (wpAny_standAt (wpAny_bind (wpAny_of_eq (hs x) (wpAny_bind (wpAny_holding (wpAny_mono g4 (fun it1 q5 g5 => ?_) fun _ _ gz => gz))))))
      refine wpAny_bind (wpAny_runOwn ?_)
      rw [Around.mark_none]
      refine codeAny_mono g5 fun r s' hr => ?_
      cases r with
      | ok f =>
        first
          | exact wpAny_pure ⟨rfl, hr⟩
          | exact wpAny_bind (wpAny_pure (wpAny_pure ⟨rfl, hr⟩))
      | error e => exact hr.elim
/-- the loop of the second -/
theorem loop3_2 (I : Nat → Shared → Prop)
    (turn : ∀ n s, I n s → wpAny (model prog w) A (pyNext it) (fun r q1 => match r with
      | none => R (.ok .next) q1
      | some v => wpAny (model prog w) A (letOwnedTupleGo t2 it v) (fun _ q1x => wpAny (model prog w) A (assign t2 env v) (fun _ q2 =>
          wpAny (model prog w) A (forIn ifs2 true fun c r => if r = true then do let ok ← isTrue c env (eval c env); pure (ForInStep.yield ok) else pure (ForInStep.yield r)) (fun ok q3 =>
            if ok = true then wpAny (model prog w) A (eval elt env) (fun x q4 =>
              wpAny (model prog w) A (call (.builtin "list.append") [acc, x]) (fun _ q5 => ∃ m, m < n ∧ I m q5) (notedBy (model prog w) A env fun e s' => R (.error e) s') q4) (notedBy (model prog w) A env fun e s' => R (.error e) s') q3
            else ∃ m, m < n ∧ I m q3) (notedBy (model prog w) A env fun e s' => R (.error e) s') q2) (notedBy (model prog w) A env fun e s' => R (.error e) s') q1x) (notedBy (model prog w) A env fun e s' => R (.error e) s') q1) (notedBy (model prog w) A env fun e s' => R (.error e) s') s)
    (n : Nat) (h : I n s) :
    codeAny (model prog w) A (.compLoop (.ListComp elt [⟨t0, i0, ifs0, 0⟩, ⟨t1, i1, ifs1, 0⟩, ⟨t2, i2, ifs2, 0⟩] scope pos) 2 it acc env) R s := by
  refine codeAny_loop rfl I (fun n s hI => ?_) n h
  show wpAny _ A ((compTurn (.ListComp elt [⟨t0, i0, ifs0, 0⟩, ⟨t1, i1, ifs1, 0⟩, ⟨t2, i2, ifs2, 0⟩] scope pos) 2 it acc env).onRaise (fun x => do noteFrame x env; theTreesLotGoes x)) _ _ s
  refine wpAny_noted ?_
  rw [turn3_2]
  refine wpAny_bind (wpAny_standAt (wpAny_bind (wpAny_mono (turn n s hI) (fun r q1 g1 => ?_) fun _ _ gz => gz)))
  cases r with
  | none => exact wpAny_pure g1
  | some v =>
    refine wpAny_bind (wpAny_mono g1 (fun _ q1x g1x => ?_) fun _ _ gz => gz)
    refine wpAny_bind (wpAny_mono g1x (fun _ q2 g2 => wpAny_bind (wpAny_mono g2 (fun ok q3 g3 => ?_) fun _ _ gz => gz)) fun _ _ gz => gz)
    cases ok with
    | false => exact wpAny_pure ⟨rfl, g3⟩
    | true =>
      exact wpAny_bind (wpAny_bind (wpAny_mono g3 (fun x q4 g4 => wpAny_bind (wpAny_mono g4 (fun _ q5 g5 => wpAny_pure (wpAny_pure ⟨rfl, g5⟩)) fun _ _ gz => gz)) fun _ _ gz => gz))
/-- the second clause's start -/
theorem start3_1 (h0 : codeAny (model prog w) A (.compLoop (.ListComp elt [⟨t0, i0, ifs0, 0⟩, ⟨t1, i1, ifs1, 0⟩, ⟨t2, i2, ifs2, 0⟩] scope pos) 1 it acc env) R s)
    (h : wpAny (model prog w) A (pyIter it) (fun it' s' => codeAny (model prog w) A (.compLoop (.ListComp elt [⟨t0, i0, ifs0, 0⟩, ⟨t1, i1, ifs1, 0⟩, ⟨t2, i2, ifs2, 0⟩] scope pos) 1 it' acc env) R s')
      (notedBy (model prog w) A env fun x s' => R (.error x) s') s) :
    codeAny (model prog w) A (.compStart (.ListComp elt [⟨t0, i0, ifs0, 0⟩, ⟨t1, i1, ifs1, 0⟩, ⟨t2, i2, ifs2, 0⟩] scope pos) 1 it acc env) R s := by
  refine codeAny_of_tree ?_
  show wpAny _ _ ((compStart (.ListComp elt [⟨t0, i0, ifs0, 0⟩, ⟨t1, i1, ifs1, 0⟩, ⟨t2, i2, ifs2, 0⟩] scope pos) 1 it acc env).onRaise (fun x => do noteFrame x env; standAt theWindowsPlace)) _ _ s
  refine wpAny_notedAt ?_
  unfold compStart
  show wpAny _ _ (ask >>= _) _ _ s
  refine wpAny_bind (wpAny_askSetting (wpAny_ite ?_))
  split
  · first
      | exact wpAny_bind (wpAny_pure (wpAny_pure (And.intro rfl h0)))
      | exact wpAny_pure (And.intro rfl h0)
  · first
      | exact wpAny_bind (wpAny_rule (wpAny_bind (wpAny_standAt (wpAny_bind (wpAny_mono h (fun it' s' gz => wpAny_pure (And.intro rfl gz)) fun _ _ x => x)))))
      | (refine wpAny_bind (wpAny_rule ?_); show wpAny _ _ (standAt i1.pos >>= _) _ _ s; exact wpAny_bind (wpAny_standAt (wpAny_bind (wpAny_mono h (fun it' s' gz => wpAny_pure (And.intro rfl gz)) fun _ _ x => x))))
/-- the second clause's start -/
theorem start3_2 (h0 : codeAny (model prog w) A (.compLoop (.ListComp elt [⟨t0, i0, ifs0, 0⟩, ⟨t1, i1, ifs1, 0⟩, ⟨t2, i2, ifs2, 0⟩] scope pos) 2 it acc env) R s)
    (h : wpAny (model prog w) A (pyIter it) (fun it' s' => codeAny (model prog w) A (.compLoop (.ListComp elt [⟨t0, i0, ifs0, 0⟩, ⟨t1, i1, ifs1, 0⟩, ⟨t2, i2, ifs2, 0⟩] scope pos) 2 it' acc env) R s')
      (notedBy (model prog w) A env fun x s' => R (.error x) s') s) :
    codeAny (model prog w) A (.compStart (.ListComp elt [⟨t0, i0, ifs0, 0⟩, ⟨t1, i1, ifs1, 0⟩, ⟨t2, i2, ifs2, 0⟩] scope pos) 2 it acc env) R s := by
  refine codeAny_of_tree ?_
  show wpAny _ _ ((compStart (.ListComp elt [⟨t0, i0, ifs0, 0⟩, ⟨t1, i1, ifs1, 0⟩, ⟨t2, i2, ifs2, 0⟩] scope pos) 2 it acc env).onRaise (fun x => do noteFrame x env; standAt theWindowsPlace)) _ _ s
  refine wpAny_notedAt ?_
  unfold compStart
  show wpAny _ _ (ask >>= _) _ _ s
  refine wpAny_bind (wpAny_askSetting (wpAny_ite ?_))
  split
  · first
      | exact wpAny_bind (wpAny_pure (wpAny_pure (And.intro rfl h0)))
      | exact wpAny_pure (And.intro rfl h0)
  · first
      | exact wpAny_bind (wpAny_rule (wpAny_bind (wpAny_standAt (wpAny_bind (wpAny_mono h (fun it' s' gz => wpAny_pure (And.intro rfl gz)) fun _ _ x => x)))))
      | (refine wpAny_bind (wpAny_rule ?_); show wpAny _ _ (standAt i2.pos >>= _) _ _ s; exact wpAny_bind (wpAny_standAt (wpAny_bind (wpAny_mono h (fun it' s' gz => wpAny_pure (And.intro rfl gz)) fun _ _ x => x))))
end
section
variable {X : Cx}
/-- [elt for tg in iter if .. for tg1 in iter1 if .. for tg2 in iter2 if ..] -/
def tLc3 (wi : TI) (g : TG) (tt : TT) (wi1 : TI) (g1 : TG) (tt1 : TT) (wi2 : TI) (g2 : TG) (tt2 : TT) (te : TE) (vs vs1 vs2 : List Nat) : TE := fun σ H Q => wi σ H fun J H1 => ∀ D, H1 D = none → ∃ W : Nat → Nat → Hp → Prop, (∃ m, W 0 m (upd H1 D (.lst []))) ∧ ∀ i m H, W i m H →
  (J.stop i H ∧ Q (.ref D) H) ∨ (J.go i H ∧ ∃ Nx : Hp → Prop, (∀ H', Nx H' → ∃ m', m' < m ∧ W (i + 1) m' H') ∧ ∀ x H', J.yld i H x H' → g x (wipe σ vs) H' fun σ2 H2 => wipe σ2 vs = wipe σ vs ∧ tt σ2 H2 fun b H3 =>
    if b = true then wi1 σ2 H3 fun J1 H4 => ∃ W1 : Nat → Nat → Hp → Prop, (∃ m, W1 0 m H4) ∧ ∀ j k H, W1 j k H →
      (J1.stop j H ∧ Nx H) ∨ (J1.go j H ∧ ∃ Nx1 : Hp → Prop, (∀ H', Nx1 H' → ∃ k', k' < k ∧ W1 (j + 1) k' H') ∧ ∀ x H', J1.yld j H x H' → g1 x (wipe σ2 vs1) H' fun σ3 H5 => wipe σ3 vs1 = wipe σ2 vs1 ∧ tt1 σ3 H5 fun b H6 =>
        if b = true then wi2 σ3 H6 fun J2 H7 => ∃ W2 : Nat → Nat → Hp → Prop, (∃ m, W2 0 m H7) ∧ ∀ l q H, W2 l q H →
          (J2.stop l H ∧ Nx1 H) ∨ (J2.go l H ∧ ∃ Nx2 : Hp → Prop, (∀ H', Nx2 H' → ∃ q', q' < q ∧ W2 (l + 1) q' H') ∧ ∀ x H', J2.yld l H x H' → g2 x (wipe σ3 vs2) H' fun σ4 H8 => wipe σ4 vs2 = wipe σ3 vs2 ∧ tt2 σ4 H8 fun b H9 =>
            if b = true then te σ4 H9 fun y H10 => ∃ acc, H10 D = some (.lst acc) ∧ acc.length < sizeLine ∧ Nx2 (upd H10 D (.lst (acc ++ [y]))) else Nx2 H9)
        else Nx1 H6)
    else Nx H3)
theorem lc3_core {pins : List (Addr × Obj)} {s : Shared} {σ : St} {H : Hp} {Q : VK} {elt tg iter tg1 iter1 tg2 iter2 : Expr} {ifs ifs1 ifs2 : List Expr} {scope : Scope} {own : List (Str × Nat)} {vs1 vs2 : List Nat} {pos pos' : Pos} {wi wi1 wi2 : TI} {g g1 g2 : TG} {tt tt1 tt2 : TT} {te : TE} {use : Option (Value → Sem Unit)} {Qf : Value → Shared → Prop}
    (hc : X.calm = true) (hN : X.N.Nodup) (I : Inv X pins σ H s) (hi : PI X tg iter wi) (ok : BlkOk X.N X.env.scope scope own) (hv : ∀ i ∈ vs1, i ∈ own.map (·.2)) (hv2 : ∀ i ∈ vs2, i ∈ vs1)
    (hg : ∀ (s : Shared) (H : Hp) (C : Addr) (cl : List (Str × Addr)) (fp : List Addr), PG (X.blk s H scope (compEnvC scope cl C X.env) fp) tg g) (ht : ∀ (s : Shared) (H : Hp) (C : Addr) (cl : List (Str × Addr)) (fp : List Addr), PTs (X.blk s H scope (compEnvC scope cl C X.env) fp) ifs tt)
    (he : ∀ (s : Shared) (H : Hp) (C : Addr) (cl : List (Str × Addr)) (fp : List Addr), PE (X.blk s H scope (compEnvC scope cl C X.env) fp) elt te) (hs : ∀ x, foldedSetIterable iter X.env x = pure x)
    (hi1 : ∀ (s : Shared) (H : Hp) (C : Addr) (cl : List (Str × Addr)) (fp : List Addr), PI (X.blk s H scope (compEnvC scope cl C X.env) fp) tg1 iter1 wi1)
    (hg1 : ∀ (s : Shared) (H : Hp) (C : Addr) (cl : List (Str × Addr)) (fp : List Addr), PG (X.blk s H scope (compEnvC scope cl C X.env) fp) tg1 g1)
    (ht1 : ∀ (s : Shared) (H : Hp) (C : Addr) (cl : List (Str × Addr)) (fp : List Addr), PTs (X.blk s H scope (compEnvC scope cl C X.env) fp) ifs1 tt1)
    (hs1 : ∀ env x, foldedSetIterable iter1 env x = pure x)
    (hi2 : ∀ (s : Shared) (H : Hp) (C : Addr) (cl : List (Str × Addr)) (fp : List Addr), PI (X.blk s H scope (compEnvC scope cl C X.env) fp) tg2 iter2 wi2)
    (hg2 : ∀ (s : Shared) (H : Hp) (C : Addr) (cl : List (Str × Addr)) (fp : List Addr), PG (X.blk s H scope (compEnvC scope cl C X.env) fp) tg2 g2)
    (ht2 : ∀ (s : Shared) (H : Hp) (C : Addr) (cl : List (Str × Addr)) (fp : List Addr), PTs (X.blk s H scope (compEnvC scope cl C X.env) fp) ifs2 tt2)
    (hs2 : ∀ env x, foldedSetIterable iter2 env x = pure x)
    (h : tLc3 wi g tt wi1 g1 tt1 wi2 g2 tt2 te (own.map (·.2)) vs1 vs2 σ H Q)
    (hRR : ∀ D C s' m H', Inv X pins σ H' s' → Q (.ref D) H' → s'.heap.Ns C m → FpOk X pins H' C → compPost (model X.prog X.w) X.A X.xe use Qf (.ref D) C (.ok .next) s') :
    wpAny (model X.prog X.w) X.A (comprehension (.ListComp elt [⟨tg, iter, ifs, 0⟩, ⟨tg1, iter1, ifs1, 0⟩, ⟨tg2, iter2, ifs2, 0⟩] scope pos) scope X.env pos' (newList []) false (eval iter X.env) use) Qf X.xe s := by
  have hfree : ∀ y ∈ scope.names, y.2 = .free → ∃ c, X.env.cells.lookup y.1 = some c := fun y hy e => by
    rcases ok.free y hy e with k | k
    · exact I.ok.has _ (.inl k)
    · exact I.ok.has _ (.inr k)
  refine wpAny_comprehension_free (use := use) rfl hs (closure_ok hfree) ok.kind (fun y hy e => by rw [ok.uniq y hy, e])
    (thn (hi.run pins s σ H _ I h) fun xv s1 hx => thn hx fun itv s2 h2 => ?_)
  obtain ⟨it, fp, tn, J, H2, e, I2, T, st2, f2, q⟩ := h2
  subst e
  refine wpAny_newObj_type (newEnv_comp ?_) (by show 0 ≤ sizeLine; decide)
  generalize hD : s2.heap.objs.size = D
  have hDn : H2 D = none := I2.hok.fresh (Nat.le_of_eq hD)
  obtain ⟨W, ⟨m0, w0⟩, turn⟩ := q D hDn
  -- the new list
  generalize hs3 : ({ s2 with heap := s2.heap.push { cls := .type "list", data := .seq ([] : List Value).toArray } } : Shared) = s3
  have I3 : Inv X pins σ (upd H2 D (.lst [])) s3 := by
    rw [← hs3]
    refine I2.laid (t' := s2.toks) (fun b o e => Heap.get?_push_of_some _ e) (Nat.le_of_eq hD) ⟨Nat.zero_le _, [], 0, .nil, ?_⟩
    rw [← hD]
    exact Heap.get?_push_size _ rfl
  have h3 : s3.heap = s2.heap.push { cls := .type "list", data := .seq ([] : List Value).toArray } := by rw [← hs3]
  have sz : ∀ b ∈ fp, b < s2.heap.objs.size := fun b hb => by
    obtain ⟨o, e, _⟩ := T.obj _ _ st2 b hb
    exact Heap.lt_size e
  have f3 : ∀ b ∈ fp, FpOk X pins (upd H2 D (.lst [])) b ∧ b < s3.heap.objs.size := fun b hb => by
    have hlt := sz b hb
    refine ⟨⟨?_, (f2 b hb).2⟩, by rw [h3, Heap.size_push]; exact Nat.lt_succ_of_lt hlt⟩
    rw [upd_ne (by rw [← hD]; exact Nat.ne_of_lt hlt)]
    exact (f2 b hb).1
  have st3 : tn 0 s3.heap := T.keep _ _ _ st2 fun b _ o e => by rw [h3]; exact Heap.get?_push_of_some _ e
  have I4 := block_start I3 ok hN f3
  have pg := hg s3 (upd H2 D (.lst [])) s3.heap.objs.size (cellsFrom (s3.heap.objs.size + 1) scope.names (cloFrom X.env.cells scope.names [])) fp
  have pt := ht s3 (upd H2 D (.lst [])) s3.heap.objs.size (cellsFrom (s3.heap.objs.size + 1) scope.names (cloFrom X.env.cells scope.names [])) fp
  have pe := he s3 (upd H2 D (.lst [])) s3.heap.objs.size (cellsFrom (s3.heap.objs.size + 1) scope.names (cloFrom X.env.cells scope.names [])) fp
  have pi1 := hi1 s3 (upd H2 D (.lst [])) s3.heap.objs.size (cellsFrom (s3.heap.objs.size + 1) scope.names (cloFrom X.env.cells scope.names [])) fp
  have pg1 := hg1 s3 (upd H2 D (.lst [])) s3.heap.objs.size (cellsFrom (s3.heap.objs.size + 1) scope.names (cloFrom X.env.cells scope.names [])) fp
  have pt1 := ht1 s3 (upd H2 D (.lst [])) s3.heap.objs.size (cellsFrom (s3.heap.objs.size + 1) scope.names (cloFrom X.env.cells scope.names [])) fp
  have pi2 := hi2 s3 (upd H2 D (.lst [])) s3.heap.objs.size (cellsFrom (s3.heap.objs.size + 1) scope.names (cloFrom X.env.cells scope.names [])) fp
  have pg2 := hg2 s3 (upd H2 D (.lst [])) s3.heap.objs.size (cellsFrom (s3.heap.objs.size + 1) scope.names (cloFrom X.env.cells scope.names [])) fp
  have pt2 := ht2 s3 (upd H2 D (.lst [])) s3.heap.objs.size (cellsFrom (s3.heap.objs.size + 1) scope.names (cloFrom X.env.cells scope.names [])) fp
  show codeAny _ _ (.compStart (.ListComp elt [⟨tg, iter, ifs, 0⟩, ⟨tg1, iter1, ifs1, 0⟩, ⟨tg2, iter2, ifs2, 0⟩] scope pos) 0 (.ref it) (.ref D) (compEnvC scope (cellsFrom (s3.heap.objs.size + 1) scope.names (cloFrom X.env.cells scope.names [])) s3.heap.objs.size X.env)) (compPost (model X.prog X.w) X.A X.xe use Qf (.ref D) s3.heap.objs.size) { s3 with heap := pushCells (s3.heap.push { cls := .type "dict", data := .dict #[] }) scope.names }
  have nfp : ∀ b ∈ fp, (upd H2 D (.lst [])) b = none := fun b hb => (f3 b hb).1.1
  generalize hce : compEnvC scope (cellsFrom (s3.heap.objs.size + 1) scope.names (cloFrom X.env.cells scope.names [])) s3.heap.objs.size X.env = ce at I4 pg pt pe pi1 pg1 pt1 pi2 pg2 pt2 ⊢
  have cL : ce.locals = s3.heap.objs.size := by subst hce; rfl
  generalize hH3 : upd H2 D (.lst []) = H3 at I3 I4 pg pt pe pi1 pg1 pt1 pi2 pg2 pt2 w0 nfp f3
  generalize hs4 : ({ s3 with heap := pushCells (s3.heap.push { cls := .type "dict", data := .dict #[] }) scope.names } : Shared) = s4 at I4 ⊢
  have st4 : tn 0 s4.heap := T.keep _ _ _ st3 fun b _ o e => by rw [← hs4]; exact pushCells_keeps _ _ _ _ (Heap.get?_push_of_some _ e)
  have stat : ∀ {σ' : St} {H' : Hp} {s' : Shared}, Inv (X.blk s3 H3 scope ce fp) [] σ' H' s' → (∀ b ∈ fp, H' b = none) → ∀ b ∈ fp, FpOk (X.blk s3 H3 scope ce fp) [] H' b := fun {σ' H' s'} I' hn b hb =>
    ⟨hn b hb, (I'.ok.exf b hb).1, I'.ok.exfs b hb, .inl hb, fun x c e => (I'.ok.exf b hb).2 x c e, fun p hp => absurd (show p ∈ ([] : List (Addr × Obj)) ++ [] from hp) (by simp)⟩
  have loop : codeAny (model X.prog X.w) X.A (.compLoop (.ListComp elt [⟨tg, iter, ifs, 0⟩, ⟨tg1, iter1, ifs1, 0⟩, ⟨tg2, iter2, ifs2, 0⟩] scope pos) 0 (.ref it) (.ref D) ce) (compPost (model X.prog X.w) X.A X.xe use Qf (.ref D) s3.heap.objs.size) s4 := by
    refine loop3_0 (hs1 ce) (fun n s' => ∃ i H', Inv (X.blk s3 H3 scope ce fp) [] (wipe σ (own.map (·.2))) H' s' ∧ tn i s'.heap ∧ (∀ b ∈ fp, H' b = none) ∧ W i n H') ?_ m0 ⟨0, H3, I4, st4, nfp, w0⟩
    rintro n s5 ⟨i, H5, I5, st5, n5, w5⟩
    rcases turn i n H5 w5 with ⟨stop, qq⟩ | ⟨go, Nx, hNx, step⟩
    · have td := T.done (X.blk s3 H3 scope ce fp) rfl rfl rfl hc i [] s5 _ H5 (fun _ _ => False) I5 (stat I5 n5) st5 stop
      refine thnF td fun r s6 ⟨hr, I6⟩ => ?_
      subst hr
      -- back in the def's context
      have I7 : Inv X pins σ H5 s6 := I3.call' (ch := fp) I6.os I6.base I6.hok I6.bare fun b hb => ⟨(f3 b hb).1.2.2.2.1, (f3 b hb).1.2.1, (f3 b hb).1.2.2.2.2.1, (f3 b hb).1.2.2.2.2.2⟩
      have nC : H5 s3.heap.objs.size = none := by
        have z : H5 ce.locals = none := I6.free
        rw [cL] at z
        exact z
      obtain ⟨m, hn, _⟩ := I6.loc
      have hn : s6.heap.Ns ce.locals m := hn
      rw [cL] at hn
      exact hRR D s3.heap.objs.size s6 m H5 I7 qq hn (I3.fpOk (Nat.le_refl _) nC)
    · have ti := T.item (X.blk s3 H3 scope ce fp) rfl rfl rfl hc i [] s5 _ H5 (fun _ _ => False) I5 (stat I5 n5) st5 go
      refine thnF ti fun r s6 ⟨u, hr, h6⟩ => ?_
      subst hr
      refine thnF h6 fun _ s7 ⟨x, H7, I7, r7, y7, st7, n7⟩ => ?_
      have I7' := I7.pinned (stat I7 n7) (T.obj _ _ st7)
      refine thnF (pg.run _ s7 _ H7 x u _ I7' r7 (step x H7 y7)) fun _ s8 ⟨σ8, H8, I8, hw8, q8⟩ => ?_
      refine thnF (pt.run _ s8 σ8 H8 _ I8 q8) fun b s9 ⟨H9, I9, q9⟩ => ?_
      -- the turn's end, from any slots that know what the block knew at its start
      have fin : ∀ {σ9 : St} {s' : Shared} {H' : Hp}, Inv (X.blk s3 H3 scope ce fp) ([] ++ pinsAt fp s7.heap) σ9 H' s' → (wipe σ (own.map (·.2))).length = σ9.length → (∀ (j : Nat) v, (wipe σ (own.map (·.2)))[j]? = some (some v) → σ9[j]? = some (some v)) → Nx H' →
          ∃ m, m < n ∧ ∃ i H', Inv (X.blk s3 H3 scope ce fp) [] (wipe σ (own.map (·.2))) H' s' ∧ tn i s'.heap ∧ (∀ b ∈ fp, H' b = none) ∧ W i m H' := fun {σ9 s' H'} I' hl hk nx => by
        obtain ⟨m', hm, w'⟩ := hNx H' nx
        have pin' : ∀ b ∈ fp, ∀ o, s7.heap.get? b = some o → s'.heap.get? b = some o ∧ H' b = none := fun b hb o e =>
          let z := I'.pin (b, o) (List.mem_append_right _ (List.mem_append_right _ (mem_pinsAt hb e)))
          ⟨z.1, z.2.1⟩
        refine ⟨m', hm, i + 1, H', (I'.unpinned (pins := [])).weak hl hk, T.keep _ _ _ st7 fun b hb o e => (pin' b hb o e).1, fun b hb => ?_, w'⟩
        obtain ⟨o, e, _⟩ := T.obj _ _ st7 b hb
        exact (pin' b hb o e).2
      have hl8 : (wipe σ (own.map (·.2))).length = σ8.length := by rw [← hw8, wipe_length]
      have hk8 : ∀ (j : Nat) v, (wipe σ (own.map (·.2)))[j]? = some (some v) → σ8[j]? = some (some v) := fun j v e => by
        rw [← hw8] at e
        exact (wipe_some e).1
      have hk9 : ∀ (j : Nat) v, (wipe σ (own.map (·.2)))[j]? = some (some v) → (wipe σ8 vs1)[j]? = some (some v) := fun j v e => by
        rw [← hw8] at e
        obtain ⟨e1, e2⟩ := wipe_some e
        rw [wipe_out fun z => e2 (hv j z)]
        exact e1
      cases b with
      | false =>
        simp only [Bool.false_eq_true, if_false] at q9 ⊢
        exact fin I9 hl8 hk8 q9
      | true =>
        simp only [if_true] at q9 ⊢
        refine thnF (pi1.run _ s9 σ8 H9 _ I9 q9) fun xv s10 hx => thnF hx fun itv s11 h11 => ?_
        obtain ⟨it1, fp1, tn1, J1, H11, e1, I11, T1, st11, f11, W1, ⟨m1, w1⟩, turn1⟩ := h11
        subst e1
        -- the inner loop
        have stat1 : ∀ {H' : Hp}, (∀ b ∈ fp1, H' b = none) → ∀ b ∈ fp1, FpOk (X.blk s3 H3 scope ce fp) ([] ++ pinsAt fp s7.heap) H' b := fun hn b hb => ⟨hn b hb, (f11 b hb).2⟩
        have loop1 : codeAny (model X.prog X.w) X.A (.compLoop (.ListComp elt [⟨tg, iter, ifs, 0⟩, ⟨tg1, iter1, ifs1, 0⟩, ⟨tg2, iter2, ifs2, 0⟩] scope pos) 1 (.ref it1) (.ref D) ce)
            (fun r s' => match r with
              | .ok _ => ∃ m, m < n ∧ ∃ i H', Inv (X.blk s3 H3 scope ce fp) [] (wipe σ (own.map (·.2))) H' s' ∧ tn i s'.heap ∧ (∀ b ∈ fp, H' b = none) ∧ W i m H'
              | .error _ => False) s11 := by
          refine loop3_1 (hs2 ce) (fun k s' => ∃ j H', Inv (X.blk s3 H3 scope ce fp) ([] ++ pinsAt fp s7.heap) (wipe σ8 vs1) H' s' ∧ tn1 j s'.heap ∧ (∀ b ∈ fp1, H' b = none) ∧ W1 j k H') ?_ m1 ⟨0, H11, I11.weak (wipe_length _ _) (fun j v e => (wipe_some e).1), st11, fun b hb => (f11 b hb).1, w1⟩
          rintro k s12 ⟨j, H12, I12, st12, n12, w12⟩
          rcases turn1 j k H12 w12 with ⟨stop1, nx1⟩ | ⟨go1, Nx1, hNx1, step1⟩
          · refine thnF (T1.done (X.blk s3 H3 scope ce fp) rfl rfl rfl hc j _ s12 (wipe σ8 vs1) H12 (fun _ _ => False) I12 (stat1 n12) st12 stop1) fun r s13 ⟨hr, I13⟩ => ?_
            subst hr
            exact fin I13 (hl8.trans (wipe_length σ8 vs1).symm) hk9 nx1
          · refine thnF (T1.item (X.blk s3 H3 scope ce fp) rfl rfl rfl hc j _ s12 (wipe σ8 vs1) H12 (fun _ _ => False) I12 (stat1 n12) st12 go1) fun r s13 ⟨u1, hr, h13⟩ => ?_
            subst hr
            refine thnF h13 fun _ s14 ⟨x1, H14, I14, r14, y14, st14, n14⟩ => ?_
            have I14' := I14.pinned (stat1 n14) (T1.obj _ _ st14)
            refine thnF (pg1.run _ s14 (wipe σ8 vs1) H14 x1 u1 _ I14' r14 (step1 x1 H14 y14)) fun _ s15 ⟨σ15, H15, I15, hw15, q15⟩ => ?_
            refine thnF (pt1.run _ s15 σ15 H15 _ I15 q15) fun b1 s16 ⟨H16, I16, q16⟩ => ?_
            have fin1 : ∀ {σ9 : St} {s' : Shared} {H' : Hp}, Inv (X.blk s3 H3 scope ce fp) (([] ++ pinsAt fp s7.heap) ++ pinsAt fp1 s14.heap) σ9 H' s' → (wipe σ8 vs1).length = σ9.length → (∀ (j : Nat) v, (wipe σ8 vs1)[j]? = some (some v) → σ9[j]? = some (some v)) → Nx1 H' →
                ∃ m, m < k ∧ ∃ j H', Inv (X.blk s3 H3 scope ce fp) ([] ++ pinsAt fp s7.heap) (wipe σ8 vs1) H' s' ∧ tn1 j s'.heap ∧ (∀ b ∈ fp1, H' b = none) ∧ W1 j m H' := fun {σ9 s' H'} I' hl hk nx => by
              obtain ⟨m', hm, w'⟩ := hNx1 H' nx
              have pin' : ∀ b ∈ fp1, ∀ o, s14.heap.get? b = some o → s'.heap.get? b = some o ∧ H' b = none := fun b hb o e =>
                let z := I'.pin (b, o) (List.mem_append_right _ (List.mem_append_right _ (mem_pinsAt hb e)))
                ⟨z.1, z.2.1⟩
              refine ⟨m', hm, j + 1, H', I'.unpinned.weak hl hk, T1.keep _ _ _ st14 fun b hb o e => (pin' b hb o e).1, fun b hb => ?_, w'⟩
              obtain ⟨o, e, _⟩ := T1.obj _ _ st14 b hb
              exact (pin' b hb o e).2
            have hl15 : (wipe σ8 vs1).length = σ15.length := by rw [← hw15, wipe_length]
            have hk15 : ∀ (j : Nat) v, (wipe σ8 vs1)[j]? = some (some v) → σ15[j]? = some (some v) := fun j v e => by
              rw [← hw15] at e
              exact (wipe_some e).1
            have hk16 : ∀ (j : Nat) v, (wipe σ8 vs1)[j]? = some (some v) → (wipe σ15 vs2)[j]? = some (some v) := fun j v e => by
              rw [← hw15] at e
              obtain ⟨e1, e2⟩ := wipe_some e
              rw [wipe_out fun z => e2 (hv2 j z)]
              exact e1
            cases b1 with
            | false =>
              simp only [Bool.false_eq_true, if_false] at q16 ⊢
              exact fin1 I16 hl15 hk15 q16
            | true =>
              simp only [if_true] at q16 ⊢
              refine thnF (pi2.run _ s16 σ15 H16 _ I16 q16) fun xv s20 hx => thnF hx fun itv s21 h21 => ?_
              obtain ⟨it2, fp2, tn2, J2, H21, e2, I21, T2, st21, f21, W2, ⟨m2, w2⟩, turn2⟩ := h21
              subst e2
              -- the innermost loop
              have stat2 : ∀ {H' : Hp}, (∀ b ∈ fp2, H' b = none) → ∀ b ∈ fp2, FpOk (X.blk s3 H3 scope ce fp) (([] ++ pinsAt fp s7.heap) ++ pinsAt fp1 s14.heap) H' b := fun hn b hb => ⟨hn b hb, (f21 b hb).2⟩
              have loop2 : codeAny (model X.prog X.w) X.A (.compLoop (.ListComp elt [⟨tg, iter, ifs, 0⟩, ⟨tg1, iter1, ifs1, 0⟩, ⟨tg2, iter2, ifs2, 0⟩] scope pos) 2 (.ref it2) (.ref D) ce)
                  (fun r s' => match r with
                    | .ok _ => ∃ m, m < k ∧ ∃ j H', Inv (X.blk s3 H3 scope ce fp) ([] ++ pinsAt fp s7.heap) (wipe σ8 vs1) H' s' ∧ tn1 j s'.heap ∧ (∀ b ∈ fp1, H' b = none) ∧ W1 j m H'
                    | .error _ => False) s21 := by
                refine loop3_2 (fun q s' => ∃ l H', Inv (X.blk s3 H3 scope ce fp) (([] ++ pinsAt fp s7.heap) ++ pinsAt fp1 s14.heap) (wipe σ15 vs2) H' s' ∧ tn2 l s'.heap ∧ (∀ b ∈ fp2, H' b = none) ∧ W2 l q H') ?_ m2 ⟨0, H21, I21.weak (wipe_length _ _) (fun j v e => (wipe_some e).1), st21, fun b hb => (f21 b hb).1, w2⟩
                rintro q s22 ⟨l, H22, I22, st22, n22, w22⟩
                rcases turn2 l q H22 w22 with ⟨stop2, nx2⟩ | ⟨go2, Nx2, hNx2, step2⟩
                · refine thnF (T2.done (X.blk s3 H3 scope ce fp) rfl rfl rfl hc l _ s22 (wipe σ15 vs2) H22 (fun _ _ => False) I22 (stat2 n22) st22 stop2) fun r s23 ⟨hr, I23⟩ => ?_
                  subst hr
                  exact fin1 I23 (hl15.trans (wipe_length σ15 vs2).symm) hk16 nx2
                · refine thnF (T2.item (X.blk s3 H3 scope ce fp) rfl rfl rfl hc l _ s22 (wipe σ15 vs2) H22 (fun _ _ => False) I22 (stat2 n22) st22 go2) fun r s23 ⟨u2, hr, h23⟩ => ?_
                  subst hr
                  refine thnF h23 fun _ s24 ⟨x2, H24, I24, r24, y24, st24, n24⟩ => ?_
                  have I24' := I24.pinned (stat2 n24) (T2.obj _ _ st24)
                  refine thnF (pg2.run _ s24 (wipe σ15 vs2) H24 x2 u2 _ I24' r24 (step2 x2 H24 y24)) fun _ s25 ⟨σ25, H25, I25, hw25, q25⟩ => ?_
                  refine thnF (pt2.run _ s25 σ25 H25 _ I25 q25) fun b2 s26 ⟨H26, I26, q26⟩ => ?_
                  have fin2 : ∀ {s' : Shared} {H' : Hp}, Inv (X.blk s3 H3 scope ce fp) ((([] ++ pinsAt fp s7.heap) ++ pinsAt fp1 s14.heap) ++ pinsAt fp2 s24.heap) σ25 H' s' → Nx2 H' →
                      ∃ m, m < q ∧ ∃ l H', Inv (X.blk s3 H3 scope ce fp) (([] ++ pinsAt fp s7.heap) ++ pinsAt fp1 s14.heap) (wipe σ15 vs2) H' s' ∧ tn2 l s'.heap ∧ (∀ b ∈ fp2, H' b = none) ∧ W2 l m H' := fun {s' H'} I' nx => by
                    obtain ⟨m', hm, w'⟩ := hNx2 H' nx
                    have pin' : ∀ b ∈ fp2, ∀ o, s24.heap.get? b = some o → s'.heap.get? b = some o ∧ H' b = none := fun b hb o e =>
                      let z := I'.pin (b, o) (List.mem_append_right _ (List.mem_append_right _ (mem_pinsAt hb e)))
                      ⟨z.1, z.2.1⟩
                    refine ⟨m', hm, l + 1, H', I'.unpinned.weak (by rw [← hw25, wipe_length]) (fun j v e => by rw [← hw25] at e; exact (wipe_some e).1), T2.keep _ _ _ st24 fun b hb o e => (pin' b hb o e).1, fun b hb => ?_, w'⟩
                    obtain ⟨o, e, _⟩ := T2.obj _ _ st24 b hb
                    exact (pin' b hb o e).2
                  cases b2 with
                  | false =>
                    simp only [Bool.false_eq_true, if_false] at q26 ⊢
                    exact fin2 I26 q26
                  | true =>
                    simp only [if_true] at q26 ⊢
                    refine thnF (pe.run _ s26 σ25 H26 _ I26 q26) fun z s27 ⟨yv, H27, I27, r27, acc, hD27, hz27, nx⟩ => ?_
                    exact app_ok (X := X.blk s3 H3 scope ce fp) I27 hD27 hz27 r27 fun s28 I28 => fin2 I28 nx
              exact start3_2 loop2 (T2.self X.A 0 _ _ _ st21 loop2)
        exact start3_1 loop1 (T1.self X.A 0 _ _ _ st11 loop1)
  exact codeAny_compStart_list loop (T.self X.A 0 _ _ _ st4 loop)
theorem pe_lc3 {elt tg iter tg1 iter1 tg2 iter2 : Expr} {ifs ifs1 ifs2 : List Expr} {scope : Scope} {own : List (Str × Nat)} {vs1 vs2 : List Nat} {pos : Pos} {wi wi1 wi2 : TI} {g g1 g2 : TG} {tt tt1 tt2 : TT} {te : TE} (hc : X.calm = true) (hN : X.N.Nodup) (hi : PI X tg iter wi) (ok : BlkOk X.N X.env.scope scope own) (hv : ∀ i ∈ vs1, i ∈ own.map (·.2)) (hv2 : ∀ i ∈ vs2, i ∈ vs1)
    (hg : ∀ (s : Shared) (H : Hp) (C : Addr) (cl : List (Str × Addr)) (fp : List Addr), PG (X.blk s H scope (compEnvC scope cl C X.env) fp) tg g) (ht : ∀ (s : Shared) (H : Hp) (C : Addr) (cl : List (Str × Addr)) (fp : List Addr), PTs (X.blk s H scope (compEnvC scope cl C X.env) fp) ifs tt)
    (hi1 : ∀ (s : Shared) (H : Hp) (C : Addr) (cl : List (Str × Addr)) (fp : List Addr), PI (X.blk s H scope (compEnvC scope cl C X.env) fp) tg1 iter1 wi1)
    (hg1 : ∀ (s : Shared) (H : Hp) (C : Addr) (cl : List (Str × Addr)) (fp : List Addr), PG (X.blk s H scope (compEnvC scope cl C X.env) fp) tg1 g1) (ht1 : ∀ (s : Shared) (H : Hp) (C : Addr) (cl : List (Str × Addr)) (fp : List Addr), PTs (X.blk s H scope (compEnvC scope cl C X.env) fp) ifs1 tt1)
    (hi2 : ∀ (s : Shared) (H : Hp) (C : Addr) (cl : List (Str × Addr)) (fp : List Addr), PI (X.blk s H scope (compEnvC scope cl C X.env) fp) tg2 iter2 wi2)
    (hg2 : ∀ (s : Shared) (H : Hp) (C : Addr) (cl : List (Str × Addr)) (fp : List Addr), PG (X.blk s H scope (compEnvC scope cl C X.env) fp) tg2 g2) (ht2 : ∀ (s : Shared) (H : Hp) (C : Addr) (cl : List (Str × Addr)) (fp : List Addr), PTs (X.blk s H scope (compEnvC scope cl C X.env) fp) ifs2 tt2)
    (he : ∀ (s : Shared) (H : Hp) (C : Addr) (cl : List (Str × Addr)) (fp : List Addr), PE (X.blk s H scope (compEnvC scope cl C X.env) fp) elt te) (hs : ∀ x, foldedSetIterable iter X.env x = pure x := by intro _; rfl) (hs1 : ∀ env x, foldedSetIterable iter1 env x = pure x := by intro _ _; rfl) (hs2 : ∀ env x, foldedSetIterable iter2 env x = pure x := by intro _ _; rfl) :
    PE X (.ListComp elt [⟨tg, iter, ifs, 0⟩, ⟨tg1, iter1, ifs1, 0⟩, ⟨tg2, iter2, ifs2, 0⟩] scope pos) (tLc3 wi g tt wi1 g1 tt1 wi2 g2 tt2 te (own.map (·.2)) vs1 vs2) := by
  refine ⟨fun pins s σ H Q I h => ?_⟩
  rw [eval_ListComp]
  refine lc3_core hc hN I hi ok hv hv2 hg ht he hs hi1 hg1 ht1 hs1 hi2 hg2 ht2 hs2 h fun D C s' m H' I' q hn f => ⟨m, hn, fun h'' sb => ?_⟩
  obtain ⟨f0, f1, f2, f3, f4, f5⟩ := f
  exact ⟨.ref D, H', I'.turned (t' := s'.toks) (fun b o hb e => (sb.2 b hb).trans e) f0 f1 f3 f4 f5, rfl, q⟩
end
end L2

set_option Elab.async false
set_option linter.all false
set_option maxRecDepth 100000
set_option maxHeartbeats 2000000
/-! Comprehensions of three sources in data, the inner ones lists that stand. -/
namespace DL
open PySem PySem.Spec PyProof.Rows L2 LamX
section
variable {X : Cx} {T : List (Addr × Str)} {W : WX} {χ : XD} {δ : Dn} {w : Wp} {pos : Pos}
/-- the middle walk, from acc on -/
def MiD (X : Cx) (T : List (Addr × Str)) (is1 is2 : List Nat) (tg1 : Expr) (ifs1 : List Expr) (tg2 iter2 : Expr) (ifs2 : List Expr) (elt : Expr) (scope : Scope) (vs1 vs2 : List Nat) (δ2 : Dn) (acc : List D) (κ : List D → Wp → Prop) (es : List D) (w1 : Wp) : Prop :=
  ∃ Pv : Nat → List D → Wp → Prop, Pv 0 acc w1 ∧
    (∀ (j : Nat) (d : D) acc w', es[j]? = some d → Pv j acc w' → ∀ s H0 C cl fp, PGL (bx X s H0 scope cl C fp) T is1 tg1 d (wipeD δ2 vs1) w' fun δ3 w2 => ∀ s H0 C cl fp, PTsD (bx X s H0 scope cl C fp) T ifs1 δ3 w2 fun b w3 =>
      if b = true then ∀ s H0 C cl fp, PD (bx X s H0 scope cl C fp) T Wf noX iter2 δ3 w3 fun y w4 => ∃ es2, y = .lst es2 ∧ InD X T is2 tg2 ifs2 elt scope vs2 δ3 acc (Pv (j + 1)) es2 w4 else Pv (j + 1) acc w3) ∧
    ∀ acc w', Pv es.length acc w' → κ acc w'
/-- the outer walk -/
def Lc3D (X : Cx) (T : List (Addr × Str)) (is is1 is2 : List Nat) (tg : Expr) (ifs : List Expr) (tg1 iter1 : Expr) (ifs1 : List Expr) (tg2 iter2 : Expr) (ifs2 : List Expr) (elt : Expr) (scope : Scope) (vs vs1 vs2 : List Nat) (δ : Dn) (κ : List D → Wp → Prop) (ds : List D) (w1 : Wp) : Prop :=
  ∃ Pv : Nat → List D → Wp → Prop, Pv 0 [] w1 ∧
    (∀ (i : Nat) (d : D) acc w', ds[i]? = some d → Pv i acc w' → ∀ s H0 C cl fp, PGL (bx X s H0 scope cl C fp) T is tg d (wipeD δ vs) w' fun δ2 w2 => ∀ s H0 C cl fp, PTsD (bx X s H0 scope cl C fp) T ifs δ2 w2 fun b w3 =>
      if b = true then ∀ s H0 C cl fp, PD (bx X s H0 scope cl C fp) T Wf noX iter1 δ2 w3 fun y w4 => ∃ es, y = .lst es ∧ MiD X T is1 is2 tg1 ifs1 tg2 iter2 ifs2 elt scope vs1 vs2 δ2 acc (Pv (i + 1)) es w4 else Pv (i + 1) acc w3) ∧
    ∀ acc w', Pv ds.length acc w' → κ acc w'
theorem pd_lc3 {elt tg iter tg1 iter1 tg2 iter2 : Expr} {ifs ifs1 ifs2 : List Expr} {scope : Scope} (own : List (Str × Nat)) (is is1 is2 vs1 vs2 : List Nat) {κ : D → Wp → Prop} (hc : X.calm = true) (hN : X.N.Nodup) (ok : BlkOk X.N X.env.scope scope own) (hsub : ∀ i ∈ is, i ∈ own.map (·.2)) (hv : ∀ i ∈ vs1, i ∈ own.map (·.2)) (hv2 : ∀ i ∈ vs2, i ∈ vs1) (hsub1 : ∀ i ∈ is1, i ∈ vs1) (hsub2 : ∀ i ∈ is2, i ∈ vs2)
    (h : IterD X T W χ tg iter δ w (Lc3D X T is is1 is2 tg ifs tg1 iter1 ifs1 tg2 iter2 ifs2 elt scope (own.map (·.2)) vs1 vs2 δ (fun acc w' => κ (.lst acc) w'))) (hs : ∀ x, foldedSetIterable iter X.env x = pure x := by intro _; rfl) (hs1 : ∀ env x, foldedSetIterable iter1 env x = pure x := by intro _ _; rfl) (hs2 : ∀ env x, foldedSetIterable iter2 env x = pure x := by intro _ _; rfl) :
    PD X T W χ (.ListComp elt [⟨tg, iter, ifs, 0⟩, ⟨tg1, iter1, ifs1, 0⟩, ⟨tg2, iter2, ifs2, 0⟩] scope pos) δ w κ := fun F σ S H Q hE hW hX hK => by
  obtain ⟨wi, hi, h⟩ := h
  refine wp_pe (pe_lc3 hc hN hi ok hv hv2 pg_bx pt_bx (wi1 := iList X.K (lcE X scope iter1)) (fun s H C cl fp => pi_list (X := X.blk s H scope (compEnvC scope cl C X.env) fp) (pe_bx s H C cl fp)) pg_bx pt_bx (wi2 := iList X.K (lcE X scope iter2)) (fun s H C cl fp => pi_list (X := X.blk s H scope (compEnvC scope cl C X.env) fp) (pe_bx s H C cl fp)) pg_bx pt_bx pe_bx hs hs1 hs2) ?_
  refine h F σ S H _ hE hW hX fun ds w1 S1 H1 J G Y k s1 W1 ww hG hY L nL => ?_
  obtain ⟨Pv, p0, turn, done⟩ := k
  have fL : F L = none := (W1.free nL).2.2
  let P : Nat → Hp → Prop := fun i H' => ∃ acc w' S' xs, Pv i acc w' ∧ Same S1 S' ∧ World X.K T S' w' (upd F L (.lst xs)) H' ∧ RepL X.K S' acc xs
  refine ⟨fun i m H => m = ds.length - i ∧ i ≤ ds.length ∧ P i H, ⟨ds.length, rfl, Nat.zero_le _, [], w1, S1, [], p0, Same.refl _, W1.takeF nL (fun _ z => by cases z), rfl⟩, ?_⟩
  rintro i m H' ⟨hm, hi', acc, w', S', xs, pv, s2, W2, ra⟩
  have gg := hG S' w' _ H' s2 W2
  cases Nat.lt_or_ge i ds.length with
  | inr hge =>
    obtain rfl : i = ds.length := Nat.le_antisymm hi' hge
    exact Or.inl ⟨ww.stops H' gg, fin_stay hK L acc w' S' xs H' (done acc w' pv) (s1.trans s2) fL W2 ra⟩
  | inl hlt =>
    refine Or.inr ⟨ww.goes i H' hlt gg, P (i + 1), fun H2 p2 => ⟨ds.length - (i + 1), by omega, rfl, hlt, p2⟩, fun x H3 y => ?_⟩
    obtain ⟨S3, s3, W3, r⟩ := hY i ds[i] S' w' _ H' x H3 (List.getElem?_eq_getElem hlt) s2 W2 (ww.yields i H' x H3 hlt gg y)
    intro s H0 C cl fp
    refine turn i ds[i] acc w' (List.getElem?_eq_getElem hlt) pv s H0 C cl fp (upd F L (.lst xs)) x (L2.wipe σ (own.map (·.2))) S3 H3 _ r ((hE.mono (s1.trans (s2.trans s3))).wipe _) W3 fun δ2 w2 σ2 S4 H4 k s4 hE4 W4 o4 l4 => ?_
    refine ⟨?_, ?_⟩
    · rw [wipe_eq (σ1 := L2.wipe σ (own.map (·.2))) (σ2 := σ2) l4 fun j hj => o4 j fun z => hj (hsub j z)]
      exact wipe_eq (L2.wipe_length σ _) fun j hj => L2.wipe_out hj
    intro s H0 C cl fp
    refine k s H0 C cl fp (upd F L (.lst xs)) σ2 S4 H4 _ hE4 W4 fun b w5 S5 H5 k5 s5 W5 => ?_
    have s25 : Same S1 S5 := s2.trans (s3.trans (s4.trans s5))
    have ra5 : RepL X.K S5 acc xs := ra.mono (s3.trans (s4.trans s5))
    cases b with
    | false =>
      rw [if_neg Bool.false_ne_true] at k5 ⊢
      exact ⟨acc, w5, S5, xs, k5, s25, W5, ra5⟩
    | true =>
      rw [if_pos rfl] at k5 ⊢
      intro s H0 C cl fp
      refine k5 s H0 C cl fp (upd F L (.lst xs)) σ2 S5 H5 _ (hE4.mono s5) W5 exf fun d6 w6 v6 S6 H6 k6 s6 W6 r6 => ?_
      obtain ⟨es, rfl, Pv1, q0, turn1, done1⟩ := k6
      obtain ⟨a, zs, rfl, h1, h2⟩ := r6
      refine ⟨a, rfl, ⟨zs, SqL.of (W6.same _ _ h1)⟩, ?_⟩
      have w2' := walk_list (K := X.K) (a := a) (xs := zs)
      rw [h2.length] at w2'
      let P1 : Nat → Hp → Prop := fun j H' => ∃ acc w' S' xs, Pv1 j acc w' ∧ Same S6 S' ∧ World X.K T S' w' (upd F L (.lst xs)) H' ∧ RepL X.K S' acc xs
      refine ⟨fun j m H => m = es.length - j ∧ j ≤ es.length ∧ P1 j H, ⟨es.length, rfl, Nat.zero_le _, acc, w6, S6, xs, q0, Same.refl _, W6, ra5.mono s6⟩, ?_⟩
      rintro j m1 H7 ⟨hm1, hj, acc7, w7, S7, xs7, pv7, s7, W7, ra7⟩
      have g7 : SqL X.K H7 a zs := SqL.of (W7.same _ _ (s7 _ _ h1))
      cases Nat.lt_or_ge j es.length with
      | inr hge =>
        obtain rfl : j = es.length := Nat.le_antisymm hj hge
        exact Or.inl ⟨w2'.stops H7 g7, acc7, w7, S7, xs7, done1 acc7 w7 pv7, s25.trans (s6.trans s7), W7, ra7⟩
      | inl hlt1 =>
        refine Or.inr ⟨w2'.goes j H7 hlt1 g7, P1 (j + 1), fun H2 p2 => ⟨es.length - (j + 1), by omega, rfl, hlt1, p2⟩, fun x H8 y => ?_⟩
        obtain ⟨rfl, hx⟩ := w2'.yields j H7 x H8 hlt1 g7 y
        obtain ⟨v, h3, h4⟩ := h2.get (List.getElem?_eq_getElem hlt1)
        rw [hx] at h3
        cases h3
        intro s H0 C cl fp
        refine turn1 j es[j] acc7 w7 (List.getElem?_eq_getElem hlt1) pv7 s H0 C cl fp (upd F L (.lst xs7)) x (L2.wipe σ2 vs1) S7 H8 _ (h4.mono s7) ((hE4.mono (s5.trans (s6.trans s7))).wipe _) W7 fun δ3 w8 σ3 S8 H9 k8 s8 hE8 W8 o8 l8 => ?_
        refine ⟨?_, ?_⟩
        · rw [wipe_eq (σ1 := L2.wipe σ2 vs1) (σ2 := σ3) l8 fun j hj => o8 j fun z => hj (hsub1 j z)]
          exact wipe_eq (L2.wipe_length σ2 _) fun j hj => L2.wipe_out hj
        intro s H0 C cl fp
        refine k8 s H0 C cl fp (upd F L (.lst xs7)) σ3 S8 H9 _ hE8 W8 fun b w9 S9 H10 k9 s9 W9 => ?_
        have s79 : Same S6 S9 := s7.trans (s8.trans s9)
        have ra9 : RepL X.K S9 acc7 xs7 := ra7.mono (s8.trans s9)
        cases b with
        | false =>
          rw [if_neg Bool.false_ne_true] at k9 ⊢
          exact ⟨acc7, w9, S9, xs7, k9, s79, W9, ra9⟩
        | true =>
          rw [if_pos rfl] at k9 ⊢
          intro s H0 C cl fp
          refine k9 s H0 C cl fp (upd F L (.lst xs7)) σ3 S9 H10 _ (hE8.mono s9) W9 exf fun d10 w10 v10 S10 H11 k10 s10 W10 r10 => ?_
          obtain ⟨es2, rfl, Pv2, u0, turn2, done2⟩ := k10
          obtain ⟨a2, zs2, rfl, h21, h22⟩ := r10
          refine ⟨a2, rfl, ⟨zs2, SqL.of (W10.same _ _ h21)⟩, ?_⟩
          have w3' := walk_list (K := X.K) (a := a2) (xs := zs2)
          rw [h22.length] at w3'
          let P2 : Nat → Hp → Prop := fun j H' => ∃ acc w' S' xs, Pv2 j acc w' ∧ Same S10 S' ∧ World X.K T S' w' (upd F L (.lst xs)) H' ∧ RepL X.K S' acc xs
          refine ⟨fun j m H => m = es2.length - j ∧ j ≤ es2.length ∧ P2 j H, ⟨es2.length, rfl, Nat.zero_le _, acc7, w10, S10, xs7, u0, Same.refl _, W10, ra9.mono s10⟩, ?_⟩
          rintro l m2 H12 ⟨hm2, hl, acc12, w12, S12, xs12, pv12, s12, W12, ra12⟩
          have g12 : SqL X.K H12 a2 zs2 := SqL.of (W12.same _ _ (s12 _ _ h21))
          cases Nat.lt_or_ge l es2.length with
          | inr hge =>
            obtain rfl : l = es2.length := Nat.le_antisymm hl hge
            exact Or.inl ⟨w3'.stops H12 g12, acc12, w12, S12, xs12, done2 acc12 w12 pv12, s79.trans (s10.trans s12), W12, ra12⟩
          | inl hlt2 =>
            refine Or.inr ⟨w3'.goes l H12 hlt2 g12, P2 (l + 1), fun H2 p2 => ⟨es2.length - (l + 1), by omega, rfl, hlt2, p2⟩, fun x2 H13 y2 => ?_⟩
            obtain ⟨rfl, hx2⟩ := w3'.yields l H12 x2 H13 hlt2 g12 y2
            obtain ⟨v2, h23, h24⟩ := h22.get (List.getElem?_eq_getElem hlt2)
            rw [hx2] at h23
            cases h23
            intro s H0 C cl fp
            refine turn2 l es2[l] acc12 w12 (List.getElem?_eq_getElem hlt2) pv12 s H0 C cl fp (upd F L (.lst xs12)) x2 (L2.wipe σ3 vs2) S12 H13 _ (h24.mono s12) ((hE8.mono (s9.trans (s10.trans s12))).wipe _) W12 fun δ4 w13 σ4 S13 H14 k13 s13 hE13 W13 o13 l13 => ?_
            refine ⟨?_, ?_⟩
            · rw [wipe_eq (σ1 := L2.wipe σ3 vs2) (σ2 := σ4) l13 fun j hj => o13 j fun z => hj (hsub2 j z)]
              exact wipe_eq (L2.wipe_length σ3 _) fun j hj => L2.wipe_out hj
            intro s H0 C cl fp
            refine k13 s H0 C cl fp (upd F L (.lst xs12)) σ4 S13 H14 _ hE13 W13 fun b w14 S14 H15 k14 s14 W14 => ?_
            cases b with
            | false =>
              rw [if_neg Bool.false_ne_true] at k14 ⊢
              exact ⟨acc12, w14, S14, xs12, k14, s12.trans (s13.trans s14), W14, ra12.mono (s13.trans s14)⟩
            | true =>
              rw [if_pos rfl] at k14 ⊢
              obtain ⟨hz, k14⟩ := k14
              intro s H0 C cl fp
              refine k14 s H0 C cl fp (upd F L (.lst xs12)) σ4 S14 H15 _ (hE13.mono s14) W14 exf fun d15 w15 v15 S15 H16 k15 s15 W15 r15 => ?_
              have ra15 := ra12.mono (s13.trans (s14.trans s15))
              refine ⟨xs12, (W15.frm L _ upd_same).2, by rw [ra15.length]; exact hz, acc12 ++ [d15], w15, S15, xs12 ++ [v15], k15, s12.trans (s13.trans (s14.trans s15)), ?_, ra15.app (RepL.one r15)⟩
              have W16 := W15.putF (o := .lst (xs12 ++ [v15])) upd_same (fun _ z => by cases z) (fun _ z => by cases z) (fun _ z => by cases z)
              rw [upd_upd] at W16
              exact W16
end
end DL

set_option linter.all false
/-! Steps between cases that lie together: distances, by rounds; the first nearest step; islands. No Python here. -/
namespace Grf
open Mth
def Ed (n : Nat) (rows : List (List Nat)) (i j : Nat) : Prop := i < n ∧ j < n ∧ ∃ r ∈ rows, r[i]? = r[j]?
theorem Ed.symm {n : Nat} {rows : List (List Nat)} {i j : Nat} (h : Ed n rows i j) : Ed n rows j i := by
  obtain ⟨h1, h2, r, hr, e⟩ := h
  exact ⟨h2, h1, r, hr, e.symm⟩
/-- reached from z within t steps -/
inductive Ball (n : Nat) (rows : List (List Nat)) (z : Nat) : Nat → Nat → Prop
  | base : Ball n rows z 0 z
  | step {t i j : Nat} (h : Ball n rows z t i) (e : Ed n rows i j) : Ball n rows z (t + 1) j
section
variable {n : Nat} {rows : List (List Nat)} {z : Nat}
theorem Ball.lt (hz : z < n) {t i : Nat} (h : Ball n rows z t i) : i < n := by
  cases h with
  | base => exact hz
  | step _ e => exact e.2.1
theorem Ball.up (ne : rows ≠ []) (hz : z < n) {t i : Nat} (h : Ball n rows z t i) : Ball n rows z (t + 1) i := by
  have hi := h.lt hz
  obtain ⟨r, hr⟩ := List.exists_mem_of_ne_nil rows ne
  exact .step h ⟨hi, hi, r, hr, rfl⟩
def IsD (n : Nat) (rows : List (List Nat)) (z d i : Nat) : Prop := Ball n rows z d i ∧ ∀ t, Ball n rows z t i → d ≤ t
theorem isD_of : ∀ {t i : Nat}, Ball n rows z t i → ∃ d, d ≤ t ∧ IsD n rows z d i := by
  intro t
  induction t using Nat.strongRecOn with
  | ind t ih =>
    intro i h
    by_cases q : ∃ s, s < t ∧ Ball n rows z s i
    · obtain ⟨s, hs, hb⟩ := q
      obtain ⟨d, hd, k⟩ := ih s hs hb
      exact ⟨d, by omega, k⟩
    · exact ⟨t, Nat.le_refl _, h, fun s hs => Nat.le_of_not_lt fun l => q ⟨s, l, hs⟩⟩
theorem IsD.uniq {d e i : Nat} (h : IsD n rows z d i) (k : IsD n rows z e i) : d = e := Nat.le_antisymm (h.2 _ k.1) (k.2 _ h.1)
theorem IsD.pred {d i : Nat} (h : IsD n rows z (d + 1) i) : ∃ j, IsD n rows z d j ∧ Ed n rows j i := by
  obtain ⟨hb, hm⟩ := h
  cases hb with
  | @step _ j _ hj e =>
    refine ⟨j, ⟨hj, fun t ht => ?_⟩, e⟩
    have := hm _ (.step ht e)
    omega
theorem nodup_le : ∀ {n : Nat} {l : List Nat}, l.Nodup → (∀ x ∈ l, x < n) → l.length ≤ n
  | 0, [], _, _ => Nat.le_refl _
  | 0, x :: l, _, h => absurd (h x (List.mem_cons_self ..)) (Nat.not_lt_zero _)
  | n + 1, l, nd, h => by
    by_cases q : n ∈ l
    · have e := List.length_erase_of_mem q
      have ih := nodup_le (n := n) (l := l.erase n) (nd.erase n) fun x hx => by
        have h1 := h x (List.mem_of_mem_erase hx)
        have h2 : x ≠ n := fun z => by
          rw [z] at hx
          exact nd.not_mem_erase hx
        omega
      omega
    · have ih := nodup_le (n := n) nd fun x hx => by
        have h1 := h x hx
        have h2 : x ≠ n := fun z => q (by rw [← z]; exact hx)
        omega
      omega
theorem dist_path : ∀ {d i : Nat}, IsD n rows z d i → ∃ l : List Nat, l.length = d + 1 ∧ l.Nodup ∧ ∀ x ∈ l, ∃ s, s ≤ d ∧ IsD n rows z s x
  | 0, i, h => ⟨[i], rfl, by simp, fun x hx => by
    rw [List.mem_singleton.mp hx]
    exact ⟨0, Nat.le_refl _, h⟩⟩
  | d + 1, i, h => by
    obtain ⟨j, hj, e⟩ := h.pred
    obtain ⟨l, h1, h2, h3⟩ := dist_path hj
    refine ⟨i :: l, by simp [h1], List.nodup_cons.mpr ⟨fun hm => ?_, h2⟩, fun x hx => ?_⟩
    · obtain ⟨s, hs, k⟩ := h3 i hm
      have := k.uniq h
      omega
    · rcases List.mem_cons.mp hx with rfl | hx
      · exact ⟨d + 1, Nat.le_refl _, h⟩
      · obtain ⟨s, hs, k⟩ := h3 x hx
        exact ⟨s, by omega, k⟩
theorem IsD.lt (hz : z < n) {d i : Nat} (h : IsD n rows z d i) : d < n := by
  obtain ⟨l, h1, h2, h3⟩ := dist_path h
  have := nodup_le h2 fun x hx => by
    obtain ⟨s, _, k⟩ := h3 x hx
    exact k.1.lt hz
  omega
/-! ### rounds -/
structure PassF (n : Nat) (r a b : List Nat) : Prop where
  len : b.length = n
  at_ : ∀ (c x : Nat), b[c]? = some x → ∃ i y : Nat, i < n ∧ r[i]? = r[c]? ∧ a[i]? = some y ∧ x = y + (if i = c then 0 else 1)
  le : ∀ (c x : Nat), b[c]? = some x → ∀ i y : Nat, i < n → r[i]? = r[c]? → a[i]? = some y → x ≤ y + (if i = c then 0 else 1)
inductive PassesF (n : Nat) : List (List Nat) → List Nat → List Nat → Prop
  | nil (a : List Nat) : PassesF n [] a a
  | snoc {rs : List (List Nat)} {r a b c : List Nat} (h : PassesF n rs a b) (p : PassF n r b c) : PassesF n (rs ++ [r]) a c
def far0 (n z : Nat) : List Nat := (List.range n).map fun c => if c = z then 0 else n
inductive RunsF (n : Nat) (rows : List (List Nat)) (z : Nat) : Nat → List Nat → Prop
  | zero : RunsF n rows z 0 (far0 n z)
  | succ {t : Nat} {a b : List Nat} (h : RunsF n rows z t a) (p : PassesF n rows a b) : RunsF n rows z (t + 1) b
structure Snd (n : Nat) (rows : List (List Nat)) (z : Nat) (a : List Nat) : Prop where
  len : a.length = n
  at_ : ∀ (c x : Nat), a[c]? = some x → x ≤ n ∧ (x < n → Ball n rows z x c)
def Up (n : Nat) (rows : List (List Nat)) (z t : Nat) (a : List Nat) : Prop := ∀ (s c x : Nat), s ≤ t → Ball n rows z s c → a[c]? = some x → x ≤ s
theorem lt_of_at {a : List Nat} {c x : Nat} (h : a[c]? = some x) : c < a.length := (List.getElem?_eq_some_iff.mp h).1
theorem pass_snd {r a b : List Nat} (hr : r ∈ rows) (S : Snd n rows z a) (p : PassF n r a b) : Snd n rows z b := by
  refine ⟨p.len, fun c x h => ?_⟩
  have hc : c < n := by rw [← p.len]; exact lt_of_at h
  obtain ⟨y0, hy0⟩ := at_lt (l := a) (i := c) (by rw [S.len]; exact hc)
  have h0 := p.le c x h c y0 hc rfl hy0
  rw [if_pos rfl] at h0
  refine ⟨by have := (S.at_ c y0 hy0).1; omega, fun hx => ?_⟩
  obtain ⟨i, y, hi, e, hy, ex⟩ := p.at_ c x h
  by_cases q : i = c
  · subst q
    rw [if_pos rfl] at ex
    have ex' : x = y := ex
    subst ex'
    exact (S.at_ i x hy).2 hx
  · rw [if_neg q] at ex
    subst ex
    exact .step ((S.at_ i y hy).2 (by omega)) ⟨hi, hc, r, hr, e⟩
theorem pass_up {t : Nat} {r a b : List Nat} (S : Snd n rows z a) (U : Up n rows z t a) (p : PassF n r a b) : Up n rows z t b := by
  intro s c x hs hb h
  have hc : c < n := by rw [← p.len]; exact lt_of_at h
  obtain ⟨y0, hy0⟩ := at_lt (l := a) (i := c) (by rw [S.len]; exact hc)
  have h0 := p.le c x h c y0 hc rfl hy0
  rw [if_pos rfl] at h0
  have := U s c y0 hs hb hy0
  omega
theorem passes_all (hz : z < n) {t : Nat} {rs : List (List Nat)} {a b : List Nat} (h : PassesF n rs a b) : (∀ r ∈ rs, r ∈ rows) → Snd n rows z a → Up n rows z t a →
    Snd n rows z b ∧ Up n rows z t b ∧ ∀ r ∈ rs, ∀ i c x : Nat, Ball n rows z t i → c < n → r[i]? = r[c]? → b[c]? = some x → x ≤ t + 1 := by
  induction h with
  | nil => exact fun _ S U => ⟨S, U, fun r hr => by cases hr⟩
  | @snoc rs r a b c h p ih =>
    intro hs S U
    obtain ⟨S1, U1, g1⟩ := ih (fun q hq => hs q (List.mem_append_left _ hq)) S U
    have hr : r ∈ rows := hs r (List.mem_append_right _ (List.mem_singleton.mpr rfl))
    refine ⟨pass_snd hr S1 p, pass_up S1 U1 p, fun q hq i k x hb hk e hx => ?_⟩
    rcases List.mem_append.mp hq with hq | hq
    · obtain ⟨y0, hy0⟩ := at_lt (l := b) (i := k) (by rw [S1.len]; exact hk)
      have h0 := p.le k x hx k y0 hk rfl hy0
      rw [if_pos rfl] at h0
      have := g1 q hq i k y0 hb hk e hy0
      omega
    · have e2 : q = r := List.mem_singleton.mp hq
      subst e2
      obtain ⟨y0, hy0⟩ := at_lt (l := b) (i := i) (by rw [S1.len]; exact hb.lt hz)
      have h0 := p.le k x hx i y0 (hb.lt hz) e hy0
      have h1 := U1 t i y0 (Nat.le_refl _) hb hy0
      by_cases w : i = k
      · rw [if_pos w] at h0
        omega
      · rw [if_neg w] at h0
        omega
theorem far0_at {c x : Nat} (h : (far0 n z)[c]? = some x) : c < n ∧ x = if c = z then 0 else n := by
  unfold far0 at h
  rw [List.getElem?_map] at h
  by_cases hc : c < n
  · rw [List.getElem?_range hc] at h
    exact ⟨hc, (Option.some.inj h).symm⟩
  · rw [List.getElem?_eq_none (by simpa using hc)] at h
    cases h
theorem runs_all (hz : z < n) {t : Nat} {a : List Nat} (h : RunsF n rows z t a) : Snd n rows z a ∧ Up n rows z t a := by
  induction h with
  | zero =>
    refine ⟨⟨by unfold far0; simp, fun c x h => ?_⟩, fun s c x hs hb h => ?_⟩
    · obtain ⟨hc, e⟩ := far0_at h
      by_cases q : c = z
      · rw [if_pos q] at e
        subst e q
        exact ⟨Nat.zero_le _, fun _ => .base⟩
      · rw [if_neg q] at e
        subst e
        exact ⟨Nat.le_refl _, fun l => absurd l (Nat.lt_irrefl _)⟩
    · obtain ⟨hc, e⟩ := far0_at h
      have e0 : s = 0 := by omega
      subst e0
      cases hb
      rw [if_pos rfl] at e
      omega
  | @succ t a b h p ih =>
    obtain ⟨S, U⟩ := ih
    obtain ⟨S1, U1, g⟩ := passes_all (t := t) hz p (fun _ h => h) S U
    refine ⟨S1, fun s c x hs hb hx => ?_⟩
    by_cases q : s ≤ t
    · exact U1 s c x q hb hx
    · have e : s = t + 1 := by omega
      subst e
      cases hb with
      | @step _ i _ hi e =>
        obtain ⟨h1, h2, r, hr, e⟩ := e
        exact g r hr i c x hi h2 e hx
structure IsFar (n : Nat) (rows : List (List Nat)) (z : Nat) (a : List Nat) : Prop where
  len : a.length = n
  at_ : ∀ (c x : Nat), a[c]? = some x → (x < n ∧ IsD n rows z x c) ∨ (x = n ∧ ∀ t, ¬ Ball n rows z t c)
theorem runs_far (hz : z < n) {a : List Nat} (h : RunsF n rows z n a) : IsFar n rows z a := by
  obtain ⟨S, U⟩ := runs_all hz h
  refine ⟨S.len, fun c x hx => ?_⟩
  obtain ⟨h1, h2⟩ := S.at_ c x hx
  by_cases q : x < n
  · refine .inl ⟨q, h2 q, fun t ht => ?_⟩
    by_cases w : t ≤ n
    · exact U t c x w ht hx
    · omega
  · refine .inr ⟨by omega, fun t ht => ?_⟩
    obtain ⟨d, _, hd⟩ := isD_of ht
    have := hd.lt hz
    have := U d c x (by omega) hd.1 hx
    omega
theorem IsFar.d {a : List Nat} (F : IsFar n rows z a) (hz : z < n) {c x d : Nat} (h : a[c]? = some x) (k : IsD n rows z d c) : x = d := by
  rcases F.at_ c x h with ⟨_, q⟩ | ⟨_, q⟩
  · exact q.uniq k
  · exact absurd k.1 (q _)
end
end Grf

set_option linter.all false
/-! The first nearer step, chains, islands, all cells joined. No Python here. -/
namespace Grf
open Mth
/-- the pairs of an index and a case, in order -/
def prs (m n : Nat) : List (Nat × Nat) := (List.range m).flatMap fun k => (List.range n).map fun c => (k, c)
def same (rows : List (List Nat)) (k i j : Nat) : Bool := decide ((rows.getD k [])[i]? = (rows.getD k [])[j]?)
/-- the first step from here that comes nearer -/
def best (n : Nat) (rows : List (List Nat)) (F : Nat → Nat) (here : Nat) : Option (Nat × Nat) := (prs rows.length n).find? fun p => same rows p.1 p.2 here && decide (F p.2 < F here)
inductive ChR (n : Nat) (rows : List (List Nat)) (F : Nat → Nat) (z : Nat) : Nat → List (Nat × Nat) → Prop
  | nil : ChR n rows F z z []
  | cons {here k c : Nat} {l : List (Nat × Nat)} (h : here ≠ z) (b : best n rows F here = some (k, c)) (r : ChR n rows F z c l) : ChR n rows F z here ((k, c) :: l)
theorem mem_prs {m n k c : Nat} : (k, c) ∈ prs m n ↔ k < m ∧ c < n := by
  unfold prs
  rw [List.mem_flatMap]
  constructor
  · rintro ⟨a, ha, h⟩
    obtain ⟨b, hb, e⟩ := List.mem_map.mp h
    cases e
    exact ⟨List.mem_range.mp ha, List.mem_range.mp hb⟩
  · rintro ⟨h1, h2⟩
    exact ⟨k, List.mem_range.mpr h1, List.mem_map.mpr ⟨c, List.mem_range.mpr h2, rfl⟩⟩
theorem getD_mem {rows : List (List Nat)} {k : Nat} (h : k < rows.length) : rows.getD k [] ∈ rows := by
  rw [List.getD_eq_getElem?_getD, List.getElem?_eq_getElem h]
  exact List.getElem_mem h
theorem same_ed {n : Nat} {rows : List (List Nat)} {k i j : Nat} (hk : k < rows.length) (hi : i < n) (hj : j < n) (h : same rows k i j = true) : Ed n rows i j := ⟨hi, hj, _, getD_mem hk, of_decide_eq_true h⟩
section
variable {n : Nat} {rows : List (List Nat)} {z : Nat} {a : List Nat}
def Fa (a : List Nat) (c : Nat) : Nat := a.getD c 0
theorem fa_at (h : ∀ c, c < n → c < a.length) {c : Nat} (hc : c < n) : a[c]? = some (Fa a c) := by
  unfold Fa
  rw [List.getD_eq_getElem?_getD, List.getElem?_eq_getElem (h c hc)]
  rfl
theorem IsFar.fa (F : IsFar n rows z a) {c : Nat} (hc : c < n) : a[c]? = some (Fa a c) := fa_at (n := n) (fun c h => by rw [F.len]; exact h) hc
theorem IsFar.dist (F : IsFar n rows z a) {c : Nat} (hc : c < n) (h : Fa a c < n) : IsD n rows z (Fa a c) c := by
  rcases F.at_ c _ (F.fa hc) with ⟨_, q⟩ | ⟨q, _⟩
  · exact q
  · omega
theorem IsFar.le (F : IsFar n rows z a) {c : Nat} (hc : c < n) : Fa a c ≤ n := by
  rcases F.at_ c _ (F.fa hc) with ⟨q, _⟩ | ⟨q, _⟩
  · omega
  · omega
theorem best_props {F : Nat → Nat} {here k c : Nat} (b : best n rows F here = some (k, c)) : k < rows.length ∧ c < n ∧ same rows k c here = true ∧ F c < F here := by
  have h1 := List.mem_of_find?_eq_some b
  have h2 := List.find?_some b
  obtain ⟨h3, h4⟩ := mem_prs.mp h1
  simp only [Bool.and_eq_true, decide_eq_true_eq] at h2
  exact ⟨h3, h4, h2.1, h2.2⟩
theorem IsFar.z0 (F : IsFar n rows z a) (hz : z < n) : Fa a z = 0 := by
  have h0 : IsD n rows z 0 z := ⟨.base, fun _ _ => Nat.zero_le _⟩
  exact F.d hz (F.fa hz) h0
theorem IsFar.near (F : IsFar n rows z a) (hz : z < n) {here : Nat} (hh : here < n) (h : Fa a here < n) (h0 : here ≠ z) : ∃ k c, best n rows (Fa a) here = some (k, c) ∧ k < rows.length ∧ c < n ∧ same rows k c here = true ∧ Fa a here = Fa a c + 1 := by
  have hd := F.dist hh h
  cases e : Fa a here with
  | zero =>
    rw [e] at hd
    have hb := hd.1
    cases hb
    exact absurd rfl h0
  | succ d =>
    rw [e] at hd
    obtain ⟨j, hj, ed⟩ := hd.pred
    obtain ⟨hj1, _, r, hr, er⟩ := ed
    obtain ⟨k0, hk0, ek0⟩ := List.mem_iff_getElem.mp hr
    have fj : Fa a j = d := F.d hz (F.fa hj1) hj
    have ex : ((prs rows.length n).find? fun p => same rows p.1 p.2 here && decide (Fa a p.2 < Fa a here)).isSome = true := by
      rw [List.find?_isSome]
      refine ⟨(k0, j), mem_prs.mpr ⟨hk0, hj1⟩, ?_⟩
      simp only [Bool.and_eq_true, decide_eq_true_eq]
      refine ⟨decide_eq_true ?_, by omega⟩
      rw [List.getD_eq_getElem?_getD, List.getElem?_eq_getElem hk0, ek0]
      exact er
    obtain ⟨⟨k, c⟩, hb⟩ := Option.isSome_iff_exists.mp ex
    have hb' : best n rows (Fa a) here = some (k, c) := hb
    obtain ⟨p1, p2, p3, p4⟩ := best_props hb'
    refine ⟨k, c, hb', p1, p2, p3, ?_⟩
    have dc := F.dist p2 (by omega)
    have := hd.2 _ (.step dc.1 (same_ed p1 p2 hh p3))
    omega
theorem IsFar.chain (F : IsFar n rows z a) (hz : z < n) : ∀ (d here : Nat), here < n → Fa a here = d → d < n → ∃ l, ChR n rows (Fa a) z here l ∧ l.length = d
  | 0, here, hh, e, hd => by
    by_cases q : here = z
    · subst q
      exact ⟨[], .nil, rfl⟩
    · obtain ⟨k, c, _, _, _, _, w⟩ := F.near hz hh (by omega) q
      omega
  | d + 1, here, hh, e, hd => by
    have q : here ≠ z := fun q => by
      subst q
      rw [F.z0 hz] at e
      omega
    obtain ⟨k, c, hb, _, hc, _, w⟩ := F.near hz hh (by omega) q
    obtain ⟨l, hl, el⟩ := IsFar.chain F hz d c hc (by omega) (by omega)
    exact ⟨(k, c) :: l, .cons q hb hl, by simp [el]⟩
theorem ChR.len (F : IsFar n rows z a) (hz : z < n) : ∀ {here : Nat} {l : List (Nat × Nat)}, ChR n rows (Fa a) z here l → here < n → Fa a here < n → l.length = Fa a here
  | _, _, .nil, _, _ => (F.z0 hz).symm
  | here, _, .cons (k := k) (c := c) q b r, hh, h => by
    obtain ⟨k', c', hb, _, hc, _, w⟩ := F.near hz hh h q
    rw [b] at hb
    cases hb
    have := ChR.len F hz r hc (by omega)
    rw [List.length_cons]
    omega
/-! ### is it a chain -/
def inB (x : Int) (m : Nat) : Bool := decide (0 ≤ x) && decide (x < m)
def chkC (n : Nat) (rows : List (List Nat)) (z : Nat) : Nat → List (Int × Int) → Bool
  | here, [] => decide (here = z)
  | here, (k, c) :: l => if inB k rows.length && inB c n then (if same rows k.toNat here c.toNat then chkC n rows z c.toNat l else false) else false
theorem same_symm {k i j : Nat} : same rows k i j = same rows k j i := decide_eq_decide.mpr eq_comm
def castP (l : List (Nat × Nat)) : List (Int × Int) := l.map fun p => ((p.1 : Int), (p.2 : Int))
theorem inB_nat {k m : Nat} : inB (k : Int) m = decide (k < m) := by
  unfold inB
  rw [decide_eq_true (by omega : (0 : Int) ≤ (k : Int)), Bool.true_and]
  exact decide_eq_decide.mpr (by omega)
theorem ChR.chk {F : Nat → Nat} : ∀ {here : Nat} {l : List (Nat × Nat)}, ChR n rows F z here l → chkC n rows z here (castP l) = true
  | _, _, .nil => decide_eq_true rfl
  | here, _, .cons (k := k) (c := c) (l := l) q b r => by
    obtain ⟨p1, p2, p3, p4⟩ := best_props b
    show (if inB (k : Int) rows.length && inB (c : Int) n then (if same rows (k : Int).toNat here (c : Int).toNat then chkC n rows z (c : Int).toNat (castP l) else false) else false) = true
    rw [inB_nat, inB_nat, decide_eq_true p1, decide_eq_true p2, Int.toNat_natCast, Int.toNat_natCast, same_symm, p3]
    exact ChR.chk r
end
/-! ### islands -/
theorem ball_cn {n : Nat} {rows : List (List Nat)} {z t i : Nat} (h : Ball n rows z t i) : Cn (Ed n rows) z i := by
  induction h with
  | base => exact .refl _
  | step _ e ih => exact .step ih e
theorem cn_ball {n : Nat} {rows : List (List Nat)} {z i : Nat} (h : Cn (Ed n rows) z i) : ∃ t, Ball n rows z t i := by
  induction h with
  | refl => exact ⟨0, .base⟩
  | step _ e ih =>
    obtain ⟨t, ht⟩ := ih
    exact ⟨t + 1, .step ht e⟩
theorem far_cn {n : Nat} {rows : List (List Nat)} {z : Nat} {a : List Nat} (F : IsFar n rows z a) {c : Nat} (hc : c < n) : Fa a c < n ↔ Cn (Ed n rows) z c := by
  constructor
  · exact fun h => ball_cn (F.dist hc h).1
  · intro h
    obtain ⟨t, ht⟩ := cn_ball h
    rcases F.at_ c _ (F.fa hc) with ⟨q, _⟩ | ⟨_, q⟩
    · exact q
    · exact absurd ht (q t)
structure Jn (E : Nat → Nat → Prop) (n : Nat) (m : List Nat) : Prop where
  len : m.length = n
  low : IsLow m
  iff : ∀ i j : Nat, i < n → j < n → (m[i]? = m[j]? ↔ Cn E i j)
theorem cn_none {E : Nat → Nat → Prop} (h : ∀ i j, ¬ E i j) {i j : Nat} (c : Cn E i j) : i = j := by
  induction c with
  | refl => rfl
  | step _ e _ => exact absurd e (h _ _)
theorem jn_zero {n : Nat} : Jn (Ed n []) n (List.range n) := by
  refine ⟨List.length_range, fun i x h => ?_, fun i j hi hj => ?_⟩
  · have hi : i < n := by
      have := (List.getElem?_eq_some_iff.mp h).1
      rwa [List.length_range] at this
    rw [List.getElem?_range hi] at h
    cases h
    exact ⟨Nat.le_refl _, List.getElem?_range hi⟩
  · rw [List.getElem?_range hi, List.getElem?_range hj]
    constructor
    · intro e
      rw [Option.some.inj e]
      exact .refl _
    · intro c
      rw [cn_none (fun i j ⟨_, _, r, hr, _⟩ => by cases hr) c]
theorem cn_mono {E E' : Nat → Nat → Prop} (h : ∀ i j, E i j → Cn E' i j) {i j : Nat} (c : Cn E i j) : Cn E' i j := by
  induction c with
  | refl => exact .refl _
  | step _ e ih => exact ih.trans (h _ _ e)
theorem jn_succ {n : Nat} {rs : List (List Nat)} {r m : List Nat} (J : Jn (Ed n rs) n m) (hr : r.length = n) : Jn (Ed n (rs ++ [r])) n (orN m (lowG r)) := by
  have hl : m.length = (lowG r).length := by rw [J.len, low_len, hr]
  have K := or_join J.low (low_isLow r) hl
  rw [J.len] at K
  have pr : ∀ i j : Nat, i < n → j < n → ((lowG r)[i]? = (lowG r)[j]? ↔ r[i]? = r[j]?) := fun i j hi hj => (low_pat r).2 i j (by rw [low_len, hr]; exact hi) (by rw [low_len, hr]; exact hj)
  have key : ∀ {i j : Nat}, Cn (E2 m (lowG r)) i j ↔ Cn (Ed n (rs ++ [r])) i j := by
    intro i j
    constructor
    · refine cn_mono fun i j e => ?_
      obtain ⟨h1, h2, h3⟩ := e
      rw [J.len] at h1 h2
      rcases h3 with h3 | h3
      · refine cn_mono (fun i j e => ?_) ((J.iff i j h1 h2).mp h3)
        obtain ⟨g1, g2, q, hq, e⟩ := e
        exact Cn.one ⟨g1, g2, q, List.mem_append_left _ hq, e⟩
      · exact Cn.one ⟨h1, h2, r, List.mem_append_right _ (List.mem_singleton.mpr rfl), (pr i j h1 h2).mp h3⟩
    · refine cn_mono fun i j e => ?_
      obtain ⟨h1, h2, q, hq, e⟩ := e
      rcases List.mem_append.mp hq with hq | hq
      · exact Cn.one ⟨by rw [J.len]; exact h1, by rw [J.len]; exact h2, .inl ((J.iff i j h1 h2).mpr (Cn.one ⟨h1, h2, q, hq, e⟩))⟩
      · rw [List.mem_singleton.mp hq] at e
        exact Cn.one ⟨by rw [J.len]; exact h1, by rw [J.len]; exact h2, .inr ((pr i j h1 h2).mpr e)⟩
  refine ⟨K.len, K.isLow, fun i j hi hj => ?_⟩
  rw [← key]
  constructor
  · intro e
    obtain ⟨x, hx⟩ := at_lt (l := orN m (lowG r)) (i := i) (by rw [K.len]; exact hi)
    have hx2 := e.symm.trans hx
    exact (K.low i x hx).2.trans ((K.low j x hx2).2.symm E2.symm)
  · exact fun c => K.along c
/-- all cells joined, from the single cases on -/
def orAll (n : Nat) : List (List Nat) → List Nat
  | [] => List.range n
  | rs => rs.foldl (fun m r => orN m (lowG r)) (List.range n)
theorem orAll_eq (n : Nat) (rs : List (List Nat)) : orAll n rs = rs.foldl (fun m r => orN m (lowG r)) (List.range n) := by
  cases rs <;> rfl
theorem orAll_snoc (n : Nat) (rs : List (List Nat)) (r : List Nat) : orAll n (rs ++ [r]) = orN (orAll n rs) (lowG r) := by
  rw [orAll_eq, orAll_eq, List.foldl_append]
  rfl
theorem jn_all {n : Nat} : ∀ (k : Nat) (rows : List (List Nat)), rows.length = k → (∀ r ∈ rows, r.length = n) → Jn (Ed n rows) n (orAll n rows)
  | 0, rows, e, _ => by
    have e2 : rows = [] := List.length_eq_zero_iff.mp e
    subst e2
    exact jn_zero
  | k + 1, rows, e, h => by
    have ne : rows ≠ [] := fun z => by
      rw [z] at e
      cases e
    have sp := List.dropLast_concat_getLast ne
    have ih := jn_all k rows.dropLast (by rw [List.length_dropLast, e]; rfl) fun r hr => h r (List.dropLast_subset rows hr)
    have := jn_succ ih (h _ (List.getLast_mem ne))
    rw [← orAll_snoc, sp] at this
    exact this
/-- the island of i -/
def islN (n : Nat) (rows : List (List Nat)) (i : Nat) : List Nat := (List.range n).filter fun o => decide ((orAll n rows)[o]? = (orAll n rows)[i]?)
theorem isl_far {n : Nat} {rows : List (List Nat)} (h : ∀ r ∈ rows, r.length = n) {i : Nat} (hi : i < n) {a : List Nat} (F : IsFar n rows i a) : islN n rows i = (List.range n).filter fun c => decide (Fa a c < n) := by
  unfold islN
  refine List.filter_congr fun c hc => ?_
  have hc' := List.mem_range.mp hc
  refine decide_eq_decide.mpr ?_
  rw [(jn_all _ rows rfl h).iff c i hc' hi, far_cn F hc']
  exact ⟨fun c => c.symm fun _ _ => Ed.symm, fun c => c.symm fun _ _ => Ed.symm⟩
theorem mem_isl {n : Nat} {rows : List (List Nat)} (h : ∀ r ∈ rows, r.length = n) {i j : Nat} (hi : i < n) (hj : j < n) {a : List Nat} (F : IsFar n rows j a) : j ∈ islN n rows i ↔ Fa a i < n := by
  unfold islN
  rw [List.mem_filter, decide_eq_true_eq, (jn_all _ rows rfl h).iff j i hj hi, far_cn F hi]
  exact ⟨fun z => z.2, fun z => ⟨List.mem_range.mpr hj, z⟩⟩
/-- does the paper hold -/
def chkI (n : Nat) (rows : List (List Nat)) (i j : Nat) (isl : List Int) : Bool :=
  isl.all (fun c => inB c n) && decide ((i : Int) ∈ isl) && !decide ((j : Int) ∈ isl) && rows.all fun r => (List.range n).all fun c => decide ((∃ d ∈ isl, r[d.toNat]? = r[c]?) → (c : Int) ∈ isl)
end Grf

set_option Elab.async false
set_option linter.all false
set_option maxRecDepth 100000
set_option maxHeartbeats 2000000
/-! The program's chains: what all four ask first; neighbours; steps. -/
namespace Tw
open PySem PySem.Spec PyProof.Rows L2 LamX DL Mth Grf
abbrev sEnds : Stmt := top 22
abbrev sWays : Stmt := top 23
abbrev sNbr : Stmt := top 24
abbrev sNear : Stmt := top 25
abbrev sStepH : Stmt := top 26
/-- the splits of the rows of marks -/
def spR (C : Addr) (rows : List (List Nat)) : D := .lst (rows.map fun r => spl C (lowG r))
/-- sizes, first, last: what is told where something is wrong; ok where nothing is -/
structure EndsX (CM CU : Addr) (r0 : List Nat) (rest : List (List Nat)) (f l : Int) (w : Wp) (χ : XD) (ok : Prop) : Prop where
  sz : ∀ q ∈ r0 :: rest, 1 ≤ q.length ∧ q.length ≤ 12
  n5 : rest.length ≤ 6
  ok : (∀ q ∈ r0 :: rest, q.length = r0.length) → InR f r0.length → InR l r0.length → ok
  f1 : (∀ q ∈ r0 :: rest, q.length = r0.length) → ¬ InR f r0.length → f.natAbs.log2 < 1920 ∧ χ CU ["case"] [I f] w
  l1 : (∀ q ∈ r0 :: rest, q.length = r0.length) → InR f r0.length → ¬ InR l r0.length → l.natAbs.log2 < 1920 ∧ χ CU ["case"] [I l] w
  s1 : ∀ q, (r0 :: rest).find? (fun q => decide (q.length ≠ r0.length)) = some q → χ CM ["second", "first"] [I (q.length : Int), I (r0.length : Int)] w
theorem EndsX.map {CM CU : Addr} {r0 : List Nat} {rest : List (List Nat)} {f l : Int} {w : Wp} {χ : XD} {ok ok' : Prop} (E : EndsX CM CU r0 rest f l w χ ok) (h : (∀ q ∈ r0 :: rest, q.length = r0.length) → InR f r0.length → InR l r0.length → ok → ok') : EndsX CM CU r0 rest f l w χ ok' :=
  ⟨E.sz, E.n5, fun a b c => h a b c (E.ok a b c), E.f1, E.l1, E.s1⟩
def spEnds (C CM CU : Addr) : SpD := fun ds w κ χ => ∃ r0 rest f l, ds = [spR C (r0 :: rest), I f, I l] ∧ EndsX CM CU r0 rest f l w χ (κ N w)
theorem rlen {r : List Nat} : (lowG r).length = r.length := Mth.low_len r
theorem find_first {α : Type} {p : α → Bool} : ∀ {l : List α} {i : Nat} {x : α}, l[i]? = some x → p x = true → (∀ j y, j < i → l[j]? = some y → p y = false) → l.find? p = some x
  | [], i, x, h, _, _ => by simp at h
  | a :: l, 0, x, h, hp, _ => by
    have e : a = x := by simpa using h
    subst e
    rw [List.find?_cons, hp]
  | a :: l, i + 1, x, h, hp, hn => by
    rw [List.find?_cons, hn 0 a (Nat.succ_pos _) rfl]
    exact find_first (by simpa using h) hp fun j y hj e => hn (j + 1) y (Nat.succ_lt_succ hj) (by simpa using e)
section
variable {P : Program} {w : PySem.World} {K : PySem.W.Frag} {mg : Str → Option Value} {base : Heap} {T : List (Addr × Str)} {C CU CB CM : Addr}
theorem scEnds : FnScope ["splits", "first", "last", "size", "split"] ["splits", "first", "last"] (defScope sEnds) := ⟨rfl, rfl, rfl, by decide +kernel, rfl, by decide +kernel, by decide +kernel⟩
theorem spl_len {r : List Nat} {w : Wp} : FldD C "size" (spl C (lowG r)) w (I (r.length : Int)) := by
  have h := fld_size (C := C) (lo := lowG r) (w := w)
  rw [rlen] at h
  exact h
theorem ok_ends {f : Addr} {fd : FuncData} (G : Fun K "_check_ends" "_check_ends" sEnds f fd) (c : SplC K C) (hE : HasE2 P w K mg base "SizeMismatch" CM 1 "first" "second") (hC : HasF P w K mg base T (L2.CX P w) "check_case" 3 ["case", "size"] (spCheck CU)) :
    FnOk P w K mg base (L2.CX P w) 4 f fd ["splits", "first", "last"] (spOf K T (spEnds C CM CU)) := by
  refine fnX G scEnds (fun ds w κ χ h => ?_) (fun cdv A outer s H E ds w0 κ χ hr h => ?_)
  · obtain ⟨r0, rest, f, l, rfl, _⟩ := h
    rfl
  obtain ⟨r0, rest, f, l, rfl, X⟩ := h
  have nd := scEnds.nd
  refine pssd_cons (psd_set (i := 3) nd rfl ?_)
  refine pd_fld c.cl c.nS ?_
  refine pd_ix ix_list ?_
  refine pd_var (i := 0) rfl rfl ?_
  refine pd_int ?_
  refine vr_ixL (i := 0) (d := spl C (lowG r0)) rfl ?_
  refine ⟨_, spl_len, ?_⟩
  refine pssd_cons (psd_for (passes_of rfl) rfl ?_)
  refine it_list ?_
  refine pd_var (i := 0) rfl rfl ?_
  refine ⟨_, rfl, ?_⟩
  refine ⟨fun i δ' w' => (∃ x, δ' = [some (spR C (r0 :: rest)), some (I f), some (I l), some (I (r0.length : Int)), x]) ∧ w' = w0 ∧ ∀ j q, j < i → (r0 :: rest)[j]? = some q → q.length = r0.length, ⟨⟨none, rfl⟩, rfl, fun j q h => absurd h (Nat.not_lt_zero _)⟩, ?_, ?_⟩
  · rintro i d δ' w' hd ⟨⟨x, rfl⟩, rfl, all⟩
    rw [List.getElem?_map] at hd
    cases e : (r0 :: rest)[i]? with
    | none =>
      rw [e] at hd
      cases hd
    | some q =>
    rw [e] at hd
    cases hd
    refine pgd_name (i := 4) nd rfl ?_
    refine pssd_one (psd_if ?_)
    refine ptd_cmp op_ne ?_
    refine pd_fld c.cl c.nS ?_
    refine pd_var (i := 4) rfl rfl ?_
    refine ⟨_, spl_len, ?_⟩
    refine pd_var (i := 3) rfl rfl ?_
    refine vr_ne rfl ?_
    refine ⟨_, rfl, ?_⟩
    rw [int_eq_dec]
    refine ite2 (fun z => ?_) (fun z => ?_)
    · refine pssd_one (psd_raiseH2 rfl takesX hE (hr.mono (by decide)) ?_)
      refine pd_var (i := 3) rfl rfl ?_
      refine pd_fld c.cl c.nS ?_
      refine pd_var (i := 4) rfl rfl ?_
      refine ⟨_, spl_len, ?_⟩
      have hq := X.sz q (List.mem_of_getElem? e)
      have h0 := X.sz r0 (List.mem_cons_self ..)
      refine ⟨_, _, rfl, rfl, log_small (by omega), log_small (by omega), X.s1 q (find_first e ?_ fun j y hj ey => ?_)⟩
      · simpa using z
      · rw [all j y hj ey]
        simp
    · refine pssd_nil ⟨⟨_, rfl⟩, rfl, fun j y hj ey => ?_⟩
      by_cases w : j = i
      · subst w
        rw [e] at ey
        cases ey
        simpa using z
      · exact all j y (by omega) ey
  · rintro δ' w' ⟨⟨x, rfl⟩, rfl, all⟩
    rw [List.length_map] at all
    have eq : ∀ q ∈ r0 :: rest, q.length = r0.length := fun q hq => by
      obtain ⟨i, hi, e⟩ := List.mem_iff_getElem.mp hq
      exact all i q hi (by rw [List.getElem?_eq_getElem hi, e])
    refine pssd_cons (psd_expr ?_)
    refine pd_has hC hr passX ?_
    refine pad_cons ?_
    refine pd_var (i := 1) rfl rfl ?_
    refine pad_cons ?_
    refine pd_var (i := 3) rfl rfl ?_
    refine pad_nil ?_
    refine ⟨f, _, rfl, fun hf => ?_, X.f1 eq⟩
    refine pssd_one (psd_expr ?_)
    refine pd_has hC hr passX ?_
    refine pad_cons ?_
    refine pd_var (i := 2) rfl rfl ?_
    refine pad_cons ?_
    refine pd_var (i := 3) rfl rfl ?_
    refine pad_nil ?_
    exact ⟨l, _, rfl, fun hl => X.ok eq hf hl, X.l1 eq hf⟩
/-! ### neighbours -/
theorem scNbr : FnScope ["splits", "case", "split", "other"] ["splits", "case"] (defScope sNbr) := ⟨rfl, rfl, rfl, by decide +kernel, rfl, by decide +kernel, by decide +kernel⟩
end
/-- the cell of c in the k-th split -/
def cellR (n : Nat) (rows : List (List Nat)) (k c : Nat) : List Nat := (List.range n).filter fun o => same rows k o c
theorem cell_rows {n : Nat} {rows : List (List Nat)} {k c : Nat} {r : List Nat} (e : rows[k]? = some r) (hn : r.length = n) (hc : c < n) : cellN (lowG r) (markAt (lowG r) (c : Int)) = cellR n rows k c := by
  unfold cellN cellR
  rw [rlen, hn]
  refine List.filter_congr fun o ho => ?_
  have ho' := List.mem_range.mp ho
  refine decide_eq_decide.mpr ?_
  have e1 : rows.getD k [] = r := by
    rw [List.getD_eq_getElem?_getD, e]
    rfl
  rw [e1, ← mark_at (lo := lowG r) (i := c) (by rw [rlen]; omega)]
  exact (low_pat r).2 o c (by rw [rlen]; omega) (by rw [rlen]; omega)
def nbr (n : Nat) (rows : List (List Nat)) (c : Nat) : List Nat := (List.range rows.length).flatMap fun k => cellR n rows k c
def spNbr (C : Addr) : SpD := fun ds w κ χ => ∃ (n : Nat) (rows : List (List Nat)) (c : Nat), ds = [spR C rows, I (c : Int)] ∧ (∀ r ∈ rows, r.length = n) ∧ n ≤ 12 ∧ rows.length ≤ 7 ∧ c < n ∧ κ (nats (nbr n rows c)) w
theorem cellR_len {n : Nat} {rows : List (List Nat)} {k c : Nat} : (cellR n rows k c).length ≤ n := by
  unfold cellR
  have := List.length_filter_le (fun o => same rows k o c) (List.range n)
  rwa [List.length_range] at this
theorem range_flat {f : Nat → List Nat} (i : Nat) : (List.range (i + 1)).flatMap f = (List.range i).flatMap f ++ f i := by
  rw [List.range_succ, List.flatMap_append]
  simp
theorem flat_len {f : Nat → List Nat} {b : Nat} (h : ∀ k, (f k).length ≤ b) : ∀ i, ((List.range i).flatMap f).length ≤ i * b
  | 0 => Nat.zero_le _
  | i + 1 => by
    rw [range_flat, List.length_append, Nat.succ_mul]
    have := flat_len h i
    have := h i
    omega
section
variable {P : Program} {w : PySem.World} {K : PySem.W.Frag} {mg : Str → Option Value} {base : Heap} {T : List (Addr × Str)} {C CU CB CM : Addr}
theorem ok_nbr {f : Addr} {fd : FuncData} (G : Fun K "_neighbours" "_neighbours" sNbr f fd) (c : SplC K C) (hC : HasM P w K mg base T (L2.CX P w) C "cell" 4 ["self", "case"] (spCell C CU)) : FnOk P w K mg base CX0 5 f fd ["splits", "case"] (spOf K T (spNbr C)) := by
  refine fnD G scNbr (fun ds w κ χ h => ?_) (fun cdv A outer s H E ds w0 κ χ hr h => ?_)
  · obtain ⟨n, rows, c, rfl, _⟩ := h
    rfl
  obtain ⟨n, rows, cs, rfl, hl, hn, h7, hc, k⟩ := h
  have nd := scNbr.nd
  refine pssd_one (psd_ret ?_)
  refine pd_lc2 (own := [("split", 2), ("other", 3)]) (is := [2]) (is1 := [3]) (vs1 := [3]) rfl nd (blkOk_by rfl) (by decide) (by decide) (by decide) ?_
  refine it_list ?_
  refine pd_var (i := 0) rfl rfl ?_
  refine ⟨_, rfl, ?_⟩
  refine ⟨fun i acc w' => acc = nl ((List.range i).flatMap fun k => cellR n rows k cs) ∧ w' = w0, ⟨rfl, rfl⟩, ?_, ?_⟩
  · rintro i d acc w' hd ⟨rfl, rfl⟩ s H0 C1 cl1 fp1
    rw [List.getElem?_map] at hd
    cases e : rows[i]? with
    | none =>
      rw [e] at hd
      cases hd
    | some r =>
    rw [e] at hd
    cases hd
    have hr1 := hl r (List.mem_of_getElem? e)
    refine pgl_name nd rfl ?_
    intro s H0 C1 cl1 fp1
    refine ptsd_nil ?_
    rw [if_pos rfl]
    intro s H0 C1 cl1 fp1
    refine pd_frz ?_
    refine pd_hasm c.cl hC hr (fun _ => passLf) ?_
    refine pd_var (i := 2) rfl rfl ?_
    refine ⟨ins_spl (by decide), ?_⟩
    refine pad_cons ?_
    refine pd_var (i := 1) rfl rfl ?_
    refine pad_nil ?_
    have hin : InR (cs : Int) ((lowG r).length : Int) := ⟨by omega, by rw [rlen]; omega⟩
    refine ⟨lowG r, _, rfl, by rw [rlen]; omega, fun _ a ha => ?_, fun z => absurd hin z⟩
    refine ⟨a, _, rfl, wu_same, _, rfl, ?_⟩
    rw [wd_wu ha, cell_rows e hr1 hc]
    refine ⟨fun j acc w2 => acc = nl ((List.range i).flatMap fun k => cellR n rows k cs) ++ nl ((cellR n rows i cs).take j) ∧ w2 = w', ⟨by simp [nl], rfl⟩, ?_, ?_⟩
    · rintro j d acc w2 hd ⟨rfl, rfl⟩ s H0 C1 cl1 fp1
      have hd' : (nl (cellR n rows i cs))[j]? = some d := hd
      unfold nl at hd'
      rw [List.getElem?_map] at hd'
      cases e2 : (cellR n rows i cs)[j]? with
      | none =>
        rw [e2] at hd'
        cases hd'
      | some o =>
      rw [e2] at hd'
      cases hd'
      refine pgl_name nd rfl ?_
      intro s H0 C1 cl1 fp1
      refine ptsd_nil ?_
      rw [if_pos rfl]
      have z1 := flat_len (f := fun k => cellR n rows k cs) (b := n) (fun k => cellR_len) i
      have z2 := cellR_len (n := n) (rows := rows) (k := i) (c := cs)
      have z3 : i < rows.length := (List.getElem?_eq_some_iff.mp e).1
      have z4 : i * n ≤ 7 * 12 := Nat.mul_le_mul (by omega) hn
      refine ⟨small1000 ?_, ?_⟩
      · rw [List.length_append, nl_len, nl_len, List.length_take]
        omega
      intro s H0 C1 cl1 fp1
      refine pd_var (i := 3) rfl rfl ?_
      refine ⟨?_, rfl⟩
      rw [List.take_add_one, e2]
      unfold nl
      rw [List.map_append, List.append_assoc]
      rfl
    · rintro acc w2 ⟨rfl, rfl⟩
      refine ⟨?_, rfl⟩
      have z : (nl (cellR n rows i cs)).length = (cellR n rows i cs).length := nl_len _
      rw [z, List.take_length, range_flat]
      unfold nl
      rw [List.map_append]
  · rintro acc w' ⟨rfl, rfl⟩
    rw [List.length_map]
    exact k
end
end Tw

set_option Elab.async false
set_option linter.all false
set_option maxRecDepth 100000
set_option maxHeartbeats 2000000
/-! The program's distances. -/
namespace DL
open PySem PySem.Spec PyProof.Rows L2 LamX
section
variable {X : Cx} {T : List (Addr × Str)} {W : WX} {χ : XD} {δ : Dn} {w : Wp} {pos : Pos}
/-- k not in d, as a test -/
theorem ptd_dnin {o i : Expr} {κ : Bool → Wp → Prop} (hu : X.A.units + 1 < cLine) (h : PD X T W χ i δ w fun e w1 => PD X T W χ o δ w1 fun d w2 => ∃ kvs k, Dk w2 d kvs ∧ e = .val (kV k) ∧ κ (!(valV kvs k).isSome) w2)
    (h1 : behindInMarks .NotIn o = false := by rfl) : PTD X T W χ (.Compare i [.NotIn] [o] pos) δ w κ := fun F σ S H Q hE hW hX hK =>
  wp_pt (pt_cmp (pc_dnotin hu (pe_wp i) (pe_wp o)) h1) (by
    refine h F σ S H _ hE hW hX fun e w1 y S1 H1 k s1 W1 r1 => ?_
    refine k F σ S1 H1 _ (hE.mono s1) W1 (hX.mono s1) fun d w2 x S2 H2 k2 s2 W2 r2 => ?_
    obtain ⟨kvs, ky, l, rfl, k2⟩ := k2
    obtain ⟨a, rfl, ha⟩ := l.at_ W2 r2
    have r1' : y = kV ky := r1
    subst r1'
    exact ⟨a, _, rfl, .inl ⟨kvs, ky, .inl ha, rfl, rfl⟩, _, rfl, hK _ w2 S2 H2 k2 (s1.trans s2) W2⟩)
end
end DL
namespace Tw
open PySem PySem.Spec PyProof.Rows L2 LamX DL Mth Grf
abbrev Kvs := List (Key × V)
def ky (i : Nat) : Key := .inl (i : Int)
theorem ky_inj {i j : Nat} : ky i = ky j ↔ i = j := by
  unfold ky
  refine ⟨fun h => ?_, fun h => by rw [h]⟩
  have := Sum.inl.inj h
  omega
/-- how many cases of n the dict does not tell -/
def unk (n : Nat) (kvs : Kvs) : Nat := ((List.range n).filter fun i => (valV kvs (ky i)).isNone).length
theorem filter_less {α : Type} {p q : α → Bool} : ∀ {l : List α} {x : α}, (∀ y, q y = true → p y = true) → x ∈ l → p x = true → q x = false → (l.filter q).length + 1 ≤ (l.filter p).length
  | [], x, _, h, _, _ => by cases h
  | a :: l, x, sub, h, hp, hq => by
    have mono : ∀ l : List α, (l.filter q).length ≤ (l.filter p).length := fun l => by
      induction l with
      | nil => exact Nat.le_refl _
      | cons b l ih =>
        rw [List.filter_cons, List.filter_cons]
        by_cases c : q b = true
        · rw [if_pos c, if_pos (sub b c)]
          exact Nat.succ_le_succ ih
        · rw [if_neg c]
          by_cases d : p b = true
          · rw [if_pos d]
            exact Nat.le_succ_of_le ih
          · rw [if_neg d]
            exact ih
    rw [List.filter_cons, List.filter_cons]
    rcases List.mem_cons.mp h with rfl | h
    · rw [if_pos hp, if_neg (by rw [hq]; exact Bool.false_ne_true)]
      exact Nat.succ_le_succ (mono l)
    · have ih := filter_less sub h hp hq
      by_cases c : q a = true
      · rw [if_pos c, if_pos (sub a c)]
        exact Nat.succ_le_succ ih
      · rw [if_neg c]
        by_cases d : p a = true
        · rw [if_pos d]
          exact Nat.le_succ_of_le ih
        · rw [if_neg d]
          exact ih
theorem unk_put {n i : Nat} {kvs : Kvs} {v : V} (hi : i < n) (h : valV kvs (ky i) = none) : (putK kvs (ky i) v).length + unk n (putK kvs (ky i) v) ≤ kvs.length + unk n kvs := by
  have h1 : (putK kvs (ky i) v).length = kvs.length + 1 := by
    rw [putK_new v h, List.length_append]
    rfl
  have h2 : unk n (putK kvs (ky i) v) + 1 ≤ unk n kvs := by
    refine filter_less (x := i) (fun y hy => ?_) (List.mem_range.mpr hi) (by rw [h]; rfl) ?_
    · rw [valV_put] at hy
      by_cases e : ky y = ky i
      · rw [if_pos e] at hy
        cases hy
      · rw [if_neg e] at hy
        exact hy
    · rw [valV_put, if_pos rfl]
      rfl
  omega
theorem unk_le (n : Nat) (kvs : Kvs) : unk n kvs ≤ n := by
  unfold unk
  have := List.length_filter_le (fun i => (valV kvs (ky i)).isNone) (List.range n)
  rwa [List.length_range] at this
/-- what the dict of the ways tells -/
structure WaysOk (n : Nat) (rows : List (List Nat)) (z : Nat) (kvs : Kvs) : Prop where
  has : ∀ i d : Nat, i < n → IsD n rows z d i → valV kvs (ky i) = some (.int (d : Int))
  is : ∀ (i : Nat) (v : V), i < n → valV kvs (ky i) = some v → ∃ d : Nat, v = .int (d : Int) ∧ IsD n rows z d i
/-- at the level t: es are the cases of this distance -/
structure Lvl (n : Nat) (rows : List (List Nat)) (z t : Nat) (kvs : Kvs) (es : List Nat) : Prop where
  has : ∀ i d : Nat, i < n → d ≤ t → IsD n rows z d i → valV kvs (ky i) = some (.int (d : Int))
  is : ∀ (i : Nat) (v : V), i < n → valV kvs (ky i) = some v → ∃ d : Nat, v = .int (d : Int) ∧ d ≤ t ∧ IsD n rows z d i
  mem : ∀ x ∈ es, x < n ∧ IsD n rows z t x
  all : ∀ x, IsD n rows z t x → x ∈ es
  cnt : kvs.length + unk n kvs ≤ n
  es13 : es.length ≤ n
/-- within the level: by are those found at distance t + 1 -/
structure Mid (n : Nat) (rows : List (List Nat)) (z t : Nat) (kvs : Kvs) (by_ : List Nat) (Done : Nat → Prop) : Prop where
  has : ∀ i d : Nat, i < n → d ≤ t → IsD n rows z d i → valV kvs (ky i) = some (.int (d : Int))
  is : ∀ (i : Nat) (v : V), i < n → valV kvs (ky i) = some v → ∃ d : Nat, v = .int (d : Int) ∧ d ≤ t + 1 ∧ IsD n rows z d i
  mem : ∀ x ∈ by_, x < n ∧ IsD n rows z (t + 1) x ∧ (valV kvs (ky x)).isSome = true
  all : ∀ x, x < n → valV kvs (ky x) = some (.int ((t + 1 : Nat) : Int)) → x ∈ by_
  cnt : kvs.length + unk n kvs ≤ n
  nd : by_.Nodup
  pre : ∀ x, Done x → x < n → (valV kvs (ky x)).isSome = true
section
variable {n : Nat} {rows : List (List Nat)} {z t : Nat} {kvs : Kvs}
theorem Mid.imp {by_ : List Nat} {D D' : Nat → Prop} (M : Mid n rows z t kvs by_ D) (h : ∀ x, D' x → D x) : Mid n rows z t kvs by_ D' := ⟨M.has, M.is, M.mem, M.all, M.cnt, M.nd, fun x hx => M.pre x (h x hx)⟩
theorem isD_level (hz : z < n) : ∀ {d i : Nat}, IsD n rows z d i → ∀ s, s ≤ d → ∃ x, IsD n rows z s x
  | 0, i, h, s, hs => ⟨i, by rw [Nat.le_zero.mp hs]; exact h⟩
  | d + 1, i, h, s, hs => by
    by_cases e : s = d + 1
    · subst e
      exact ⟨i, h⟩
    · obtain ⟨j, hj, _⟩ := h.pred
      exact isD_level hz hj s (by omega)
theorem mem_cellR {k o c : Nat} : o ∈ cellR n rows k c ↔ o < n ∧ same rows k o c = true := by
  unfold cellR
  rw [List.mem_filter, List.mem_range]
theorem mem_nbr {o c : Nat} : o ∈ nbr n rows c ↔ o < n ∧ ∃ k, k < rows.length ∧ same rows k o c = true := by
  unfold nbr
  rw [List.mem_flatMap]
  constructor
  · rintro ⟨k, hk, h⟩
    obtain ⟨h1, h2⟩ := mem_cellR.mp h
    exact ⟨h1, k, List.mem_range.mp hk, h2⟩
  · rintro ⟨h1, k, hk, h2⟩
    exact ⟨k, List.mem_range.mpr hk, mem_cellR.mpr ⟨h1, h2⟩⟩
theorem nbr_ed {o c : Nat} (hc : c < n) (h : o ∈ nbr n rows c) : Ed n rows c o := by
  obtain ⟨h1, k, hk, h2⟩ := mem_nbr.mp h
  exact (same_ed hk h1 hc h2).symm
theorem ed_nbr {o c : Nat} (h : Ed n rows c o) : o ∈ nbr n rows c := by
  obtain ⟨h1, h2, r, hr, e⟩ := h
  obtain ⟨k, hk, ek⟩ := List.mem_iff_getElem.mp hr
  refine mem_nbr.mpr ⟨h2, k, hk, decide_eq_true ?_⟩
  rw [List.getD_eq_getElem?_getD, List.getElem?_eq_getElem hk, ek]
  exact e.symm
theorem lvl_mid {es : List Nat} (L : Lvl n rows z t kvs es) : Mid n rows z t kvs [] fun _ => False :=
  ⟨L.has, fun i v hi h => (by
    obtain ⟨d, h1, h2, h3⟩ := L.is i v hi h
    exact ⟨d, h1, by omega, h3⟩), fun x hx => (by cases hx), fun x hx h => (by
    obtain ⟨d, h1, h2, _⟩ := L.is x _ hx h
    have := V.int.inj h1
    omega), L.cnt, List.nodup_nil, fun x hx => hx.elim⟩
/-- one neighbour more -/
theorem mid_new {by_ : List Nat} {D : Nat → Prop} (M : Mid n rows z t kvs by_ D) {c o : Nat} (hc : IsD n rows z t c) (e : Ed n rows c o) (h : valV kvs (ky o) = none) :
    Mid n rows z t (putK kvs (ky o) (.int ((t + 1 : Nat) : Int))) (by_ ++ [o]) fun x => D x ∨ x = o := by
  have ho : o < n := e.2.1
  have hd : IsD n rows z (t + 1) o := by
    refine ⟨.step hc.1 e, fun s hs => ?_⟩
    refine Nat.le_of_not_lt fun l => ?_
    obtain ⟨d, hd, k⟩ := isD_of hs
    have := M.has o d ho (by omega) k
    rw [h] at this
    cases this
  refine ⟨fun i d hi hle k => ?_, fun i v hi hv => ?_, fun x hx => ?_, fun x hx hv => ?_, ?_, ?_, fun x hx hn => ?_⟩
  · rw [valV_put]
    by_cases q : ky i = ky o
    · have := ky_inj.mp q
      subst this
      have := k.uniq hd
      omega
    · rw [if_neg q]
      exact M.has i d hi hle k
  · rw [valV_put] at hv
    by_cases q : ky i = ky o
    · rw [if_pos q] at hv
      cases hv
      have := ky_inj.mp q
      subst this
      exact ⟨t + 1, rfl, Nat.le_refl _, hd⟩
    · rw [if_neg q] at hv
      exact M.is i v hi hv
  · rw [valV_put]
    rcases List.mem_append.mp hx with hx | hx
    · obtain ⟨h1, h2, h3⟩ := M.mem x hx
      refine ⟨h1, h2, ?_⟩
      by_cases q : ky x = ky o
      · rw [if_pos q]
        rfl
      · rw [if_neg q]
        exact h3
    · rw [List.mem_singleton.mp hx]
      exact ⟨ho, hd, by rw [if_pos rfl]; rfl⟩
  · rw [valV_put] at hv
    by_cases q : ky x = ky o
    · have := ky_inj.mp q
      subst this
      exact List.mem_append_right _ (List.mem_singleton.mpr rfl)
    · rw [if_neg q] at hv
      exact List.mem_append_left _ (M.all x hx hv)
  · exact Nat.le_trans (unk_put ho h) M.cnt
  · rw [List.nodup_append]
    refine ⟨M.nd, by simp, fun x hx y hy => ?_⟩
    rw [List.mem_singleton.mp hy]
    intro q
    subst q
    have h3 := (M.mem x hx).2.2
    rw [h] at h3
    cases h3
  · rw [valV_put]
    by_cases q : ky x = ky o
    · rw [if_pos q]
      rfl
    · rw [if_neg q]
      rcases hx with hx | hx
      · exact M.pre x hx hn
      · exact absurd (by rw [hx]) q
/-- the next level -/
theorem mid_lvl (hz : z < n) {es by_ : List Nat} (L : ∀ x, IsD n rows z t x → x ∈ es) (M : Mid n rows z t kvs by_ fun x => ∃ c ∈ es, x ∈ nbr n rows c) : Lvl n rows z (t + 1) kvs by_ := by
  have has : ∀ i d : Nat, i < n → d ≤ t + 1 → IsD n rows z d i → valV kvs (ky i) = some (.int (d : Int)) := fun i d hi hd k => by
    by_cases q : d ≤ t
    · exact M.has i d hi q k
    · have e : d = t + 1 := by omega
      subst e
      obtain ⟨j, hj, ed⟩ := k.pred
      have h := M.pre i ⟨j, L j hj, ed_nbr ed⟩ hi
      obtain ⟨v, hv⟩ := Option.isSome_iff_exists.mp h
      obtain ⟨d', e1, _, k'⟩ := M.is i v hi hv
      rw [hv, e1, k'.uniq k]
  exact ⟨has, M.is, fun x hx => ⟨(M.mem x hx).1, (M.mem x hx).2.1⟩, fun x hx => M.all x (hx.1.lt hz) (has x _ (hx.1.lt hz) (Nat.le_refl _) hx), M.cnt, nodup_le M.nd fun x hx => (M.mem x hx).1⟩
theorem lvl_start (hz : z < n) : Lvl n rows z 0 [(ky z, .int ((0 : Nat) : Int))] [z] := by
  have h0 : IsD n rows z 0 z := ⟨.base, fun _ _ => Nat.zero_le _⟩
  refine ⟨fun i d hi hd k => ?_, fun i v hi h => ?_, fun x hx => ?_, fun x hx => ?_, ?_, by simp; omega⟩
  · have e : d = 0 := by omega
    subst e
    have hb := k.1
    cases hb
    exact valV_pos rfl
  · by_cases q : ky z = ky i
    · rw [valV_pos q] at h
      cases h
      have := ky_inj.mp q
      subst this
      exact ⟨0, rfl, Nat.le_refl _, h0⟩
    · rw [valV_neg q] at h
      cases h
  · rw [List.mem_singleton.mp hx]
    exact ⟨hz, h0⟩
  · have hb := hx.1
    cases hb
    exact List.mem_singleton.mpr rfl
  · have := filter_less (p := fun _ : Nat => true) (q := fun i => (valV [(ky z, V.int ((0 : Nat) : Int))] (ky i)).isNone) (l := List.range n) (x := z) (fun _ _ => rfl) (List.mem_range.mpr hz) rfl (by
      show (valV [(ky z, V.int ((0 : Nat) : Int))] (ky z)).isNone = false
      rw [valV_pos rfl]
      rfl)
    have e : (List.range n).filter (fun _ => true) = List.range n := List.filter_eq_self.mpr fun _ _ => rfl
    rw [e, List.length_range] at this
    show 1 + unk n _ ≤ n
    unfold unk
    omega
theorem lvl_done (hz : z < n) (L : Lvl n rows z t kvs []) : WaysOk n rows z kvs := by
  refine ⟨fun i d hi k => ?_, fun i v hi h => ?_⟩
  · by_cases q : d ≤ t
    · exact L.has i d hi q k
    · obtain ⟨x, hx⟩ := isD_level hz k t (by omega)
      cases L.all x hx
  · obtain ⟨d, h1, _, h3⟩ := L.is i v hi h
    exact ⟨d, h1, h3⟩
theorem lvl_lt (hz : z < n) {es : List Nat} (L : Lvl n rows z t kvs es) (h : es ≠ []) : t < n := by
  obtain ⟨x, hx⟩ := List.exists_mem_of_ne_nil es h
  exact (L.mem x hx).2.lt hz
end
def spWays (C : Addr) : SpD := fun ds w κ χ => ∃ (n : Nat) (rows : List (List Nat)) (z : Nat), ds = [spR C rows, I (z : Int)] ∧ (∀ r ∈ rows, r.length = n) ∧ n ≤ 12 ∧ rows.length ≤ 7 ∧ z < n ∧ ∀ kvs, WaysOk n rows z kvs → κ (.dic kvs) w
section
variable {P : Program} {w : PySem.World} {K : PySem.W.Frag} {mg : Str → Option Value} {base : Heap} {T : List (Addr × Str)} {C CU CB CM : Addr}
theorem scWays : FnScope ["splits", "last", "ways", "edge", "beyond", "case", "other"] ["splits", "last"] (defScope sWays) := ⟨rfl, rfl, rfl, by decide +kernel, rfl, by decide +kernel, by decide +kernel⟩
theorem wu3 {w : Wp} {a b : Addr} {h k h' : HD} (ne : a ≠ b) : wu (wu (wu w a h) b k) a h' = wu (wu w a h') b k := by
  rw [wu_comm ne, wu_wu, wu_comm (Ne.symm ne)]
theorem ok_ways {f : Addr} {fd : FuncData} (G : Fun K "_ways_to" "_ways_to" sWays f fd) (hN : HasF P w K mg base T CX0 "_neighbours" 5 ["splits", "case"] (spNbr C)) : FnOk P w K mg base CX0 6 f fd ["splits", "last"] (spOf K T (spWays C)) := by
  refine fnD G scWays (fun ds w κ χ h => ?_) (fun cdv A outer s H E ds w0 κ χ hr h => ?_)
  · obtain ⟨n, rows, z, rfl, _⟩ := h
    rfl
  obtain ⟨n, rows, z, rfl, hl, hn, h7, hz, k⟩ := h
  have nd := scWays.nd
  have hu := Nat.lt_of_le_of_lt (Nat.add_le_add_left (show 1 ≤ 64 by decide) _) hr.units
  refine pssd_cons (psd_set (i := 2) nd rfl ?_)
  refine pd_d1 ?_
  refine pd_var (i := 1) rfl rfl ?_
  refine pd_int ?_
  refine ⟨ky z, .int ((0 : Nat) : Int), rfl, rfl, fun a ha => ?_⟩
  refine pssd_cons (psd_set (i := 3) nd rfl ?_)
  refine pd_lst ?_
  refine pad_cons ?_
  refine pd_var (i := 1) rfl rfl ?_
  refine pad_nil ?_
  refine ⟨by show 1 ≤ sizeLine; decide, ?_⟩
  refine pssd_cons (psd_while PassesOwn.never (fun m δ' w' => ∃ t kvs es x4 x5 x6, m = n + 1 - t ∧ δ' = [some (spR C rows), some (I (z : Int)), some (R a), some (nats es), x4, x5, x6] ∧ w' = wu w0 a (.dic kvs) ∧ Lvl n rows z t kvs es) ⟨n + 1, 0, _, [z], none, none, none, rfl, rfl, rfl, lvl_start hz⟩ ?_)
  rintro m δ' w' ⟨t, kvs, es, x4, x5, x6, rfl, rfl, rfl, L⟩
  refine ptd_lst ?_
  refine pd_var (i := 3) rfl rfl ?_
  refine ⟨nl es, .inl rfl, ?_⟩
  have en : (nl es).isEmpty = es.isEmpty := by
    cases es <;> rfl
  rw [en]
  refine ite2 (fun c => ?_) (fun c => ?_)
  · have ne : es ≠ [] := fun q => by
      rw [q] at c
      cases c
    have ht := lvl_lt hz L ne
    -- a turn
    refine pssd_cons (psd_set (i := 4) nd rfl ?_)
    refine pd_lstO ?_
    refine pad_nil ?_
    refine ⟨Nat.zero_le _, fun b hb => ?_⟩
    have nab : a ≠ b := fun q => by
      rw [q, wu_same] at hb
      cases hb
    have hb0 : w0 b = none := by
      rw [wu_ne (Ne.symm nab)] at hb
      exact hb
    refine pssd_cons (psd_for PassesOwn.never rfl ?_)
    refine it_list ?_
    refine pd_var (i := 3) rfl rfl ?_
    refine ⟨_, rfl, ?_⟩
    refine ⟨fun i δ' w' => ∃ kvs by_ x5 x6, δ' = [some (spR C rows), some (I (z : Int)), some (R a), some (nats es), some (R b), x5, x6] ∧ w' = wu (wu w0 a (.dic kvs)) b (.lst (nl by_)) ∧ Mid n rows z t kvs by_ fun x => ∃ c ∈ es.take i, x ∈ nbr n rows c, ⟨kvs, [], _, _, rfl, rfl, (lvl_mid L).imp fun x ⟨c, hc, _⟩ => by rw [List.take_zero] at hc; cases hc⟩, ?_, ?_⟩
    · rintro i d δ' w' hd ⟨kvs, by_, x5, x6, rfl, rfl, M⟩
      have hd' : (nl es)[i]? = some d := hd
      unfold nl at hd'
      rw [List.getElem?_map] at hd'
      cases e : es[i]? with
      | none =>
        rw [e] at hd'
        cases hd'
      | some cs =>
      rw [e] at hd'
      cases hd'
      obtain ⟨hc, hdc⟩ := L.mem cs (List.mem_of_getElem? e)
      refine pgd_name (i := 5) nd rfl ?_
      refine pssd_one (psd_for PassesOwn.never rfl ?_)
      refine it_list ?_
      refine pd_has hN hr (fun _ => pass0At) ?_
      refine pad_cons ?_
      refine pd_var (i := 0) rfl rfl ?_
      refine pad_cons ?_
      refine pd_var (i := 5) rfl rfl ?_
      refine pad_nil ?_
      refine ⟨n, rows, cs, rfl, hl, hn, h7, hc, _, rfl, ?_⟩
      refine ⟨fun j δ' w' => ∃ kvs by_ x6, δ' = [some (spR C rows), some (I (z : Int)), some (R a), some (nats es), some (R b), some (I (cs : Int)), x6] ∧ w' = wu (wu w0 a (.dic kvs)) b (.lst (nl by_)) ∧ Mid n rows z t kvs by_ fun x => (∃ c ∈ es.take i, x ∈ nbr n rows c) ∨ x ∈ (nbr n rows cs).take j, ⟨kvs, by_, _, rfl, rfl, M.imp fun x hx => hx.resolve_right fun q => by rw [List.take_zero] at q; cases q⟩, ?_, ?_⟩
      · rintro j d δ' w' hd ⟨kvs, by_, x6, rfl, rfl, M⟩
        have hd' : (nl (nbr n rows cs))[j]? = some d := hd
        unfold nl at hd'
        rw [List.getElem?_map] at hd'
        cases e2 : (nbr n rows cs)[j]? with
        | none =>
          rw [e2] at hd'
          cases hd'
        | some o =>
        rw [e2] at hd'
        cases hd'
        have ho := nbr_ed hc (List.mem_of_getElem? e2)
        have tk : (nbr n rows cs).take (j + 1) = (nbr n rows cs).take j ++ [o] := by
          rw [List.take_add_one, e2]
          rfl
        have hbz := nodup_le M.nd fun x hx => (M.mem x hx).1
        have hkz := M.cnt
        refine pgd_name (i := 6) nd rfl ?_
        refine pssd_one (psd_if ?_)
        refine ptd_dnin hu ?_
        refine pd_var (i := 6) rfl rfl ?_
        refine pd_var (i := 2) rfl rfl ?_
        refine ⟨kvs, ky o, .inr ⟨a, rfl, by rw [wu_ne nab, wu_same]⟩, rfl, ?_⟩
        refine ite2 (fun c => ?_) (fun c => ?_)
        · have ho0 : valV kvs (ky o) = none := by
            cases q : valV kvs (ky o) with
            | none => rfl
            | some v =>
              rw [q] at c
              cases c
          refine pssd_cons (psd_sub (set_dict hu) ?_)
          refine pd_op op_add ?_
          refine pd_dgetK hu ?_
          refine pd_var (i := 2) rfl rfl ?_
          refine pd_var (i := 5) rfl rfl ?_
          refine ⟨kvs, ky cs, .int (t : Int), .inr ⟨a, rfl, by rw [wu_ne nab, wu_same]⟩, rfl, rfl, M.has cs t hc (Nat.le_refl _) hdc, ?_⟩
          refine pd_int ?_
          refine vr_I ?_
          refine pd_var (i := 2) rfl rfl ?_
          refine pd_var (i := 6) rfl rfl ?_
          refine vr_setD (k := ky o) (v := .int ((t + 1 : Nat) : Int)) (by rw [wu_ne nab, wu_same]) (small1000 (by omega)) ?_
          rw [wu3 nab]
          refine pssd_one (psd_expr ?_)
          refine pd_bm PySem.F.plainAttrs_list PySem.F.slot_list_append PySem.F.type_list_append mt_append ?_
          refine pd_var (i := 4) rfl rfl ?_
          refine ⟨⟨rfl, _, wu_same⟩, ?_⟩
          refine pad_cons ?_
          refine pd_var (i := 6) rfl rfl ?_
          refine pad_nil ?_
          refine vm_append wu_same (by rw [nl_len]; exact small1000 (by omega)) ?_
          rw [wu_wu]
          refine ⟨_, by_ ++ [o], _, rfl, by unfold nl; rw [List.map_append]; rfl, (mid_new M hdc ho ho0).imp fun x hx => ?_⟩
          rw [tk] at hx
          rcases hx with hx | hx
          · exact .inl (.inl hx)
          · rcases List.mem_append.mp hx with hx | hx
            · exact .inl (.inr hx)
            · exact .inr (List.mem_singleton.mp hx)
        · refine pssd_nil ⟨kvs, by_, _, rfl, rfl, ?_⟩
          have ho1 : (valV kvs (ky o)).isSome = true := by
            cases q : (valV kvs (ky o)).isSome with
            | true => rfl
            | false =>
              rw [q] at c
              exact absurd rfl c
          refine ⟨M.has, M.is, M.mem, M.all, M.cnt, M.nd, fun x hx hn => ?_⟩
          rw [tk] at hx
          rcases hx with hx | hx
          · exact M.pre x (.inl hx) hn
          · rcases List.mem_append.mp hx with hx | hx
            · exact M.pre x (.inr hx) hn
            · rw [List.mem_singleton.mp hx]
              exact ho1
      · rintro δ' w' ⟨kvs, by_, x6, rfl, rfl, M⟩
        refine ⟨kvs, by_, _, _, rfl, rfl, M.imp fun x ⟨c, hc, hx⟩ => ?_⟩
        rw [List.take_add_one, e] at hc
        rcases List.mem_append.mp hc with hc | hc
        · exact .inl ⟨c, hc, hx⟩
        · have e3 : c = cs := List.mem_singleton.mp hc
          subst e3
          refine .inr ?_
          have z : (List.map (fun (k : Nat) => I (k : Int)) (nbr n rows c)).length = (nbr n rows c).length := List.length_map _
          rw [z, List.take_length]
          exact hx
    · rintro δ' w' ⟨kvs, by_, x5, x6, rfl, rfl, M⟩
      have z1 : (List.map (fun (k : Nat) => I (k : Int)) es).length = es.length := List.length_map _
      rw [z1, List.take_length] at M
      refine pssd_one (psd_set (i := 3) nd rfl ?_)
      refine pd_frz ?_
      refine pd_var (i := 4) rfl rfl ?_
      refine ⟨b, _, rfl, wu_same, ?_⟩
      rw [wd_wu (by rw [wu_ne (Ne.symm nab)]; exact hb0)]
      exact ⟨n + 1 - (t + 1), by omega, t + 1, kvs, by_, _, _, _, rfl, rfl, rfl, mid_lvl hz L.all M⟩
  · have e : es = [] := by
      cases es with
      | nil => rfl
      | cons x es => exact absurd rfl c
    subst e
    refine pssd_one (psd_ret ?_)
    refine pd_frzD ?_
    refine pd_var (i := 2) rfl rfl ?_
    refine ⟨a, _, rfl, wu_same, ?_⟩
    rw [wd_wu ha]
    exact k kvs (lvl_done hz L)
end
end Tw

set_option Elab.async false
set_option linter.all false
set_option maxRecDepth 100000
set_option maxHeartbeats 2000000
/-! A comprehension of two sources, stored in a name. -/
namespace DL
open PySem PySem.Spec PyProof.Rows L2 LamX
section
variable {X : Cx} {T : List (Addr × Str)} {W : WX} {χ : XD} {δ : Dn} {w : Wp} {pos : Pos}
theorem lc2_read {tg tg1 iter1 elt : Expr} {ifs ifs1 : List Expr} {scope : Scope} {own : List (Str × Nat)} {is is1 vs1 : List Nat} {κ : List D → Wp → Prop} {wi : TI} {F : Hp} {σ : L2.St} {S H : Hp} {Q : VK} (hsub : ∀ i ∈ is, i ∈ own.map (·.2)) (hsub1 : ∀ i ∈ is1, i ∈ vs1) (hE : EnvD X.K S δ σ) (hW : World X.K T S w F H)
    (h : ∀ (R : It → Hp → Prop), (∀ (ds : List D) (w1 : Wp) (S1 H1 : Hp) (J : It) (G : Hp → Prop) (Y : Nat → Hp → V → Hp → Prop), Lc2D X T is is1 tg ifs tg1 iter1 ifs1 elt scope (own.map (·.2)) vs1 δ κ ds w1 → Same S S1 → World X.K T S1 w1 F H1 → Walk J ds.length G Y →
      (∀ S2 w2 F2 H2, Same S1 S2 → World X.K T S2 w2 F2 H2 → G H2) →
      (∀ (i : Nat) (d : D) S2 w2 F2 H2 x H3, ds[i]? = some d → Same S1 S2 → World X.K T S2 w2 F2 H2 → Y i H2 x H3 → ∃ S3, Same S2 S3 ∧ World X.K T S3 w2 F2 H3 ∧ Rep X.K S3 d x) → R J H1) → wi σ H R)
    (hK : ∀ (L : Addr) acc w' S' xs H', κ acc w' → Same S S' → F L = none → World X.K T S' w' (upd F L (.lst xs)) H' → RepL X.K S' acc xs → Q (.ref L) H') :
    tLc2 wi (lcG X scope tg) (lcT X scope ifs) (iList X.K (lcE X scope iter1)) (lcG X scope tg1) (lcT X scope ifs1) (lcE X scope elt) (own.map (·.2)) vs1 σ H Q := by
  refine h _ fun ds w1 S1 H1 J G Y k s1 W1 ww hG hY L nL => ?_
  obtain ⟨Pv, p0, turn, done⟩ := k
  have fL : F L = none := (W1.free nL).2.2
  let P : Nat → Hp → Prop := fun i H' => ∃ acc w' S' xs, Pv i acc w' ∧ Same S1 S' ∧ World X.K T S' w' (upd F L (.lst xs)) H' ∧ RepL X.K S' acc xs
  refine ⟨fun i m H => m = ds.length - i ∧ i ≤ ds.length ∧ P i H, ⟨ds.length, rfl, Nat.zero_le _, [], w1, S1, [], p0, Same.refl _, W1.takeF nL (fun _ z => by cases z), rfl⟩, ?_⟩
  rintro i m H' ⟨hm, hi', acc, w', S', xs, pv, s2, W2, ra⟩
  have gg := hG S' w' _ H' s2 W2
  cases Nat.lt_or_ge i ds.length with
  | inr hge =>
    obtain rfl : i = ds.length := Nat.le_antisymm hi' hge
    exact Or.inl ⟨ww.stops H' gg, hK L acc w' S' xs H' (done acc w' pv) (s1.trans s2) fL W2 ra⟩
  | inl hlt =>
    refine Or.inr ⟨ww.goes i H' hlt gg, P (i + 1), fun H2 p2 => ⟨ds.length - (i + 1), by omega, rfl, hlt, p2⟩, fun x H3 y => ?_⟩
    obtain ⟨S3, s3, W3, r⟩ := hY i ds[i] S' w' _ H' x H3 (List.getElem?_eq_getElem hlt) s2 W2 (ww.yields i H' x H3 hlt gg y)
    intro s H0 C cl fp
    refine turn i ds[i] acc w' (List.getElem?_eq_getElem hlt) pv s H0 C cl fp (upd F L (.lst xs)) x (L2.wipe σ (own.map (·.2))) S3 H3 _ r ((hE.mono (s1.trans (s2.trans s3))).wipe _) W3 fun δ2 w2 σ2 S4 H4 k s4 hE4 W4 o4 l4 => ?_
    refine ⟨?_, ?_⟩
    · rw [wipe_eq (σ1 := L2.wipe σ (own.map (·.2))) (σ2 := σ2) l4 fun j hj => o4 j fun z => hj (hsub j z)]
      exact wipe_eq (L2.wipe_length σ _) fun j hj => L2.wipe_out hj
    intro s H0 C cl fp
    refine k s H0 C cl fp (upd F L (.lst xs)) σ2 S4 H4 _ hE4 W4 fun b w5 S5 H5 k5 s5 W5 => ?_
    have s25 : Same S1 S5 := s2.trans (s3.trans (s4.trans s5))
    have ra5 : RepL X.K S5 acc xs := ra.mono (s3.trans (s4.trans s5))
    cases b with
    | false =>
      rw [if_neg Bool.false_ne_true] at k5 ⊢
      exact ⟨acc, w5, S5, xs, k5, s25, W5, ra5⟩
    | true =>
      rw [if_pos rfl] at k5 ⊢
      intro s H0 C cl fp
      refine k5 s H0 C cl fp (upd F L (.lst xs)) σ2 S5 H5 _ (hE4.mono s5) W5 exf fun d6 w6 v6 S6 H6 k6 s6 W6 r6 => ?_
      obtain ⟨es, rfl, Pv1, q0, turn1, done1⟩ := k6
      obtain ⟨a, zs, rfl, h1, h2⟩ := r6
      refine ⟨a, rfl, ⟨zs, SqL.of (W6.same _ _ h1)⟩, ?_⟩
      have w2' := walk_list (K := X.K) (a := a) (xs := zs)
      rw [h2.length] at w2'
      let P1 : Nat → Hp → Prop := fun j H' => ∃ acc w' S' xs, Pv1 j acc w' ∧ Same S6 S' ∧ World X.K T S' w' (upd F L (.lst xs)) H' ∧ RepL X.K S' acc xs
      refine ⟨fun j m H => m = es.length - j ∧ j ≤ es.length ∧ P1 j H, ⟨es.length, rfl, Nat.zero_le _, acc, w6, S6, xs, q0, Same.refl _, W6, ra5.mono s6⟩, ?_⟩
      rintro j m1 H7 ⟨hm1, hj, acc7, w7, S7, xs7, pv7, s7, W7, ra7⟩
      have g7 : SqL X.K H7 a zs := SqL.of (W7.same _ _ (s7 _ _ h1))
      cases Nat.lt_or_ge j es.length with
      | inr hge =>
        obtain rfl : j = es.length := Nat.le_antisymm hj hge
        exact Or.inl ⟨w2'.stops H7 g7, acc7, w7, S7, xs7, done1 acc7 w7 pv7, s25.trans (s6.trans s7), W7, ra7⟩
      | inl hlt1 =>
        refine Or.inr ⟨w2'.goes j H7 hlt1 g7, P1 (j + 1), fun H2 p2 => ⟨es.length - (j + 1), by omega, rfl, hlt1, p2⟩, fun x H8 y => ?_⟩
        obtain ⟨rfl, hx⟩ := w2'.yields j H7 x H8 hlt1 g7 y
        obtain ⟨v, h3, h4⟩ := h2.get (List.getElem?_eq_getElem hlt1)
        rw [hx] at h3
        cases h3
        intro s H0 C cl fp
        refine turn1 j es[j] acc7 w7 (List.getElem?_eq_getElem hlt1) pv7 s H0 C cl fp (upd F L (.lst xs7)) x (L2.wipe σ2 vs1) S7 H8 _ (h4.mono s7) ((hE4.mono (s5.trans (s6.trans s7))).wipe _) W7 fun δ3 w8 σ3 S8 H9 k8 s8 hE8 W8 o8 l8 => ?_
        refine ⟨?_, ?_⟩
        · rw [wipe_eq (σ1 := L2.wipe σ2 vs1) (σ2 := σ3) l8 fun j hj => o8 j fun z => hj (hsub1 j z)]
          exact wipe_eq (L2.wipe_length σ2 _) fun j hj => L2.wipe_out hj
        intro s H0 C cl fp
        refine k8 s H0 C cl fp (upd F L (.lst xs7)) σ3 S8 H9 _ hE8 W8 fun b w9 S9 H10 k9 s9 W9 => ?_
        cases b with
        | false =>
          rw [if_neg Bool.false_ne_true] at k9 ⊢
          exact ⟨acc7, w9, S9, xs7, k9, s7.trans (s8.trans s9), W9, ra7.mono (s8.trans s9)⟩
        | true =>
          rw [if_pos rfl] at k9 ⊢
          obtain ⟨hz, k9⟩ := k9
          intro s H0 C cl fp
          refine k9 s H0 C cl fp (upd F L (.lst xs7)) σ3 S9 H10 _ (hE8.mono s9) W9 exf fun d10 w10 v10 S10 H11 k10 s10 W10 r10 => ?_
          have ra10 := ra7.mono (s8.trans (s9.trans s10))
          refine ⟨xs7, (W10.frm L _ upd_same).2, by rw [ra10.length]; exact hz, acc7 ++ [d10], w10, S10, xs7 ++ [v10], k10, s7.trans (s8.trans (s9.trans s10)), ?_, ra10.app (RepL.one r10)⟩
          have W11 := W10.putF (o := .lst (xs7 ++ [v10])) upd_same (fun _ z => by cases z) (fun _ z => by cases z) (fun _ z => by cases z)
          rw [upd_upd] at W11
          exact W11
theorem psd_setLc2 {i : Nat} {y : Str} {py spos : Pos} {elt tg iter tg1 iter1 : Expr} {ifs ifs1 : List Expr} {scope : Scope} {C : Fin} (own : List (Str × Nat)) (is is1 vs1 : List Nat) (hc : X.calm = true) (hN : X.N.Nodup) (hy : X.N[i]? = some y) (hyl : X.env.scope.names.lookup y = some .local)
    (hsw : swapsWith (.ListComp elt [⟨tg, iter, ifs, 0⟩, ⟨tg1, iter1, ifs1, 0⟩] scope pos) (some (.Name y py)) spos.line X.env = pure true) (ok : BlkOk X.N X.env.scope scope own) (hsub : ∀ i ∈ is, i ∈ own.map (·.2)) (hv : ∀ i ∈ vs1, i ∈ own.map (·.2)) (hsub1 : ∀ i ∈ is1, i ∈ vs1)
    (h : IterD X T W χ tg iter δ w (Lc2D X T is is1 tg ifs tg1 iter1 ifs1 elt scope (own.map (·.2)) vs1 δ (fun acc w' => (fun d w' => C.nx (δ.set i (some d)) w') (.lst acc) w'))) (hs : ∀ x, foldedSetIterable iter X.env x = pure x := by intro _; rfl) (hs1 : ∀ env x, foldedSetIterable iter1 env x = pure x := by intro _ _; rfl) : PSD X T W χ (.Assign [.Name y py] (.ListComp elt [⟨tg, iter, ifs, 0⟩, ⟨tg1, iter1, ifs1, 0⟩] scope pos) spos) δ w C := fun F σ S H E hE hW hX hK => by
  obtain ⟨wi, hi, h⟩ := h
  refine wp_ps (ps_setLc2 hc hN hy hyl hsw hi ok hv pg_bx pt_bx (wi1 := iList X.K (lcE X scope iter1)) (fun s H C cl fp => pi_list (X := X.blk s H scope (compEnvC scope cl C X.env) fp) (pe_bx s H C cl fp)) pg_bx pt_bx pe_bx hs hs1) ?_
  have q := lc2_read (Q := fun v H' => gName i v σ H' E.nx) hsub hsub1 hE hW (fun R hR => h F σ S H R hE hW (hX σ) hR) (fin_stay (κ := fun d w' => C.nx (δ.set i (some d)) w') fun d w' v S' H' k s1 W1 r => hK.nx _ w' _ S' H' k s1 ((hE.mono s1).set i r) W1)
  exact q
end
end DL

set_option Elab.async false
set_option linter.all false
set_option maxRecDepth 100000
set_option maxHeartbeats 2000000
/-! The first nearer step; does a step hold; a chain. -/
namespace Tw
open PySem PySem.Spec PyProof.Rows L2 LamX DL Mth Grf
def tp (p : Nat × Nat) : D := .tup [I (p.1 : Int), I (p.2 : Int)]
/-- all steps from c -/
def stepsR (n : Nat) (rows : List (List Nat)) (c : Nat) : List (Nat × Nat) := (List.range rows.length).flatMap fun k => (cellR n rows k c).map fun o => (k, o)
theorem steps_prs {n : Nat} {rows : List (List Nat)} {c : Nat} : stepsR n rows c = (prs rows.length n).filter fun p => same rows p.1 p.2 c := by
  unfold stepsR prs cellR
  rw [List.filter_flatMap]
  refine congrArg (fun f => List.flatMap f (List.range rows.length)) (funext fun k => ?_)
  rw [List.filter_map]
  rfl
theorem steps_best {n : Nat} {rows : List (List Nat)} {F : Nat → Nat} {c : Nat} {p : Nat × Nat} (h : best n rows F c = some p) : ((stepsR n rows c).filter fun p => decide (F p.2 < F c))[0]? = some p := by
  have e : (fun a : Nat × Nat => decide (Grf.same rows a.1 a.2 c = true ∧ decide (F a.2 < F c) = true)) = fun p => Grf.same rows p.1 p.2 c && decide (F p.2 < F c) := funext fun p => by rw [Bool.decide_and, Bool.decide_eq_true, Bool.decide_eq_true]
  rw [← List.head?_eq_getElem?, List.head?_filter, steps_prs, List.find?_filter, e]
  exact h
theorem mem_steps {n : Nat} {rows : List (List Nat)} {c k o : Nat} (h : (k, o) ∈ stepsR n rows c) : k < rows.length ∧ o < n ∧ same rows k o c = true := by
  rw [steps_prs, List.mem_filter] at h
  obtain ⟨h1, h2⟩ := h
  obtain ⟨h3, h4⟩ := mem_prs.mp h1
  exact ⟨h3, h4, h2⟩
theorem steps_len {n : Nat} {rows : List (List Nat)} {c : Nat} (i : Nat) : ((List.range i).flatMap fun k => (cellR n rows k c).map fun o => (k, o)).length ≤ i * n := by
  induction i with
  | zero => exact Nat.zero_le _
  | succ i ih =>
    rw [List.range_succ, List.flatMap_append, List.length_append, Nat.succ_mul]
    have := cellR_len (n := n) (rows := rows) (k := i) (c := c)
    rw [List.flatMap_cons, List.flatMap_nil, List.append_nil, List.length_map]
    omega
def spNear (C : Addr) : SpD := fun ds w κ χ => ∃ (n : Nat) (rows : List (List Nat)) (z : Nat) (a : List Nat) (kvs : Kvs) (c k o : Nat), ds = [spR C rows, .dic kvs, I (c : Int)] ∧ (∀ r ∈ rows, r.length = n) ∧ n ≤ 12 ∧ rows.length ≤ 7 ∧ z < n ∧ c < n ∧ IsFar n rows z a ∧ Fa a c < n ∧ WaysOk n rows z kvs ∧
  best n rows (Fa a) c = some (k, o) ∧ κ (tp (k, o)) w
def spStepH (C : Addr) : SpD := fun ds w κ χ => ∃ (n : Nat) (rows : List (List Nat)) (c : Nat) (k o : Int), ds = [spR C rows, I (c : Int), I k, I o] ∧ (∀ r ∈ rows, r.length = n) ∧ n ≤ 12 ∧ rows.length ≤ 7 ∧ rows ≠ [] ∧ c < n ∧
  κ (B (inB k rows.length && inB o n && same rows k.toNat c o.toNat)) w
section
variable {P : Program} {w : PySem.World} {K : PySem.W.Frag} {mg : Str → Option Value} {base : Heap} {T : List (Addr × Str)} {C CU CB CM : Addr}
theorem scNear : FnScope ["splits", "ways", "case", "steps", "index", "split", "other", "step"] ["splits", "ways", "case"] (defScope sNear) := ⟨rfl, rfl, rfl, by decide +kernel, rfl, by decide +kernel, by decide +kernel⟩
theorem ok_near {f : Addr} {fd : FuncData} (G : Fun K "_step_nearer" "_step_nearer" sNear f fd) (hm : Nm2 mg) (c : SplC K C) (hC : HasM P w K mg base T (L2.CX P w) C "cell" 4 ["self", "case"] (spCell C CU)) : FnOk P w K mg base CX0 5 f fd ["splits", "ways", "case"] (spOf K T (spNear C)) := by
  refine fnD G scNear (fun ds w κ χ h => ?_) (fun cdv A outer s H E ds w0 κ χ hr h => ?_)
  · obtain ⟨n, rows, z, a, kvs, c, k, o, rfl, _⟩ := h
    rfl
  obtain ⟨n, rows, z, a, kvs, cs, k0, o0, rfl, hl, hn, h7, hz, hc, F, hF, Wk, hb, k⟩ := h
  have nd := scNear.nd
  have hu := Nat.lt_of_le_of_lt (Nat.add_le_add_left (show 1 ≤ 64 by decide) _) hr.units
  refine pssd_cons ?_
  refine psd_setLc2 (i := 3) (own := [("index", 4), ("split", 5), ("other", 6)]) (is := [4, 5]) (is1 := [6]) (vs1 := [6]) rfl nd rfl rfl (sw_true rfl rfl rfl (by decide +kernel)) (blkOk_by rfl) (by decide) (by decide) (by decide) ?_
  refine it_enum hm.enumerate ?_
  refine pd_var (i := 0) rfl rfl ?_
  refine ⟨_, rfl, ?_⟩
  have el : (pairs (rows.map fun r => spl C (lowG r))).length = rows.length := by rw [DL.pairs_len, List.length_map]
  refine ⟨fun i acc w' => acc = ((List.range i).flatMap fun k => (cellR n rows k cs).map fun o => (k, o)).map tp ∧ w' = w0, ⟨rfl, rfl⟩, ?_, ?_⟩
  · rintro i d acc w' hd ⟨rfl, rfl⟩ s H0 C1 cl1 fp1
    obtain ⟨e0, he, rfl⟩ := pairs_at hd
    rw [List.getElem?_map] at he
    cases e : rows[i]? with
    | none =>
      rw [e] at he
      cases he
    | some r =>
    rw [e] at he
    cases he
    have hr1 := hl r (List.mem_of_getElem? e)
    refine pgl_two rfl ?_
    refine pgl_name (i := 4) nd rfl ?_
    refine pgl_name (i := 5) nd rfl ?_
    intro s H0 C1 cl1 fp1
    refine ptsd_nil ?_
    rw [if_pos rfl]
    intro s H0 C1 cl1 fp1
    refine pd_frz ?_
    refine pd_hasm c.cl hC hr (fun _ => passLf) ?_
    refine pd_var (i := 5) rfl rfl ?_
    refine ⟨ins_spl (by decide), ?_⟩
    refine pad_cons ?_
    refine pd_var (i := 2) rfl rfl ?_
    refine pad_nil ?_
    have hin : InR (cs : Int) ((lowG r).length : Int) := ⟨by omega, by rw [rlen]; omega⟩
    refine ⟨lowG r, _, rfl, by rw [rlen]; omega, fun _ a ha => ?_, fun z => absurd hin z⟩
    refine ⟨a, _, rfl, wu_same, _, rfl, ?_⟩
    rw [wd_wu ha, cell_rows e hr1 hc]
    refine ⟨fun j acc w2 => acc = (((List.range i).flatMap fun k => (cellR n rows k cs).map fun o => (k, o)) ++ ((cellR n rows i cs).take j).map fun o => (i, o)).map tp ∧ w2 = w', ⟨by simp, rfl⟩, ?_, ?_⟩
    · rintro j d acc w2 hd ⟨rfl, rfl⟩ s H0 C1 cl1 fp1
      have hd' : (nl (cellR n rows i cs))[j]? = some d := hd
      unfold nl at hd'
      rw [List.getElem?_map] at hd'
      cases e2 : (cellR n rows i cs)[j]? with
      | none =>
        rw [e2] at hd'
        cases hd'
      | some o =>
      rw [e2] at hd'
      cases hd'
      refine pgl_name (i := 6) nd rfl ?_
      intro s H0 C1 cl1 fp1
      refine ptsd_nil ?_
      rw [if_pos rfl]
      have z1 := steps_len (n := n) (rows := rows) (c := cs) i
      have z2 := cellR_len (n := n) (rows := rows) (k := i) (c := cs)
      have z3 : i < rows.length := (List.getElem?_eq_some_iff.mp e).1
      have z4 : i * n ≤ 7 * 12 := Nat.mul_le_mul (by omega) hn
      refine ⟨small1000 ?_, ?_⟩
      · rw [List.length_map, List.length_append, List.length_map, List.length_take]
        omega
      intro s H0 C1 cl1 fp1
      refine pd_tup ?_
      refine pad_cons ?_
      refine pd_var (i := 4) rfl rfl ?_
      refine pad_cons ?_
      refine pd_var (i := 6) rfl rfl ?_
      refine pad_nil ?_
      refine ⟨by show 2 ≤ sizeLine; decide, ?_, rfl⟩
      rw [List.take_add_one, e2, List.map_append, List.map_append, List.map_append, List.map_append, List.append_assoc]
      rfl
    · rintro acc w2 ⟨rfl, rfl⟩
      refine ⟨?_, rfl⟩
      have z : (nl (cellR n rows i cs)).length = (cellR n rows i cs).length := nl_len _
      rw [z, List.take_length, List.range_succ, List.flatMap_append]
      simp
  rintro acc w' ⟨rfl, rfl⟩
  rw [el]
  refine pssd_one (psd_ret ?_)
  refine pd_ix ix_list ?_
  refine pd_lc (own := [("step", 7)]) (is := [7]) rfl nd (blkOk_by rfl) (by decide) ?_
  refine it_list ?_
  refine pd_var (i := 3) rfl rfl ?_
  refine ⟨_, rfl, ?_⟩
  have z1 := steps_len (n := n) (rows := rows) (c := cs) rows.length
  have z4 : rows.length * n ≤ 7 * 12 := Nat.mul_le_mul h7 hn
  have way : ∀ i, i < n → Fa a i < n → valV kvs (ky i) = some (.int (Fa a i : Int)) := fun i hi h => Wk.has i _ hi (F.dist hi h)
  refine lcd_filter (xs := stepsR n rows cs) (g := tp) (fun p => decide (Fa a p.2 < Fa a cs)) tp (small1000 (by show (stepsR n rows cs).length ≤ 1000; unfold stepsR; omega)) (fun p hp s H0 C1 cl1 fp1 => ?_) ?_
  · obtain ⟨kk, oo⟩ := p
    obtain ⟨g1, g2, g3⟩ := mem_steps hp
    have fo : Fa a oo < n := (far_cn F g2).mpr (((far_cn F hc).mp hF).trans (Cn.one (same_ed g1 g2 hc g3).symm))
    refine pgl_name (i := 7) nd rfl ?_
    intro s H0 C1 cl1 fp1
    refine ptsd_one ?_
    refine ptd_cmp op_lt ?_
    refine pd_dget hu ?_
    refine pd_var (i := 1) rfl rfl ?_
    refine pd_ix ix_tup ?_
    refine pd_var (i := 7) rfl rfl ?_
    refine pd_int ?_
    refine vr_ixT (i := 1) (d := I (oo : Int)) rfl ?_
    refine ⟨kvs, ky oo, _, rfl, rfl, way oo g2 fo, ?_⟩
    refine pd_dget hu ?_
    refine pd_var (i := 1) rfl rfl ?_
    refine pd_var (i := 2) rfl rfl ?_
    refine ⟨kvs, ky cs, _, rfl, rfl, way cs hc hF, ?_⟩
    refine vr_I ?_
    refine ⟨_, rfl, ?_⟩
    have ed : decide ((Fa a oo : Int) < (Fa a cs : Int)) = decide (Fa a oo < Fa a cs) := decide_eq_decide.mpr (by omega)
    rw [ed]
    refine ite2 (fun q => ?_) (fun q => ?_)
    · intro s H0 C1 cl1 fp1
      refine pd_var (i := 7) rfl rfl ?_
      exact ⟨q, rfl, rfl⟩
    · exact ⟨Bool.eq_false_iff.mpr q, rfl⟩
  · refine pd_int ?_
    refine vr_ixL (i := 0) (d := tp (k0, o0)) ?_ k
    rw [List.getElem?_map, steps_best hb]
    rfl
theorem scStepH : FnScope ["splits", "case", "index", "other"] ["splits", "case", "index", "other"] (defScope sStepH) := ⟨rfl, rfl, rfl, by decide +kernel, rfl, by decide +kernel, by decide +kernel⟩
theorem ok_stepH {f : Addr} {fd : FuncData} (G : Fun K "_step_holds" "_step_holds" sStepH f fd) (hm : Nm2 mg) (c : SplC K C) (hT : HasM P w K mg base T (L2.CX P w) C "together" 4 ["self", "first", "second"] (spTog C CU)) : FnOk P w K mg base (L2.CX P w) 5 f fd ["splits", "case", "index", "other"] (spOf K T (spStepH C)) := by
  refine fnX G scStepH (fun ds w κ χ h => ?_) (fun cdv A outer s H E ds w0 κ χ hr h => ?_)
  · obtain ⟨n, rows, c, k, o, rfl, _⟩ := h
    rfl
  obtain ⟨n, rows, cs, ki, oi, rfl, hl, hn, h7, ne, hc, k⟩ := h
  have nd := scStepH.nd
  obtain ⟨r0, rest, rfl⟩ : ∃ r0 rest, rows = r0 :: rest := by
    cases rows with
    | nil => exact absurd rfl ne
    | cons a b => exact ⟨a, b, rfl⟩
  have h0 := hl r0 (List.mem_cons_self ..)
  have out : (inB ki (r0 :: rest).length && inB oi n) = false → ∀ (p1 p2 : Pos) (j : Nat) (nx bk ct : Dn → Wp → Prop), PSsD (cxOf (L2.CX P w) P w K mg base ["splits", "case", "index", "other"] "_step_holds" (defScope sStepH) f cdv A outer s H E) T (fun cls d _ H => E cls d H) χ [.Return (some (.Constant (.bool false) j p1)) p2] (startD ["splits", "case", "index", "other"] [spR C (r0 :: rest), I (cs : Int), I ki, I oi]) w0 { nx := nx, rt := κ, bk := bk, ct := ct } := fun ho p1 p2 j nx bk ct => by
    refine pssd_one (psd_ret ?_)
    refine pd_bl ?_
    rw [ho, Bool.false_and] at k
    exact k
  refine pssd_cons (psd_if ?_)
  refine pwd_pt ?_
  refine pwd_or ?_
  refine ptd_cmp op_lt ?_
  refine pd_var (i := 2) rfl rfl ?_
  refine pd_int ?_
  refine vr_I ?_
  refine ⟨_, rfl, ?_⟩
  refine ite2 (fun c1 => ?_) (fun c1 => ?_)
  · refine iteT (out ?_ _ _ _ _ _ _)
    simp only [decide_eq_true_eq] at c1
    unfold inB
    rw [decide_eq_false (by omega : ¬ (0 : Int) ≤ ki)]
    rfl
  refine pwd_or ?_
  refine ptd_cmp op_ge ?_
  refine pd_var (i := 2) rfl rfl ?_
  refine pd_callB call_len_seq rfl hm.len PySem.boot_len ?_
  refine pad_cons ?_
  refine pd_var (i := 0) rfl rfl ?_
  refine pad_nil ?_
  refine va_len ?_
  rw [List.length_map]
  refine vr_I ?_
  refine ⟨_, rfl, ?_⟩
  refine ite2 (fun c2 => ?_) (fun c2 => ?_)
  · refine iteT (out ?_ _ _ _ _ _ _)
    simp only [decide_eq_true_eq] at c2
    unfold inB
    rw [decide_eq_false (p := ki < ((r0 :: rest).length : Int)) (by omega), Bool.and_false]
    rfl
  refine pwd_or ?_
  refine ptd_cmp op_lt ?_
  refine pd_var (i := 3) rfl rfl ?_
  refine pd_int ?_
  refine vr_I ?_
  refine ⟨_, rfl, ?_⟩
  refine ite2 (fun c3 => ?_) (fun c3 => ?_)
  · refine iteT (out ?_ _ _ _ _ _ _)
    simp only [decide_eq_true_eq] at c3
    unfold inB
    rw [decide_eq_false (p := (0 : Int) ≤ oi) (by omega), Bool.false_and, Bool.and_false]
  refine pwd_or1 ?_
  refine ptd_cmp op_ge ?_
  refine pd_var (i := 3) rfl rfl ?_
  refine pd_fld c.cl c.nS ?_
  refine pd_ix ix_list ?_
  refine pd_var (i := 0) rfl rfl ?_
  refine pd_int ?_
  refine vr_ixL (i := 0) (d := spl C (lowG r0)) rfl ?_
  refine ⟨_, spl_len, ?_⟩
  refine vr_I ?_
  refine ⟨_, rfl, ?_⟩
  refine ite2 (fun c4 => ?_) (fun c4 => ?_)
  · refine out ?_ _ _ _ _ _ _
    simp only [decide_eq_true_eq] at c4
    unfold inB
    rw [decide_eq_false (p := oi < (n : Int)) (by omega), Bool.and_false, Bool.and_false]
  refine pssd_nil ?_
  simp only [decide_eq_true_eq] at c1 c2 c3 c4
  obtain ⟨kn, rfl⟩ := Int.eq_ofNat_of_zero_le (by omega : 0 ≤ ki)
  obtain ⟨on, rfl⟩ := Int.eq_ofNat_of_zero_le (by omega : 0 ≤ oi)
  have hk : kn < (r0 :: rest).length := by omega
  have hon : on < n := by omega
  rw [inB_nat, inB_nat, decide_eq_true hk, decide_eq_true hon, Bool.true_and, Bool.true_and, Int.toNat_natCast, Int.toNat_natCast] at k
  have er : (r0 :: rest)[kn]? = some ((r0 :: rest)[kn]) := List.getElem?_eq_getElem hk
  generalize (r0 :: rest)[kn] = r at er
  have hr1 := hl r (List.mem_of_getElem? er)
  refine pssd_one (psd_ret ?_)
  refine pd_hasm c.cl hT hr passX ?_
  refine pd_ix ix_list ?_
  refine pd_var (i := 0) rfl rfl ?_
  refine pd_var (i := 2) rfl rfl ?_
  refine vr_ixL (i := kn) (d := spl C (lowG r)) (by rw [List.getElem?_map, er]; rfl) ?_
  refine ⟨ins_spl (by decide), ?_⟩
  refine pad_cons ?_
  refine pd_var (i := 1) rfl rfl ?_
  refine pad_cons ?_
  refine pd_var (i := 3) rfl rfl ?_
  refine pad_nil ?_
  have i1 : InR (cs : Int) ((lowG r).length : Int) := ⟨by omega, by rw [rlen]; omega⟩
  have i2 : InR (on : Int) ((lowG r).length : Int) := ⟨by omega, by rw [rlen]; omega⟩
  refine ⟨lowG r, _, _, rfl, by rw [rlen]; omega, fun _ _ => ?_, fun z => absurd i1 z, fun _ z => absurd i2 z⟩
  have e1 : (r0 :: rest).getD kn [] = r := by
    rw [List.getD_eq_getElem?_getD, er]
    rfl
  have es : same (r0 :: rest) kn cs on = decide (markAt (lowG r) (cs : Int) = markAt (lowG r) (on : Int)) := by
    unfold Grf.same
    rw [e1]
    refine decide_eq_decide.mpr ?_
    rw [← (low_pat r).2 cs on (by rw [rlen]; omega) (by rw [rlen]; omega), mark_at (lo := lowG r) (i := cs) (by rw [rlen]; omega), mark_at (lo := lowG r) (i := on) (by rw [rlen]; omega)]
    exact ⟨fun z => Option.some.inj z, fun z => by rw [z]⟩
  rw [es] at k
  exact k
end
end Tw

set_option Elab.async false
set_option linter.all false
set_option maxRecDepth 100000
set_option maxHeartbeats 2000000
/-! def f(*v, k) in data, and f(*e, k = d). -/
namespace DL
open PySem PySem.Spec PyProof.Rows L2 LamX
/-- the promise sp of a def f(*v, k), told of [k, the tuple v] -/
def spSK (K : PySem.W.Frag) (T : List (Addr × Str)) (sp : SpD) : SpK := fun vs v H Q E => vs.length ≤ sizeLine ∧ ∀ p, H p = Option.none → spOf K T sp [v, V.ref p] (upd H p (.tup vs)) Q E
section
variable {P : Program} {w : PySem.World} {K : PySem.W.Frag} {mg : Str → Option Value} {base : Heap} {T : List (Addr × Str)}
theorem fnSX {x qual nk nv : Str} {st : Stmt} {f : Addr} {fd : FuncData} {N : List Str} {k : Nat} {sp : SpD} (G : L2.Fun K x qual st f fd) (S : FnScope N [nk, nv] (defScope st))
    (hb : ∀ (kV doc pm : Value) (an : Option Addr) (cdv ct : Value) (us : List Value) (u : Value), bindArgs (PySem.W.fnOf x qual (defArgs st) (defBody st) (defScope st) .none kV doc pm an cdv ct) ⟨us, [(nk, u)]⟩ = (newTuple us >>= fun t => pure [(nk, u), (nv, t)]))
    (body : ∀ (cdv : Value) (A : Around) (outer : List Env) (s : Shared) (H : Hp) (E : XK) (ds : List D) (w0 : Wp) (κ : D → Wp → Prop) (χ : XD), Room k (A.deeper (envOfC qual (defScope st) s.heap.objs.size f cdv)) → sp ds w0 κ χ →
      PSsD (cxOf (L2.CX P w) P w K mg base N qual (defScope st) f cdv A outer s H E) T (fun cls d _ H => E cls d H) χ (defBody st) (startD N ds) w0 { nx := fun _ w' => κ DL.N w', rt := κ }) : FnS P w K mg base (L2.CX P w) (k + 1) f nk (spSK K T sp) := by
  refine fn_starK (sp := spOf K T sp) G S StX.cxUp hb fun cdv A outer s H vs Q E hr h => ?_
  obtain ⟨ds, w0, F, S0, κ, χ, h1, h2, h3, h4, h5⟩ := h
  refine ⟨_, pss_wp _, ?_⟩
  exact body cdv A outer s H E ds w0 κ χ hr h1 F _ S0 H _ (env_start h2) h3 (fun σ C ns fs w' d S' H' x s1 W1 xr => h5 C ns fs w' d S' H' x s1 W1 xr) ⟨fun δ' w' σ' S' H' k s1 hE W1 => h4 _ w' _ S' H' k s1 W1 rfl, h4, fun _ _ _ _ _ z => z.elim, fun _ _ _ _ _ z => z.elim⟩
end
section
variable {X : Cx} {T : List (Addr × Str)} {W : WX} {χ : XD} {δ : Dn} {w : Wp} {pos : Pos}
theorem pd_callSK {CX : CXT} {k : Nat} {f : Addr} {nk : Str} {sp : SpD} {x : Str} {p sp_ kp : Pos} {e e2 : Expr} {κ : D → Wp → Prop} (G : FnS X.prog X.w X.K X.mg X.base CX k f nk (spSK X.K T sp)) (hr : Room k X.A) (hm : X.mg x = some (.ref f)) (hk : PySem.W.keepIn X.K (.ref f) = true)
    (hx : ∀ σ, PassesAt CX X σ (WE W σ)) (h : PD X T W χ e δ w fun d w1 => ∃ ds, d = .lst ds ∧ ds.length ≤ sizeLine ∧ PD X T W χ e2 δ w1 fun d2 w2 => sp [d2, .tup ds] w2 κ χ) (hg : Gl X x := by rfl) (hd : (x == ("__debug__" : Str)) = false := by decide) (hst : starEach [.Starred e sp_] X.env = [(true, eval e X.env)] := by rfl)
    (hall : (backToKw pos (keywordEach [⟨some nk, e2, kp⟩] X.env)).all (·.1.isSome) = true := by rfl) (hks : (backToKw pos (keywordEach [⟨some nk, e2, kp⟩] X.env)).filterMap (·.1) = [nk] := by rfl) :
    PD X T W χ (.Call (.Name x p) [.Starred e sp_] [⟨some nk, e2, kp⟩] pos) δ w κ := fun F σ S H Q hE hW hX hK =>
  wp_pe (pe_callSK G hr hm hk hx (pe_wp e) (pe_wp e2) hg hd hst hall hks) (by
    refine h F σ S H _ hE hW hX fun d w1 v S1 H1 k1 s1 W1 r1 => ?_
    obtain ⟨ds, rfl, hz, k1⟩ := k1
    obtain ⟨a, xs, rfl, h1, h2⟩ := r1
    refine ⟨a, rfl, ?_⟩
    refine k1 F σ S1 H1 _ (hE.mono s1) W1 (hX.mono s1) fun d2 w2 z S2 H2 k2 s2 W2 r2 => ?_
    refine ⟨xs, .inr (SqL.of (W2.same _ _ (s2 _ _ h1))), by rw [h2.length]; exact hz, fun p hp => ?_⟩
    have s3 : Same S2 (upd S2 p (.tup xs)) := same_upd (W2.free hp).1
    have ss := s1.trans (s2.trans s3)
    exact ⟨[d2, .tup ds], w2, F, _, κ, χ, k2, ⟨z, [.ref p], rfl, r2.mono s3, .ref p, [], rfl, ⟨p, xs, rfl, upd_same, (h2.mono s2).mono s3⟩, rfl⟩, W2.laid hp fun _ z => (by cases z), hK.mono ss, fun C ns fs w' d S' H' x s4 W4 xr => hX C ns fs w' d S' H' x (ss.trans s4) W4 xr⟩)
end
end DL

set_option Elab.async false
set_option linter.all false
set_option maxRecDepth 100000
set_option maxHeartbeats 2000000
/-! find_chain, chain_holds. -/
namespace Grf
theorem far_ex (n : Nat) (rows : List (List Nat)) (z : Nat) (hz : z < n) : ∃ a, IsFar n rows z a := by
  have ex : ∀ c : Nat, ∃ x : Nat, (x < n ∧ IsD n rows z x c) ∨ (x = n ∧ ∀ t, ¬ Ball n rows z t c) := fun c => by
    by_cases h : ∃ t, Ball n rows z t c
    · obtain ⟨t, ht⟩ := h
      obtain ⟨d, _, hd⟩ := isD_of ht
      exact ⟨d, .inl ⟨hd.lt hz, hd⟩⟩
    · exact ⟨n, .inr ⟨rfl, fun t ht => h ⟨t, ht⟩⟩⟩
  refine ⟨(List.range n).map fun c => Classical.choose (ex c), by simp, fun c x h => ?_⟩
  rw [List.getElem?_map] at h
  by_cases hc : c < n
  · rw [List.getElem?_range hc] at h
    have h' := Option.some.inj h
    subst h'
    exact Classical.choose_spec (ex c)
  · rw [List.getElem?_eq_none (by simpa using hc)] at h
    cases h
theorem IsFar.uniq {n : Nat} {rows : List (List Nat)} {z : Nat} {a b : List Nat} (F : IsFar n rows z a) (G : IsFar n rows z b) : a = b := by
  refine List.ext_getElem? fun i => ?_
  by_cases hi : i < n
  · rw [F.fa hi, G.fa hi]
    congr 1
    rcases F.at_ i _ (F.fa hi) with ⟨_, p⟩ | ⟨p, p'⟩
    · rcases G.at_ i _ (G.fa hi) with ⟨_, q⟩ | ⟨_, q⟩
      · exact p.uniq q
      · exact absurd p.1 (q _)
    · rcases G.at_ i _ (G.fa hi) with ⟨_, q⟩ | ⟨q, _⟩
      · exact absurd q.1 (p' _)
      · rw [p, q]
  · rw [List.getElem?_eq_none (by rw [F.len]; omega), List.getElem?_eq_none (by rw [G.len]; omega)]
end Grf
namespace Tw
open PySem PySem.Spec PyProof.Rows L2 LamX DL Mth Grf
abbrev sFCh : Stmt := top 18
abbrev sChH : Stmt := top 19
def tpI (p : Int × Int) : D := .tup [I p.1, I p.2]
def spFCh (C CM CU : Addr) : SpD := fun ds w κ χ => ∃ r0 rest f l, ds = [spR C (r0 :: rest), I f, I l] ∧ EndsX CM CU r0 rest f l w χ (∃ a, IsFar r0.length (r0 :: rest) l.toNat a ∧ (r0.length ≤ Fa a f.toNat → κ N w) ∧
  (Fa a f.toNat < r0.length → ∀ ch, ChR r0.length (r0 :: rest) (Fa a) l.toNat f.toNat ch → ch.length ≤ 12 → ∀ b, w b = none → κ (R b) (wu w b (.lst (ch.map tp)))))
def spChH (C CM CU : Addr) : SpD := fun ds w κ χ => ∃ r0 rest f l ch, ds = [spR C (r0 :: rest), I f, I l, .lst (ch.map tpI)] ∧ EndsX CM CU r0 rest f l w χ (κ (B (chkC r0.length (r0 :: rest) l.toNat f.toNat ch)) w)
theorem chr_nil {n : Nat} {rows : List (List Nat)} {F : Nat → Nat} {z : Nat} {l : List (Nat × Nat)} (h : ChR n rows F z z l) : l = [] := by
  cases h with
  | nil => rfl
  | cons q _ _ => exact absurd rfl q
theorem ne_dec {a b : Nat} : (!decide (V.int (a : Int) = V.int (b : Int))) = decide (a ≠ b) := by
  rw [int_eq_dec]
  exact (decide_not).symm
section
variable {P : Program} {w : PySem.World} {K : PySem.W.Frag} {mg : Str → Option Value} {base : Heap} {T : List (Addr × Str)} {C CU CB CM : Addr}
theorem scFCh : FnScope ["splits", "first", "last", "ways", "chain", "case", "step"] ["splits", "first", "last"] (defScope sFCh) := ⟨rfl, rfl, rfl, by decide +kernel, rfl, by decide +kernel, by decide +kernel⟩
theorem ok_fch {f : Addr} {fd : FuncData} (G : Fun K "find_chain" "find_chain" sFCh f fd) (hE : HasF P w K mg base T (L2.CX P w) "_check_ends" 4 ["splits", "first", "last"] (spEnds C CM CU)) (hW : HasF P w K mg base T CX0 "_ways_to" 6 ["splits", "last"] (spWays C))
    (hN : HasF P w K mg base T CX0 "_step_nearer" 5 ["splits", "ways", "case"] (spNear C)) : FnOk P w K mg base (L2.CX P w) 7 f fd ["splits", "first", "last"] (spOf K T (spFCh C CM CU)) := by
  refine fnX G scFCh (fun ds w κ χ h => ?_) (fun cdv A outer s H E ds w0 κ χ hr h => ?_)
  · obtain ⟨r0, rest, f, l, rfl, _⟩ := h
    rfl
  obtain ⟨r0, rest, f, l, rfl, X⟩ := h
  have nd := scFCh.nd
  have hu := Nat.lt_of_le_of_lt (Nat.add_le_add_left (show 1 ≤ 64 by decide) _) hr.units
  refine pssd_cons (psd_expr ?_)
  refine pd_has hE (hr.mono (by decide)) passX ?_
  refine pad_cons ?_
  refine pd_var (i := 0) rfl rfl ?_
  refine pad_cons ?_
  refine pd_var (i := 1) rfl rfl ?_
  refine pad_cons ?_
  refine pd_var (i := 2) rfl rfl ?_
  refine pad_nil ?_
  refine ⟨r0, rest, f, l, rfl, X.map fun all hf hl hk => ?_⟩
  obtain ⟨fn, rfl, hfn⟩ := inR_nat hf
  obtain ⟨z, rfl, hz⟩ := inR_nat hl
  simp only [Int.toNat_natCast] at hk
  obtain ⟨a, F, k1, k2⟩ := hk
  have h12 := (X.sz r0 (List.mem_cons_self ..)).2
  have h7 : (r0 :: rest).length ≤ 7 := by
    have := X.n5
    rw [List.length_cons]
    omega
  refine pssd_cons (psd_set (i := 3) nd rfl ?_)
  refine pd_has hW (hr.mono (by decide)) (fun _ => pass0At) ?_
  refine pad_cons ?_
  refine pd_var (i := 0) rfl rfl ?_
  refine pad_cons ?_
  refine pd_var (i := 2) rfl rfl ?_
  refine pad_nil ?_
  refine ⟨r0.length, _, z, rfl, all, h12, h7, hz, fun kvs Wk => ?_⟩
  have reach : (valV kvs (ky fn)).isSome = decide (Fa a fn < r0.length) := by
    by_cases q : Fa a fn < r0.length
    · rw [decide_eq_true q, Wk.has fn _ hfn (F.dist hfn q)]
      rfl
    · rw [decide_eq_false q]
      cases e : valV kvs (ky fn) with
      | none => rfl
      | some v =>
        obtain ⟨d, _, hd⟩ := Wk.is fn v hfn e
        have := F.d hz (F.fa hfn) hd
        have := hd.lt hz
        omega
  refine pssd_cons (psd_if ?_)
  refine ptd_dnin hu ?_
  refine pd_var (i := 1) rfl rfl ?_
  refine pd_var (i := 3) rfl rfl ?_
  refine ⟨kvs, ky fn, .inl rfl, rfl, ?_⟩
  rw [reach]
  refine ite2 (fun c => ?_) (fun c => ?_)
  · refine pssd_one (psd_ret ?_)
    refine pd_non ?_
    refine k1 ?_
    simp at c
    exact c
  refine pssd_nil ?_
  have hF : Fa a fn < r0.length := by simpa using c
  obtain ⟨ch, hch, lch⟩ := F.chain hz _ fn hfn rfl hF
  refine pssd_cons (psd_set (i := 4) nd rfl ?_)
  refine pd_lstO ?_
  refine pad_nil ?_
  refine ⟨Nat.zero_le _, fun b hb => ?_⟩
  refine pssd_cons (psd_set (i := 5) nd rfl ?_)
  refine pd_var (i := 1) rfl rfl ?_
  refine pssd_cons (psd_while (passes_of rfl) (fun m δ' w' => ∃ (here : Nat) (done left : List (Nat × Nat)) (x6 : Option D), m = left.length ∧ δ' = [some (spR C (r0 :: rest)), some (I (fn : Int)), some (I (z : Int)), some (.dic kvs), some (R b), some (I (here : Int)), x6] ∧ w' = wu w0 b (.lst (done.map tp)) ∧ ch = done ++ left ∧ ChR r0.length (r0 :: rest) (Fa a) z here left ∧ here < r0.length ∧ Fa a here < r0.length) ⟨ch.length, fn, [], ch, none, rfl, rfl, rfl, rfl, hch, hfn, hF⟩ ?_)
  rintro m δ' w' ⟨here, done, left, x6, rfl, rfl, rfl, ech, hc, hh, hFh⟩
  refine ptd_cmp op_ne ?_
  refine pd_var (i := 5) rfl rfl ?_
  refine pd_var (i := 2) rfl rfl ?_
  refine vr_ne rfl ?_
  refine ⟨_, rfl, ?_⟩
  rw [ne_dec]
  refine ite2 (fun c => ?_) (fun c => ?_)
  · have ne : here ≠ z := of_decide_eq_true c
    cases hc with
    | nil => exact absurd rfl ne
    | @cons _ k c0 l _ hb0 hl0 =>
      obtain ⟨_, hc0, _, hlt⟩ := best_props hb0
      refine pssd_cons (psd_set (i := 6) nd rfl ?_)
      refine pd_has hN (hr.mono (by decide)) (fun _ => pass0At) ?_
      refine pad_cons ?_
      refine pd_var (i := 0) rfl rfl ?_
      refine pad_cons ?_
      refine pd_var (i := 3) rfl rfl ?_
      refine pad_cons ?_
      refine pd_var (i := 5) rfl rfl ?_
      refine pad_nil ?_
      refine ⟨r0.length, _, z, a, kvs, here, k, c0, rfl, all, h12, h7, hz, hh, F, hFh, Wk, hb0, ?_⟩
      refine pssd_cons (psd_expr ?_)
      refine pd_bm PySem.F.plainAttrs_list PySem.F.slot_list_append PySem.F.type_list_append mt_append ?_
      refine pd_var (i := 4) rfl rfl ?_
      refine ⟨⟨rfl, _, wu_same⟩, ?_⟩
      refine pad_cons ?_
      refine pd_var (i := 6) rfl rfl ?_
      refine pad_nil ?_
      have hdl : done.length ≤ ch.length := by
        rw [ech, List.length_append]
        omega
      refine vm_append wu_same (by rw [List.length_map]; exact small1000 (by omega)) ?_
      rw [wu_wu]
      refine pssd_one (psd_set (i := 5) nd rfl ?_)
      refine pd_ix ix_tup ?_
      refine pd_var (i := 6) rfl rfl ?_
      refine pd_int ?_
      refine vr_ixT (i := 1) (d := I (c0 : Int)) rfl ?_
      refine ⟨l.length, by rw [List.length_cons]; omega, c0, done ++ [(k, c0)], l, _, rfl, rfl, by rw [List.map_append]; rfl, by rw [ech, List.append_assoc]; rfl, hl0, hc0, by omega⟩
  · have e : here = z := by simpa using c
    subst e
    have e2 := chr_nil hc
    subst e2
    rw [List.append_nil] at ech
    subst ech
    refine pssd_one (psd_ret ?_)
    refine pd_var (i := 4) rfl rfl ?_
    exact k2 hF _ hch (by omega) b hb
theorem scChH : FnScope ["splits", "first", "last", "chain", "case", "index", "other"] ["splits", "first", "last", "chain"] (defScope sChH) := ⟨rfl, rfl, rfl, by decide +kernel, rfl, by decide +kernel, by decide +kernel⟩
theorem ok_chh {f : Addr} {fd : FuncData} (G : Fun K "chain_holds" "chain_holds" sChH f fd) (hE : HasF P w K mg base T (L2.CX P w) "_check_ends" 4 ["splits", "first", "last"] (spEnds C CM CU)) (hS : HasF P w K mg base T (L2.CX P w) "_step_holds" 5 ["splits", "case", "index", "other"] (spStepH C)) :
    FnOk P w K mg base (L2.CX P w) 6 f fd ["splits", "first", "last", "chain"] (spOf K T (spChH C CM CU)) := by
  refine fnX G scChH (fun ds w κ χ h => ?_) (fun cdv A outer s H E ds w0 κ χ hr h => ?_)
  · obtain ⟨r0, rest, f, l, ch, rfl, _⟩ := h
    rfl
  obtain ⟨r0, rest, f, l, ch, rfl, X⟩ := h
  have nd := scChH.nd
  refine pssd_cons (psd_expr ?_)
  refine pd_has hE (hr.mono (by decide)) passX ?_
  refine pad_cons ?_
  refine pd_var (i := 0) rfl rfl ?_
  refine pad_cons ?_
  refine pd_var (i := 1) rfl rfl ?_
  refine pad_cons ?_
  refine pd_var (i := 2) rfl rfl ?_
  refine pad_nil ?_
  refine ⟨r0, rest, f, l, rfl, X.map fun all hf hl hk => ?_⟩
  obtain ⟨fn, rfl, hfn⟩ := inR_nat hf
  obtain ⟨z, rfl, hz⟩ := inR_nat hl
  simp only [Int.toNat_natCast] at hk
  have h12 := (X.sz r0 (List.mem_cons_self ..)).2
  have h7 : (r0 :: rest).length ≤ 7 := by
    have := X.n5
    rw [List.length_cons]
    omega
  refine pssd_cons (psd_set (i := 4) nd rfl ?_)
  refine pd_var (i := 1) rfl rfl ?_
  refine pssd_cons (psd_for (passes_of rfl) rfl ?_)
  refine it_list ?_
  refine pd_var (i := 3) rfl rfl ?_
  refine ⟨_, rfl, ?_⟩
  refine ⟨fun i δ' w' => ∃ (here : Nat) (x5 x6 : Option D), δ' = [some (spR C (r0 :: rest)), some (I (fn : Int)), some (I (z : Int)), some (.lst (ch.map tpI)), some (I (here : Int)), x5, x6] ∧ w' = w0 ∧ here < r0.length ∧ chkC r0.length (r0 :: rest) z here (ch.drop i) = chkC r0.length (r0 :: rest) z fn ch, ⟨fn, none, none, rfl, rfl, hfn, rfl⟩, ?_, ?_⟩
  · rintro i d δ' w' hd ⟨here, x5, x6, rfl, rfl, hh, ec⟩
    rw [List.getElem?_map] at hd
    cases e : ch[i]? with
    | none =>
      rw [e] at hd
      cases hd
    | some p =>
    rw [e] at hd
    cases hd
    obtain ⟨pk, po⟩ := p
    obtain ⟨hi, ei⟩ := List.getElem?_eq_some_iff.mp e
    have ed : ch.drop i = (pk, po) :: ch.drop (i + 1) := by rw [List.drop_eq_getElem_cons hi, ei]
    rw [ed] at ec
    refine PGL.pgd (is := [5, 6]) ?_
    refine pgl_two rfl ?_
    refine pgl_name (i := 5) nd rfl ?_
    refine pgl_name (i := 6) nd rfl ?_
    refine pssd_cons (psd_if ?_)
    refine ptd_not ?_
    refine ptd_val ?_
    refine pd_has hS hr passX ?_
    refine pad_cons ?_
    refine pd_var (i := 0) rfl rfl ?_
    refine pad_cons ?_
    refine pd_var (i := 4) rfl rfl ?_
    refine pad_cons ?_
    refine pd_var (i := 5) rfl rfl ?_
    refine pad_cons ?_
    refine pd_var (i := 6) rfl rfl ?_
    refine pad_nil ?_
    refine ⟨r0.length, _, here, pk, po, rfl, all, h12, h7, by simp, hh, _, rfl, ?_⟩
    have ech : chkC r0.length (r0 :: rest) z here ((pk, po) :: ch.drop (i + 1)) = (if inB pk (r0 :: rest).length && inB po r0.length then (if Grf.same (r0 :: rest) pk.toNat here po.toNat then chkC r0.length (r0 :: rest) z po.toNat (ch.drop (i + 1)) else false) else false) := rfl
    rw [ech] at ec
    cases q1 : (inB pk (r0 :: rest).length && inB po r0.length) with
    | false =>
      rw [q1] at ec
      rw [Bool.false_and]
      refine iteT ?_
      refine pssd_one (psd_ret ?_)
      refine pd_bl ?_
      rw [← ec] at hk
      exact hk
    | true =>
      rw [q1, if_pos rfl] at ec
      rw [Bool.true_and]
      cases q2 : Grf.same (r0 :: rest) pk.toNat here po.toNat with
      | false =>
        rw [q2, if_neg Bool.false_ne_true] at ec
        refine iteT ?_
        refine pssd_one (psd_ret ?_)
        refine pd_bl ?_
        rw [← ec] at hk
        exact hk
      | true =>
        rw [q2, if_pos rfl] at ec
        refine iteF ?_
        refine pssd_nil ?_
        have hp : 0 ≤ po ∧ po < r0.length := by
          unfold inB at q1
          simp only [Bool.and_eq_true, decide_eq_true_eq] at q1
          exact q1.2
        obtain ⟨on, rfl⟩ := Int.eq_ofNat_of_zero_le hp.1
        rw [Int.toNat_natCast] at ec
        refine pssd_one (psd_set (i := 4) nd rfl ?_)
        refine pd_var (i := 6) rfl rfl ?_
        exact ⟨on, _, _, rfl, rfl, by omega, ec⟩
  · rintro δ' w' ⟨here, x5, x6, rfl, rfl, hh, ec⟩
    rw [List.length_map, List.drop_length] at ec
    refine pssd_one (psd_ret ?_)
    refine pd_cmp op_eq ?_
    refine pd_var (i := 4) rfl rfl ?_
    refine pd_var (i := 2) rfl rfl ?_
    refine vr_eq rfl ?_
    rw [int_eq_dec]
    have e2 : chkC r0.length (r0 :: rest) z here [] = decide (here = z) := rfl
    rw [← e2, ec]
    exact hk
end
end Tw

set_option Elab.async false
set_option linter.all false
set_option maxRecDepth 100000
set_option maxHeartbeats 2000000
/-! apart, shared, find_island, island_holds. -/
namespace Tw
open PySem PySem.Spec PyProof.Rows L2 LamX DL Mth Grf
def HasB (P : Program) (w : PySem.World) (K : PySem.W.Frag) (mg : Str → Option Value) (base : Heap) (T : List (Addr × Str)) (CX : CXT) (op : Operator) (C : Addr) (k : Nat) (sp : SpD) : Prop :=
  ∃ f fd, FnOk P w K mg base CX k f fd ["self", "other"] (spOf K T sp) ∧ PySem.W.findIn K (.ref C) (PySem.dunder op.info.2) = some (some (.ref f)) ∧ PySem.W.isFn K (.ref f) = true ∧ PySem.W.selfFirst K C = true ∧ Binds K fd ["self", "other"] []
section
variable {X : Cx} {T : List (Addr × Str)} {χ : XD} {δ : Dn} {w : Wp} {pos : Pos} {C : Addr}
theorem pd_hasb {CX : CXT} {a b : Expr} {op : Operator} {k : Nat} {sp : SpD} {E : XK} {κ : D → Wp → Prop} (G : HasB X.prog X.w X.K X.mg X.base T CX op C k sp) (hr : Room k X.A) (hx : ∀ σ, PassesAt CX X σ (WE (fun cls d _ H => E cls d H) σ))
    (h : PD X T (fun cls d _ H => E cls d H) χ a δ w fun d w1 => PD X T (fun cls d _ H => E cls d H) χ b δ w1 fun e w2 => ∃ lo lo2, d = spl C lo ∧ e = spl C lo2 ∧ sp [spl C lo, spl C lo2] w2 (fun d' w' => (∃ C' ns ds, d' = .obj C' ns ds) ∧ κ d' w') χ) :
    PD X T (fun cls d _ H => E cls d H) χ (.BinOp a op b pos) δ w κ := by
  obtain ⟨f, fd, h1, h2, h3, h4, h5⟩ := G
  refine pd_bin h1 hr h2 h3 h4 h5 hx (h.imp fun d w1 q => q.imp ?_)
  rintro e w2 ⟨lo, lo2, rfl, rfl, q⟩
  exact ⟨⟨_, _, rfl⟩, ⟨_, _, rfl⟩, q⟩
end
/-- C.m is a class method that keeps sp -/
def HasCM (P : Program) (w : PySem.World) (K : PySem.W.Frag) (mg : Str → Option Value) (base : Heap) (T : List (Addr × Str)) (CX : CXT) (C : Addr) (m : Str) (k : Nat) (ps : List Str) (sp : SpD) : Prop :=
  ∃ mc p g fd, ClX.CRead K C mc ∧ ClX.CMet K C mc m p g ∧ FnOk P w K mg base CX k g fd ps (spOf K T sp) ∧ Binds K fd ps []
/-- x is a def f(*v, nk) that keeps sp -/
def HasSK (P : Program) (w : PySem.World) (K : PySem.W.Frag) (mg : Str → Option Value) (base : Heap) (T : List (Addr × Str)) (CX : CXT) (x nk : Str) (k : Nat) (sp : SpD) : Prop :=
  ∃ f, FnS P w K mg base CX k f nk (spSK K T sp) ∧ mg x = some (.ref f) ∧ PySem.W.keepIn K (.ref f) = true
abbrev sApart : Stmt := sM 3
abbrev sShared : Stmt := top 11
abbrev sFIs : Stmt := top 20
abbrev sIsH : Stmt := top 21
def spApart (C : Addr) : SpD := fun ds w κ χ => ∃ n : Nat, ds = [R C, I (n : Int)] ∧ 1 ≤ n ∧ n ≤ 12 ∧ κ (spl C (List.range n)) w
def spShared (C : Addr) : SpD := fun ds w κ χ => ∃ (n : Nat) (rows : List (List Nat)), ds = [I (n : Int), .tup (rows.map fun r => spl C (lowG r))] ∧ 1 ≤ n ∧ n ≤ 12 ∧ (∀ r ∈ rows, r.length = n) ∧ κ (spl C (orAll n rows)) w
def spFIs (C CM CU : Addr) : SpD := fun ds w κ χ => ∃ r0 rest f l, ds = [spR C (r0 :: rest), I f, I l] ∧ EndsX CM CU r0 rest f l w χ (∃ a, IsFar r0.length (r0 :: rest) l.toNat a ∧ (Fa a f.toNat < r0.length → κ N w) ∧
  (r0.length ≤ Fa a f.toNat → ∀ b, w b = none → κ (R b) (wu w b (.lst (nl (islN r0.length (r0 :: rest) f.toNat))))))
def spIsH (C CM CU : Addr) : SpD := fun ds w κ χ => ∃ r0 rest f l isl, ds = [spR C (r0 :: rest), I f, I l, .lst (isl.map I)] ∧ isl.length ≤ 60 ∧ EndsX CM CU r0 rest f l w χ (κ (B (chkI r0.length (r0 :: rest) f.toNat l.toNat isl)) w)
theorem range_low (n : Nat) : lowN (casts (List.range n)) = List.range n := low_casts_of (jn_zero (n := n)).low
section
variable {P : Program} {w : PySem.World} {K : PySem.W.Frag} {mg : Str → Option Value} {base : Heap} {T : List (Addr × Str)} {C CU CB CM : Addr}
theorem scApart : FnScope ["cls", "size"] ["cls", "size"] (defScope sApart) := ⟨rfl, rfl, rfl, by decide +kernel, rfl, by decide +kernel, by decide +kernel⟩
theorem ok_apart {f : Addr} {fd : FuncData} (G : Fun K "apart" "Split.apart" sApart f fd) (hm : Nm2 mg) (hS : HasF P w K mg base T (L2.CX P w) "check_size" 3 ["size"] (spSize CB)) (hMk : HasMk P w K mg base T (L2.CX P w) "Split" C 4 ["self", "marks"] (spInit C CB)) :
    FnOk P w K mg base (L2.CX P w) 6 f fd ["cls", "size"] (spOf K T (spApart C)) := by
  refine fnX G scApart (fun ds w κ χ h => ?_) (fun cdv A outer s H E ds w0 κ χ hr h => ?_)
  · obtain ⟨n, rfl, _⟩ := h
    rfl
  obtain ⟨n, rfl, h1, h12, k⟩ := h
  have nd := scApart.nd
  refine pssd_cons (psd_expr ?_)
  refine pd_has hS (hr.mono (by decide)) passX ?_
  refine pad_cons ?_
  refine pd_var (i := 1) rfl rfl ?_
  refine pad_nil ?_
  refine ⟨_, rfl, fun _ => ?_, fun z => absurd ⟨by omega, by omega⟩ z⟩
  obtain ⟨fI, fdI, g1, g2, g3, g4⟩ := hMk
  refine pssd_one (psd_ret ?_)
  refine pd_makeL g3 g1 (hr.mono (by decide)) g4 passX ?_
  refine pd_var (i := 0) rfl rfl ?_
  refine ⟨rfl, ?_⟩
  refine pad_cons ?_
  refine pd_listRg rfl hm.list hm.range ?_
  refine pd_var (i := 1) rfl rfl ?_
  refine ⟨n, rfl, by omega, ?_⟩
  refine pad_nil ?_
  intro a dx ha
  have el : (casts (List.range n)).length = n := by
    unfold casts
    rw [List.length_map, List.length_range]
  have ei : D.lst (ups n) = .lst ((casts (List.range n)).map I) := by
    rw [ups_ints]
    rfl
  refine ⟨a, dx, _, casts (List.range n), rfl, wu_same, .inl ei, by omega, fun _ => ⟨rfl, _, _, wu_same, ?_⟩, fun z => absurd ⟨by omega, by omega⟩ z⟩
  rw [wu_wu, wd_wu ha, eo_spl, range_low]
  exact k
theorem scShared : FnScope ["size", "splits", "result", "split"] ["size", "splits"] (defScope sShared) := ⟨rfl, rfl, rfl, by decide +kernel, rfl, by decide +kernel, by decide +kernel⟩
theorem ok_shared {f : Addr} {fd : FuncData} (G : L2.Fun K "shared" "shared" sShared f fd) (c : SplC K C) (hS : mg "Split" = some (.ref C)) (hA : HasCM P w K mg base T (L2.CX P w) C "apart" 6 ["cls", "size"] (spApart C)) (hO : HasB P w K mg base T (L2.CX P w) .BitOr C 7 (spOr C CM)) :
    FnS P w K mg base (L2.CX P w) 8 f "size" (spSK K T (spShared C)) := by
  refine fnSX G scShared (fun kV doc pm an cdv ct us u => ?_) (fun cdv A outer s H E ds w0 κ χ hr h => ?_)
  · cases us with
    | nil => rfl
    | cons x us => rfl
  obtain ⟨n, rows, rfl, h1, h12, hl, k⟩ := h
  have nd := scShared.nd
  obtain ⟨mc, p, g, fdA, a1, a2, a3, a4⟩ := hA
  refine pssd_cons (psd_set (i := 2) nd rfl ?_)
  refine pd_cmet a1 a2 a3 (hr.mono (by decide)) a4 passX ?_
  refine pd_glob (v := .ref C) hS rfl ?_
  refine ⟨rfl, ?_⟩
  refine pad_cons ?_
  refine pd_var (i := 0) rfl rfl ?_
  refine pad_nil ?_
  refine ⟨n, rfl, h1, h12, ?_⟩
  refine pssd_cons (psd_for (passes_of rfl) rfl ?_)
  refine it_tup ?_
  refine pd_var (i := 1) rfl rfl ?_
  refine ⟨_, rfl, ?_⟩
  refine ⟨fun i δ' w' => ∃ x, δ' = [some (I (n : Int)), some (.tup (rows.map fun r => spl C (lowG r))), some (spl C (orAll n (rows.take i))), x] ∧ w' = w0, ⟨none, rfl, rfl⟩, ?_, ?_⟩
  · rintro i d δ' w' hd ⟨x, rfl, rfl⟩
    rw [List.getElem?_map] at hd
    cases e : rows[i]? with
    | none =>
      rw [e] at hd
      cases hd
    | some r =>
    rw [e] at hd
    cases hd
    have hr1 := hl r (List.mem_of_getElem? e)
    have J := jn_all _ (rows.take i) rfl fun q hq => hl q (List.mem_of_mem_take hq)
    refine pgd_name (i := 3) nd rfl ?_
    refine pssd_one (psd_set (i := 2) nd rfl ?_)
    refine pd_hasb hO hr passX ?_
    refine pd_var (i := 2) rfl rfl ?_
    refine pd_var (i := 3) rfl rfl ?_
    refine ⟨_, _, rfl, rfl, _, _, rfl, J.low, low_isLow r, by rw [J.len]; exact h1, by rw [J.len]; exact h12, by rw [rlen]; omega, fun _ => ⟨⟨_, _, _, rfl⟩, ?_⟩, fun z => absurd (by rw [J.len, rlen, hr1]) z⟩
    refine ⟨some (spl C (lowG r)), ?_, rfl⟩
    have tk : rows.take (i + 1) = rows.take i ++ [r] := by
      rw [List.take_add_one, e]
      rfl
    rw [tk, orAll_snoc]
    rfl
  · rintro δ' w' ⟨x, rfl, rfl⟩
    rw [List.length_map, List.take_length]
    refine pssd_one (psd_ret ?_)
    refine pd_var (i := 2) rfl rfl ?_
    exact k
theorem scFIs : FnScope ["splits", "first", "last", "size", "island"] ["splits", "first", "last"] (defScope sFIs) := ⟨rfl, rfl, rfl, by decide +kernel, rfl, by decide +kernel, by decide +kernel⟩
theorem ok_fis {f : Addr} {fd : FuncData} (G : Fun K "find_island" "find_island" sFIs f fd) (c : SplC K C) (hE : HasF P w K mg base T (L2.CX P w) "_check_ends" 4 ["splits", "first", "last"] (spEnds C CM CU)) (hSh : HasSK P w K mg base T (L2.CX P w) "shared" "size" 8 (spShared C))
    (hC : HasM P w K mg base T (L2.CX P w) C "cell" 4 ["self", "case"] (spCell C CU)) : FnOk P w K mg base (L2.CX P w) 9 f fd ["splits", "first", "last"] (spOf K T (spFIs C CM CU)) := by
  refine fnX G scFIs (fun ds w κ χ h => ?_) (fun cdv A outer s H E ds w0 κ χ hr h => ?_)
  · obtain ⟨r0, rest, f, l, rfl, _⟩ := h
    rfl
  obtain ⟨r0, rest, f, l, rfl, X⟩ := h
  have nd := scFIs.nd
  refine pssd_cons (psd_expr ?_)
  refine pd_has hE (hr.mono (by decide)) passX ?_
  refine pad_cons ?_
  refine pd_var (i := 0) rfl rfl ?_
  refine pad_cons ?_
  refine pd_var (i := 1) rfl rfl ?_
  refine pad_cons ?_
  refine pd_var (i := 2) rfl rfl ?_
  refine pad_nil ?_
  refine ⟨r0, rest, f, l, rfl, X.map fun all hf hl hk => ?_⟩
  obtain ⟨fn, rfl, hfn⟩ := inR_nat hf
  obtain ⟨z, rfl, hz⟩ := inR_nat hl
  simp only [Int.toNat_natCast] at hk
  obtain ⟨a, F, k1, k2⟩ := hk
  have h12 := (X.sz r0 (List.mem_cons_self ..)).2
  have h1 := (X.sz r0 (List.mem_cons_self ..)).1
  have h7 : (r0 :: rest).length ≤ 7 := by
    have := X.n5
    rw [List.length_cons]
    omega
  refine pssd_cons (psd_set (i := 3) nd rfl ?_)
  refine pd_fld c.cl c.nS ?_
  refine pd_ix ix_list ?_
  refine pd_var (i := 0) rfl rfl ?_
  refine pd_int ?_
  refine vr_ixL (i := 0) (d := spl C (lowG r0)) rfl ?_
  refine ⟨_, spl_len, ?_⟩
  obtain ⟨fS, s1, s2, s3⟩ := hSh
  have J := jn_all _ (r0 :: rest) rfl all
  refine pssd_cons (psd_set (i := 4) nd rfl ?_)
  refine pd_hasm c.cl hC (hr.mono (by decide)) passX ?_
  refine pd_callSK s1 hr s2 s3 passX ?_
  refine pd_var (i := 0) rfl rfl ?_
  refine ⟨_, rfl, by rw [List.length_map]; exact Nat.le_of_lt (small1000 (by omega)), ?_⟩
  refine pd_var (i := 3) rfl rfl ?_
  refine ⟨r0.length, r0 :: rest, rfl, h1, h12, all, ?_⟩
  refine ⟨ins_spl (by decide), ?_⟩
  refine pad_cons ?_
  refine pd_var (i := 1) rfl rfl ?_
  refine pad_nil ?_
  have hin : InR (fn : Int) ((orAll r0.length (r0 :: rest)).length : Int) := ⟨by omega, by rw [J.len]; omega⟩
  refine ⟨_, _, rfl, by rw [J.len]; omega, fun _ b hb => ?_, fun q => absurd hin q⟩
  have ec : cellN (orAll r0.length (r0 :: rest)) (markAt (orAll r0.length (r0 :: rest)) (fn : Int)) = islN r0.length (r0 :: rest) fn := by
    unfold cellN islN
    rw [J.len, mark_at (lo := orAll r0.length (r0 :: rest)) (i := fn) (by rw [J.len]; exact hfn)]
  rw [ec]
  refine pssd_cons (psd_if ?_)
  refine ptd_cmp op_in_seq ?_
  refine pd_var (i := 2) rfl rfl ?_
  refine pd_var (i := 4) rfl rfl ?_
  refine vr_inK (ys := casts (islN r0.length (r0 :: rest) fn)) (.inr ⟨b, rfl, by rw [← nl_casts]; exact wu_same⟩) ⟨_, rfl, ?_⟩
  have em : decide ((z : Int) ∈ casts (islN r0.length (r0 :: rest) fn)) = decide (Fa a fn < r0.length) := decide_eq_decide.mpr (by
    rw [← mem_isl all hfn hz F]
    unfold casts
    rw [List.mem_map]
    constructor
    · rintro ⟨x, hx, e⟩
      have : x = z := by omega
      rw [← this]
      exact hx
    · exact fun h => ⟨z, h, rfl⟩)
  rw [em]
  refine ite2 (fun q => ?_) (fun q => ?_)
  · refine pssd_drop b ?_
    rw [wd_wu hb]
    refine pssd_one (psd_ret ?_)
    refine pd_non ?_
    exact k1 (of_decide_eq_true q)
  · refine pssd_nil ?_
    refine pssd_one (psd_ret ?_)
    refine pd_var (i := 4) rfl rfl ?_
    exact k2 (by simpa using q) b hb
end
end Tw

set_option Elab.async false
set_option linter.all false
set_option maxRecDepth 100000
set_option maxHeartbeats 2000000
/-! island_holds. -/
namespace Tw
open PySem PySem.Spec PyProof.Rows L2 LamX DL Mth Grf
theorem flat_le {α β : Type} {f : α → List β} {b : Nat} : ∀ {l : List α}, (∀ x ∈ l, (f x).length ≤ b) → (l.flatMap f).length ≤ l.length * b
  | [], _ => Nat.zero_le _
  | a :: l, h => by
    rw [List.flatMap_cons, List.length_append, List.length_cons, Nat.succ_mul]
    have := flat_le (l := l) fun x hx => h x (List.mem_cons_of_mem _ hx)
    have := h a (List.mem_cons_self ..)
    omega
theorem all_flat {α β : Type} {f : α → List β} {p : β → Bool} : ∀ {l : List α}, (l.flatMap f).all p = l.all fun x => (f x).all p
  | [] => rfl
  | a :: l => by
    rw [List.flatMap_cons, List.all_append, List.all_cons, all_flat]
/-- what the paper's closure is asked for -/
def goI (n : Nat) (rows : List (List Nat)) (out : List Int) (k c : Nat) : List Bool := (cellR n rows k c).map fun (o : Nat) => decide ((o : Int) ∈ out)
def closI (n : Nat) (rows : List (List Nat)) (out : List Int) (i : Nat) : List Bool := (List.range i).flatMap fun k => (out.map Int.toNat).flatMap fun c => goI n rows out k c
theorem clos_eq {n : Nat} {rows : List (List Nat)} {isl out : List Int} (hm : ∀ k : Int, k ∈ out ↔ k ∈ isl) (hr : ∀ k ∈ isl, inB k n = true) :
    (closI n rows out rows.length).all id = rows.all fun r => (List.range n).all fun c => decide ((∃ d ∈ isl, r[d.toNat]? = r[c]?) → (c : Int) ∈ isl) := by
  rw [Bool.eq_iff_iff]
  unfold closI
  rw [all_flat, List.all_eq_true, List.all_eq_true]
  constructor
  · intro h r hrm
    obtain ⟨k, hk, ek⟩ := List.mem_iff_getElem.mp hrm
    have h1 := h k (List.mem_range.mpr hk)
    rw [all_flat, List.all_eq_true] at h1
    rw [List.all_eq_true]
    intro c hc
    refine decide_eq_true fun ⟨d, hd, e⟩ => ?_
    have hc' := List.mem_range.mp hc
    have h2 := h1 d.toNat (List.mem_map.mpr ⟨d, (hm d).mpr hd, rfl⟩)
    unfold goI at h2
    rw [List.all_map, List.all_eq_true] at h2
    have hs : Grf.same rows k c d.toNat = true := decide_eq_true (by
      rw [List.getD_eq_getElem?_getD, List.getElem?_eq_getElem hk, ek]
      exact e.symm)
    have h3 := h2 c (mem_cellR.mpr ⟨hc', hs⟩)
    exact (hm _).mp (of_decide_eq_true h3)
  · intro h k hk
    have hk' := List.mem_range.mp hk
    rw [all_flat, List.all_eq_true]
    intro c hc
    obtain ⟨d, hd, rfl⟩ := List.mem_map.mp hc
    unfold goI
    rw [List.all_map, List.all_eq_true]
    intro o ho
    obtain ⟨ho1, ho2⟩ := mem_cellR.mp ho
    have h1 := h (rows.getD k []) (getD_mem hk')
    rw [List.all_eq_true] at h1
    have h2 := of_decide_eq_true (h1 o (List.mem_range.mpr ho1))
    exact decide_eq_true ((hm _).mpr (h2 ⟨d, (hm d).mp hd, (of_decide_eq_true ho2).symm⟩))
theorem nodup_sub {α : Type} [DecidableEq α] : ∀ {l m : List α}, l.Nodup → (∀ x ∈ l, x ∈ m) → l.length ≤ m.length
  | [], _, _, _ => Nat.zero_le _
  | a :: l, m, nd, h => by
    have ha := h a (List.mem_cons_self ..)
    obtain ⟨n1, n2⟩ := List.nodup_cons.mp nd
    have e := List.length_erase_of_mem ha
    have ih := nodup_sub (l := l) (m := m.erase a) n2 fun x hx => by
      have hx' := h x (List.mem_cons_of_mem _ hx)
      have hne : x ≠ a := fun z => n1 (by rw [← z]; exact hx)
      exact (List.mem_erase_of_ne hne).mpr hx'
    have := List.length_pos_of_mem ha
    rw [List.length_cons]
    omega
theorem nodup_map {α β : Type} {f : α → β} : ∀ {l : List α}, l.Nodup → (∀ x ∈ l, ∀ y ∈ l, f x = f y → x = y) → (l.map f).Nodup
  | [], _, _ => List.nodup_nil
  | a :: l, nd, h => by
    obtain ⟨n1, n2⟩ := List.nodup_cons.mp nd
    rw [List.map_cons, List.nodup_cons]
    refine ⟨fun hm => ?_, nodup_map n2 fun x hx y hy => h x (List.mem_cons_of_mem _ hx) y (List.mem_cons_of_mem _ hy)⟩
    obtain ⟨x, hx, e⟩ := List.mem_map.mp hm
    have := h x (List.mem_cons_of_mem _ hx) a (List.mem_cons_self ..) e
    exact n1 (by rw [← this]; exact hx)
theorem lt_big {n : Nat} (h : n ≤ 100000) : n < sizeLine := by
  rw [sizeLine_eq]
  omega
section
variable {P : Program} {w : PySem.World} {K : PySem.W.Frag} {mg : Str → Option Value} {base : Heap} {T : List (Addr × Str)} {C CU CB CM : Addr}
theorem scIsH : FnScope ["splits", "first", "last", "island", "cases", "closed", "case", "split", "other"] ["splits", "first", "last", "island"] (defScope sIsH) := ⟨rfl, rfl, rfl, by decide +kernel, rfl, by decide +kernel, by decide +kernel⟩
theorem ok_ish {f : Addr} {fd : FuncData} (G : Fun K "island_holds" "island_holds" sIsH f fd) (c : SplC K C) (hAll : mg "all" = none) (hAny : mg "any" = none) (hSo : mg "sorted" = none) (hSe : mg "set" = none) (hE : HasF P w K mg base T (L2.CX P w) "_check_ends" 4 ["splits", "first", "last"] (spEnds C CM CU))
    (hC : HasM P w K mg base T (L2.CX P w) C "cell" 4 ["self", "case"] (spCell C CU)) : FnOk P w K mg base (L2.CX P w) 5 f fd ["splits", "first", "last", "island"] (spOf K T (spIsH C CM CU)) := by
  refine fnX G scIsH (fun ds w κ χ h => ?_) (fun cdv A outer s H E ds w0 κ χ hr h => ?_)
  · obtain ⟨r0, rest, f, l, isl, rfl, _⟩ := h
    rfl
  obtain ⟨r0, rest, f, l, isl, rfl, hz60, X⟩ := h
  have nd := scIsH.nd
  refine pssd_cons (psd_expr ?_)
  refine pd_has hE hr passX ?_
  refine pad_cons ?_
  refine pd_var (i := 0) rfl rfl ?_
  refine pad_cons ?_
  refine pd_var (i := 1) rfl rfl ?_
  refine pad_cons ?_
  refine pd_var (i := 2) rfl rfl ?_
  refine pad_nil ?_
  refine ⟨r0, rest, f, l, rfl, X.map fun all hf hl hk => ?_⟩
  obtain ⟨fn, rfl, hfn⟩ := inR_nat hf
  obtain ⟨z, rfl, hz⟩ := inR_nat hl
  simp only [Int.toNat_natCast] at hk
  have h12 := (X.sz r0 (List.mem_cons_self ..)).2
  have h7 : (r0 :: rest).length ≤ 7 := by
    have := X.n5
    rw [List.length_cons]
    omega
  refine pssd_cons (psd_set (i := 4) nd rfl ?_)
  refine pd_sortSet rfl hSo hSe ?_
  refine pd_var (i := 3) rfl rfl ?_
  refine ⟨isl, .inl rfl, hz60, fun out hso hm => ?_⟩
  have nd2 : out.Nodup := hso.imp fun h => Int.ne_of_lt h
  have inIff : (isl.all fun c => inB c r0.length) = out.all fun c => inB c r0.length := by
    rw [Bool.eq_iff_iff, List.all_eq_true, List.all_eq_true]
    exact ⟨fun h x hx => h x ((hm x).mp hx), fun h x hx => h x ((hm x).mpr hx)⟩
  have oz : out.length ≤ 1000 := by
    exact Nat.le_trans (nodup_sub nd2 fun x hx => (hm x).mp hx) (by omega)
  refine pssd_cons (psd_if ?_)
  refine ptd_val ?_
  refine pd_callB (cr_any rfl) rfl hAny bt_any ?_
  refine pad_cons ?_
  refine pd_lc (own := [("case", 6)]) (is := [6]) rfl nd (blkOk_by rfl) (by decide) ?_
  refine it_list ?_
  refine pd_var (i := 4) rfl rfl ?_
  refine ⟨_, rfl, ?_⟩
  refine lcd_map (xs := out) (g := I) (fun c => B (!inB c r0.length)) (small1000 oz) (fun x hx s H0 C1 cl1 fp1 => ?_) ?_
  · refine pgl_name (i := 6) nd rfl ?_
    intro s H0 C1 cl1 fp1
    refine ptsd_nil ?_
    intro s H0 C1 cl1 fp1
    refine pd_or ?_
    refine pd_cmp op_lt ?_
    refine pd_var (i := 6) rfl rfl ?_
    refine pd_int ?_
    refine vr_I ?_
    refine ⟨_, rfl, ?_⟩
    refine ite2 (fun q => ?_) (fun q => ?_)
    · refine ⟨rfl, ?_, rfl⟩
      unfold inB
      have q' := of_decide_eq_true q
      rw [decide_eq_false (p := (0 : Int) ≤ x) (by omega)]
      rfl
    · refine pd_one ?_
      refine pd_cmp op_ge ?_
      refine pd_var (i := 6) rfl rfl ?_
      refine pd_fld c.cl c.nS ?_
      refine pd_ix ix_list ?_
      refine pd_var (i := 0) rfl rfl ?_
      refine pd_int ?_
      refine vr_ixL (i := 0) (d := spl C (lowG r0)) rfl ?_
      refine ⟨_, spl_len, ?_⟩
      refine vr_I ?_
      refine ⟨rfl, ?_, rfl⟩
      have q' : ¬ x < 0 := fun z => q (decide_eq_true z)
      unfold inB
      rw [decide_eq_true (p := (0 : Int) ≤ x) (by omega), Bool.true_and]
      show B (decide (x ≥ (r0.length : Int))) = B (!decide (x < (r0.length : Int)))
      have e : decide (x ≥ (r0.length : Int)) = !decide (x < (r0.length : Int)) := by
        rw [← decide_not]
        exact decide_eq_decide.mpr (by omega)
      rw [e]
  refine pad_nil ?_
  have eb : D.lst (out.map fun c => B (!inB c r0.length)) = .lst ((out.map fun c => !inB c r0.length).map B) := by
    rw [List.map_map]
    rfl
  rw [eb]
  refine va_any ⟨_, rfl, ?_⟩
  have ea : (out.map fun c => !inB c r0.length).any id = !(isl.all fun c => inB c r0.length) := by
    rw [inIff, List.any_map]
    rw [List.not_all_eq_any_not]
    rfl
  rw [ea]
  unfold chkI at hk
  cases q : (isl.all fun c => inB c r0.length) with
  | false =>
    rw [q] at hk
    refine iteT ?_
    refine pssd_one (psd_ret ?_)
    refine pd_bl ?_
    simp only [Bool.false_and] at hk
    exact hk
  | true =>
  rw [q] at hk
  refine iteF ?_
  refine pssd_nil ?_
  have hin : ∀ k ∈ isl, inB k r0.length = true := List.all_eq_true.mp q
  have outin : ∀ x ∈ out, 0 ≤ x ∧ x < r0.length := fun x hx => by
    have := hin x ((hm x).mp hx)
    unfold inB at this
    simp only [Bool.and_eq_true, decide_eq_true_eq] at this
    exact this
  have cl12 : out.length ≤ 12 := by
    have h1 : (out.map Int.toNat).Nodup := nodup_map (f := Int.toNat) nd2 fun x hx y hy e => by
      have := outin x hx
      have := outin y hy
      omega
    have h2 := nodup_le h1 (n := r0.length) fun x hx => by
      obtain ⟨y, hy, rfl⟩ := List.mem_map.mp hx
      have := outin y hy
      omega
    rw [List.length_map] at h2
    omega
  refine pssd_cons (psd_set (i := 5) nd rfl ?_)
  refine pd_callB (cr_all rfl) rfl hAll bt_all ?_
  refine pad_cons ?_
  refine pd_lc3 (own := [("split", 7), ("case", 6), ("other", 8)]) (is := [7]) (is1 := [6]) (is2 := [8]) (vs1 := [6, 8]) (vs2 := [8]) rfl nd (blkOk_by rfl) (by decide) (by decide) (by decide) (by decide) (by decide) ?_
  refine it_list ?_
  refine pd_var (i := 0) rfl rfl ?_
  refine ⟨_, rfl, ?_⟩
  have gz : ∀ k c, (goI r0.length (r0 :: rest) out k c).length ≤ 12 := fun k c => by
    unfold goI
    rw [List.length_map]
    exact Nat.le_trans cellR_len h12
  have mz : ∀ k (cs : List Nat), cs.length ≤ 12 → (cs.flatMap fun c => goI r0.length (r0 :: rest) out k c).length ≤ 144 := fun k cs hc =>
    Nat.le_trans (flat_le (b := 12) fun c _ => gz k c) (Nat.le_trans (Nat.mul_le_mul_right 12 hc) (by decide))
  have lz : ∀ i, i ≤ 7 → (closI r0.length (r0 :: rest) out i).length ≤ 1008 := fun i hi => by
    refine Nat.le_trans (flat_le (b := 144) fun k _ => mz k _ (by rw [List.length_map]; exact cl12)) ?_
    rw [List.length_range]
    omega
  refine ⟨fun i acc w' => acc = (closI r0.length (r0 :: rest) out i).map B ∧ w' = w0, ⟨rfl, rfl⟩, ?_, ?_⟩
  · rintro i d acc w' hd ⟨rfl, rfl⟩ s H0 C1 cl1 fp1
    rw [List.getElem?_map] at hd
    cases e : (r0 :: rest)[i]? with
    | none =>
      rw [e] at hd
      cases hd
    | some r =>
    rw [e] at hd
    cases hd
    have hr1 := all r (List.mem_of_getElem? e)
    have hi7 : i < (r0 :: rest).length := (List.getElem?_eq_some_iff.mp e).1
    refine pgl_name (i := 7) nd rfl ?_
    intro s H0 C1 cl1 fp1
    refine ptsd_nil ?_
    rw [if_pos rfl]
    intro s H0 C1 cl1 fp1
    refine pd_var (i := 4) rfl rfl ?_
    refine ⟨_, rfl, ?_⟩
    refine ⟨fun j acc w2 => acc = (closI r0.length (r0 :: rest) out i ++ ((out.map Int.toNat).take j).flatMap fun c => goI r0.length (r0 :: rest) out i c).map B ∧ w2 = w', ⟨by simp, rfl⟩, ?_, ?_⟩
    · rintro j d acc w2 hd ⟨rfl, rfl⟩ s H0 C1 cl1 fp1
      rw [List.getElem?_map] at hd
      cases e1 : out[j]? with
      | none =>
        rw [e1] at hd
        cases hd
      | some x =>
      rw [e1] at hd
      cases hd
      obtain ⟨hx0, hx1⟩ := outin x (List.mem_of_getElem? e1)
      obtain ⟨cn, rfl⟩ := Int.eq_ofNat_of_zero_le hx0
      have hcn : cn < r0.length := by omega
      have tk : (out.map Int.toNat).take (j + 1) = (out.map Int.toNat).take j ++ [cn] := by
        rw [List.take_add_one, List.getElem?_map, e1]
        rfl
      refine pgl_name (i := 6) nd rfl ?_
      intro s H0 C1 cl1 fp1
      refine ptsd_nil ?_
      rw [if_pos rfl]
      intro s H0 C1 cl1 fp1
      refine pd_frz ?_
      refine pd_hasm c.cl hC hr (fun _ => passLf) ?_
      refine pd_var (i := 7) rfl rfl ?_
      refine ⟨ins_spl (by decide), ?_⟩
      refine pad_cons ?_
      refine pd_var (i := 6) rfl rfl ?_
      refine pad_nil ?_
      have hinr : InR (cn : Int) ((lowG r).length : Int) := ⟨by omega, by rw [rlen]; omega⟩
      refine ⟨lowG r, _, rfl, by rw [rlen]; omega, fun _ a ha => ?_, fun z => absurd hinr z⟩
      refine ⟨a, _, rfl, wu_same, _, rfl, ?_⟩
      rw [wd_wu ha, cell_rows e hr1 hcn]
      refine ⟨fun l acc w3 => acc = (closI r0.length (r0 :: rest) out i ++ (((out.map Int.toNat).take j).flatMap fun c => goI r0.length (r0 :: rest) out i c) ++ (goI r0.length (r0 :: rest) out i cn).take l).map B ∧ w3 = w2, ⟨by simp, rfl⟩, ?_, ?_⟩
      · rintro l d acc w3 hd ⟨rfl, rfl⟩ s H0 C1 cl1 fp1
        have hd' : (nl (cellR r0.length (r0 :: rest) i cn))[l]? = some d := hd
        unfold nl at hd'
        rw [List.getElem?_map] at hd'
        cases e2 : (cellR r0.length (r0 :: rest) i cn)[l]? with
        | none =>
          rw [e2] at hd'
          cases hd'
        | some o =>
        rw [e2] at hd'
        cases hd'
        refine pgl_name (i := 8) nd rfl ?_
        intro s H0 C1 cl1 fp1
        refine ptsd_nil ?_
        rw [if_pos rfl]
        have z1 := lz i (by omega)
        have z2 := mz i ((out.map Int.toNat).take j) (by rw [List.length_take, List.length_map]; omega)
        have z3 := gz i cn
        refine ⟨lt_big ?_, ?_⟩
        · rw [List.length_map, List.length_append, List.length_append, List.length_take]
          omega
        intro s H0 C1 cl1 fp1
        refine pd_cmp op_in_seq ?_
        refine pd_var (i := 8) rfl rfl ?_
        refine pd_var (i := 4) rfl rfl ?_
        refine vr_inK (.inl rfl) ⟨?_, rfl⟩
        have eg : (goI r0.length (r0 :: rest) out i cn)[l]? = some (decide ((o : Int) ∈ out)) := by
          unfold goI
          rw [List.getElem?_map, e2]
          rfl
        rw [List.take_add_one, eg, ← List.append_assoc]
        exact (List.map_append (l₂ := [decide ((o : Int) ∈ out)])).symm
      · rintro acc w3 ⟨rfl, rfl⟩
        refine ⟨?_, rfl⟩
        have zl : (nl (cellR r0.length (r0 :: rest) i cn)).length = (goI r0.length (r0 :: rest) out i cn).length := by
          rw [nl_len]
          unfold goI
          rw [List.length_map]
        rw [zl, List.take_length, tk, List.flatMap_append]
        simp
    · rintro acc w2 ⟨rfl, rfl⟩
      refine ⟨?_, rfl⟩
      have e3 : ((out.map Int.toNat).take (out.map I).length) = out.map Int.toNat := by
        rw [List.length_map]
        exact List.take_of_length_le (by rw [List.length_map]; exact Nat.le_refl _)
      rw [e3]
      unfold closI
      rw [List.range_succ, List.flatMap_append]
      simp
  rintro acc w' ⟨rfl, rfl⟩
  rw [List.length_map]
  refine pad_nil ?_
  refine va_all ?_
  rw [clos_eq hm hin]
  refine pssd_one (psd_ret ?_)
  refine pd_and ?_
  refine pd_var (i := 5) rfl rfl ?_
  refine ⟨_, rfl, ?_⟩
  generalize ((r0 :: rest).all fun r => (List.range r0.length).all fun c => decide ((∃ d ∈ isl, r[d.toNat]? = r[c]?) → (c : Int) ∈ isl)) = b3 at hk ⊢
  cases b3 with
  | false =>
    refine iteF ?_
    rw [Bool.and_false] at hk
    exact hk
  | true =>
    refine iteT ?_
    refine pd_and ?_
    refine pd_cmp op_in_seq ?_
    refine pd_var (i := 1) rfl rfl ?_
    refine pd_var (i := 4) rfl rfl ?_
    refine vr_inK (.inl rfl) ⟨_, rfl, ?_⟩
    have e1 : decide ((fn : Int) ∈ out) = decide ((fn : Int) ∈ isl) := decide_eq_decide.mpr (hm _)
    have e2 : decide ((z : Int) ∈ out) = decide ((z : Int) ∈ isl) := decide_eq_decide.mpr (hm _)
    rw [e1]
    generalize decide ((fn : Int) ∈ isl) = b1 at hk ⊢
    cases b1 with
    | false =>
      refine iteF ?_
      exact hk
    | true =>
      refine iteT ?_
      refine pd_one ?_
      refine pd_cmp op_notIn_seq ?_
      refine pd_var (i := 2) rfl rfl ?_
      refine pd_var (i := 4) rfl rfl ?_
      refine vr_ninK (.inl rfl) ?_
      rw [e2]
      rw [Bool.true_and, Bool.true_and, Bool.and_true] at hk
      exact hk
end
end Tw

set_option Elab.async false
set_option linter.all false
set_option maxRecDepth 100000
set_option maxHeartbeats 2000000
/-! The law's marks and distances. -/
namespace DL
open PySem PySem.Spec PyProof.Rows L2 LamX
section
variable {X : Cx} {T : List (Addr × Str)} {W : WX} {χ : XD} {δ : Dn} {w : Wp} {pos : Pos}
/-- list(range(n)), owned -/
theorem pd_listRgO {e : Expr} {p p2 pos2 : Pos} {κ : D → Wp → Prop} (hc : X.calm = true) (hmL : X.mg "list" = none) (hmR : X.mg "range" = none) (h : PD X T W χ e δ w fun d w1 => ∃ n : Nat, d = I (n : Int) ∧ n ≤ 1000 ∧ ∀ a, w1 a = none → κ (R a) (wu w1 a (.lst (ups n))))
    (hg1 : Gl X "list" := by rfl) (hg2 : Gl X "range" := by rfl) (na : starEach [e] X.env = (false, eval e X.env) :: starEach [] X.env := by rfl)
    (nb : starEach [.Call (.Name "range" p2) [e] [] pos2] X.env = (false, eval (.Call (.Name "range" p2) [e] [] pos2) X.env) :: starEach [] X.env := by rfl) : PD X T W χ (.Call (.Name "list" p) [.Call (.Name "range" p2) [e] [] pos2] [] pos) δ w κ := by
  intro F σ S H Q hE hW hX hK
  refine wp_pe (pe_listRg hc hg1 hmL (prg_1 hg2 hmR (pe_wp e) na) nb) ?_
  refine h F σ S H _ hE hW hX fun d w1 v S1 H1 k s1 W1 r => ?_
  obtain ⟨n, rfl, hn, k⟩ := k
  refine ⟨n, r, RgOk.of_le (by omega) (by omega) (by omega) (by omega), fun q hq => ?_⟩
  exact hK _ _ _ _ _ (k q (W1.free hq).2.1) s1 (W1.take hq ⟨_, rfl, rg_ups n⟩) rfl
end
end DL
namespace Tw
open PySem PySem.Spec PyProof.Rows L2 LamX DL Mth Grf
abbrev sLMk : Stmt := top 31
abbrev sLFar : Stmt := top 32
def rowsD (rows : List (List Nat)) : D := .lst (rows.map nats)
theorem bag_none {w : Wp} {a r c : Addr} {b b' : Bag} (h : bagPut w a r b c = none) : bagPut w a r b' c = none := by
  unfold bagPut at h ⊢
  by_cases h1 : c = r
  · subst h1
    rw [wu_same] at h
    cases h
  · rw [wu_ne h1] at h ⊢
    by_cases h2 : c = a
    · subst h2
      rw [wu_same] at h
      cases h
    · rw [wu_ne h2] at h ⊢
      exact h
theorem lg9' {z : Int} (h1 : 0 ≤ z) (h2 : z ≤ 1000) : z.natAbs.log2 < 9000 := Nat.lt_trans (log_of (Nat.lt_of_lt_of_le (by omega : _ < 2000) (by decide))) (by decide)
def spLMk : SpD := fun ds w κ χ => ∃ (a r : Addr) (b : Bag) (many : Nat) (way : Int), ds = [R a, I (many : Int), I way] ∧ BagAt w a r b ∧ 1 ≤ many ∧ many ≤ 12 ∧ ∀ (row : List Nat) (b' : Bag), row.length = many → κ (nats row) (bagPut w a r b')
def spLFar : SpD := fun ds w κ χ => ∃ (n : Nat) (rows : List (List Nat)) (z : Nat), ds = [rowsD rows, I (z : Int)] ∧ rows ≠ [] ∧ (∀ r ∈ rows, r.length = n) ∧ n ≤ 12 ∧ z < n ∧ ∀ far, IsFar n rows z far → κ (nats far) w
theorem nats_of {ms : List Int} (h : ∀ x ∈ ms, 0 ≤ x) : D.lst (ms.map I) = nats (ms.map Int.toNat) := by
  unfold nats
  rw [List.map_map]
  refine congrArg D.lst (List.map_congr_left fun x hx => ?_)
  have := h x hx
  show I x = I ((x.toNat : Nat) : Int)
  rw [Int.toNat_of_nonneg this]
section
variable {P : Program} {w : PySem.World} {K : PySem.W.Frag} {mg : Str → Option Value} {base : Heap} {T : List (Addr × Str)} {C CU CB CM : Addr}
theorem scLMk : FnScope ["bag", "many", "way", "kinds", "marks", "turn", "one", "two", "k"] ["bag", "many", "way"] (defScope sLMk) := ⟨rfl, rfl, rfl, by decide +kernel, rfl, by decide +kernel, by decide +kernel⟩
theorem ok_lmk {f : Addr} {fd : FuncData} (G : Fun K "_law_marks" "_law_marks" sLMk f fd) (hm : Nm2 mg) (hT : HasF P w K mg base T CX0 "_law_take" 1 ["bag", "many"] spTake) : FnOk P w K mg base CX0 2 f fd ["bag", "many", "way"] (spOf K T spLMk) := by
  refine fnD G scLMk (fun ds w κ χ h => ?_) (fun cdv A outer s H E ds w0 κ χ hr h => ?_)
  · obtain ⟨a, r, b, n, way, rfl, _⟩ := h
    rfl
  obtain ⟨a, r, b, n, way, rfl, hb, h1, h12, k⟩ := h
  have nd := scLMk.nd
  have ne := hb.ne
  have hB : ∀ b, BagAt (bagPut w0 a r b) a r b := fun b => bag_put ne
  have pp : ∀ b b', bagPut (bagPut w0 a r b) a r b' = bagPut w0 a r b' := fun b b' => bag_put2 ne
  refine pssd_cons (psd_if ?_)
  refine ptd_cmp op_eq ?_
  refine pd_var (i := 2) rfl rfl ?_
  refine pd_int ?_
  refine vr_eq rfl ⟨_, rfl, ?_⟩
  refine ite2 (fun c => ?_) (fun c => ?_)
  · refine pssd_cons (psd_set (i := 3) nd rfl ?_)
    refine pd_op op_add ?_
    refine pd_int ?_
    refine pd_take hT (hr.mono (by decide)) (i := 0) rfl rfl hb ?_
    refine pd_var (i := 1) rfl rfl ?_
    refine ⟨rfl, _, rfl, by omega, lg9' (by omega) (by omega), fun x b1 g0 g1 => ?_⟩
    refine vr_I ?_
    refine pssd_one (psd_ret ?_)
    refine pd_lc (own := [("k", 8)]) (is := [8]) rfl nd (blkOk_by rfl) (by decide) ?_
    refine it_range hm.range ?_
    refine pd_var (i := 1) rfl rfl ?_
    refine ⟨n, rfl, by omega, ?_⟩
    refine ⟨by rw [ups_len]; exact small1000 (by omega), fun i acc w' => ∃ (b' : Bag) (ms : List Int), w' = bagPut w0 a r b' ∧ acc = ms.map I ∧ ms.length = i ∧ ∀ x ∈ ms, 0 ≤ x, ⟨b1, [], rfl, rfl, rfl, fun x h => by cases h⟩, ?_, ?_⟩
    · rintro i d acc w' hd ⟨b', ms, rfl, rfl, hl, hp⟩ s H0 C1 cl1 fp1
      obtain ⟨hi, rfl⟩ := ups_at hd
      refine pgl_name (i := 8) nd rfl ?_
      intro s H0 C1 cl1 fp1
      refine ptsd_nil ?_
      intro s H0 C1 cl1 fp1
      refine pd_take hT (hr.mono (by decide)) (i := 0) rfl rfl (hB b') ?_
      refine pd_var (i := 3) rfl rfl ?_
      refine ⟨rfl, _, rfl, by omega, lg9' (by omega) (by omega), fun y b2 g2 g3 => ?_⟩
      rw [pp]
      refine ⟨b2, ms ++ [y], rfl, by rw [List.map_append]; rfl, by rw [List.length_append, hl]; rfl, fun x hx => ?_⟩
      rcases List.mem_append.mp hx with hx | hx
      · exact hp x hx
      · rw [List.mem_singleton.mp hx]
        exact g2
    · rintro acc w' ⟨b', ms, rfl, rfl, hl, hp⟩
      rw [ups_len] at hl
      rw [nats_of hp]
      exact k _ b' (by rw [List.length_map, hl])
  refine pssd_nil ?_
  refine pssd_cons (psd_set (i := 4) nd rfl ?_)
  refine pd_listRgO rfl hm.list hm.range ?_
  refine pd_var (i := 1) rfl rfl ?_
  refine ⟨n, rfl, by omega, fun c hc => ?_⟩
  have hc2 : ∀ b', bagPut w0 a r b' c = none := fun b' => bag_none (b := b) (by rw [hb.put]; exact hc)
  refine pssd_cons (psd_for PassesOwn.never rfl ?_)
  refine it_range hm.range ?_
  refine pd_op op_add ?_
  refine pd_int ?_
  refine pd_take hT (hr.mono (by decide)) (i := 0) rfl rfl (hb.own hc) ?_
  refine pd_int ?_
  refine ⟨rfl, _, rfl, by decide, by decide, fun x b1 g0 g1 => ?_⟩
  rw [bag_comm hb hc]
  refine vr_I ?_
  obtain ⟨xn, rfl⟩ := Int.eq_ofNat_of_zero_le g0
  refine ⟨1 + xn, by show I (1 + (xn : Int)) = I ((1 + xn : Nat) : Int); congr 3, by omega, ?_⟩
  refine ⟨fun i δ' w' => ∃ (m : List Nat) (b' : Bag) (x5 x6 x7 : Option D), δ' = [some (R a), some (I (n : Int)), some (I way), none, some (R c), x5, x6, x7, none] ∧ w' = wu (bagPut w0 a r b') c (.lst (nl m)) ∧ m.length = n, ⟨List.range n, b1, none, none, none, rfl, rfl, List.length_range⟩, ?_, ?_⟩
  · rintro i d δ' w' hd ⟨m, b', x5, x6, x7, rfl, rfl, hl⟩
    have tk : ∀ b' b'', bagPut (wu (bagPut w0 a r b') c (.lst (nl m))) a r b'' = wu (bagPut w0 a r b'') c (.lst (nl m)) := fun b' b'' => by rw [bag_comm (hB b') (hc2 b'), pp]
    have hO : ∀ b', BagAt (wu (bagPut w0 a r b') c (.lst (nl m))) a r b' := fun b' => (hB b').own (hc2 b')
    refine pgd_name (i := 5) nd rfl ?_
    refine pssd_cons (psd_set (i := 6) nd rfl ?_)
    refine pd_take hT (hr.mono (by decide)) (i := 0) rfl rfl (hO b') ?_
    refine pd_var (i := 1) rfl rfl ?_
    refine ⟨rfl, _, rfl, by omega, lg9' (by omega) (by omega), fun y b2 g2 g3 => ?_⟩
    rw [tk]
    obtain ⟨yn, rfl⟩ := Int.eq_ofNat_of_zero_le g2
    refine pssd_cons (psd_set (i := 7) nd rfl ?_)
    refine pd_take hT (hr.mono (by decide)) (i := 0) rfl rfl (hO b2) ?_
    refine pd_var (i := 1) rfl rfl ?_
    refine ⟨rfl, _, rfl, by omega, lg9' (by omega) (by omega), fun u b3 g4 g5 => ?_⟩
    rw [tk]
    obtain ⟨un, rfl⟩ := Int.eq_ofNat_of_zero_le g4
    obtain ⟨v, hv⟩ := at_lt (l := m) (i := un) (by omega)
    refine pssd_one (psd_sub set_list ?_)
    refine pd_ix ix_list ?_
    refine pd_var (i := 4) rfl rfl ?_
    refine pd_var (i := 7) rfl rfl ?_
    refine vr_ixO wu_same (nl_at hv) ?_
    refine pd_var (i := 4) rfl rfl ?_
    refine pd_var (i := 6) rfl rfl ?_
    refine vr_setO wu_same (by rw [nl_len]; omega) ?_
    rw [wu_wu]
    refine ⟨m.set yn v, b3, _, _, _, rfl, ?_, by rw [List.length_set]; exact hl⟩
    unfold nl
    rw [List.map_set]
  · rintro δ' w' ⟨m, b', x5, x6, x7, rfl, rfl, hl⟩
    refine pssd_one (psd_ret ?_)
    refine pd_frz ?_
    refine pd_var (i := 4) rfl rfl ?_
    refine ⟨c, _, rfl, wu_same, ?_⟩
    rw [wd_wu (hc2 b')]
    exact k m b' hl
theorem scLFar : FnScope ["rows", "last", "many", "case", "far", "turn", "marks", "near", "ways", "at"] ["rows", "last"] (defScope sLFar) := ⟨rfl, rfl, rfl, by decide +kernel, rfl, by decide +kernel, by decide +kernel⟩
theorem ok_lfar {f : Addr} {fd : FuncData} (G : Fun K "_law_far" "_law_far" sLFar f fd) (hm : Nm2 mg) (hmn : mg "min" = none) : FnOk P w K mg base CX0 2 f fd ["rows", "last"] (spOf K T spLFar) := by
  refine fnD G scLFar (fun ds w κ χ h => ?_) (fun cdv A outer s H E ds w0 κ χ hr h => ?_)
  · obtain ⟨n, rows, z, rfl, _⟩ := h
    rfl
  obtain ⟨n, rows, z, rfl, hne, hl, h12, hz, k⟩ := h
  have nd := scLFar.nd
  obtain ⟨r0, rest, er⟩ : ∃ r0 rest, rows = r0 :: rest := by
    cases rows with
    | nil => exact absurd rfl hne
    | cons a b => exact ⟨a, b, rfl⟩
  refine pssd_cons (psd_set (i := 2) nd rfl ?_)
  refine pd_callB call_len_seq rfl hm.len PySem.boot_len ?_
  refine pad_cons ?_
  refine pd_ix ix_list ?_
  refine pd_var (i := 0) rfl rfl ?_
  refine pd_int ?_
  refine vr_ixL (i := 0) (d := nats r0) (by rw [er]; rfl) ?_
  refine pad_nil ?_
  refine va_len ?_
  have e0 : (List.map (fun (k : Nat) => I (k : Int)) r0).length = n := by
    rw [List.length_map]
    exact hl r0 (by rw [er]; exact List.mem_cons_self ..)
  rw [e0]
  refine pssd_cons (psd_set (i := 4) nd rfl ?_)
  refine pd_lc (own := [("case", 3)]) (is := [3]) rfl nd (blkOk_by rfl) (by decide) ?_
  refine it_range hm.range ?_
  refine pd_var (i := 2) rfl rfl ?_
  refine ⟨n, rfl, by omega, ?_⟩
  refine lcd_ix (fun _ => true) (fun c => I (((if c = z then 0 else n : Nat)) : Int)) (by rw [ups_len]; exact small1000 (by omega)) (fun i d hd => ?_) ?_
  · obtain ⟨hi, rfl⟩ := ups_at hd
    intro s H0 C1 cl1 fp1
    refine pgl_name (i := 3) nd rfl ?_
    intro s H0 C1 cl1 fp1
    refine ptsd_nil ?_
    intro s H0 C1 cl1 fp1
    refine pd_if ?_
    refine ptd_cmp op_eq ?_
    refine pd_var (i := 3) rfl rfl ?_
    refine pd_var (i := 1) rfl rfl ?_
    refine vr_eq rfl ⟨_, rfl, ?_⟩
    rw [int_eq_dec]
    refine ite2 (fun q => ?_) (fun q => ?_)
    · refine pd_int ?_
      refine ⟨rfl, ?_, rfl⟩
      rw [if_pos (of_decide_eq_true q)]
      rfl
    · refine pd_var (i := 2) rfl rfl ?_
      refine ⟨rfl, ?_, rfl⟩
      rw [if_neg (by simpa using q)]
  have ef : D.lst (((List.range (ups n).length).filter fun _ => true).map fun c => I (((if c = z then 0 else n : Nat)) : Int)) = nats (far0 n z) := by
    rw [ups_len, List.filter_eq_self.mpr fun _ _ => rfl]
    unfold nats far0
    rw [List.map_map]
    rfl
  show PSsD _ _ _ _ _ (List.set _ 4 (some (D.lst (((List.range (ups n).length).filter fun _ => true).map fun c => I (((if c = z then 0 else n : Nat)) : Int))))) _ _
  rw [ef]
  refine pssd_cons (psd_for PassesOwn.never rfl ?_)
  refine it_range hm.range ?_
  refine pd_var (i := 2) rfl rfl ?_
  refine ⟨n, rfl, by omega, ?_⟩
  refine ⟨fun t δ' w' => ∃ (far : List Nat) (x3 x5 x6 x7 x8 : Option D), δ' = [some (rowsD rows), some (I (z : Int)), some (I (n : Int)), x3, some (nats far), x5, x6, x7, x8, none] ∧ w' = w0 ∧ RunsF n rows z t far, ⟨_, none, none, none, none, none, rfl, rfl, .zero⟩, ?_, ?_⟩
  · rintro t d δ' w' hd ⟨far, x3, x5, x6, x7, x8, rfl, rfl, hrun⟩
    have hfl := (runs_all hz hrun).1.len
    refine pgd_name (i := 5) nd rfl ?_
    refine pssd_one (psd_for PassesOwn.never rfl ?_)
    refine it_list ?_
    refine pd_var (i := 0) rfl rfl ?_
    refine ⟨_, rfl, ?_⟩
    refine ⟨fun i δ' w2 => ∃ (m : List Nat) (x3 x6 x7 x8 : Option D), δ' = [some (rowsD rows), some (I (z : Int)), some (I (n : Int)), x3, some (nats m), some d, x6, x7, x8, none] ∧ w2 = w' ∧ PassesF n (rows.take i) far m ∧ m.length = n, ⟨far, x3, x6, x7, x8, rfl, rfl, .nil _, hfl⟩, ?_, ?_⟩
    · rintro i e δ' w2 he ⟨m, x3, x6, x7, x8, rfl, rfl, hp, hml⟩
      rw [List.getElem?_map] at he
      cases ev : rows[i]? with
      | none =>
        rw [ev] at he
        cases he
      | some r =>
      rw [ev] at he
      cases he
      have hrl := hl r (List.mem_of_getElem? ev)
      refine pgd_name (i := 6) nd rfl ?_
      refine pssd_cons (psd_set (i := 7) nd rfl ?_)
      refine pd_lstO ?_
      refine pad_nil ?_
      refine ⟨Nat.zero_le _, fun c hc => ?_⟩
      refine pssd_cons (psd_for PassesOwn.never rfl ?_)
      refine it_range hm.range ?_
      refine pd_var (i := 2) rfl rfl ?_
      refine ⟨n, rfl, by omega, ?_⟩
      refine ⟨fun j δ' w3 => ∃ (u : List Nat) (x3 x8 : Option D), δ' = [some (rowsD rows), some (I (z : Int)), some (I (n : Int)), x3, some (nats m), some d, some (nats r), some (R c), x8, none] ∧ w3 = wu w2 c (.lst (nl u)) ∧ u.length = j ∧
        (∀ (q x : Nat), u[q]? = some x → (∃ i y : Nat, i < n ∧ r[i]? = r[q]? ∧ m[i]? = some y ∧ x = y + (if i = q then 0 else 1)) ∧ ∀ i y : Nat, i < n → r[i]? = r[q]? → m[i]? = some y → x ≤ y + (if i = q then 0 else 1)), ⟨[], x3, x8, rfl, rfl, rfl, fun q x h => by simp at h⟩, ?_, ?_⟩
      · rintro j d3 δ' w3 hd3 ⟨u, x3, x8, rfl, rfl, hul, inv⟩
        obtain ⟨hj, rfl⟩ := ups_at hd3
        obtain ⟨vj, hvj⟩ := at_lt (l := r) (i := j) (by omega)
        refine pgd_name (i := 3) nd rfl ?_
        refine pssd_cons ?_
        refine psd_setLc (i := 8) (own := [("at", 9)]) (is := [9]) rfl nd rfl rfl (sw_true rfl rfl rfl (by decide +kernel)) (blkOk_by rfl) (by decide) ?_
        refine it_range hm.range ?_
        refine pd_var (i := 2) rfl rfl ?_
        refine ⟨n, rfl, by omega, ?_⟩
        refine lcd_ix (fun p => decide (r[p]? = r[j]?)) (fun p => I (((m.getD p 0 + (if p = j then 0 else 1) : Nat)) : Int)) (by rw [ups_len]; exact small1000 (by omega)) (fun p d4 hd4 => ?_) ?_
        · obtain ⟨hp, rfl⟩ := ups_at hd4
          obtain ⟨vp, hvp⟩ := at_lt (l := r) (i := p) (by omega)
          obtain ⟨y, hy⟩ := at_lt (l := m) (i := p) (by omega)
          intro s H0 C1 cl1 fp1
          refine pgl_name (i := 9) nd rfl ?_
          intro s H0 C1 cl1 fp1
          refine ptsd_one ?_
          refine ptd_cmp op_eq ?_
          refine pd_ix ix_list ?_
          refine pd_var (i := 6) rfl rfl ?_
          refine pd_var (i := 9) rfl rfl ?_
          refine vr_ixL (nl_at hvp) ?_
          refine pd_ix ix_list ?_
          refine pd_var (i := 6) rfl rfl ?_
          refine pd_var (i := 3) rfl rfl ?_
          refine vr_ixL (nl_at hvj) ?_
          refine vr_eq rfl ⟨_, rfl, ?_⟩
          rw [int_eq_dec]
          have ed : decide (r[p]? = r[j]?) = decide (vp = vj) := by rw [hvp, hvj, some_eq_dec]
          refine ite2 (fun q => ?_) (fun q => ?_)
          · intro s H0 C1 cl1 fp1
            refine pd_op op_add ?_
            refine pd_ix ix_list ?_
            refine pd_var (i := 4) rfl rfl ?_
            refine pd_var (i := 9) rfl rfl ?_
            refine vr_ixL (nl_at hy) ?_
            refine pd_callTy call_int1 rfl hm.int bt_int ?_
            refine pad_cons ?_
            refine pd_cmp op_ne ?_
            refine pd_var (i := 9) rfl rfl ?_
            refine pd_var (i := 3) rfl rfl ?_
            refine vr_ne rfl ?_
            rw [ne_dec]
            refine pad_nil ?_
            refine va_intB ?_
            refine vr_I ?_
            refine ⟨by rw [ed]; exact q, ?_, rfl⟩
            rw [List.getD_eq_getElem?_getD, hy]
            by_cases w : p = j
            · rw [if_pos w, decide_eq_false (fun z => z w)]
              rfl
            · rw [if_neg w, decide_eq_true w]
              rfl
          · exact ⟨by rw [ed]; exact Bool.eq_false_iff.mpr q, rfl⟩
        rw [ups_len]
        have ei : ((List.range n).filter fun p => decide (r[p]? = r[j]?)).map (fun p => I (((m.getD p 0 + (if p = j then 0 else 1) : Nat)) : Int)) = (((List.range n).filter fun p => decide (r[p]? = r[j]?)).map fun p => (((m.getD p 0 + (if p = j then 0 else 1) : Nat)) : Int)).map I := by
          rw [List.map_map]
          rfl
        generalize hns : (((List.range n).filter fun p => decide (r[p]? = r[j]?)).map fun p => (((m.getD p 0 + (if p = j then 0 else 1) : Nat)) : Int)) = ns at ei
        rw [ei]
        have hself : ((m.getD j 0 + 0 : Nat) : Int) ∈ ns := by
          rw [← hns]
          refine List.mem_map.mpr ⟨j, List.mem_filter.mpr ⟨List.mem_range.mpr hj, decide_eq_true rfl⟩, ?_⟩
          rw [if_pos rfl]
        refine pssd_one (psd_expr ?_)
        refine pd_bm PySem.F.plainAttrs_list PySem.F.slot_list_append PySem.F.type_list_append mt_append ?_
        refine pd_var (i := 7) rfl rfl ?_
        refine ⟨⟨rfl, _, wu_same⟩, ?_⟩
        refine pad_cons ?_
        refine pd_callB (cr_min rfl) rfl hmn bt_min ?_
        refine pad_cons ?_
        refine pd_var (i := 8) rfl rfl ?_
        refine pad_nil ?_
        refine va_minI (List.length_pos_of_mem hself) fun mi hmi hle => ?_
        refine pad_nil ?_
        refine vm_append wu_same (by rw [nl_len]; exact small1000 (by omega)) ?_
        rw [wu_wu]
        have hmi' := hmi
        rw [← hns] at hmi'
        obtain ⟨p, hp, ep⟩ := List.mem_map.mp hmi'
        obtain ⟨hp1, hp2⟩ := List.mem_filter.mp hp
        have hpn := List.mem_range.mp hp1
        obtain ⟨y, hy⟩ := at_lt (l := m) (i := p) (by omega)
        subst ep
        refine ⟨u ++ [m.getD p 0 + (if p = j then 0 else 1)], _, _, rfl, by unfold nl; rw [List.map_append]; rfl, by rw [List.length_append, hul]; rfl, fun q x hx => ?_⟩
        by_cases hq : q < u.length
        · rw [List.getElem?_append_left hq] at hx
          exact inv q x hx
        · rw [List.getElem?_append_right (by omega)] at hx
          have eq : q = j := by
            have := (List.getElem?_eq_some_iff.mp hx).1
            simp at this
            omega
          subst eq
          rw [hul, Nat.sub_self] at hx
          have ex : m.getD p 0 + (if p = q then 0 else 1) = x := Option.some.inj hx
          subst ex
          refine ⟨⟨p, y, hpn, of_decide_eq_true hp2, hy, by rw [List.getD_eq_getElem?_getD, hy]; rfl⟩, fun i2 y2 h1 h2 h3 => ?_⟩
          have hin : (((m.getD i2 0 + (if i2 = q then 0 else 1) : Nat)) : Int) ∈ ns := by
            rw [← hns]
            exact List.mem_map.mpr ⟨i2, List.mem_filter.mpr ⟨List.mem_range.mpr h1, decide_eq_true h2⟩, rfl⟩
          have := hle _ hin
          rw [List.getD_eq_getElem?_getD (i := i2), h3] at this
          have g : (some y2).getD 0 = y2 := rfl
          rw [g] at this
          omega
      · rintro δ' w3 ⟨u, x3, x8, rfl, rfl, hul, inv⟩
        rw [ups_len] at hul
        refine pssd_one (psd_set (i := 4) nd rfl ?_)
        refine pd_frz ?_
        refine pd_var (i := 7) rfl rfl ?_
        refine ⟨c, _, rfl, wu_same, ?_⟩
        rw [wd_wu hc]
        have tk : rows.take (i + 1) = rows.take i ++ [r] := by
          rw [List.take_add_one, ev]
          rfl
        exact ⟨u, _, _, _, _, rfl, rfl, by rw [tk]; exact .snoc hp ⟨hul, fun c x h => (inv c x h).1, fun c x h => (inv c x h).2⟩, hul⟩
    · rintro δ' w2 ⟨m, x3, x6, x7, x8, rfl, rfl, hp, _⟩
      rw [List.length_map, List.take_length] at hp
      exact ⟨m, _, _, _, _, _, rfl, rfl, .succ hrun hp⟩
  · rintro δ' w' ⟨far, x3, x5, x6, x7, x8, rfl, rfl, hrun⟩
    rw [ups_len] at hrun
    refine pssd_one (psd_ret ?_)
    refine pd_var (i := 4) rfl rfl ?_
    exact k far (runs_far hz hrun)
end
end Tw

set_option Elab.async false
set_option linter.all false
set_option maxRecDepth 100000
set_option maxHeartbeats 2000000
/-! The law's chain, the reached cases, its two checks of papers, strange cases. -/
namespace Tw
open PySem PySem.Spec PyProof.Rows L2 LamX DL Mth Grf
abbrev sLCh : Stmt := top 33
abbrev sLRe : Stmt := top 34
abbrev sLChH : Stmt := top 35
abbrev sLIsH : Stmt := top 36
abbrev sLSg : Stmt := top 44
def bestD : Option (Nat × Nat) → D
  | none => N
  | some p => tp p
theorem bestD_non (o : Option (Nat × Nat)) : isV (bestD o) .non = o.isNone := by
  cases o <;> rfl
def spLCh : SpD := fun ds w κ χ => ∃ (n : Nat) (rows : List (List Nat)) (s z : Nat) (a : List Nat), ds = [rowsD rows, I (s : Int), I (z : Int)] ∧ rows ≠ [] ∧ (∀ r ∈ rows, r.length = n) ∧ n ≤ 12 ∧ rows.length ≤ 7 ∧ s < n ∧ z < n ∧ IsFar n rows z a ∧ (n ≤ Fa a s → κ N w) ∧
  (Fa a s < n → ∀ ch, ChR n rows (Fa a) z s ch → ch.length ≤ 12 → κ (.lst (ch.map tp)) w)
def spLRe : SpD := fun ds w κ χ => ∃ (n : Nat) (rows : List (List Nat)) (s : Nat) (a : List Nat), ds = [rowsD rows, I (s : Int)] ∧ rows ≠ [] ∧ (∀ r ∈ rows, r.length = n) ∧ n ≤ 12 ∧ s < n ∧ IsFar n rows s a ∧ κ (nats ((List.range n).filter fun c => decide (Fa a c < n))) w
def spLChH : SpD := fun ds w κ χ => ∃ (n : Nat) (rows : List (List Nat)) (s z : Nat) (ch : List (Int × Int)), ds = [rowsD rows, I (s : Int), I (z : Int), .lst (ch.map tpI)] ∧ rows ≠ [] ∧ (∀ r ∈ rows, r.length = n) ∧ n ≤ 12 ∧ s < n ∧ κ (B (chkC n rows z s ch)) w
def spLIsH : SpD := fun ds w κ χ => ∃ (n : Nat) (rows : List (List Nat)) (s z : Nat) (isl : List Int), ds = [rowsD rows, I (s : Int), I (z : Int), .lst (isl.map I)] ∧ rows ≠ [] ∧ (∀ r ∈ rows, r.length = n) ∧ n ≤ 12 ∧ isl.length ≤ 1000 ∧ κ (B (chkI n rows s z isl)) w
def spSg : SpD := fun ds w κ χ => ∃ a r b m, ds = [R a, I m] ∧ BagAt w a r b ∧ 0 < m ∧ m ≤ 1000 ∧ ∀ x b', (x < 0 ∨ m ≤ x) → x.natAbs.log2 < 1920 → κ (I x) (bagPut w a r b')
theorem vr_neInts {K : PySem.W.Frag} {T : List (Addr × Str)} {w : Wp} {κ : D → Wp → Prop} {a b : List Int} (k : κ (B (!decide (a = b))) w) : VR2 K T (rNeD K) (.lst (a.map I)) (.lst (b.map I)) w κ := by
  refine vr_neD (p := .list (a.map PyData.int)) (q := .list (b.map PyData.int)) (by show (pyDs (a.map I)).map PyData.list = _; rw [py_ints]; rfl) (by show (pyDs (b.map I)).map PyData.list = _; rw [py_ints]; rfl) (shaped_ints a) (shaped_ints b) ?_
  rw [eqv_ints]
  exact k
theorem nats_casts2 (m : List Nat) : nats m = .lst ((casts m).map I) := by
  show D.lst (nl m) = _
  rw [nl_casts]
theorem row_at {rows : List (List Nat)} {k : Nat} {r : List Nat} (h : rows[k]? = some r) : (rows.map nats)[k]? = some (nats r) := by
  rw [List.getElem?_map, h]
  rfl
section
variable {P : Program} {w : PySem.World} {K : PySem.W.Frag} {mg : Str → Option Value} {base : Heap} {T : List (Addr × Str)} {C CU CB CM : Addr}
theorem scLCh : FnScope ["rows", "start", "last", "far", "many", "chain", "here", "turn", "best", "k", "case"] ["rows", "start", "last"] (defScope sLCh) := ⟨rfl, rfl, rfl, by decide +kernel, rfl, by decide +kernel, by decide +kernel⟩
theorem ok_lch {f : Addr} {fd : FuncData} (G : Fun K "_law_chain" "_law_chain" sLCh f fd) (hm : Nm2 mg) (hF : HasF P w K mg base T CX0 "_law_far" 2 ["rows", "last"] spLFar) : FnOk P w K mg base CX0 3 f fd ["rows", "start", "last"] (spOf K T spLCh) := by
  refine fnD G scLCh (fun ds w κ χ h => ?_) (fun cdv A outer s H E ds w0 κ χ hr h => ?_)
  · obtain ⟨n, rows, s, z, a, rfl, _⟩ := h
    rfl
  obtain ⟨n, rows, s0, z, a, rfl, hne, hl, h12, h7, hs, hz, F, k1, k2⟩ := h
  have nd := scLCh.nd
  refine pssd_cons (psd_set (i := 3) nd rfl ?_)
  refine pd_has hF hr (fun _ => pass0At) ?_
  refine pad_cons ?_
  refine pd_var (i := 0) rfl rfl ?_
  refine pad_cons ?_
  refine pd_var (i := 2) rfl rfl ?_
  refine pad_nil ?_
  refine ⟨n, rows, z, rfl, hne, hl, h12, hz, fun far F' => ?_⟩
  have ef := F'.uniq F
  subst ef
  have hfl := F.len
  refine pssd_cons (psd_set (i := 4) nd rfl ?_)
  refine pd_callB call_len_seq rfl hm.len PySem.boot_len ?_
  refine pad_cons ?_
  refine pd_var (i := 3) rfl rfl ?_
  refine pad_nil ?_
  refine va_len ?_
  have e0 : (List.map (fun (k : Nat) => I (k : Int)) far).length = n := by
    rw [List.length_map]
    exact hfl
  rw [e0]
  refine pssd_cons (psd_if ?_)
  refine ptd_cmp op_ge ?_
  refine pd_ix ix_list ?_
  refine pd_var (i := 3) rfl rfl ?_
  refine pd_var (i := 1) rfl rfl ?_
  refine vr_ixL (nl_at (F.fa hs)) ?_
  refine pd_var (i := 4) rfl rfl ?_
  refine vr_I ⟨_, rfl, ?_⟩
  have eg : decide ((n : Int) ≤ (Fa far s0 : Int)) = decide (n ≤ Fa far s0) := decide_eq_decide.mpr (by omega)
  rw [eg]
  refine ite2 (fun c => ?_) (fun c => ?_)
  · refine pssd_one (psd_ret ?_)
    refine pd_non ?_
    exact k1 (of_decide_eq_true c)
  refine pssd_nil ?_
  have hFs : Fa far s0 < n := by simpa using c
  obtain ⟨ch, hch, lch⟩ := F.chain hz _ s0 hs rfl hFs
  refine pssd_cons (psd_set (i := 5) nd rfl ?_)
  refine pd_lstO ?_
  refine pad_nil ?_
  refine ⟨Nat.zero_le _, fun b hb => ?_⟩
  refine pssd_cons (psd_set (i := 6) nd rfl ?_)
  refine pd_var (i := 1) rfl rfl ?_
  refine pssd_cons (psd_for PassesOwn.never rfl ?_)
  refine it_range hm.range ?_
  refine pd_ix ix_list ?_
  refine pd_var (i := 3) rfl rfl ?_
  refine pd_var (i := 1) rfl rfl ?_
  refine vr_ixL (nl_at (F.fa hs)) ?_
  refine ⟨Fa far s0, rfl, by omega, ?_⟩
  refine ⟨fun i δ' w' => ∃ (here : Nat) (done left : List (Nat × Nat)) (x7 x8 x9 x10 : Option D), δ' = [some (rowsD rows), some (I (s0 : Int)), some (I (z : Int)), some (nats far), some (I (n : Int)), some (R b), some (I (here : Int)), x7, x8, x9, x10] ∧ w' = wu w0 b (.lst (done.map tp)) ∧ ch = done ++ left ∧ done.length = i ∧ ChR n rows (Fa far) z here left ∧ here < n ∧ Fa far here < n, ⟨s0, [], ch, none, none, none, none, rfl, rfl, rfl, rfl, hch, hs, hFs⟩, ?_, ?_⟩
  · rintro i d δ' w' hd ⟨here, done, left, x7, x8, x9, x10, rfl, rfl, ech, hdl, hc, hh, hFh⟩
    obtain ⟨hi, rfl⟩ := ups_at hd
    have hcl : ch.length = done.length + left.length := by rw [ech, List.length_append]
    refine pgd_name (i := 7) nd rfl ?_
    refine pssd_cons (psd_set (i := 8) nd rfl ?_)
    refine pd_non ?_
    refine pssd_cons (psd_for PassesOwn.never rfl ?_)
    refine it_range hm.range ?_
    refine pd_callB call_len_seq rfl hm.len PySem.boot_len ?_
    refine pad_cons ?_
    refine pd_var (i := 0) rfl rfl ?_
    refine pad_nil ?_
    refine va_len ?_
    rw [List.length_map]
    refine ⟨rows.length, rfl, by omega, ?_⟩
    refine ⟨fun k δ' w' => ∃ (x9 x10 : Option D), δ' = [some (rowsD rows), some (I (s0 : Int)), some (I (z : Int)), some (nats far), some (I (n : Int)), some (R b), some (I (here : Int)), some (I (i : Int)), some (bestD ((prs k n).find? fun p => Grf.same rows p.1 p.2 here && decide (Fa far p.2 < Fa far here))), x9, x10] ∧ w' = wu w0 b (.lst (done.map tp)), ⟨x9, x10, rfl, rfl⟩, ?_, ?_⟩
    · rintro k d δ' w' hd ⟨x9, x10, rfl, rfl⟩
      obtain ⟨hk, rfl⟩ := ups_at hd
      have ek : rows[k]? = some rows[k] := List.getElem?_eq_getElem hk
      generalize rows[k] = r at ek
      have hrl := hl r (List.mem_of_getElem? ek)
      have egd : rows.getD k [] = r := by
        rw [List.getD_eq_getElem?_getD, ek]
        rfl
      refine pgd_name (i := 9) nd rfl ?_
      refine pssd_one (psd_for PassesOwn.never rfl ?_)
      refine it_range hm.range ?_
      refine pd_var (i := 4) rfl rfl ?_
      refine ⟨n, rfl, by omega, ?_⟩
      refine ⟨fun j δ' w' => ∃ (x10 : Option D), δ' = [some (rowsD rows), some (I (s0 : Int)), some (I (z : Int)), some (nats far), some (I (n : Int)), some (R b), some (I (here : Int)), some (I (i : Int)), some (bestD ((prs k n ++ (List.range j).map fun c => (k, c)).find? fun p => Grf.same rows p.1 p.2 here && decide (Fa far p.2 < Fa far here))), some (I (k : Int)), x10] ∧ w' = wu w0 b (.lst (done.map tp)), ⟨x10, by rw [List.range_zero, List.map_nil, List.append_nil]; rfl, rfl⟩, ?_, ?_⟩
      · rintro j d δ' w' hd ⟨x10, rfl, rfl⟩
        obtain ⟨hj, rfl⟩ := ups_at hd
        obtain ⟨vj, hvj⟩ := at_lt (l := r) (i := j) (by omega)
        obtain ⟨vh, hvh⟩ := at_lt (l := r) (i := here) (by omega)
        have es : Grf.same rows k j here = decide (vj = vh) := by
          unfold Grf.same
          rw [egd, hvj, hvh, some_eq_dec]
        have nx : (prs k n ++ (List.range (j + 1)).map fun c => (k, c)).find? (fun p => Grf.same rows p.1 p.2 here && decide (Fa far p.2 < Fa far here)) = ((prs k n ++ (List.range j).map fun c => (k, c)).find? (fun p => Grf.same rows p.1 p.2 here && decide (Fa far p.2 < Fa far here))).or (if Grf.same rows k j here && decide (Fa far j < Fa far here) then some (k, j) else none) := by
          rw [List.range_succ, List.map_append, ← List.append_assoc, List.find?_append]
          congr 1
          show (match (Grf.same rows k j here && decide (Fa far j < Fa far here)) with | true => some (k, j) | false => none) = _
          cases (Grf.same rows k j here && decide (Fa far j < Fa far here)) <;> rfl
        generalize ((prs k n ++ (List.range j).map fun c => (k, c)).find? fun p => Grf.same rows p.1 p.2 here && decide (Fa far p.2 < Fa far here)) = o at nx ⊢
        refine pgd_name (i := 10) nd rfl ?_
        refine pssd_one (psd_if ?_)
        refine pwd_pt ?_
        refine pwd_and ?_
        refine ptd_cmp op_isN ?_
        refine pd_var (i := 8) rfl rfl ?_
        refine pd_non ?_
        refine vr_isN ⟨_, rfl, ?_⟩
        rw [bestD_non]
        cases o with
        | some p => exact iteF (pssd_nil ⟨_, by rw [nx]; rfl, rfl⟩)
        | none =>
        refine iteT ?_
        refine pwd_and ?_
        refine ptd_cmp op_eq ?_
        refine pd_ix ix_list ?_
        refine pd_ix ix_list ?_
        refine pd_var (i := 0) rfl rfl ?_
        refine pd_var (i := 9) rfl rfl ?_
        refine vr_ixL (row_at ek) ?_
        refine pd_var (i := 10) rfl rfl ?_
        refine vr_ixL (nl_at hvj) ?_
        refine pd_ix ix_list ?_
        refine pd_ix ix_list ?_
        refine pd_var (i := 0) rfl rfl ?_
        refine pd_var (i := 9) rfl rfl ?_
        refine vr_ixL (row_at ek) ?_
        refine pd_var (i := 6) rfl rfl ?_
        refine vr_ixL (nl_at hvh) ?_
        refine vr_eq rfl ⟨_, rfl, ?_⟩
        rw [int_eq_dec, ← es]
        cases q1 : Grf.same rows k j here with
        | false => exact iteF (pssd_nil ⟨_, by rw [nx, q1]; rfl, rfl⟩)
        | true =>
        refine iteT ?_
        refine pwd_and1 ?_
        refine ptd_cmp op_lt ?_
        refine pd_ix ix_list ?_
        refine pd_var (i := 3) rfl rfl ?_
        refine pd_var (i := 10) rfl rfl ?_
        refine vr_ixL (nl_at (F.fa hj)) ?_
        refine pd_ix ix_list ?_
        refine pd_var (i := 3) rfl rfl ?_
        refine pd_var (i := 6) rfl rfl ?_
        refine vr_ixL (nl_at (F.fa hh)) ?_
        refine vr_I ⟨_, rfl, ?_⟩
        have el : decide ((Fa far j : Int) < (Fa far here : Int)) = decide (Fa far j < Fa far here) := decide_eq_decide.mpr (by omega)
        rw [el]
        cases q2 : decide (Fa far j < Fa far here) with
        | false => exact iteF (pssd_nil ⟨_, by rw [nx, q1, q2]; rfl, rfl⟩)
        | true =>
        refine iteT ?_
        refine pssd_one (psd_set (i := 8) nd rfl ?_)
        refine pd_tup ?_
        refine pad_cons ?_
        refine pd_var (i := 9) rfl rfl ?_
        refine pad_cons ?_
        refine pd_var (i := 10) rfl rfl ?_
        refine pad_nil ?_
        exact ⟨by show 2 ≤ sizeLine; decide, _, by rw [nx, q1, q2]; rfl, rfl⟩
      · rintro δ' w' ⟨x10, rfl, rfl⟩
        refine ⟨some (I (k : Int)), x10, ?_, rfl⟩
        rw [ups_len]
        have ep : prs (k + 1) n = prs k n ++ (List.range n).map fun c => (k, c) := by
          unfold prs
          rw [List.range_succ, List.flatMap_append]
          simp
        rw [ep]
    · rintro δ' w' ⟨x9, x10, rfl, rfl⟩
      rw [ups_len]
      cases hc with
      | nil =>
        simp at hcl
        omega
      | @cons _ k c0 l _ hb0 hl0 =>
        obtain ⟨_, hc0, _, hlt⟩ := best_props hb0
        have hb1 : ((prs rows.length n).find? fun p => Grf.same rows p.1 p.2 here && decide (Fa far p.2 < Fa far here)) = some (k, c0) := hb0
        rw [hb1]
        refine pssd_cons (psd_expr ?_)
        refine pd_bm PySem.F.plainAttrs_list PySem.F.slot_list_append PySem.F.type_list_append mt_append ?_
        refine pd_var (i := 5) rfl rfl ?_
        refine ⟨⟨rfl, _, wu_same⟩, ?_⟩
        refine pad_cons ?_
        refine pd_var (i := 8) rfl rfl ?_
        refine pad_nil ?_
        refine vm_append wu_same (by rw [List.length_map]; exact small1000 (by omega)) ?_
        rw [wu_wu]
        refine pssd_one (psd_set (i := 6) nd rfl ?_)
        refine pd_ix ix_tup ?_
        refine pd_var (i := 8) rfl rfl ?_
        refine pd_int ?_
        refine vr_ixT (i := 1) (d := I (c0 : Int)) rfl ?_
        exact ⟨c0, done ++ [(k, c0)], l, _, _, _, _, rfl, by rw [List.map_append]; rfl, by rw [ech, List.append_assoc]; rfl, by rw [List.length_append, hdl]; rfl, hl0, hc0, by omega⟩
  · rintro δ' w' ⟨here, done, left, x7, x8, x9, x10, rfl, rfl, ech, hdl, hc, hh, hFh⟩
    rw [ups_len] at hdl
    have hcl : ch.length = done.length + left.length := by rw [ech, List.length_append]
    have e2 : left = [] := List.length_eq_zero_iff.mp (by omega)
    subst e2
    rw [List.append_nil] at ech
    subst ech
    refine pssd_one (psd_ret ?_)
    refine pd_frz ?_
    refine pd_var (i := 5) rfl rfl ?_
    refine ⟨b, _, rfl, wu_same, ?_⟩
    rw [wd_wu hb]
    exact k2 hFs _ hch (by omega)
theorem scLRe : FnScope ["rows", "start", "far", "case"] ["rows", "start"] (defScope sLRe) := ⟨rfl, rfl, rfl, by decide +kernel, rfl, by decide +kernel, by decide +kernel⟩
theorem ok_lre {f : Addr} {fd : FuncData} (G : Fun K "_law_reached" "_law_reached" sLRe f fd) (hm : Nm2 mg) (hF : HasF P w K mg base T CX0 "_law_far" 2 ["rows", "last"] spLFar) : FnOk P w K mg base CX0 3 f fd ["rows", "start"] (spOf K T spLRe) := by
  refine fnD G scLRe (fun ds w κ χ h => ?_) (fun cdv A outer s H E ds w0 κ χ hr h => ?_)
  · obtain ⟨n, rows, s, a, rfl, _⟩ := h
    rfl
  obtain ⟨n, rows, s0, a, rfl, hne, hl, h12, hs, F, k⟩ := h
  have nd := scLRe.nd
  refine pssd_cons (psd_set (i := 2) nd rfl ?_)
  refine pd_has hF hr (fun _ => pass0At) ?_
  refine pad_cons ?_
  refine pd_var (i := 0) rfl rfl ?_
  refine pad_cons ?_
  refine pd_var (i := 1) rfl rfl ?_
  refine pad_nil ?_
  refine ⟨n, rows, s0, rfl, hne, hl, h12, hs, fun far F' => ?_⟩
  have ef := F'.uniq F
  subst ef
  have e0 : (List.map (fun (k : Nat) => I (k : Int)) far).length = n := by
    rw [List.length_map]
    exact F.len
  refine pssd_one (psd_ret ?_)
  refine pd_lc (own := [("case", 3)]) (is := [3]) rfl nd (blkOk_by rfl) (by decide) ?_
  refine it_range hm.range ?_
  refine pd_callB call_len_seq rfl hm.len PySem.boot_len ?_
  refine pad_cons ?_
  refine pd_var (i := 2) rfl rfl ?_
  refine pad_nil ?_
  refine va_len ?_
  rw [e0]
  refine ⟨n, rfl, by omega, ?_⟩
  refine lcd_ix (fun c => decide (Fa far c < n)) (fun c => I (c : Int)) (by rw [ups_len]; exact small1000 (by omega)) (fun i d hd => ?_) (by rw [ups_len]; exact k)
  obtain ⟨hi, rfl⟩ := ups_at hd
  intro s H0 C1 cl1 fp1
  refine pgl_name (i := 3) nd rfl ?_
  intro s H0 C1 cl1 fp1
  refine ptsd_one ?_
  refine ptd_cmp op_lt ?_
  refine pd_ix ix_list ?_
  refine pd_var (i := 2) rfl rfl ?_
  refine pd_var (i := 3) rfl rfl ?_
  refine vr_ixL (nl_at (F.fa hi)) ?_
  refine pd_callB call_len_seq rfl hm.len PySem.boot_len ?_
  refine pad_cons ?_
  refine pd_var (i := 2) rfl rfl ?_
  refine pad_nil ?_
  refine va_len ?_
  rw [e0]
  refine vr_I ⟨_, rfl, ?_⟩
  have el : decide ((Fa far i : Int) < (n : Int)) = decide (Fa far i < n) := decide_eq_decide.mpr (by omega)
  rw [el]
  refine ite2 (fun q => ?_) (fun q => ?_)
  · intro s H0 C1 cl1 fp1
    refine pd_var (i := 3) rfl rfl ?_
    exact ⟨q, rfl, rfl⟩
  · exact ⟨Bool.eq_false_iff.mpr q, rfl⟩
theorem scLChH : FnScope ["rows", "start", "last", "chain", "here", "step"] ["rows", "start", "last", "chain"] (defScope sLChH) := ⟨rfl, rfl, rfl, by decide +kernel, rfl, by decide +kernel, by decide +kernel⟩
theorem inB_dec {x : Int} {m : Nat} : inB x m = (decide (0 ≤ x) && decide (x < (m : Int))) := rfl
theorem ok_lchh {f : Addr} {fd : FuncData} (G : Fun K "_law_chain_holds" "_law_chain_holds" sLChH f fd) (hm : Nm2 mg) : FnOk P w K mg base CX0 1 f fd ["rows", "start", "last", "chain"] (spOf K T spLChH) := by
  refine fnD G scLChH (fun ds w κ χ h => ?_) (fun cdv A outer s H E ds w0 κ χ hr h => ?_)
  · obtain ⟨n, rows, s, z, ch, rfl, _⟩ := h
    rfl
  obtain ⟨n, rows, s0, z, ch, rfl, hne, hl, h12, hs, hk⟩ := h
  have nd := scLChH.nd
  obtain ⟨r0, rest, er⟩ : ∃ r0 rest, rows = r0 :: rest := by
    cases rows with
    | nil => exact absurd rfl hne
    | cons a b => exact ⟨a, b, rfl⟩
  have e0 : (List.map (fun (k : Nat) => I (k : Int)) r0).length = n := by
    rw [List.length_map]
    exact hl r0 (by rw [er]; exact List.mem_cons_self ..)
  refine pssd_cons (psd_set (i := 4) nd rfl ?_)
  refine pd_var (i := 1) rfl rfl ?_
  refine pssd_cons (psd_for PassesOwn.never rfl ?_)
  refine it_list ?_
  refine pd_var (i := 3) rfl rfl ?_
  refine ⟨_, rfl, ?_⟩
  refine ⟨fun i δ' w' => ∃ (here : Nat) (x5 : Option D), δ' = [some (rowsD rows), some (I (s0 : Int)), some (I (z : Int)), some (.lst (ch.map tpI)), some (I (here : Int)), x5] ∧ w' = w0 ∧ here < n ∧ chkC n rows z here (ch.drop i) = chkC n rows z s0 ch, ⟨s0, none, rfl, rfl, hs, rfl⟩, ?_, ?_⟩
  · rintro i d δ' w' hd ⟨here, x5, rfl, rfl, hh, ec⟩
    rw [List.getElem?_map] at hd
    cases e : ch[i]? with
    | none =>
      rw [e] at hd
      cases hd
    | some p =>
    rw [e] at hd
    cases hd
    obtain ⟨pk, po⟩ := p
    obtain ⟨hi, ei⟩ := List.getElem?_eq_some_iff.mp e
    have ed : ch.drop i = (pk, po) :: ch.drop (i + 1) := by rw [List.drop_eq_getElem_cons hi, ei]
    rw [ed] at ec
    have ech : chkC n rows z here ((pk, po) :: ch.drop (i + 1)) = (if inB pk rows.length && inB po n then (if Grf.same rows pk.toNat here po.toNat then chkC n rows z po.toNat (ch.drop (i + 1)) else false) else false) := rfl
    rw [ech] at ec
    refine pgd_name (i := 5) nd rfl ?_
    have out : false = chkC n rows z s0 ch → κ (B false) w' := fun q => by
      rw [q]
      exact hk
    refine pssd_cons (psd_if ?_)
    refine pwd_pt ?_
    refine pwd_or ?_
    refine ptd_not ?_
    refine ptd_chain op_le op_lt ?_
    refine pd_int ?_
    refine pd_ix ix_tup ?_
    refine pd_var (i := 5) rfl rfl ?_
    refine pd_int ?_
    refine vr_ixT (i := 0) (d := I pk) rfl ?_
    refine vr_I ⟨_, rfl, ?_⟩
    by_cases c1 : (0 : Int) ≤ pk
    · rw [decide_eq_true c1, if_pos rfl]
      refine pd_callB call_len_seq rfl hm.len PySem.boot_len ?_
      refine pad_cons ?_
      refine pd_var (i := 0) rfl rfl ?_
      refine pad_nil ?_
      refine va_len ?_
      rw [List.length_map]
      refine vr_I ⟨_, rfl, ?_⟩
      by_cases c2 : pk < (rows.length : Int)
      · rw [decide_eq_true c2]
        refine iteF ?_
        refine pwd_or1 ?_
        refine ptd_not ?_
        refine ptd_chain op_le op_lt ?_
        refine pd_int ?_
        refine pd_ix ix_tup ?_
        refine pd_var (i := 5) rfl rfl ?_
        refine pd_int ?_
        refine vr_ixT (i := 1) (d := I po) rfl ?_
        refine vr_I ⟨_, rfl, ?_⟩
        have b1 : inB pk rows.length = true := by
          rw [inB_dec, decide_eq_true c1, decide_eq_true c2]
          rfl
        rw [b1, Bool.true_and] at ec
        by_cases c3 : (0 : Int) ≤ po
        · rw [decide_eq_true c3, if_pos rfl]
          refine pd_callB call_len_seq rfl hm.len PySem.boot_len ?_
          refine pad_cons ?_
          refine pd_ix ix_list ?_
          refine pd_var (i := 0) rfl rfl ?_
          refine pd_int ?_
          refine vr_ixL (i := 0) (d := nats r0) (by rw [er]; rfl) ?_
          refine pad_nil ?_
          refine va_len ?_
          rw [e0]
          refine vr_I ⟨_, rfl, ?_⟩
          by_cases c4 : po < (n : Int)
          · rw [decide_eq_true c4]
            refine iteF ?_
            refine pssd_nil ?_
            have b2 : inB po n = true := by
              rw [inB_dec, decide_eq_true c3, decide_eq_true c4]
              rfl
            rw [b2, if_pos rfl] at ec
            obtain ⟨kn, rfl⟩ := Int.eq_ofNat_of_zero_le c1
            obtain ⟨on, rfl⟩ := Int.eq_ofNat_of_zero_le c3
            rw [Int.toNat_natCast, Int.toNat_natCast] at ec
            have hkn : kn < rows.length := by omega
            have ek : rows[kn]? = some rows[kn] := List.getElem?_eq_getElem hkn
            generalize rows[kn] = r at ek
            have hrl := hl r (List.mem_of_getElem? ek)
            have egd : rows.getD kn [] = r := by
              rw [List.getD_eq_getElem?_getD, ek]
              rfl
            obtain ⟨vo, hvo⟩ := at_lt (l := r) (i := on) (by omega)
            obtain ⟨vh, hvh⟩ := at_lt (l := r) (i := here) (by omega)
            have es : Grf.same rows kn here on = decide (vh = vo) := by
              unfold Grf.same
              rw [egd, hvo, hvh, some_eq_dec]
            refine pssd_cons (psd_if ?_)
            refine ptd_cmp op_ne ?_
            refine pd_ix ix_list ?_
            refine pd_ix ix_list ?_
            refine pd_var (i := 0) rfl rfl ?_
            refine pd_ix ix_tup ?_
            refine pd_var (i := 5) rfl rfl ?_
            refine pd_int ?_
            refine vr_ixT (i := 0) (d := I (kn : Int)) rfl ?_
            refine vr_ixL (row_at ek) ?_
            refine pd_var (i := 4) rfl rfl ?_
            refine vr_ixL (nl_at hvh) ?_
            refine pd_ix ix_list ?_
            refine pd_ix ix_list ?_
            refine pd_var (i := 0) rfl rfl ?_
            refine pd_ix ix_tup ?_
            refine pd_var (i := 5) rfl rfl ?_
            refine pd_int ?_
            refine vr_ixT (i := 0) (d := I (kn : Int)) rfl ?_
            refine vr_ixL (row_at ek) ?_
            refine pd_ix ix_tup ?_
            refine pd_var (i := 5) rfl rfl ?_
            refine pd_int ?_
            refine vr_ixT (i := 1) (d := I (on : Int)) rfl ?_
            refine vr_ixL (nl_at hvo) ?_
            refine vr_ne rfl ⟨_, rfl, ?_⟩
            rw [int_eq_dec, ← es]
            cases q : Grf.same rows kn here on with
            | false =>
              rw [q, if_neg Bool.false_ne_true] at ec
              refine iteT ?_
              refine pssd_one (psd_ret ?_)
              refine pd_bl ?_
              exact out ec
            | true =>
              rw [q, if_pos rfl] at ec
              refine iteF ?_
              refine pssd_nil ?_
              refine pssd_one (psd_set (i := 4) nd rfl ?_)
              refine pd_ix ix_tup ?_
              refine pd_var (i := 5) rfl rfl ?_
              refine pd_int ?_
              refine vr_ixT (i := 1) (d := I (on : Int)) rfl ?_
              exact ⟨on, _, rfl, rfl, by omega, ec⟩
          · rw [decide_eq_false c4]
            refine iteT ?_
            refine pssd_one (psd_ret ?_)
            refine pd_bl ?_
            rw [inB_dec, decide_eq_false c4, Bool.and_false, if_neg Bool.false_ne_true] at ec
            exact out ec
        · rw [decide_eq_false c3, if_neg Bool.false_ne_true]
          refine iteT ?_
          refine pssd_one (psd_ret ?_)
          refine pd_bl ?_
          rw [inB_dec, decide_eq_false c3, Bool.false_and, if_neg Bool.false_ne_true] at ec
          exact out ec
      · rw [decide_eq_false c2]
        refine iteT ?_
        refine iteT ?_
        refine pssd_one (psd_ret ?_)
        refine pd_bl ?_
        rw [inB_dec (x := pk), decide_eq_false c2, Bool.and_false, Bool.false_and, if_neg Bool.false_ne_true] at ec
        exact out ec
    · rw [decide_eq_false c1, if_neg Bool.false_ne_true]
      refine iteT ?_
      refine iteT ?_
      refine pssd_one (psd_ret ?_)
      refine pd_bl ?_
      rw [inB_dec (x := pk), decide_eq_false c1, Bool.false_and, Bool.false_and, if_neg Bool.false_ne_true] at ec
      exact out ec
  · rintro δ' w' ⟨here, x5, rfl, rfl, hh, ec⟩
    rw [List.length_map, List.drop_length] at ec
    refine pssd_one (psd_ret ?_)
    refine pd_cmp op_eq ?_
    refine pd_var (i := 4) rfl rfl ?_
    refine pd_var (i := 2) rfl rfl ?_
    refine vr_eq rfl ?_
    rw [int_eq_dec]
    have e2 : chkC n rows z here [] = decide (here = z) := rfl
    rw [← e2, ec]
    exact hk
theorem scSg : FnScope ["bag", "many", "way"] ["bag", "many"] (defScope sLSg) := ⟨rfl, rfl, rfl, by decide +kernel, rfl, by decide +kernel, by decide +kernel⟩
theorem ok_sg {f : Addr} {fd : FuncData} (G : Fun K "_law_strange" "_law_strange" sLSg f fd) (hm : Nm2 mg) (hT : HasF P w K mg base T CX0 "_law_take" 1 ["bag", "many"] spTake) : FnOk P w K mg base CX0 2 f fd ["bag", "many"] (spOf K T spSg) := by
  refine fnD G scSg (fun ds w κ χ h => ?_) (fun cdv A outer s H E ds w0 κ χ hr h => ?_)
  · obtain ⟨a, r, b, m, rfl, _⟩ := h
    rfl
  obtain ⟨a, r, b, m, rfl, hb, hm0, hm1, k⟩ := h
  have nd := scSg.nd
  refine pssd_cons (psd_set (i := 2) nd rfl ?_)
  (refine pd_take hT hr (i := 0) rfl rfl hb ?_)
  refine pd_int ?_
  refine ⟨rfl, _, rfl, by decide, by decide, fun way b1 h0 h1 => ?_⟩
  have hb1 := bag_put (w := w0) (b := b1) hb.ne
  refine pssd_cons (psd_if ?_)
  refine ptd_cmp op_eq ?_
  refine pd_var (i := 2) rfl rfl ?_
  refine pd_int ?_
  refine vr_eq rfl ⟨_, rfl, ?_⟩
  refine ite2 (fun c => ?_) (fun c => ?_)
  · refine pssd_one (psd_ret ?_)
    refine pd_op op_add ?_
    refine pd_var (i := 1) rfl rfl ?_
    (refine pd_take hT hr (i := 0) rfl rfl hb1 ?_)
    refine pd_int ?_
    refine ⟨rfl, _, rfl, by decide, by decide, fun x b2 h2 h3 => ?_⟩
    refine vr_I ?_
    rw [bag_put2 hb.ne]
    exact k _ b2 (.inr (by omega)) (log_of (Nat.lt_of_lt_of_le (by omega : _ < 2000) (by decide)))
  refine pssd_nil ?_
  refine pssd_cons (psd_if ?_)
  refine ptd_cmp op_eq ?_
  refine pd_var (i := 2) rfl rfl ?_
  refine pd_int ?_
  refine vr_eq rfl ⟨_, rfl, ?_⟩
  refine ite2 (fun c => ?_) (fun c => ?_)
  · refine pssd_one (psd_ret ?_)
    refine pd_op op_sub ?_
    refine pd_un un_neg ?_
    refine pd_int ?_
    refine vr_U ?_
    (refine pd_take hT hr (i := 0) rfl rfl hb1 ?_)
    refine pd_var (i := 1) rfl rfl ?_
    refine ⟨rfl, _, rfl, hm0, Nat.lt_trans (log_of (Nat.lt_of_lt_of_le (by omega : _ < 2000) (by decide))) (by decide), fun x b2 h2 h3 => ?_⟩
    refine vr_I ?_
    rw [bag_put2 hb.ne]
    exact k _ b2 (.inl (by omega)) (log_of (Nat.lt_of_lt_of_le (by omega : _ < 2000) (by decide)))
  refine pssd_nil ?_
  refine pssd_cons (psd_if ?_)
  refine ptd_cmp op_eq ?_
  refine pd_var (i := 2) rfl rfl ?_
  refine pd_int ?_
  refine vr_eq rfl ⟨_, rfl, ?_⟩
  refine ite2 (fun c => ?_) (fun c => ?_)
  · refine pssd_one (psd_ret ?_)
    refine pd_op op_sub ?_
    refine pd_op op_sub ?_
    (refine pd_op op_pow ?_; refine pd_int ?_; refine pd_int ?_; refine vr_IC ⟨by decide, by decide, by decide⟩ ?_)
    refine pd_int ?_
    refine vr_I ?_
    (refine pd_take hT hr (i := 0) rfl rfl hb1 ?_)
    refine pd_int ?_
    refine ⟨rfl, _, rfl, by decide, by decide, fun x b2 h2 h3 => ?_⟩
    refine vr_I ?_
    rw [bag_put2 hb.ne]
    have e40 : ((10 : Int) ^ (40 : Int).toNat) = 10000000000000000000000000000000000000000 := by decide
    rw [e40]
    exact k _ b2 (.inr (by omega)) (log_of (Nat.lt_of_lt_of_le (by omega : _ < 20000000000000000000000000000000000000000) (by decide)))
  refine pssd_nil ?_
  refine pssd_one (psd_ret ?_)
  refine pd_op op_add ?_
  refine pd_op op_sub ?_
  refine pd_int ?_
  (refine pd_op op_pow ?_; refine pd_int ?_; refine pd_int ?_; refine vr_IC ⟨by decide, by decide, by decide⟩ ?_)
  refine vr_I ?_
  (refine pd_take hT hr (i := 0) rfl rfl hb1 ?_)
  refine pd_int ?_
  refine ⟨rfl, _, rfl, by decide, by decide, fun x b2 h2 h3 => ?_⟩
  refine vr_I ?_
  rw [bag_put2 hb.ne]
  have e40 : ((10 : Int) ^ (40 : Int).toNat) = 10000000000000000000000000000000000000000 := by decide
  rw [e40]
  exact k _ b2 (.inl (by omega)) (log_of (Nat.lt_of_lt_of_le (by omega : _ < 20000000000000000000000000000000000000000) (by decide)))
end
end Tw

set_option Elab.async false
set_option linter.all false
set_option maxRecDepth 100000
set_option maxHeartbeats 2000000
/-! The law's check of islands; drawn and bent papers. -/
namespace DL
open PySem PySem.Spec PyProof.Rows L2 LamX
section
variable {X : Cx} {T : List (Addr × Str)} {W : WX} {χ : XD} {δ : Dn} {w : Wp} {pos : Pos}
theorem psd_cut {st : Stmt} {C : DL.Fin} (J : Dn → Wp → Prop) (h : PSD X T W χ st δ w { C with nx := J }) (k : ∀ δ' w', J δ' w' → C.nx δ' w') : PSD X T W χ st δ w C := fun F σ S H E hE hW hX hK => h F σ S H E hE hW hX ⟨fun δ' w' σ' S' H' j s1 e W1 => hK.nx δ' w' σ' S' H' (k _ _ j) s1 e W1, hK.rt, hK.bk, hK.ct⟩
end
end DL
namespace Tw
open PySem PySem.Spec PyProof.Rows L2 LamX DL Mth Grf
abbrev sLSt : Stmt := top 37
abbrev sLBs : Stmt := top 38
abbrev sLBi : Stmt := top 39
def spLSt : SpD := fun ds w κ χ => ∃ (a r : Addr) (b : Bag) (n : Nat) (rows : List (List Nat)) (s z : Nat), ds = [R a, rowsD rows, I (s : Int), I (z : Int)] ∧ BagAt w a r b ∧ rows ≠ [] ∧ (∀ r ∈ rows, r.length = n) ∧ n ≤ 12 ∧ rows.length ≤ 7 ∧ s < n ∧ z < n ∧
  ∀ (l : List (Int × Int)) (b' : Bag), l.length ≤ 20 → κ (.lst (l.map tpI)) (bagPut w a r b')
def spLBs : SpD := fun ds w κ χ => ∃ (a r : Addr) (b : Bag) (n : Nat) (rows : List (List Nat)) (l : List (Int × Int)), ds = [R a, rowsD rows, .lst (l.map tpI)] ∧ BagAt w a r b ∧ rows ≠ [] ∧ (∀ r ∈ rows, r.length = n) ∧ 1 ≤ n ∧ n ≤ 12 ∧ rows.length ≤ 7 ∧ l.length ≤ 100 ∧
  ∀ (l' : List (Int × Int)) (b' : Bag), l'.length ≤ l.length + 1 → κ (.lst (l'.map tpI)) (bagPut w a r b')
def spLBi : SpD := fun ds w κ χ => ∃ (a r : Addr) (b : Bag) (n : Nat) (l : List Int), ds = [R a, I (n : Int), .lst (l.map I)] ∧ BagAt w a r b ∧ 1 ≤ n ∧ n ≤ 12 ∧ l.length ≤ 100 ∧
  ∀ (l' : List Int) (b' : Bag), l'.length ≤ l.length + 2 → κ (.lst (l'.map I)) (bagPut w a r b')
theorem all_filter {α : Type} {p : α → Bool} : ∀ {l : List α}, decide (l.filter p = []) = l.all fun x => !p x := by
  intro l
  rw [Bool.eq_iff_iff, decide_eq_true_eq, List.filter_eq_nil_iff, List.all_eq_true]
  refine ⟨fun h x hx => ?_, fun h x hx => ?_⟩
  · have := h x hx
    cases q : p x with
    | true => exact absurd q this
    | false => rfl
  · have := h x hx
    cases q : p x with
    | true =>
      rw [q] at this
      cases this
    | false => exact Bool.false_ne_true
theorem map_nil_dec {α β : Type} [DecidableEq β] [DecidableEq α] {f : α → β} {l : List α} : decide (l.map f = []) = decide (l = []) := decide_eq_decide.mpr List.map_eq_nil_iff
theorem tp_cast (ch : List (Nat × Nat)) : D.lst (ch.map tp) = .lst ((castP ch).map tpI) := by
  unfold castP
  rw [List.map_map]
  rfl
theorem take_map {α : Type} {f : α → D} (l : List α) (n : Nat) : (l.map f).take n = (l.take n).map f := List.map_take.symm
theorem drop_map {α : Type} {f : α → D} (l : List α) (n : Nat) : (l.map f).drop n = (l.drop n).map f := List.map_drop.symm
section
variable {P : Program} {w : PySem.World} {K : PySem.W.Frag} {mg : Str → Option Value} {base : Heap} {T : List (Addr × Str)} {C CU CB CM : Addr}
theorem scLIsH : FnScope ["rows", "start", "last", "island", "many", "marks", "inside", "case"] ["rows", "start", "last", "island"] (defScope sLIsH) := ⟨rfl, rfl, rfl, by decide +kernel, rfl, by decide +kernel, by decide +kernel⟩
theorem ok_lish {f : Addr} {fd : FuncData} (G : Fun K "_law_island_holds" "_law_island_holds" sLIsH f fd) (hm : Nm2 mg) : FnOk P w K mg base CX0 1 f fd ["rows", "start", "last", "island"] (spOf K T spLIsH) := by
  refine fnD G scLIsH (fun ds w κ χ h => ?_) (fun cdv A outer s H E ds w0 κ χ hr h => ?_)
  · obtain ⟨n, rows, s, z, isl, rfl, _⟩ := h
    rfl
  obtain ⟨n, rows, s0, z, isl, rfl, hne, hl, h12, hz, hk⟩ := h
  have nd := scLIsH.nd
  have hu := Nat.lt_of_le_of_lt (Nat.add_le_add_left (show 1 ≤ 64 by decide) _) hr.units
  have hu2 := hr.units
  obtain ⟨r0, rest, er⟩ : ∃ r0 rest, rows = r0 :: rest := by
    cases rows with
    | nil => exact absurd rfl hne
    | cons a b => exact ⟨a, b, rfl⟩
  have e0 : (List.map (fun (k : Nat) => I (k : Int)) r0).length = n := by
    rw [List.length_map]
    exact hl r0 (by rw [er]; exact List.mem_cons_self ..)
  refine pssd_cons (psd_set (i := 4) nd rfl ?_)
  refine pd_callB call_len_seq rfl hm.len PySem.boot_len ?_
  refine pad_cons ?_
  refine pd_ix ix_list ?_
  refine pd_var (i := 0) rfl rfl ?_
  refine pd_int ?_
  refine vr_ixL (i := 0) (d := nats r0) (by rw [er]; rfl) ?_
  refine pad_nil ?_
  refine va_len ?_
  rw [e0]
  refine pssd_cons (psd_if ?_)
  refine ptd_cmp (op_neD hu2) ?_
  refine pd_lc (own := [("case", 7)]) (is := [7]) rfl nd (blkOk_by rfl) (by decide) ?_
  refine it_list ?_
  refine pd_var (i := 3) rfl rfl ?_
  refine ⟨_, rfl, ?_⟩
  refine lcd_filter (xs := isl) (g := I) (fun c => !inB c n) I (small1000 hz) (fun x hx s H0 C1 cl1 fp1 => ?_) ?_
  · refine pgl_name (i := 7) nd rfl ?_
    intro s H0 C1 cl1 fp1
    refine ptsd_one ?_
    refine ptd_not ?_
    refine ptd_chain op_le op_lt ?_
    refine pd_int ?_
    refine pd_var (i := 7) rfl rfl ?_
    refine vr_I ⟨_, rfl, ?_⟩
    rw [inB_dec]
    by_cases c1 : (0 : Int) ≤ x
    · rw [decide_eq_true c1, if_pos rfl]
      refine pd_var (i := 4) rfl rfl ?_
      refine vr_I ⟨_, rfl, ?_⟩
      rw [Bool.true_and]
      cases decide (x < (n : Int)) with
      | true => exact iteF ⟨rfl, rfl⟩
      | false =>
        refine iteT ?_
        intro s H0 C1 cl1 fp1
        refine pd_var (i := 7) rfl rfl ?_
        exact ⟨rfl, rfl, rfl⟩
    · rw [decide_eq_false c1, if_neg Bool.false_ne_true]
      refine iteT ?_
      intro s H0 C1 cl1 fp1
      refine pd_var (i := 7) rfl rfl ?_
      exact ⟨rfl, rfl, rfl⟩
  refine pd_lst ?_
  refine pad_nil ?_
  refine ⟨Nat.zero_le _, ?_⟩
  refine vr_neInts (a := isl.filter fun c => !inB c n) (b := []) ⟨_, rfl, ?_⟩
  have ea : decide ((isl.filter fun c => !inB c n) = []) = isl.all fun c => inB c n := by
    rw [all_filter]
    congr 1
    funext c
    rw [Bool.not_not]
  rw [ea]
  unfold chkI at hk
  cases q : (isl.all fun c => inB c n) with
  | false =>
    rw [q] at hk
    refine iteT ?_
    refine pssd_one (psd_ret ?_)
    refine pd_bl ?_
    simp only [Bool.false_and] at hk
    exact hk
  | true =>
  rw [q, Bool.true_and] at hk
  refine iteF ?_
  refine pssd_nil ?_
  have hin : ∀ x ∈ isl, 0 ≤ x ∧ x < n := fun x hx => by
    have := List.all_eq_true.mp q x hx
    rw [inB_dec] at this
    simp only [Bool.and_eq_true, decide_eq_true_eq] at this
    exact this
  refine pssd_cons (psd_if ?_)
  refine pwd_pt ?_
  refine pwd_or ?_
  refine ptd_cmp op_notIn_seq ?_
  refine pd_var (i := 1) rfl rfl ?_
  refine pd_var (i := 3) rfl rfl ?_
  refine vr_ninK (.inl rfl) ⟨_, rfl, ?_⟩
  cases q1 : decide ((s0 : Int) ∈ isl) with
  | false =>
    rw [q1] at hk
    refine iteT ?_
    refine iteT ?_
    refine pssd_one (psd_ret ?_)
    refine pd_bl ?_
    simp only [Bool.false_and] at hk
    exact hk
  | true =>
  rw [q1, Bool.true_and] at hk
  refine iteF ?_
  refine pwd_or1 ?_
  refine ptd_cmp op_in_seq ?_
  refine pd_var (i := 2) rfl rfl ?_
  refine pd_var (i := 3) rfl rfl ?_
  refine vr_inK (.inl rfl) ⟨_, rfl, ?_⟩
  cases q2 : decide ((z : Int) ∈ isl) with
  | true =>
    rw [q2] at hk
    refine iteT ?_
    refine pssd_one (psd_ret ?_)
    refine pd_bl ?_
    exact hk
  | false =>
  rw [q2, Bool.not_false, Bool.true_and] at hk
  refine iteF ?_
  refine pssd_nil ?_
  refine pssd_cons (psd_for PassesOwn.never rfl ?_)
  refine it_list ?_
  refine pd_var (i := 0) rfl rfl ?_
  refine ⟨_, rfl, ?_⟩
  refine ⟨fun i δ' w' => ∃ (x5 x6 : Option D), δ' = [some (rowsD rows), some (I (s0 : Int)), some (I (z : Int)), some (.lst (isl.map I)), some (I (n : Int)), x5, x6, none] ∧ w' = w0 ∧ (rows.take i).all (fun r => (List.range n).all fun c => decide ((∃ d ∈ isl, r[d.toNat]? = r[c]?) → (c : Int) ∈ isl)) = true, ⟨none, none, rfl, rfl, rfl⟩, ?_, ?_⟩
  · rintro i e δ' w2 he ⟨x5, x6, rfl, rfl, hall⟩
    rw [List.getElem?_map] at he
    cases ev : rows[i]? with
    | none =>
      rw [ev] at he
      cases he
    | some r =>
    rw [ev] at he
    cases he
    have hrl := hl r (List.mem_of_getElem? ev)
    refine pgd_name (i := 5) nd rfl ?_
    refine pssd_cons (psd_set (i := 6) nd rfl ?_)
    refine pd_lc (own := [("case", 7)]) (is := [7]) rfl nd (blkOk_by rfl) (by decide) ?_
    refine it_list ?_
    refine pd_var (i := 3) rfl rfl ?_
    refine ⟨_, rfl, ?_⟩
    refine lcd_map (xs := isl) (g := I) (fun c => I ((r.getD c.toNat 0 : Nat) : Int)) (small1000 hz) (fun x hx s H0 C1 cl1 fp1 => ?_) ?_
    · obtain ⟨h0, h1⟩ := hin x hx
      obtain ⟨xn, rfl⟩ := Int.eq_ofNat_of_zero_le h0
      obtain ⟨v, hv⟩ := at_lt (l := r) (i := xn) (by omega)
      refine pgl_name (i := 7) nd rfl ?_
      intro s H0 C1 cl1 fp1
      refine ptsd_nil ?_
      intro s H0 C1 cl1 fp1
      refine pd_ix ix_list ?_
      refine pd_var (i := 5) rfl rfl ?_
      refine pd_var (i := 7) rfl rfl ?_
      refine vr_ixL (nl_at hv) ⟨rfl, ?_, rfl⟩
      rw [Int.toNat_natCast, List.getD_eq_getElem?_getD, hv]
      rfl
    have ei : isl.map (fun c => I ((r.getD c.toNat 0 : Nat) : Int)) = (isl.map fun (c : Int) => ((r.getD c.toNat 0 : Nat) : Int)).map I := by
      rw [List.map_map]
      rfl
    rw [ei]
    refine pssd_one (psd_if ?_)
    refine ptd_cmp (op_neD hu2) ?_
    refine pd_lc (own := [("case", 7)]) (is := [7]) rfl nd (blkOk_by rfl) (by decide) ?_
    refine it_range hm.range ?_
    refine pd_var (i := 4) rfl rfl ?_
    refine ⟨n, rfl, by omega, ?_⟩
    refine lcd_ix (fun (c : Nat) => decide (((r.getD c 0 : Nat) : Int) ∈ isl.map fun (c : Int) => ((r.getD c.toNat 0 : Nat) : Int)) && !decide ((c : Int) ∈ isl)) (fun (c : Nat) => I (c : Int)) (by rw [ups_len]; exact small1000 (by omega)) (fun c d3 hd3 => ?_) ?_
    · obtain ⟨hc, rfl⟩ := ups_at hd3
      obtain ⟨v, hv⟩ := at_lt (l := r) (i := c) (by omega)
      have eg : r.getD c 0 = v := by
        rw [List.getD_eq_getElem?_getD, hv]
        rfl
      intro s H0 C1 cl1 fp1
      refine pgl_name (i := 7) nd rfl ?_
      intro s H0 C1 cl1 fp1
      refine ptsd_one ?_
      refine pwd_pt ?_
      refine pwd_and ?_
      refine ptd_cmp op_in_seq ?_
      refine pd_ix ix_list ?_
      refine pd_var (i := 5) rfl rfl ?_
      refine pd_var (i := 7) rfl rfl ?_
      refine vr_ixL (nl_at hv) ?_
      refine pd_var (i := 6) rfl rfl ?_
      refine vr_inK (.inl rfl) ⟨_, rfl, ?_⟩
      rw [eg]
      cases decide ((v : Int) ∈ isl.map fun (c : Int) => ((r.getD c.toNat 0 : Nat) : Int)) with
      | false => exact iteF (iteF ⟨rfl, rfl⟩)
      | true =>
      refine iteT ?_
      refine pwd_and1 ?_
      refine ptd_cmp op_notIn_seq ?_
      refine pd_var (i := 7) rfl rfl ?_
      refine pd_var (i := 3) rfl rfl ?_
      refine vr_ninK (.inl rfl) ⟨_, rfl, ?_⟩
      cases decide ((c : Int) ∈ isl) with
      | true => exact iteF ⟨rfl, rfl⟩
      | false =>
        refine iteT ?_
        intro s H0 C1 cl1 fp1
        refine pd_var (i := 7) rfl rfl ?_
        exact ⟨rfl, rfl, rfl⟩
    rw [ups_len]
    refine pd_lst ?_
    refine pad_nil ?_
    refine ⟨Nat.zero_le _, ?_⟩
    have ec : (((List.range n).filter fun (c : Nat) => decide (((r.getD c 0 : Nat) : Int) ∈ isl.map fun (c : Int) => ((r.getD c.toNat 0 : Nat) : Int)) && !decide ((c : Int) ∈ isl)).map fun (c : Nat) => I (c : Int)) = (casts ((List.range n).filter fun (c : Nat) => decide (((r.getD c 0 : Nat) : Int) ∈ isl.map fun (c : Int) => ((r.getD c.toNat 0 : Nat) : Int)) && !decide ((c : Int) ∈ isl))).map I := by
      unfold casts
      rw [List.map_map]
      rfl
    rw [ec]
    refine vr_neInts (b := []) ⟨_, rfl, ?_⟩
    have eok : decide (casts ((List.range n).filter fun (c : Nat) => decide (((r.getD c 0 : Nat) : Int) ∈ isl.map fun (c : Int) => ((r.getD c.toNat 0 : Nat) : Int)) && !decide ((c : Int) ∈ isl)) = []) = (List.range n).all fun c => decide ((∃ d ∈ isl, r[d.toNat]? = r[c]?) → (c : Int) ∈ isl) := by
      unfold casts
      rw [map_nil_dec, all_filter, Bool.eq_iff_iff, List.all_eq_true, List.all_eq_true]
      have key : ∀ c, c ∈ List.range n → ((!(decide (((r.getD c 0 : Nat) : Int) ∈ isl.map fun (c : Int) => ((r.getD c.toNat 0 : Nat) : Int)) && !decide ((c : Int) ∈ isl))) = decide ((∃ d ∈ isl, r[d.toNat]? = r[c]?) → (c : Int) ∈ isl)) := fun c hc => by
        have hc' := List.mem_range.mp hc
        obtain ⟨v, hv⟩ := at_lt (l := r) (i := c) (by omega)
        have eg : r.getD c 0 = v := by
          rw [List.getD_eq_getElem?_getD, hv]
          rfl
        have em : (((v : Nat) : Int) ∈ isl.map fun (c : Int) => ((r.getD c.toNat 0 : Nat) : Int)) ↔ ∃ d ∈ isl, r[d.toNat]? = r[c]? := by
          rw [List.mem_map]
          constructor
          · rintro ⟨d, hd, e⟩
            obtain ⟨h0, h1⟩ := hin d hd
            obtain ⟨u, hu⟩ := at_lt (l := r) (i := d.toNat) (by omega)
            refine ⟨d, hd, ?_⟩
            rw [List.getD_eq_getElem?_getD, hu] at e
            have e' : ((u : Nat) : Int) = v := e
            rw [hu, hv]
            congr 1
            omega
          · rintro ⟨d, hd, e⟩
            refine ⟨d, hd, ?_⟩
            rw [List.getD_eq_getElem?_getD, e, hv]
            rfl
        rw [eg, Bool.eq_iff_iff, decide_eq_true_eq, ← em]
        by_cases a1 : ((v : Nat) : Int) ∈ isl.map fun (c : Int) => ((r.getD c.toNat 0 : Nat) : Int)
        · rw [decide_eq_true a1]
          by_cases a2 : (c : Int) ∈ isl
          · rw [decide_eq_true a2]
            exact ⟨fun _ _ => a2, fun _ => rfl⟩
          · rw [decide_eq_false a2]
            exact ⟨fun z => (by cases z), fun z => absurd (z a1) a2⟩
        · rw [decide_eq_false a1]
          exact ⟨fun _ z => absurd z a1, fun _ => rfl⟩
      exact ⟨fun h c hc => by rw [← key c hc]; exact h c hc, fun h c hc => by rw [key c hc]; exact h c hc⟩
    rw [eok]
    have tk : rows.take (i + 1) = rows.take i ++ [r] := by
      rw [List.take_add_one, ev]
      rfl
    cases q3 : ((List.range n).all fun c => decide ((∃ d ∈ isl, r[d.toNat]? = r[c]?) → (c : Int) ∈ isl)) with
    | true =>
      refine iteF ?_
      refine pssd_nil ⟨_, _, rfl, rfl, ?_⟩
      rw [tk, List.all_append, hall, Bool.true_and, List.all_cons, q3]
      rfl
    | false =>
      refine iteT ?_
      refine pssd_one (psd_ret ?_)
      refine pd_bl ?_
      have ef : (rows.all fun r => (List.range n).all fun c => decide ((∃ d ∈ isl, r[d.toNat]? = r[c]?) → (c : Int) ∈ isl)) = false := by
        rw [Bool.eq_false_iff]
        intro h
        have := List.all_eq_true.mp h r (List.mem_of_getElem? ev)
        rw [q3] at this
        cases this
      rw [ef] at hk
      exact hk
  · rintro δ' w2 ⟨x5, x6, rfl, rfl, hall⟩
    rw [List.length_map, List.take_length] at hall
    refine pssd_one (psd_ret ?_)
    refine pd_bl ?_
    rw [hall] at hk
    exact hk
end
end Tw

set_option Elab.async false
set_option linter.all false
set_option maxRecDepth 100000
set_option maxHeartbeats 2000000
/-! Drawn steps; bent steps; bent islands. -/
namespace Tw
open PySem PySem.Spec PyProof.Rows L2 LamX DL Mth Grf
theorem head_row {rows : List (List Nat)} {n : Nat} (hne : rows ≠ []) (hl : ∀ r ∈ rows, r.length = n) : ∃ r0 rest, rows = r0 :: rest ∧ (List.map (fun (k : Nat) => I (k : Int)) r0).length = n := by
  cases rows with
  | nil => exact absurd rfl hne
  | cons a b => exact ⟨a, b, rfl, by rw [List.length_map]; exact hl a (List.mem_cons_self ..)⟩
theorem cap_len {α : Type} {l : List α} {m k : Nat} (h : l.length ≤ m) (hk : m + k ≤ 1000) : l.length + k ≤ sizeLine := by
  rw [sizeLine_eq]
  omega
section
variable {P : Program} {w : PySem.World} {K : PySem.W.Frag} {mg : Str → Option Value} {base : Heap} {T : List (Addr × Str)} {C CU CB CM : Addr}
theorem scLSt : FnScope ["bag", "rows", "start", "last", "way", "chain", "steps", "here", "turn", "k", "cell", "rest", "case"] ["bag", "rows", "start", "last"] (defScope sLSt) := ⟨rfl, rfl, rfl, by decide +kernel, rfl, by decide +kernel, by decide +kernel⟩
theorem ok_lst {f : Addr} {fd : FuncData} (G : Fun K "_law_steps" "_law_steps" sLSt f fd) (hm : Nm2 mg) (hT : HasF P w K mg base T CX0 "_law_take" 1 ["bag", "many"] spTake) (hC : HasF P w K mg base T CX0 "_law_chain" 3 ["rows", "start", "last"] spLCh) :
    FnOk P w K mg base CX0 4 f fd ["bag", "rows", "start", "last"] (spOf K T spLSt) := by
  refine fnD G scLSt (fun ds w κ χ h => ?_) (fun cdv A outer s H E ds w0 κ χ hr h => ?_)
  · obtain ⟨a, r, b, n, rows, s, z, rfl, _⟩ := h
    rfl
  obtain ⟨a, r, b, n, rows, s0, z, rfl, hb, hne, hl, h12, h7, hs, hz, k⟩ := h
  have nd := scLSt.nd
  have ne := hb.ne
  have hB : ∀ b, BagAt (bagPut w0 a r b) a r b := fun b => bag_put ne
  have pp : ∀ b b', bagPut (bagPut w0 a r b) a r b' = bagPut w0 a r b' := fun b b' => bag_put2 ne
  obtain ⟨fa, F⟩ := far_ex n rows z hz
  have hrl : 0 < rows.length := List.length_pos_iff.mpr hne
  refine pssd_cons (psd_set (i := 4) nd rfl ?_)
  refine pd_take hT (hr.mono (by decide)) (i := 0) rfl rfl hb ?_
  refine pd_int ?_
  refine ⟨rfl, _, rfl, by decide, by decide, fun way b1 _ _ => ?_⟩
  -- the chain from x, whatever it is
  have chainL : ∀ (x : Nat), x < n → ∀ (κ' : D → Wp → Prop) (w' : Wp), (κ' N w') → (∀ ch : List (Nat × Nat), ch.length ≤ 12 → κ' (.lst (ch.map tp)) w') → spLCh [rowsD rows, I (x : Int), I (z : Int)] w' κ' noX := fun x hx κ' w' k1 k2 =>
    ⟨n, rows, x, z, fa, rfl, hne, hl, h12, h7, hx, hz, F, fun _ => k1, fun _ ch _ h => k2 ch h⟩
  refine pssd_cons (psd_set (i := 5) nd rfl ?_)
  refine pd_has hC hr (fun _ => pass0At) ?_
  refine pad_cons ?_
  refine pd_var (i := 1) rfl rfl ?_
  refine pad_cons ?_
  refine pd_var (i := 2) rfl rfl ?_
  refine pad_cons ?_
  refine pd_var (i := 3) rfl rfl ?_
  refine pad_nil ?_
  -- behind the chain
  have rest : ∀ dch : D, (dch = N ∨ ∃ ch : List (Nat × Nat), ch.length ≤ 12 ∧ dch = .lst (ch.map tp)) → PSsD (cxOf CX0 P w K mg base ["bag", "rows", "start", "last", "way", "chain", "steps", "here", "turn", "k", "cell", "rest", "case"] "_law_steps" (defScope sLSt) f cdv A outer s H E).nox T Wf noX ((defBody sLSt).drop 2)
      [some (R a), some (rowsD rows), some (I (s0 : Int)), some (I (z : Int)), some (I way), some dch, none, none, none, none, none, none, none] (bagPut w0 a r b1) { nx := fun _ w' => κ DL.N w', rt := κ } := by
    intro dch hd
    refine pssd_cons (psd_if ?_)
    refine ptd_cmp op_eq ?_
    refine pd_var (i := 4) rfl rfl ?_
    refine pd_int ?_
    refine vr_eq rfl ⟨_, rfl, ?_⟩
    refine ite2 (fun c => ?_) (fun c => ?_)
    · refine pssd_one (psd_ret ?_)
      refine pd_if ?_
      refine ptd_cmp op_isN ?_
      refine pd_var (i := 5) rfl rfl ?_
      refine pd_non ?_
      refine vr_isN ⟨_, rfl, ?_⟩
      rcases hd with rfl | ⟨ch, hch, rfl⟩
      · refine iteT ?_
        refine pd_lst ?_
        refine pad_nil ?_
        refine ⟨Nat.zero_le _, ?_⟩
        exact k [] b1 (by show 0 ≤ 20; decide)
      · refine iteF ?_
        refine pd_var (i := 5) rfl rfl ?_
        rw [tp_cast]
        exact k _ b1 (by unfold castP; rw [List.length_map]; omega)
    refine pssd_nil ?_
    refine pssd_cons (psd_set (i := 6) nd rfl ?_)
    refine pd_lstO ?_
    refine pad_nil ?_
    refine ⟨Nat.zero_le _, fun c0 hc0 => ?_⟩
    have hc2 : ∀ b', bagPut w0 a r b' c0 = none := fun b' => bag_none hc0
    refine pssd_cons (psd_set (i := 7) nd rfl ?_)
    refine pd_var (i := 2) rfl rfl ?_
    refine pssd_cons (psd_for PassesOwn.never rfl ?_)
    refine it_range hm.range ?_
    have tk : ∀ (l : List (Nat × Nat)) b' b'', bagPut (wu (bagPut w0 a r b') c0 (.lst (l.map tp))) a r b'' = wu (bagPut w0 a r b'') c0 (.lst (l.map tp)) := fun l b' b'' => by rw [bag_comm (hB b') (hc2 b'), pp]
    have hO : ∀ (l : List (Nat × Nat)) b', BagAt (wu (bagPut w0 a r b') c0 (.lst (l.map tp))) a r b' := fun l b' => (hB b').own (hc2 b')
    refine pd_take hT (hr.mono (by decide)) (i := 0) rfl rfl (hO [] b1) ?_
    refine pd_int ?_
    refine ⟨rfl, _, rfl, by decide, by decide, fun tn b2 g0 g1 => ?_⟩
    rw [show bagPut (wu (bagPut w0 a r b1) c0 (.lst [])) a r b2 = wu (bagPut w0 a r b2) c0 (.lst []) from tk [] b1 b2]
    obtain ⟨tn, rfl⟩ := Int.eq_ofNat_of_zero_le g0
    refine ⟨tn, rfl, by omega, ?_⟩
    refine ⟨fun i δ' w' => ∃ (here : Nat) (l : List (Nat × Nat)) (b' : Bag) (x8 x9 x10 : Option D), δ' = [some (R a), some (rowsD rows), some (I (s0 : Int)), some (I (z : Int)), some (I way), some dch, some (R c0), some (I (here : Int)), x8, x9, x10, none, none] ∧ w' = wu (bagPut w0 a r b') c0 (.lst (l.map tp)) ∧ l.length = i ∧ here < n, ⟨s0, [], b2, none, none, none, rfl, rfl, rfl, hs⟩, ?_, ?_⟩
    · rintro i d δ' w' hd' ⟨here, l, b', x8, x9, x10, rfl, rfl, hll, hh⟩
      obtain ⟨hi, rfl⟩ := ups_at hd'
      refine pgd_name (i := 8) nd rfl ?_
      refine pssd_cons (psd_set (i := 9) nd rfl ?_)
      refine pd_take hT (hr.mono (by decide)) (i := 0) rfl rfl (hO l b') ?_
      refine pd_callB call_len_seq rfl hm.len PySem.boot_len ?_
      refine pad_cons ?_
      refine pd_var (i := 1) rfl rfl ?_
      refine pad_nil ?_
      refine va_len ?_
      rw [List.length_map]
      refine ⟨rfl, _, rfl, by omega, lg9' (by omega) (by omega), fun kv b3 g2 g3 => ?_⟩
      rw [tk]
      obtain ⟨kn, rfl⟩ := Int.eq_ofNat_of_zero_le g2
      have hkn : kn < rows.length := by omega
      have ek : rows[kn]? = some rows[kn] := List.getElem?_eq_getElem hkn
      generalize rows[kn] = rw_ at ek
      have hrw := hl rw_ (List.mem_of_getElem? ek)
      have egd : rows.getD kn [] = rw_ := by
        rw [List.getD_eq_getElem?_getD, ek]
        rfl
      obtain ⟨vh, hvh⟩ := at_lt (l := rw_) (i := here) (by omega)
      have elr : (List.map (fun (k : Nat) => I (k : Int)) rw_).length = n := by
        rw [List.length_map]
        exact hrw
      refine pssd_cons ?_
      refine psd_setLc (i := 10) (own := [("case", 12)]) (is := [12]) rfl nd rfl rfl (sw_true rfl rfl rfl (by decide +kernel)) (blkOk_by rfl) (by decide) ?_
      refine it_range hm.range ?_
      refine pd_callB call_len_seq rfl hm.len PySem.boot_len ?_
      refine pad_cons ?_
      refine pd_ix ix_list ?_
      refine pd_var (i := 1) rfl rfl ?_
      refine pd_var (i := 9) rfl rfl ?_
      refine vr_ixL (row_at ek) ?_
      refine pad_nil ?_
      refine va_len ?_
      rw [elr]
      refine ⟨n, rfl, by omega, ?_⟩
      refine lcd_ix (fun o => Grf.same rows kn o here) (fun o => I (o : Int)) (by rw [ups_len]; exact small1000 (by omega)) (fun o d3 hd3 => ?_) ?_
      · obtain ⟨ho, rfl⟩ := ups_at hd3
        obtain ⟨vo, hvo⟩ := at_lt (l := rw_) (i := o) (by omega)
        have es : Grf.same rows kn o here = decide (vo = vh) := by
          unfold Grf.same
          rw [egd, hvo, hvh, some_eq_dec]
        intro s H0 C1 cl1 fp1
        refine pgl_name (i := 12) nd rfl ?_
        intro s H0 C1 cl1 fp1
        refine ptsd_one ?_
        refine ptd_cmp op_eq ?_
        refine pd_ix ix_list ?_
        refine pd_ix ix_list ?_
        refine pd_var (i := 1) rfl rfl ?_
        refine pd_var (i := 9) rfl rfl ?_
        refine vr_ixL (row_at ek) ?_
        refine pd_var (i := 12) rfl rfl ?_
        refine vr_ixL (nl_at hvo) ?_
        refine pd_ix ix_list ?_
        refine pd_ix ix_list ?_
        refine pd_var (i := 1) rfl rfl ?_
        refine pd_var (i := 9) rfl rfl ?_
        refine vr_ixL (row_at ek) ?_
        refine pd_var (i := 7) rfl rfl ?_
        refine vr_ixL (nl_at hvh) ?_
        refine vr_eq rfl ⟨_, rfl, ?_⟩
        rw [int_eq_dec, ← es]
        cases q : Grf.same rows kn o here with
        | false => exact iteF ⟨rfl, rfl⟩
        | true =>
          refine iteT ?_
          intro s H0 C1 cl1 fp1
          refine pd_var (i := 12) rfl rfl ?_
          exact ⟨rfl, rfl, rfl⟩
      rw [ups_len]
      show PSsD _ _ _ _ _ (List.set _ 10 (some (nats (cellR n rows kn here)))) _ _
      have cz : 0 < (cellR n rows kn here).length := List.length_pos_of_mem (mem_cellR.mpr ⟨hh, decide_eq_true rfl⟩)
      have cz2 := cellR_len (n := n) (rows := rows) (k := kn) (c := here)
      have elc : (List.map (fun (k : Nat) => I (k : Int)) (cellR n rows kn here)).length = (cellR n rows kn here).length := List.length_map _
      refine pssd_cons (psd_set (i := 7) nd rfl ?_)
      refine pd_ix ix_list ?_
      refine pd_var (i := 10) rfl rfl ?_
      refine pd_take hT (hr.mono (by decide)) (i := 0) rfl rfl (hO l b3) ?_
      refine pd_callB call_len_seq rfl hm.len PySem.boot_len ?_
      refine pad_cons ?_
      refine pd_var (i := 10) rfl rfl ?_
      refine pad_nil ?_
      refine va_len ?_
      rw [elc]
      refine ⟨rfl, _, rfl, by omega, lg9' (by omega) (by omega), fun yv b4 g4 g5 => ?_⟩
      rw [tk]
      obtain ⟨yn, rfl⟩ := Int.eq_ofNat_of_zero_le g4
      obtain ⟨nh, hnh⟩ := at_lt (l := cellR n rows kn here) (i := yn) (by omega)
      refine vr_ixL (nl_at hnh) ?_
      have hnn := (mem_cellR.mp (List.mem_of_getElem? hnh)).1
      refine pssd_one (psd_expr ?_)
      refine pd_bm PySem.F.plainAttrs_list PySem.F.slot_list_append PySem.F.type_list_append mt_append ?_
      refine pd_var (i := 6) rfl rfl ?_
      refine ⟨⟨rfl, _, wu_same⟩, ?_⟩
      refine pad_cons ?_
      refine pd_tup ?_
      refine pad_cons ?_
      refine pd_var (i := 9) rfl rfl ?_
      refine pad_cons ?_
      refine pd_var (i := 7) rfl rfl ?_
      refine pad_nil ?_
      refine ⟨by show 2 ≤ sizeLine; decide, ?_⟩
      refine pad_nil ?_
      refine vm_append wu_same (by rw [List.length_map]; exact small1000 (by omega)) ?_
      rw [wu_wu]
      exact ⟨nh, l ++ [(kn, nh)], b4, _, _, _, rfl, by rw [List.map_append]; rfl, by rw [List.length_append, hll]; rfl, hnn⟩
    · rintro δ' w' ⟨here, l, b', x8, x9, x10, rfl, rfl, hll, hh⟩
      rw [ups_len] at hll
      refine pssd_freeze (a := c0) (ds := l.map tp) 6 rfl wu_same ?_
      rw [wd_wu (hc2 b')]
      refine pssd_cons (psd_set (i := 11) nd rfl ?_)
      refine pd_has hC hr (fun _ => pass0At) ?_
      refine pad_cons ?_
      refine pd_var (i := 1) rfl rfl ?_
      refine pad_cons ?_
      refine pd_var (i := 7) rfl rfl ?_
      refine pad_cons ?_
      refine pd_var (i := 3) rfl rfl ?_
      refine pad_nil ?_
      have lc : (castP l).length = l.length := List.length_map _
      refine chainL here hh _ _ ?_ fun ch hch => ?_
      · refine pssd_cons (psd_if ?_)
        refine pwd_pt ?_
        refine pwd_or ?_
        refine ptd_cmp op_eq ?_
        refine pd_var (i := 4) rfl rfl ?_
        refine pd_int ?_
        refine vr_eq rfl ⟨_, rfl, ?_⟩
        have fin : ∀ p1 p2 : Pos, ∀ nx bk ct : Dn → Wp → Prop, ∀ dr : D, PSsD (cxOf CX0 P w K mg base ["bag", "rows", "start", "last", "way", "chain", "steps", "here", "turn", "k", "cell", "rest", "case"] "_law_steps" (defScope sLSt) f cdv A outer s H E).nox T Wf noX [.Return (some (.Name "steps" p1)) p2]
            [some (R a), some (rowsD rows), some (I (s0 : Int)), some (I (z : Int)), some (I way), some dch, some (.lst (l.map tp)), some (I (here : Int)), x8, x9, x10, some dr, none] (bagPut w0 a r b') { nx := nx, rt := κ, bk := bk, ct := ct } := fun p1 p2 nx bk ct dr => by
          refine pssd_one (psd_ret ?_)
          refine pd_var (i := 6) rfl rfl ?_
          rw [tp_cast]
          exact k _ b' (by omega)
        refine ite2 (fun c => ?_) (fun c => ?_)
        · exact iteT (fin _ _ _ _ _ _)
        · refine pwd_or1 ?_
          refine ptd_cmp op_isN ?_
          refine pd_var (i := 11) rfl rfl ?_
          refine pd_non ?_
          refine vr_isN ⟨_, rfl, ?_⟩
          exact iteT (fin _ _ _ _ _ _)
      · refine pssd_cons (psd_if ?_)
        refine pwd_pt ?_
        refine pwd_or ?_
        refine ptd_cmp op_eq ?_
        refine pd_var (i := 4) rfl rfl ?_
        refine pd_int ?_
        refine vr_eq rfl ⟨_, rfl, ?_⟩
        refine ite2 (fun c => ?_) (fun c => ?_)
        · refine iteT ?_
          refine pssd_one (psd_ret ?_)
          refine pd_var (i := 6) rfl rfl ?_
          rw [tp_cast]
          exact k _ b' (by omega)
        · refine pwd_or1 ?_
          refine ptd_cmp op_isN ?_
          refine pd_var (i := 11) rfl rfl ?_
          refine pd_non ?_
          refine vr_isN ⟨_, rfl, ?_⟩
          refine iteF ?_
          refine pssd_nil ?_
          refine pssd_one (psd_ret ?_)
          refine pd_op op_cat ?_
          refine pd_var (i := 6) rfl rfl ?_
          refine pd_var (i := 11) rfl rfl ?_
          refine vr_cat (by rw [List.length_map, List.length_map, sizeLine_eq]; omega) ?_
          rw [← List.map_append, tp_cast]
          exact k _ b' (by unfold castP; rw [List.length_map, List.length_append]; omega)
  exact chainL s0 hs _ _ (rest N (.inl rfl)) fun ch hch => rest _ (.inr ⟨ch, hch, rfl⟩)
end
end Tw

set_option Elab.async false
set_option linter.all false
set_option maxRecDepth 100000
set_option maxHeartbeats 2000000
/-! Bent steps; bent islands. -/
namespace Tw
open PySem PySem.Spec PyProof.Rows L2 LamX DL Mth Grf
section
variable {P : Program} {w : PySem.World} {K : PySem.W.Frag} {mg : Str → Option Value} {base : Heap} {T : List (Addr × Str)} {C CU CB CM : Addr}
theorem scLBs : FnScope ["bag", "rows", "steps", "many", "way", "k", "case", "place", "step"] ["bag", "rows", "steps"] (defScope sLBs) := ⟨rfl, rfl, rfl, by decide +kernel, rfl, by decide +kernel, by decide +kernel⟩
theorem ok_lbs {f : Addr} {fd : FuncData} (G : Fun K "_law_bent_steps" "_law_bent_steps" sLBs f fd) (hm : Nm2 mg) (hT : HasF P w K mg base T CX0 "_law_take" 1 ["bag", "many"] spTake) : FnOk P w K mg base CX0 2 f fd ["bag", "rows", "steps"] (spOf K T spLBs) := by
  refine fnD G scLBs (fun ds w κ χ h => ?_) (fun cdv A outer s H E ds w0 κ χ hr h => ?_)
  · obtain ⟨a, r, b, n, rows, l, rfl, _⟩ := h
    rfl
  obtain ⟨a, r, b, n, rows, l, rfl, hb, hne, hl, h1, h12, h7, hz, k⟩ := h
  have nd := scLBs.nd
  have ne := hb.ne
  have hB : ∀ b, BagAt (bagPut w0 a r b) a r b := fun b => bag_put ne
  have pp : ∀ b b', bagPut (bagPut w0 a r b) a r b' = bagPut w0 a r b' := fun b b' => bag_put2 ne
  obtain ⟨r0, rest, er, e0⟩ := head_row hne hl
  have hrl : 0 < rows.length := List.length_pos_iff.mpr hne
  refine pssd_cons (psd_set (i := 3) nd rfl ?_)
  refine pd_callB call_len_seq rfl hm.len PySem.boot_len ?_
  refine pad_cons ?_
  refine pd_ix ix_list ?_
  refine pd_var (i := 1) rfl rfl ?_
  refine pd_int ?_
  refine vr_ixL (i := 0) (d := nats r0) (by rw [er]; rfl) ?_
  refine pad_nil ?_
  refine va_len ?_
  rw [e0]
  refine pssd_cons (psd_set (i := 4) nd rfl ?_)
  (refine pd_take hT hr (i := 0) rfl rfl hb ?_)
  refine pd_int ?_
  refine ⟨rfl, _, rfl, by decide, by decide, fun way b1 _ _ => ?_⟩
  refine pssd_cons (psd_set (i := 5) nd rfl ?_)
  (refine pd_take hT hr (i := 0) rfl rfl (hB b1) ?_)
  refine pd_callB call_len_seq rfl hm.len PySem.boot_len ?_
  refine pad_cons ?_
  refine pd_var (i := 1) rfl rfl ?_
  refine pad_nil ?_
  refine va_len ?_
  rw [List.length_map]
  refine ⟨rfl, _, rfl, by omega, lg9' (by omega) (by omega), fun kv b2 _ _ => ?_⟩
  rw [pp]
  refine pssd_cons (psd_set (i := 6) nd rfl ?_)
  (refine pd_take hT hr (i := 0) rfl rfl (hB b2) ?_)
  refine pd_var (i := 3) rfl rfl ?_
  refine ⟨rfl, _, rfl, by omega, lg9' (by omega) (by omega), fun cv b3 _ _ => ?_⟩
  rw [pp]
  refine pssd_cons (psd_set (i := 7) nd rfl ?_)
  (refine pd_take hT hr (i := 0) rfl rfl (hB b3) ?_)
  refine pd_op op_add ?_
  refine pd_callB call_len_seq rfl hm.len PySem.boot_len ?_
  refine pad_cons ?_
  refine pd_var (i := 2) rfl rfl ?_
  refine pad_nil ?_
  refine va_len ?_
  rw [List.length_map]
  refine pd_int ?_
  refine vr_I ?_
  refine ⟨rfl, _, rfl, by omega, lg9' (by omega) (by omega), fun pv b4 g0 g1 => ?_⟩
  rw [pp]
  obtain ⟨pn, rfl⟩ := Int.eq_ofNat_of_zero_le g0
  have hpn : pn ≤ l.length := by omega
  -- steps[:place] + [x] + steps[y:], any x
  have lt : (l.take pn).length = pn := by rw [List.length_take]; omega
  have ld : ∀ q, (l.drop q).length = l.length - q := fun q => List.length_drop
  refine pssd_cons (psd_if ?_)
  refine pwd_pt ?_
  refine pwd_or ?_
  (refine ptd_cmp op_eq ?_; refine pd_var (i := 4) rfl rfl ?_; refine pd_int ?_; refine vr_eq rfl ⟨_, rfl, ?_⟩)
  have ret0 : ∀ (p1 p2 p3 p4 p5 p6 p7 p8 p9 p10 p11 p12 p13 p14 p15 : Pos) (tk : Nat) (nx bk ct : Dn → Wp → Prop), PSsD (cxOf CX0 P w K mg base ["bag", "rows", "steps", "many", "way", "k", "case", "place", "step"] "_law_bent_steps" (defScope sLBs) f cdv A outer s H E).nox T Wf noX
      [.Return (some (.BinOp (.BinOp (.Subscript (.Name "steps" p1) (.Slice none (some (.Name "place" p2)) none p3) p4) .Add (.List [.Tuple [.Name "k" p5, .Name "case" p6] tk p7] p8) p9) .Add (.Subscript (.Name "steps" p10) (.Slice (some (.Name "place" p11)) none none p12) p13) p14)) p15]
      [some (R a), some (rowsD rows), some (.lst (l.map tpI)), some (I (n : Int)), some (I way), some (I kv), some (I cv), some (I (pn : Int)), none] (bagPut w0 a r b4) { nx := nx, rt := κ, bk := bk, ct := ct } := fun p1 p2 p3 p4 p5 p6 p7 p8 p9 p10 p11 p12 p13 p14 p15 tk nx bk ct => by
    refine pssd_one (psd_ret ?_)
    refine pd_op op_cat ?_
    refine pd_op op_cat ?_
    refine pd_slToE ?_
    refine pd_var (i := 2) rfl rfl ?_
    refine pd_var (i := 7) rfl rfl ?_
    refine ⟨_, pn, .inl rfl, rfl, ?_⟩
    rw [take_map]
    refine pd_lst ?_
    refine pad_cons ?_
    refine pd_tup ?_
    refine pad_cons ?_
    refine pd_var (i := 5) rfl rfl ?_
    refine pad_cons ?_
    refine pd_var (i := 6) rfl rfl ?_
    refine pad_nil ?_
    refine ⟨by show 2 ≤ sizeLine; decide, ?_⟩
    refine pad_nil ?_
    refine ⟨by show 1 ≤ sizeLine; decide, ?_⟩
    refine vr_cat (by rw [List.length_map, lt, sizeLine_eq]; show pn + 1 ≤ _; omega) ?_
    refine pd_slFromE ?_
    refine pd_var (i := 2) rfl rfl ?_
    refine pd_var (i := 7) rfl rfl ?_
    refine ⟨_, pn, .inl rfl, rfl, ?_⟩
    rw [drop_map]
    refine vr_cat (by rw [List.length_append, List.length_map, List.length_map, lt, ld, sizeLine_eq]; show pn + 1 + _ ≤ _; omega) ?_
    have e : (l.take pn).map tpI ++ [D.tup [I kv, I cv]] ++ (l.drop pn).map tpI = (l.take pn ++ [(kv, cv)] ++ l.drop pn).map tpI := by
      rw [List.map_append, List.map_append]
      rfl
    rw [e]
    exact k _ b4 (by rw [List.length_append, List.length_append, lt, ld]; show pn + 1 + _ ≤ _; omega)
  refine ite2 (fun c => ?_) (fun c => ?_)
  · exact iteT (ret0 _ _ _ _ _ _ _ _ _ _ _ _ _ _ _ _ _ _ _)
  refine pwd_or1 ?_
  refine ptd_cmp op_eq ?_
  refine pd_var (i := 7) rfl rfl ?_
  refine pd_callB call_len_seq rfl hm.len PySem.boot_len ?_
  refine pad_cons ?_
  refine pd_var (i := 2) rfl rfl ?_
  refine pad_nil ?_
  refine va_len ?_
  rw [List.length_map]
  refine vr_eq rfl ⟨_, rfl, ?_⟩
  rw [int_eq_dec]
  refine ite2 (fun c2 => ?_) (fun c2 => ?_)
  · exact ret0 _ _ _ _ _ _ _ _ _ _ _ _ _ _ _ _ _ _ _
  refine pssd_nil ?_
  have hlt : pn < l.length := by
    have : pn ≠ l.length := by simpa using c2
    omega
  have ep : l[pn]? = some l[pn] := List.getElem?_eq_getElem hlt
  generalize l[pn] = p at ep
  obtain ⟨p0, p1⟩ := p
  have ept : (l.map tpI)[pn]? = some (tpI (p0, p1)) := by
    rw [List.getElem?_map, ep]
    rfl
  refine pssd_cons (psd_set (i := 8) nd rfl ?_)
  refine pd_ix ix_list ?_
  refine pd_var (i := 2) rfl rfl ?_
  refine pd_var (i := 7) rfl rfl ?_
  refine vr_ixL ept ?_
  refine pssd_cons (psd_if ?_)
  (refine ptd_cmp op_eq ?_; refine pd_var (i := 4) rfl rfl ?_; refine pd_int ?_; refine vr_eq rfl ⟨_, rfl, ?_⟩)
  refine ite2 (fun c3 => ?_) (fun c3 => ?_)
  · refine pssd_one (psd_ret ?_)
    refine pd_op op_cat ?_
    refine pd_slToE ?_
    refine pd_var (i := 2) rfl rfl ?_
    refine pd_var (i := 7) rfl rfl ?_
    refine ⟨_, pn, .inl rfl, rfl, ?_⟩
    rw [take_map]
    refine pd_slFromE ?_
    refine pd_var (i := 2) rfl rfl ?_
    refine pd_op op_add ?_
    refine pd_var (i := 7) rfl rfl ?_
    refine pd_int ?_
    refine vr_I ?_
    refine ⟨_, pn + 1, .inl rfl, rfl, ?_⟩
    rw [drop_map]
    refine vr_cat (by rw [List.length_map, List.length_map, lt, ld, sizeLine_eq]; omega) ?_
    rw [← List.map_append]
    exact k _ b4 (by rw [List.length_append, lt, ld]; omega)
  refine pssd_nil ?_
  refine pssd_cons (psd_cut (fun δ' w' => ∃ (q : Int × Int) (b' : Bag), δ' = [some (R a), some (rowsD rows), some (.lst (l.map tpI)), some (I (n : Int)), some (I way), some (I kv), some (I cv), some (I (pn : Int)), some (tpI q)] ∧ w' = bagPut w0 a r b') ?_ ?_)
  · refine psd_if ?_
    (refine ptd_cmp op_eq ?_; refine pd_var (i := 4) rfl rfl ?_; refine pd_int ?_; refine vr_eq rfl ⟨_, rfl, ?_⟩)
    refine ite2 (fun c4 => ?_) (fun c4 => ?_)
    · refine pssd_one (psd_set (i := 8) nd rfl ?_)
      refine pd_tup ?_
      refine pad_cons ?_
      refine pd_var (i := 5) rfl rfl ?_
      refine pad_cons ?_
      refine pd_ix ix_tup ?_
      refine pd_var (i := 8) rfl rfl ?_
      refine pd_int ?_
      refine vr_ixT (i := 1) (d := I p1) rfl ?_
      refine pad_nil ?_
      exact ⟨by show 2 ≤ sizeLine; decide, (kv, p1), b4, rfl, rfl⟩
    refine pssd_one (psd_if ?_)
    (refine ptd_cmp op_eq ?_; refine pd_var (i := 4) rfl rfl ?_; refine pd_int ?_; refine vr_eq rfl ⟨_, rfl, ?_⟩)
    refine ite2 (fun c4 => ?_) (fun c4 => ?_)
    · refine pssd_one (psd_set (i := 8) nd rfl ?_)
      refine pd_tup ?_
      refine pad_cons ?_
      refine pd_ix ix_tup ?_
      refine pd_var (i := 8) rfl rfl ?_
      refine pd_int ?_
      refine vr_ixT (i := 0) (d := I p0) rfl ?_
      refine pad_cons ?_
      refine pd_var (i := 6) rfl rfl ?_
      refine pad_nil ?_
      exact ⟨by show 2 ≤ sizeLine; decide, (p0, cv), b4, rfl, rfl⟩
    refine pssd_one (psd_if ?_)
    (refine ptd_cmp op_eq ?_; refine pd_var (i := 4) rfl rfl ?_; refine pd_int ?_; refine vr_eq rfl ⟨_, rfl, ?_⟩)
    refine ite2 (fun c4 => ?_) (fun c4 => ?_)
    · refine pssd_one (psd_set (i := 8) nd rfl ?_)
      refine pd_tup ?_
      refine pad_cons ?_
      refine pd_op op_sub ?_
      refine pd_ix ix_tup ?_
      refine pd_var (i := 8) rfl rfl ?_
      refine pd_int ?_
      refine vr_ixT (i := 0) (d := I p0) rfl ?_
      refine pd_callB call_len_seq rfl hm.len PySem.boot_len ?_
      refine pad_cons ?_
      refine pd_var (i := 1) rfl rfl ?_
      refine pad_nil ?_
      refine va_len ?_
      refine vr_I ?_
      refine pad_cons ?_
      refine pd_ix ix_tup ?_
      refine pd_var (i := 8) rfl rfl ?_
      refine pd_int ?_
      refine vr_ixT (i := 1) (d := I p1) rfl ?_
      refine pad_nil ?_
      exact ⟨by show 2 ≤ sizeLine; decide, (_, p1), b4, rfl, rfl⟩
    refine pssd_one (psd_if ?_)
    (refine ptd_cmp op_eq ?_; refine pd_var (i := 4) rfl rfl ?_; refine pd_int ?_; refine vr_eq rfl ⟨_, rfl, ?_⟩)
    refine ite2 (fun c4 => ?_) (fun c4 => ?_)
    · refine pssd_one (psd_set (i := 8) nd rfl ?_)
      refine pd_tup ?_
      refine pad_cons ?_
      refine pd_ix ix_tup ?_
      refine pd_var (i := 8) rfl rfl ?_
      refine pd_int ?_
      refine vr_ixT (i := 0) (d := I p0) rfl ?_
      refine pad_cons ?_
      refine pd_op op_sub ?_
      refine pd_ix ix_tup ?_
      refine pd_var (i := 8) rfl rfl ?_
      refine pd_int ?_
      refine vr_ixT (i := 1) (d := I p1) rfl ?_
      refine pd_var (i := 3) rfl rfl ?_
      refine vr_I ?_
      refine pad_nil ?_
      exact ⟨by show 2 ≤ sizeLine; decide, (p0, _), b4, rfl, rfl⟩
    refine pssd_one (psd_set (i := 8) nd rfl ?_)
    refine pd_tup ?_
    refine pad_cons ?_
    refine pd_op op_add ?_
    refine pd_ix ix_tup ?_
    refine pd_var (i := 8) rfl rfl ?_
    refine pd_int ?_
    refine vr_ixT (i := 0) (d := I p0) rfl ?_
    refine pd_callB call_len_seq rfl hm.len PySem.boot_len ?_
    refine pad_cons ?_
    refine pd_var (i := 1) rfl rfl ?_
    refine pad_nil ?_
    refine va_len ?_
    refine vr_I ?_
    refine pad_cons ?_
    refine pd_op op_add ?_
    refine pd_ix ix_tup ?_
    refine pd_var (i := 8) rfl rfl ?_
    refine pd_int ?_
    refine vr_ixT (i := 1) (d := I p1) rfl ?_
    refine pd_op op_mul ?_
    refine pd_var (i := 3) rfl rfl ?_
    (refine pd_take hT hr (i := 0) rfl rfl (hB b4) ?_)
    refine pd_int ?_
    refine ⟨rfl, _, rfl, by decide, by decide, fun mv b5 m0 m1 => ?_⟩
    rw [pp]
    refine vr_IC (.inr ⟨by omega, by omega⟩) ?_
    refine vr_I ?_
    refine pad_nil ?_
    exact ⟨by show 2 ≤ sizeLine; decide, (_, _), b5, rfl, rfl⟩
  · rintro δ' w' ⟨q, b', rfl, rfl⟩
    refine pssd_one (psd_ret ?_)
    refine pd_op op_cat ?_
    refine pd_op op_cat ?_
    refine pd_slToE ?_
    refine pd_var (i := 2) rfl rfl ?_
    refine pd_var (i := 7) rfl rfl ?_
    refine ⟨_, pn, .inl rfl, rfl, ?_⟩
    rw [take_map]
    refine pd_lst ?_
    refine pad_cons ?_
    refine pd_var (i := 8) rfl rfl ?_
    refine pad_nil ?_
    refine ⟨by show 1 ≤ sizeLine; decide, ?_⟩
    refine vr_cat (by rw [List.length_map, lt, sizeLine_eq]; show pn + 1 ≤ _; omega) ?_
    refine pd_slFromE ?_
    refine pd_var (i := 2) rfl rfl ?_
    refine pd_op op_add ?_
    refine pd_var (i := 7) rfl rfl ?_
    refine pd_int ?_
    refine vr_I ?_
    refine ⟨_, pn + 1, .inl rfl, rfl, ?_⟩
    rw [drop_map]
    refine vr_cat (by rw [List.length_append, List.length_map, List.length_map, lt, ld, sizeLine_eq]; show pn + 1 + _ ≤ _; omega) ?_
    have e : (l.take pn).map tpI ++ [tpI q] ++ (l.drop (pn + 1)).map tpI = (l.take pn ++ [q] ++ l.drop (pn + 1)).map tpI := by
      rw [List.map_append, List.map_append]
      rfl
    rw [e]
    exact k _ b' (by rw [List.length_append, List.length_append, lt, ld]; show pn + 1 + _ ≤ _; omega)
end
end Tw

set_option Elab.async false
set_option linter.all false
set_option maxRecDepth 100000
set_option maxHeartbeats 2000000
/-! Bent islands. -/
namespace Tw
open PySem PySem.Spec PyProof.Rows L2 LamX DL Mth Grf
section
variable {P : Program} {w : PySem.World} {K : PySem.W.Frag} {mg : Str → Option Value} {base : Heap} {T : List (Addr × Str)} {C CU CB CM : Addr}
theorem scLBi : FnScope ["bag", "many", "island", "way", "case", "place"] ["bag", "many", "island"] (defScope sLBi) := ⟨rfl, rfl, rfl, by decide +kernel, rfl, by decide +kernel, by decide +kernel⟩
theorem ok_lbi {f : Addr} {fd : FuncData} (G : Fun K "_law_bent_island" "_law_bent_island" sLBi f fd) (hm : Nm2 mg) (hT : HasF P w K mg base T CX0 "_law_take" 1 ["bag", "many"] spTake) : FnOk P w K mg base CX0 2 f fd ["bag", "many", "island"] (spOf K T spLBi) := by
  refine fnD G scLBi (fun ds w κ χ h => ?_) (fun cdv A outer s H E ds w0 κ χ hr h => ?_)
  · obtain ⟨a, r, b, n, l, rfl, _⟩ := h
    rfl
  obtain ⟨a, r, b, n, l, rfl, hb, h1, h12, hz, k⟩ := h
  have nd := scLBi.nd
  have ne := hb.ne
  have hB : ∀ b, BagAt (bagPut w0 a r b) a r b := fun b => bag_put ne
  have pp : ∀ b b', bagPut (bagPut w0 a r b) a r b' = bagPut w0 a r b' := fun b b' => bag_put2 ne
  refine pssd_cons (psd_set (i := 3) nd rfl ?_)
  (refine pd_take hT hr (i := 0) rfl rfl hb ?_)
  refine pd_int ?_
  refine ⟨rfl, _, rfl, by decide, by decide, fun way b1 _ _ => ?_⟩
  refine pssd_cons (psd_set (i := 4) nd rfl ?_)
  (refine pd_take hT hr (i := 0) rfl rfl (hB b1) ?_)
  refine pd_var (i := 1) rfl rfl ?_
  refine ⟨rfl, _, rfl, by omega, lg9' (by omega) (by omega), fun cv b2 c0 c1 => ?_⟩
  rw [pp]
  refine pssd_cons (psd_set (i := 5) nd rfl ?_)
  (refine pd_take hT hr (i := 0) rfl rfl (hB b2) ?_)
  refine pd_op op_add ?_
  refine pd_callB call_len_seq rfl hm.len PySem.boot_len ?_
  refine pad_cons ?_
  refine pd_var (i := 2) rfl rfl ?_
  refine pad_nil ?_
  refine va_len ?_
  rw [List.length_map]
  refine pd_int ?_
  refine vr_I ?_
  refine ⟨rfl, _, rfl, by omega, lg9' (by omega) (by omega), fun pv b4 g0 g1 => ?_⟩
  rw [pp]
  obtain ⟨pn, rfl⟩ := Int.eq_ofNat_of_zero_le g0
  have hpn : pn ≤ l.length := by omega
  have lt : (l.take pn).length = pn := by rw [List.length_take]; omega
  have ld : ∀ q, (l.drop q).length = l.length - q := fun q => List.length_drop
  refine pssd_cons (psd_if ?_)
  refine pwd_pt ?_
  refine pwd_or ?_
  (refine ptd_cmp op_eq ?_; refine pd_var (i := 3) rfl rfl ?_; refine pd_int ?_; refine vr_eq rfl ⟨_, rfl, ?_⟩)
  have ret0 : ∀ (p1 p2 p3 p4 p5 p8 p9 p10 p11 p12 p13 p14 p15 : Pos) (nx bk ct : Dn → Wp → Prop), PSsD (cxOf CX0 P w K mg base ["bag", "many", "island", "way", "case", "place"] "_law_bent_island" (defScope sLBi) f cdv A outer s H E).nox T Wf noX
      [.Return (some (.BinOp (.BinOp (.Subscript (.Name "island" p1) (.Slice none (some (.Name "place" p2)) none p3) p4) .Add (.List [.Name "case" p5] p8) p9) .Add (.Subscript (.Name "island" p10) (.Slice (some (.Name "place" p11)) none none p12) p13) p14)) p15]
      [some (R a), some (I (n : Int)), some (.lst (l.map I)), some (I way), some (I cv), some (I (pn : Int))] (bagPut w0 a r b4) { nx := nx, rt := κ, bk := bk, ct := ct } := fun p1 p2 p3 p4 p5 p8 p9 p10 p11 p12 p13 p14 p15 nx bk ct => by
    refine pssd_one (psd_ret ?_)
    refine pd_op op_cat ?_
    refine pd_op op_cat ?_
    refine pd_slToE ?_
    refine pd_var (i := 2) rfl rfl ?_
    refine pd_var (i := 5) rfl rfl ?_
    refine ⟨_, pn, .inl rfl, rfl, ?_⟩
    rw [take_map]
    refine pd_lst ?_
    refine pad_cons ?_
    refine pd_var (i := 4) rfl rfl ?_
    refine pad_nil ?_
    refine ⟨by show 1 ≤ sizeLine; decide, ?_⟩
    refine vr_cat (by rw [List.length_map, lt, sizeLine_eq]; show pn + 1 ≤ _; omega) ?_
    refine pd_slFromE ?_
    refine pd_var (i := 2) rfl rfl ?_
    refine pd_var (i := 5) rfl rfl ?_
    refine ⟨_, pn, .inl rfl, rfl, ?_⟩
    rw [drop_map]
    refine vr_cat (by rw [List.length_append, List.length_map, List.length_map, lt, ld, sizeLine_eq]; show pn + 1 + _ ≤ _; omega) ?_
    have e : (l.take pn).map I ++ [I cv] ++ (l.drop pn).map I = (l.take pn ++ [cv] ++ l.drop pn).map I := by
      rw [List.map_append, List.map_append]
      rfl
    rw [e]
    exact k _ b4 (by rw [List.length_append, List.length_append, lt, ld]; show pn + 1 + _ ≤ _; omega)
  refine ite2 (fun c => ?_) (fun c => ?_)
  · exact iteT (ret0 _ _ _ _ _ _ _ _ _ _ _ _ _ _ _ _)
  refine pwd_or1 ?_
  refine ptd_cmp op_eq ?_
  refine pd_var (i := 5) rfl rfl ?_
  refine pd_callB call_len_seq rfl hm.len PySem.boot_len ?_
  refine pad_cons ?_
  refine pd_var (i := 2) rfl rfl ?_
  refine pad_nil ?_
  refine va_len ?_
  rw [List.length_map]
  refine vr_eq rfl ⟨_, rfl, ?_⟩
  rw [int_eq_dec]
  refine ite2 (fun c2 => ?_) (fun c2 => ?_)
  · exact ret0 _ _ _ _ _ _ _ _ _ _ _ _ _ _ _ _
  refine pssd_nil ?_
  have hlt : pn < l.length := by
    have : pn ≠ l.length := by simpa using c2
    omega
  have ep : l[pn]? = some l[pn] := List.getElem?_eq_getElem hlt
  generalize l[pn] = p at ep
  have ept : (l.map I)[pn]? = some (I p) := by
    rw [List.getElem?_map, ep]
    rfl
  refine pssd_cons (psd_if ?_)
  (refine ptd_cmp op_eq ?_; refine pd_var (i := 3) rfl rfl ?_; refine pd_int ?_; refine vr_eq rfl ⟨_, rfl, ?_⟩)
  refine ite2 (fun c3 => ?_) (fun c3 => ?_)
  · refine pssd_one (psd_ret ?_)
    refine pd_op op_cat ?_
    refine pd_slToE ?_
    refine pd_var (i := 2) rfl rfl ?_
    refine pd_var (i := 5) rfl rfl ?_
    refine ⟨_, pn, .inl rfl, rfl, ?_⟩
    rw [take_map]
    refine pd_slFromE ?_
    refine pd_var (i := 2) rfl rfl ?_
    refine pd_op op_add ?_
    refine pd_var (i := 5) rfl rfl ?_
    refine pd_int ?_
    refine vr_I ?_
    refine ⟨_, pn + 1, .inl rfl, rfl, ?_⟩
    rw [drop_map]
    refine vr_cat (by rw [List.length_map, List.length_map, lt, ld, sizeLine_eq]; omega) ?_
    rw [← List.map_append]
    exact k _ b4 (by rw [List.length_append, lt, ld]; omega)
  refine pssd_nil ?_
  refine pssd_cons (psd_if ?_)
  (refine ptd_cmp op_eq ?_; refine pd_var (i := 3) rfl rfl ?_; refine pd_int ?_; refine vr_eq rfl ⟨_, rfl, ?_⟩)
  refine ite2 (fun c4 => ?_) (fun c4 => ?_)
  · refine pssd_one (psd_ret ?_)
    refine pd_op op_cat ?_
    refine pd_revL ?_
    refine pd_var (i := 2) rfl rfl ?_
    refine ⟨_, .inl rfl, ?_⟩
    rw [← List.map_reverse]
    refine pd_lst ?_
    refine pad_cons ?_
    refine pd_ix ix_list ?_
    refine pd_var (i := 2) rfl rfl ?_
    refine pd_var (i := 5) rfl rfl ?_
    refine vr_ixL ept ?_
    refine pad_nil ?_
    refine ⟨by show 1 ≤ sizeLine; decide, ?_⟩
    refine vr_cat (by rw [List.length_map, List.length_reverse, sizeLine_eq]; show l.length + 1 ≤ _; omega) ?_
    have e : l.reverse.map I ++ [I p] = (l.reverse ++ [p]).map I := by
      rw [List.map_append]
      rfl
    rw [e]
    exact k _ b4 (by rw [List.length_append, List.length_reverse]; show l.length + 1 ≤ _; omega)
  refine pssd_nil ?_
  refine pssd_cons (psd_if ?_)
  (refine ptd_cmp op_eq ?_; refine pd_var (i := 3) rfl rfl ?_; refine pd_int ?_; refine vr_eq rfl ⟨_, rfl, ?_⟩)
  refine ite2 (fun c5 => ?_) (fun c5 => ?_)
  · refine pssd_one (psd_ret ?_)
    refine pd_op op_cat ?_
    refine pd_op op_cat ?_
    refine pd_slToE ?_
    refine pd_var (i := 2) rfl rfl ?_
    refine pd_var (i := 5) rfl rfl ?_
    refine ⟨_, pn, .inl rfl, rfl, ?_⟩
    rw [take_map]
    refine pd_lst ?_
    refine pad_cons ?_
    refine pd_op op_sub ?_
    refine pd_ix ix_list ?_
    refine pd_var (i := 2) rfl rfl ?_
    refine pd_var (i := 5) rfl rfl ?_
    refine vr_ixL ept ?_
    refine pd_var (i := 1) rfl rfl ?_
    refine vr_I ?_
    refine pad_nil ?_
    refine ⟨by show 1 ≤ sizeLine; decide, ?_⟩
    refine vr_cat (by rw [List.length_map, lt, sizeLine_eq]; show pn + 1 ≤ _; omega) ?_
    refine pd_slFromE ?_
    refine pd_var (i := 2) rfl rfl ?_
    refine pd_op op_add ?_
    refine pd_var (i := 5) rfl rfl ?_
    refine pd_int ?_
    refine vr_I ?_
    refine ⟨_, pn + 1, .inl rfl, rfl, ?_⟩
    rw [drop_map]
    refine vr_cat (by rw [List.length_append, List.length_map, List.length_map, lt, ld, sizeLine_eq]; show pn + 1 + _ ≤ _; omega) ?_
    have e : (l.take pn).map I ++ [I (p - (n : Int))] ++ (l.drop (pn + 1)).map I = (l.take pn ++ [p - (n : Int)] ++ l.drop (pn + 1)).map I := by
      rw [List.map_append, List.map_append]
      rfl
    refine (congrArg (fun d => κ (.lst d) _) e).mpr ?_
    exact k _ b4 (by rw [List.length_append, List.length_append, lt, ld]; show pn + 1 + _ ≤ _; omega)
  refine pssd_nil ?_
  refine pssd_cons (psd_if ?_)
  (refine ptd_cmp op_eq ?_; refine pd_var (i := 3) rfl rfl ?_; refine pd_int ?_; refine vr_eq rfl ⟨_, rfl, ?_⟩)
  refine ite2 (fun c6 => ?_) (fun c6 => ?_)
  · refine pssd_one (psd_ret ?_)
    refine pd_op op_cat ?_
    refine pd_var (i := 2) rfl rfl ?_
    refine pd_lst ?_
    refine pad_cons ?_
    refine pd_op op_add ?_
    refine pd_var (i := 1) rfl rfl ?_
    refine pd_var (i := 4) rfl rfl ?_
    refine vr_I ?_
    refine pad_nil ?_
    refine ⟨by show 1 ≤ sizeLine; decide, ?_⟩
    refine vr_cat (by rw [List.length_map, sizeLine_eq]; show l.length + 1 ≤ _; omega) ?_
    have e : l.map I ++ [I ((n : Int) + cv)] = (l ++ [(n : Int) + cv]).map I := by
      rw [List.map_append]
      rfl
    refine (congrArg (fun d => κ (.lst d) _) e).mpr ?_
    exact k _ b4 (by rw [List.length_append]; show l.length + 1 ≤ _; omega)
  refine pssd_nil ?_
  refine pssd_one (psd_ret ?_)
  refine pd_op op_cat ?_
  refine pd_var (i := 2) rfl rfl ?_
  refine pd_slToE ?_
  refine pd_lst ?_
  refine pad_cons ?_
  refine pd_op op_sub ?_
  refine pd_un un_neg ?_
  refine pd_int ?_
  refine vr_U ?_
  refine pd_var (i := 4) rfl rfl ?_
  refine vr_I ?_
  refine pad_cons ?_
  refine pd_op op_sub ?_
  (refine pd_op op_pow ?_; refine pd_int ?_; refine pd_int ?_; refine vr_IC ⟨by decide, by decide, by decide⟩ ?_)
  refine pd_int ?_
  refine vr_I ?_
  refine pad_nil ?_
  refine ⟨by show 2 ≤ sizeLine; decide, ?_⟩
  refine pd_op op_add ?_
  refine pd_int ?_
  refine pd_op op_mod ?_
  refine pd_var (i := 4) rfl rfl ?_
  refine pd_int ?_
  refine vr_IC (by decide) ?_
  refine vr_I ?_
  obtain ⟨cn, rfl⟩ := Int.eq_ofNat_of_zero_le c0
  refine ⟨_, 1 + cn % 2, .inl rfl, rfl, ?_⟩
  refine vr_cat (by rw [List.length_map, List.length_take, sizeLine_eq]; show l.length + min _ 2 ≤ _; omega) ?_
  have e : ∀ (x y : Int), l.map I ++ [I x, I y].take (1 + cn % 2) = (l ++ [x, y].take (1 + cn % 2)).map I := fun x y => by
    rw [List.map_append, ← take_map]
    rfl
  refine (congrArg (fun d => κ (.lst d) _) (e _ _)).mpr ?_
  exact k _ b4 (by rw [List.length_append, List.length_take]; show l.length + min _ 2 ≤ _; omega)
end
end Tw

set_option Elab.async false
set_option linter.all false
set_option maxRecDepth 100000
set_option maxHeartbeats 2000000
/-! What is found. -/
namespace Grf
open Mth Tw
theorem ChR.uniq {n : Nat} {rows : List (List Nat)} {F : Nat → Nat} {z here : Nat} {l l' : List (Nat × Nat)} (h : ChR n rows F z here l) (k : ChR n rows F z here l') : l = l' := by
  induction h generalizing l' with
  | nil => exact (chr_nil k).symm
  | cons q b r ih =>
    cases k with
    | nil => exact absurd rfl q
    | cons q' b' r' =>
      rw [b] at b'
      cases b'
      rw [ih r']
theorem mem_casts {m : List Nat} {x : Int} : x ∈ casts m ↔ ∃ o ∈ m, (o : Int) = x := List.mem_map
theorem isl_chk {n : Nat} {rows : List (List Nat)} (h : ∀ r ∈ rows, r.length = n) {i j : Nat} (hi : i < n) (hj : j < n) {a : List Nat} (F : IsFar n rows j a) (hf : ¬ Fa a i < n) : chkI n rows i j (casts (islN n rows i)) = true := by
  have J := jn_all _ rows rfl h
  have hm : ∀ o : Nat, (o : Int) ∈ casts (islN n rows i) ↔ o ∈ islN n rows i := fun o => by
    rw [mem_casts]
    constructor
    · rintro ⟨p, hp, e⟩
      have : p = o := by omega
      rw [← this]
      exact hp
    · exact fun z => ⟨o, z, rfl⟩
  have hn : ∀ o, o ∈ islN n rows i ↔ o < n ∧ Mth.Cn (Ed n rows) o i := fun o => by
    unfold islN
    rw [List.mem_filter, decide_eq_true_eq, List.mem_range]
    exact ⟨fun z => ⟨z.1, (J.iff o i z.1 hi).mp z.2⟩, fun z => ⟨z.1, (J.iff o i z.1 hi).mpr z.2⟩⟩
  have a1 : (casts (islN n rows i)).all (fun c => inB c n) = true := by
    rw [List.all_eq_true]
    intro x hx
    obtain ⟨o, ho, rfl⟩ := mem_casts.mp hx
    rw [inB_nat]
    exact decide_eq_true ((hn o).mp ho).1
  have a2 : decide ((i : Int) ∈ casts (islN n rows i)) = true := decide_eq_true ((hm i).mpr ((hn i).mpr ⟨hi, .refl i⟩))
  have a3 : decide ((j : Int) ∈ casts (islN n rows i)) = false := decide_eq_false fun z => hf ((mem_isl h hi hj F).mp ((hm j).mp z))
  unfold chkI
  rw [a1, a2, a3, Bool.true_and, Bool.not_false, Bool.true_and, Bool.true_and, List.all_eq_true]
  intro r hr
  rw [List.all_eq_true]
  intro c hc
  have hc' := List.mem_range.mp hc
  refine decide_eq_true fun ⟨d, hd, e⟩ => ?_
  obtain ⟨o, ho, rfl⟩ := mem_casts.mp hd
  obtain ⟨ho1, ho2⟩ := (hn o).mp ho
  rw [Int.toNat_natCast] at e
  exact (hm c).mpr ((hn c).mpr ⟨hc', (Mth.Cn.one ⟨hc', ho1, r, hr, e.symm⟩).trans ho2⟩)
theorem chkI_nil {n : Nat} {rows : List (List Nat)} {i j : Nat} : chkI n rows i j [] = false := by
  unfold chkI
  rw [decide_eq_false (by simp : ¬ ((i : Int) ∈ ([] : List Int)))]
  simp
end Grf
namespace Tw
open PySem PySem.Spec PyProof.Rows L2 LamX DL Mth Grf
abbrev sFo : Stmt := top 41
def spFo (C : Addr) : SpD := fun ds w κ χ => ∃ (n : Nat) (rows : List (List Nat)) (s z : Nat), ds = [spR C rows, rowsD rows, I (s : Int), I (z : Int)] ∧ rows ≠ [] ∧ (∀ r ∈ rows, r.length = n) ∧ 1 ≤ n ∧ n ≤ 12 ∧ rows.length ≤ 7 ∧ s < n ∧ z < n ∧ κ (B true) w
theorem ends_ok {CM CU : Addr} {r0 : List Nat} {rest : List (List Nat)} {f l : Nat} {w : Wp} {χ : XD} {ok : Prop} (hl : ∀ q ∈ r0 :: rest, q.length = r0.length) (h1 : 1 ≤ r0.length) (h12 : r0.length ≤ 12) (h7 : (r0 :: rest).length ≤ 7) (hf : f < r0.length) (hz : l < r0.length) (k : ok) : EndsX CM CU r0 rest (f : Int) (l : Int) w χ ok := by
  refine ⟨fun q hq => ?_, ?_, fun _ _ _ => k, fun _ z => absurd ⟨by omega, by omega⟩ z, fun _ _ z => absurd ⟨by omega, by omega⟩ z, fun q hq => ?_⟩
  · rw [hl q hq]
    exact ⟨h1, h12⟩
  · rw [List.length_cons] at h7
    omega
  · have h1 := List.mem_of_find?_eq_some hq
    have h2 := List.find?_some hq
    rw [decide_eq_true_eq] at h2
    exact absurd (hl q h1) h2
theorem sm_tps {n : Nat} {l : List (Nat × Nat)} (h : l.length ≤ 1000) : Sm (n + 2) (.lst (l.map tp)) (.lst (l.map tp)) := Sm.map (le_line h) fun p _ => .tup rfl (by show 2 ≤ sizeLine; decide) fun i x y h1 h2 => by
  rw [h1] at h2
  cases h2
  match i, h1 with
  | 0, h1 =>
    cases h1
    exact .int _
  | 1, h1 =>
    cases h1
    exact .int _
  | k + 2, h1 => simp at h1
theorem two_same {w : Wp} {n : Nat} {a b c d : D} (h1 : SmO w n a c) (h2 : SmO w n b d) : ∃ m xs es, n + 1 = m + 1 ∧ D.lst [c, d] = .lst es ∧ Lk w (.lst [a, b]) xs ∧ xs.length = es.length ∧ es.length ≤ sizeLine ∧ ∀ (i : Nat) (x y : D), xs[i]? = some x → es[i]? = some y → SmO w m x y :=
  ⟨n, [a, b], [c, d], rfl, rfl, .inl rfl, rfl, by show 2 ≤ sizeLine; decide, fun i x y e1 e2 => by
    match i, e1, e2 with
    | 0, e1, e2 =>
      cases e1
      cases e2
      exact h1
    | 1, e1, e2 =>
      cases e1
      cases e2
      exact h2
    | k + 2, e1, _ => simp at e1⟩
theorem sm_bl2 {n : Nat} {a b : Bool} : Sm (n + 1) (.lst [B a, B b]) (.lst [B a, B b]) := Sm.cons (.bl a) (Sm.cons (.bl b) Sm.nil (by decide)) (by show 2 ≤ sizeLine; decide)
section
variable {P : Program} {w : PySem.World} {K : PySem.W.Frag} {mg : Str → Option Value} {base : Heap} {T : List (Addr × Str)} {C CU CB CM : Addr}
theorem scFo : FnScope ["splits", "rows", "start", "last", "held", "chain", "island", "turn", "told", "holds", "papers", "found", "back", "split"] ["splits", "rows", "start", "last"] (defScope sFo) := ⟨rfl, rfl, rfl, by decide +kernel, rfl, by decide +kernel, by decide +kernel⟩
theorem ok_fo {f : Addr} {fd : FuncData} (G : Fun K "_law_found" "_law_found" sFo f fd) (hm : Nm2 mg) (c : SplC K C)
    (hC : HasF P w K mg base T CX0 "_law_chain" 3 ["rows", "start", "last"] spLCh) (hR : HasF P w K mg base T CX0 "_law_reached" 3 ["rows", "start"] spLRe)
    (hFC : HasF P w K mg base T (L2.CX P w) "find_chain" 7 ["splits", "first", "last"] (spFCh C CM CU)) (hCH : HasF P w K mg base T (L2.CX P w) "chain_holds" 6 ["splits", "first", "last", "chain"] (spChH C CM CU))
    (hFI : HasF P w K mg base T (L2.CX P w) "find_island" 9 ["splits", "first", "last"] (spFIs C CM CU)) (hIH : HasF P w K mg base T (L2.CX P w) "island_holds" 5 ["splits", "first", "last", "island"] (spIsH C CM CU))
    (hS : ∀ n, HasF P w K mg base T CX0 "_law_same" (n + 1) ["actual", "due"] (spSame n)) (hM : HasM P w K mg base T CX0 C "marks" 1 ["self"] (spMarks C)) :
    FnOk P w K mg base CX0 10 f fd ["splits", "rows", "start", "last"] (spOf K T (spFo C)) := by
  refine fnD G scFo (fun ds w κ χ h => ?_) (fun cdv A outer s H E ds w0 κ χ hr h => ?_)
  · obtain ⟨n, rows, s, z, rfl, _⟩ := h
    rfl
  obtain ⟨n, rows, s0, z, rfl, hne, hl, h1, h12, h7, hs, hz, k⟩ := h
  have nd := scFo.nd
  obtain ⟨r0, rest, rfl⟩ : ∃ r0 rest, rows = r0 :: rest := by
    cases rows with
    | nil => exact absurd rfl hne
    | cons a b => exact ⟨a, b, rfl⟩
  obtain rfl : r0.length = n := hl r0 (List.mem_cons_self ..)
  obtain ⟨a, Fz⟩ := far_ex r0.length (r0 :: rest) z hz
  obtain ⟨as, Fs⟩ := far_ex r0.length (r0 :: rest) s0 hs
  have ends : ∀ {w : Wp} {χ : XD} {ok : Prop}, ok → EndsX CM CU r0 rest (s0 : Int) (z : Int) w χ ok := fun k => ends_ok hl h1 h12 h7 hs hz k
  refine pssd_cons (psd_set (i := 4) nd rfl ?_)
  refine pd_callTy call_list_of rfl hm.list bt_list ?_
  (refine pad_cons ?_; refine pd_var (i := 0) rfl rfl ?_)
  refine pad_nil ?_
  refine va_listS ?_
  refine pssd_cons (psd_set (i := 5) nd rfl ?_)
  refine pd_has hC (hr.mono (by decide)) (fun _ => pass0At) ?_
  (refine pad_cons ?_; refine pd_var (i := 1) rfl rfl ?_)
  (refine pad_cons ?_; refine pd_var (i := 2) rfl rfl ?_)
  (refine pad_cons ?_; refine pd_var (i := 3) rfl rfl ?_)
  refine pad_nil ?_
  -- the end
  have fin : ∀ (dch disl : D), ((∃ ch : List (Nat × Nat), ChR r0.length (r0 :: rest) (Fa a) z s0 ch ∧ Fa a s0 < r0.length ∧ ch.length ≤ 12 ∧ dch = .lst (ch.map tp) ∧ disl = N) ∨ (r0.length ≤ Fa a s0 ∧ dch = N ∧ disl = nats (islN r0.length (r0 :: rest) s0))) →
      PSsD (cxOf CX0 P w K mg base ["splits", "rows", "start", "last", "held", "chain", "island", "turn", "told", "holds", "papers", "found", "back", "split"] "_law_found" (defScope sFo) f cdv A outer s H E).nox T Wf noX ((defBody sFo).drop 3)
        [some (spR C (r0 :: rest)), some (rowsD (r0 :: rest)), some (I (s0 : Int)), some (I (z : Int)), some (spR C (r0 :: rest)), some dch, some disl, none, none, none, none, none, none, none] w0 { nx := fun _ w' => κ DL.N w', rt := κ } := by
    intro dch disl hd
    refine pssd_cons (psd_for PassesOwn.never rfl ?_)
    refine it_range hm.range ?_
    refine pd_int ?_
    refine ⟨2, rfl, by decide, ?_⟩
    refine ⟨fun i δ' w' => ∃ (x7 x8 x9 x10 x11 x12 : Option D), δ' = [some (spR C (r0 :: rest)), some (rowsD (r0 :: rest)), some (I (s0 : Int)), some (I (z : Int)), some (spR C (r0 :: rest)), some dch, some disl, x7, x8, x9, x10, x11, x12, none] ∧ w' = w0, ⟨none, none, none, none, none, none, rfl, rfl⟩, ?_, ?_⟩
    · rintro i d δ' w' hd' ⟨x7, x8, x9, x10, x11, x12, rfl, rfl⟩
      refine pgd_name (i := 7) nd rfl ?_
      rcases hd with ⟨ch, hch, hlt, hcl, rfl, rfl⟩ | ⟨hle, rfl, rfl⟩
      · refine pssd_cons (psd_set (i := 8) nd rfl ?_)
        refine pd_lst ?_
        refine pad_cons ?_
        refine pd_has hFC (hr.mono (by decide)) (fun _ => passLf) ?_
        (refine pad_cons ?_; refine pd_var (i := 4) rfl rfl ?_)
        (refine pad_cons ?_; refine pd_var (i := 2) rfl rfl ?_)
        (refine pad_cons ?_; refine pd_var (i := 3) rfl rfl ?_)
        refine pad_nil ?_
        refine ⟨r0, rest, (s0 : Int), (z : Int), rfl, ends ⟨a, Fz, fun q => absurd hlt (Nat.not_lt.mpr q), fun _ ch2 hch2 _ b hb => ?_⟩⟩
        obtain rfl : ch = ch2 := hch.uniq hch2
        refine pad_cons ?_
        refine pd_has hFI (hr.mono (by decide)) (fun _ => passLf) ?_
        (refine pad_cons ?_; refine pd_var (i := 4) rfl rfl ?_)
        (refine pad_cons ?_; refine pd_var (i := 2) rfl rfl ?_)
        (refine pad_cons ?_; refine pd_var (i := 3) rfl rfl ?_)
        refine pad_nil ?_
        refine ⟨r0, rest, (s0 : Int), (z : Int), rfl, ends ⟨a, Fz, fun _ => ?_, fun q => absurd hlt (Nat.not_lt.mpr q)⟩⟩
        refine pad_nil ⟨by show 2 ≤ sizeLine; decide, ?_⟩
        refine pssd_cons (psd_if ?_)
        refine ptd_not ?_
        refine ptd_val ?_
        refine pd_has (hS 3) (hr.mono (by decide)) (fun _ => pass0At) ?_
        (refine pad_cons ?_; refine pd_var (i := 8) rfl rfl ?_)
        refine pad_cons ?_
        refine pd_lst ?_
        (refine pad_cons ?_; refine pd_var (i := 5) rfl rfl ?_)
        (refine pad_cons ?_; refine pd_var (i := 6) rfl rfl ?_)
        refine pad_nil ⟨by show 2 ≤ sizeLine; decide, ?_⟩
        refine pad_nil ?_
        refine ⟨_, _, rfl, .inr (two_same (.inr ⟨b, _, rfl, wu_same, sm_tps (by omega)⟩) (.inl .non)), ?_⟩
        refine ⟨_, rfl, ?_⟩
        refine iteF ?_
        refine pssd_nil ?_
        refine pssd_cons (psd_set (i := 9) nd rfl ?_)
        refine pd_lst ?_
        refine pad_cons ?_
        refine pd_cmp op_notN ?_
        refine pd_var (i := 5) rfl rfl ?_
        refine pd_non ?_
        refine vr_notN ?_
        refine pad_cons ?_
        refine pd_cmp op_notN ?_
        refine pd_var (i := 6) rfl rfl ?_
        refine pd_non ?_
        refine vr_notN ?_
        refine pad_nil ⟨by show 2 ≤ sizeLine; decide, ?_⟩
        refine pssd_cons (psd_set (i := 10) nd rfl ?_)
        refine pd_lst ?_
        refine pad_cons ?_
        refine pd_if ?_
        refine ptd_cmp op_isN ?_
        refine pd_var (i := 5) rfl rfl ?_
        refine pd_non ?_
        refine vr_isN ⟨_, rfl, ?_⟩
        refine iteF ?_
        refine pd_callTy call_list_of rfl hm.list bt_list ?_
        refine pad_cons ?_
        refine pd_ix ix_list ?_
        refine pd_var (i := 8) rfl rfl ?_
        refine pd_int ?_
        refine vr_ixL (i := 0) (d := R b) rfl ?_
        refine pad_nil ?_
        refine va_listK (.inr ⟨b, rfl, wu_same⟩) ?_
        refine pad_cons ?_
        refine pd_if ?_
        refine ptd_cmp op_isN ?_
        refine pd_var (i := 6) rfl rfl ?_
        refine pd_non ?_
        refine vr_isN ⟨_, rfl, ?_⟩
        refine iteT ?_
        refine pd_lst ?_
        refine pad_nil ⟨Nat.zero_le _, ?_⟩
        refine pad_nil ⟨by show 2 ≤ sizeLine; decide, ?_⟩
        refine pssd_cons (psd_set (i := 11) nd rfl ?_)
        refine pd_lst ?_
        refine pad_cons ?_
        refine pd_has hCH (hr.mono (by decide)) (fun _ => passLf) ?_
        (refine pad_cons ?_; refine pd_var (i := 4) rfl rfl ?_)
        (refine pad_cons ?_; refine pd_var (i := 2) rfl rfl ?_)
        (refine pad_cons ?_; refine pd_var (i := 3) rfl rfl ?_)
        refine pad_cons ?_
        refine pd_ix ix_list ?_
        refine pd_var (i := 10) rfl rfl ?_
        refine pd_int ?_
        refine vr_ixL (i := 0) (d := .lst (ch.map tp)) rfl ?_
        refine pad_nil ?_
        rw [tp_cast]
        refine ⟨r0, rest, (s0 : Int), (z : Int), castP ch, rfl, ends ?_⟩
        have ec : chkC r0.length (r0 :: rest) ((z : Int)).toNat ((s0 : Int)).toNat (castP ch) = true := hch.chk
        rw [ec]
        refine pad_cons ?_
        refine pd_has hIH (hr.mono (by decide)) (fun _ => passLf) ?_
        (refine pad_cons ?_; refine pd_var (i := 4) rfl rfl ?_)
        (refine pad_cons ?_; refine pd_var (i := 2) rfl rfl ?_)
        (refine pad_cons ?_; refine pd_var (i := 3) rfl rfl ?_)
        refine pad_cons ?_
        refine pd_ix ix_list ?_
        refine pd_var (i := 10) rfl rfl ?_
        refine pd_int ?_
        refine vr_ixL (i := 1) (d := .lst []) rfl ?_
        refine pad_nil ?_
        refine ⟨r0, rest, (s0 : Int), (z : Int), [], rfl, Nat.zero_le _, ends ?_⟩
        have ei : chkI r0.length (r0 :: rest) ((s0 : Int)).toNat ((z : Int)).toNat [] = false := chkI_nil
        rw [ei]
        refine pad_nil ⟨by show 2 ≤ sizeLine; decide, ?_⟩
        refine pssd_cons (psd_if ?_)
        refine ptd_not ?_
        refine ptd_val ?_
        refine pd_has (hS 1) (hr.mono (by decide)) (fun _ => pass0At) ?_
        (refine pad_cons ?_; refine pd_var (i := 11) rfl rfl ?_)
        (refine pad_cons ?_; refine pd_var (i := 9) rfl rfl ?_)
        refine pad_nil ?_
        refine ⟨_, _, rfl, .inl (.inl sm_bl2), ?_⟩
        refine ⟨_, rfl, ?_⟩
        refine iteF ?_
        refine pssd_nil ?_
        refine pssd_cons (psd_set (i := 12) nd rfl ?_)
        refine pd_if ?_
        refine ptd_cmp op_isN ?_
        refine pd_ix ix_list ?_
        refine pd_var (i := 8) rfl rfl ?_
        refine pd_int ?_
        refine vr_ixL (i := 0) (d := R b) rfl ?_
        refine pd_non ?_
        refine vr_isN ⟨_, rfl, ?_⟩
        refine iteF ?_
        refine pd_ix ix_list ?_
        refine pd_var (i := 8) rfl rfl ?_
        refine pd_int ?_
        refine vr_ixL (i := 0) (d := R b) rfl ?_
        refine pssd_cons (psd_expr ?_)
        refine pd_bm PySem.F.plainAttrs_list PySem.F.slot_list_append PySem.F.type_list_append mt_append ?_
        refine pd_var (i := 12) rfl rfl ?_
        refine ⟨⟨rfl, _, wu_same⟩, ?_⟩
        refine pad_cons ?_
        refine pd_int ?_
        refine pad_nil ?_
        refine vm_append wu_same (by rw [List.length_map]; exact small1000 (by omega)) ?_
        rw [wu_wu]
        refine pssd_one (psd_expr ?_)
        refine pd_drop ?_
        refine pd_bm0 PySem.F.plainAttrs_list PySem.F.slot_list_reverse PySem.F.type_list_reverse mt_reverse ?_
        refine pd_var (i := 12) rfl rfl ?_
        refine ⟨⟨rfl, _, wu_same⟩, ?_⟩
        refine vm_reverse wu_same ?_
        rw [wu_wu]
        refine ⟨b, ?_⟩
        rw [wd_wu hb]
        exact ⟨_, _, _, _, _, _, rfl, rfl⟩
      · have hil : (islN r0.length (r0 :: rest) s0).length ≤ 12 := by
          unfold islN
          exact Nat.le_trans (List.length_filter_le _ _) (by rw [List.length_range]; exact h12)
        refine pssd_cons (psd_set (i := 8) nd rfl ?_)
        refine pd_lst ?_
        refine pad_cons ?_
        refine pd_has hFC (hr.mono (by decide)) (fun _ => passLf) ?_
        (refine pad_cons ?_; refine pd_var (i := 4) rfl rfl ?_)
        (refine pad_cons ?_; refine pd_var (i := 2) rfl rfl ?_)
        (refine pad_cons ?_; refine pd_var (i := 3) rfl rfl ?_)
        refine pad_nil ?_
        refine ⟨r0, rest, (s0 : Int), (z : Int), rfl, ends ⟨a, Fz, fun _ => ?_, fun q => absurd q (Nat.not_lt.mpr hle)⟩⟩
        refine pad_cons ?_
        refine pd_has hFI (hr.mono (by decide)) (fun _ => passLf) ?_
        (refine pad_cons ?_; refine pd_var (i := 4) rfl rfl ?_)
        (refine pad_cons ?_; refine pd_var (i := 2) rfl rfl ?_)
        (refine pad_cons ?_; refine pd_var (i := 3) rfl rfl ?_)
        refine pad_nil ?_
        refine ⟨r0, rest, (s0 : Int), (z : Int), rfl, ends ⟨a, Fz, fun q => absurd q (Nat.not_lt.mpr hle), fun _ b hb => ?_⟩⟩
        refine pad_nil ⟨by show 2 ≤ sizeLine; decide, ?_⟩
        refine pssd_cons (psd_if ?_)
        refine ptd_not ?_
        refine ptd_val ?_
        refine pd_has (hS 3) (hr.mono (by decide)) (fun _ => pass0At) ?_
        (refine pad_cons ?_; refine pd_var (i := 8) rfl rfl ?_)
        refine pad_cons ?_
        refine pd_lst ?_
        (refine pad_cons ?_; refine pd_var (i := 5) rfl rfl ?_)
        (refine pad_cons ?_; refine pd_var (i := 6) rfl rfl ?_)
        refine pad_nil ⟨by show 2 ≤ sizeLine; decide, ?_⟩
        refine pad_nil ?_
        refine ⟨_, _, rfl, .inr (two_same (.inl .non) (.inr ⟨b, _, rfl, wu_same, sm_nats (Nat.le_trans hil (by decide))⟩)), ?_⟩
        refine ⟨_, rfl, ?_⟩
        refine iteF ?_
        refine pssd_nil ?_
        refine pssd_cons (psd_set (i := 9) nd rfl ?_)
        refine pd_lst ?_
        refine pad_cons ?_
        refine pd_cmp op_notN ?_
        refine pd_var (i := 5) rfl rfl ?_
        refine pd_non ?_
        refine vr_notN ?_
        refine pad_cons ?_
        refine pd_cmp op_notN ?_
        refine pd_var (i := 6) rfl rfl ?_
        refine pd_non ?_
        refine vr_notN ?_
        refine pad_nil ⟨by show 2 ≤ sizeLine; decide, ?_⟩
        refine pssd_cons (psd_set (i := 10) nd rfl ?_)
        refine pd_lst ?_
        refine pad_cons ?_
        refine pd_if ?_
        refine ptd_cmp op_isN ?_
        refine pd_var (i := 5) rfl rfl ?_
        refine pd_non ?_
        refine vr_isN ⟨_, rfl, ?_⟩
        refine iteT ?_
        refine pd_lst ?_
        refine pad_nil ⟨Nat.zero_le _, ?_⟩
        refine pad_cons ?_
        refine pd_if ?_
        refine ptd_cmp op_isN ?_
        refine pd_var (i := 6) rfl rfl ?_
        refine pd_non ?_
        refine vr_isN ⟨_, rfl, ?_⟩
        refine iteF ?_
        refine pd_callTy call_list_of rfl hm.list bt_list ?_
        refine pad_cons ?_
        refine pd_ix ix_list ?_
        refine pd_var (i := 8) rfl rfl ?_
        refine pd_int ?_
        refine vr_ixL (i := 1) (d := R b) rfl ?_
        refine pad_nil ?_
        refine va_listK (.inr ⟨b, rfl, wu_same⟩) ?_
        refine pad_nil ⟨by show 2 ≤ sizeLine; decide, ?_⟩
        refine pssd_cons (psd_set (i := 11) nd rfl ?_)
        refine pd_lst ?_
        refine pad_cons ?_
        refine pd_has hCH (hr.mono (by decide)) (fun _ => passLf) ?_
        (refine pad_cons ?_; refine pd_var (i := 4) rfl rfl ?_)
        (refine pad_cons ?_; refine pd_var (i := 2) rfl rfl ?_)
        (refine pad_cons ?_; refine pd_var (i := 3) rfl rfl ?_)
        refine pad_cons ?_
        refine pd_ix ix_list ?_
        refine pd_var (i := 10) rfl rfl ?_
        refine pd_int ?_
        refine vr_ixL (i := 0) (d := .lst []) rfl ?_
        refine pad_nil ?_
        refine ⟨r0, rest, (s0 : Int), (z : Int), [], rfl, ends ?_⟩
        have ec : chkC r0.length (r0 :: rest) ((z : Int)).toNat ((s0 : Int)).toNat [] = false := decide_eq_false fun q => by
          have q2 : s0 = z := q
          have := Fz.z0 hz
          rw [q2] at hle
          omega
        rw [ec]
        refine pad_cons ?_
        refine pd_has hIH (hr.mono (by decide)) (fun _ => passLf) ?_
        (refine pad_cons ?_; refine pd_var (i := 4) rfl rfl ?_)
        (refine pad_cons ?_; refine pd_var (i := 2) rfl rfl ?_)
        (refine pad_cons ?_; refine pd_var (i := 3) rfl rfl ?_)
        refine pad_cons ?_
        refine pd_ix ix_list ?_
        refine pd_var (i := 10) rfl rfl ?_
        refine pd_int ?_
        refine vr_ixL (i := 1) (d := .lst (nl (islN r0.length (r0 :: rest) s0))) rfl ?_
        refine pad_nil ?_
        refine ⟨r0, rest, (s0 : Int), (z : Int), casts (islN r0.length (r0 :: rest) s0), by rw [nl_casts], by unfold casts; rw [List.length_map]; omega, ends ?_⟩
        have ei : chkI r0.length (r0 :: rest) ((s0 : Int)).toNat ((z : Int)).toNat (casts (islN r0.length (r0 :: rest) s0)) = true := isl_chk hl hs hz Fz (Nat.not_lt.mpr hle)
        rw [ei]
        refine pad_nil ⟨by show 2 ≤ sizeLine; decide, ?_⟩
        refine pssd_cons (psd_if ?_)
        refine ptd_not ?_
        refine ptd_val ?_
        refine pd_has (hS 1) (hr.mono (by decide)) (fun _ => pass0At) ?_
        (refine pad_cons ?_; refine pd_var (i := 11) rfl rfl ?_)
        (refine pad_cons ?_; refine pd_var (i := 9) rfl rfl ?_)
        refine pad_nil ?_
        refine ⟨_, _, rfl, .inl (.inl sm_bl2), ?_⟩
        refine ⟨_, rfl, ?_⟩
        refine iteF ?_
        refine pssd_nil ?_
        refine pssd_cons (psd_set (i := 12) nd rfl ?_)
        refine pd_if ?_
        refine ptd_cmp op_isN ?_
        refine pd_ix ix_list ?_
        refine pd_var (i := 8) rfl rfl ?_
        refine pd_int ?_
        refine vr_ixL (i := 0) (d := N) rfl ?_
        refine pd_non ?_
        refine vr_isN ⟨_, rfl, ?_⟩
        refine iteT ?_
        refine pd_ix ix_list ?_
        refine pd_var (i := 8) rfl rfl ?_
        refine pd_int ?_
        refine vr_ixL (i := 1) (d := R b) rfl ?_
        refine pssd_cons (psd_expr ?_)
        refine pd_bm PySem.F.plainAttrs_list PySem.F.slot_list_append PySem.F.type_list_append mt_append ?_
        refine pd_var (i := 12) rfl rfl ?_
        refine ⟨⟨rfl, _, wu_same⟩, ?_⟩
        refine pad_cons ?_
        refine pd_int ?_
        refine pad_nil ?_
        refine vm_append wu_same (by rw [nl_len]; exact small1000 (Nat.le_trans hil (by decide))) ?_
        rw [wu_wu]
        refine pssd_one (psd_expr ?_)
        refine pd_drop ?_
        refine pd_bm0 PySem.F.plainAttrs_list PySem.F.slot_list_reverse PySem.F.type_list_reverse mt_reverse ?_
        refine pd_var (i := 12) rfl rfl ?_
        refine ⟨⟨rfl, _, wu_same⟩, ?_⟩
        refine vm_reverse wu_same ?_
        rw [wu_wu]
        refine ⟨b, ?_⟩
        rw [wd_wu hb]
        exact ⟨_, _, _, _, _, _, rfl, rfl⟩
    · rintro δ' w' ⟨x7, x8, x9, x10, x11, x12, rfl, rfl⟩
      refine pssd_one (psd_ret ?_)
      refine pd_has (hS 2) (hr.mono (by decide)) (fun _ => pass0At) ?_
      refine pad_cons ?_
      refine pd_lc (own := [("split", 13)]) (is := [13]) rfl nd (blkOk_by rfl) (by decide) ?_
      refine it_list ?_
      refine pd_var (i := 4) rfl rfl ?_
      refine ⟨_, rfl, ?_⟩
      refine lcd_map (xs := r0 :: rest) (g := fun r => spl C (lowG r)) (fun r => nats (lowG r)) (small1000 (by omega)) (fun r hrm s H0 C1 cl1 fp1 => ?_) ?_
      · refine pgl_name nd rfl ?_
        intro s H0 C1 cl1 fp1
        refine ptsd_nil ?_
        intro s H0 C1 cl1 fp1
        refine pd_frz ?_
        refine pd_hasm0 c.cl hM (hr.mono (by decide)) (fun _ => pass0At) ?_
        refine pd_var (i := 13) rfl rfl ?_
        refine ⟨ins_spl (by decide), lowG r, rfl, fun a ha => ?_⟩
        refine ⟨a, _, rfl, wu_same, ?_⟩
        rw [wd_wu ha]
        exact ⟨rfl, rfl, rfl⟩
      refine pad_cons ?_
      refine pd_lc (own := [("split", 13)]) (is := [13]) rfl nd (blkOk_by rfl) (by decide) ?_
      refine it_list ?_
      refine pd_var (i := 0) rfl rfl ?_
      refine ⟨_, rfl, ?_⟩
      refine lcd_map (xs := r0 :: rest) (g := fun r => spl C (lowG r)) (fun r => nats (lowG r)) (small1000 (by omega)) (fun r hrm s H0 C1 cl1 fp1 => ?_) ?_
      · refine pgl_name nd rfl ?_
        intro s H0 C1 cl1 fp1
        refine ptsd_nil ?_
        intro s H0 C1 cl1 fp1
        refine pd_frz ?_
        refine pd_hasm0 c.cl hM (hr.mono (by decide)) (fun _ => pass0At) ?_
        refine pd_var (i := 13) rfl rfl ?_
        refine ⟨ins_spl (by decide), lowG r, rfl, fun a ha => ?_⟩
        refine ⟨a, _, rfl, wu_same, ?_⟩
        rw [wd_wu ha]
        exact ⟨rfl, rfl, rfl⟩
      refine pad_nil ?_
      refine ⟨_, _, rfl, .inl (.inl (Sm.map (le_line (by omega)) fun r hrm => sm_nats (by rw [rlen, hl r hrm]; omega))), ?_⟩
      exact k
  refine ⟨r0.length, r0 :: rest, s0, z, a, rfl, hne, hl, h12, h7, hs, hz, Fz, fun hle => ?_, fun hlt ch hch hcl => ?_⟩
  · refine pssd_cons (psd_set (i := 6) nd rfl ?_)
    refine pd_if ?_
    refine ptd_cmp op_notN ?_
    refine pd_var (i := 5) rfl rfl ?_
    refine pd_non ?_
    refine vr_notN ⟨_, rfl, ?_⟩
    refine iteF ?_
    refine pd_has hR (hr.mono (by decide)) (fun _ => pass0At) ?_
    (refine pad_cons ?_; refine pd_var (i := 1) rfl rfl ?_)
    (refine pad_cons ?_; refine pd_var (i := 2) rfl rfl ?_)
    refine pad_nil ?_
    refine ⟨r0.length, r0 :: rest, s0, as, rfl, hne, hl, h12, hs, Fs, ?_⟩
    rw [← isl_far hl hs Fs]
    exact fin N _ (.inr ⟨hle, rfl, rfl⟩)
  · refine pssd_cons (psd_set (i := 6) nd rfl ?_)
    refine pd_if ?_
    refine ptd_cmp op_notN ?_
    refine pd_var (i := 5) rfl rfl ?_
    refine pd_non ?_
    refine vr_notN ⟨_, rfl, ?_⟩
    refine iteT ?_
    refine pd_non ?_
    exact fin _ _ (.inl ⟨ch, hch, hlt, hcl, rfl, rfl⟩)
end
end Tw

set_option Elab.async false
set_option linter.all false
set_option maxRecDepth 100000
set_option maxHeartbeats 2000000
/-! Papers. -/
namespace Tw
open PySem PySem.Spec PyProof.Rows L2 LamX DL Mth Grf
abbrev sPa : Stmt := top 40
def spPa (C : Addr) : SpD := fun ds w κ χ => ∃ (a r : Addr) (b : Bag) (n : Nat) (rows : List (List Nat)) (s z : Nat), ds = [R a, spR C rows, rowsD rows, I (s : Int), I (z : Int)] ∧ BagAt w a r b ∧ rows ≠ [] ∧ (∀ r ∈ rows, r.length = n) ∧ 1 ≤ n ∧ n ≤ 12 ∧ rows.length ≤ 7 ∧ s < n ∧ z < n ∧ ∀ b', κ (B true) (bagPut w a r b')
theorem sm_tpis {n : Nat} {l : List (Int × Int)} (h : l.length ≤ 1000) : Sm (n + 2) (.lst (l.map tpI)) (.lst (l.map tpI)) := Sm.map (le_line h) fun p _ => .tup rfl (by show 2 ≤ sizeLine; decide) fun i x y h1 h2 => by
  rw [h1] at h2
  cases h2
  match i, h1 with
  | 0, h1 =>
    cases h1
    exact .int _
  | 1, h1 =>
    cases h1
    exact .int _
  | k + 2, h1 => simp at h1
theorem casts_length (m : List Nat) : (casts m).length = m.length := List.length_map _
abbrev NPa : List Str := ["bag", "splits", "rows", "start", "last", "steps", "turn", "island", "more", "held", "kept", "told", "due", "case"]
section
variable {P : Program} {w : PySem.World} {K : PySem.W.Frag} {mg : Str → Option Value} {base : Heap} {T : List (Addr × Str)} {C CU CB CM : Addr}
theorem scPa : FnScope NPa ["bag", "splits", "rows", "start", "last"] (defScope sPa) := ⟨rfl, rfl, rfl, by decide +kernel, rfl, by decide +kernel, by decide +kernel⟩
theorem ok_pa {f : Addr} {fd : FuncData} (G : Fun K "_law_papers" "_law_papers" sPa f fd) (hm : Nm2 mg) (hT : HasF P w K mg base T CX0 "_law_take" 1 ["bag", "many"] spTake)
    (hSt : HasF P w K mg base T CX0 "_law_steps" 4 ["bag", "rows", "start", "last"] spLSt) (hBs : HasF P w K mg base T CX0 "_law_bent_steps" 2 ["bag", "rows", "steps"] spLBs) (hBi : HasF P w K mg base T CX0 "_law_bent_island" 2 ["bag", "many", "island"] spLBi)
    (hR : HasF P w K mg base T CX0 "_law_reached" 3 ["rows", "start"] spLRe) (hLC : HasF P w K mg base T CX0 "_law_chain_holds" 1 ["rows", "start", "last", "chain"] spLChH) (hLI : HasF P w K mg base T CX0 "_law_island_holds" 1 ["rows", "start", "last", "island"] spLIsH)
    (hCH : HasF P w K mg base T (L2.CX P w) "chain_holds" 6 ["splits", "first", "last", "chain"] (spChH C CM CU)) (hIH : HasF P w K mg base T (L2.CX P w) "island_holds" 5 ["splits", "first", "last", "island"] (spIsH C CM CU))
    (hS : ∀ n, HasF P w K mg base T CX0 "_law_same" (n + 1) ["actual", "due"] (spSame n)) :
    FnOk P w K mg base CX0 7 f fd ["bag", "splits", "rows", "start", "last"] (spOf K T (spPa C)) := by
  refine fnD G scPa (fun ds w κ χ h => ?_) (fun cdv A outer s H E ds w0 κ χ hr h => ?_)
  · obtain ⟨a, r, b, n, rows, s, z, rfl, _⟩ := h
    rfl
  obtain ⟨a, r, b, n, rows, s0, z, rfl, hb, hne, hl, h1, h12, h7, hs, hz, k⟩ := h
  have nd := scPa.nd
  have ne := hb.ne
  have hB : ∀ b, BagAt (bagPut w0 a r b) a r b := fun b => bag_put ne
  have pp : ∀ b b', bagPut (bagPut w0 a r b) a r b' = bagPut w0 a r b' := fun b b' => bag_put2 ne
  obtain ⟨r0, rest, rfl⟩ : ∃ r0 rest, rows = r0 :: rest := by
    cases rows with
    | nil => exact absurd rfl hne
    | cons a b => exact ⟨a, b, rfl⟩
  obtain rfl : r0.length = n := hl r0 (List.mem_cons_self ..)
  have e0 : (List.map (fun (k : Nat) => I (k : Int)) r0).length = r0.length := List.length_map _
  obtain ⟨as, Fs⟩ := far_ex r0.length (r0 :: rest) s0 hs
  have ends : ∀ {w : Wp} {χ : XD} {ok : Prop}, ok → EndsX CM CU r0 rest (s0 : Int) (z : Int) w χ ok := fun k => ends_ok hl h1 h12 h7 hs hz k
  refine pssd_cons (psd_set (i := 5) nd rfl ?_)
  refine pd_has hSt (hr.mono (by decide)) (fun _ => pass0At) ?_
  (refine pad_cons ?_; refine pd_var (i := 0) rfl rfl ?_)
  (refine pad_cons ?_; refine pd_var (i := 2) rfl rfl ?_)
  (refine pad_cons ?_; refine pd_var (i := 3) rfl rfl ?_)
  (refine pad_cons ?_; refine pd_var (i := 4) rfl rfl ?_)
  refine pad_nil ?_
  refine ⟨a, r, b, r0.length, r0 :: rest, s0, z, rfl, hb, hne, hl, h12, h7, hs, hz, fun l b1 hlen => ?_⟩
  -- bent steps
  refine pssd_cons (psd_for PassesOwn.never rfl ?_)
  refine it_range hm.range ?_
  refine pd_take hT (hr.mono (by decide)) (i := 0) rfl rfl (hB b1) ?_
  refine pd_int ?_
  refine ⟨rfl, _, rfl, by decide, by decide, fun tv b2 t0 t1 => ?_⟩
  rw [pp]
  obtain ⟨tn, rfl⟩ := Int.eq_ofNat_of_zero_le t0
  refine ⟨tn, rfl, by omega, ?_⟩
  refine ⟨fun i δ' w' => ∃ (l : List (Int × Int)) (b' : Bag) (x6 : Option D), δ' = [some (R a), some (spR C (r0 :: rest)), some (rowsD (r0 :: rest)), some (I (s0 : Int)), some (I (z : Int)), some (.lst (l.map tpI)), x6, none, none, none, none, none, none, none] ∧ w' = bagPut w0 a r b' ∧ l.length ≤ 20 + i, ⟨l, b2, none, rfl, rfl, hlen⟩, ?_, ?_⟩
  · rintro i d δ' w' hd ⟨l, b', x6, rfl, rfl, hlen⟩
    obtain ⟨hi, rfl⟩ := ups_at hd
    refine pgd_name (i := 6) nd rfl ?_
    refine pssd_one (psd_set (i := 5) nd rfl ?_)
    refine pd_has hBs (hr.mono (by decide)) (fun _ => pass0At) ?_
    (refine pad_cons ?_; refine pd_var (i := 0) rfl rfl ?_)
    (refine pad_cons ?_; refine pd_var (i := 2) rfl rfl ?_)
    (refine pad_cons ?_; refine pd_var (i := 5) rfl rfl ?_)
    refine pad_nil ?_
    refine ⟨a, r, b', r0.length, r0 :: rest, l, rfl, hB b', hne, hl, h1, h12, h7, by omega, fun l' b'' h' => ?_⟩
    rw [pp]
    exact ⟨l', b'', _, rfl, rfl, by omega⟩
  rintro δ' w' ⟨l, b3, x6, rfl, rfl, hlen⟩
  rw [ups_len] at hlen
  have hlen : l.length ≤ 23 := by omega
  refine pssd_cons (psd_set (i := 7) nd rfl ?_)
  refine pd_has hR (hr.mono (by decide)) (fun _ => pass0At) ?_
  (refine pad_cons ?_; refine pd_var (i := 2) rfl rfl ?_)
  (refine pad_cons ?_; refine pd_var (i := 3) rfl rfl ?_)
  refine pad_nil ?_
  refine ⟨r0.length, r0 :: rest, s0, as, rfl, hne, hl, h12, hs, Fs, ?_⟩
  have fl : ∀ p : Nat → Bool, (casts ((List.range r0.length).filter p)).length ≤ 12 := fun p => by
    rw [casts_length]
    exact Nat.le_trans (List.length_filter_le _ _) (by rw [List.length_range]; exact h12)
  rw [nats_casts2]
  have hi0 := fl fun c => decide (Fa as c < r0.length)
  generalize casts ((List.range r0.length).filter fun c => decide (Fa as c < r0.length)) = isl at hi0
  refine pssd_cons (psd_cut (fun δ' w' => ∃ (isl : List Int) (b' : Bag) (x8 : Option D), δ' = [some (R a), some (spR C (r0 :: rest)), some (rowsD (r0 :: rest)), some (I (s0 : Int)), some (I (z : Int)), some (.lst (l.map tpI)), x6, some (.lst (isl.map I)), x8, none, none, none, none, none] ∧ w' = bagPut w0 a r b' ∧ isl.length ≤ 24) ?_ ?_)
  · refine psd_if ?_
    refine ptd_cmp op_eq ?_
    refine pd_take hT (hr.mono (by decide)) (i := 0) rfl rfl (hB b3) ?_
    refine pd_int ?_
    refine ⟨rfl, _, rfl, by decide, by decide, fun tv b4 t0 t1 => ?_⟩
    rw [pp]
    refine pd_int ?_
    refine vr_eq rfl ⟨_, rfl, ?_⟩
    refine ite2 (fun c => ?_) (fun c => ?_)
    · refine pssd_cons (psd_set (i := 8) nd rfl ?_)
      refine pd_has hR (hr.mono (by decide)) (fun _ => pass0At) ?_
      (refine pad_cons ?_; refine pd_var (i := 2) rfl rfl ?_)
      refine pad_cons ?_
      refine pd_take hT (hr.mono (by decide)) (i := 0) rfl rfl (hB b4) ?_
      refine pd_callB call_len_seq rfl hm.len PySem.boot_len ?_
      refine pad_cons ?_
      refine pd_ix ix_list ?_
      refine pd_var (i := 2) rfl rfl ?_
      refine pd_int ?_
      refine vr_ixL (i := 0) (d := nats r0) rfl ?_
      refine pad_nil ?_
      refine va_len ?_
      rw [e0]
      refine ⟨rfl, _, rfl, by omega, lg9' (by omega) (by omega), fun sv b5 s0' s1' => ?_⟩
      rw [pp]
      obtain ⟨sn, rfl⟩ := Int.eq_ofNat_of_zero_le s0'
      refine pad_nil ?_
      have hsn : sn < r0.length := by omega
      obtain ⟨a2, F2⟩ := far_ex r0.length (r0 :: rest) sn hsn
      refine ⟨r0.length, r0 :: rest, sn, a2, rfl, hne, hl, h12, hsn, F2, ?_⟩
      rw [nats_casts2]
      have hi1 := fl fun c => decide (Fa a2 c < r0.length)
      generalize casts ((List.range r0.length).filter fun c => decide (Fa a2 c < r0.length)) = more at hi1
      refine pssd_one (psd_set (i := 7) nd rfl ?_)
      refine pd_op op_cat ?_
      refine pd_var (i := 7) rfl rfl ?_
      refine pd_lc (own := [("case", 13)]) (is := [13]) rfl nd (blkOk_by rfl) (by decide) ?_
      refine it_list ?_
      refine pd_var (i := 8) rfl rfl ?_
      refine ⟨_, rfl, ?_⟩
      refine lcd_filter (xs := more) (g := I) (fun c => !decide (c ∈ isl)) I (small1000 (by omega)) (fun x hx s H0 C1 cl1 fp1 => ?_) ?_
      · refine pgl_name (i := 13) nd rfl ?_
        intro s H0 C1 cl1 fp1
        refine ptsd_one ?_
        refine ptd_cmp op_notIn_seq ?_
        refine pd_var (i := 13) rfl rfl ?_
        refine pd_var (i := 7) rfl rfl ?_
        refine vr_ninK (.inl rfl) ⟨_, rfl, ?_⟩
        cases q : decide (x ∈ isl) with
        | true => exact iteF ⟨rfl, rfl⟩
        | false =>
          refine iteT ?_
          intro s H0 C1 cl1 fp1
          refine pd_var (i := 13) rfl rfl ?_
          exact ⟨rfl, rfl, rfl⟩
      have hf : (more.filter fun c => !decide (c ∈ isl)).length ≤ 12 := Nat.le_trans (List.length_filter_le _ _) hi1
      refine vr_cat (by rw [List.length_map, List.length_map, sizeLine_eq]; omega) ?_
      rw [← List.map_append]
      exact ⟨_, b5, _, rfl, rfl, by rw [List.length_append]; omega⟩
    · exact pssd_nil ⟨isl, b4, _, rfl, rfl, by omega⟩
  rintro δ' w' ⟨isl, b5, x8, rfl, rfl, hi5⟩
  -- bent islands
  refine pssd_cons (psd_for PassesOwn.never rfl ?_)
  refine it_range hm.range ?_
  refine pd_take hT (hr.mono (by decide)) (i := 0) rfl rfl (hB b5) ?_
  refine pd_int ?_
  refine ⟨rfl, _, rfl, by decide, by decide, fun tv b6 t0 t1 => ?_⟩
  rw [pp]
  obtain ⟨tn2, rfl⟩ := Int.eq_ofNat_of_zero_le t0
  refine ⟨tn2, rfl, by omega, ?_⟩
  refine ⟨fun i δ' w' => ∃ (isl : List Int) (b' : Bag) (x6 : Option D), δ' = [some (R a), some (spR C (r0 :: rest)), some (rowsD (r0 :: rest)), some (I (s0 : Int)), some (I (z : Int)), some (.lst (l.map tpI)), x6, some (.lst (isl.map I)), x8, none, none, none, none, none] ∧ w' = bagPut w0 a r b' ∧ isl.length ≤ 24 + 2 * i, ⟨isl, b6, x6, rfl, rfl, hi5⟩, ?_, ?_⟩
  · rintro i d δ' w' hd ⟨isl, b', x6, rfl, rfl, hlen⟩
    obtain ⟨hi, rfl⟩ := ups_at hd
    refine pgd_name (i := 6) nd rfl ?_
    refine pssd_one (psd_set (i := 7) nd rfl ?_)
    refine pd_has hBi (hr.mono (by decide)) (fun _ => pass0At) ?_
    (refine pad_cons ?_; refine pd_var (i := 0) rfl rfl ?_)
    refine pad_cons ?_
    refine pd_callB call_len_seq rfl hm.len PySem.boot_len ?_
    refine pad_cons ?_
    refine pd_ix ix_list ?_
    refine pd_var (i := 2) rfl rfl ?_
    refine pd_int ?_
    refine vr_ixL (i := 0) (d := nats r0) rfl ?_
    refine pad_nil ?_
    refine va_len ?_
    rw [e0]
    (refine pad_cons ?_; refine pd_var (i := 7) rfl rfl ?_)
    refine pad_nil ?_
    refine ⟨a, r, b', r0.length, isl, rfl, hB b', h1, h12, by omega, fun l' b'' h' => ?_⟩
    rw [pp]
    exact ⟨l', b'', _, rfl, rfl, by omega⟩
  rintro δ' w' ⟨isl, b7, x6, rfl, rfl, hi7⟩
  rw [ups_len] at hi7
  have hi7 : isl.length ≤ 30 := by omega
  refine pssd_cons (psd_set (i := 9) nd rfl ?_)
  refine pd_callTy call_list_of rfl hm.list bt_list ?_
  (refine pad_cons ?_; refine pd_var (i := 5) rfl rfl ?_)
  refine pad_nil ?_
  refine va_listS ?_
  refine pssd_cons (psd_set (i := 10) nd rfl ?_)
  refine pd_callTy call_list_of rfl hm.list bt_list ?_
  (refine pad_cons ?_; refine pd_var (i := 7) rfl rfl ?_)
  refine pad_nil ?_
  refine va_listS ?_
  -- told
  refine pssd_cons (psd_set (i := 11) nd rfl ?_)
  refine pd_lst ?_
  refine pad_cons ?_
  refine pd_has hCH (hr.mono (by decide)) (fun _ => passLf) ?_
  refine pad_cons ?_
  refine pd_callTy call_list_of rfl hm.list bt_list ?_
  (refine pad_cons ?_; refine pd_var (i := 1) rfl rfl ?_)
  refine pad_nil ?_
  refine va_listS ?_
  (refine pad_cons ?_; refine pd_var (i := 3) rfl rfl ?_)
  (refine pad_cons ?_; refine pd_var (i := 4) rfl rfl ?_)
  (refine pad_cons ?_; refine pd_var (i := 9) rfl rfl ?_)
  refine pad_nil ?_
  refine ⟨r0, rest, (s0 : Int), (z : Int), l, rfl, ends ?_⟩
  refine pad_cons ?_
  refine pd_has hIH (hr.mono (by decide)) (fun _ => passLf) ?_
  refine pad_cons ?_
  refine pd_callTy call_list_of rfl hm.list bt_list ?_
  (refine pad_cons ?_; refine pd_var (i := 1) rfl rfl ?_)
  refine pad_nil ?_
  refine va_listS ?_
  (refine pad_cons ?_; refine pd_var (i := 3) rfl rfl ?_)
  (refine pad_cons ?_; refine pd_var (i := 4) rfl rfl ?_)
  (refine pad_cons ?_; refine pd_var (i := 10) rfl rfl ?_)
  refine pad_nil ?_
  refine ⟨r0, rest, (s0 : Int), (z : Int), isl, rfl, by omega, ends ?_⟩
  refine pad_nil ⟨by show 2 ≤ sizeLine; decide, ?_⟩
  -- due
  refine pssd_cons (psd_set (i := 12) nd rfl ?_)
  refine pd_lst ?_
  refine pad_cons ?_
  refine pd_has hLC (hr.mono (by decide)) (fun _ => pass0At) ?_
  (refine pad_cons ?_; refine pd_var (i := 2) rfl rfl ?_)
  (refine pad_cons ?_; refine pd_var (i := 3) rfl rfl ?_)
  (refine pad_cons ?_; refine pd_var (i := 4) rfl rfl ?_)
  (refine pad_cons ?_; refine pd_var (i := 5) rfl rfl ?_)
  refine pad_nil ?_
  refine ⟨r0.length, r0 :: rest, s0, z, l, rfl, hne, hl, h12, hs, ?_⟩
  refine pad_cons ?_
  refine pd_has hLI (hr.mono (by decide)) (fun _ => pass0At) ?_
  (refine pad_cons ?_; refine pd_var (i := 2) rfl rfl ?_)
  (refine pad_cons ?_; refine pd_var (i := 3) rfl rfl ?_)
  (refine pad_cons ?_; refine pd_var (i := 4) rfl rfl ?_)
  (refine pad_cons ?_; refine pd_var (i := 7) rfl rfl ?_)
  refine pad_nil ?_
  refine ⟨r0.length, r0 :: rest, s0, z, isl, rfl, hne, hl, h12, by omega, ?_⟩
  refine pad_nil ⟨by show 2 ≤ sizeLine; decide, ?_⟩
  refine pssd_one (psd_ret ?_)
  refine pd_and ?_
  refine pd_has (hS 1) (hr.mono (by decide)) (fun _ => pass0At) ?_
  (refine pad_cons ?_; refine pd_var (i := 11) rfl rfl ?_)
  (refine pad_cons ?_; refine pd_var (i := 12) rfl rfl ?_)
  refine pad_nil ?_
  refine ⟨_, _, rfl, .inl (.inl sm_bl2), ?_⟩
  refine ⟨_, rfl, ?_⟩
  refine iteT ?_
  refine pd_and ?_
  refine pd_has (hS 2) (hr.mono (by decide)) (fun _ => pass0At) ?_
  (refine pad_cons ?_; refine pd_var (i := 9) rfl rfl ?_)
  (refine pad_cons ?_; refine pd_var (i := 5) rfl rfl ?_)
  refine pad_nil ?_
  refine ⟨_, _, rfl, .inl (.inl (sm_tpis (by omega))), ?_⟩
  refine ⟨_, rfl, ?_⟩
  refine iteT ?_
  refine pd_one ?_
  refine pd_has (hS 1) (hr.mono (by decide)) (fun _ => pass0At) ?_
  (refine pad_cons ?_; refine pd_var (i := 10) rfl rfl ?_)
  (refine pad_cons ?_; refine pd_var (i := 7) rfl rfl ?_)
  refine pad_nil ?_
  refine ⟨_, _, rfl, .inl (.inl (sm_ints (by omega))), ?_⟩
  exact k b7
end
end Tw

set_option Elab.async false
set_option linter.all false
set_option maxRecDepth 100000
set_option maxHeartbeats 2000000
namespace DL
open PySem PySem.Spec PyProof.Rows L2 LamX
/-- isinstance(e, c), e a caught error with fields -/
def rIsX (K : PySem.W.Frag) (D a : Addr) (d : Option Addr) : List V → Hp → VK → Prop := fun xs H Q => ∃ (c : V) (cv : Value) (b : Bool) (dd : Addr) (fs : List (Str × V)), xs = [.ref a, c] ∧ (∀ u, RelV c u → u = cv) ∧ PySem.W.kitOne K (.ref D) cv = some b ∧ d = some dd ∧ H dd = some (.xd fs) ∧ Q (.bl b) H
theorem call_isX {X : Cx} {a D : Addr} {d : Option Addr} {oe : Obj} {pn : List (Addr × Obj)} (C : L2.ExcC X.K D) (hz : Zc (.ref D) d oe) (hf : ∃ vs, oe.data = .fields vs) : CallR (X.suite a ((a, oe) :: pn)) (.builtin "isinstance") (rIsX X.K D a d) := by
  rintro pins s σ H xs us Q I r ⟨c, cv, b, dd, fs, rfl, hcv, e, rfl, hdd, q⟩
  obtain ⟨u1, u2, rfl, rx, rt⟩ : ∃ u1 u2, us = [u1, u2] ∧ RelV (.ref a) u1 ∧ RelV c u2 := by
    cases r with
    | cons rx rr =>
      cases rr with
      | cons rt rr =>
        cases rr
        exact ⟨_, _, rfl, rx, rt⟩
  cases (show u1 = Value.ref a from rx)
  cases hcv _ rt
  have hget := (I.pin (a, oe) (List.mem_append.mpr (.inl List.mem_cons_self))).1
  obtain ⟨vs, hv⟩ := hf
  obtain ⟨mA, hns, _⟩ := (show ObjOk X.prog X.w H s.heap dd (.xd fs) from I.hok dd _ hdd)
  obtain ⟨od, ho, _⟩ := lookIn_ns hns
  have J : PySem.W.InstAt s.heap a oe D (some od) := ⟨hget, hz.1, by unfold PySem.W.notCls; rw [hv] <;> rfl, by rw [hz.2]; exact ho⟩
  have hcl : (PySem.W.clsIn X.K D).isSome = true := by
    obtain ⟨cd, hc, _⟩ := PySem.W.any_some C.hd
    rw [hc]
    rfl
  exact PySem.W.kia_one (PySem.W.kitx_exc hcl C.hg C.hk C.hs C.ha C.hn C.ht C.hm) I.kIn J e (fun z => nomatch z) fun tk => ⟨.bl b, H, I.kept (t' := tk) fun _ _ z => z, rfl, q⟩
/-- the heap may get more in its tables of code -/
theorem World.more {K : PySem.W.Frag} {T : List (Addr × Str)} {S F H H1 : Hp} {w : Wp} (W : World K T S w F H) (e : ExtN H H1) (t : Tabs T H1) : World K T S w F H1 := by
  refine ⟨fun b x q => e b x (W.same b x q) fun ps z => W.notbl b ps (by rw [q, z]), W.notbl, fun b h q => ?_, fun b x q => ?_, t, W.nf⟩
  · obtain ⟨q1, q2, o, q3, q4⟩ := W.own b h q
    exact ⟨q1, q2, o, e b o q3 q4.notbl.1, q4⟩
  · obtain ⟨q1, q2⟩ := W.frm b x q
    exact ⟨q1, e b x q2 fun ps z => W.nf b ps (by rw [q, z])⟩
section
variable {K : PySem.W.Frag} {T : List (Addr × Str)} {w : Wp} {κ : D → Wp → Prop}
theorem va_isX {D0 a dd : Addr} {ns : List Str} {ds : List D} {c : V} {cv : Value} {b : Bool} (hc : ∀ u, RelV c u → u = cv) (hk : PySem.W.kitOne K (.ref D0) cv = some b) (k : κ (B b) w) : VRA K T (rIsX K D0 a (some dd)) [.exc a dd ns ds, .val c] w κ := by
  intro F S H xs Q hW r hK
  obtain ⟨x, ys, rfl, ⟨zs, rfl, h1, h2, h3⟩, y, us, rfl, h4, h5⟩ := r
  have h4' : y = c := h4
  have h5' : us = [] := h5
  subst h4' h5'
  exact ⟨y, cv, b, dd, zs, rfl, hc, hk, rfl, hW.same _ _ h1, hK _ w _ S H k (Same.refl _) hW rfl⟩
end
section
variable {X : Cx} {T : List (Addr × Str)} {W : WX} {χ : XD} {δ : Dn} {w : Wp} {pos : Pos}
theorem pd_xf {a dd C : Addr} {oe : Obj} {pn : List (Addr × Obj)} {e : Expr} {f : Str} {ns : List Str} {ds : List D} {κ : D → Wp → Prop} (TX : XfC X.K C) (hno : PySem.W.findIn X.K (.ref C) f = some none) (hz : Zc (.ref C) (some dd) oe) (hf : ∃ vs, oe.data = .fields vs)
    (h : PD (X.suite a ((a, oe) :: pn)) T W χ e δ w fun d w1 => d = .exc a dd ns ds ∧ ∃ u, look2 ns ds f = some u ∧ κ u w1) (hb : attributeBase e f X.env (eval e X.env) = eval e X.env := by rfl) : PD (X.suite a ((a, oe) :: pn)) T W χ (.Attribute e f pos) δ w κ := fun F σ S H Q hE hW hX hK => wp_pe (pe_xf TX hno hz hf (pe_wp e) hb) (by
  refine h F σ S H _ hE hW hX fun d w1 v S1 H1 k s1 W1 r => ?_
  obtain ⟨rfl, u, hl, k⟩ := k
  obtain ⟨ys, rfl, h1, rfl, h3⟩ := r
  obtain ⟨v, h4, h5⟩ := look2_at h3 hl
  exact ⟨rfl, rfl, dd, ys, v, rfl, W1.same _ _ h1, h4, hK u w1 v S1 H1 k s1 W1 h5⟩)
end
end DL
namespace DL
open PySem PySem.Spec PyProof.Rows L2 LamX
/-- as Fun, its code object named -/
structure FunC (K : PySem.W.Frag) (x qual : Str) (st : Stmt) (f : Addr) (fd : FuncData) (cdv : Value) : Prop where
  ex : ∃ (oc : Value) (od : Option Addr) (kV doc pm : Value) (an : Option Addr) (ct : Value) (osl : Array (Option Value)),
    fd = PySem.W.fnOf x qual (defArgs st) (defBody st) (defScope st) .none kV doc pm an cdv ct ∧ K.lookup f = some ⟨oc, od, .func fd, osl⟩ ∧ PySem.W.codeIn K cdv qual = true
  kp : PySem.W.keepIn K (.ref f) = true
section
variable {P : Program} {w : PySem.World} {K : PySem.W.Frag} {mg : Str → Option Value} {base : Heap} {T : List (Addr × Str)}
theorem FunC.fun {x qual : Str} {st : Stmt} {f : Addr} {fd : FuncData} {cdv : Value} (G : FunC K x qual st f fd cdv) : Fun K x qual st f fd := by
  obtain ⟨oc, od, kV, doc, pm, an, ct, osl, h1, h2, h3⟩ := G.ex
  exact ⟨⟨oc, od, kV, doc, pm, an, cdv, ct, osl, h1, h2, h3⟩, G.kp⟩
/-- a def that lets no error out, its code object known -/
theorem fnDc {x qual : Str} {st : Stmt} {f : Addr} {fd : FuncData} {N ps : List Str} {k : Nat} {sp : SpD} {cdv : Value} (G : FunC K x qual st f fd cdv) (S : FnScope N ps (defScope st)) (len : ∀ ds w κ χ, sp ds w κ χ → ds.length = ps.length)
    (body : ∀ (A : Around) (outer : List Env) (s : Shared) (H : Hp) (E : XK) (ds : List D) (w0 : Wp) (κ : D → Wp → Prop) (χ : XD), Room k (A.deeper (envOfC qual (defScope st) s.heap.objs.size f cdv)) → sp ds w0 κ χ →
      PSsD (cxOf CX0 P w K mg base N qual (defScope st) f cdv A outer s H E).nox T Wf noX (defBody st) (startD N ds) w0 { nx := fun _ w' => κ DL.N w', rt := κ }) : FnOk P w K mg base CX0 (k + 1) f fd ps (spOf K T sp) := by
  obtain ⟨oc, od, kV, doc, pm, an, ct, osl, rfl, lk, hcd⟩ := G.ex
  refine fn_of lk hcd S (fun vs H Q E h => ?_) fun A outer s H vs Q E hr h => ?_
  · obtain ⟨ds, w0, F, S0, κ, χ, h1, h2, _⟩ := h
    rw [h2.length]
    exact len _ _ _ _ h1
  · obtain ⟨ds, w0, F, S0, κ, χ, h1, h2, h3, h4, h5⟩ := h
    refine ⟨_, (pss_wp _).nox, ?_⟩
    exact body A outer s H E ds w0 κ χ hr h1 F _ S0 H _ (env_start h2) h3 exsf ⟨fun δ' w' σ' S' H' k s1 hE W1 => h4 _ w' _ S' H' k s1 W1 rfl, h4, fun _ _ _ _ _ z => z.elim, fun _ _ _ _ _ z => z.elim⟩
end
theorem takesL {X : Cx} {A : Around} {outer : List Env} {s : Shared} {H : Hp} {E : XK} {scope : Scope} {f c' : Addr} : Takes (lamCx X A outer s H E scope f c') (fun cls d _ H => E cls d H) := takes_of rfl rfl rfl rfl
theorem passL2 {X : Cx} {A : Around} {outer : List Env} {s : Shared} {H : Hp} {E : XK} {scope : Scope} {f c' : Addr} (σ : L2.St) : PassesAt (L2.CX X.prog X.w) (lamCx X A outer s H E scope f c') σ (WE (fun cls d _ H => E cls d H) σ) := passAt takesL σ
end DL
namespace Tw
open PySem PySem.Spec PyProof.Rows L2 LamX DL
abbrev sTold : Stmt := top 42
def kinds3 : D := .lst [B true, B true, B false]
theorem bt_ve : bootBuiltins "ValueError" = some (.type "ValueError") := by decide +kernel
theorem rel_ref {C : Addr} : ∀ u, RelV (V.ref C) u → u = Value.ref C := fun u h => h
theorem rel_ty {n : String} : ∀ u, RelV (V.ty n) u → u = Value.type n := fun u h => h
/-- a suite's weakest reading -/
def tsW (X : Cx) (sts : List Stmt) : TSx := fun a cls d D σ H => ∀ (oe : Obj) (pn : List (Addr × Obj)), Zc cls d oe → (∃ vs, oe.data = .fields vs) → wpSs (X.suite a ((a, oe) :: pn)) sts D σ H
theorem su_wp {X : Cx} {sts : List Stmt} (a : Addr) (oe : Obj) (cls : Value) (d : Option Addr) (pn : List (Addr × Obj)) (hz : Zc cls d oe) (hf : ∃ vs, oe.data = .fields vs) : PSs (X.suite a ((a, oe) :: pn)) sts (tsW X sts a cls d) := ⟨fun pins s _ _ _ I h => h oe pn hz hf pins s I⟩
/-- what a lambda's maker has -/
structure LamM (X : Cx) (T : List (Addr × Str)) : Prop where
  ex : ∃ c Pt, TabB X.base X.mg c Pt ∧ X.env.code = .ref c ∧ (Pt, X.env.qual ++ "<lambda>") ∈ T ∧ ∀ p ∈ T, p.1 = Pt → p.2 = X.env.qual ++ "<lambda>"
/-- _law_told stands -/
structure ToldOk (K : PySem.W.Frag) (mg : Str → Option Value) : Prop where
  ex : ∃ g fd, Fun K "_law_told" "_law_told" sTold g fd ∧ mg "_law_told" = some (.ref g) ∧ L2.Binds K fd ["action"] []
theorem sm_kinds {n : Nat} : Sm (n + 1) kinds3 kinds3 := Sm.cons (.bl _) (Sm.cons (.bl _) (Sm.cons (.bl _) Sm.nil (by decide)) (by decide)) (by decide)
theorem sm_err {nm : Str} {x : Int} : Sm 2 (.lst [DL.T nm, I x, kinds3]) (.lst [DL.T nm, I x, kinds3]) := Sm.cons (.str _) (Sm.cons (.int _) (Sm.cons sm_kinds Sm.nil (by decide)) (by show 2 ≤ sizeLine; decide)) (by show 3 ≤ sizeLine; decide)
theorem sm_no {nm : Str} : Sm 2 (.lst [DL.T nm]) (.lst [DL.T nm]) := Sm.cons (.str _) Sm.nil (by decide)
end Tw

set_option Elab.async false
set_option linter.all false
set_option maxRecDepth 100000
set_option maxHeartbeats 2000000
/-! What is told; the four doors. -/
namespace Tw
open PySem PySem.Spec PyProof.Rows L2 LamX DL Mth Grf
theorem scTold : FnScope ["action", "e", "kinds"] ["action"] (defScope sTold) := ⟨rfl, rfl, rfl, by decide +kernel, rfl, by decide +kernel, by decide +kernel⟩
structure ErrM (K : PySem.W.Frag) (mg : Str → Option Value) (CM CU CT : Addr) : Prop where
  mM : mg "SizeMismatch" = some (.ref CM)
  mU : mg "UnknownCase" = some (.ref CU)
  mT : mg "ThinwallError" = some (.ref CT)
  mV : mg "ValueError" = none
  mm : PySem.W.exmOne K (.ref CM) (.ref CM) = some true
  um : PySem.W.exmOne K (.ref CU) (.ref CM) = some false
  uu : PySem.W.exmOne K (.ref CU) (.ref CU) = some true
  eM : L2.ExcC K CM
  eU : L2.ExcC K CU
  xM : XfC K CM
  xU : XfC K CU
  n1 : PySem.W.findIn K (.ref CM) "first" = some none
  n2 : PySem.W.findIn K (.ref CM) "second" = some none
  nU : PySem.W.findIn K (.ref CU) "case" = some none
  kMT : PySem.W.kitOne K (.ref CM) (.ref CT) = some true
  kMV : PySem.W.kitOne K (.ref CM) (.type "ValueError") = some true
  kMU : PySem.W.kitOne K (.ref CM) (.ref CU) = some false
  kUT : PySem.W.kitOne K (.ref CU) (.ref CT) = some true
  kUV : PySem.W.kitOne K (.ref CU) (.type "ValueError") = some true
  kUM : PySem.W.kitOne K (.ref CU) (.ref CM) = some false
abbrev fs2 : List Str := ["second", "first"]
def errM (x y : D) : D := .lst [DL.T "SizeMismatch", x, y, kinds3]
def errU (x : D) : D := .lst [DL.T "UnknownCase", x, kinds3]
def errN : D := .lst [DL.T "no error"]
/-- how an error is told -/
def TK (CM CU : Addr) (C : Addr) (ns : List Str) (ds : List D) (out : D) : Prop := (∃ x y, C = CM ∧ ns = fs2 ∧ ds = [y, x] ∧ out = errM x y) ∨ ∃ x, C = CU ∧ ns = [("case" : Str)] ∧ ds = [x] ∧ out = errU x
def ToldX (K : PySem.W.Frag) (T : List (Addr × Str)) (CM CU : Addr) (Q : VK) : XK := fun cls d H' => ∃ (C : Addr) (ns : List Str) (ds : List D) (out : D) (w' : Wp) (S' F' : Hp) (dd : Addr), cls = .ref C ∧ d = some dd ∧ World K T S' w' F' H' ∧ XdR K S' dd ns ds ∧
  TK CM CU C ns ds out ∧ KD K T (fun d w2 => d = out ∧ w2 = w') S' F' Q
def ToldV (K : PySem.W.Frag) (T : List (Addr × Str)) (Q : VK) : Hp → Prop := fun H' => ∃ (w' : Wp) (S' F' : Hp), World K T S' w' F' H' ∧ KD K T (fun d w2 => d = errN ∧ w2 = w') S' F' Q
def TTold (K : PySem.W.Frag) (T : List (Addr × Str)) (CM CU : Addr) : (XK → Hp → VK → Prop) → Hp → VK → Prop := fun tl H Q => tl (ToldX K T CM CU Q) H fun _ H' => ToldV K T Q H'
section
variable {X : Cx} {T : List (Addr × Str)} {CM CU CT : Addr}
theorem told_gives {g : Addr} {cdg : Value} {q : Str} (hm : Nm2 X.mg) (er : ErrM X.K X.mg CM CU CT) : GivesTo X ["action", "e", "kinds"] "_law_told" (defScope sTold) g cdg (defBody sTold) "action" q (TTold X.K T CM CU) := by
  intro f c' s H Q tl act hc h
  have nd := scTold.nd
  let Z : Cx := (cxOf C8.CX0 X.prog X.w X.K X.mg X.base ["action", "e", "kinds"] "_law_told" (defScope sTold) g cdg X.A X.stack s H C8.E0).nox
  refine ⟨_, pss_cons (ps_try_mix (X := Z) rfl rfl nd L2.takes0 (tb := fun W D σ H1 => (∀ cls d σ' H', ToldX X.K T CM CU Q cls d H' → W cls d σ' H') ∧ σ[0]? = some (some (.ref f)) ∧ H1 c' = some (CodeO c' q) ∧
      tl (ToldX X.K T CM CU Q) H1 (fun _ H' => ToldV X.K T Q H') ∧ ∀ σ' H', σ' = σ → ToldV X.K T Q H' → D.nx σ' H') (fun W pn xe tk _ => ?_)
    (.named (i := 1) ⟨rfl, by decide, .inl er.mM⟩ rfl rfl su_wp (.named (i := 1) ⟨rfl, by decide, .inl er.mU⟩ rfl rfl su_wp (.bare ⟨rfl, by decide, .inl er.mT⟩ su_wp .none)))) (pss_wp _), ?_⟩
  · refine ⟨fun pins s' σ H1 D I h' => ?_⟩
    obtain ⟨h1, h2, h3, h4, h5⟩ := h'
    have hp := fun p1 p2 p3 => pss_one (ps_expr (pos := p3) (act W pn xe (ToldX X.K T CM CU Q) p1 p2 tk h1) (by rfl))
    have ee : (fun (_ : V) (H' : Hp) => (σ = σ ∧ ToldV X.K T Q H' : Prop)) = fun _ H' => ToldV X.K T Q H' := by
      funext _ H'
      exact propext ⟨fun z => z.2, fun z => ⟨rfl, z⟩⟩
    refine wpAny_mono ((hp _ _ _).run pins s' σ H1 { D with nx := fun σ' H' => σ' = σ ∧ ToldV X.K T Q H' } I ⟨h2, h3, by rw [← ee] at h4; exact h4⟩) (fun fl t z => ?_) fun _ _ z => z
    cases fl with
    | next =>
      obtain ⟨σ', H', J, z1, z2⟩ := z
      exact ⟨σ', H', J, h5 σ' H' z1 z2⟩
    | brk => exact z
    | cont => exact z
    | ret u => exact z
  · refine ⟨fun cls d σ' H' hx hl => ?_, rfl, hc, h, fun σ' H' es hv => ?_⟩
    · obtain ⟨C, ns, ds, out, w', S', F', dd, rfl, rfl, W', xr, hcase, kd⟩ := hx
      have len3 : σ'.length = 3 := hl
      have envE : ∀ a : Addr, EnvD X.K S' [none, some (.exc a dd ns ds), none] (σ'.set 1 (some (.ref a))) := fun a => by
        refine ⟨by rw [List.length_set]; exact len3.symm, fun i d hd => ?_⟩
        match i, hd with
        | 1, hd =>
          cases hd
          obtain ⟨ys, e1, e2, e3⟩ := xr
          exact ⟨.ref a, List.getElem?_set_self (by omega), ys, rfl, e1, e2, e3⟩
        | n + 3, hd => simp at hd
      rcases hcase with ⟨x, y, rfl, rfl, rfl, rfl⟩ | ⟨x, rfl, rfl, rfl, rfl⟩
      · refine ⟨true, er.mm, fun _ a na oe pn hz hf => ?_, (fun z => by cases z)⟩
        refine (?_ : PSsD (Z.suite a ((a, oe) :: pn)) T Wf noX _ [none, some (.exc a dd fs2 [y, x]), none] w' { nx := fun _ _ => False, rt := fun d w2 => d = errM x y ∧ w2 = w' }) F' _ S' H' _ (envE a) W' exsf ⟨fun _ _ _ _ _ z => z.elim, kd, fun _ _ _ _ _ z => z.elim, fun _ _ _ _ _ z => z.elim⟩
        refine pssd_cons (psd_set (i := 2) nd rfl ?_)
        refine pd_lst ?_
        (refine pad_cons ?_; refine pd_callB (call_isX er.eM hz hf) rfl hm.isinstance PyProof.Rows.boot_isinstance ?_; refine pad_cons ?_; refine pd_var (i := 1) rfl rfl ?_; refine pad_cons ?_; refine (pd_glob (v := .ref CT) (by exact er.mT) rfl) ?_; refine pad_nil ?_; refine va_isX (by first | exact rel_ref | exact rel_ty) er.kMT ?_)
        (refine pad_cons ?_; refine pd_callB (call_isX er.eM hz hf) rfl hm.isinstance PyProof.Rows.boot_isinstance ?_; refine pad_cons ?_; refine pd_var (i := 1) rfl rfl ?_; refine pad_cons ?_; refine (pd_bltn (v := .ty "ValueError") (by exact er.mV) bt_ve rfl) ?_; refine pad_nil ?_; refine va_isX (by first | exact rel_ref | exact rel_ty) er.kMV ?_)
        (refine pad_cons ?_; refine pd_callB (call_isX er.eM hz hf) rfl hm.isinstance PyProof.Rows.boot_isinstance ?_; refine pad_cons ?_; refine pd_var (i := 1) rfl rfl ?_; refine pad_cons ?_; refine (pd_glob (v := .ref CU) (by exact er.mU) rfl) ?_; refine pad_nil ?_; refine va_isX (by first | exact rel_ref | exact rel_ty) er.kMU ?_)
        refine pad_nil ⟨by decide, ?_⟩
        refine pssd_one (psd_ret ?_)
        refine pd_lst ?_
        refine pad_cons ?_
        refine pd_str ?_
        refine pad_cons ?_
        refine pd_xf (ns := fs2) (ds := [y, x]) er.xM er.n1 hz hf ?_
        refine pd_var (i := 1) rfl rfl ?_
        refine ⟨rfl, x, rfl, ?_⟩
        refine pad_cons ?_
        refine pd_xf (ns := fs2) (ds := [y, x]) er.xM er.n2 hz hf ?_
        refine pd_var (i := 1) rfl rfl ?_
        refine ⟨rfl, y, rfl, ?_⟩
        refine pad_cons ?_
        refine pd_var (i := 2) rfl rfl ?_
        exact pad_nil ⟨by show 4 ≤ sizeLine; decide, rfl, rfl⟩
      · refine ⟨false, er.um, (fun z => by cases z), fun _ => ⟨true, er.uu, fun _ a na oe pn hz hf => ?_, (fun z => by cases z)⟩⟩
        refine (?_ : PSsD (Z.suite a ((a, oe) :: pn)) T Wf noX _ [none, some (.exc a dd ["case"] [x]), none] w' { nx := fun _ _ => False, rt := fun d w2 => d = errU x ∧ w2 = w' }) F' _ S' H' _ (envE a) W' exsf ⟨fun _ _ _ _ _ z => z.elim, kd, fun _ _ _ _ _ z => z.elim, fun _ _ _ _ _ z => z.elim⟩
        refine pssd_cons (psd_set (i := 2) nd rfl ?_)
        refine pd_lst ?_
        (refine pad_cons ?_; refine pd_callB (call_isX er.eU hz hf) rfl hm.isinstance PyProof.Rows.boot_isinstance ?_; refine pad_cons ?_; refine pd_var (i := 1) rfl rfl ?_; refine pad_cons ?_; refine (pd_glob (v := .ref CT) (by exact er.mT) rfl) ?_; refine pad_nil ?_; refine va_isX (by first | exact rel_ref | exact rel_ty) er.kUT ?_)
        (refine pad_cons ?_; refine pd_callB (call_isX er.eU hz hf) rfl hm.isinstance PyProof.Rows.boot_isinstance ?_; refine pad_cons ?_; refine pd_var (i := 1) rfl rfl ?_; refine pad_cons ?_; refine (pd_bltn (v := .ty "ValueError") (by exact er.mV) bt_ve rfl) ?_; refine pad_nil ?_; refine va_isX (by first | exact rel_ref | exact rel_ty) er.kUV ?_)
        (refine pad_cons ?_; refine pd_callB (call_isX er.eU hz hf) rfl hm.isinstance PyProof.Rows.boot_isinstance ?_; refine pad_cons ?_; refine pd_var (i := 1) rfl rfl ?_; refine pad_cons ?_; refine (pd_glob (v := .ref CM) (by exact er.mM) rfl) ?_; refine pad_nil ?_; refine va_isX (by first | exact rel_ref | exact rel_ty) er.kUM ?_)
        refine pad_nil ⟨by decide, ?_⟩
        refine pssd_one (psd_ret ?_)
        refine pd_lst ?_
        refine pad_cons ?_
        refine pd_str ?_
        refine pad_cons ?_
        refine pd_xf (ns := ["case"]) (ds := [x]) er.xU er.nU hz hf ?_
        refine pd_var (i := 1) rfl rfl ?_
        refine ⟨rfl, x, rfl, ?_⟩
        refine pad_cons ?_
        refine pd_var (i := 2) rfl rfl ?_
        exact pad_nil ⟨by show 3 ≤ sizeLine; decide, rfl, rfl⟩
    · obtain ⟨w', S', F', W', kd⟩ := hv
      subst es
      refine (?_ : PSsD Z T Wf noX _ (startD ["action", "e", "kinds"] [R f]) w' { nx := fun _ _ => False, rt := fun d w2 => d = errN ∧ w2 = w' }) F' _ S' H' _ (env_start (RepL.one rfl)) W' exsf ⟨fun _ _ _ _ _ z => z.elim, kd, fun _ _ _ _ _ z => z.elim, fun _ _ _ _ _ z => z.elim⟩
      refine pssd_one (psd_ret ?_)
      refine pd_lst ?_
      refine pad_cons ?_
      refine pd_str ?_
      exact pad_nil ⟨by decide, rfl, rfl⟩
end
section
variable {X : Cx} {T : List (Addr × Str)} {W : WX} {χ : XD} {δ : Dn} {w : Wp} {pos : Pos} {CM CU CT : Addr}
theorem pd_dropO {e : Expr} {κ : D → Wp → Prop} (h : PD X T W χ e δ w fun d w' => κ d w' ∨ ∃ a, κ d (wd w' a)) : PD X T W χ e δ w κ := fun F σ S H Q hE hW hX hK => h F σ S H Q hE hW hX fun d w' v S' H' k s1 W1 r => k.elim (fun k => hK d _ v S' H' k s1 W1 r) fun ⟨a, k⟩ => hK d _ v S' H' k s1 (W1.drop a) r
def XTold (CM CU : Addr) (κ : D → Wp → Prop) : XD := fun C ns ds w1 => ∃ out, TK CM CU C ns ds out ∧ κ out w1
theorem pd_told {k : Nat} {params : Arguments} {body : Expr} {scope : Scope} {p lpos : Pos} {κ : D → Wp → Prop} (hm : Nm2 X.mg) (er : ErrM X.K X.mg CM CU CT) (G : ToldOk X.K X.mg) (LM : LamM X T) (hr : Room (k + 2) X.A) (L : LamS X.env.scope scope)
    (hB : ∀ (A : Around) (outer : List Env) (s : Shared) (H : Hp) (E : XK) (f c' : Addr), Room k (A.deeper (lamEnv X scope s.heap.objs.size f c')) →
      PD (lamCx X A outer s H E scope f c') T (fun cls d _ H => E cls d H) (XTold CM CU κ) body δ w fun _ w1 => κ errN w1)
    (hg : Gl X "_law_told" := by rfl) (hdef : defaultsOf params X.env = ([], []) := by rfl)
    (hbind : ∀ (q : Str) (cl : List (Str × Addr)) (pm cv ctv : Value), bindArgs (PySem.W.kla_fn "<lambda>" q params body scope cl pm cv ctv) ⟨[], []⟩ = pure [] := by intros; rfl) :
    PD X T W χ (.Call (.Name "_law_told" p) [.Lambda params body scope lpos] [] pos) δ w κ := by
  obtain ⟨c, Pt, TB, hcode, hmT, hu⟩ := LM.ex
  obtain ⟨g, fd, ⟨⟨oc, od, kV, doc, pm, an, cdv, ct, osl, rfl, lk, hcd⟩, kp⟩, hmg, hb⟩ := G.ex
  intro F σ S H Q hE hW hX hK
  refine wp_pe (pe_lamcall (t := fun E σ H Q => ∀ A outer s H0 f c', Room k (A.deeper (lamEnv X scope s.heap.objs.size f c')) → wpE (lamCx X A outer s H0 E scope f c') body σ H Q) hg hmg kp lk hcd hb scTold rfl (by first | exact Or.inl rfl | exact Or.inr (Or.inl rfl) | exact Or.inr (Or.inr rfl))
    (told_gives (T := T) hm er) TB hcode hmT hu hr L hdef hbind (fun A outer s H E f c' hr' => ⟨fun pins s1 σ H1 Q I h => h A outer s H f c' hr' pins s1 I⟩)) ?_
  refine ⟨hW.tabs, fun H1 ext T1 => ?_⟩
  intro A outer s H0 f c' hr'
  refine hB A outer s H0 _ f c' hr' F σ S H1 _ hE (hW.more ext T1) ?_ ?_
  · rintro C ns ds w' d S' H' ⟨out, hc, kk⟩ s1 W1 xr
    refine ⟨C, ns, ds, out, w', S', F, d, rfl, rfl, W1, xr, hc, ?_⟩
    rintro d2 w2 v S2 H2 ⟨rfl, rfl⟩ s2 W2 r
    exact hK _ _ v S2 H2 kk (s1.trans s2) W2 r
  · intro d w' v S' H' kk s1 W1 r
    refine ⟨w', S', F, W1, ?_⟩
    rintro d2 w2 v S2 H2 ⟨rfl, rfl⟩ s2 W2 r
    exact hK _ _ v S2 H2 kk (s1.trans s2) W2 r
end
end Tw

set_option Elab.async false
set_option linter.all false
set_option maxRecDepth 100000
set_option maxHeartbeats 2000000
/-! The four doors. -/
namespace Tw
open PySem PySem.Spec PyProof.Rows L2 LamX DL Mth Grf
abbrev sDo : Stmt := top 43
def spDo (C CM CU : Addr) : SpD := fun ds w κ χ => ∃ r0 rest f l due, ds = [spR C (r0 :: rest), I f, I l, due] ∧ (∀ n, Sm (n + 2) due due) ∧ (∀ (w' : Wp) (κ' : D → Wp → Prop), κ' due w' → EndsX CM CU r0 rest f l w' (XTold CM CU κ') (κ' errN w')) ∧ κ (B true) w
section
variable {P : Program} {w : PySem.World} {K : PySem.W.Frag} {mg : Str → Option Value} {base : Heap} {T : List (Addr × Str)} {C CU CT CM : Addr}
theorem scDo : FnScope ["splits", "start", "last", "due", "told"] ["splits", "start", "last", "due"] (defScope sDo) := ⟨rfl, rfl, rfl, by decide +kernel, rfl, by decide +kernel, by decide +kernel⟩
theorem ok_do {f : Addr} {fd : FuncData} {cdv : Value} (G : FunC K "_law_doors" "_law_doors" sDo f fd cdv) (hm : Nm2 mg) (er : ErrM K mg CM CU CT) (tOk : ToldOk K mg)
    (lam : ∃ cc Pt, TabB base mg cc Pt ∧ cdv = .ref cc ∧ (Pt, (("_law_doors" : Str) ++ ".<locals>.") ++ "<lambda>") ∈ T ∧ ∀ p ∈ T, p.1 = Pt → p.2 = (("_law_doors" : Str) ++ ".<locals>.") ++ "<lambda>")
    (hFC : HasF P w K mg base T (L2.CX P w) "find_chain" 7 ["splits", "first", "last"] (spFCh C CM CU)) (hCH : HasF P w K mg base T (L2.CX P w) "chain_holds" 6 ["splits", "first", "last", "chain"] (spChH C CM CU))
    (hFI : HasF P w K mg base T (L2.CX P w) "find_island" 9 ["splits", "first", "last"] (spFIs C CM CU)) (hIH : HasF P w K mg base T (L2.CX P w) "island_holds" 5 ["splits", "first", "last", "island"] (spIsH C CM CU))
    (hS : ∀ n, HasF P w K mg base T CX0 "_law_same" (n + 1) ["actual", "due"] (spSame n)) :
    FnOk P w K mg base CX0 12 f fd ["splits", "start", "last", "due"] (spOf K T (spDo C CM CU)) := by
  refine fnDc G scDo (fun ds w κ χ h => ?_) (fun A outer s H E ds w0 κ χ hr h => ?_)
  · obtain ⟨r0, rest, f, l, due, rfl, _⟩ := h
    rfl
  obtain ⟨r0, rest, fi, l, due, rfl, sd, hD, k⟩ := h
  have nd := scDo.nd
  have LM : LamM (cxOf CX0 P w K mg base ["splits", "start", "last", "due", "told"] "_law_doors" (defScope sDo) f cdv A outer s H E).nox T := by
    obtain ⟨cc, Pt, h1, h2, h3, h4⟩ := lam
    exact ⟨cc, Pt, h1, h2, h3, h4⟩
  have zlt : InR l r0.length → l.toNat < r0.length := fun z => by
    obtain ⟨z1, z2⟩ := z
    omega
  refine pssd_cons (psd_set (i := 4) nd rfl ?_)
  refine pd_lstO ?_
  refine pad_nil ⟨Nat.zero_le _, fun q hq => ?_⟩
  -- find_chain
  (refine pssd_cons (psd_expr ?_); refine pd_bm PySem.F.plainAttrs_list PySem.F.slot_list_append PySem.F.type_list_append mt_append ?_; refine pd_var (i := 4) rfl rfl ?_; refine ⟨⟨rfl, _, wu_same⟩, ?_⟩; refine pad_cons ?_; refine pd_told (k := 9) hm er tOk LM (hr.mono (by decide)) (lamS_by rfl) (fun _ _ _ _ _ _ _ hr' => ?_))
  · refine pd_dropO ?_
    refine pd_has hFC (hr'.mono (by decide)) passL2 ?_
    (refine pad_cons ?_; refine pd_callTy call_list_of rfl hm.list bt_list ?_; refine pad_cons ?_; refine pd_var (i := 0) rfl rfl ?_; refine pad_nil ?_; refine va_listS ?_; refine pad_cons ?_; refine pd_var (i := 1) rfl rfl ?_; refine pad_cons ?_; refine pd_var (i := 2) rfl rfl ?_)
    refine pad_nil ?_
    refine ⟨r0, rest, fi, l, rfl, (hD _ _ ?_).map fun _ _ hz k => ?_⟩
    · (refine pad_nil ?_; refine vm_append wu_same (small1000 (by simp)) ?_; rw [wu_wu])
      -- chain_holds
      (refine pssd_cons (psd_expr ?_); refine pd_bm PySem.F.plainAttrs_list PySem.F.slot_list_append PySem.F.type_list_append mt_append ?_; refine pd_var (i := 4) rfl rfl ?_; refine ⟨⟨rfl, _, wu_same⟩, ?_⟩; refine pad_cons ?_; refine pd_told (k := 9) hm er tOk LM (hr.mono (by decide)) (lamS_by rfl) (fun _ _ _ _ _ _ _ hr' => ?_))
      · refine pd_has hCH (hr'.mono (by decide)) passL2 ?_
        (refine pad_cons ?_; refine pd_callTy call_list_of rfl hm.list bt_list ?_; refine pad_cons ?_; refine pd_var (i := 0) rfl rfl ?_; refine pad_nil ?_; refine va_listS ?_; refine pad_cons ?_; refine pd_var (i := 1) rfl rfl ?_; refine pad_cons ?_; refine pd_var (i := 2) rfl rfl ?_)
        refine pad_cons ?_
        refine pd_lst ?_
        refine pad_nil ⟨Nat.zero_le _, ?_⟩
        refine pad_nil ?_
        refine ⟨r0, rest, fi, l, [], rfl, (hD _ _ ?_).map fun _ _ hz k => k⟩
        (refine pad_nil ?_; refine vm_append wu_same (small1000 (by simp)) ?_; rw [wu_wu])
        -- find_island
        (refine pssd_cons (psd_expr ?_); refine pd_bm PySem.F.plainAttrs_list PySem.F.slot_list_append PySem.F.type_list_append mt_append ?_; refine pd_var (i := 4) rfl rfl ?_; refine ⟨⟨rfl, _, wu_same⟩, ?_⟩; refine pad_cons ?_; refine pd_told (k := 9) hm er tOk LM (hr.mono (by decide)) (lamS_by rfl) (fun _ _ _ _ _ _ _ hr' => ?_))
        · refine pd_dropO ?_
          refine pd_has hFI (hr'.mono (by decide)) passL2 ?_
          (refine pad_cons ?_; refine pd_callTy call_list_of rfl hm.list bt_list ?_; refine pad_cons ?_; refine pd_var (i := 0) rfl rfl ?_; refine pad_nil ?_; refine va_listS ?_; refine pad_cons ?_; refine pd_var (i := 1) rfl rfl ?_; refine pad_cons ?_; refine pd_var (i := 2) rfl rfl ?_)
          refine pad_nil ?_
          refine ⟨r0, rest, fi, l, rfl, (hD _ _ ?_).map fun _ _ hz k => ?_⟩
          · (refine pad_nil ?_; refine vm_append wu_same (small1000 (by simp)) ?_; rw [wu_wu])
            -- island_holds
            (refine pssd_cons (psd_expr ?_); refine pd_bm PySem.F.plainAttrs_list PySem.F.slot_list_append PySem.F.type_list_append mt_append ?_; refine pd_var (i := 4) rfl rfl ?_; refine ⟨⟨rfl, _, wu_same⟩, ?_⟩; refine pad_cons ?_; refine pd_told (k := 9) hm er tOk LM (hr.mono (by decide)) (lamS_by rfl) (fun _ _ _ _ _ _ _ hr' => ?_))
            · refine pd_has hIH (hr'.mono (by decide)) passL2 ?_
              (refine pad_cons ?_; refine pd_callTy call_list_of rfl hm.list bt_list ?_; refine pad_cons ?_; refine pd_var (i := 0) rfl rfl ?_; refine pad_nil ?_; refine va_listS ?_; refine pad_cons ?_; refine pd_var (i := 1) rfl rfl ?_; refine pad_cons ?_; refine pd_var (i := 2) rfl rfl ?_)
              refine pad_cons ?_
              refine pd_lst ?_
              (refine pad_cons ?_; refine pd_var (i := 1) rfl rfl ?_)
              refine pad_nil ⟨by show 1 ≤ sizeLine; decide, ?_⟩
              refine pad_nil ?_
              refine ⟨r0, rest, fi, l, [fi], rfl, by show 1 ≤ 60; decide, (hD _ _ ?_).map fun _ _ hz k => k⟩
              (refine pad_nil ?_; refine vm_append wu_same (small1000 (by simp)) ?_; rw [wu_wu])
              -- end
              refine pssd_one (psd_ret ?_)
              refine pd_drop ?_
              refine pd_has (hS 3) (hr.mono (by decide)) (fun _ => pass0At) ?_
              (refine pad_cons ?_; refine pd_var (i := 4) rfl rfl ?_)
              refine pad_cons ?_
              refine pd_lst ?_
              (refine pad_cons ?_; refine pd_var (i := 3) rfl rfl ?_)
              (refine pad_cons ?_; refine pd_var (i := 3) rfl rfl ?_)
              (refine pad_cons ?_; refine pd_var (i := 3) rfl rfl ?_)
              (refine pad_cons ?_; refine pd_var (i := 3) rfl rfl ?_)
              refine pad_nil ⟨by show 4 ≤ sizeLine; decide, ?_⟩
              refine pad_nil ?_
              refine ⟨_, _, rfl, .inl (.inr ⟨q, _, rfl, wu_same, ?_⟩), ⟨q, ?_⟩⟩
              · have ll : ∀ n, n ≤ 10 → n ≤ sizeLine := fun n h => le_line (by omega)
                exact Sm.cons (sd 0) (Sm.cons (sd 0) (Sm.cons (sd 0) (Sm.cons (sd 0) Sm.nil (ll _ (by simp))) (ll _ (by simp))) (ll _ (by simp))) (ll _ (by simp))
              · rw [wd_wu hq]
                exact k
          · obtain ⟨a, F⟩ := far_ex r0.length (r0 :: rest) l.toNat (zlt hz)
            exact ⟨a, F, fun _ => .inl k, fun _ b hb => .inr ⟨b, by rw [wd_wu hb]; exact k⟩⟩
    · obtain ⟨a, F⟩ := far_ex r0.length (r0 :: rest) l.toNat (zlt hz)
      exact ⟨a, F, fun _ => .inl k, fun _ _ _ _ b hb => .inr ⟨b, by rw [wd_wu hb]; exact k⟩⟩
end
end Tw

set_option Elab.async false
set_option linter.all false
set_option maxRecDepth 100000
set_option maxHeartbeats 2000000
/-! What is refused. -/
namespace Tw
open PySem PySem.Spec PyProof.Rows L2 LamX DL Mth Grf
abbrev sRe : Stmt := top 45
def spRe (C : Addr) : SpD := fun ds w κ χ => ∃ (a r : Addr) (b : Bag) (n : Nat) (rows : List (List Nat)) (s z : Nat), ds = [R a, spR C rows, I (n : Int), I (s : Int), I (z : Int)] ∧ BagAt w a r b ∧ rows ≠ [] ∧ (∀ r ∈ rows, r.length = n) ∧ 1 ≤ n ∧ n ≤ 12 ∧ rows.length ≤ 6 ∧ s < n ∧ z < n ∧ ∀ b', κ (B true) (bagPut w a r b')
def zr (k : Nat) : List Nat := List.replicate k 0
theorem zr_len (k : Nat) : (zr k).length = k := List.length_replicate
theorem sm_errM {n x y : Nat} : ∀ k, Sm (k + 2) (errM (I (x : Int)) (I (y : Int))) (errM (I (x : Int)) (I (y : Int))) := fun k => Sm.cons (.str _) (Sm.cons (.int _) (Sm.cons (.int _) (Sm.cons sm_kinds Sm.nil (by decide)) (by show 2 ≤ sizeLine; decide)) (by show 3 ≤ sizeLine; decide)) (by show 4 ≤ sizeLine; decide)
theorem sm_errU {x : Int} : ∀ k, Sm (k + 2) (errU (I x)) (errU (I x)) := fun k => Sm.cons (.str _) (Sm.cons (.int _) (Sm.cons sm_kinds Sm.nil (by decide)) (by show 2 ≤ sizeLine; decide)) (by show 3 ≤ sizeLine; decide)
theorem sm_errN : ∀ k, Sm (k + 2) errN errN := fun k => Sm.cons (.str _) Sm.nil (by decide)
theorem odd_doors {rows : List (List Nat)} {n wr p : Nat} {CM CU : Addr} (hne : rows ≠ []) (hl : ∀ r ∈ rows, r.length = n) (h1 : 1 ≤ n) (h12 : n ≤ 12) (h6 : rows.length ≤ 6) (w1 : 1 ≤ wr) (w12 : wr ≤ 12) (wn : wr ≠ n) {x y : Nat} (e0 : p = 0 → x = wr ∧ y = n) (e1 : p ≠ 0 → x = n ∧ y = wr) :
    ∃ r0 rest, rows.take p ++ [zr wr] ++ rows.drop p = r0 :: rest ∧ ∀ (f l : Int) (w' : Wp) (κ' : D → Wp → Prop), κ' (errM (I (x : Int)) (I (y : Int))) w' → EndsX CM CU r0 rest f l w' (XTold CM CU κ') (κ' errN w') := by
  obtain ⟨ra, rb, rfl⟩ : ∃ r0 rest, rows = r0 :: rest := by
    cases rows with
    | nil => exact absurd rfl hne
    | cons a b => exact ⟨a, b, rfl⟩
  have ha := hl ra (List.mem_cons_self ..)
  have hd : ∀ q : Nat, ((ra :: rb).drop q).length ≤ 6 := fun q => by
    rw [List.length_drop]
    omega
  cases p with
  | zero =>
    obtain ⟨rfl, rfl⟩ := e0 rfl
    refine ⟨zr x, ra :: rb, rfl, fun f l w' κ' k => ⟨fun q hq => ?_, ?_, fun g => ?_, fun g => ?_, fun g => ?_, fun q hq => ?_⟩⟩
    · rcases List.mem_cons.mp hq with rfl | h
      · rw [zr_len]
        exact ⟨w1, w12⟩
      · rw [hl q h]
        exact ⟨h1, h12⟩
    · exact h6
    · have := g ra (List.mem_cons_of_mem _ (List.mem_cons_self ..))
      rw [zr_len, ha] at this
      exact absurd this.symm wn
    · have := g ra (List.mem_cons_of_mem _ (List.mem_cons_self ..))
      rw [zr_len, ha] at this
      exact absurd this.symm wn
    · have := g ra (List.mem_cons_of_mem _ (List.mem_cons_self ..))
      rw [zr_len, ha] at this
      exact absurd this.symm wn
    · have q1 := List.mem_of_find?_eq_some hq
      have q2 := List.find?_some hq
      rw [decide_eq_true_eq] at q2
      rcases List.mem_cons.mp q1 with rfl | h
      · exact absurd rfl q2
      · rw [hl q h, zr_len]
        exact ⟨_, .inl ⟨_, _, rfl, rfl, rfl, rfl⟩, k⟩
  | succ p =>
    obtain ⟨rfl, rfl⟩ := e1 (by omega)
    refine ⟨ra, rb.take p ++ [zr y] ++ rb.drop p, rfl, ?_⟩
    have hm : ∀ q ∈ ra :: (rb.take p ++ [zr y] ++ rb.drop p), q = zr y ∨ q.length = x := fun q hq => by
      rcases List.mem_cons.mp hq with rfl | h
      · exact .inr ha
      · rcases List.mem_append.mp h with h | h
        · rcases List.mem_append.mp h with h | h
          · exact .inr (hl q (List.mem_cons_of_mem _ (List.mem_of_mem_take h)))
          · exact .inl (List.mem_singleton.mp h)
        · exact .inr (hl q (List.mem_cons_of_mem _ (List.mem_of_mem_drop h)))
    have hz : zr y ∈ ra :: (rb.take p ++ [zr y] ++ rb.drop p) := List.mem_cons_of_mem _ (List.mem_append.mpr (.inl (List.mem_append.mpr (.inr (List.mem_singleton.mpr rfl)))))
    refine fun f l w' κ' k => ⟨fun q hq => ?_, ?_, fun g => ?_, fun g => ?_, fun g => ?_, fun q hq => ?_⟩
    · rcases hm q hq with rfl | h
      · rw [zr_len]
        exact ⟨w1, w12⟩
      · rw [h]
        exact ⟨h1, h12⟩
    · rw [List.length_append, List.length_append, List.length_take, List.length_drop]
      rw [List.length_cons] at h6
      show min p rb.length + 1 + _ ≤ 6
      omega
    · have := g _ hz
      rw [zr_len, ha] at this
      exact absurd this wn
    · have := g _ hz
      rw [zr_len, ha] at this
      exact absurd this wn
    · have := g _ hz
      rw [zr_len, ha] at this
      exact absurd this wn
    · have q1 := List.mem_of_find?_eq_some hq
      have q2 := List.find?_some hq
      rw [decide_eq_true_eq] at q2
      rcases hm q q1 with rfl | h
      · rw [zr_len, ha]
        exact ⟨_, .inl ⟨_, _, rfl, rfl, rfl, rfl⟩, k⟩
      · exact absurd (h.trans ha.symm) q2
theorem unk_doors {r0 : List Nat} {rest : List (List Nat)} {CM CU : Addr} (hl : ∀ q ∈ r0 :: rest, q.length = r0.length) (h1 : 1 ≤ r0.length) (h12 : r0.length ≤ 12) (h6 : (r0 :: rest).length ≤ 6) {x f l : Int} (hx : ¬ InR x r0.length) (hlg : x.natAbs.log2 < 1920) (hf : f = x ∨ (InR f r0.length ∧ l = x)) (w' : Wp) (κ' : D → Wp → Prop) (k : κ' (errU (I x)) w') :
    EndsX CM CU r0 rest f l w' (XTold CM CU κ') (κ' errN w') := by
  refine ⟨fun q hq => ?_, ?_, fun _ i1 i2 => ?_, fun _ i1 => ?_, fun _ i1 i2 => ?_, fun q hq => ?_⟩
  · rw [hl q hq]
    exact ⟨h1, h12⟩
  · rw [List.length_cons] at h6
    omega
  · rcases hf with rfl | ⟨_, rfl⟩
    · exact absurd i1 hx
    · exact absurd i2 hx
  · rcases hf with rfl | ⟨q, _⟩
    · exact ⟨hlg, _, .inr ⟨_, rfl, rfl, rfl, rfl⟩, k⟩
    · exact absurd q i1
  · rcases hf with rfl | ⟨_, rfl⟩
    · exact absurd i1 hx
    · exact ⟨hlg, _, .inr ⟨_, rfl, rfl, rfl, rfl⟩, k⟩
  · have q1 := List.mem_of_find?_eq_some hq
    have q2 := List.find?_some hq
    rw [decide_eq_true_eq] at q2
    exact absurd (hl q q1) q2
theorem zr_isLow (n : Nat) : IsLow (zr n) := fun i x h => by
  have h1 := List.mem_of_getElem? h
  have h2 := (List.mem_replicate.mp h1).2
  have h3 := (List.getElem?_eq_some_iff.mp h).1
  rw [zr_len] at h3
  subst h2
  exact ⟨Nat.zero_le _, by show (List.replicate n 0)[0]? = _; rw [List.getElem?_replicate, if_pos (by omega)]⟩
theorem zero_low (n : Nat) : lowN (List.replicate n 0) = lowG (zr n) := by
  have e : List.replicate n (0 : Int) = casts (zr n) := by
    unfold casts zr
    rw [List.map_replicate]
    rfl
  rw [e]
  exact low_casts _
theorem zeros_nats (n : Nat) : (List.replicate n [I 0]).flatten = (List.replicate n (0 : Int)).map I := by
  induction n with
  | zero => rfl
  | succ n ih =>
    rw [List.replicate_succ, List.replicate_succ, List.flatten_cons, ih]
    rfl
section
variable {X : Cx} {T : List (Addr × Str)} {δ : Dn} {w : Wp} {pos : Pos} {C CM CB : Addr}
theorem pd_mkS {e : Expr} {p : Pos} {κ : D → Wp → Prop} (G : HasMk X.prog X.w X.K X.mg X.base T (L2.CX X.prog X.w) "Split" C 4 ["self", "marks"] (spInit C CB)) (hr : Room 5 X.A)
    (h : PD X T Wf noX e δ w fun d w1 => ∃ ms : List Int, d = .lst (ms.map I) ∧ 1 ≤ ms.length ∧ ms.length ≤ 12 ∧ κ (spl C (lowN ms)) w1)
    (hg : Gl X "Split" := by rfl) (he : starEach (e :: []) X.env = (false, eval e X.env) :: starEach [] X.env := by rfl) (hpl : (backTo pos (starEach [] X.env)).any (·.1) = false := by rfl) : PD X T Wf noX (.Call (.Name "Split" p) [e] [] pos) δ w κ := by
  refine pd_hasmk G hr (fun _ => passLf) ?_ hg (by decide) he hpl
  refine pad_cons (h.imp ?_) he
  rintro d w1 ⟨ms, rfl, h1, h12, k⟩
  refine pad_nil ?_
  intro a dx ha
  refine ⟨a, dx, _, ms, rfl, wu_same, .inl rfl, by omega, fun _ => ⟨rfl, _, _, wu_same, ?_⟩, fun z => absurd ⟨h1, h12⟩ z⟩
  rw [wu_wu, wd_wu ha, eo_spl]
  exact k
end
abbrev NRe : List Str := ["bag", "splits", "many", "start", "last", "far", "beyond", "wrong", "place", "odd", "kinds", "ends", "sizes", "unknown"]
section
variable {P : Program} {w : PySem.World} {K : PySem.W.Frag} {mg : Str → Option Value} {base : Heap} {T : List (Addr × Str)} {C CU CB CM : Addr}
theorem scRe : FnScope NRe ["bag", "splits", "many", "start", "last"] (defScope sRe) := ⟨rfl, rfl, rfl, by decide +kernel, rfl, by decide +kernel, by decide +kernel⟩
theorem ok_re {f : Addr} {fd : FuncData} (G : Fun K "_law_refused" "_law_refused" sRe f fd) (hm : Nm2 mg) (hT : HasF P w K mg base T CX0 "_law_take" 1 ["bag", "many"] spTake) (hSg : HasF P w K mg base T CX0 "_law_strange" 2 ["bag", "many"] spSg)
    (hMk : HasMk P w K mg base T (L2.CX P w) "Split" C 4 ["self", "marks"] (spInit C CB)) (hD : HasF P w K mg base T CX0 "_law_doors" 12 ["splits", "start", "last", "due"] (spDo C CM CU)) :
    FnOk P w K mg base CX0 13 f fd ["bag", "splits", "many", "start", "last"] (spOf K T (spRe C)) := by
  refine fnD G scRe (fun ds w κ χ h => ?_) (fun cdv A outer s H E ds w0 κ χ hr h => ?_)
  · obtain ⟨a, r, b, n, rows, s, z, rfl, _⟩ := h
    rfl
  obtain ⟨a, r, b, n, rows, s0, z, rfl, hb, hne, hl, h1, h12, h6, hs, hz, k⟩ := h
  have nd := scRe.nd
  have ne := hb.ne
  have hB : ∀ b, BagAt (bagPut w0 a r b) a r b := fun b => bag_put ne
  have pp : ∀ b b', bagPut (bagPut w0 a r b) a r b' = bagPut w0 a r b' := fun b b' => bag_put2 ne
  refine pssd_cons (psd_set (i := 5) nd rfl ?_)
  refine pd_has hSg (hr.mono (by decide)) (fun _ => pass0At) ?_
  (refine pad_cons ?_; refine pd_var (i := 0) rfl rfl ?_)
  (refine pad_cons ?_; refine pd_var (i := 2) rfl rfl ?_)
  refine pad_nil ?_
  refine ⟨a, r, b, (n : Int), rfl, hb, by omega, by omega, fun far b1 fo fl => ?_⟩
  refine pssd_cons (psd_set (i := 6) nd rfl ?_)
  refine pd_has hSg (hr.mono (by decide)) (fun _ => pass0At) ?_
  (refine pad_cons ?_; refine pd_var (i := 0) rfl rfl ?_)
  (refine pad_cons ?_; refine pd_var (i := 2) rfl rfl ?_)
  refine pad_nil ?_
  refine ⟨a, r, b1, (n : Int), rfl, hB b1, by omega, by omega, fun bey b2 _ _ => ?_⟩
  rw [pp]
  -- wrong
  refine pssd_cons (psd_set (i := 7) nd rfl ?_)
  refine pd_op op_add ?_
  refine pd_int ?_
  refine pd_op op_mod ?_
  refine pd_op op_add ?_
  refine pd_var (i := 2) rfl rfl ?_
  refine pd_take hT (hr.mono (by decide)) (i := 0) rfl rfl (hB b2) ?_
  refine pd_int ?_
  refine ⟨rfl, _, rfl, by decide, by decide, fun t b3 t0 t1 => ?_⟩
  rw [pp]
  refine vr_I ?_
  refine pd_int ?_
  refine vr_IC (by decide) ?_
  refine vr_I ?_
  obtain ⟨tn, rfl⟩ := Int.eq_ofNat_of_zero_le t0
  obtain ⟨wr, ew⟩ : ∃ wr : Nat, (1 : Int) + ((n : Int) + (tn : Int)) % 12 = (wr : Int) := ⟨1 + (n + tn) % 12, by omega⟩
  have w1 : 1 ≤ wr := by omega
  have w12 : wr ≤ 12 := by omega
  have wn : wr ≠ n := by omega
  rw [ew]
  -- place
  refine pssd_cons (psd_set (i := 8) nd rfl ?_)
  refine pd_take hT (hr.mono (by decide)) (i := 0) rfl rfl (hB b3) ?_
  refine pd_op op_add ?_
  refine pd_callB call_len_seq rfl hm.len PySem.boot_len ?_
  refine pad_cons ?_
  refine pd_var (i := 1) rfl rfl ?_
  refine pad_nil ?_
  refine va_len ?_
  rw [List.length_map]
  refine pd_int ?_
  refine vr_I ?_
  refine ⟨rfl, _, rfl, by omega, lg9' (by omega) (by omega), fun pv b4 g0 g1 => ?_⟩
  rw [pp]
  obtain ⟨pn, rfl⟩ := Int.eq_ofNat_of_zero_le g0
  have hpn : pn ≤ rows.length := by omega
  -- odd
  refine pssd_cons (psd_set (i := 9) nd rfl ?_)
  refine pd_op op_cat ?_
  refine pd_op op_cat ?_
  refine pd_slToE ?_
  refine pd_var (i := 1) rfl rfl ?_
  refine pd_var (i := 8) rfl rfl ?_
  refine ⟨_, pn, .inl rfl, rfl, ?_⟩
  rw [take_map]
  refine pd_lst ?_
  refine pad_cons ?_
  refine pd_mkS hMk (hr.mono (by decide)) ?_
  refine pd_op op_rep ?_
  refine pd_lst ?_
  refine pad_cons ?_
  refine pd_int ?_
  refine pad_nil ⟨by show 1 ≤ sizeLine; decide, ?_⟩
  refine pd_var (i := 7) rfl rfl ?_
  refine vr_rep (by omega) (by show 1 * wr ≤ sizeLine; rw [Nat.one_mul]; exact le_line (by omega)) ?_
  refine ⟨List.replicate wr 0, by rw [zeros_nats], by rw [List.length_replicate]; omega, by rw [List.length_replicate]; omega, ?_⟩
  rw [zero_low]
  refine pad_nil ⟨by show 1 ≤ sizeLine; decide, ?_⟩
  have lt : (rows.take pn).length = pn := by rw [List.length_take]; omega
  have ld : (rows.drop pn).length = rows.length - pn := List.length_drop
  refine vr_cat (by rw [List.length_map, lt, sizeLine_eq]; show pn + 1 ≤ _; omega) ?_
  refine pd_slFromE ?_
  refine pd_var (i := 1) rfl rfl ?_
  refine pd_var (i := 8) rfl rfl ?_
  refine ⟨_, pn, .inl rfl, rfl, ?_⟩
  rw [drop_map]
  refine vr_cat (by rw [List.length_append, List.length_map, List.length_map, lt, ld, sizeLine_eq]; show pn + 1 + _ ≤ _; omega) ?_
  have eo : D.lst ((rows.take pn).map (fun r => spl C (lowG r)) ++ [spl C (lowG (zr wr))] ++ (rows.drop pn).map (fun r => spl C (lowG r))) = spR C (rows.take pn ++ [zr wr] ++ rows.drop pn) := by
    unfold spR
    rw [List.map_append, List.map_append]
    rfl
  rw [eo]
  -- kinds
  refine pssd_cons (psd_set (i := 10) nd rfl ?_)
  refine pd_lst ?_
  refine pad_cons (pd_bl ?_)
  refine pad_cons (pd_bl ?_)
  refine pad_cons (pd_bl ?_)
  refine pad_nil ⟨by show 3 ≤ sizeLine; decide, ?_⟩
  have fin : ∀ x y : Nat, (pn = 0 → x = wr ∧ y = n) → (pn ≠ 0 → x = n ∧ y = wr) →
      PSsD (cxOf CX0 P w K mg base NRe "_law_refused" (defScope sRe) f cdv A outer s H E).nox T Wf noX ((defBody sRe).drop 7)
        [some (R a), some (spR C rows), some (I (n : Int)), some (I (s0 : Int)), some (I (z : Int)), some (I far), some (I bey), some (I (wr : Int)), some (I (pn : Int)), some (spR C (rows.take pn ++ [zr wr] ++ rows.drop pn)), some kinds3, some (.lst [I (x : Int), I (y : Int)]), none, none] (bagPut w0 a r b4) { nx := fun _ w' => κ DL.N w', rt := κ } := by
    intro x y ex ey
    refine pssd_cons (psd_set (i := 12) nd rfl ?_)
    refine pd_lst ?_
    refine pad_cons (pd_str ?_)
    refine pad_cons ?_
    refine pd_ix ix_list ?_
    refine pd_var (i := 11) rfl rfl ?_
    refine pd_int ?_
    refine vr_ixL (i := 0) (d := I (x : Int)) rfl ?_
    refine pad_cons ?_
    refine pd_ix ix_list ?_
    refine pd_var (i := 11) rfl rfl ?_
    refine pd_int ?_
    refine vr_ixL (i := 1) (d := I (y : Int)) rfl ?_
    (refine pad_cons ?_; refine pd_var (i := 10) rfl rfl ?_)
    refine pad_nil ⟨by show 4 ≤ sizeLine; decide, ?_⟩
    obtain ⟨q0, qs, eq, hod⟩ := odd_doors (CM := CM) (CU := CU) hne hl h1 h12 h6 w1 w12 wn ex ey
    rw [eq]
    obtain ⟨r0, rest, rfl⟩ : ∃ r0 rest, rows = r0 :: rest := by
      cases rows with
      | nil => exact absurd rfl hne
      | cons a b => exact ⟨a, b, rfl⟩
    obtain rfl : r0.length = n := hl r0 (List.mem_cons_self ..)
    have nf : ¬ InR far r0.length := fun ⟨g1, g2⟩ => by omega
    refine pssd_cons (psd_if ?_)
    refine pwd_pt ?_
    refine pwd_or ?_
    refine ptd_not ?_
    refine ptd_val ?_
    (refine pd_has hD (hr.mono (by decide)) (fun _ => pass0At) ?_; (refine pad_cons ?_; refine pd_var (i := 9) rfl rfl ?_); (refine pad_cons ?_; refine pd_var (i := 3) rfl rfl ?_); (refine pad_cons ?_; refine pd_var (i := 4) rfl rfl ?_); (refine pad_cons ?_; refine pd_var (i := 12) rfl rfl ?_); refine pad_nil ?_)
    refine ⟨q0, qs, _, _, _, rfl, sm_errM (n := 0), hod _ _, ?_⟩
    refine ⟨_, rfl, ?_⟩
    refine iteF ?_
    refine pwd_or1 ?_
    refine ptd_not ?_
    refine ptd_val ?_
    (refine pd_has hD (hr.mono (by decide)) (fun _ => pass0At) ?_; (refine pad_cons ?_; refine pd_var (i := 9) rfl rfl ?_); (refine pad_cons ?_; refine pd_var (i := 5) rfl rfl ?_); (refine pad_cons ?_; refine pd_var (i := 6) rfl rfl ?_); (refine pad_cons ?_; refine pd_var (i := 12) rfl rfl ?_); refine pad_nil ?_)
    refine ⟨q0, qs, _, _, _, rfl, sm_errM (n := 0), hod _ _, ?_⟩
    refine ⟨_, rfl, ?_⟩
    refine iteF ?_
    refine pssd_nil ?_
    -- unknown
    refine pssd_cons (psd_set (i := 13) nd rfl ?_)
    refine pd_lst ?_
    refine pad_cons (pd_str ?_)
    (refine pad_cons ?_; refine pd_var (i := 5) rfl rfl ?_)
    (refine pad_cons ?_; refine pd_var (i := 10) rfl rfl ?_)
    refine pad_nil ⟨by show 3 ≤ sizeLine; decide, ?_⟩
    refine pssd_cons (psd_if ?_)
    refine pwd_pt ?_
    refine pwd_or ?_
    refine ptd_not ?_
    refine ptd_val ?_
    (refine pd_has hD (hr.mono (by decide)) (fun _ => pass0At) ?_; (refine pad_cons ?_; refine pd_var (i := 1) rfl rfl ?_); (refine pad_cons ?_; refine pd_var (i := 5) rfl rfl ?_); (refine pad_cons ?_; refine pd_var (i := 6) rfl rfl ?_); (refine pad_cons ?_; refine pd_var (i := 13) rfl rfl ?_); refine pad_nil ?_)
    refine ⟨r0, rest, _, _, _, rfl, sm_errU, unk_doors hl h1 h12 h6 nf fl (.inl rfl), ?_⟩
    refine ⟨_, rfl, ?_⟩
    refine iteF ?_
    refine pwd_or1 ?_
    refine ptd_not ?_
    refine ptd_val ?_
    (refine pd_has hD (hr.mono (by decide)) (fun _ => pass0At) ?_; (refine pad_cons ?_; refine pd_var (i := 1) rfl rfl ?_); (refine pad_cons ?_; refine pd_var (i := 5) rfl rfl ?_); (refine pad_cons ?_; refine pd_var (i := 4) rfl rfl ?_); (refine pad_cons ?_; refine pd_var (i := 13) rfl rfl ?_); refine pad_nil ?_)
    refine ⟨r0, rest, _, _, _, rfl, sm_errU, unk_doors hl h1 h12 h6 nf fl (.inl rfl), ?_⟩
    refine ⟨_, rfl, ?_⟩
    refine iteF ?_
    refine pssd_nil ?_
    refine pssd_one (psd_ret ?_)
    refine pd_and ?_
    (refine pd_has hD (hr.mono (by decide)) (fun _ => pass0At) ?_; (refine pad_cons ?_; refine pd_var (i := 1) rfl rfl ?_); (refine pad_cons ?_; refine pd_var (i := 3) rfl rfl ?_); (refine pad_cons ?_; refine pd_var (i := 5) rfl rfl ?_); (refine pad_cons ?_; refine pd_var (i := 13) rfl rfl ?_); refine pad_nil ?_)
    refine ⟨r0, rest, _, _, _, rfl, sm_errU, unk_doors hl h1 h12 h6 nf fl (.inr ⟨⟨by omega, by omega⟩, rfl⟩), ?_⟩
    refine ⟨_, rfl, ?_⟩
    refine iteT ?_
    refine pd_one ?_
    refine pd_has hD (hr.mono (by decide)) (fun _ => pass0At) ?_
    (refine pad_cons ?_; refine pd_var (i := 1) rfl rfl ?_)
    (refine pad_cons ?_; refine pd_var (i := 3) rfl rfl ?_)
    (refine pad_cons ?_; refine pd_var (i := 4) rfl rfl ?_)
    refine pad_cons ?_
    refine pd_lst ?_
    refine pad_cons (pd_str ?_)
    refine pad_nil ⟨by show 1 ≤ sizeLine; decide, ?_⟩
    refine pad_nil ?_
    refine ⟨r0, rest, _, _, errN, rfl, sm_errN, fun w' κ' k => ends_ok hl h1 h12 (Nat.le_trans h6 (by decide)) hs hz k, ?_⟩
    exact k b4
  refine pssd_cons (psd_set (i := 11) nd rfl ?_)
  refine pd_if ?_
  refine ptd_cmp op_eq ?_
  refine pd_var (i := 8) rfl rfl ?_
  refine pd_int ?_
  refine vr_eq rfl ⟨_, rfl, ?_⟩
  refine ite2 (fun c => ?_) (fun c => ?_)
  · have c' : pn = 0 := by simpa using c
    refine pd_lst ?_
    (refine pad_cons ?_; refine pd_var (i := 7) rfl rfl ?_)
    (refine pad_cons ?_; refine pd_var (i := 2) rfl rfl ?_)
    refine pad_nil ⟨by show 2 ≤ sizeLine; decide, ?_⟩
    exact fin wr n (fun _ => ⟨rfl, rfl⟩) (fun z => absurd c' z)
  · have c' : pn ≠ 0 := by simpa using c
    refine pd_lst ?_
    (refine pad_cons ?_; refine pd_var (i := 2) rfl rfl ?_)
    (refine pad_cons ?_; refine pd_var (i := 7) rfl rfl ?_)
    refine pad_nil ⟨by show 2 ≤ sizeLine; decide, ?_⟩
    exact fin n wr (fun z => absurd z c') (fun _ => ⟨rfl, rfl⟩)
end
end Tw

set_option Elab.async false
set_option linter.all false
set_option maxRecDepth 100000
set_option maxHeartbeats 4000000
/-! The law. -/
namespace Tw
open PySem PySem.Spec PyProof.Rows L2 LamX DL Mth Grf
abbrev sLaw : Stmt := top 46
abbrev NL : List Str := ["script", "bag", "many", "rows", "turn", "start", "last", "splits", "marks", "split", "row", "mark"]
def spLaw : SpD := fun ds w κ χ => ∃ ns : List Int, ds = [.rd (ns.map I)] ∧ (∃ a r, w a = none ∧ w r = none ∧ a ≠ r) ∧ ∀ w', κ (B true) w'
section
variable {P : Program} {w : PySem.World} {K : PySem.W.Frag} {mg : Str → Option Value} {base : Heap} {T : List (Addr × Str)} {C CU CB CM : Addr}
theorem scLaw : FnScope NL ["script"] (defScope sLaw) := ⟨rfl, rfl, rfl, by decide +kernel, rfl, by decide +kernel, by decide +kernel⟩
theorem ok_law {f : Addr} {fd : FuncData} (G : Fun K "law" "law" sLaw f fd) (hm : Nm2 mg) (c : SplC K C)
    (hSt : HasF P w K mg base T CX0 "_law_start" 1 ["script"] spStart) (hT : HasF P w K mg base T CX0 "_law_take" 1 ["bag", "many"] spTake) (hLM : HasF P w K mg base T CX0 "_law_marks" 2 ["bag", "many", "way"] spLMk)
    (hS : ∀ n, HasF P w K mg base T CX0 "_law_same" (n + 1) ["actual", "due"] (spSame n)) (hFo : HasF P w K mg base T CX0 "_law_found" 10 ["splits", "rows", "start", "last"] (spFo C))
    (hPa : HasF P w K mg base T CX0 "_law_papers" 7 ["bag", "splits", "rows", "start", "last"] (spPa C)) (hRe : HasF P w K mg base T CX0 "_law_refused" 13 ["bag", "splits", "many", "start", "last"] (spRe C))
    (hM : HasM P w K mg base T CX0 C "marks" 1 ["self"] (spMarks C)) (hMk : HasMk P w K mg base T (L2.CX P w) "Split" C 4 ["self", "marks"] (spInit C CB)) :
    FnOk P w K mg base CX0 14 f fd ["script"] (spOf K T spLaw) := by
  refine fnD G scLaw (fun ds w κ χ h => ?_) (fun cdv A outer s H E ds w0 κ χ hr h => ?_)
  · obtain ⟨ns, rfl, _⟩ := h
    rfl
  obtain ⟨ns, rfl, _, k⟩ := h
  have nd := scLaw.nd
  refine pssd_cons (psd_set (i := 1) nd rfl ?_)
  refine pd_has hSt (hr.mono (by decide)) (fun _ => pass0At) ?_
  (refine pad_cons ?_; refine pd_var (i := 0) rfl rfl ?_)
  refine pad_nil ?_
  refine ⟨ns, rfl, fun a r ha hra ne => ?_⟩
  have hB : ∀ b, BagAt (bagPut w0 a r b) a r b := fun b => bag_put ne
  have pp : ∀ b b', bagPut (bagPut w0 a r b) a r b' = bagPut w0 a r b' := fun b b' => bag_put2 ne
  refine pssd_cons (psd_set (i := 2) nd rfl ?_)
  refine pd_op op_add ?_
  refine pd_int ?_
  refine pd_take hT (hr.mono (by decide)) (i := 1) rfl rfl (hB _) ?_
  refine pd_int ?_
  refine ⟨rfl, _, rfl, by decide, by decide, fun m0 b1 g0 g1 => ?_⟩
  rw [pp]
  refine vr_I ?_
  obtain ⟨mn, rfl⟩ := Int.eq_ofNat_of_zero_le g0
  refine pssd_cons (psd_cut (fun δ' w' => ∃ (n : Nat) (b' : Bag), δ' = [some (.rd (ns.map I)), some (R a), some (I (n : Int)), none, none, none, none, none, none, none, none, none] ∧ w' = bagPut w0 a r b' ∧ 1 ≤ n ∧ n ≤ 12) ?_ ?_)
  · refine psd_if ?_
    refine ptd_cmp op_eq ?_
    refine pd_take hT (hr.mono (by decide)) (i := 1) rfl rfl (hB b1) ?_
    refine pd_int ?_
    refine ⟨rfl, _, rfl, by decide, by decide, fun tv b2 t0 t1 => ?_⟩
    rw [pp]
    refine pd_int ?_
    refine vr_eq rfl ⟨_, rfl, ?_⟩
    refine ite2 (fun c => ?_) (fun c => ?_)
    · refine pssd_one (psd_set (i := 2) nd rfl ?_)
      refine pd_op op_add ?_
      refine pd_int ?_
      refine pd_take hT (hr.mono (by decide)) (i := 1) rfl rfl (hB b2) ?_
      refine pd_int ?_
      refine ⟨rfl, _, rfl, by decide, by decide, fun m1 b3 g2 g3 => ?_⟩
      rw [pp]
      refine vr_I ?_
      obtain ⟨m2, rfl⟩ := Int.eq_ofNat_of_zero_le g2
      refine ⟨7 + m2, b3, ?_, rfl, by omega, by omega⟩
      rfl
    · refine pssd_nil ⟨1 + mn, b2, ?_, rfl, by omega, by omega⟩
      rfl
  rintro δ' w' ⟨n, b4, rfl, rfl, h1, h12⟩
  -- rows
  refine pssd_cons (psd_set (i := 3) nd rfl ?_)
  refine pd_lstO ?_
  refine pad_nil ⟨Nat.zero_le _, fun q hq => ?_⟩
  have hq2 : ∀ b', bagPut w0 a r b' q = none := fun b' => bag_none hq
  refine pssd_cons (psd_for PassesOwn.never rfl ?_)
  refine it_range hm.range ?_
  refine pd_op op_add ?_
  refine pd_int ?_
  refine pd_take hT (hr.mono (by decide)) (i := 1) rfl rfl ((hB b4).own (hq2 b4)) ?_
  refine pd_int ?_
  refine ⟨rfl, _, rfl, by decide, by decide, fun x b5 g0 g1 => ?_⟩
  rw [bag_comm (hB b4) (hq2 b4), pp]
  refine vr_I ?_
  obtain ⟨xn, rfl⟩ := Int.eq_ofNat_of_zero_le g0
  refine ⟨1 + xn, rfl, by omega, ?_⟩
  refine ⟨fun i δ' w' => ∃ (rows : List (List Nat)) (b' : Bag) (x4 : Option D), δ' = [some (.rd (ns.map I)), some (R a), some (I (n : Int)), some (R q), x4, none, none, none, none, none, none, none] ∧ w' = wu (bagPut w0 a r b') q (.lst (rows.map nats)) ∧ rows.length = i ∧ ∀ r ∈ rows, r.length = n, ⟨[], b5, none, rfl, rfl, rfl, fun r h => by cases h⟩, ?_, ?_⟩
  · rintro i d δ' w' hd ⟨rows, b', x4, rfl, rfl, hl, hn⟩
    obtain ⟨hi, rfl⟩ := ups_at hd
    have tk : ∀ b' b'', bagPut (wu (bagPut w0 a r b') q (.lst (rows.map nats))) a r b'' = wu (bagPut w0 a r b'') q (.lst (rows.map nats)) := fun b' b'' => by rw [bag_comm (hB b') (hq2 b'), pp]
    have hO : ∀ b', BagAt (wu (bagPut w0 a r b') q (.lst (rows.map nats))) a r b' := fun b' => (hB b').own (hq2 b')
    refine pgd_name (i := 4) nd rfl ?_
    refine pssd_one (psd_expr ?_)
    refine pd_bm PySem.F.plainAttrs_list PySem.F.slot_list_append PySem.F.type_list_append mt_append ?_
    refine pd_var (i := 3) rfl rfl ?_
    refine ⟨⟨rfl, _, wu_same⟩, ?_⟩
    refine pad_cons ?_
    refine pd_has hLM (hr.mono (by decide)) (fun _ => pass0At) ?_
    (refine pad_cons ?_; refine pd_var (i := 1) rfl rfl ?_)
    (refine pad_cons ?_; refine pd_var (i := 2) rfl rfl ?_)
    refine pad_cons ?_
    refine pd_take hT (hr.mono (by decide)) (i := 1) rfl rfl (hO b') ?_
    refine pd_int ?_
    refine ⟨rfl, _, rfl, by decide, by decide, fun wy b6 _ _ => ?_⟩
    rw [tk]
    refine pad_nil ?_
    refine ⟨a, r, b6, n, wy, rfl, hO b6, h1, h12, fun row b7 hrow => ?_⟩
    rw [tk]
    refine pad_nil ?_
    refine vm_append wu_same (by rw [List.length_map]; exact small1000 (by omega)) ?_
    rw [wu_wu]
    refine ⟨rows ++ [row], b7, _, rfl, by rw [List.map_append]; rfl, by rw [List.length_append, hl]; rfl, fun r hr => ?_⟩
    rcases List.mem_append.mp hr with h | h
    · exact hn r h
    · rw [List.mem_singleton.mp h]
      exact hrow
  rintro δ' w' ⟨rows, b8, x4, rfl, rfl, hlr, hl⟩
  rw [ups_len] at hlr
  refine pssd_freeze (a := q) (ds := rows.map nats) 3 rfl wu_same ?_
  rw [wd_wu (hq2 b8)]
  have hne : rows ≠ [] := fun z => by
    rw [z] at hlr
    simp at hlr
    omega
  have h5 : rows.length ≤ 5 := by omega
  -- start, last
  refine pssd_cons (psd_set (i := 5) nd rfl ?_)
  refine pd_take hT (hr.mono (by decide)) (i := 1) rfl rfl (hB b8) ?_
  refine pd_var (i := 2) rfl rfl ?_
  refine ⟨rfl, _, rfl, by omega, lg9' (by omega) (by omega), fun sv b9 s0 s1 => ?_⟩
  rw [pp]
  obtain ⟨st, rfl⟩ := Int.eq_ofNat_of_zero_le s0
  refine pssd_cons (psd_set (i := 6) nd rfl ?_)
  refine pd_take hT (hr.mono (by decide)) (i := 1) rfl rfl (hB b9) ?_
  refine pd_var (i := 2) rfl rfl ?_
  refine ⟨rfl, _, rfl, by omega, lg9' (by omega) (by omega), fun zv b10 z0 z1 => ?_⟩
  rw [pp]
  obtain ⟨z, rfl⟩ := Int.eq_ofNat_of_zero_le z0
  have hs : st < n := by omega
  have hz : z < n := by omega
  refine pssd_as [some (.rd (ns.map I)), some (R a), some (I (n : Int)), some (rowsD rows), x4, some (I (st : Int)), some (I (z : Int)), none, none, none, none, none] rfl ?_
  -- splits
  refine pssd_cons ?_
  refine psd_setLc (i := 7) (own := [("marks", 8)]) (is := [8]) rfl nd rfl rfl (sw_true rfl rfl rfl (by decide +kernel)) (blkOk_by rfl) (by decide) ?_
  refine it_list ?_
  refine pd_var (i := 3) rfl rfl ?_
  refine ⟨_, rfl, ?_⟩
  refine lcd_map (xs := rows) (g := nats) (fun r => spl C (lowG r)) (small1000 (by omega)) (fun r hrm s H0 C1 cl1 fp1 => ?_) ?_
  · have hrl := hl r hrm
    refine pgl_name nd rfl ?_
    intro s H0 C1 cl1 fp1
    refine ptsd_nil ?_
    intro s H0 C1 cl1 fp1
    refine pd_mkS hMk (hr.mono (by decide)) ?_
    refine pd_callTy call_list_of rfl hm.list bt_list ?_
    refine pad_cons ?_
    refine pd_var (i := 8) rfl rfl ?_
    refine pad_nil ?_
    refine va_listS ?_
    refine ⟨casts r, by rw [← nl_casts]; rfl, by rw [casts_length]; omega, by rw [casts_length]; omega, ?_⟩
    rw [low_casts]
    exact ⟨rfl, rfl, rfl⟩
  refine pssd_as [some (.rd (ns.map I)), some (R a), some (I (n : Int)), some (rowsD rows), x4, some (I (st : Int)), some (I (z : Int)), some (spR C rows), none, none, none, none] rfl ?_
  refine pssd_cons (psd_if ?_)
  refine ptd_not ?_
  refine ptd_val ?_
  refine pd_has hFo (hr.mono (by decide)) (fun _ => pass0At) ?_
  (refine pad_cons ?_; refine pd_var (i := 7) rfl rfl ?_)
  (refine pad_cons ?_; refine pd_var (i := 3) rfl rfl ?_)
  (refine pad_cons ?_; refine pd_var (i := 5) rfl rfl ?_)
  (refine pad_cons ?_; refine pd_var (i := 6) rfl rfl ?_)
  refine pad_nil ?_
  refine ⟨n, rows, st, z, rfl, hne, hl, h1, h12, by omega, hs, hz, ?_⟩
  refine ⟨_, rfl, ?_⟩
  refine iteF ?_
  refine pssd_nil ?_
  refine pssd_cons (psd_if ?_)
  refine pwd_pt ?_
  refine pwd_or ?_
  refine ptd_not ?_
  refine ptd_val ?_
  refine pd_has hPa (hr.mono (by decide)) (fun _ => pass0At) ?_
  (refine pad_cons ?_; refine pd_var (i := 1) rfl rfl ?_)
  (refine pad_cons ?_; refine pd_var (i := 7) rfl rfl ?_)
  (refine pad_cons ?_; refine pd_var (i := 3) rfl rfl ?_)
  (refine pad_cons ?_; refine pd_var (i := 5) rfl rfl ?_)
  (refine pad_cons ?_; refine pd_var (i := 6) rfl rfl ?_)
  refine pad_nil ?_
  refine ⟨a, r, b10, n, rows, st, z, rfl, hB b10, hne, hl, h1, h12, by omega, hs, hz, fun b11 => ?_⟩
  rw [pp]
  refine ⟨_, rfl, ?_⟩
  refine iteF ?_
  refine pwd_or1 ?_
  refine ptd_not ?_
  refine ptd_val ?_
  refine pd_has hRe (hr.mono (by decide)) (fun _ => pass0At) ?_
  (refine pad_cons ?_; refine pd_var (i := 1) rfl rfl ?_)
  (refine pad_cons ?_; refine pd_var (i := 7) rfl rfl ?_)
  (refine pad_cons ?_; refine pd_var (i := 2) rfl rfl ?_)
  (refine pad_cons ?_; refine pd_var (i := 5) rfl rfl ?_)
  (refine pad_cons ?_; refine pd_var (i := 6) rfl rfl ?_)
  refine pad_nil ?_
  refine ⟨a, r, b11, n, rows, st, z, rfl, hB b11, hne, hl, h1, h12, by omega, hs, hz, fun b12 => ?_⟩
  rw [pp]
  refine ⟨_, rfl, ?_⟩
  refine iteF ?_
  refine pssd_nil ?_
  -- the marks
  refine pssd_cons (psd_if ?_)
  refine ptd_not ?_
  refine ptd_val ?_
  refine pd_has (hS 2) (hr.mono (by decide)) (fun _ => pass0At) ?_
  refine pad_cons ?_
  refine pd_lc (own := [("split", 9)]) (is := [9]) rfl nd (blkOk_by rfl) (by decide) ?_
  refine it_list ?_
  refine pd_var (i := 7) rfl rfl ?_
  refine ⟨_, rfl, ?_⟩
  refine lcd_map (xs := rows) (g := fun r => spl C (lowG r)) (fun r => nats (lowG r)) (small1000 (by omega)) (fun r hrm s H0 C1 cl1 fp1 => ?_) ?_
  · refine pgl_name nd rfl ?_
    intro s H0 C1 cl1 fp1
    refine ptsd_nil ?_
    intro s H0 C1 cl1 fp1
    refine pd_frz ?_
    refine pd_hasm0 c.cl hM (hr.mono (by decide)) (fun _ => pass0At) ?_
    refine pd_var (i := 9) rfl rfl ?_
    refine ⟨ins_spl (by decide), lowG r, rfl, fun a ha => ?_⟩
    refine ⟨a, _, rfl, wu_same, ?_⟩
    rw [wd_wu ha]
    exact ⟨rfl, rfl, rfl⟩
  refine pad_cons ?_
  refine pd_lc (own := [("row", 10)]) (is := [10]) rfl nd (blkOk_by rfl) (by decide) ?_
  refine it_list ?_
  refine pd_var (i := 3) rfl rfl ?_
  refine ⟨_, rfl, ?_⟩
  refine lcd_map (xs := rows) (g := nats) (fun r => nats (lowG r)) (small1000 (by omega)) (fun r hrm s H0 C1 cl1 fp1 => ?_) ?_
  · have hrl := hl r hrm
    refine pgl_name nd rfl ?_
    intro s H0 C1 cl1 fp1
    refine ptsd_nil ?_
    intro s H0 C1 cl1 fp1
    refine pd_lc (own := [("mark", 11)]) (is := [11]) rfl nd (blkOk_by rfl) (by decide) ?_
    refine it_list ?_
    refine pd_var (i := 10) rfl rfl ?_
    refine ⟨_, rfl, ?_⟩
    have en : List.map (fun (k : Nat) => I (k : Int)) r = (casts r).map I := nl_casts r
    rw [en]
    refine lcd_map (xs := casts r) (g := I) (fun x => I (((casts r).idxOf x : Nat) : Int)) (small1000 (by rw [casts_length]; omega)) (fun x hx s H0 C1 cl1 fp1 => ?_) ?_
    · refine pgl_name nd rfl ?_
      intro s H0 C1 cl1 fp1
      refine ptsd_nil ?_
      intro s H0 C1 cl1 fp1
      refine pd_bm PySem.F.plainAttrs_list PySem.F.slot_list_index PySem.F.type_list_index mt_index ?_
      refine pd_var (i := 10) rfl rfl ?_
      refine ⟨rfl, ?_⟩
      refine pad_cons ?_
      refine pd_var (i := 11) rfl rfl ?_
      refine pad_nil ?_
      refine vm_indexK (.inl (nats_casts2 r)) hx ?_
      exact ⟨rfl, rfl, rfl⟩
    have e : D.lst ((casts r).map fun x => I (((casts r).idxOf x : Nat) : Int)) = nats (lowG r) := by
      rw [← low_casts]
      unfold nats lowN
      rw [List.map_map]
      rfl
    exact ⟨rfl, e, rfl⟩
  refine pad_nil ?_
  refine ⟨_, _, rfl, .inl (.inl (Sm.map (le_line (by omega)) fun r hrm => sm_nats (by rw [rlen, hl r hrm]; omega))), ?_⟩
  refine ⟨_, rfl, ?_⟩
  refine iteF ?_
  refine pssd_nil ?_
  refine pssd_one (psd_ret ?_)
  refine pd_and ?_
  refine pd_has hFo (hr.mono (by decide)) (fun _ => pass0At) ?_
  (refine pad_cons ?_; refine pd_var (i := 7) rfl rfl ?_)
  (refine pad_cons ?_; refine pd_var (i := 3) rfl rfl ?_)
  (refine pad_cons ?_; refine pd_var (i := 6) rfl rfl ?_)
  (refine pad_cons ?_; refine pd_var (i := 5) rfl rfl ?_)
  refine pad_nil ?_
  refine ⟨n, rows, z, st, rfl, hne, hl, h1, h12, by omega, hz, hs, ?_⟩
  refine ⟨_, rfl, ?_⟩
  refine iteT ?_
  refine pd_one ?_
  refine pd_has hFo (hr.mono (by decide)) (fun _ => pass0At) ?_
  (refine pad_cons ?_; refine pd_var (i := 7) rfl rfl ?_)
  (refine pad_cons ?_; refine pd_var (i := 3) rfl rfl ?_)
  (refine pad_cons ?_; refine pd_var (i := 5) rfl rfl ?_)
  (refine pad_cons ?_; refine pd_var (i := 5) rfl rfl ?_)
  refine pad_nil ?_
  refine ⟨n, rows, st, st, rfl, hne, hl, h1, h12, by omega, hs, hs, ?_⟩
  exact k _
end
end Tw

set_option Elab.async false
set_option linter.all false
set_option maxRecDepth 100000
set_option maxHeartbeats 2000000
namespace Tw
open PySem PySem.Spec PyProof.Rows L2 LamX DL
section
variable {P : Program} {w : PySem.World} {K : PySem.W.Frag} {mg : Str → Option Value} {base : Heap} {T : List (Addr × Str)} {C CU : Addr}
theorem scTog : FnScope ["self", "first", "second"] ["self", "first", "second"] (defScope sTog) := ⟨rfl, rfl, rfl, by decide +kernel, rfl, by decide +kernel, by decide +kernel⟩
theorem ok_tog {f : Addr} {fd : FuncData} (G : Fun K "together" "Split.together" sTog f fd) (hm : Nm2 mg) (c : SplC K C) (hC : HasF P w K mg base T (L2.CX P w) "check_case" 3 ["case", "size"] (spCheck CU)) : FnOk P w K mg base (L2.CX P w) 4 f fd ["self", "first", "second"] (spOf K T (spTog C CU)) := by
  refine fnX G scTog (fun ds w κ χ h => ?_) (fun cdv A outer s H E ds w0 κ χ hr h => ?_)
  · obtain ⟨lo, c, d, rfl, _⟩ := h
    rfl
  obtain ⟨lo, c1, c2, rfl, hz, k1, k2, k3⟩ := h
  have nd := scTog.nd
  refine pssd_cons (psd_expr ?_)
  refine pd_has hC hr passX ?_
  refine pad_cons ?_
  refine pd_var (i := 1) rfl rfl ?_
  refine pad_cons ?_
  refine pd_fld c.cl c.nS ?_
  refine pd_var (i := 0) rfl rfl ?_
  refine ⟨_, fld_size, ?_⟩
  refine pad_nil ?_
  refine ⟨c1, _, rfl, fun hin => ?_, k2⟩
  refine pssd_cons (psd_expr ?_)
  refine pd_has hC hr passX ?_
  refine pad_cons ?_
  refine pd_var (i := 2) rfl rfl ?_
  refine pad_cons ?_
  refine pd_fld c.cl c.nS ?_
  refine pd_var (i := 0) rfl rfl ?_
  refine ⟨_, fld_size, ?_⟩
  refine pad_nil ?_
  refine ⟨c2, _, rfl, fun hin2 => ?_, k3 hin⟩
  have k := k1 hin hin2
  obtain ⟨i1, rfl, h1⟩ := inR_nat hin
  obtain ⟨i2, rfl, h2⟩ := inR_nat hin2
  refine pssd_one (psd_ret ?_)
  refine pd_cmp op_eq ?_
  refine pd_ix ix_list ?_
  refine pd_fld c.cl c.nM ?_
  refine pd_var (i := 0) rfl rfl ?_
  refine ⟨_, fld_marks, ?_⟩
  refine pd_var (i := 1) rfl rfl ?_
  refine vr_ixL (nl_at (mark_at h1)) ?_
  refine pd_ix ix_list ?_
  refine pd_fld c.cl c.nM ?_
  refine pd_var (i := 0) rfl rfl ?_
  refine ⟨_, fld_marks, ?_⟩
  refine pd_var (i := 2) rfl rfl ?_
  refine vr_ixL (nl_at (mark_at h2)) ?_
  refine vr_eq rfl ?_
  have e2 : decide (V.int (markAt lo i1 : Int) = V.int (markAt lo i2 : Int)) = decide (markAt lo i1 = markAt lo i2) := by
    refine decide_eq_decide.mpr ⟨fun z => ?_, fun z => ?_⟩
    · have z2 := V.int.inj z
      omega
    · rw [z]
  rw [e2]
  exact k
end
end Tw

set_option Elab.async false
set_option linter.all false
set_option maxRecDepth 100000
set_option maxHeartbeats 2000000
namespace Tw
open PySem PySem.Spec PyProof.Rows L2 LamX DL
/-- a def of the top -/
def TopDef (K : PySem.W.Frag) (x : Str) (st : Stmt) : Prop := ∃ f fd, PySem.W.nsIn K mainGlobals x = some (some (.ref f)) ∧ Fun K x x st f fd
def MethDef (K : PySem.W.Frag) (C : Addr) (m qual : Str) (st : Stmt) : Prop := ∃ f fd, Meth K C m f ∧ Fun K m qual st f fd
def ErrDef (P : Program) (K : PySem.W.Frag) (C : Addr) (qual f : Str) (st : Stmt) : Prop := ∃ fI cc cda fd, SupTxt P K (fun _ => none) C fI cc cda qual st fd ∧ OexC K C ∧ PySem.W.findIn K (.ref C) f = some none ∧ PySem.W.findIn K (.ref C) "__init__" = some (some (.ref fI)) ∧ PySem.W.typeIn K (.ref fI) = some (.type "function")
abbrev free (K : PySem.W.Frag) (x : Str) : Prop := PySem.W.nsIn K mainGlobals x = some none
abbrev glob (K : PySem.W.Frag) (x : Str) (C : Addr) : Prop := PySem.W.nsIn K mainGlobals x = some (some (.ref C))
section
variable {P : Program} {w : PySem.World} {K : PySem.W.Frag} {mg : Str → Option Value} {base : Heap} {T : List (Addr × Str)} {C CB CU CT CM cc Pt : Addr} {h : Heap}
/-- of a def of the top -/
theorem has_of {CX : CXT} {x : Str} {st : Stmt} {k : Nat} {ps : List Str} {sp : SpD} (X : K.In h) (G : h.Ns mainGlobals mg) (d : TopDef K x st)
    (hb : ∀ (kV doc pm : Value) (an : Option Addr) (cdv ct : Value) (us : List Value), us.length = ps.length → bindArgs (PySem.W.fnOf x x (defArgs st) (defBody st) (defScope st) .none kV doc pm an cdv ct) ⟨us, []⟩ = pure (ps.zip us))
    (ok : ∀ f fd, Fun K x x st f fd → mg x = some (.ref f) → L2.Binds K fd ps [] → FnOk P w K mg base CX k f fd ps (spOf K T sp)) : HasF P w K mg base T CX x k ps sp := by
  obtain ⟨f, fd, h1, h2⟩ := d
  have hb' := h2.binds (ps := ps) hb
  exact ⟨f, fd, ok f fd h2 (PySem.W.mg_of X G h1) hb', PySem.W.mg_of X G h1, h2.kp, hb'⟩
theorem hasm_of {CX : CXT} {m qual : Str} {st : Stmt} {k : Nat} {ps : List Str} {sp : SpD} (d : MethDef K C m qual st)
    (hb : ∀ (kV doc pm : Value) (an : Option Addr) (cdv ct : Value) (us : List Value), us.length = ps.length → bindArgs (PySem.W.fnOf m qual (defArgs st) (defBody st) (defScope st) .none kV doc pm an cdv ct) ⟨us, []⟩ = pure (ps.zip us))
    (ok : ∀ f fd, Fun K m qual st f fd → FnOk P w K mg base CX k f fd ps (spOf K T sp)) : HasM P w K mg base T CX C m k ps sp := by
  obtain ⟨f, fd, h1, h2⟩ := d
  exact ⟨f, fd, ok f fd h2, h1, h2.binds (ps := ps) hb⟩
theorem hase_of {x qual f : Str} {st : Stmt} (X : K.In h) (G : h.Ns mainGlobals mg) (gx : glob K x C) (ns : free K "super") (d : ErrDef P K C qual f st)
    (hb : ∀ (cl : List (Str × Addr)) (kV doc pm : Value) (an : Option Addr) (cdv ct : Value) (us : List Value), us.length = 2 → bindArgs (PySem.W.fnX "__init__" qual (defArgs st) (defBody st) (defScope st) cl .none kV doc pm an cdv ct) ⟨us, []⟩ = pure ((["self", f] : List Str).zip us))
    (ok : ∀ fI cc cda fd, SupTxt P K mg C fI cc cda qual st fd → OexC K C → PySem.W.findIn K (.ref C) f = some none → FnOk P w K mg base CX0 1 fI fd ["self", f] (spX1 C f intFits)) : HasE P w K mg base x C 1 f := by
  obtain ⟨fI, cc, cda, fd, h1, h2, h3, h4, h5⟩ := d
  have h1' : SupTxt P K mg C fI cc cda qual st fd := ⟨h1.ex, h1.code, h1.cell, h1.along, h1.opq, h1.sub, h1.selfc, PySem.W.mg_none_of X G ns, h1.top⟩
  refine ⟨fI, fd, ok fI cc cda fd h1' h2 h3, PySem.W.mg_of X G gx, h2, h4, h5, ?_⟩
  obtain ⟨oc, od, kV, doc, pm, an, ct, osl, rfl, _, _⟩ := h1.ex
  exact .all (hb _ kV doc pm an _ ct)
abbrev qDo : Str := (("_law_doors" : Str) ++ ".<locals>.") ++ "<lambda>"
end
end Tw

set_option Elab.async false
set_option linter.all false
set_option maxRecDepth 100000
set_option maxHeartbeats 2000000
namespace Tw
open PySem PySem.Spec PyProof.Rows L2 LamX DL Mth Grf
def ErrDef2 (P : Program) (K : PySem.W.Frag) (C : Addr) (qual f g : Str) (st : Stmt) : Prop := ∃ fI cc cda fd, SupTxt P K (fun _ => none) C fI cc cda qual st fd ∧ OexC K C ∧ PySem.W.findIn K (.ref C) f = some none ∧ PySem.W.findIn K (.ref C) g = some none ∧ PySem.W.findIn K (.ref C) "__init__" = some (some (.ref fI)) ∧ PySem.W.typeIn K (.ref fI) = some (.type "function")

structure KF (P : Program) (K : PySem.W.Frag) (C CB CU CT CM cc Pt : Addr) : Prop where
  g_Split : glob K "Split" C
  g_BadSize : glob K "BadSize" CB
  g_UnknownCase : glob K "UnknownCase" CU
  g_ThinwallError : glob K "ThinwallError" CT
  g_SizeMismatch : glob K "SizeMismatch" CM
  n_int : free K "int"
  n_str : free K "str"
  n_bool : free K "bool"
  n_list : free K "list"
  n_tuple : free K "tuple"
  n_len : free K "len"
  n_range : free K "range"
  n_enumerate : free K "enumerate"
  n_isinstance : free K "isinstance"
  n_super : free K "super"
  n_ValueError : free K "ValueError"
  n_reversed : free K "reversed"
  n_min : free K "min"
  n_max : free K "max"
  n_all : free K "all"
  n_any : free K "any"
  n_sorted : free K "sorted"
  n_set : free K "set"
  d1 : TopDef K "check_case" sCheck
  d2 : TopDef K "check_size" sSize
  d3 : TopDef K "first_places" sPlaces
  d4 : TopDef K "_check_same_size" sSame2
  d5 : TopDef K "_merged_marks" sMerged
  d6 : TopDef K "shared" sShared
  d7 : TopDef K "find_chain" sFCh
  d8 : TopDef K "chain_holds" sChH
  d9 : TopDef K "find_island" sFIs
  d10 : TopDef K "island_holds" sIsH
  d11 : TopDef K "_check_ends" sEnds
  d12 : TopDef K "_ways_to" sWays
  d13 : TopDef K "_neighbours" sNbr
  d14 : TopDef K "_step_nearer" sNear
  d15 : TopDef K "_step_holds" sStepH
  d16 : TopDef K "_law_start" sStart
  d17 : TopDef K "_law_take" sTake
  d18 : TopDef K "_law_same" sSame
  d19 : TopDef K "_law_marks" sLMk
  d20 : TopDef K "_law_far" sLFar
  d21 : TopDef K "_law_chain" sLCh
  d22 : TopDef K "_law_reached" sLRe
  d23 : TopDef K "_law_chain_holds" sLChH
  d24 : TopDef K "_law_island_holds" sLIsH
  d25 : TopDef K "_law_steps" sLSt
  d26 : TopDef K "_law_bent_steps" sLBs
  d27 : TopDef K "_law_bent_island" sLBi
  d28 : TopDef K "_law_papers" sPa
  d29 : TopDef K "_law_found" sFo
  d30 : TopDef K "_law_told" sTold
  d31 : TopDef K "_law_strange" sLSg
  d32 : TopDef K "_law_refused" sRe
  d33 : TopDef K "law" sLaw
  dDo : ∃ f fd, PySem.W.nsIn K mainGlobals "_law_doors" = some (some (.ref f)) ∧ FunC K "_law_doors" "_law_doors" sDo f fd (.ref cc)
  m1 : MethDef K C "__init__" "Split.__init__" sInit
  m2 : MethDef K C "marks" "Split.marks" sMarks
  m3 : MethDef K C "cell" "Split.cell" sCell
  m4 : MethDef K C "together" "Split.together" sTog
  m5 : MethDef K C "__or__" "Split.__or__" sOr
  dApart : ∃ mc p g fd, ClX.CRead K C mc ∧ ClX.CMet K C mc "apart" p g ∧ Fun K "apart" "Split.apart" sApart g fd
  makes : PySem.W.makesIn K C = true
  kpC : PySem.W.keepIn K (.ref C) = true
  sf : PySem.W.selfFirst K C = true
  splC : SplC K C
  most : ∃ mc u, ClX.CRead K C mc ∧ ClX.CVal K C mc "MOST" (.int 12) u
  eB : ErrDef P K CB "BadSize.__init__" "size" sBadSize
  eU : ErrDef P K CU "UnknownCase.__init__" "case" sUnkCase
  eM : ErrDef2 P K CM "SizeMismatch.__init__" "first" "second" sSizeMis
  xmm : PySem.W.exmOne K (.ref CM) (.ref CM) = some true
  xum : PySem.W.exmOne K (.ref CU) (.ref CM) = some false
  xuu : PySem.W.exmOne K (.ref CU) (.ref CU) = some true
  ecCM : L2.ExcC K CM
  ecCU : L2.ExcC K CU
  xfCM : XfC K CM
  xfCU : XfC K CU
  kMT : PySem.W.kitOne K (.ref CM) (.ref CT) = some true
  kMV : PySem.W.kitOne K (.ref CM) (.type "ValueError") = some true
  kMU : PySem.W.kitOne K (.ref CM) (.ref CU) = some false
  kUT : PySem.W.kitOne K (.ref CU) (.ref CT) = some true
  kUV : PySem.W.kitOne K (.ref CU) (.type "ValueError") = some true
  kUM : PySem.W.kitOne K (.ref CU) (.ref CM) = some false
theorem dn_or : PySem.dunder Operator.BitOr.info.2 = ("__or__" : Str) := by decide +kernel
section
variable {P : Program} {w : PySem.World} {K : PySem.W.Frag} {mg : Str → Option Value} {base : Heap} {T : List (Addr × Str)} {C CB CU CT CM cc Pt : Addr} {h : Heap}
theorem hase2_of {x qual f g : Str} {st : Stmt} (X : K.In h) (G : h.Ns mainGlobals mg) (gx : glob K x C) (ns : free K "super") (d : ErrDef2 P K C qual f g st)
    (hb : ∀ (cl : List (Str × Addr)) (kV doc pm : Value) (an : Option Addr) (cdv ct : Value) (us : List Value), us.length = 3 → bindArgs (PySem.W.fnX "__init__" qual (defArgs st) (defBody st) (defScope st) cl .none kV doc pm an cdv ct) ⟨us, []⟩ = pure ((["self", f, g] : List Str).zip us))
    (ok : ∀ fI cc cda fd, SupTxt P K mg C fI cc cda qual st fd → OexC K C → PySem.W.findIn K (.ref C) f = some none → PySem.W.findIn K (.ref C) g = some none → FnOk P w K mg base CX0 1 fI fd ["self", f, g] (spX2 C f g intFits)) : HasE2 P w K mg base x C 1 f g := by
  obtain ⟨fI, cc, cda, fd, h1, h2, h3, h3', h4, h5⟩ := d
  have h1' : SupTxt P K mg C fI cc cda qual st fd := ⟨h1.ex, h1.code, h1.cell, h1.along, h1.opq, h1.sub, h1.selfc, PySem.W.mg_none_of X G ns, h1.top⟩
  refine ⟨fI, fd, ok fI cc cda fd h1' h2 h3 h3', PySem.W.mg_of X G gx, h2, h4, h5, ?_⟩
  obtain ⟨oc, od, kV, doc, pm, an, ct, osl, rfl, _, _⟩ := h1.ex
  exact .all (hb _ kV doc pm an _ ct)

theorem all_mk {fa : Addr} (X : K.In h) (G : h.Ns mainGlobals mg) (F : KF P K C CB CU CT CM cc Pt) (hfa : mg "law" = some (.ref fa)) :
    ∃ fd : FuncData, (∀ (s : Shared) (us : List Value), us.length = (["script"] : List Str).length → BindsTo s fd ⟨us, []⟩ ((["script"] : List Str).zip us)) ∧
      ∀ base : Heap, TabB base mg cc Pt → FnOk P w K mg base CX0 14 fa fd ["script"] (spOf K [(Pt, qDo)] spLaw) := by
  obtain ⟨fL, fdL, l1, l2⟩ := F.d33
  have e := hfa.symm.trans (PySem.W.mg_of X G l1)
  cases e
  have nn : ∀ {x : Str}, free K x → mg x = none := fun z => PySem.W.mg_none_of X G z
  have hm : Nm2 mg := ⟨nn F.n_int, nn F.n_str, nn F.n_bool, nn F.n_list, nn F.n_tuple, nn F.n_len, nn F.n_range, nn F.n_enumerate, nn F.n_isinstance⟩
  refine ⟨fdL, fun s us hu => ?_, fun base TB => ?_⟩
  · obtain ⟨oc, od, kV, doc, pm, an, cdv, ct, osl, rfl, _, _⟩ := l2.ex
    exact match us, hu with | [_], _ => .of_eq rfl
  generalize hT : [(Pt, qDo)] = T
  have mS := PySem.W.mg_of X G F.g_Split
  obtain ⟨mc, u, rC, vC⟩ := F.most
  have er : ErrM K mg CM CU CT := by
    obtain ⟨_, _, _, _, _, _, nf, ns, _, _⟩ := F.eM
    obtain ⟨_, _, _, _, _, _, nu, _, _⟩ := F.eU
    exact ⟨PySem.W.mg_of X G F.g_SizeMismatch, PySem.W.mg_of X G F.g_UnknownCase, PySem.W.mg_of X G F.g_ThinwallError, nn F.n_ValueError, F.xmm, F.xum, F.xuu, F.ecCM, F.ecCU, F.xfCM, F.xfCU, nf, ns, nu, F.kMT, F.kMV, F.kMU, F.kUT, F.kUV, F.kUM⟩
  have hEB : HasE P w K mg base "BadSize" CB 1 "size" := hase_of X G F.g_BadSize F.n_super F.eB (fun _ _ _ _ _ _ _ us hl => match us, hl with | [_, _], _ => rfl) fun _ _ _ _ a b c => ok_bs a b c
  have hEU : HasE P w K mg base "UnknownCase" CU 1 "case" := hase_of X G F.g_UnknownCase F.n_super F.eU (fun _ _ _ _ _ _ _ us hl => match us, hl with | [_, _], _ => rfl) fun _ _ _ _ a b c => ok_uc a b c
  have hEM : HasE2 P w K mg base "SizeMismatch" CM 1 "first" "second" := hase2_of X G F.g_SizeMismatch F.n_super F.eM (fun _ _ _ _ _ _ _ us hl => match us, hl with | [_, _, _], _ => rfl) fun _ _ _ _ a b c d => ok_sm a b c d
  have hCk : HasF P w K mg base T (L2.CX P w) "check_case" 3 ["case", "size"] (spCheck CU) := has_of X G F.d1 (fun _ _ _ _ _ _ us hl => match us, hl with | [_, _], _ => rfl) fun _ _ g _ _ => ok_check g hEU
  have hSz : HasF P w K mg base T (L2.CX P w) "check_size" 3 ["size"] (spSize CB) := has_of X G F.d2 (fun _ _ _ _ _ _ us hl => match us, hl with | [_], _ => rfl) fun _ _ g _ _ => ok_size g hEB mS rC vC
  have hPl : HasF P w K mg base T CX0 "first_places" 3 ["items"] spPlaces := has_of X G F.d3 (fun _ _ _ _ _ _ us hl => match us, hl with | [_], _ => rfl) fun _ _ g _ _ => ok_places2 g hm (nn F.n_reversed)
  have hSt : HasF P w K mg base T CX0 "_law_start" 1 ["script"] spStart := has_of X G F.d16 (fun _ _ _ _ _ _ us hl => match us, hl with | [_], _ => rfl) fun _ _ g _ _ => ok_start g hm.nm
  have hTk : HasF P w K mg base T CX0 "_law_take" 1 ["bag", "many"] spTake := has_of X G F.d17 (fun _ _ _ _ _ _ us hl => match us, hl with | [_, _], _ => rfl) fun _ _ g _ _ => ok_take g hm.nm
  have hSm : ∀ n, HasF P w K mg base T CX0 "_law_same" (n + 1) ["actual", "due"] (spSame n) := fun n => has_of X G F.d18 (fun _ _ _ _ _ _ us hl => match us, hl with | [_, _], _ => rfl) fun _ _ g m b => ok_same g hm m b n
  have hS2 : HasF P w K mg base T (L2.CX P w) "_check_same_size" 3 ["one", "other"] (spSame2 C CM) := has_of X G F.d4 (fun _ _ _ _ _ _ us hl => match us, hl with | [_, _], _ => rfl) fun _ _ g _ _ => ok_same2 g F.splC hEM
  have hMg : HasF P w K mg base T CX0 "_merged_marks" 1 ["marks", "first", "second"] spMerged := has_of X G F.d5 (fun _ _ _ _ _ _ us hl => match us, hl with | [_, _, _], _ => rfl) fun _ _ g _ _ => ok_merged g (nn F.n_min) (nn F.n_max)
  have hMm : HasM P w K mg base T CX0 C "marks" 1 ["self"] (spMarks C) := hasm_of F.m2 (fun _ _ _ _ _ _ us hl => match us, hl with | [_], _ => rfl) fun _ _ g => ok_marks g hm F.splC
  have hCe : HasM P w K mg base T (L2.CX P w) C "cell" 4 ["self", "case"] (spCell C CU) := hasm_of F.m3 (fun _ _ _ _ _ _ us hl => match us, hl with | [_, _], _ => rfl) fun _ _ g => ok_cell g hm F.splC hCk
  have hTg : HasM P w K mg base T (L2.CX P w) C "together" 4 ["self", "first", "second"] (spTog C CU) := hasm_of F.m4 (fun _ _ _ _ _ _ us hl => match us, hl with | [_, _, _], _ => rfl) fun _ _ g => ok_tog g hm F.splC hCk
  have hMk : HasMk P w K mg base T (L2.CX P w) "Split" C 4 ["self", "marks"] (spInit C CB) := by
    obtain ⟨f, fd, h1, h2⟩ := F.m1
    exact ⟨f, fd, ok_init h2 hm F.splC hSz hPl, mS, ⟨F.makes, h1.at_, h1.fn, F.kpC⟩, h2.binds (ps := ["self", "marks"]) fun _ _ _ _ _ _ us hl => match us, hl with | [_, _], _ => rfl⟩
  have hOr : HasB P w K mg base T (L2.CX P w) .BitOr C 7 (spOr C CM) := by
    obtain ⟨f, fd, h1, h2⟩ := F.m5
    exact ⟨f, fd, ok_or h2 hm F.splC hS2 hMm hMg hMk, by rw [dn_or]; exact h1.at_, h1.fn, F.sf, h2.binds (ps := ["self", "other"]) fun _ _ _ _ _ _ us hl => match us, hl with | [_, _], _ => rfl⟩
  have hAp : HasCM P w K mg base T (L2.CX P w) C "apart" 6 ["cls", "size"] (spApart C) := by
    obtain ⟨mc, p, g, fd, h1, h2, h3⟩ := F.dApart
    exact ⟨mc, p, g, fd, h1, h2, ok_apart h3 hm hSz hMk, h3.binds (ps := ["cls", "size"]) fun _ _ _ _ _ _ us hl => match us, hl with | [_, _], _ => rfl⟩
  have hSh : HasSK P w K mg base T (L2.CX P w) "shared" "size" 8 (spShared C) := by
    obtain ⟨f, fd, h1, h2⟩ := F.d6
    exact ⟨f, ok_shared h2 F.splC mS hAp hOr, PySem.W.mg_of X G h1, h2.kp⟩
  have hEn : HasF P w K mg base T (L2.CX P w) "_check_ends" 4 ["splits", "first", "last"] (spEnds C CM CU) := has_of X G F.d11 (fun _ _ _ _ _ _ us hl => match us, hl with | [_, _, _], _ => rfl) fun _ _ g _ _ => ok_ends g F.splC hEM hCk
  have hNb : HasF P w K mg base T CX0 "_neighbours" 5 ["splits", "case"] (spNbr C) := has_of X G F.d13 (fun _ _ _ _ _ _ us hl => match us, hl with | [_, _], _ => rfl) fun _ _ g _ _ => ok_nbr g F.splC hCe
  have hWa : HasF P w K mg base T CX0 "_ways_to" 6 ["splits", "last"] (spWays C) := has_of X G F.d12 (fun _ _ _ _ _ _ us hl => match us, hl with | [_, _], _ => rfl) fun _ _ g _ _ => ok_ways g hNb
  have hNe : HasF P w K mg base T CX0 "_step_nearer" 5 ["splits", "ways", "case"] (spNear C) := has_of X G F.d14 (fun _ _ _ _ _ _ us hl => match us, hl with | [_, _, _], _ => rfl) fun _ _ g _ _ => ok_near g hm F.splC hCe
  have hSH : HasF P w K mg base T (L2.CX P w) "_step_holds" 5 ["splits", "case", "index", "other"] (spStepH C) := has_of X G F.d15 (fun _ _ _ _ _ _ us hl => match us, hl with | [_, _, _, _], _ => rfl) fun _ _ g _ _ => ok_stepH g hm F.splC hTg
  have hFC : HasF P w K mg base T (L2.CX P w) "find_chain" 7 ["splits", "first", "last"] (spFCh C CM CU) := has_of X G F.d7 (fun _ _ _ _ _ _ us hl => match us, hl with | [_, _, _], _ => rfl) fun _ _ g _ _ => ok_fch g hEn hWa hNe
  have hCH : HasF P w K mg base T (L2.CX P w) "chain_holds" 6 ["splits", "first", "last", "chain"] (spChH C CM CU) := has_of X G F.d8 (fun _ _ _ _ _ _ us hl => match us, hl with | [_, _, _, _], _ => rfl) fun _ _ g _ _ => ok_chh g hEn hSH
  have hFI : HasF P w K mg base T (L2.CX P w) "find_island" 9 ["splits", "first", "last"] (spFIs C CM CU) := has_of X G F.d9 (fun _ _ _ _ _ _ us hl => match us, hl with | [_, _, _], _ => rfl) fun _ _ g _ _ => ok_fis g F.splC hEn hSh hCe
  have hIH : HasF P w K mg base T (L2.CX P w) "island_holds" 5 ["splits", "first", "last", "island"] (spIsH C CM CU) := has_of X G F.d10 (fun _ _ _ _ _ _ us hl => match us, hl with | [_, _, _, _], _ => rfl) fun _ _ g _ _ => ok_ish g F.splC (nn F.n_all) (nn F.n_any) (nn F.n_sorted) (nn F.n_set) hEn hCe
  have hLMk : HasF P w K mg base T CX0 "_law_marks" 2 ["bag", "many", "way"] spLMk := has_of X G F.d19 (fun _ _ _ _ _ _ us hl => match us, hl with | [_, _, _], _ => rfl) fun _ _ g _ _ => ok_lmk g hm hTk
  have hLFar : HasF P w K mg base T CX0 "_law_far" 2 ["rows", "last"] spLFar := has_of X G F.d20 (fun _ _ _ _ _ _ us hl => match us, hl with | [_, _], _ => rfl) fun _ _ g _ _ => ok_lfar g hm (nn F.n_min)
  have hLCh : HasF P w K mg base T CX0 "_law_chain" 3 ["rows", "start", "last"] spLCh := has_of X G F.d21 (fun _ _ _ _ _ _ us hl => match us, hl with | [_, _, _], _ => rfl) fun _ _ g _ _ => ok_lch g hm hLFar
  have hLRe : HasF P w K mg base T CX0 "_law_reached" 3 ["rows", "start"] spLRe := has_of X G F.d22 (fun _ _ _ _ _ _ us hl => match us, hl with | [_, _], _ => rfl) fun _ _ g _ _ => ok_lre g hm hLFar
  have hLChH : HasF P w K mg base T CX0 "_law_chain_holds" 1 ["rows", "start", "last", "chain"] spLChH := has_of X G F.d23 (fun _ _ _ _ _ _ us hl => match us, hl with | [_, _, _, _], _ => rfl) fun _ _ g _ _ => ok_lchh g hm
  have hLIsH : HasF P w K mg base T CX0 "_law_island_holds" 1 ["rows", "start", "last", "island"] spLIsH := has_of X G F.d24 (fun _ _ _ _ _ _ us hl => match us, hl with | [_, _, _, _], _ => rfl) fun _ _ g _ _ => ok_lish g hm
  have hLSt : HasF P w K mg base T CX0 "_law_steps" 4 ["bag", "rows", "start", "last"] spLSt := has_of X G F.d25 (fun _ _ _ _ _ _ us hl => match us, hl with | [_, _, _, _], _ => rfl) fun _ _ g _ _ => ok_lst g hm hTk hLCh
  have hLBs : HasF P w K mg base T CX0 "_law_bent_steps" 2 ["bag", "rows", "steps"] spLBs := has_of X G F.d26 (fun _ _ _ _ _ _ us hl => match us, hl with | [_, _, _], _ => rfl) fun _ _ g _ _ => ok_lbs g hm hTk
  have hLBi : HasF P w K mg base T CX0 "_law_bent_island" 2 ["bag", "many", "island"] spLBi := has_of X G F.d27 (fun _ _ _ _ _ _ us hl => match us, hl with | [_, _, _], _ => rfl) fun _ _ g _ _ => ok_lbi g hm hTk
  have hLSg : HasF P w K mg base T CX0 "_law_strange" 2 ["bag", "many"] spSg := has_of X G F.d31 (fun _ _ _ _ _ _ us hl => match us, hl with | [_, _], _ => rfl) fun _ _ g _ _ => ok_sg g hm hTk
  have hFo : HasF P w K mg base T CX0 "_law_found" 10 ["splits", "rows", "start", "last"] (spFo C) := has_of X G F.d29 (fun _ _ _ _ _ _ us hl => match us, hl with | [_, _, _, _], _ => rfl) fun _ _ g _ _ => ok_fo g hm F.splC hLCh hLRe hFC hCH hFI hIH hSm hMm
  have hPa : HasF P w K mg base T CX0 "_law_papers" 7 ["bag", "splits", "rows", "start", "last"] (spPa C) := has_of X G F.d28 (fun _ _ _ _ _ _ us hl => match us, hl with | [_, _, _, _, _], _ => rfl) fun _ _ g _ _ => ok_pa g hm hTk hLSt hLBs hLBi hLRe hLChH hLIsH hCH hIH hSm
  have tOk : ToldOk K mg := by
    obtain ⟨g, fd, h1, h2⟩ := F.d30
    exact ⟨g, fd, h2, PySem.W.mg_of X G h1, h2.binds (ps := ["action"]) fun _ _ _ _ _ _ us hl => match us, hl with | [_], _ => rfl⟩
  have hDo : HasF P w K mg base T CX0 "_law_doors" 12 ["splits", "start", "last", "due"] (spDo C CM CU) := by
    obtain ⟨f, fd, h1, h2⟩ := F.dDo
    have hb := h2.fun.binds (ps := ["splits", "start", "last", "due"]) fun _ _ _ _ _ _ us hl => match us, hl with | [_, _, _, _], _ => rfl
    refine ⟨f, fd, ok_do h2 hm er tOk ⟨cc, Pt, TB, rfl, ?_, ?_⟩ hFC hCH hFI hIH hSm, PySem.W.mg_of X G h1, h2.kp, hb⟩
    · rw [← hT]
      exact List.mem_singleton.mpr rfl
    · intro p hp _
      rw [← hT] at hp
      rw [List.mem_singleton.mp hp]
  have hRe : HasF P w K mg base T CX0 "_law_refused" 13 ["bag", "splits", "many", "start", "last"] (spRe C) := has_of X G F.d32 (fun _ _ _ _ _ _ us hl => match us, hl with | [_, _, _, _, _], _ => rfl) fun _ _ g _ _ => ok_re g hm hTk hLSg hMk hDo
  exact ok_law l2 hm F.splC hSt hTk hLMk hSm hFo hPa hRe hMm hMk
end
end Tw

set_option Elab.async false
set_option linter.all false
set_option maxRecDepth 100000
set_option maxHeartbeats 2000000
namespace Tw
open PySem PySem.Spec PyProof.Rows L2 LamX DL
theorem law_at {l : PySem.W.OpenLaw} {w : PySem.World} {K : PySem.W.Frag} {mg : Str → Option Value} {h : Heap} {fa C CB CU CT CM cc Pt : Addr} {n : Nat} (X : K.In h) (G : h.Ns mainGlobals mg) (hfa : mg "law" = some (.ref fa)) (F : KF l.prog K C CB CU CT CM cc Pt)
    (hT : h.get? Pt = some { cls := .none, data := .fields #[] }) (nT : K.lookup Pt = none) (hc : PySem.W.codeHdIn K cc Pt = true) : LawAtS l w K CX0 14 n "script" mg fa h := by
  obtain ⟨fd, h1, h2⟩ := all_mk (P := l.prog) (w := w) X G F hfa
  refine ⟨fd, [(cc, Pt)], _, ?_, ?_, ?_, fun s u => h1 s [u] rfl, ?_, fun base _ _ TB => h2 base (TB _ (List.mem_singleton.mpr rfl))⟩
  · intro p hp
    rw [List.mem_singleton.mp hp]
    exact hT
  · intro p hp
    rw [List.mem_singleton.mp hp]
    exact nT
  · intro p hp
    rw [List.mem_singleton.mp hp]
    exact PySem.W.codeHd_of_K X hc
  · intro H a ns _ _ hH hS
    have hPt : H Pt = some (.tbl #[]) := hH _ (List.mem_singleton.mpr rfl)
    obtain ⟨S, hq, hs, hn⟩ : ∃ S : Hp, SqL K S a (ns.map V.int) ∧ Same S H ∧ ∀ b ps, S b ≠ some (.tbl ps) := by
      rcases hS with hr | hk
      · refine ⟨fun b => if b = a then H a else none, .inl ?_, fun b x q => ?_, fun b ps q => ?_⟩
        · rcases hr with e | ⟨ob, e⟩
          · exact .inl ((if_pos rfl).trans e)
          · exact .inr ⟨ob, (if_pos rfl).trans e⟩
        · have q' : (if b = a then H a else none) = some x := q
          by_cases e : b = a
          · rw [if_pos e] at q'
            rw [e]
            exact q'
          · rw [if_neg e] at q'
            cases q'
        · have q' : (if b = a then H a else none) = some (.tbl ps) := q
          by_cases e : b = a
          · rw [if_pos e] at q'
            rcases hr with e | ⟨ob, e⟩
            · rw [e] at q'
              cases q'
            · rw [e] at q'
              cases q'
          · rw [if_neg e] at q'
            cases q'
      · exact ⟨fun _ => none, .inr hk, (fun b x q => by cases q), fun b ps q => by cases q⟩
    have rl : ∀ l : List Int, RepL K S (l.map I) (l.map V.int) := by
      intro l
      induction l with
      | nil => rfl
      | cons x l ih => exact ⟨V.int x, _, rfl, rfl, ih⟩
    refine ⟨[.rd (ns.map I)], fun _ => none, fun _ => none, S, fun d _ => d = B true, noX, ⟨ns, rfl, ⟨0, 1, rfl, rfl, by decide⟩, fun _ => rfl⟩, ?_, ?_, ?_, fun _ _ _ _ _ _ _ z => z.elim⟩
    · exact ⟨.ref a, [], rfl, ⟨a, ns.map V.int, rfl, hq, rl ns⟩, rfl⟩
    · refine ⟨hs, hn, (fun b k q => by cases q), (fun b x q => by cases q), ?_, fun b ps q => by cases q⟩
      intro p hp
      rw [List.mem_singleton.mp hp]
      exact TabS.nil hPt
    · rintro d w' v S' H' rfl s1 W1 r
      exact r
end Tw

set_option Elab.async false
set_option linter.all false
open PySem PySem.W PyProof.Rows
set_option maxRecDepth 100000 in
set_option maxHeartbeats 0 in
theorem PySem.Challenge.cw_thinwall_k04_whole_chain_or_island_holds : PySem.Challenge.rw_thinwall_k04_whole_chain_or_island.Holds := by
  w_on; o_law; k_head; (case hw => w_witness2)
  k_fill
  refine LamX.walk_ofTs (l := PySem.Challenge.rw_thinwall_k04_whole_chain_or_island) (n := 63) (k := 14) (CX := fun _ => L2.CX0) (x := "script") rfl (by decide) rfl ⟨rfl, by decide, by decide⟩ (fun w h Y => PySem.W.km_in_of Y) ?FF (fun _ _ _ _ _ z => z)
  intro w mg fa h Y X G hfa
  refine' Tw.law_at X G hfa ⟨?g_Split, ?g_BadSize, ?g_UnknownCase, ?g_ThinwallError, ?g_SizeMismatch, ?n_int, ?n_str, ?n_bool, ?n_list, ?n_tuple, ?n_len, ?n_range, ?n_enumerate, ?n_isinstance, ?n_super, ?n_ValueError, ?n_reversed, ?n_min, ?n_max, ?n_all, ?n_any, ?n_sorted, ?n_set, ?d1, ?d2, ?d3, ?d4, ?d5, ?d6, ?d7, ?d8, ?d9, ?d10, ?d11, ?d12, ?d13, ?d14, ?d15, ?d16, ?d17, ?d18, ?d19, ?d20, ?d21, ?d22, ?d23, ?d24, ?d25, ?d26, ?d27, ?d28, ?d29, ?d30, ?d31, ?d32, ?d33, ?dDo, ?m1, ?m2, ?m3, ?m4, ?m5, ?dApart, ?makes, ?kpC, ?sf, ?splC, ?most, ?eB, ?eU, ?eM, ?xmm, ?xum, ?xuu, ?ecCM, ?ecCU, ?xfCM, ?xfCU, ?kMT, ?kMV, ?kMU, ?kUT, ?kUV, ?kUM⟩ (PySem.W.km_tabs_of Y _ (List.mem_singleton.mpr rfl)) ?nT ?hcd
  (case g_Split => (first | k_is | kit_is | ks_is | rfl | decide +kernel))
  (case g_BadSize => (first | k_is | kit_is | ks_is | rfl | decide +kernel))
  (case g_UnknownCase => (first | k_is | kit_is | ks_is | rfl | decide +kernel))
  (case g_ThinwallError => (first | k_is | kit_is | ks_is | rfl | decide +kernel))
  (case g_SizeMismatch => (first | k_is | kit_is | ks_is | rfl | decide +kernel))
  (case n_int => (first | k_is | kit_is | ks_is | rfl | decide +kernel))
  (case n_str => (first | k_is | kit_is | ks_is | rfl | decide +kernel))
  (case n_bool => (first | k_is | kit_is | ks_is | rfl | decide +kernel))
  (case n_list => (first | k_is | kit_is | ks_is | rfl | decide +kernel))
  (case n_tuple => (first | k_is | kit_is | ks_is | rfl | decide +kernel))
  (case n_len => (first | k_is | kit_is | ks_is | rfl | decide +kernel))
  (case n_range => (first | k_is | kit_is | ks_is | rfl | decide +kernel))
  (case n_enumerate => (first | k_is | kit_is | ks_is | rfl | decide +kernel))
  (case n_isinstance => (first | k_is | kit_is | ks_is | rfl | decide +kernel))
  (case n_super => (first | k_is | kit_is | ks_is | rfl | decide +kernel))
  (case n_ValueError => (first | k_is | kit_is | ks_is | rfl | decide +kernel))
  (case n_reversed => (first | k_is | kit_is | ks_is | rfl | decide +kernel))
  (case n_min => (first | k_is | kit_is | ks_is | rfl | decide +kernel))
  (case n_max => (first | k_is | kit_is | ks_is | rfl | decide +kernel))
  (case n_all => (first | k_is | kit_is | ks_is | rfl | decide +kernel))
  (case n_any => (first | k_is | kit_is | ks_is | rfl | decide +kernel))
  (case n_sorted => (first | k_is | kit_is | ks_is | rfl | decide +kernel))
  (case n_set => (first | k_is | kit_is | ks_is | rfl | decide +kernel))
  (case d1 => (refine' ⟨_, _, ?a_1, L2.fun_mk ?l_1 ?c_1 ?k_1⟩; (case a_1 => (first | k_is | kit_is | ks_is | rfl | decide +kernel)); (case l_1 => (first | k_is | kit_is | ks_is | rfl | decide +kernel)); (case c_1 => (first | k_is | kit_is | ks_is | rfl | decide +kernel)); (case k_1 => (first | k_is | kit_is | ks_is | rfl | decide +kernel))))
  (case d2 => (refine' ⟨_, _, ?a_2, L2.fun_mk ?l_2 ?c_2 ?k_2⟩; (case a_2 => (first | k_is | kit_is | ks_is | rfl | decide +kernel)); (case l_2 => (first | k_is | kit_is | ks_is | rfl | decide +kernel)); (case c_2 => (first | k_is | kit_is | ks_is | rfl | decide +kernel)); (case k_2 => (first | k_is | kit_is | ks_is | rfl | decide +kernel))))
  (case d3 => (refine' ⟨_, _, ?a_3, L2.fun_mk ?l_3 ?c_3 ?k_3⟩; (case a_3 => (first | k_is | kit_is | ks_is | rfl | decide +kernel)); (case l_3 => (first | k_is | kit_is | ks_is | rfl | decide +kernel)); (case c_3 => (first | k_is | kit_is | ks_is | rfl | decide +kernel)); (case k_3 => (first | k_is | kit_is | ks_is | rfl | decide +kernel))))
  (case d4 => (refine' ⟨_, _, ?a_4, L2.fun_mk ?l_4 ?c_4 ?k_4⟩; (case a_4 => (first | k_is | kit_is | ks_is | rfl | decide +kernel)); (case l_4 => (first | k_is | kit_is | ks_is | rfl | decide +kernel)); (case c_4 => (first | k_is | kit_is | ks_is | rfl | decide +kernel)); (case k_4 => (first | k_is | kit_is | ks_is | rfl | decide +kernel))))
  (case d5 => (refine' ⟨_, _, ?a_5, L2.fun_mk ?l_5 ?c_5 ?k_5⟩; (case a_5 => (first | k_is | kit_is | ks_is | rfl | decide +kernel)); (case l_5 => (first | k_is | kit_is | ks_is | rfl | decide +kernel)); (case c_5 => (first | k_is | kit_is | ks_is | rfl | decide +kernel)); (case k_5 => (first | k_is | kit_is | ks_is | rfl | decide +kernel))))
  (case d6 => (refine' ⟨_, _, ?a_6, L2.fun_mk ?l_6 ?c_6 ?k_6⟩; (case a_6 => (first | k_is | kit_is | ks_is | rfl | decide +kernel)); (case l_6 => (first | k_is | kit_is | ks_is | rfl | decide +kernel)); (case c_6 => (first | k_is | kit_is | ks_is | rfl | decide +kernel)); (case k_6 => (first | k_is | kit_is | ks_is | rfl | decide +kernel))))
  (case d7 => (refine' ⟨_, _, ?a_7, L2.fun_mk ?l_7 ?c_7 ?k_7⟩; (case a_7 => (first | k_is | kit_is | ks_is | rfl | decide +kernel)); (case l_7 => (first | k_is | kit_is | ks_is | rfl | decide +kernel)); (case c_7 => (first | k_is | kit_is | ks_is | rfl | decide +kernel)); (case k_7 => (first | k_is | kit_is | ks_is | rfl | decide +kernel))))
  (case d8 => (refine' ⟨_, _, ?a_8, L2.fun_mk ?l_8 ?c_8 ?k_8⟩; (case a_8 => (first | k_is | kit_is | ks_is | rfl | decide +kernel)); (case l_8 => (first | k_is | kit_is | ks_is | rfl | decide +kernel)); (case c_8 => (first | k_is | kit_is | ks_is | rfl | decide +kernel)); (case k_8 => (first | k_is | kit_is | ks_is | rfl | decide +kernel))))
  (case d9 => (refine' ⟨_, _, ?a_9, L2.fun_mk ?l_9 ?c_9 ?k_9⟩; (case a_9 => (first | k_is | kit_is | ks_is | rfl | decide +kernel)); (case l_9 => (first | k_is | kit_is | ks_is | rfl | decide +kernel)); (case c_9 => (first | k_is | kit_is | ks_is | rfl | decide +kernel)); (case k_9 => (first | k_is | kit_is | ks_is | rfl | decide +kernel))))
  (case d10 => (refine' ⟨_, _, ?a_10, L2.fun_mk ?l_10 ?c_10 ?k_10⟩; (case a_10 => (first | k_is | kit_is | ks_is | rfl | decide +kernel)); (case l_10 => (first | k_is | kit_is | ks_is | rfl | decide +kernel)); (case c_10 => (first | k_is | kit_is | ks_is | rfl | decide +kernel)); (case k_10 => (first | k_is | kit_is | ks_is | rfl | decide +kernel))))
  (case d11 => (refine' ⟨_, _, ?a_11, L2.fun_mk ?l_11 ?c_11 ?k_11⟩; (case a_11 => (first | k_is | kit_is | ks_is | rfl | decide +kernel)); (case l_11 => (first | k_is | kit_is | ks_is | rfl | decide +kernel)); (case c_11 => (first | k_is | kit_is | ks_is | rfl | decide +kernel)); (case k_11 => (first | k_is | kit_is | ks_is | rfl | decide +kernel))))
  (case d12 => (refine' ⟨_, _, ?a_12, L2.fun_mk ?l_12 ?c_12 ?k_12⟩; (case a_12 => (first | k_is | kit_is | ks_is | rfl | decide +kernel)); (case l_12 => (first | k_is | kit_is | ks_is | rfl | decide +kernel)); (case c_12 => (first | k_is | kit_is | ks_is | rfl | decide +kernel)); (case k_12 => (first | k_is | kit_is | ks_is | rfl | decide +kernel))))
  (case d13 => (refine' ⟨_, _, ?a_13, L2.fun_mk ?l_13 ?c_13 ?k_13⟩; (case a_13 => (first | k_is | kit_is | ks_is | rfl | decide +kernel)); (case l_13 => (first | k_is | kit_is | ks_is | rfl | decide +kernel)); (case c_13 => (first | k_is | kit_is | ks_is | rfl | decide +kernel)); (case k_13 => (first | k_is | kit_is | ks_is | rfl | decide +kernel))))
  (case d14 => (refine' ⟨_, _, ?a_14, L2.fun_mk ?l_14 ?c_14 ?k_14⟩; (case a_14 => (first | k_is | kit_is | ks_is | rfl | decide +kernel)); (case l_14 => (first | k_is | kit_is | ks_is | rfl | decide +kernel)); (case c_14 => (first | k_is | kit_is | ks_is | rfl | decide +kernel)); (case k_14 => (first | k_is | kit_is | ks_is | rfl | decide +kernel))))
  (case d15 => (refine' ⟨_, _, ?a_15, L2.fun_mk ?l_15 ?c_15 ?k_15⟩; (case a_15 => (first | k_is | kit_is | ks_is | rfl | decide +kernel)); (case l_15 => (first | k_is | kit_is | ks_is | rfl | decide +kernel)); (case c_15 => (first | k_is | kit_is | ks_is | rfl | decide +kernel)); (case k_15 => (first | k_is | kit_is | ks_is | rfl | decide +kernel))))
  (case d16 => (refine' ⟨_, _, ?a_16, L2.fun_mk ?l_16 ?c_16 ?k_16⟩; (case a_16 => (first | k_is | kit_is | ks_is | rfl | decide +kernel)); (case l_16 => (first | k_is | kit_is | ks_is | rfl | decide +kernel)); (case c_16 => (first | k_is | kit_is | ks_is | rfl | decide +kernel)); (case k_16 => (first | k_is | kit_is | ks_is | rfl | decide +kernel))))
  (case d17 => (refine' ⟨_, _, ?a_17, L2.fun_mk ?l_17 ?c_17 ?k_17⟩; (case a_17 => (first | k_is | kit_is | ks_is | rfl | decide +kernel)); (case l_17 => (first | k_is | kit_is | ks_is | rfl | decide +kernel)); (case c_17 => (first | k_is | kit_is | ks_is | rfl | decide +kernel)); (case k_17 => (first | k_is | kit_is | ks_is | rfl | decide +kernel))))
  (case d18 => (refine' ⟨_, _, ?a_18, L2.fun_mk ?l_18 ?c_18 ?k_18⟩; (case a_18 => (first | k_is | kit_is | ks_is | rfl | decide +kernel)); (case l_18 => (first | k_is | kit_is | ks_is | rfl | decide +kernel)); (case c_18 => (first | k_is | kit_is | ks_is | rfl | decide +kernel)); (case k_18 => (first | k_is | kit_is | ks_is | rfl | decide +kernel))))
  (case d19 => (refine' ⟨_, _, ?a_19, L2.fun_mk ?l_19 ?c_19 ?k_19⟩; (case a_19 => (first | k_is | kit_is | ks_is | rfl | decide +kernel)); (case l_19 => (first | k_is | kit_is | ks_is | rfl | decide +kernel)); (case c_19 => (first | k_is | kit_is | ks_is | rfl | decide +kernel)); (case k_19 => (first | k_is | kit_is | ks_is | rfl | decide +kernel))))
  (case d20 => (refine' ⟨_, _, ?a_20, L2.fun_mk ?l_20 ?c_20 ?k_20⟩; (case a_20 => (first | k_is | kit_is | ks_is | rfl | decide +kernel)); (case l_20 => (first | k_is | kit_is | ks_is | rfl | decide +kernel)); (case c_20 => (first | k_is | kit_is | ks_is | rfl | decide +kernel)); (case k_20 => (first | k_is | kit_is | ks_is | rfl | decide +kernel))))
  (case d21 => (refine' ⟨_, _, ?a_21, L2.fun_mk ?l_21 ?c_21 ?k_21⟩; (case a_21 => (first | k_is | kit_is | ks_is | rfl | decide +kernel)); (case l_21 => (first | k_is | kit_is | ks_is | rfl | decide +kernel)); (case c_21 => (first | k_is | kit_is | ks_is | rfl | decide +kernel)); (case k_21 => (first | k_is | kit_is | ks_is | rfl | decide +kernel))))
  (case d22 => (refine' ⟨_, _, ?a_22, L2.fun_mk ?l_22 ?c_22 ?k_22⟩; (case a_22 => (first | k_is | kit_is | ks_is | rfl | decide +kernel)); (case l_22 => (first | k_is | kit_is | ks_is | rfl | decide +kernel)); (case c_22 => (first | k_is | kit_is | ks_is | rfl | decide +kernel)); (case k_22 => (first | k_is | kit_is | ks_is | rfl | decide +kernel))))
  (case d23 => (refine' ⟨_, _, ?a_23, L2.fun_mk ?l_23 ?c_23 ?k_23⟩; (case a_23 => (first | k_is | kit_is | ks_is | rfl | decide +kernel)); (case l_23 => (first | k_is | kit_is | ks_is | rfl | decide +kernel)); (case c_23 => (first | k_is | kit_is | ks_is | rfl | decide +kernel)); (case k_23 => (first | k_is | kit_is | ks_is | rfl | decide +kernel))))
  (case d24 => (refine' ⟨_, _, ?a_24, L2.fun_mk ?l_24 ?c_24 ?k_24⟩; (case a_24 => (first | k_is | kit_is | ks_is | rfl | decide +kernel)); (case l_24 => (first | k_is | kit_is | ks_is | rfl | decide +kernel)); (case c_24 => (first | k_is | kit_is | ks_is | rfl | decide +kernel)); (case k_24 => (first | k_is | kit_is | ks_is | rfl | decide +kernel))))
  (case d25 => (refine' ⟨_, _, ?a_25, L2.fun_mk ?l_25 ?c_25 ?k_25⟩; (case a_25 => (first | k_is | kit_is | ks_is | rfl | decide +kernel)); (case l_25 => (first | k_is | kit_is | ks_is | rfl | decide +kernel)); (case c_25 => (first | k_is | kit_is | ks_is | rfl | decide +kernel)); (case k_25 => (first | k_is | kit_is | ks_is | rfl | decide +kernel))))
  (case d26 => (refine' ⟨_, _, ?a_26, L2.fun_mk ?l_26 ?c_26 ?k_26⟩; (case a_26 => (first | k_is | kit_is | ks_is | rfl | decide +kernel)); (case l_26 => (first | k_is | kit_is | ks_is | rfl | decide +kernel)); (case c_26 => (first | k_is | kit_is | ks_is | rfl | decide +kernel)); (case k_26 => (first | k_is | kit_is | ks_is | rfl | decide +kernel))))
  (case d27 => (refine' ⟨_, _, ?a_27, L2.fun_mk ?l_27 ?c_27 ?k_27⟩; (case a_27 => (first | k_is | kit_is | ks_is | rfl | decide +kernel)); (case l_27 => (first | k_is | kit_is | ks_is | rfl | decide +kernel)); (case c_27 => (first | k_is | kit_is | ks_is | rfl | decide +kernel)); (case k_27 => (first | k_is | kit_is | ks_is | rfl | decide +kernel))))
  (case d28 => (refine' ⟨_, _, ?a_28, L2.fun_mk ?l_28 ?c_28 ?k_28⟩; (case a_28 => (first | k_is | kit_is | ks_is | rfl | decide +kernel)); (case l_28 => (first | k_is | kit_is | ks_is | rfl | decide +kernel)); (case c_28 => (first | k_is | kit_is | ks_is | rfl | decide +kernel)); (case k_28 => (first | k_is | kit_is | ks_is | rfl | decide +kernel))))
  (case d29 => (refine' ⟨_, _, ?a_29, L2.fun_mk ?l_29 ?c_29 ?k_29⟩; (case a_29 => (first | k_is | kit_is | ks_is | rfl | decide +kernel)); (case l_29 => (first | k_is | kit_is | ks_is | rfl | decide +kernel)); (case c_29 => (first | k_is | kit_is | ks_is | rfl | decide +kernel)); (case k_29 => (first | k_is | kit_is | ks_is | rfl | decide +kernel))))
  (case d30 => (refine' ⟨_, _, ?a_30, L2.fun_mk ?l_30 ?c_30 ?k_30⟩; (case a_30 => (first | k_is | kit_is | ks_is | rfl | decide +kernel)); (case l_30 => (first | k_is | kit_is | ks_is | rfl | decide +kernel)); (case c_30 => (first | k_is | kit_is | ks_is | rfl | decide +kernel)); (case k_30 => (first | k_is | kit_is | ks_is | rfl | decide +kernel))))
  (case d31 => (refine' ⟨_, _, ?a_31, L2.fun_mk ?l_31 ?c_31 ?k_31⟩; (case a_31 => (first | k_is | kit_is | ks_is | rfl | decide +kernel)); (case l_31 => (first | k_is | kit_is | ks_is | rfl | decide +kernel)); (case c_31 => (first | k_is | kit_is | ks_is | rfl | decide +kernel)); (case k_31 => (first | k_is | kit_is | ks_is | rfl | decide +kernel))))
  (case d32 => (refine' ⟨_, _, ?a_32, L2.fun_mk ?l_32 ?c_32 ?k_32⟩; (case a_32 => (first | k_is | kit_is | ks_is | rfl | decide +kernel)); (case l_32 => (first | k_is | kit_is | ks_is | rfl | decide +kernel)); (case c_32 => (first | k_is | kit_is | ks_is | rfl | decide +kernel)); (case k_32 => (first | k_is | kit_is | ks_is | rfl | decide +kernel))))
  (case d33 => (refine' ⟨_, _, ?a_33, L2.fun_mk ?l_33 ?c_33 ?k_33⟩; (case a_33 => (first | k_is | kit_is | ks_is | rfl | decide +kernel)); (case l_33 => (first | k_is | kit_is | ks_is | rfl | decide +kernel)); (case c_33 => (first | k_is | kit_is | ks_is | rfl | decide +kernel)); (case k_33 => (first | k_is | kit_is | ks_is | rfl | decide +kernel))))
  (case dDo => refine' ⟨_, _, ?a, ⟨⟨_, _, _, _, _, _, _, _, rfl, ?l, ?c⟩, ?k⟩⟩; (case a => (first | k_is | kit_is | ks_is | rfl | decide +kernel)); (case l => (first | k_is | kit_is | ks_is | rfl | decide +kernel)); (case c => (first | k_is | kit_is | ks_is | rfl | decide +kernel)); (case k => (first | k_is | kit_is | ks_is | rfl | decide +kernel)))
  (case m1 => (refine' ⟨_, _, ⟨?a_34, ?b_34, ?e_34⟩, L2.fun_mk ?l_34 ?c_34 ?k_34⟩; (case a_34 => (first | k_is | kit_is | ks_is | rfl | decide +kernel)); (case b_34 => (first | k_is | kit_is | ks_is | rfl | decide +kernel)); (case e_34 => (first | k_is | kit_is | ks_is | rfl | decide +kernel)); (case l_34 => (first | k_is | kit_is | ks_is | rfl | decide +kernel)); (case c_34 => (first | k_is | kit_is | ks_is | rfl | decide +kernel)); (case k_34 => (first | k_is | kit_is | ks_is | rfl | decide +kernel))))
  (case m2 => (refine' ⟨_, _, ⟨?a_35, ?b_35, ?e_35⟩, L2.fun_mk ?l_35 ?c_35 ?k_35⟩; (case a_35 => (first | k_is | kit_is | ks_is | rfl | decide +kernel)); (case b_35 => (first | k_is | kit_is | ks_is | rfl | decide +kernel)); (case e_35 => (first | k_is | kit_is | ks_is | rfl | decide +kernel)); (case l_35 => (first | k_is | kit_is | ks_is | rfl | decide +kernel)); (case c_35 => (first | k_is | kit_is | ks_is | rfl | decide +kernel)); (case k_35 => (first | k_is | kit_is | ks_is | rfl | decide +kernel))))
  (case m3 => (refine' ⟨_, _, ⟨?a_36, ?b_36, ?e_36⟩, L2.fun_mk ?l_36 ?c_36 ?k_36⟩; (case a_36 => (first | k_is | kit_is | ks_is | rfl | decide +kernel)); (case b_36 => (first | k_is | kit_is | ks_is | rfl | decide +kernel)); (case e_36 => (first | k_is | kit_is | ks_is | rfl | decide +kernel)); (case l_36 => (first | k_is | kit_is | ks_is | rfl | decide +kernel)); (case c_36 => (first | k_is | kit_is | ks_is | rfl | decide +kernel)); (case k_36 => (first | k_is | kit_is | ks_is | rfl | decide +kernel))))
  (case m4 => (refine' ⟨_, _, ⟨?a_37, ?b_37, ?e_37⟩, L2.fun_mk ?l_37 ?c_37 ?k_37⟩; (case a_37 => (first | k_is | kit_is | ks_is | rfl | decide +kernel)); (case b_37 => (first | k_is | kit_is | ks_is | rfl | decide +kernel)); (case e_37 => (first | k_is | kit_is | ks_is | rfl | decide +kernel)); (case l_37 => (first | k_is | kit_is | ks_is | rfl | decide +kernel)); (case c_37 => (first | k_is | kit_is | ks_is | rfl | decide +kernel)); (case k_37 => (first | k_is | kit_is | ks_is | rfl | decide +kernel))))
  (case m5 => (refine' ⟨_, _, ⟨?a_38, ?b_38, ?e_38⟩, L2.fun_mk ?l_38 ?c_38 ?k_38⟩; (case a_38 => (first | k_is | kit_is | ks_is | rfl | decide +kernel)); (case b_38 => (first | k_is | kit_is | ks_is | rfl | decide +kernel)); (case e_38 => (first | k_is | kit_is | ks_is | rfl | decide +kernel)); (case l_38 => (first | k_is | kit_is | ks_is | rfl | decide +kernel)); (case c_38 => (first | k_is | kit_is | ks_is | rfl | decide +kernel)); (case k_38 => (first | k_is | kit_is | ks_is | rfl | decide +kernel))))
  (case dApart => refine' ⟨.type "type", _, _, _, ⟨?a, ?b⟩, ⟨?c, ⟨_, ?d⟩, ?e⟩, L2.fun_mk ?l ?cc ?k⟩; (case a => (first | k_is | kit_is | ks_is | rfl | decide +kernel)); (case b => (first | k_is | kit_is | ks_is | rfl | decide +kernel)); (case c => (first | k_is | kit_is | ks_is | rfl | decide +kernel)); (case d => (first | k_is | kit_is | ks_is | rfl | decide +kernel)); (case e => (first | k_is | kit_is | ks_is | rfl | decide +kernel)); (case l => (first | k_is | kit_is | ks_is | rfl | decide +kernel)); (case cc => (first | k_is | kit_is | ks_is | rfl | decide +kernel)); (case k => (first | k_is | kit_is | ks_is | rfl | decide +kernel)))
  (case makes => (first | k_is | kit_is | ks_is | rfl | decide +kernel))
  (case kpC => (first | k_is | kit_is | ks_is | rfl | decide +kernel))
  (case sf => (first | k_is | kit_is | ks_is | rfl | decide +kernel))
  (case splC => refine' ⟨?a, ?e, ?f⟩; (case a => (refine' ⟨?a_39, ?b_39, ?c_39, ?d_39⟩; (case a_39 => (first | k_is | kit_is | ks_is | rfl | decide +kernel)); (case b_39 => (first | k_is | kit_is | ks_is | rfl | decide +kernel)); (case c_39 => (first | k_is | kit_is | ks_is | rfl | decide +kernel)); (case d_39 => (first | k_is | kit_is | ks_is | rfl | decide +kernel)))); (case e => (unfold L2.NoAttr; (first | k_is | kit_is | ks_is | rfl | decide +kernel))); (case f => (unfold L2.NoAttr; (first | k_is | kit_is | ks_is | rfl | decide +kernel))))
  (case most => refine' ⟨.type "type", _, ⟨?a, ?b⟩, ⟨?c, ?d⟩⟩; (case c => (first | k_is | kit_is | ks_is | rfl | decide +kernel)); (case a => (first | k_is | kit_is | ks_is | rfl | decide +kernel)); (case b => (first | k_is | kit_is | ks_is | rfl | decide +kernel)); (case d => exact ⟨_, rfl⟩))
  (case eB => (refine' ⟨_, _, _, _, ⟨⟨_, _, _, _, _, _, _, _, rfl, ?l_40, ?c_40⟩, ⟨_, _, _, _, _, _, ?cl_40, ?v2_40, ?fl_40⟩, ⟨_, _, _, ?ce_40⟩, ?al_40, ?op_40, ?su_40, ?se_40, rfl, ?tp_40⟩, ⟨⟨_, _, _, _, _, _, _, _, _, _, _, _, _, _, _, ?kc_40, ?rv_40⟩, ?sa_40, ?ex_40, ?ty_40, ?kp_40⟩, ?no_40, ?ini_40, ?tf_40⟩; (case ini_40 => (first | k_is | kit_is | ks_is | rfl | decide +kernel)); (case l_40 => (first | k_is | kit_is | ks_is | rfl | decide +kernel)); (case c_40 => (first | k_is | kit_is | ks_is | rfl | decide +kernel)); (case cl_40 => (first | k_is | kit_is | ks_is | rfl | decide +kernel)); (case v2_40 => (first | k_is | kit_is | ks_is | rfl | decide +kernel)); (case fl_40 => (first | k_is | kit_is | ks_is | rfl | decide +kernel)); (case ce_40 => (first | k_is | kit_is | ks_is | rfl | decide +kernel)); (case al_40 => (first | k_is | kit_is | ks_is | rfl | decide +kernel)); (case op_40 => (first | k_is | kit_is | ks_is | rfl | decide +kernel)); (case su_40 => (first | k_is | kit_is | ks_is | rfl | decide +kernel)); (case se_40 => (first | k_is | kit_is | ks_is | rfl | decide +kernel)); (case tp_40 => (first | k_is | kit_is | ks_is | rfl | decide +kernel)); (case kc_40 => (first | k_is | kit_is | ks_is | rfl | decide +kernel)); (case rv_40 => (first | k_is | kit_is | ks_is | rfl | decide +kernel)); (case sa_40 => (first | k_is | kit_is | ks_is | rfl | decide +kernel)); (case ex_40 => (first | k_is | kit_is | ks_is | rfl | decide +kernel)); (case ty_40 => (first | k_is | kit_is | ks_is | rfl | decide +kernel)); (case kp_40 => (first | k_is | kit_is | ks_is | rfl | decide +kernel)); (case no_40 => (first | k_is | kit_is | ks_is | rfl | decide +kernel)); (case tf_40 => (first | k_is | kit_is | ks_is | rfl | decide +kernel))))
  (case eU => (refine' ⟨_, _, _, _, ⟨⟨_, _, _, _, _, _, _, _, rfl, ?l_41, ?c_41⟩, ⟨_, _, _, _, _, _, ?cl_41, ?v2_41, ?fl_41⟩, ⟨_, _, _, ?ce_41⟩, ?al_41, ?op_41, ?su_41, ?se_41, rfl, ?tp_41⟩, ⟨⟨_, _, _, _, _, _, _, _, _, _, _, _, _, _, _, ?kc_41, ?rv_41⟩, ?sa_41, ?ex_41, ?ty_41, ?kp_41⟩, ?no_41, ?ini_41, ?tf_41⟩; (case ini_41 => (first | k_is | kit_is | ks_is | rfl | decide +kernel)); (case l_41 => (first | k_is | kit_is | ks_is | rfl | decide +kernel)); (case c_41 => (first | k_is | kit_is | ks_is | rfl | decide +kernel)); (case cl_41 => (first | k_is | kit_is | ks_is | rfl | decide +kernel)); (case v2_41 => (first | k_is | kit_is | ks_is | rfl | decide +kernel)); (case fl_41 => (first | k_is | kit_is | ks_is | rfl | decide +kernel)); (case ce_41 => (first | k_is | kit_is | ks_is | rfl | decide +kernel)); (case al_41 => (first | k_is | kit_is | ks_is | rfl | decide +kernel)); (case op_41 => (first | k_is | kit_is | ks_is | rfl | decide +kernel)); (case su_41 => (first | k_is | kit_is | ks_is | rfl | decide +kernel)); (case se_41 => (first | k_is | kit_is | ks_is | rfl | decide +kernel)); (case tp_41 => (first | k_is | kit_is | ks_is | rfl | decide +kernel)); (case kc_41 => (first | k_is | kit_is | ks_is | rfl | decide +kernel)); (case rv_41 => (first | k_is | kit_is | ks_is | rfl | decide +kernel)); (case sa_41 => (first | k_is | kit_is | ks_is | rfl | decide +kernel)); (case ex_41 => (first | k_is | kit_is | ks_is | rfl | decide +kernel)); (case ty_41 => (first | k_is | kit_is | ks_is | rfl | decide +kernel)); (case kp_41 => (first | k_is | kit_is | ks_is | rfl | decide +kernel)); (case no_41 => (first | k_is | kit_is | ks_is | rfl | decide +kernel)); (case tf_41 => (first | k_is | kit_is | ks_is | rfl | decide +kernel))))
  (case eM => (refine' ⟨_, _, _, _, ⟨⟨_, _, _, _, _, _, _, _, rfl, ?l_42, ?c_42⟩, ⟨_, _, _, _, _, _, ?cl_42, ?v2_42, ?fl_42⟩, ⟨_, _, _, ?ce_42⟩, ?al_42, ?op_42, ?su_42, ?se_42, rfl, ?tp_42⟩, ⟨⟨_, _, _, _, _, _, _, _, _, _, _, _, _, _, _, ?kc_42, ?rv_42⟩, ?sa_42, ?ex_42, ?ty_42, ?kp_42⟩, ?no_42, ?no2_42, ?ini_42, ?tf_42⟩; (case ini_42 => (first | k_is | kit_is | ks_is | rfl | decide +kernel)); (case l_42 => (first | k_is | kit_is | ks_is | rfl | decide +kernel)); (case c_42 => (first | k_is | kit_is | ks_is | rfl | decide +kernel)); (case cl_42 => (first | k_is | kit_is | ks_is | rfl | decide +kernel)); (case v2_42 => (first | k_is | kit_is | ks_is | rfl | decide +kernel)); (case fl_42 => (first | k_is | kit_is | ks_is | rfl | decide +kernel)); (case ce_42 => (first | k_is | kit_is | ks_is | rfl | decide +kernel)); (case al_42 => (first | k_is | kit_is | ks_is | rfl | decide +kernel)); (case op_42 => (first | k_is | kit_is | ks_is | rfl | decide +kernel)); (case su_42 => (first | k_is | kit_is | ks_is | rfl | decide +kernel)); (case se_42 => (first | k_is | kit_is | ks_is | rfl | decide +kernel)); (case tp_42 => (first | k_is | kit_is | ks_is | rfl | decide +kernel)); (case kc_42 => (first | k_is | kit_is | ks_is | rfl | decide +kernel)); (case rv_42 => (first | k_is | kit_is | ks_is | rfl | decide +kernel)); (case sa_42 => (first | k_is | kit_is | ks_is | rfl | decide +kernel)); (case ex_42 => (first | k_is | kit_is | ks_is | rfl | decide +kernel)); (case ty_42 => (first | k_is | kit_is | ks_is | rfl | decide +kernel)); (case kp_42 => (first | k_is | kit_is | ks_is | rfl | decide +kernel)); (case no_42 => (first | k_is | kit_is | ks_is | rfl | decide +kernel)); (case no2_42 => (first | k_is | kit_is | ks_is | rfl | decide +kernel)); (case tf_42 => (first | k_is | kit_is | ks_is | rfl | decide +kernel))))
  (case xmm => (refine' PySem.W.exm_ref ?a_43 ?b_43 ?c_43 ?d_43; (case a_43 => (first | k_is | kit_is | ks_is | rfl | decide +kernel)); (case b_43 => (first | k_is | kit_is | ks_is | rfl | decide +kernel)); (case c_43 => (first | k_is | kit_is | ks_is | rfl | decide +kernel)); (case d_43 => (first | k_is | kit_is | ks_is | rfl | decide +kernel))))
  (case xum => (refine' PySem.W.exm_ref ?a_44 ?b_44 ?c_44 ?d_44; (case a_44 => (first | k_is | kit_is | ks_is | rfl | decide +kernel)); (case b_44 => (first | k_is | kit_is | ks_is | rfl | decide +kernel)); (case c_44 => (first | k_is | kit_is | ks_is | rfl | decide +kernel)); (case d_44 => (first | k_is | kit_is | ks_is | rfl | decide +kernel))))
  (case xuu => (refine' PySem.W.exm_ref ?a_45 ?b_45 ?c_45 ?d_45; (case a_45 => (first | k_is | kit_is | ks_is | rfl | decide +kernel)); (case b_45 => (first | k_is | kit_is | ks_is | rfl | decide +kernel)); (case c_45 => (first | k_is | kit_is | ks_is | rfl | decide +kernel)); (case d_45 => (first | k_is | kit_is | ks_is | rfl | decide +kernel))))
  (case ecCM => (refine' ⟨?a_46, ?b_46, ?c_46, ?d_46, ?e_46, ?f_46, ?g_46, ?h_46⟩; (case a_46 => (first | k_is | kit_is | ks_is | rfl | decide +kernel)); (case b_46 => (first | k_is | kit_is | ks_is | rfl | decide +kernel)); (case c_46 => (first | k_is | kit_is | ks_is | rfl | decide +kernel)); (case d_46 => (first | k_is | kit_is | ks_is | rfl | decide +kernel)); (case e_46 => (first | k_is | kit_is | ks_is | rfl | decide +kernel)); (case f_46 => (first | k_is | kit_is | ks_is | rfl | decide +kernel)); (case g_46 => (first | k_is | kit_is | ks_is | rfl | decide +kernel)); (case h_46 => (first | k_is | kit_is | ks_is | rfl | decide +kernel))))
  (case ecCU => (refine' ⟨?a_47, ?b_47, ?c_47, ?d_47, ?e_47, ?f_47, ?g_47, ?h_47⟩; (case a_47 => (first | k_is | kit_is | ks_is | rfl | decide +kernel)); (case b_47 => (first | k_is | kit_is | ks_is | rfl | decide +kernel)); (case c_47 => (first | k_is | kit_is | ks_is | rfl | decide +kernel)); (case d_47 => (first | k_is | kit_is | ks_is | rfl | decide +kernel)); (case e_47 => (first | k_is | kit_is | ks_is | rfl | decide +kernel)); (case f_47 => (first | k_is | kit_is | ks_is | rfl | decide +kernel)); (case g_47 => (first | k_is | kit_is | ks_is | rfl | decide +kernel)); (case h_47 => (first | k_is | kit_is | ks_is | rfl | decide +kernel))))
  (case xfCM => (refine' ⟨?a_48, ?b_48, ?c_48, ?d_48⟩; (case a_48 => (first | k_is | kit_is | ks_is | rfl | decide +kernel)); (case b_48 => (first | k_is | kit_is | ks_is | rfl | decide +kernel)); (case c_48 => (first | k_is | kit_is | ks_is | rfl | decide +kernel)); (case d_48 => (first | k_is | kit_is | ks_is | rfl | decide +kernel))))
  (case xfCU => (refine' ⟨?a_49, ?b_49, ?c_49, ?d_49⟩; (case a_49 => (first | k_is | kit_is | ks_is | rfl | decide +kernel)); (case b_49 => (first | k_is | kit_is | ks_is | rfl | decide +kernel)); (case c_49 => (first | k_is | kit_is | ks_is | rfl | decide +kernel)); (case d_49 => (first | k_is | kit_is | ks_is | rfl | decide +kernel))))
  (case kMT => (first | k_is | kit_is | ks_is | rfl | decide +kernel))
  (case kMV => (first | k_is | kit_is | ks_is | rfl | decide +kernel))
  (case kMU => (first | k_is | kit_is | ks_is | rfl | decide +kernel))
  (case kUT => (first | k_is | kit_is | ks_is | rfl | decide +kernel))
  (case kUV => (first | k_is | kit_is | ks_is | rfl | decide +kernel))
  (case kUM => (first | k_is | kit_is | ks_is | rfl | decide +kernel))
  (case nT => (first | k_is | kit_is | ks_is | rfl | decide +kernel)); (case hcd => (first | k_is | kit_is | ks_is | rfl | decide +kernel))

