import PyProof.Rows.All
import Wide.All
import OpenK.AllK
import Wide.FinOn
import HandS.ForMost
import HandS.Exc
import HandS.ExcOwn
import HandS.WordsExc
import HandS.CallSlots
import HandS.Walk
import HandS.Lambda
import HandS.Wide
import HandS.IsInst
import HandS.Style
import HandS.ClsMeth
import HandS.DictComp
import HandS.RevRange
import HandS.Conv
import KE.KDictZip
import PyProof.ListNew
import HandS.Iter
import PySem.Challenge.RW_thinwall_k02_parted_merged_and_texts
import KE.KExcSuper
import HandS.ExcInit
import HandS.FStr
import HandS.OwnEq
import HandS.Star
import HandS.EndTab
import PyProof.ReprHeads
import PyProof.StrHeap
import PyProof.FactsAll.list_1
import PyProof.FactsAll.list_3
import PyProof.Rows.Range3
import HandS.Text
import PyProof.StrLawsTight
import PyProof.ReprLen
import HandS.Deep
import HandS.SortInts
import KE.KExcIs
import HandS.TryMany
import HandS.ExcField
import HandS.ExcIs
import KE.KNestM
set_option Elab.async false
set_option linter.all false
set_option maxRecDepth 100000
set_option maxHeartbeats 1000000
/-! The data layer: values as trees of data, a stable heap S, owned cells w, a frame F; wishes in data. -/
namespace DL
open PySem PySem.Spec PyProof.Rows L2 LamX
/-- data: a value as it is, a list that stands, a tuple, a list that is only read, an instance that stands -/
inductive D where
  | val (v : V)
  | lst (ds : List D)
  | tup (ds : List D)
  | rd (ds : List D)
  | obj (C : Addr) (ns : List Str) (ds : List D)
  | exc (a dd : Addr) (ns : List Str) (ds : List D)
  | dic (kvs : List (Key × V))
  | dct (kvs : List (List Key × V))
abbrev I (i : Int) : D := .val (.int i)
abbrev B (b : Bool) : D := .val (.bl b)
abbrev T (s : Str) : D := .val (.str s)
abbrev N : D := .val .non
abbrev R (a : Addr) : D := .val (.ref a)
mutual
def Rep (K : PySem.W.Frag) (S : Hp) : D → V → Prop
  | .val v, x => x = v
  | .lst ds, x => ∃ a xs, x = .ref a ∧ S a = some (.lst xs) ∧ RepL K S ds xs
  | .tup ds, x => ∃ a xs, x = .ref a ∧ S a = some (.tup xs) ∧ RepL K S ds xs
  | .rd ds, x => ∃ a xs, x = .ref a ∧ SqL K S a xs ∧ RepL K S ds xs
  | .obj C ns ds, x => ∃ a dx ys, x = .ref a ∧ S a = some (.ins C dx ys) ∧ ys.map (·.1) = ns ∧ RepL K S ds (ys.map (·.2))
  | .exc a dd ns ds, x => ∃ ys, x = .ref a ∧ S dd = some (.xd ys) ∧ ys.map (·.1) = ns ∧ RepL K S ds (ys.map (·.2))
  | .dic kvs, x => ∃ a, x = .ref a ∧ S a = some (.dK kvs)
  | .dct kvs, x => ∃ a, x = .ref a ∧ S a = some (.dT kvs)
def RepL (K : PySem.W.Frag) (S : Hp) : List D → List V → Prop
  | [], xs => xs = []
  | d :: ds, xs => ∃ y ys, xs = y :: ys ∧ Rep K S d y ∧ RepL K S ds ys
end
section
variable {K : PySem.W.Frag} {S S' H H' : Hp}
mutual
theorem Rep.mono (e : Same S S') : ∀ {d : D} {v : V}, Rep K S d v → Rep K S' d v
  | .val v, x, h => h
  | .lst ds, x, h => by
    obtain ⟨a, xs, h1, h2, h3⟩ := h
    exact ⟨a, xs, h1, e _ _ h2, RepL.mono e h3⟩
  | .tup ds, x, h => by
    obtain ⟨a, xs, h1, h2, h3⟩ := h
    exact ⟨a, xs, h1, e _ _ h2, RepL.mono e h3⟩
  | .rd ds, x, h => by
    obtain ⟨a, xs, h1, h2, h3⟩ := h
    exact ⟨a, xs, h1, e.seq h2, RepL.mono e h3⟩
  | .obj C ns ds, x, h => by
    obtain ⟨a, dx, ys, h1, h2, h3, h4⟩ := h
    exact ⟨a, dx, ys, h1, e _ _ h2, h3, RepL.mono e h4⟩
  | .exc a dd ns ds, x, h => by
    obtain ⟨ys, h1, h2, h3, h4⟩ := h
    exact ⟨ys, h1, e _ _ h2, h3, RepL.mono e h4⟩
  | .dic kvs, x, h => by
    obtain ⟨a, h1, h2⟩ := h
    exact ⟨a, h1, e _ _ h2⟩
  | .dct kvs, x, h => by
    obtain ⟨a, h1, h2⟩ := h
    exact ⟨a, h1, e _ _ h2⟩
theorem RepL.mono (e : Same S S') : ∀ {ds : List D} {xs : List V}, RepL K S ds xs → RepL K S' ds xs
  | [], xs, h => h
  | d :: ds, xs, h => by
    obtain ⟨y, ys, h1, h2, h3⟩ := h
    exact ⟨y, ys, h1, Rep.mono e h2, RepL.mono e h3⟩
end
theorem RepL.length : ∀ {ds : List D} {xs : List V}, RepL K S ds xs → xs.length = ds.length
  | [], xs, h => by
    have h' : xs = [] := h
    rw [h']
    rfl
  | d :: ds, xs, h => by
    obtain ⟨y, ys, rfl, h2, h3⟩ := h
    show ys.length + 1 = ds.length + 1
    rw [RepL.length h3]
theorem RepL.get : ∀ {ds : List D} {xs : List V}, RepL K S ds xs → ∀ {i : Nat} {d : D}, ds[i]? = some d → ∃ x, xs[i]? = some x ∧ Rep K S d x
  | [], _, _, i, d, e => by simp at e
  | d0 :: ds, xs, h, i, d, e => by
    obtain ⟨y, ys, rfl, h2, h3⟩ := h
    cases i with
    | zero =>
      have e' : d0 = d := Option.some.inj e
      subst e'
      exact ⟨y, rfl, h2⟩
    | succ i => exact RepL.get h3 (i := i) e
theorem RepL.app : ∀ {ds es : List D} {xs ys : List V}, RepL K S ds xs → RepL K S es ys → RepL K S (ds ++ es) (xs ++ ys)
  | [], es, xs, ys, h, k => by
    have h' : xs = [] := h
    subst h'
    exact k
  | d :: ds, es, xs, ys, h, k => by
    obtain ⟨y, zs, rfl, h2, h3⟩ := h
    exact ⟨y, zs ++ ys, rfl, h2, RepL.app h3 k⟩
theorem RepL.one {d : D} {x : V} (h : Rep K S d x) : RepL K S [d] [x] := ⟨x, [], rfl, h, rfl⟩
theorem RepL.ints : ∀ {ns : List Int} {xs : List V}, RepL K S (ns.map I) xs → xs = ns.map V.int
  | [], xs, h => h
  | n :: ns, xs, h => by
    obtain ⟨y, ys, rfl, h2, h3⟩ := h
    have h2' : y = V.int n := h2
    rw [h2', RepL.ints h3]
    rfl
theorem RepL.vals : ∀ {vs : List V} {xs : List V}, RepL K S (vs.map D.val) xs → xs = vs
  | [], xs, h => h
  | n :: ns, xs, h => by
    obtain ⟨y, ys, rfl, h2, h3⟩ := h
    have h2' : y = n := h2
    rw [h2', RepL.vals h3]
theorem RepL.of_vals : ∀ {vs : List V}, RepL K S (vs.map D.val) vs
  | [] => rfl
  | n :: ns => ⟨n, ns, rfl, rfl, RepL.of_vals⟩
/-- a part -/
theorem RepL.drop : ∀ {ds : List D} {xs : List V} (n : Nat), RepL K S ds xs → RepL K S (ds.drop n) (xs.drop n)
  | ds, xs, 0, h => h
  | [], xs, n + 1, h => by
    have h' : xs = [] := h
    subst h'
    rfl
  | d :: ds, xs, n + 1, h => by
    obtain ⟨y, ys, rfl, h2, h3⟩ := h
    exact RepL.drop n h3
theorem RepL.take : ∀ {ds : List D} {xs : List V} (n : Nat), RepL K S ds xs → RepL K S (ds.take n) (xs.take n)
  | ds, xs, 0, h => rfl
  | [], xs, n + 1, h => by
    have h' : xs = [] := h
    subst h'
    rfl
  | d :: ds, xs, n + 1, h => by
    obtain ⟨y, ys, rfl, h2, h3⟩ := h
    exact ⟨y, ys.take n, rfl, h2, RepL.take n h3⟩
theorem RepL.set : ∀ {ds : List D} {xs : List V} (n : Nat) {d : D} {x : V}, RepL K S ds xs → Rep K S d x → RepL K S (ds.set n d) (xs.set n x)
  | [], xs, n, d, x, h, k => by
    have h' : xs = [] := h
    subst h'
    rfl
  | d0 :: ds, xs, 0, d, x, h, k => by
    obtain ⟨y, ys, rfl, h2, h3⟩ := h
    exact ⟨x, ys, rfl, k, h3⟩
  | d0 :: ds, xs, n + 1, d, x, h, k => by
    obtain ⟨y, ys, rfl, h2, h3⟩ := h
    exact ⟨y, ys.set n x, rfl, h2, RepL.set n h3 k⟩
theorem RepL.rev : ∀ {ds : List D} {xs : List V}, RepL K S ds xs → RepL K S ds.reverse xs.reverse
  | [], xs, h => by
    have h' : xs = [] := h
    subst h'
    rfl
  | d :: ds, xs, h => by
    obtain ⟨y, ys, rfl, h2, h3⟩ := h
    rw [List.reverse_cons, List.reverse_cons]
    exact RepL.app (RepL.rev h3) (RepL.one h2)
theorem RepL.dropLast : ∀ {ds : List D} {xs : List V}, RepL K S ds xs → RepL K S ds.dropLast xs.dropLast := fun {ds xs} h => by
  rw [List.dropLast_eq_take, List.dropLast_eq_take, RepL.length h]
  exact RepL.take _ h
theorem RepL.eraseIdx : ∀ {ds : List D} {xs : List V} (n : Nat), RepL K S ds xs → RepL K S (ds.eraseIdx n) (xs.eraseIdx n)
  | [], xs, n, h => by
    have h' : xs = [] := h
    subst h'
    rfl
  | d0 :: ds, xs, 0, h => by
    obtain ⟨y, ys, rfl, h2, h3⟩ := h
    exact h3
  | d0 :: ds, xs, n + 1, h => by
    obtain ⟨y, ys, rfl, h2, h3⟩ := h
    exact ⟨y, ys.eraseIdx n, rfl, h2, RepL.eraseIdx n h3⟩
end
/-- an owned cell -/
inductive HD where
  | lst (ds : List D)
  | ins (C dx : Addr) (ns : List Str) (ds : List D)
  | dic (kvs : List (Key × V))
def RepH (K : PySem.W.Frag) (S : Hp) : HD → HO → Prop
  | .lst ds, o => ∃ xs, o = .lst xs ∧ RepL K S ds xs
  | .ins C dx ns ds, o => ∃ ys, o = .ins C dx ys ∧ ys.map (·.1) = ns ∧ RepL K S ds (ys.map (·.2))
  | .dic kvs, o => o = .dK kvs
theorem RepH.mono {K : PySem.W.Frag} {S S' : Hp} (e : Same S S') : ∀ {h : HD} {o : HO}, RepH K S h o → RepH K S' h o
  | .lst ds, o, h => by
    obtain ⟨xs, h1, h2⟩ := h
    exact ⟨xs, h1, h2.mono e⟩
  | .ins C dx ns ds, o, h => by
    obtain ⟨ys, h1, h2, h3⟩ := h
    exact ⟨ys, h1, h2, h3.mono e⟩
  | .dic kvs, o, h => h
abbrev Wp := Addr → Option HD
def wu (w : Wp) (a : Addr) (h : HD) : Wp := fun b => if b = a then some h else w b
def wd (w : Wp) (a : Addr) : Wp := fun b => if b = a then none else w b
def w0 : Wp := fun _ => none
theorem wu_same {w : Wp} {a : Addr} {h : HD} : wu w a h a = some h := if_pos rfl
theorem wu_ne {w : Wp} {a b : Addr} {h : HD} (e : b ≠ a) : wu w a h b = w b := if_neg e
theorem wu_wu {w : Wp} {a : Addr} {h k : HD} : wu (wu w a h) a k = wu w a k := by
  funext b
  by_cases e : b = a
  · rw [e, wu_same, wu_same]
  · rw [wu_ne e, wu_ne e, wu_ne e]
theorem wd_wu {w : Wp} {a : Addr} {h : HD} (e : w a = none) : wd (wu w a h) a = w := by
  funext b
  by_cases q : b = a
  · rw [q, e]
    exact if_pos rfl
  · show (if b = a then none else wu w a h b) = w b
    rw [if_neg q, wu_ne q]
/-- how the heap H stands: S stands for ever, w is owned, F is somebody else's -/
structure World (K : PySem.W.Frag) (T : List (Addr × Str)) (S : Hp) (w : Wp) (F H : Hp) : Prop where
  same : Same S H
  notbl : ∀ a ps, S a ≠ some (.tbl ps)
  own : ∀ a h, w a = some h → S a = none ∧ F a = none ∧ ∃ o, H a = some o ∧ RepH K S h o
  frm : ∀ a o, F a = some o → S a = none ∧ H a = some o
  tabs : Tabs T H
  nf : ∀ a ps, F a ≠ some (.tbl ps)
section
variable {K : PySem.W.Frag} {T : List (Addr × Str)} {S S' F H H' : Hp} {w : Wp} {a : Addr} {o : HO} {h : HD}
theorem World.free (W : World K T S w F H) (e : H a = none) : S a = none ∧ w a = none ∧ F a = none := by
  refine ⟨W.same.free e, ?_, ?_⟩
  · cases q : w a with
    | none => rfl
    | some h =>
      obtain ⟨_, _, o, q2, _⟩ := W.own a h q
      rw [e] at q2
      cases q2
  · cases q : F a with
    | none => rfl
    | some o =>
      have q2 := (W.frm a o q).2
      rw [e] at q2
      cases q2
theorem same_upd {H : Hp} {p : Addr} {o : HO} (h : H p = none) : Same H (upd H p o) := fun b x e => by
  rw [upd_ne (ne_of_none e h)]
  exact e
/-- a new object that stands -/
theorem World.laid (W : World K T S w F H) (e : H a = none) (hn : ∀ ps, o ≠ .tbl ps) : World K T (upd S a o) w F (upd H a o) := by
  obtain ⟨e1, e2, e3⟩ := W.free e
  have sS : Same S (upd S a o) := same_upd e1
  have sH : Same H (upd H a o) := same_upd e
  refine ⟨fun b x q => ?_, fun b ps q => ?_, fun b h q => ?_, fun b x q => ?_, W.tabs.ext sH, W.nf⟩
  · by_cases hb : b = a
    · subst hb
      rw [upd_same] at q ⊢
      exact q
    · rw [upd_ne hb] at q ⊢
      exact W.same _ _ q
  · by_cases hb : b = a
    · subst hb
      rw [upd_same] at q
      exact hn ps (Option.some.inj q)
    · rw [upd_ne hb] at q
      exact W.notbl _ _ q
  · have hb : b ≠ a := fun z => by
      rw [z, e2] at q
      cases q
    obtain ⟨q1, q2, x, q3, q4⟩ := W.own b h q
    exact ⟨by rw [upd_ne hb]; exact q1, q2, x, sH _ _ q3, q4.mono sS⟩
  · have hb : b ≠ a := fun z => by
      rw [z, e3] at q
      cases q
    obtain ⟨q1, q2⟩ := W.frm b x q
    exact ⟨by rw [upd_ne hb]; exact q1, sH _ _ q2⟩
/-- a new object that nobody looks at -/
theorem World.junk (W : World K T S w F H) (e : H a = none) : World K T S w F (upd H a o) := by
  have sH : Same H (upd H a o) := same_upd e
  refine ⟨W.same.trans sH, W.notbl, fun b h q => ?_, fun b x q => ?_, W.tabs.ext sH, W.nf⟩
  · obtain ⟨q1, q2, x, q3, q4⟩ := W.own b h q
    exact ⟨q1, q2, x, sH _ _ q3, q4⟩
  · obtain ⟨q1, q2⟩ := W.frm b x q
    exact ⟨q1, sH _ _ q2⟩
/-- a new owned cell -/
theorem World.take (W : World K T S w F H) (e : H a = none) (r : RepH K S h o) : World K T S (wu w a h) F (upd H a o) := by
  obtain ⟨e1, e2, e3⟩ := W.free e
  have sH : Same H (upd H a o) := same_upd e
  refine ⟨W.same.trans sH, W.notbl, fun b k q => ?_, fun b x q => ?_, W.tabs.ext sH, W.nf⟩
  · by_cases hb : b = a
    · subst hb
      rw [wu_same] at q
      cases q
      exact ⟨e1, e3, o, upd_same, r⟩
    · rw [wu_ne hb] at q
      obtain ⟨q1, q2, x, q3, q4⟩ := W.own b k q
      exact ⟨q1, q2, x, sH _ _ q3, q4⟩
  · obtain ⟨q1, q2⟩ := W.frm b x q
    exact ⟨q1, sH _ _ q2⟩
theorem nf_upd {F : Hp} {a : Addr} {o : HO} (h : ∀ a ps, F a ≠ some (.tbl ps)) (hn : ∀ ps, o ≠ .tbl ps) : ∀ b ps, upd F a o b ≠ some (.tbl ps) := fun b ps z => by
  by_cases e : b = a
  · rw [e, upd_same] at z
    exact hn ps (Option.some.inj z)
  · rw [upd_ne e] at z
    exact h b ps z
/-- a new cell of the frame -/
theorem World.takeF (W : World K T S w F H) (e : H a = none) (hn : ∀ ps, o ≠ .tbl ps) : World K T S w (upd F a o) (upd H a o) := by
  obtain ⟨e1, e2, e3⟩ := W.free e
  have sH : Same H (upd H a o) := same_upd e
  refine ⟨W.same.trans sH, W.notbl, fun b k q => ?_, fun b x q => ?_, W.tabs.ext sH, nf_upd W.nf hn⟩
  · have hb : b ≠ a := fun z => by
      rw [z, e2] at q
      cases q
    obtain ⟨q1, q2, x, q3, q4⟩ := W.own b k q
    exact ⟨q1, by rw [upd_ne hb]; exact q2, x, sH _ _ q3, q4⟩
  · by_cases hb : b = a
    · subst hb
      rw [upd_same] at q ⊢
      exact ⟨e1, q⟩
    · rw [upd_ne hb] at q
      obtain ⟨q1, q2⟩ := W.frm b x q
      exact ⟨q1, sH _ _ q2⟩
theorem TabS.put {H : Hp} {P a : Addr} {q : Str} {u o : HO} (t : TabS H P q) (e : H a = some u) (h1 : ∀ ps, u ≠ .tbl ps) (h2 : ∀ φ, u ≠ .ext φ) : TabS (upd H a o) P q := by
  obtain ⟨ps, k1, k2, k3⟩ := t
  refine ⟨ps, ?_, k2, fun pos cv hc => ?_⟩
  · rw [upd_ne (ne_of k1 e (fun z => h1 ps z.symm))]
    exact k1
  · obtain ⟨c, e1, e2⟩ := k3 pos cv hc
    refine ⟨c, e1, ?_⟩
    rw [upd_ne (ne_of e2 e (fun z => h2 _ z.symm))]
    exact e2
theorem RepH.notbl {h : HD} {o : HO} (r : RepH K S h o) : (∀ ps, o ≠ .tbl ps) ∧ (∀ φ, o ≠ .ext φ) := by
  cases h with
  | lst ds =>
    obtain ⟨xs, rfl, _⟩ := r
    exact ⟨fun _ z => (by cases z), fun _ z => (by cases z)⟩
  | ins C dx ns ds =>
    obtain ⟨ys, rfl, _⟩ := r
    exact ⟨fun _ z => (by cases z), fun _ z => (by cases z)⟩
  | dic kvs =>
    have r' : o = .dK kvs := r
    subst r'
    exact ⟨fun _ z => (by cases z), fun _ z => (by cases z)⟩
/-- an owned cell is written -/
theorem World.put (W : World K T S w F H) {k : HD} (e : w a = some k) (r : RepH K S h o) : World K T S (wu w a h) F (upd H a o) := by
  obtain ⟨e1, e2, u, e3, e4⟩ := W.own a k e
  refine ⟨fun b x q => ?_, W.notbl, fun b k q => ?_, fun b x q => ?_, fun p hp => TabS.put (W.tabs p hp) e3 e4.notbl.1 e4.notbl.2, W.nf⟩
  · rw [upd_ne (ne_of_none q e1)]
    exact W.same _ _ q
  · by_cases hb : b = a
    · subst hb
      rw [wu_same] at q
      cases q
      exact ⟨e1, e2, o, upd_same, r⟩
    · rw [wu_ne hb] at q
      obtain ⟨q1, q2, x, q3, q4⟩ := W.own b k q
      exact ⟨q1, q2, x, by rw [upd_ne hb]; exact q3, q4⟩
  · obtain ⟨q1, q2⟩ := W.frm b x q
    refine ⟨q1, ?_⟩
    rw [upd_ne (fun z => by rw [z, e2] at q; cases q)]
    exact q2
/-- an owned cell stands from now on -/
theorem World.freeze (W : World K T S w F H) (e : w a = some h) : ∃ o, S a = none ∧ RepH K S h o ∧ World K T (upd S a o) (wd w a) F H := by
  obtain ⟨e1, e2, o, e3, e4⟩ := W.own a h e
  have sS : Same S (upd S a o) := same_upd e1
  refine ⟨o, e1, e4, fun b x q => ?_, fun b ps q => ?_, fun b k q => ?_, fun b x q => ?_, W.tabs, W.nf⟩
  · by_cases hb : b = a
    · subst hb
      rw [upd_same] at q
      rw [e3]
      exact q
    · rw [upd_ne hb] at q
      exact W.same _ _ q
  · by_cases hb : b = a
    · subst hb
      rw [upd_same] at q
      exact e4.notbl.1 ps (Option.some.inj q)
    · rw [upd_ne hb] at q
      exact W.notbl _ _ q
  · have hb : b ≠ a := fun z => by
      rw [z] at q
      have q' : (if a = a then none else w a) = some k := q
      rw [if_pos rfl] at q'
      cases q'
    have q' : w b = some k := by
      have q' : (if b = a then none else w b) = some k := q
      rw [if_neg hb] at q'
      exact q'
    obtain ⟨q1, q2, x, q3, q4⟩ := W.own b k q'
    exact ⟨by rw [upd_ne hb]; exact q1, q2, x, q3, q4.mono sS⟩
  · obtain ⟨q1, q2⟩ := W.frm b x q
    refine ⟨?_, q2⟩
    rw [upd_ne (fun z => by rw [z, e2] at q; cases q)]
    exact q1
/-- a cell of the frame is written; is taken out and stands -/
theorem World.putF (W : World K T S w F H) {u : HO} (e : F a = some u) (h1 : ∀ ps, u ≠ .tbl ps) (h2 : ∀ φ, u ≠ .ext φ) (hn : ∀ ps, o ≠ .tbl ps) : World K T S w (upd F a o) (upd H a o) := by
  obtain ⟨e1, e2⟩ := W.frm a u e
  refine ⟨fun b x q => ?_, W.notbl, fun b k q => ?_, fun b x q => ?_, fun p hp => TabS.put (W.tabs p hp) e2 h1 h2, nf_upd W.nf hn⟩
  · rw [upd_ne (ne_of_none q e1)]
    exact W.same _ _ q
  · obtain ⟨q1, q2, x, q3, q4⟩ := W.own b k q
    have hb : b ≠ a := fun z => by
      rw [z, e] at q2
      cases q2
    exact ⟨q1, by rw [upd_ne hb]; exact q2, x, by rw [upd_ne hb]; exact q3, q4⟩
  · by_cases hb : b = a
    · subst hb
      rw [upd_same] at q ⊢
      exact ⟨e1, q⟩
    · rw [upd_ne hb] at q
      obtain ⟨q1, q2⟩ := W.frm b x q
      exact ⟨q1, by rw [upd_ne hb]; exact q2⟩
theorem World.freezeF {F0 : Hp} (W : World K T S w (upd F0 a o) H) (e : F0 a = none) (h1 : ∀ ps, o ≠ .tbl ps) : S a = none ∧ World K T (upd S a o) w F0 H := by
  obtain ⟨e1, e2⟩ := W.frm a o upd_same
  have sS : Same S (upd S a o) := same_upd e1
  refine ⟨e1, fun b x q => ?_, fun b ps q => ?_, fun b k q => ?_, fun b x q => ?_, W.tabs, fun b ps z => ?_⟩
  · by_cases hb : b = a
    · subst hb
      rw [upd_same] at q
      rw [e2]
      exact q
    · rw [upd_ne hb] at q
      exact W.same _ _ q
  · by_cases hb : b = a
    · subst hb
      rw [upd_same] at q
      exact h1 ps (Option.some.inj q)
    · rw [upd_ne hb] at q
      exact W.notbl _ _ q
  · obtain ⟨q1, q2, x, q3, q4⟩ := W.own b k q
    have hb : b ≠ a := fun z => by
      rw [z, upd_same] at q2
      cases q2
    refine ⟨by rw [upd_ne hb]; exact q1, ?_, x, q3, q4.mono sS⟩
    rw [upd_ne hb] at q2
    exact q2
  · have hb : b ≠ a := fun z => by
      rw [z, e] at q
      cases q
    obtain ⟨q1, q2⟩ := W.frm b x (by rw [upd_ne hb]; exact q)
    exact ⟨by rw [upd_ne hb]; exact q1, q2⟩
  · by_cases hb : b = a
    · rw [hb, e] at z
      cases z
    · exact W.nf b ps (by rw [upd_ne hb]; exact z)
end
/-! ### the frame's slots, in data -/
abbrev Dn := List (Option D)
structure EnvD (K : PySem.W.Frag) (S : Hp) (δ : Dn) (σ : L2.St) : Prop where
  len : δ.length = σ.length
  at_ : ∀ (i : Nat) (d : D), δ[i]? = some (some d) → ∃ v, σ[i]? = some (some v) ∧ Rep K S d v
theorem EnvD.mono {K : PySem.W.Frag} {S S' : Hp} {δ : Dn} {σ : L2.St} (e : Same S S') (h : EnvD K S δ σ) : EnvD K S' δ σ := ⟨h.len, fun i d q => by
  obtain ⟨v, h1, h2⟩ := h.at_ i d q
  exact ⟨v, h1, h2.mono e⟩⟩
theorem EnvD.set {K : PySem.W.Frag} {S : Hp} {δ : Dn} {σ : L2.St} (h : EnvD K S δ σ) (i : Nat) {d : D} {v : V} (r : Rep K S d v) : EnvD K S (δ.set i (some d)) (σ.set i (some v)) := by
  refine ⟨by rw [List.length_set, List.length_set]; exact h.len, fun j d' q => ?_⟩
  by_cases e : i = j
  · subst e
    by_cases hl : i < δ.length
    · rw [List.getElem?_set_self hl] at q
      cases q
      exact ⟨v, by rw [List.getElem?_set_self (by rw [← h.len]; exact hl)], r⟩
    · rw [List.getElem?_eq_none (by simpa using hl)] at q
      cases q
  · rw [List.getElem?_set_ne e] at q
    obtain ⟨v', h1, h2⟩ := h.at_ j d' q
    exact ⟨v', by rw [List.getElem?_set_ne e]; exact h1, h2⟩
theorem EnvD.unset {K : PySem.W.Frag} {S : Hp} {δ : Dn} {σ : L2.St} (h : EnvD K S δ σ) (i : Nat) : EnvD K S (δ.set i none) (σ.set i none) := by
  refine ⟨by rw [List.length_set, List.length_set]; exact h.len, fun j d' q => ?_⟩
  by_cases e : i = j
  · subst e
    by_cases hl : i < δ.length
    · rw [List.getElem?_set_self hl] at q
      cases q
    · rw [List.getElem?_eq_none (by simpa using hl)] at q
      cases q
  · rw [List.getElem?_set_ne e] at q
    obtain ⟨v', h1, h2⟩ := h.at_ j d' q
    exact ⟨v', by rw [List.getElem?_set_ne e]; exact h1, h2⟩
def wipeD (δ : Dn) : List Nat → Dn
  | [] => δ
  | v :: vs => (wipeD δ vs).set v none
theorem EnvD.wipe {K : PySem.W.Frag} {S : Hp} {δ : Dn} {σ : L2.St} (h : EnvD K S δ σ) : ∀ vs : List Nat, EnvD K S (wipeD δ vs) (L2.wipe σ vs)
  | [] => h
  | v :: vs => (EnvD.wipe h vs).unset v
/-- a slot's data is told otherwise -/
theorem EnvD.tell {K : PySem.W.Frag} {S : Hp} {δ : Dn} {σ : L2.St} (h : EnvD K S δ σ) (i : Nat) {d d' : D} (q : δ[i]? = some (some d)) (r : ∀ v, Rep K S d v → Rep K S d' v) : EnvD K S (δ.set i (some d')) σ := by
  refine ⟨by rw [List.length_set]; exact h.len, fun j e q' => ?_⟩
  by_cases z : i = j
  · subst z
    have hl : i < δ.length := (List.getElem?_eq_some_iff.mp q).1
    rw [List.getElem?_set_self hl] at q'
    cases q'
    obtain ⟨v, h1, h2⟩ := h.at_ i d q
    exact ⟨v, h1, r v h2⟩
  · rw [List.getElem?_set_ne z] at q'
    exact h.at_ j e q'
end DL

set_option Elab.async false
set_option linter.all false
set_option maxRecDepth 100000
set_option maxHeartbeats 1000000
/-! The judgements in data: expressions, tests, argument lists, statements. -/
namespace DL
open PySem PySem.Spec PyProof.Rows L2 LamX
/-! ### the weakest readings -/
section
variable (X : Cx)
def wpE (e : Expr) : TE := fun σ H Q => ∀ pins s, Inv X pins σ H s → wpAny (model X.prog X.w) X.A (eval e X.env) (EP X pins σ Q) X.xe s
def wpT (e : Expr) : TT := fun σ H Q => ∀ pins s, Inv X pins σ H s → wpAny (model X.prog X.w) X.A (isTrue e X.env (eval e X.env)) (TP X pins σ Q) X.xe s
def wpA (es : List Expr) : TA := fun σ H Q => ∀ (pos : Pos) pins s, Inv X pins σ H s → wpAny (model X.prog X.w) X.A (spliced (backTo pos (starEach es X.env))) (AP X pins σ Q) X.xe s
def wpS (st : Stmt) : TS := fun D σ H => ∀ pins s, Inv X pins σ H s → wpAny (model X.prog X.w) X.A (exec st X.env) (SP X pins D) X.xe s
def wpSs (st : List Stmt) : TS := fun D σ H => ∀ pins s, Inv X pins σ H s → wpAny (model X.prog X.w) X.A (execs st X.env) (SP X pins D) X.xe s
def wpG (tg : Expr) : TG := fun v σ H Q => ∀ pins s u, Inv X pins σ H s → RelV v u → wpAny (model X.prog X.w) X.A (assign tg X.env u) (fun _ s' => ∃ σ' H', Inv X pins σ' H' s' ∧ Q σ' H') X.xe s
def wpTs (ifs : List Expr) : TT := fun σ H Q => ∀ pins s, Inv X pins σ H s → wpAny (model X.prog X.w) X.A (forIn ifs true fun c r => if r = true then do let ok ← isTrue c X.env (eval c X.env); pure (ForInStep.yield ok) else pure (ForInStep.yield r)) (TP X pins σ Q) X.xe s
end
section
variable {X : Cx}
theorem pe_wp (e : Expr) : PE X e (wpE X e) := ⟨fun pins s _ _ _ I h => h pins s I⟩
theorem pt_wp (e : Expr) : PT X e (wpT X e) := ⟨fun pins s _ _ _ I h => h pins s I⟩
theorem pa_wp (es : List Expr) : PA X es (wpA X es) := ⟨fun pos pins s _ _ _ I h => h pos pins s I⟩
theorem ps_wp (st : Stmt) : PS X st (wpS X st) := ⟨fun pins s _ _ _ I h => h pins s I⟩
theorem pss_wp (st : List Stmt) : PSs X st (wpSs X st) := ⟨fun pins s _ _ _ I h => h pins s I⟩
theorem pg_wp (tg : Expr) : PG X tg (wpG X tg) := ⟨fun pins s _ _ _ u _ I r h => h pins s u I r⟩
theorem pts_wp (ifs : List Expr) : PTs X ifs (wpTs X ifs) := ⟨fun pins s _ _ _ I h => h pins s I⟩
theorem wp_pe {e : Expr} {t : TE} (h : PE X e t) {σ : L2.St} {H : Hp} {Q : VK} (q : t σ H Q) : wpE X e σ H Q := fun pins s I => h.run pins s σ H Q I q
theorem wp_pt {e : Expr} {t : TT} (h : PT X e t) {σ : L2.St} {H : Hp} {Q : Bool → Hp → Prop} (q : t σ H Q) : wpT X e σ H Q := fun pins s I => h.run pins s σ H Q I q
theorem wp_pa {es : List Expr} {t : TA} (h : PA X es t) {σ : L2.St} {H : Hp} {Q : List V → Hp → Prop} (q : t σ H Q) : wpA X es σ H Q := fun pos pins s I => h.run pos pins s σ H Q I q
theorem wp_ps {st : Stmt} {t : TS} (h : PS X st t) {σ : L2.St} {H : Hp} {D : Ends} (q : t D σ H) : wpS X st D σ H := fun pins s I => h.run pins s σ H D I q
theorem wp_pss {st : List Stmt} {t : TS} (h : PSs X st t) {σ : L2.St} {H : Hp} {D : Ends} (q : t D σ H) : wpSs X st D σ H := fun pins s I => h.run pins s σ H D I q
theorem wp_pg {tg : Expr} {t : TG} (h : PG X tg t) {v : V} {σ : L2.St} {H : Hp} {Q : L2.St → Hp → Prop} (q : t v σ H Q) : wpG X tg v σ H Q := fun pins s u I r => h.run pins s σ H v u Q I r q
end
/-! ### wishes in data -/
/-- an exception's wish: class, fields, owned cells -/
abbrev XD := Addr → List Str → List D → Wp → Prop
abbrev noX : XD := fun _ _ _ _ => False
/-- an exception's own dict -/
def XdR (K : PySem.W.Frag) (S : Hp) (d : Addr) (ns : List Str) (ds : List D) : Prop := ∃ ys, S d = some (.xd ys) ∧ ys.map (·.1) = ns ∧ RepL K S ds (ys.map (·.2))
/-- W takes what χ tells -/
def ExD (K : PySem.W.Frag) (T : List (Addr × Str)) (W : WX) (χ : XD) (σ : L2.St) (S F : Hp) : Prop :=
  ∀ C ns ds w' d S' H', χ C ns ds w' → Same S S' → World K T S' w' F H' → XdR K S' d ns ds → W (.ref C) (some d) σ H'
def KD (K : PySem.W.Frag) (T : List (Addr × Str)) (κ : D → Wp → Prop) (S F : Hp) (Q : VK) : Prop :=
  ∀ d w' v S' H', κ d w' → Same S S' → World K T S' w' F H' → Rep K S' d v → Q v H'
def KB (K : PySem.W.Frag) (T : List (Addr × Str)) (κ : Bool → Wp → Prop) (S F : Hp) (Q : Bool → Hp → Prop) : Prop :=
  ∀ b w' S' H', κ b w' → Same S S' → World K T S' w' F H' → Q b H'
def KA (K : PySem.W.Frag) (T : List (Addr × Str)) (κ : List D → Wp → Prop) (S F : Hp) (Q : List V → Hp → Prop) : Prop :=
  ∀ ds w' vs S' H', κ ds w' → Same S S' → World K T S' w' F H' → RepL K S' ds vs → Q vs H'
def KS (K : PySem.W.Frag) (T : List (Addr × Str)) (κ : Dn → Wp → Prop) (S F : Hp) (Q : L2.St → Hp → Prop) : Prop :=
  ∀ δ' w' σ' S' H', κ δ' w' → Same S S' → EnvD K S' δ' σ' → World K T S' w' F H' → Q σ' H'
section
variable {K : PySem.W.Frag} {T : List (Addr × Str)} {W : WX} {χ : XD} {σ : L2.St} {S S' F : Hp}
theorem ExD.mono (e : Same S S') (h : ExD K T W χ σ S F) : ExD K T W χ σ S' F := fun C ns ds w' d S2 H2 x s1 wd r => h C ns ds w' d S2 H2 x (e.trans s1) wd r
theorem KD.mono {κ : D → Wp → Prop} {Q : VK} (e : Same S S') (h : KD K T κ S F Q) : KD K T κ S' F Q := fun d w' v S2 H2 x s1 wd r => h d w' v S2 H2 x (e.trans s1) wd r
theorem KB.mono {κ : Bool → Wp → Prop} {Q : Bool → Hp → Prop} (e : Same S S') (h : KB K T κ S F Q) : KB K T κ S' F Q := fun d w' S2 H2 x s1 wd => h d w' S2 H2 x (e.trans s1) wd
theorem KA.mono {κ : List D → Wp → Prop} {Q : List V → Hp → Prop} (e : Same S S') (h : KA K T κ S F Q) : KA K T κ S' F Q := fun d w' v S2 H2 x s1 wd r => h d w' v S2 H2 x (e.trans s1) wd r
theorem KS.mono {κ : Dn → Wp → Prop} {Q : L2.St → Hp → Prop} (e : Same S S') (h : KS K T κ S F Q) : KS K T κ S' F Q := fun d w' v S2 H2 x s1 en wd => h d w' v S2 H2 x (e.trans s1) en wd
end
/-! ### the judgements -/
section
variable (X : Cx) (T : List (Addr × Str)) (W : WX) (χ : XD)
def PD (e : Expr) (δ : Dn) (w : Wp) (κ : D → Wp → Prop) : Prop :=
  ∀ (F : Hp) (σ : L2.St) (S H : Hp) (Q : VK), EnvD X.K S δ σ → World X.K T S w F H → ExD X.K T W χ σ S F → KD X.K T κ S F Q → wpE X e σ H Q
def PTD (e : Expr) (δ : Dn) (w : Wp) (κ : Bool → Wp → Prop) : Prop :=
  ∀ (F : Hp) (σ : L2.St) (S H : Hp) (Q : Bool → Hp → Prop), EnvD X.K S δ σ → World X.K T S w F H → ExD X.K T W χ σ S F → KB X.K T κ S F Q → wpT X e σ H Q
/-- a test whatever its whole is -/
def PWD (e : Expr) (δ : Dn) (w : Wp) (κ : Bool → Wp → Prop) : Prop :=
  ∀ (F : Hp) (σ : L2.St) (S H : Hp) (Q : Bool → Hp → Prop), EnvD X.K S δ σ → World X.K T S w F H → ExD X.K T W χ σ S F → KB X.K T κ S F Q →
    ∀ (whole : Sem Value) pins s, Inv X pins σ H s → wpAny (model X.prog X.w) X.A (isTrue e X.env whole) (TP X pins σ Q) X.xe s
def PAD (es : List Expr) (δ : Dn) (w : Wp) (κ : List D → Wp → Prop) : Prop :=
  ∀ (F : Hp) (σ : L2.St) (S H : Hp) (Q : List V → Hp → Prop), EnvD X.K S δ σ → World X.K T S w F H → ExD X.K T W χ σ S F → KA X.K T κ S F Q → wpA X es σ H Q
def PGD (tg : Expr) (d : D) (δ : Dn) (w : Wp) (κ : Dn → Wp → Prop) : Prop :=
  ∀ (F : Hp) (v : V) (σ : L2.St) (S H : Hp) (Q : L2.St → Hp → Prop), Rep X.K S d v → EnvD X.K S δ σ → World X.K T S w F H → KS X.K T κ S F Q → wpG X tg v σ H Q
structure Fin where
  nx : Dn → Wp → Prop
  rt : D → Wp → Prop
  bk : Dn → Wp → Prop := fun _ _ => False
  ct : Dn → Wp → Prop := fun _ _ => False
structure KE (C : Fin) (S F : Hp) (E : Ends) : Prop where
  nx : KS X.K T C.nx S F E.nx
  rt : KD X.K T C.rt S F E.rt
  bk : KS X.K T C.bk S F E.bk
  ct : KS X.K T C.ct S F E.ct
def ExS (S F : Hp) : Prop := ∀ σ, ExD X.K T W χ σ S F
def PSD (st : Stmt) (δ : Dn) (w : Wp) (C : Fin) : Prop :=
  ∀ (F : Hp) (σ : L2.St) (S H : Hp) (E : Ends), EnvD X.K S δ σ → World X.K T S w F H → ExS X T W χ S F → KE X T C S F E → wpS X st E σ H
def PSsD (sts : List Stmt) (δ : Dn) (w : Wp) (C : Fin) : Prop :=
  ∀ (F : Hp) (σ : L2.St) (S H : Hp) (E : Ends), EnvD X.K S δ σ → World X.K T S w F H → ExS X T W χ S F → KE X T C S F E → wpSs X sts E σ H
end
section
variable {X : Cx} {T : List (Addr × Str)} {W : WX} {χ : XD} {δ : Dn} {w : Wp} {pos : Pos}
theorem KE.mono {C : Fin} {S S' F : Hp} {E : Ends} (e : Same S S') (h : KE X T C S F E) : KE X T C S' F E := ⟨h.nx.mono e, h.rt.mono e, h.bk.mono e, h.ct.mono e⟩
theorem ExS.mono {S S' F : Hp} (e : Same S S') (h : ExS X T W χ S F) : ExS X T W χ S' F := fun σ => (h σ).mono e
theorem PD.imp {e : Expr} {κ κ' : D → Wp → Prop} (h : PD X T W χ e δ w κ) (i : ∀ d w', κ d w' → κ' d w') : PD X T W χ e δ w κ' :=
  fun F σ S H Q hE hW hX hK => h F σ S H Q hE hW hX fun d w' v S' H' x => hK d w' v S' H' (i d w' x)
theorem PSsD.imp {sts : List Stmt} {C C' : Fin} (h : PSsD X T W χ sts δ w C) (hn : ∀ δ' w', C.nx δ' w' → C'.nx δ' w') (hr : ∀ d w', C.rt d w' → C'.rt d w') (hb : ∀ δ' w', C.bk δ' w' → C'.bk δ' w') (hc : ∀ δ' w', C.ct δ' w' → C'.ct δ' w') : PSsD X T W χ sts δ w C' :=
  fun F σ S H E hE hW hX hK => h F σ S H E hE hW hX ⟨fun δ' w' σ' S' H' x => hK.nx δ' w' σ' S' H' (hn _ _ x), fun d w' v S' H' x => hK.rt d w' v S' H' (hr _ _ x), fun δ' w' σ' S' H' x => hK.bk δ' w' σ' S' H' (hb _ _ x), fun δ' w' σ' S' H' x => hK.ct δ' w' σ' S' H' (hc _ _ x)⟩
/-! ### names and constants -/
theorem pd_var {x : Str} {i : Nat} {d : D} {κ : D → Wp → Prop} (hN : X.N[i]? = some x) (hd : δ[i]? = some (some d)) (k : κ d w)
    (hv : Vis X.env.scope x := by first | exact Or.inl rfl | exact Or.inr (Or.inl rfl) | exact Or.inr (Or.inr rfl)) (h1 : (x == ("__debug__" : Str)) = false := by decide) (h2 : (x == ("__classdict__" : Str)) = false := by decide) :
    PD X T W χ (.Name x pos) δ w κ := fun F σ S H Q hE hW hX hK => by
  obtain ⟨v, e1, r⟩ := hE.at_ i d hd
  exact wp_pe (pe_var hN hv h1 h2) ⟨v, e1, hK d w v S H k (Same.refl _) hW r⟩
theorem pd_int {i : Int} {j : Nat} {κ : D → Wp → Prop} (k : κ (I i) w) : PD X T W χ (.Constant (.int i) j pos) δ w κ := fun F σ S H Q hE hW hX hK => wp_pe pe_int (hK _ w _ S H k (Same.refl _) hW rfl)
theorem pd_bl {b : Bool} {j : Nat} {κ : D → Wp → Prop} (k : κ (B b) w) : PD X T W χ (.Constant (.bool b) j pos) δ w κ := fun F σ S H Q hE hW hX hK => wp_pe pe_bl (hK _ w _ S H k (Same.refl _) hW rfl)
theorem pd_non {j : Nat} {κ : D → Wp → Prop} (k : κ N w) : PD X T W χ (.Constant .none j pos) δ w κ := fun F σ S H Q hE hW hX hK => wp_pe pe_non (hK _ w _ S H k (Same.refl _) hW rfl)
theorem pd_str {x : Str} {j : Nat} {κ : D → Wp → Prop} (k : κ (DL.T x) w) : PD X T W χ (.Constant (.str x) j pos) δ w κ := fun F σ S H Q hE hW hX hK => wp_pe pe_str (hK _ w _ S H k (Same.refl _) hW rfl)
/-! ### argument lists -/
theorem pad_nil {κ : List D → Wp → Prop} (k : κ [] w) : PAD X T W χ [] δ w κ := fun F σ S H Q hE hW hX hK => wp_pa pa_nil (hK _ w _ S H k (Same.refl _) hW rfl)
theorem pad_cons {e : Expr} {es : List Expr} {κ : List D → Wp → Prop} (h : PD X T W χ e δ w fun d w1 => PAD X T W χ es δ w1 fun ds w2 => κ (d :: ds) w2)
    (hs : starEach (e :: es) X.env = (false, eval e X.env) :: starEach es X.env := by rfl) : PAD X T W χ (e :: es) δ w κ := fun F σ S H Q hE hW hX hK => by
  refine wp_pa (pa_cons (pe_wp e) (pa_wp es) hs) ?_
  refine h F σ S H _ hE hW hX fun d w1 v S1 H1 k s1 W1 r => ?_
  refine k F σ S1 H1 _ (hE.mono s1) W1 (hX.mono s1) fun ds w2 vs S2 H2 k2 s2 W2 r2 => ?_
  exact hK _ w2 _ S2 H2 k2 (s1.trans s2) W2 ⟨v, vs, rfl, r.mono s2, r2⟩
/-! ### operators, by values -/
/-- the value rule r, in data -/
def VR1 (K : PySem.W.Frag) (T : List (Addr × Str)) (r : V → Hp → VK → Prop) (d : D) (w : Wp) (κ : D → Wp → Prop) : Prop :=
  ∀ (F S H : Hp) (x : V) (Q : VK), World K T S w F H → Rep K S d x → KD K T κ S F Q → r x H Q
def VR2 (K : PySem.W.Frag) (T : List (Addr × Str)) (r : R2) (d e : D) (w : Wp) (κ : D → Wp → Prop) : Prop :=
  ∀ (F S H : Hp) (x y : V) (Q : VK), World K T S w F H → Rep K S d x → Rep K S e y → KD K T κ S F Q → r x y H Q
def VRA (K : PySem.W.Frag) (T : List (Addr × Str)) (r : List V → Hp → VK → Prop) (ds : List D) (w : Wp) (κ : D → Wp → Prop) : Prop :=
  ∀ (F S H : Hp) (xs : List V) (Q : VK), World K T S w F H → RepL K S ds xs → KD K T κ S F Q → r xs H Q
def VRM (K : PySem.W.Frag) (T : List (Addr × Str)) (r : V → List V → Hp → VK → Prop) (d : D) (ds : List D) (w : Wp) (κ : D → Wp → Prop) : Prop :=
  ∀ (F S H : Hp) (x : V) (xs : List V) (Q : VK), World K T S w F H → Rep K S d x → RepL K S ds xs → KD K T κ S F Q → r x xs H Q
theorem two {a b : Expr} {r : R2} {κ : D → Wp → Prop} (h : PD X T W χ a δ w fun d w1 => PD X T W χ b δ w1 fun e w2 => VR2 X.K T r d e w2 κ) {F : Hp} {σ : L2.St} {S H : Hp} {Q : VK} (hE : EnvD X.K S δ σ) (hW : World X.K T S w F H) (hX : ExD X.K T W χ σ S F) (hK : KD X.K T κ S F Q) :
    tOp r (wpE X a) (wpE X b) σ H Q := by
  refine h F σ S H _ hE hW hX fun d w1 v S1 H1 k s1 W1 r1 => ?_
  refine k F σ S1 H1 _ (hE.mono s1) W1 (hX.mono s1) fun e w2 u S2 H2 k2 s2 W2 r2 => ?_
  exact k2 F S2 H2 v u _ W2 (r1.mono s2) r2 (hK.mono (s1.trans s2))
theorem pd_op {a b : Expr} {op : Operator} {r : R2} {κ : D → Wp → Prop} (ho : OpR X (binaryOp op) r) (h : PD X T W χ a δ w fun d w1 => PD X T W χ b δ w1 fun e w2 => VR2 X.K T r d e w2 κ) : PD X T W χ (.BinOp a op b pos) δ w κ :=
  fun F σ S H Q hE hW hX hK => wp_pe (pe_op ho (pe_wp a) (pe_wp b)) (two h hE hW hX hK)
theorem pd_cmp {a b : Expr} {op : CmpOp} {r : R2} {κ : D → Wp → Prop} (ho : OpR X (compareOp op) r) (h : PD X T W χ a δ w fun d w1 => PD X T W χ b δ w1 fun e w2 => VR2 X.K T r d e w2 κ)
    (hm : behindInMarks op b = false := by first | exact nomark _ | rfl) : PD X T W χ (.Compare a [op] [b] pos) δ w κ :=
  fun F σ S H Q hE hW hX hK => wp_pe (pe_cmpR ho (pe_wp a) (pe_wp b) hm) (two h hE hW hX hK)
theorem pd_un {a : Expr} {op : UnaryOp} {r : V → Hp → VK → Prop} {κ : D → Wp → Prop} (ho : UnR X (unaryOp op) r) (h : PD X T W χ a δ w fun d w1 => VR1 X.K T r d w1 κ) : PD X T W χ (.UnaryOp op a pos) δ w κ :=
  fun F σ S H Q hE hW hX hK => wp_pe (pe_un ho (pe_wp a)) (by
    refine h F σ S H _ hE hW hX fun d w1 v S1 H1 k s1 W1 r1 => ?_
    exact k F S1 H1 v _ W1 r1 (hK.mono s1))
theorem pd_ix {a b : Expr} {r : R2} {κ : D → Wp → Prop} (ho : IxR X r) (h : PD X T W χ a δ w fun d w1 => PD X T W χ b δ w1 fun e w2 => VR2 X.K T r d e w2 κ) (hs : PlainIx b := by exact fun _ _ => rfl) : PD X T W χ (.Subscript a b pos) δ w κ :=
  fun F σ S H Q hE hW hX hK => wp_pe (pe_ix ho (pe_wp a) (pe_wp b) hs) (two h hE hW hX hK)
/-! ### tests -/
/-- an expression whose value is a bool, as a test -/
theorem ptd_val {e : Expr} {κ : Bool → Wp → Prop} (h : PD X T W χ e δ w fun d w' => ∃ b, d = B b ∧ κ b w')
    (he : ∀ whole, isTrue e X.env whole = (do let v ← whole; standAt e.pos; holding [v] (truthy v)) := by intro _; rfl) : PTD X T W χ e δ w κ :=
  fun F σ S H Q hE hW hX hK => wp_pt (pt_val (pe_wp e) he) (by
    refine h F σ S H _ hE hW hX fun d w' v S' H' k s1 W1 r => ?_
    obtain ⟨b, rfl, k⟩ := k
    have rv : v = .bl b := r
    exact ⟨b, rv, hK b w' S' H' k s1 W1⟩)
/-- a comparison, as a test -/
theorem ptd_cmp {a b : Expr} {op : CmpOp} {r : R2} {κ : Bool → Wp → Prop} (ho : OpR X (compareOp op) r) (h : PD X T W χ a δ w fun d w1 => PD X T W χ b δ w1 fun e w2 => VR2 X.K T r d e w2 fun d w' => ∃ b, d = B b ∧ κ b w')
    (hm : behindInMarks op b = false := by first | exact nomark _ | rfl) : PTD X T W χ (.Compare a [op] [b] pos) δ w κ :=
  fun F σ S H Q hE hW hX hK => wp_pt (pt_cmpR ho (pe_wp a) (pe_wp b) hm) (two (κ := fun d w' => ∃ b, d = B b ∧ κ b w') h hE hW hX fun d w' v S' H' k s1 W1 r => by
    obtain ⟨b, rfl, k⟩ := k
    have rv : v = .bl b := r
    exact ⟨b, rv, hK b w' S' H' k s1 W1⟩)
theorem ptd_not {e : Expr} {κ : Bool → Wp → Prop} (h : PTD X T W χ e δ w fun b w' => κ (!b) w') : PTD X T W χ (.UnaryOp .Not e pos) δ w κ :=
  fun F σ S H Q hE hW hX hK => wp_pt (pt_not (pt_wp e)) (by
    refine h F σ S H _ hE hW hX fun b w' S' H' k s1 W1 => ?_
    exact hK _ w' S' H' k s1 W1)
theorem pwd_pt {e : Expr} {κ : Bool → Wp → Prop} (h : PWD X T W χ e δ w κ) : PTD X T W χ e δ w κ := fun F σ S H Q hE hW hX hK pins s I => h F σ S H Q hE hW hX hK _ pins s I
theorem pwd_and1 {a : Expr} {κ : Bool → Wp → Prop} (h : PTD X T W χ a δ w κ) : PWD X T W χ (.BoolOp .And [a] pos) δ w κ := fun F σ S H Q hE hW hX hK whole pins s I =>
  (pw_and1 (pt_wp a)).run whole pins s σ H Q I (h F σ S H Q hE hW hX hK)
theorem pwd_or1 {a : Expr} {κ : Bool → Wp → Prop} (h : PTD X T W χ a δ w κ) : PWD X T W χ (.BoolOp .Or [a] pos) δ w κ := fun F σ S H Q hE hW hX hK whole pins s I =>
  (pw_or1 (pt_wp a)).run whole pins s σ H Q I (h F σ S H Q hE hW hX hK)
def wpW (X : Cx) (e : Expr) : TT := fun σ H Q => ∀ whole pins s, Inv X pins σ H s → wpAny (model X.prog X.w) X.A (isTrue e X.env whole) (TP X pins σ Q) X.xe s
theorem pw_wp (e : Expr) : PW X e (wpW X e) := ⟨fun whole pins s _ _ _ I h => h whole pins s I⟩
theorem pwd_and {a b : Expr} {rest : List Expr} {κ : Bool → Wp → Prop} (h : PTD X T W χ a δ w fun c w1 => if c = true then PWD X T W χ (.BoolOp .And (b :: rest) pos) δ w1 κ else κ false w1) : PWD X T W χ (.BoolOp .And (a :: b :: rest) pos) δ w κ :=
  fun F σ S H Q hE hW hX hK whole pins s I => (pw_and (pt_wp a) (pw_wp _)).run whole pins s σ H Q I (by
    refine h F σ S H _ hE hW hX fun c w1 S1 H1 k s1 W1 => ?_
    cases c with
    | true =>
      rw [if_pos rfl] at k ⊢
      exact fun whole pins s I => k F σ S1 H1 Q (hE.mono s1) W1 (hX.mono s1) (hK.mono s1) whole pins s I
    | false =>
      rw [if_neg Bool.false_ne_true] at k ⊢
      exact hK _ w1 S1 H1 k s1 W1)
theorem pwd_or {a b : Expr} {rest : List Expr} {κ : Bool → Wp → Prop} (h : PTD X T W χ a δ w fun c w1 => if c = true then κ true w1 else PWD X T W χ (.BoolOp .Or (b :: rest) pos) δ w1 κ) : PWD X T W χ (.BoolOp .Or (a :: b :: rest) pos) δ w κ :=
  fun F σ S H Q hE hW hX hK whole pins s I => (pw_or (pt_wp a) (pw_wp _)).run whole pins s σ H Q I (by
    refine h F σ S H _ hE hW hX fun c w1 S1 H1 k s1 W1 => ?_
    cases c with
    | true =>
      rw [if_pos rfl] at k ⊢
      exact hK _ w1 S1 H1 k s1 W1
    | false =>
      rw [if_neg Bool.false_ne_true] at k ⊢
      exact fun whole pins s I => k F σ S1 H1 Q (hE.mono s1) W1 (hX.mono s1) (hK.mono s1) whole pins s I)
/-- and, or as values -/
theorem pd_and {a b : Expr} {rest : List Expr} {κ : D → Wp → Prop} (h : PD X T W χ a δ w fun d w1 => ∃ c, d = B c ∧ if c = true then PD X T W χ (.BoolOp .And (b :: rest) pos) δ w1 κ else κ (B false) w1) : PD X T W χ (.BoolOp .And (a :: b :: rest) pos) δ w κ :=
  fun F σ S H Q hE hW hX hK => wp_pe (pe_and (pe_wp a) (pe_wp _)) (by
    refine h F σ S H _ hE hW hX fun d w1 v S1 H1 k s1 W1 r => ?_
    obtain ⟨c, rfl, k⟩ := k
    have rv : v = .bl c := r
    refine ⟨c, rv, ?_⟩
    cases c with
    | true =>
      rw [if_pos rfl] at k ⊢
      exact k F σ S1 H1 Q (hE.mono s1) W1 (hX.mono s1) (hK.mono s1)
    | false =>
      rw [if_neg Bool.false_ne_true] at k ⊢
      exact hK _ w1 _ S1 H1 k s1 W1 rfl)
theorem pd_or {a b : Expr} {rest : List Expr} {κ : D → Wp → Prop} (h : PD X T W χ a δ w fun d w1 => ∃ c, d = B c ∧ if c = true then κ (B true) w1 else PD X T W χ (.BoolOp .Or (b :: rest) pos) δ w1 κ) : PD X T W χ (.BoolOp .Or (a :: b :: rest) pos) δ w κ :=
  fun F σ S H Q hE hW hX hK => wp_pe (pe_or (pe_wp a) (pe_wp _)) (by
    refine h F σ S H _ hE hW hX fun d w1 v S1 H1 k s1 W1 r => ?_
    obtain ⟨c, rfl, k⟩ := k
    have rv : v = .bl c := r
    refine ⟨c, rv, ?_⟩
    cases c with
    | true =>
      rw [if_pos rfl] at k ⊢
      exact hK _ w1 _ S1 H1 k s1 W1 rfl
    | false =>
      rw [if_neg Bool.false_ne_true] at k ⊢
      exact k F σ S1 H1 Q (hE.mono s1) W1 (hX.mono s1) (hK.mono s1))
theorem pd_one {op : BoolOp} {a : Expr} {κ : D → Wp → Prop} (h : PD X T W χ a δ w κ) : PD X T W χ (.BoolOp op [a] pos) δ w κ := fun F σ S H Q hE hW hX hK => wp_pe (pe_one (pe_wp a)) (h F σ S H Q hE hW hX hK)
theorem pd_not {a : Expr} {κ : D → Wp → Prop} (h : PD X T W χ a δ w fun d w1 => ∃ c, d = B c ∧ κ (B (!c)) w1) : PD X T W χ (.UnaryOp .Not a pos) δ w κ := fun F σ S H Q hE hW hX hK => wp_pe (pe_not (pe_wp a)) (by
  refine h F σ S H _ hE hW hX fun d w1 v S1 H1 k s1 W1 r => ?_
  obtain ⟨c, rfl, k⟩ := k
  have rv : v = .bl c := r
  exact ⟨c, rv, hK _ w1 _ S1 H1 k s1 W1 rfl⟩)
theorem pd_if {c a b : Expr} {κ : D → Wp → Prop} (h : PTD X T W χ c δ w fun k w1 => if k = true then PD X T W χ a δ w1 κ else PD X T W χ b δ w1 κ) : PD X T W χ (.IfExp c a b pos) δ w κ := fun F σ S H Q hE hW hX hK => wp_pe (pe_ifExp (pt_wp c) (pe_wp a) (pe_wp b)) (by
  refine h F σ S H _ hE hW hX fun k w1 S1 H1 q s1 W1 => ?_
  cases k with
  | true =>
    rw [if_pos rfl] at q ⊢
    exact q F σ S1 H1 Q (hE.mono s1) W1 (hX.mono s1) (hK.mono s1)
  | false =>
    rw [if_neg Bool.false_ne_true] at q ⊢
    exact q F σ S1 H1 Q (hE.mono s1) W1 (hX.mono s1) (hK.mono s1))
/-! ### displays -/
theorem pd_lst {es : List Expr} {κ : D → Wp → Prop} (h : PAD X T W χ es δ w fun ds w1 => ds.length ≤ sizeLine ∧ κ (.lst ds) w1) : PD X T W χ (.List es pos) δ w κ := fun F σ S H Q hE hW hX hK => wp_pe (pe_lst (pa_wp es)) (by
  refine h F σ S H _ hE hW hX fun ds w1 vs S1 H1 k s1 W1 r => ?_
  refine ⟨by rw [r.length]; exact k.1, fun p hp => ?_⟩
  have s2 : Same S1 (upd S1 p (.lst vs)) := same_upd (W1.free hp).1
  exact hK _ w1 _ _ _ k.2 (s1.trans s2) (W1.laid hp fun _ z => by cases z) ⟨p, vs, rfl, upd_same, r.mono s2⟩)
/-- an owned list -/
theorem pd_lstO {es : List Expr} {κ : D → Wp → Prop} (h : PAD X T W χ es δ w fun ds w1 => ds.length ≤ sizeLine ∧ ∀ a, w1 a = none → κ (R a) (wu w1 a (.lst ds))) : PD X T W χ (.List es pos) δ w κ := fun F σ S H Q hE hW hX hK => wp_pe (pe_lst (pa_wp es)) (by
  refine h F σ S H _ hE hW hX fun ds w1 vs S1 H1 k s1 W1 r => ?_
  refine ⟨by rw [r.length]; exact k.1, fun p hp => ?_⟩
  exact hK _ _ _ _ _ (k.2 p (W1.free hp).2.1) s1 (W1.take hp ⟨vs, rfl, r⟩) rfl)
theorem pd_tup {es : List Expr} {x1 : Nat} {κ : D → Wp → Prop} (h : PAD X T W χ es δ w fun ds w1 => ds.length ≤ sizeLine ∧ κ (.tup ds) w1) : PD X T W χ (.Tuple es x1 pos) δ w κ := fun F σ S H Q hE hW hX hK => wp_pe (pe_tup (pa_wp es)) (by
  refine h F σ S H _ hE hW hX fun ds w1 vs S1 H1 k s1 W1 r => ?_
  refine ⟨by rw [r.length]; exact k.1, fun p hp => ?_⟩
  have s2 : Same S1 (upd S1 p (.tup vs)) := same_upd (W1.free hp).1
  exact hK _ w1 _ _ _ k.2 (s1.trans s2) (W1.laid hp fun _ z => by cases z) ⟨p, vs, rfl, upd_same, r.mono s2⟩)
/-! ### blocks and small statements -/
theorem pssd_nil {C : Fin} (k : C.nx δ w) : PSsD X T W χ [] δ w C := fun F σ S H E hE hW hX hK => wp_pss pss_nil (hK.nx δ w σ S H k (Same.refl _) hE hW)
theorem pssd_cons {st : Stmt} {rest : List Stmt} {C : Fin} (h : PSD X T W χ st δ w { C with nx := fun δ' w' => PSsD X T W χ rest δ' w' C }) : PSsD X T W χ (st :: rest) δ w C := fun F σ S H E hE hW hX hK => wp_pss (pss_cons (ps_wp st) (pss_wp rest)) (by
  refine h F σ S H _ hE hW hX ⟨fun δ' w' σ' S' H' k s1 hE1 W1 => ?_, hK.rt, hK.bk, hK.ct⟩
  exact k F σ' S' H' E hE1 W1 (hX.mono s1) (hK.mono s1))
theorem pssd_one {st : Stmt} {C : Fin} (h : PSD X T W χ st δ w C) : PSsD X T W χ [st] δ w C := fun F σ S H E hE hW hX hK => wp_pss (pss_one (ps_wp st)) (h F σ S H E hE hW hX hK)
theorem psd_pass {C : Fin} (k : C.nx δ w) : PSD X T W χ (.Pass pos) δ w C := fun F σ S H E hE hW hX hK => wp_ps ps_pass (hK.nx δ w σ S H k (Same.refl _) hE hW)
theorem psd_break {C : Fin} (k : C.bk δ w) : PSD X T W χ (.Break pos) δ w C := fun F σ S H E hE hW hX hK => wp_ps ps_break (hK.bk δ w σ S H k (Same.refl _) hE hW)
theorem psd_cont {C : Fin} (k : C.ct δ w) : PSD X T W χ (.Continue pos) δ w C := fun F σ S H E hE hW hX hK => wp_ps ps_continue (hK.ct δ w σ S H k (Same.refl _) hE hW)
theorem psd_ret {e : Expr} {C : Fin} (h : PD X T W χ e δ w C.rt) : PSD X T W χ (.Return (some e) pos) δ w C := fun F σ S H E hE hW hX hK => wp_ps (ps_ret (pe_wp e)) (h F σ S H _ hE hW (hX σ) hK.rt)
theorem psd_retN {C : Fin} (k : C.rt N w) : PSD X T W χ (.Return none pos) δ w C := fun F σ S H E hE hW hX hK => wp_ps ps_retN (hK.rt N w _ S H k (Same.refl _) hW rfl)
theorem psd_expr {e : Expr} {C : Fin} (h : PD X T W χ e δ w fun _ w' => C.nx δ w') (hs : swapsWith e none pos.line X.env = pure false := by rfl) : PSD X T W χ (.Expr e pos) δ w C := fun F σ S H E hE hW hX hK => wp_ps (ps_expr (pe_wp e) hs) (by
  refine h F σ S H _ hE hW (hX σ) fun d w' v S' H' k s1 W1 r => ?_
  exact hK.nx δ w' σ S' H' k s1 (hE.mono s1) W1)
theorem psd_if {c : Expr} {a b : List Stmt} {C : Fin} (h : PTD X T W χ c δ w fun k w1 => if k = true then PSsD X T W χ a δ w1 C else PSsD X T W χ b δ w1 C) : PSD X T W χ (.If c a b pos) δ w C := fun F σ S H E hE hW hX hK => wp_ps (ps_if (pt_wp c) (pss_wp a) (pss_wp b)) (by
  refine h F σ S H _ hE hW (hX σ) fun k w1 S1 H1 q s1 W1 => ?_
  cases k with
  | true =>
    rw [if_pos rfl] at q ⊢
    exact q F σ S1 H1 E (hE.mono s1) W1 (hX.mono s1) (hK.mono s1)
  | false =>
    rw [if_neg Bool.false_ne_true] at q ⊢
    exact q F σ S1 H1 E (hE.mono s1) W1 (hX.mono s1) (hK.mono s1))
/-! ### targets -/
theorem pgd_name {i : Nat} {x : Str} {d : D} {κ : Dn → Wp → Prop} (hN : X.N.Nodup) (hi : X.N[i]? = some x) (k : κ (δ.set i (some d)) w) (hx : Loc X.env.scope x := by first | exact .inl rfl | exact .inr rfl)
    (hf : X.fn x = true ∨ X.env.scope.names.lookup x = some .local := by first | exact .inl rfl | exact .inr rfl) : PGD X T (.Name x pos) d δ w κ := fun F v σ S H Q r hE hW hK => wp_pg (pg_name hN hi hx hf) (hK _ w _ S H k (Same.refl _) (hE.set i r) hW)
theorem psd_set {i : Nat} {x : Str} {e : Expr} {pos' : Pos} {C : Fin} (hN : X.N.Nodup) (hi : X.N[i]? = some x) (h : PD X T W χ e δ w fun d w' => C.nx (δ.set i (some d)) w') (hx : Loc X.env.scope x := by first | exact .inl rfl | exact .inr rfl)
    (hs : swapsWith e (some (.Name x pos')) pos.line X.env = pure false := by rfl) (hf : X.fn x = true ∨ X.env.scope.names.lookup x = some .local := by first | exact .inl rfl | exact .inr rfl) : PSD X T W χ (.Assign [.Name x pos'] e pos) δ w C :=
  fun F σ S H E hE hW hX hK => wp_ps (ps_set hN hi hx (pe_wp e) hs hf) (by
    refine h F σ S H _ hE hW (hX σ) fun d w' v S' H' k s1 W1 r => ?_
    exact hK.nx _ w' _ S' H' k s1 ((hE.mono s1).set i r) W1)
/-- o[i] = e, an owned list -/
def VRS (K : PySem.W.Frag) (T : List (Addr × Str)) (t : TSet) (o i d : D) (w : Wp) (κ : Wp → Prop) : Prop :=
  ∀ (F S H : Hp) (x y v : V) (Q : Hp → Prop), World K T S w F H → Rep K S o x → Rep K S i y → Rep K S d v → (∀ w' S' H', κ w' → Same S S' → World K T S' w' F H' → Q H') → t x y v H Q
theorem psd_sub {o i e : Expr} {t : TSet} {tp : Pos} {C : Fin} (hs : PSet X t) (h : PD X T W χ e δ w fun d w1 => PD X T W χ o δ w1 fun od w2 => PD X T W χ i δ w2 fun id w3 => VRS X.K T t od id d w3 fun w' => C.nx δ w')
    (h1 : swapsWithSole [.Subscript o i tp] e pos.line X.env = pure false := by rfl) (h2 : swappedStores [.Subscript o i tp] e X.env = pure none := by rfl) (h3 : (assignEach [.Subscript o i tp] X.env).map (·.2) = [assign (.Subscript o i tp) X.env] := by rfl)
    (ha : ∀ v, assign (.Subscript o i tp) X.env v = (do
      let ov ← holding [v] (eval o X.env)
      let iv ← holding [v, ov] (eval i X.env)
      standAt tp
      holding [v, ov, iv] (setItem ov iv v)
      release [v, ov, iv] []) := by intro _; rfl) : PSD X T W χ (.Assign [.Subscript o i tp] e pos) δ w C :=
  fun F σ S H E hE hW hX hK => wp_ps (ps_asg (pe_wp e) (pg_sub (pe_wp o) (pe_wp i) hs ha) h1 h2 h3) (by
    refine h F σ S H _ hE hW (hX σ) fun d w1 v S1 H1 k s1 W1 r => ?_
    refine k F σ S1 H1 _ (hE.mono s1) W1 ((hX σ).mono s1) fun od w2 x S2 H2 k2 s2 W2 r2 => ?_
    refine k2 F σ S2 H2 _ (hE.mono (s1.trans s2)) W2 ((hX σ).mono (s1.trans s2)) fun id w3 y S3 H3 k3 s3 W3 r3 => ?_
    refine k3 F S3 H3 x y v _ W3 (r2.mono s3) r3 (r.mono (s2.trans s3)) fun w' S' H' k' s' W' => ?_
    have ss := s1.trans (s2.trans (s3.trans s'))
    exact hK.nx δ w' σ S' H' k' ss (hE.mono ss) W')
/-! ### ghost steps -/
/-- an owned list stands from now on -/
theorem pssd_freeze {sts : List Stmt} {C : Fin} {a : Addr} {ds : List D} (i : Nat) (hi : δ[i]? = some (some (R a))) (hw : w a = some (.lst ds)) (h : PSsD X T W χ sts (δ.set i (some (.lst ds))) (wd w a) C) : PSsD X T W χ sts δ w C :=
  fun F σ S H E hE hW hX hK => by
    obtain ⟨o, e1, r, W1⟩ := hW.freeze hw
    obtain ⟨xs, rfl, r⟩ := r
    have s1 : Same S (upd S a (.lst xs)) := same_upd e1
    refine h F σ _ H E ((hE.mono s1).tell i hi fun v q => ?_) W1 (hX.mono s1) (hK.mono s1)
    have q' : v = .ref a := q
    exact ⟨a, xs, q', upd_same, r.mono s1⟩
end
end DL

set_option Elab.async false
set_option linter.all false
set_option maxRecDepth 100000
set_option maxHeartbeats 1000000
/-! Value rules in data; calls; loops; comprehensions; defs. -/
namespace DL
open PySem PySem.Spec PyProof.Rows L2 LamX
section
variable {K : PySem.W.Frag} {T : List (Addr × Str)} {w : Wp} {κ : D → Wp → Prop}
/-! ### numbers -/
theorem vr_I {f : Int → Int → V} {i j : Int} (k : κ (.val (f i j)) w) : VR2 K T (rI0 f) (I i) (I j) w κ := fun F S H x y Q hW r1 r2 hK => ⟨i, j, r1, r2, hK _ w _ S H k (Same.refl _) hW rfl⟩
theorem vr_IC {C : Int → Int → Prop} {f : Int → Int → V} {i j : Int} (c : C i j) (k : κ (.val (f i j)) w) : VR2 K T (rI C f) (I i) (I j) w κ := fun F S H x y Q hW r1 r2 hK => ⟨i, j, r1, r2, c, hK _ w _ S H k (Same.refl _) hW rfl⟩
theorem vr_U {f : Int → V} {i : Int} (k : κ (.val (f i)) w) : VR1 K T (rU f) (I i) w κ := fun F S H x Q hW r1 hK => ⟨i, r1, hK _ w _ S H k (Same.refl _) hW rfl⟩
theorem vr_eq {v u : V} (s : scal v u = true) (k : κ (B (decide (v = u))) w) : VR2 K T rEq (.val v) (.val u) w κ := fun F S H x y Q hW r1 r2 hK => by
  have e1 : x = v := r1
  have e2 : y = u := r2
  subst e1 e2
  exact ⟨s, hK _ w _ S H k (Same.refl _) hW rfl⟩
theorem vr_ne {v u : V} (s : scal v u = true) (k : κ (B (!decide (v = u))) w) : VR2 K T rNe (.val v) (.val u) w κ := fun F S H x y Q hW r1 r2 hK => by
  have e1 : x = v := r1
  have e2 : y = u := r2
  subst e1 e2
  exact ⟨s, hK _ w _ S H k (Same.refl _) hW rfl⟩
/-! ### is -/
def isV (d : D) (v : V) : Bool := match d with
  | .val u => decide (u = v)
  | _ => false
theorem Rep.isn {S : Hp} {d : D} {x : V} (r : Rep K S d x) (v : V) (hv : ∀ a, v ≠ .ref a) : decide (x = v) = isV d v := by
  cases d with
  | val u =>
    have e : x = u := r
    rw [e]
    rfl
  | lst ds =>
    obtain ⟨a, xs, rfl, _⟩ := r
    exact decide_eq_false fun z => hv a z.symm
  | tup ds =>
    obtain ⟨a, xs, rfl, _⟩ := r
    exact decide_eq_false fun z => hv a z.symm
  | rd ds =>
    obtain ⟨a, xs, rfl, _⟩ := r
    exact decide_eq_false fun z => hv a z.symm
  | obj C ns ds =>
    obtain ⟨a, dx, xs, rfl, _⟩ := r
    exact decide_eq_false fun z => hv a z.symm
  | exc a dd ns ds =>
    obtain ⟨ys, rfl, _⟩ := r
    exact decide_eq_false fun z => hv a z.symm
  | dic kvs =>
    obtain ⟨a, rfl, _⟩ := r
    exact decide_eq_false fun z => hv a z.symm
  | dct kvs =>
    obtain ⟨a, rfl, _⟩ := r
    exact decide_eq_false fun z => hv a z.symm
theorem vr_isN {d : D} (k : κ (B (isV d .non)) w) : VR2 K T (fun x y H Q => y = .non ∧ Q (.bl (decide (x = .non))) H) d N w κ := fun F S H x y Q hW r1 r2 hK => ⟨r2, by
  rw [r1.isn .non (fun a z => by cases z)]
  exact hK _ w _ S H k (Same.refl _) hW rfl⟩
theorem vr_notN {d : D} (k : κ (B (!isV d .non)) w) : VR2 K T (fun x y H Q => y = .non ∧ Q (.bl (!decide (x = .non))) H) d N w κ := fun F S H x y Q hW r1 r2 hK => ⟨r2, by
  rw [r1.isn .non (fun a z => by cases z)]
  exact hK _ w _ S H k (Same.refl _) hW rfl⟩
def rIsBl : R2 := fun x y H Q => ∃ b : Bool, y = .bl b ∧ Q (.bl (decide (x = .bl b))) H
theorem op_isBl {X : Cx} : OpR X (compareOp .Is) rIsBl := by
  intro pins s σ H x y v u Q I rx ry h
  obtain ⟨b, rfl, q⟩ := h
  cases (show u = Value.bool b from ry)
  have hp : ∀ v : Value, (∀ z, v ≠ .builtin z) → PySem.plainIs v (.bool b) = true := fun v hv => by
    cases v <;> first | rfl | exact absurd rfl (hv _)
  have go : ∀ c : Bool, (v == Value.bool b) = c → decide (x = V.bl b) = c := fun c e => by
    rw [← e]
    by_cases z : x = .bl b
    · subst z
      cases (show v = Value.bool b from rx)
      simp
    · have : v ≠ Value.bool b := fun z2 => by
        subst z2
        cases x <;> first | exact Value.noConfusion (show Value.bool b = _ from rx) | (obtain ⟨t, q⟩ := rx; cases q) | skip
        rename_i c
        have e2 : Value.bool b = Value.bool c := rx
        cases e2
        exact z rfl
      simp [z, this]
  refine PySem.wpAny_is_plain (hp v fun z e => ?_) ?_
  · subst e
    cases x <;> first | exact Value.noConfusion (show Value.builtin z = _ from rx) | (obtain ⟨t, q⟩ := rx; cases q)
  · refine ⟨.bl (decide (x = V.bl b)), H, I, ?_, q⟩
    show Value.bool _ = Value.bool _
    rw [go _ rfl]
theorem vr_isBl {d : D} {b : Bool} (k : κ (B (isV d (.bl b))) w) : VR2 K T rIsBl d (B b) w κ := fun F S H x y Q hW r1 r2 hK => ⟨b, r2, by
  rw [r1.isn (.bl b) (fun a z => by cases z)]
  exact hK _ w _ S H k (Same.refl _) hW rfl⟩
/-! ### lists -/
theorem ix_at {α : Type} {xs : List α} {i : Nat} {v : α} (h : xs[i]? = some v) : atI xs (i : Int) = some v := atI_nat h
theorem vr_ixL {ds : List D} {i : Nat} {d : D} (h : ds[i]? = some d) (k : κ d w) : VR2 K T (rIxL K) (.lst ds) (I (i : Int)) w κ := fun F S H x y Q hW r1 r2 hK => by
  obtain ⟨a, xs, rfl, h1, h2⟩ := r1
  obtain ⟨v, h3, h4⟩ := h2.get h
  exact ⟨a, xs, i, v, rfl, r2, SqL.of (hW.same _ _ h1), ix_at h3, hK d w v S H k (Same.refl _) hW h4⟩
theorem vr_ixT {ds : List D} {i : Nat} {d : D} (h : ds[i]? = some d) (k : κ d w) : VR2 K T (rIxT K) (.tup ds) (I (i : Int)) w κ := fun F S H x y Q hW r1 r2 hK => by
  obtain ⟨a, xs, rfl, h1, h2⟩ := r1
  obtain ⟨v, h3, h4⟩ := h2.get h
  exact ⟨a, xs, i, v, rfl, r2, SqT.of (hW.same _ _ h1), ix_at h3, hK d w v S H k (Same.refl _) hW h4⟩
/-- an item of an owned list -/
theorem vr_ixO {a : Addr} {ds : List D} {i : Nat} {d : D} (hw : w a = some (.lst ds)) (h : ds[i]? = some d) (k : κ d w) : VR2 K T (rIxL K) (R a) (I (i : Int)) w κ := fun F S H x y Q hW r1 r2 hK => by
  obtain ⟨_, _, o, h1, h2⟩ := hW.own a _ hw
  obtain ⟨xs, rfl, h2⟩ := h2
  obtain ⟨v, h3, h4⟩ := h2.get h
  exact ⟨a, xs, i, v, r1, r2, SqL.of h1, ix_at h3, hK d w v S H k (Same.refl _) hW h4⟩
/-- a store into an owned list -/
theorem vr_setO {a : Addr} {ds : List D} {i : Nat} {d : D} {κ : Wp → Prop} (hw : w a = some (.lst ds)) (h : i < ds.length) (k : κ (wu w a (.lst (ds.set i d)))) : VRS K T rSetL (R a) (I (i : Int)) d w κ := fun F S H x y v Q hW r1 r2 r3 hK => by
  obtain ⟨_, _, o, h1, h2⟩ := hW.own a _ hw
  obtain ⟨xs, rfl, h2⟩ := h2
  refine ⟨a, xs, (i : Int), i, r1, r2, h1, ?_, hK _ S _ k (Same.refl _) (hW.put hw ⟨_, rfl, h2.set i r3⟩)⟩
  rw [h2.length]
  unfold ixN
  rw [if_pos (by omega), if_pos (by omega)]
  rfl
theorem vr_cat {ds es : List D} (hz : ds.length + es.length ≤ sizeLine) (k : κ (.lst (ds ++ es)) w) : VR2 K T rCat (.lst ds) (.lst es) w κ := fun F S H x y Q hW r1 r2 hK => by
  obtain ⟨a, xs, rfl, h1, h2⟩ := r1
  obtain ⟨b, ys, rfl, h3, h4⟩ := r2
  refine ⟨a, b, xs, ys, rfl, rfl, hW.same _ _ h1, hW.same _ _ h3, by rw [h2.length, h4.length]; exact hz, fun p hp => ?_⟩
  have s1 : Same S (upd S p (.lst (xs ++ ys))) := same_upd (hW.free hp).1
  exact hK _ w _ _ _ k s1 (hW.laid hp fun _ z => by cases z) ⟨p, _, rfl, upd_same, (h2.app h4).mono s1⟩
theorem RepL.rep {S : Hp} {ds : List D} {xs : List V} (h : RepL K S ds xs) : ∀ n : Nat, RepL K S (List.replicate n ds).flatten (List.replicate n xs).flatten
  | 0 => rfl
  | n + 1 => by
    rw [List.replicate_succ, List.replicate_succ, List.flatten_cons, List.flatten_cons]
    exact h.app (RepL.rep h n)
theorem vr_rep {ds : List D} {n : Nat} (h1 : (n : Int) < 2 ^ 63) (hz : ds.length * n ≤ sizeLine) (k : κ (.lst (List.replicate n ds).flatten) w) : VR2 K T rRep (.lst ds) (I (n : Int)) w κ := fun F S H x y Q hW r1 r2 hK => by
  obtain ⟨a, xs, rfl, h3, h4⟩ := r1
  refine ⟨a, n, xs, rfl, r2, hW.same _ _ h3, by omega, h1, by rw [h4.length]; exact hz, fun p hp => ?_⟩
  have s1 : Same S (upd S p (.lst (List.replicate (n : Int).toNat xs).flatten)) := same_upd (hW.free hp).1
  exact hK _ w _ _ _ k s1 (hW.laid hp fun _ z => by cases z) ⟨p, _, rfl, upd_same, (h4.rep n).mono s1⟩
/-! ### == of data -/
mutual
def pyD : D → Option PyData
  | .val .non => some .none
  | .val (.bl b) => some (.bool b)
  | .val (.int i) => some (.int i)
  | .val (.str x) => some (.str x)
  | .val _ => none
  | .lst ds => (pyDs ds).map PyData.list
  | .tup ds => (pyDs ds).map PyData.tuple
  | .rd ds => (pyDs ds).map PyData.list
  | .obj _ _ _ => none
  | .exc _ _ _ _ => none
  | .dic _ => none
  | .dct _ => none
def pyDs : List D → Option (List PyData)
  | [] => some []
  | d :: ds => (pyD d).bind fun x => (pyDs ds).map fun xs => x :: xs
end
mutual
theorem dp_of {S H : Hp} (e : Same S H) : ∀ {d : D} {p : PyData} {x : V}, pyD d = some p → Rep K S d x → Dp K H x p
  | .val v, p, x, h, r => by
    have r' : x = v := r
    subst r'
    cases x <;> first | (cases h; constructor) | cases h
  | .lst ds, p, x, h, r => by
    obtain ⟨a, xs, rfl, h1, h2⟩ := r
    have h' : (pyDs ds).map PyData.list = some p := h
    cases q : pyDs ds with
    | none =>
      rw [q] at h'
      cases h'
    | some ps =>
      rw [q] at h'
      cases h'
      exact .lst (SqL.of (e _ _ h1)) (dp_all e q h2)
  | .tup ds, p, x, h, r => by
    obtain ⟨a, xs, rfl, h1, h2⟩ := r
    have h' : (pyDs ds).map PyData.tuple = some p := h
    cases q : pyDs ds with
    | none =>
      rw [q] at h'
      cases h'
    | some ps =>
      rw [q] at h'
      cases h'
      exact .tup (SqT.of (e _ _ h1)) (dp_all e q h2)
  | .rd ds, p, x, h, r => by
    obtain ⟨a, xs, rfl, h1, h2⟩ := r
    have h' : (pyDs ds).map PyData.list = some p := h
    cases q : pyDs ds with
    | none =>
      rw [q] at h'
      cases h'
    | some ps =>
      rw [q] at h'
      cases h'
      exact .lst (e.seq h1) (dp_all e q h2)
  | .obj _ _ _, p, x, h, r => by cases h
  | .exc _ _ _ _, p, x, h, r => by cases h
  | .dic _, p, x, h, r => by cases h
  | .dct _, p, x, h, r => by cases h
theorem dp_all {S H : Hp} (e : Same S H) : ∀ {ds : List D} {ps : List PyData} {xs : List V}, pyDs ds = some ps → RepL K S ds xs → DpAll K H xs ps
  | [], ps, xs, h, r => by
    have r' : xs = [] := r
    subst r'
    cases h
    exact .nil
  | d :: ds, ps, xs, h, r => by
    obtain ⟨y, ys, rfl, h1, h2⟩ := r
    have h' : ((pyD d).bind fun x => (pyDs ds).map fun xs => x :: xs) = some ps := h
    cases q : pyD d with
    | none =>
      rw [q] at h'
      cases h'
    | some p =>
      cases q2 : pyDs ds with
      | none =>
        rw [q, q2] at h'
        cases h'
      | some qs =>
        rw [q, q2] at h'
        cases h'
        exact .cons (dp_of e q h1) (dp_all e q2 h2)
end
theorem vr_eqD {d e : D} {p q : PyData} (hd : pyD d = some p) (he : pyD e = some q) (s1 : SeqAt.shaped p = true) (s2 : SeqAt.shaped q = true) (k : κ (B (PyData.eqv p q)) w) : VR2 K T (rEqD K) d e w κ := fun F S H x y Q hW r1 r2 hK =>
  ⟨p, q, dp_of hW.same hd r1, dp_of hW.same he r2, s1, s2, hK _ w _ S H k (Same.refl _) hW rfl⟩
theorem vr_neD {d e : D} {p q : PyData} (hd : pyD d = some p) (he : pyD e = some q) (s1 : SeqAt.shaped p = true) (s2 : SeqAt.shaped q = true) (k : κ (B (!PyData.eqv p q)) w) : VR2 K T (rNeD K) d e w κ := fun F S H x y Q hW r1 r2 hK =>
  ⟨p, q, dp_of hW.same hd r1, dp_of hW.same he r2, s1, s2, hK _ w _ S H k (Same.refl _) hW rfl⟩
/-- an owned list against data -/
theorem vr_neDO {a : Addr} {ds : List D} {e : D} {ps : List PyData} {q : PyData} (hw : w a = some (.lst ds)) (hd : pyDs ds = some ps) (he : pyD e = some q) (s1 : SeqAt.shaped (.list ps) = true) (s2 : SeqAt.shaped q = true) (k : κ (B (!PyData.eqv (.list ps) q)) w) : VR2 K T (rNeD K) (R a) e w κ := fun F S H x y Q hW r1 r2 hK => by
  obtain ⟨_, _, o, h1, h2⟩ := hW.own a _ hw
  obtain ⟨xs, rfl, h2⟩ := h2
  have r1' : x = .ref a := r1
  subst r1'
  exact ⟨.list ps, q, .lst (SqL.of h1) (dp_all hW.same hd h2 |> fun z => z), dp_of hW.same he r2, s1, s2, hK _ w _ S H k (Same.refl _) hW rfl⟩
end
section
variable {X : Cx} {T : List (Addr × Str)} {W : WX} {χ : XD} {δ : Dn} {w : Wp} {pos : Pos}
/-! ### built-ins -/
theorem pd_callB {x : Str} {id : String} {r : List V → Hp → VK → Prop} {e : Expr} {es : List Expr} {p : Pos} {κ : D → Wp → Prop} (hc : CallR X (.builtin id) r) (hg : Gl X x) (hm : X.mg x = none) (hv : bootBuiltins x = some (.builtin id))
    (h : PAD X T W χ (e :: es) δ w fun ds w1 => VRA X.K T r ds w1 κ) (hn : x ≠ "__name__" := by decide) (hdb : (x == ("__debug__" : Str)) = false := by decide)
    (he : starEach (e :: es) X.env = (false, eval e X.env) :: starEach es X.env := by rfl) (hpl : (backTo pos (starEach es X.env)).any (·.1) = false := by rfl) : PD X T W χ (.Call (.Name x p) (e :: es) [] pos) δ w κ :=
  fun F σ S H Q hE hW hX hK => wp_pe (pe_callB hc hg hm hv (pa_wp _) hn hdb he hpl) (by
    refine h F σ S H _ hE hW hX fun ds w1 vs S1 H1 k s1 W1 r1 => ?_
    exact k F S1 H1 vs _ W1 r1 (hK.mono s1))
theorem pd_callTy {x : Str} {id : String} {r : List V → Hp → VK → Prop} {e : Expr} {es : List Expr} {p : Pos} {κ : D → Wp → Prop} (hc : CallR X (.type id) r) (hg : Gl X x) (hm : X.mg x = none) (hv : bootBuiltins x = some (.type id))
    (h : PAD X T W χ (e :: es) δ w fun ds w1 => VRA X.K T r ds w1 κ) (hn : x ≠ "__name__" := by decide) (hdb : (x == ("__debug__" : Str)) = false := by decide)
    (he : starEach (e :: es) X.env = (false, eval e X.env) :: starEach es X.env := by rfl) (hpl : (backTo pos (starEach es X.env)).any (·.1) = false := by rfl) : PD X T W χ (.Call (.Name x p) (e :: es) [] pos) δ w κ :=
  fun F σ S H Q hE hW hX hK => wp_pe (pe_callTy hc hg hm hv (pa_wp _) hn hdb he hpl) (by
    refine h F σ S H _ hE hW hX fun ds w1 vs S1 H1 k s1 W1 r1 => ?_
    exact k F S1 H1 vs _ W1 r1 (hK.mono s1))
/-- a type's method -/
def TyD (K : PySem.W.Frag) (TT : String) (d : D) (w : Wp) : Prop := match d with
  | .lst _ => TT = "list"
  | .rd _ => TT = "list"
  | .val (.ref a) => TT = "list" ∧ ∃ ds, w a = some (.lst ds)
  | .val (.str _) => TT = "str"
  | _ => False
theorem TyD.is {K : PySem.W.Frag} {TT : String} {d : D} {w : Wp} {S F H : Hp} {x : V} (t : TyD K TT d w) (hW : World K T S w F H) (r : Rep K S d x) : tyV K TT x H := by
  cases d with
  | val v =>
    have e : x = v := r
    subst e
    cases x with
    | ref a =>
      obtain ⟨t, ds, hw⟩ := t
      obtain ⟨_, _, o, h1, h2⟩ := hW.own a _ hw
      obtain ⟨xs, rfl, h2⟩ := h2
      exact .inl ⟨t, xs, SqL.of h1⟩
    | str z => exact t
    | _ => exact t.elim
  | lst ds =>
    obtain ⟨a, xs, rfl, h1, h2⟩ := r
    exact .inl ⟨t, xs, SqL.of (hW.same _ _ h1)⟩
  | rd ds =>
    obtain ⟨a, xs, rfl, h1, h2⟩ := r
    exact .inl ⟨t, xs, hW.same.seq h1⟩
  | tup ds => exact t.elim
  | obj C ns ds => exact t.elim
  | exc a dd ns ds => exact t.elim
  | dic kvs => exact t.elim
  | dct kvs => exact t.elim
theorem pd_bm0 {TT id : String} {r : V → List V → Hp → VK → Prop} {o : Expr} {name : Str} {apos cpos : Pos} {κ : D → Wp → Prop} (pa : PlainAttrs TT) (slot : Slot TT name id) (hty : typeOf (.builtin id) = pure (.type "method_descriptor")) (hm : MtR X id r)
    (h : PD X T W χ o δ w fun d w1 => TyD X.K TT d w1 ∧ VRM X.K T r d [] w1 κ)
    (hbase : attributeBase o name X.env (eval o X.env) = eval o X.env := by rfl) (hline : (apos.endLine == cpos.line) = true := by rfl) : PD X T W χ (.Call (.Attribute o name apos) [] [] cpos) δ w κ :=
  fun F σ S H Q hE hW hX hK => wp_pe (pe_bm0 pa slot hty hm (pe_wp o) hbase hline) (by
    refine h F σ S H _ hE hW hX fun d w1 v S1 H1 k s1 W1 r1 => ?_
    exact ⟨k.1.is W1 r1, k.2 F S1 H1 v [] _ W1 r1 rfl (hK.mono s1)⟩)
theorem pd_bm {TT id : String} {r : V → List V → Hp → VK → Prop} {o e : Expr} {es : List Expr} {name : Str} {apos cpos : Pos} {κ : D → Wp → Prop} (pa : PlainAttrs TT) (slot : Slot TT name id) (hty : typeOf (.builtin id) = pure (.type "method_descriptor")) (hm : MtR X id r)
    (h : PD X T W χ o δ w fun d w1 => TyD X.K TT d w1 ∧ PAD X T W χ (e :: es) δ w1 fun ds w2 => VRM X.K T r d ds w2 κ)
    (hbase : attributeBase o name X.env (eval o X.env) = eval o X.env := by rfl)
    (hfew : ((backTo cpos (starEach (e :: es) X.env)).all (fun x => !x.1) && (backToKw cpos (keywordEach [] X.env)).all (fun x => x.1.isSome)
      && decide ((e :: es).length + ([] : List Keyword).length + (if ([] : List Keyword).isEmpty then 0 else 1) < 30)) = true := by rfl)
    (hline : (apos.endLine == cpos.line) = true := by rfl) (hs : starEach (e :: es) X.env = (false, eval e X.env) :: starEach es X.env := by rfl) (hplain : (backTo cpos (starEach es X.env)).any (·.1) = false := by rfl) : PD X T W χ (.Call (.Attribute o name apos) (e :: es) [] cpos) δ w κ :=
  fun F σ S H Q hE hW hX hK => wp_pe (pe_bm pa slot hty hm (pe_wp o) (pa_wp _) hbase hfew hline hs hplain) (by
    refine h F σ S H _ hE hW hX fun d w1 v S1 H1 k s1 W1 r1 => ?_
    refine ⟨k.1.is W1 r1, ?_⟩
    refine k.2 F σ S1 H1 _ (hE.mono s1) W1 (hX.mono s1) fun ds w2 vs S2 H2 k2 s2 W2 r2 => ?_
    exact k2 F S2 H2 v vs _ W2 (r1.mono s2) r2 (hK.mono (s1.trans s2)))
end
section
variable {K : PySem.W.Frag} {T : List (Addr × Str)} {w : Wp} {κ : D → Wp → Prop}
theorem va_int {i : Int} (k : κ (I i) w) : VRA K T (fun xs H Q => (∃ i, xs = [.int i] ∧ Q (.int i) H) ∨ ∃ k, xs = [.bl k] ∧ Q (.int (if k then 1 else 0)) H) [I i] w κ := fun F S H xs Q hW r hK => by
  obtain ⟨y, ys, rfl, h1, h2⟩ := r
  have h1' : y = .int i := h1
  have h2' : ys = [] := h2
  subst h1' h2'
  exact .inl ⟨i, rfl, hK _ w _ S H k (Same.refl _) hW rfl⟩
theorem va_len {ds : List D} (k : κ (I (ds.length : Int)) w) : VRA K T (fun xs H Q => ∃ p ys, xs = [.ref p] ∧ (SqL K H p ys ∨ SqT K H p ys) ∧ Q (.int ys.length) H) [.lst ds] w κ := fun F S H xs Q hW r hK => by
  obtain ⟨y, ys, rfl, h1, h2⟩ := r
  obtain ⟨a, zs, rfl, h3, h4⟩ := h1
  have h2' : ys = [] := h2
  subst h2'
  refine ⟨a, zs, rfl, .inl (SqL.of (hW.same _ _ h3)), ?_⟩
  rw [h4.length]
  exact hK _ w _ S H k (Same.refl _) hW rfl
theorem va_lenT {ds : List D} (k : κ (I (ds.length : Int)) w) : VRA K T (fun xs H Q => ∃ p ys, xs = [.ref p] ∧ (SqL K H p ys ∨ SqT K H p ys) ∧ Q (.int ys.length) H) [.tup ds] w κ := fun F S H xs Q hW r hK => by
  obtain ⟨y, ys, rfl, h1, h2⟩ := r
  obtain ⟨a, zs, rfl, h3, h4⟩ := h1
  have h2' : ys = [] := h2
  subst h2'
  refine ⟨a, zs, rfl, .inr (SqT.of (hW.same _ _ h3)), ?_⟩
  rw [h4.length]
  exact hK _ w _ S H k (Same.refl _) hW rfl
abbrev rListOf (K : PySem.W.Frag) : List V → Hp → VK → Prop := fun xs H Q => ∃ p ys, xs = [.ref p] ∧ (SqL K H p ys ∨ SqT K H p ys) ∧ ∀ l, H l = none → Q (.ref l) (upd H l (.lst ys))
theorem va_listS {ds : List D} (k : κ (.lst ds) w) : VRA K T (rListOf K) [.lst ds] w κ := fun F S H xs Q hW r hK => by
  obtain ⟨y, ys, rfl, h1, h2⟩ := r
  obtain ⟨a, zs, rfl, h3, h4⟩ := h1
  have h2' : ys = [] := h2
  subst h2'
  refine ⟨a, zs, rfl, .inl (SqL.of (hW.same _ _ h3)), fun p hp => ?_⟩
  have s1 : Same S (upd S p (.lst zs)) := same_upd (hW.free hp).1
  exact hK _ w _ _ _ k s1 (hW.laid hp fun _ z => by cases z) ⟨p, _, rfl, upd_same, h4.mono s1⟩
/-- list(xs), owned -/
theorem va_listO {ds : List D} (k : ∀ a, w a = none → κ (R a) (wu w a (.lst ds))) : VRA K T (rListOf K) [.lst ds] w κ := fun F S H xs Q hW r hK => by
  obtain ⟨y, ys, rfl, h1, h2⟩ := r
  obtain ⟨a, zs, rfl, h3, h4⟩ := h1
  have h2' : ys = [] := h2
  subst h2'
  refine ⟨a, zs, rfl, .inl (SqL.of (hW.same _ _ h3)), fun p hp => ?_⟩
  exact hK _ _ _ _ _ (k p (hW.free hp).2.1) (Same.refl _) (hW.take hp ⟨zs, rfl, h4⟩) rfl
abbrev rTupleOf (K : PySem.W.Frag) : List V → Hp → VK → Prop := fun xs H Q => ∃ p ys, xs = [.ref p] ∧ ((SqL K H p ys ∧ ∀ l, H l = none → Q (.ref l) (upd H l (.tup ys))) ∨ (SqT K H p ys ∧ Q (.ref p) H))
theorem va_tuple {ds : List D} (k : κ (.tup ds) w) : VRA K T (rTupleOf K) [.lst ds] w κ := fun F S H xs Q hW r hK => by
  obtain ⟨y, ys, rfl, h1, h2⟩ := r
  obtain ⟨a, zs, rfl, h3, h4⟩ := h1
  have h2' : ys = [] := h2
  subst h2'
  refine ⟨a, zs, rfl, .inl ⟨SqL.of (hW.same _ _ h3), fun p hp => ?_⟩⟩
  have s1 : Same S (upd S p (.tup zs)) := same_upd (hW.free hp).1
  exact hK _ w _ _ _ k s1 (hW.laid hp fun _ z => by cases z) ⟨p, _, rfl, upd_same, h4.mono s1⟩
/-! ### methods of lists -/
theorem vm_append {a : Addr} {ds : List D} {d : D} (hw : w a = some (.lst ds)) (hz : ds.length < sizeLine) (k : κ N (wu w a (.lst (ds ++ [d])))) : VRM K T rAppend (R a) [d] w κ := fun F S H x xs Q hW r1 r2 hK => by
  obtain ⟨_, _, o, h1, h2⟩ := hW.own a _ hw
  obtain ⟨zs, rfl, h2⟩ := h2
  obtain ⟨y, ys, rfl, h3, h4⟩ := r2
  have h4' : ys = [] := h4
  subst h4'
  refine ⟨a, zs, y, r1, rfl, h1, by rw [h2.length]; exact hz, ?_⟩
  exact hK _ _ _ S _ k (Same.refl _) (hW.put hw ⟨_, rfl, h2.app (RepL.one h3)⟩) rfl
theorem vm_pop0 {a : Addr} {d : D} {ds : List D} (hw : w a = some (.lst (d :: ds))) (k : κ d (wu w a (.lst ds))) : VRM K T rPopAt (R a) [I 0] w κ := fun F S H x xs Q hW r1 r2 hK => by
  obtain ⟨_, _, o, h1, h2⟩ := hW.own a _ hw
  obtain ⟨zs, rfl, h2⟩ := h2
  obtain ⟨y, ys, rfl, h3, h4⟩ := r2
  have h4' : ys = [] := h4
  have h3' : y = .int 0 := h3
  subst h4' h3'
  obtain ⟨v, vs, rfl, h5, h6⟩ := h2
  refine ⟨a, v :: vs, 0, 0, v, r1, rfl, h1, by omega, by omega, ?_, rfl, ?_⟩
  · unfold seqIndex?
    simp
  · exact hK _ _ _ S _ k (Same.refl _) (hW.put hw ⟨_, rfl, h6⟩) h5
theorem vm_pop {a : Addr} {d : D} {ds : List D} (hw : w a = some (.lst ds)) (hd : ds[ds.length - 1]? = some d) (k : κ d (wu w a (.lst ds.dropLast))) : VRM K T rPop (R a) [] w κ := fun F S H x xs Q hW r1 r2 hK => by
  obtain ⟨_, _, o, h1, h2⟩ := hW.own a _ hw
  obtain ⟨zs, rfl, h2⟩ := h2
  have r2' : xs = [] := r2
  subst r2'
  obtain ⟨v, h5, h6⟩ := h2.get hd
  rw [← h2.length] at h5
  exact ⟨a, zs, v, r1, rfl, h1, h5, hK _ _ _ S _ k (Same.refl _) (hW.put hw ⟨_, rfl, h2.dropLast⟩) h6⟩
theorem vm_reverse {a : Addr} {ds : List D} (hw : w a = some (.lst ds)) (k : κ N (wu w a (.lst ds.reverse))) : VRM K T rReverse (R a) [] w κ := fun F S H x xs Q hW r1 r2 hK => by
  obtain ⟨_, _, o, h1, h2⟩ := hW.own a _ hw
  obtain ⟨zs, rfl, h2⟩ := h2
  have r2' : xs = [] := r2
  subst r2'
  exact ⟨a, zs, r1, rfl, h1, hK _ _ _ S _ k (Same.refl _) (hW.put hw ⟨_, rfl, h2.rev⟩) rfl⟩
theorem vm_clear {a : Addr} {ds : List D} (hw : w a = some (.lst ds)) (k : κ N (wu w a (.lst []))) : VRM K T rClear (R a) [] w κ := fun F S H x xs Q hW r1 r2 hK => by
  obtain ⟨_, _, o, h1, h2⟩ := hW.own a _ hw
  obtain ⟨zs, rfl, h2⟩ := h2
  have r2' : xs = [] := r2
  subst r2'
  exact ⟨a, zs, r1, rfl, h1, hK _ _ _ S _ k (Same.refl _) (hW.put hw ⟨_, rfl, rfl⟩) rfl⟩
end
end DL

set_option Elab.async false
set_option linter.all false
set_option maxRecDepth 100000
set_option maxHeartbeats 1000000
/-! Loops, comprehensions, calls, fields, defs. -/
namespace DL
open PySem PySem.Spec PyProof.Rows L2 LamX
/-! ### iteration -/
section
variable (X : Cx) (T : List (Addr × Str)) (W : WX) (χ : XD)
def IterD (tg iter : Expr) (δ : Dn) (w : Wp) (κ : List D → Wp → Prop) : Prop :=
  ∃ wi, PI X tg iter wi ∧ ∀ (F : Hp) (σ : L2.St) (S H : Hp) (R : It → Hp → Prop), EnvD X.K S δ σ → World X.K T S w F H → ExD X.K T W χ σ S F →
    (∀ (ds : List D) (w1 : Wp) (S1 H1 : Hp) (J : It) (G : Hp → Prop) (Y : Nat → Hp → V → Hp → Prop), κ ds w1 → Same S S1 → World X.K T S1 w1 F H1 → Walk J ds.length G Y →
      (∀ S2 w2 F2 H2, Same S1 S2 → World X.K T S2 w2 F2 H2 → G H2) →
      (∀ (i : Nat) (d : D) S2 w2 F2 H2 x H3, ds[i]? = some d → Same S1 S2 → World X.K T S2 w2 F2 H2 → Y i H2 x H3 → ∃ S3, Same S2 S3 ∧ World X.K T S3 w2 F2 H3 ∧ Rep X.K S3 d x) → R J H1) → wi σ H R
end
section
variable {X : Cx} {T : List (Addr × Str)} {W : WX} {χ : XD} {δ : Dn} {w : Wp} {pos : Pos}
theorem it_list {tg e : Expr} {κ : List D → Wp → Prop} (h : PD X T W χ e δ w fun d w1 => ∃ ds, d = .lst ds ∧ κ ds w1) : IterD X T W χ tg e δ w κ :=
  ⟨_, pi_list (pe_wp e), fun F σ S H R hE hW hX hK => by
    refine h F σ S H _ hE hW hX fun d w1 v S1 H1 k s1 W1 r => ?_
    obtain ⟨ds, rfl, k⟩ := k
    obtain ⟨a, xs, rfl, h1, h2⟩ := r
    refine ⟨a, rfl, ⟨xs, SqL.of (W1.same _ _ h1)⟩, ?_⟩
    have ww := walk_list (K := X.K) (a := a) (xs := xs)
    rw [h2.length] at ww
    refine hK ds w1 S1 H1 _ _ _ k s1 W1 ww (fun S2 w2 F2 H2 s2 W2 => SqL.of (W2.same _ _ (s2 _ _ h1))) fun i d S2 w2 F2 H2 x H3 hd s2 W2 y => ?_
    obtain ⟨rfl, hx⟩ := y
    obtain ⟨v, h3, h4⟩ := h2.get hd
    rw [hx] at h3
    cases h3
    exact ⟨S2, Same.refl _, W2, h4.mono s2⟩⟩
theorem it_rd {tg e : Expr} {κ : List D → Wp → Prop} (h : PD X T W χ e δ w fun d w1 => ∃ ds, d = .rd ds ∧ κ ds w1) : IterD X T W χ tg e δ w κ :=
  ⟨_, pi_list (pe_wp e), fun F σ S H R hE hW hX hK => by
    refine h F σ S H _ hE hW hX fun d w1 v S1 H1 k s1 W1 r => ?_
    obtain ⟨ds, rfl, k⟩ := k
    obtain ⟨a, xs, rfl, h1, h2⟩ := r
    refine ⟨a, rfl, ⟨xs, W1.same.seq h1⟩, ?_⟩
    have ww := walk_list (K := X.K) (a := a) (xs := xs)
    rw [h2.length] at ww
    refine hK ds w1 S1 H1 _ _ _ k s1 W1 ww (fun S2 w2 F2 H2 s2 W2 => W2.same.seq (s2.seq h1)) fun i d S2 w2 F2 H2 x H3 hd s2 W2 y => ?_
    obtain ⟨rfl, hx⟩ := y
    obtain ⟨v, h3, h4⟩ := h2.get hd
    rw [hx] at h3
    cases h3
    exact ⟨S2, Same.refl _, W2, h4.mono s2⟩⟩
theorem it_tup {tg e : Expr} {κ : List D → Wp → Prop} (h : PD X T W χ e δ w fun d w1 => ∃ ds, d = .tup ds ∧ κ ds w1) : IterD X T W χ tg e δ w κ :=
  ⟨_, pi_tup (pe_wp e), fun F σ S H R hE hW hX hK => by
    refine h F σ S H _ hE hW hX fun d w1 v S1 H1 k s1 W1 r => ?_
    obtain ⟨ds, rfl, k⟩ := k
    obtain ⟨a, xs, rfl, h1, h2⟩ := r
    refine ⟨a, rfl, ⟨xs, SqT.of (W1.same _ _ h1)⟩, ?_⟩
    have ww := walk_tup (K := X.K) (a := a) (xs := xs)
    rw [h2.length] at ww
    refine hK ds w1 S1 H1 _ _ _ k s1 W1 ww (fun S2 w2 F2 H2 s2 W2 => SqT.of (W2.same _ _ (s2 _ _ h1))) fun i d S2 w2 F2 H2 x H3 hd s2 W2 y => ?_
    obtain ⟨rfl, hx⟩ := y
    obtain ⟨v, h3, h4⟩ := h2.get hd
    rw [hx] at h3
    cases h3
    exact ⟨S2, Same.refl _, W2, h4.mono s2⟩⟩
def ups (n : Nat) : List D := (List.range n).map fun (k : Nat) => I (k : Int)
theorem ups_len (n : Nat) : (ups n).length = n := by unfold ups; rw [List.length_map, List.length_range]
theorem ups_at {n i : Nat} {d : D} (h : (ups n)[i]? = some d) : i < n ∧ d = I (i : Int) := by
  unfold ups at h
  rw [List.getElem?_map] at h
  by_cases hi : i < n
  · rw [List.getElem?_range hi] at h
    exact ⟨hi, (Option.some.inj h).symm⟩
  · rw [List.getElem?_eq_none (by simpa using hi)] at h
    cases h
/-- range(n), n known not to be below 0 -/
theorem it_range {tg e : Expr} {p : Pos} {κ : List D → Wp → Prop} (hm : X.mg "range" = none) (h : PD X T W χ e δ w fun d w1 => ∃ n : Nat, d = I (n : Int) ∧ (n : Int) < 2 ^ 62 ∧ κ (ups n) w1)
    (hg : Gl X "range" := by rfl) (he : starEach [e] X.env = [(false, eval e X.env)] := by rfl) : IterD X T W χ tg (.Call (.Name "range" p) [e] [] pos) δ w κ :=
  ⟨_, pi_range1 hg hm (pa_wp [e]) he, fun F σ S H R hE hW hX hK => by
    have ha : PAD X T W χ [e] δ w fun ds w1 => ∃ n : Nat, ds = [I (n : Int)] ∧ (n : Int) < 2 ^ 62 ∧ κ (ups n) w1 := pad_cons (h.imp fun d w1 ⟨n, e1, h1, k⟩ => pad_nil ⟨n, by rw [e1], h1, k⟩) he
    refine ha F σ S H _ hE hW hX fun ds w1 vs S1 H1 k s1 W1 r => ?_
    obtain ⟨n, rfl, hn, k⟩ := k
    obtain ⟨y, ys, rfl, h1, h2⟩ := r
    have h1' : y = .int n := h1
    have h2' : ys = [] := h2
    subst h1' h2'
    refine ⟨n, rfl, by omega, by omega, ?_⟩
    have ww := walk_range (lo := 0) (n := n)
    have en : ((n : Int)).toNat = n := Int.toNat_natCast n
    rw [en]
    refine hK (ups n) w1 S1 H1 _ (fun _ => True) (YFn fun i => .int (0 + i)) k s1 W1 (by rw [ups_len]; exact ww) (fun S2 w2 F2 H2 s2 W2 => True.intro) fun i d S2 w2 F2 H2 x H3 hd s2 W2 y => ?_
    obtain ⟨rfl, hx⟩ := y
    obtain ⟨_, rfl⟩ := ups_at hd
    refine ⟨S2, Same.refl _, W2, ?_⟩
    show x = .int (i : Int)
    rw [hx]
    show V.int (0 + (i : Int)) = _
    rw [Int.zero_add]⟩
def pairs (ds : List D) : List D := (List.range ds.length).zipWith (fun (k : Nat) d => .tup [I (k : Int), d]) ds
theorem pairs_len (ds : List D) : (pairs ds).length = ds.length := by unfold pairs; rw [List.length_zipWith, List.length_range, Nat.min_self]
theorem pairs_at {ds : List D} {i : Nat} {d : D} (h : (pairs ds)[i]? = some d) : ∃ e, ds[i]? = some e ∧ d = .tup [I (i : Int), e] := by
  have hi : i < ds.length := by
    have := (List.getElem?_eq_some_iff.mp h).1
    rwa [pairs_len] at this
  refine ⟨ds[i], List.getElem?_eq_getElem hi, ?_⟩
  unfold pairs at h
  rw [List.getElem?_zipWith, List.getElem?_range hi, List.getElem?_eq_getElem hi] at h
  exact (Option.some.inj h).symm
/-- enumerate(xs) -/
theorem it_enum {elts : List Expr} {kk : Nat} {tpos : Pos} {e : Expr} {p : Pos} {κ : List D → Wp → Prop} (hm : X.mg "enumerate" = none) (h : PD X T W χ e δ w fun d w1 => ∃ ds, d = .lst ds ∧ κ (pairs ds) w1)
    (hg : Gl X "enumerate" := by rfl) (he : starEach [e] X.env = [(false, eval e X.env)] := by rfl) : IterD X T W χ (.Tuple elts kk tpos) (.Call (.Name "enumerate" p) [e] [] pos) δ w κ :=
  ⟨_, pi_enum hg hm (pa_wp [e]) he, fun F σ S H R hE hW hX hK => by
    have ha : PAD X T W χ [e] δ w fun ds w1 => ∃ es, ds = [.lst es] ∧ κ (pairs es) w1 := pad_cons (h.imp fun d w1 ⟨es, e1, k⟩ => pad_nil ⟨es, by rw [e1], k⟩) he
    refine ha F σ S H _ hE hW hX fun ds w1 vs S1 H1 k s1 W1 r => ?_
    obtain ⟨es, rfl, k⟩ := k
    obtain ⟨y, ys, rfl, h1, h2⟩ := r
    obtain ⟨a, xs, rfl, h3, h4⟩ := h1
    have h2' : ys = [] := h2
    subst h2'
    refine ⟨a, xs, rfl, SqL.of (W1.same _ _ h3), ?_⟩
    have ww := walk_enum (K := X.K) (a := a) (xs := xs)
    rw [h4.length] at ww
    refine hK (pairs es) w1 S1 H1 _ _ _ k s1 W1 (by rw [pairs_len]; exact ww) (fun S2 w2 F2 H2 s2 W2 => SqL.of (W2.same _ _ (s2 _ _ h3))) fun i d S2 w2 F2 H2 x H3 hd s2 W2 y => ?_
    obtain ⟨t, x1, x2, rfl, nt, rfl, f1, f2⟩ := y
    obtain ⟨e, he, rfl⟩ := pairs_at hd
    obtain ⟨v, h5, h6⟩ := h4.get he
    have f2' : xs[i]? = some x2 := f2
    rw [h5] at f2'
    cases f2'
    cases f1
    have s3 : Same S2 (upd S2 t (.tup [.int (i : Int), x2])) := same_upd (W2.free nt).1
    exact ⟨_, s3, W2.laid nt fun _ z => (by cases z), t, _, rfl, upd_same, V.int i, [x2], rfl, rfl, x2, [], rfl, (h6.mono s2).mono s3, rfl⟩⟩
/-! ### for -/
theorem psd_for {tg iter : Expr} {body : List Stmt} {C : Fin} (hp : PassesOwn (model X.prog X.w) X.A X.env X.xe) (hc : X.calm = true)
    (h : IterD X T W χ tg iter δ w (fun ds w1 => ∃ Pv : Nat → Dn → Wp → Prop, Pv 0 δ w1 ∧
      (∀ (i : Nat) (d : D) δ' w', ds[i]? = some d → Pv i δ' w' → PGD X T tg d δ' w' fun δ2 w2 => PSsD X T W χ body δ2 w2 { nx := Pv (i + 1), rt := C.rt, bk := C.nx, ct := Pv (i + 1) }) ∧
      ∀ δ' w', Pv ds.length δ' w' → C.nx δ' w'))
    (hs : ∀ x, foldedSetIterable iter X.env x = pure x := by intro _; rfl) : PSD X T W χ (.For tg iter body [] pos) δ w C := fun F σ S H E hE hW hX hK => by
  obtain ⟨wi, hi, h⟩ := h
  refine wp_ps (ps_for hp hc hi (pg_wp tg) (pss_wp body) hs) ?_
  refine h F σ S H _ hE hW (hX σ) fun ds w1 S1 H1 J G Y k s1 W1 ww hG hY => ?_
  obtain ⟨Pv, p0, turn, done⟩ := k
  refine for_it ww (D := E) (fun i σ' H' => ∃ δ' w' S', Pv i δ' w' ∧ Same S1 S' ∧ EnvD X.K S' δ' σ' ∧ World X.K T S' w' F H') ⟨δ, w1, S1, p0, Same.refl _, hE.mono s1, W1⟩ (fun i σ' H' _ ⟨δ', w', S', _, s2, _, W2⟩ => hG S' w' F H' s2 W2) ?_ ?_
  · rintro i x σ' H' H3 hi ⟨δ', w', S', pv, s2, hE2, W2⟩ y
    obtain ⟨S3, s3, W3, r⟩ := hY i ds[i] S' w' F H' x H3 (List.getElem?_eq_getElem hi) s2 W2 y
    refine turn i ds[i] δ' w' (List.getElem?_eq_getElem hi) pv F x σ' S3 H3 _ r (hE2.mono s3) W3 fun δ2 w2 σ2 S4 H4 k s4 hE4 W4 => ?_
    have ss := s1.trans (s2.trans (s3.trans s4))
    refine k F σ2 S4 H4 _ hE4 W4 (hX.mono ss) ⟨fun δ5 w5 σ5 S5 H5 k5 s5 hE5 W5 => ⟨δ5, w5, S5, k5, s2.trans (s3.trans (s4.trans s5)), hE5, W5⟩, hK.rt.mono ss, hK.nx.mono ss, fun δ5 w5 σ5 S5 H5 k5 s5 hE5 W5 => ⟨δ5, w5, S5, k5, s2.trans (s3.trans (s4.trans s5)), hE5, W5⟩⟩
  · rintro σ' H' ⟨δ', w', S', pv, s2, hE2, W2⟩
    exact hK.nx δ' w' σ' S' H' (done δ' w' pv) (s1.trans s2) hE2 W2
/-! ### targets that touch only some slots -/
def PGL (X : Cx) (T : List (Addr × Str)) (is : List Nat) (tg : Expr) (d : D) (δ : Dn) (w : Wp) (κ : Dn → Wp → Prop) : Prop :=
  ∀ (F : Hp) (v : V) (σ : L2.St) (S H : Hp) (Q : L2.St → Hp → Prop), Rep X.K S d v → EnvD X.K S δ σ → World X.K T S w F H →
    (∀ δ' w' σ' S' H', κ δ' w' → Same S S' → EnvD X.K S' δ' σ' → World X.K T S' w' F H' → (∀ j, j ∉ is → σ'[j]? = σ[j]?) → σ'.length = σ.length → Q σ' H') → wpG X tg v σ H Q
theorem PGL.pgd {is : List Nat} {tg : Expr} {d : D} {κ : Dn → Wp → Prop} (h : PGL X T is tg d δ w κ) : PGD X T tg d δ w κ := fun F v σ S H Q r hE hW hK => h F v σ S H Q r hE hW fun δ' w' σ' S' H' k s e W _ _ => hK δ' w' σ' S' H' k s e W
theorem pgl_name {i : Nat} {x : Str} {d : D} {κ : Dn → Wp → Prop} (hN : X.N.Nodup) (hi : X.N[i]? = some x) (k : κ (δ.set i (some d)) w) (hx : Loc X.env.scope x := by first | exact .inl rfl | exact .inr rfl)
    (hf : X.fn x = true ∨ X.env.scope.names.lookup x = some .local := by first | exact .inl rfl | exact .inr rfl) : PGL X T [i] (.Name x pos) d δ w κ := fun F v σ S H Q r hE hW hK => wp_pg (pg_name hN hi hx hf) (hK _ w _ S H k (Same.refl _) (hE.set i r) hW (fun j hj => by
  rw [List.getElem?_set_ne (fun z => hj (by rw [z]; exact List.mem_singleton.mpr rfl))]) (by rw [List.length_set]))
theorem pgl_two {i j : Nat} {a b : Expr} {k0 : Nat} {d e : D} {κ : Dn → Wp → Prop} (hc : X.calm = true) (h : PGL X T [i] a d δ w fun δ1 w1 => PGL X T [j] b e δ1 w1 κ)
    (hs1 : (assignEach [a, b] X.env).map (·.2) = assign a X.env :: (assignEach [b] X.env).map (·.2) := by rfl) (hs2 : (assignEach [b] X.env).map (·.2) = assign b X.env :: (assignEach [] X.env).map (·.2) := by rfl)
    (hn : (assignEach [a, b] X.env).length = 2 := by rfl) (hst : (assignEach [a, b] X.env).findIdx? (·.1) = none := by rfl) : PGL X T [i, j] (.Tuple [a, b] k0 pos) (.tup [d, e]) δ w κ := fun F v σ S H Q r hE hW hK => by
  refine wp_pg (pg_tup hc (pgs_cons (pg_wp a) (pgs_cons (pg_wp b) pgs_nil hs2) hs1) hn hst) ?_
  obtain ⟨t, xs, rfl, h1, y, ys, rfl, h2, z, zs, rfl, h3, h4⟩ := r
  have h4' : zs = [] := h4
  subst h4'
  refine ⟨t, [y, z], rfl, SqT.of (hW.same _ _ h1), rfl, y, [z], rfl, ?_⟩
  refine h F y σ S H _ h2 hE hW fun δ1 w1 σ1 S1 H1 k1 s1 hE1 W1 o1 l1 => ?_
  refine ⟨z, [], rfl, ?_⟩
  refine k1 F z σ1 S1 H1 _ (h3.mono s1) hE1 W1 fun δ2 w2 σ2 S2 H2 k2 s2 hE2 W2 o2 l2 => ⟨rfl, ?_⟩
  exact hK δ2 w2 σ2 S2 H2 k2 (s1.trans s2) hE2 W2 (fun n hn => by
    rw [o2 n (fun z => hn (by simp at z; simp [z])), o1 n (fun z => hn (by simp at z; simp [z]))]) (l2.trans l1)
theorem wipe_eq {σ1 σ2 : L2.St} {vs : List Nat} (hl : σ2.length = σ1.length) (h : ∀ j, j ∉ vs → σ2[j]? = σ1[j]?) : L2.wipe σ2 vs = L2.wipe σ1 vs := by
  refine List.ext_getElem? fun j => ?_
  have key : ∀ (σ : L2.St) (vs : List Nat), (L2.wipe σ vs)[j]? = if j ∈ vs then (if j < σ.length then some none else none) else σ[j]? := by
    intro σ vs
    induction vs with
    | nil => rfl
    | cons v vs ih =>
      show ((L2.wipe σ vs).set v none)[j]? = _
      by_cases e : v = j
      · subst e
        rw [if_pos (List.mem_cons_self ..)]
        by_cases hj : v < σ.length
        · rw [if_pos hj, List.getElem?_set_self (by rw [L2.wipe_length]; exact hj)]
        · rw [if_neg hj, List.getElem?_eq_none (by rw [List.length_set, L2.wipe_length]; omega)]
      · rw [List.getElem?_set_ne e, ih]
        by_cases hm : j ∈ vs
        · rw [if_pos hm, if_pos (List.mem_cons_of_mem _ hm)]
        · rw [if_neg hm, if_neg (fun z => by cases z with | head => exact e rfl | tail _ z => exact hm z)]
  rw [key, key]
  by_cases hm : j ∈ vs
  · rw [if_pos hm, if_pos hm, hl]
  · rw [if_neg hm, if_neg hm, h j hm]
/-! ### comprehensions -/
/-- the list that a comprehension made: it stands, or is owned -/
theorem fin_stay {K : PySem.W.Frag} {κ : D → Wp → Prop} {S F : Hp} {Q : VK} (hK : KD K T κ S F Q) : ∀ (L : Addr) (acc : List D) w' S' xs H', κ (.lst acc) w' → Same S S' → F L = none → World K T S' w' (upd F L (.lst xs)) H' → RepL K S' acc xs → Q (.ref L) H' := fun L acc w' S' xs H' k s1 fL W2 ra => by
  obtain ⟨e1, W3⟩ := W2.freezeF fL fun _ z => by cases z
  have s3 : Same S' (upd S' L (.lst xs)) := same_upd e1
  exact hK _ w' _ _ H' k (s1.trans s3) W3 ⟨L, xs, rfl, upd_same, ra.mono s3⟩
theorem World.moveF {K : PySem.W.Frag} {S F0 H : Hp} {w : Wp} {a : Addr} {o : HO} {h : HD} (W : World K T S w (upd F0 a o) H) (e : F0 a = none) (r : RepH K S h o) : w a = none ∧ World K T S (wu w a h) F0 H := by
  obtain ⟨e1, e2⟩ := W.frm a o upd_same
  have ew : w a = none := by
    cases q : w a with
    | none => rfl
    | some k =>
      have q2 := (W.own a k q).2.1
      rw [upd_same] at q2
      cases q2
  refine ⟨ew, W.same, W.notbl, fun b k q => ?_, fun b x q => ?_, W.tabs, fun b ps z => W.nf b ps (by rw [upd_ne (fun q => by rw [q, e] at z; cases z)]; exact z)⟩
  · by_cases hb : b = a
    · subst hb
      rw [wu_same] at q
      cases q
      exact ⟨e1, e, o, e2, r⟩
    · rw [wu_ne hb] at q
      obtain ⟨q1, q2, x, q3, q4⟩ := W.own b k q
      rw [upd_ne hb] at q2
      exact ⟨q1, q2, x, q3, q4⟩
  · have hb : b ≠ a := fun z => by
      rw [z, e] at q
      cases q
    exact W.frm b x (by rw [upd_ne hb]; exact q)
theorem fin_own {K : PySem.W.Frag} {κ : D → Wp → Prop} {S F : Hp} {Q : VK} (hK : KD K T κ S F Q) : ∀ (L : Addr) (acc : List D) w' S' xs H', (∀ a, w' a = none → κ (R a) (wu w' a (.lst acc))) → Same S S' → F L = none → World K T S' w' (upd F L (.lst xs)) H' → RepL K S' acc xs → Q (.ref L) H' := fun L acc w' S' xs H' k s1 fL W2 ra => by
  obtain ⟨e1, W3⟩ := W2.moveF fL (h := .lst acc) ⟨xs, rfl, ra⟩
  exact hK _ _ _ S' H' (k L e1) s1 W3 rfl
def PTsD (X : Cx) (T : List (Addr × Str)) (ifs : List Expr) (δ : Dn) (w : Wp) (κ : Bool → Wp → Prop) : Prop :=
  ∀ (F : Hp) (σ : L2.St) (S H : Hp) (Q : Bool → Hp → Prop), EnvD X.K S δ σ → World X.K T S w F H → KB X.K T κ S F Q → wpTs X ifs σ H Q
abbrev Wf : WX := fun _ _ _ _ => False
theorem ptsd_nil {κ : Bool → Wp → Prop} (k : κ true w) : PTsD X T [] δ w κ := fun F σ S H Q hE hW hK pins s I => (pts_nil).run pins s σ H Q I (hK true w S H k (Same.refl _) hW)
theorem exf {K : PySem.W.Frag} {σ : L2.St} {S F : Hp} {W : WX} : ExD K T W noX σ S F := fun _ _ _ _ _ _ _ z => z.elim
theorem exsf {S F : Hp} {W : WX} : ExS X T W noX S F := fun _ => exf
theorem ptsd_one {c : Expr} {κ : Bool → Wp → Prop} (h : PTD X T Wf noX c δ w κ) : PTsD X T [c] δ w κ := fun F σ S H Q hE hW hK pins s I => (pts_one (pt_wp c)).run pins s σ H Q I (h F σ S H Q hE hW exf hK)
abbrev bx (X : Cx) (s : Shared) (H : Hp) (scope : Scope) (cl : List (Str × Addr)) (C : Addr) (fp : List Addr) : Cx := X.blk s H scope (compEnvC scope cl C X.env) fp
/-- what a comprehension asks -/
def LcD (X : Cx) (T : List (Addr × Str)) (is : List Nat) (tg : Expr) (ifs : List Expr) (elt : Expr) (scope : Scope) (vs : List Nat) (δ : Dn) (κ : List D → Wp → Prop) (ds : List D) (w1 : Wp) : Prop :=
  ds.length < sizeLine ∧ ∃ Pv : Nat → List D → Wp → Prop, Pv 0 [] w1 ∧
    (∀ (i : Nat) (d : D) acc w', ds[i]? = some d → Pv i acc w' → ∀ s H0 C cl fp, PGL (bx X s H0 scope cl C fp) T is tg d (wipeD δ vs) w' fun δ2 w2 => ∀ s H0 C cl fp, PTsD (bx X s H0 scope cl C fp) T ifs δ2 w2 fun b w3 =>
      if b = true then ∀ s H0 C cl fp, PD (bx X s H0 scope cl C fp) T Wf noX elt δ2 w3 fun y w4 => Pv (i + 1) (acc ++ [y]) w4 else Pv (i + 1) acc w3) ∧
    ∀ acc w', Pv ds.length acc w' → κ acc w'
abbrev lcG (X : Cx) (scope : Scope) (tg : Expr) : TG := fun v σ' H' Q' => ∀ s H0 C cl fp, wpG (bx X s H0 scope cl C fp) tg v σ' H' Q'
abbrev lcT (X : Cx) (scope : Scope) (ifs : List Expr) : TT := fun σ' H' Q' => ∀ s H0 C cl fp, wpTs (bx X s H0 scope cl C fp) ifs σ' H' Q'
abbrev lcE (X : Cx) (scope : Scope) (elt : Expr) : TE := fun σ' H' Q' => ∀ s H0 C cl fp, wpE (bx X s H0 scope cl C fp) elt σ' H' Q'
theorem lc_read {tg elt : Expr} {ifs : List Expr} {scope : Scope} {vs is : List Nat} {κ : List D → Wp → Prop} {wi : TI} {F : Hp} {σ : L2.St} {S H : Hp} {Q : VK} (hsub : ∀ i ∈ is, i ∈ vs) (hE : EnvD X.K S δ σ) (hW : World X.K T S w F H)
    (h : ∀ (R : It → Hp → Prop), (∀ (ds : List D) (w1 : Wp) (S1 H1 : Hp) (J : It) (G : Hp → Prop) (Y : Nat → Hp → V → Hp → Prop), LcD X T is tg ifs elt scope vs δ κ ds w1 → Same S S1 → World X.K T S1 w1 F H1 → Walk J ds.length G Y →
      (∀ S2 w2 F2 H2, Same S1 S2 → World X.K T S2 w2 F2 H2 → G H2) →
      (∀ (i : Nat) (d : D) S2 w2 F2 H2 x H3, ds[i]? = some d → Same S1 S2 → World X.K T S2 w2 F2 H2 → Y i H2 x H3 → ∃ S3, Same S2 S3 ∧ World X.K T S3 w2 F2 H3 ∧ Rep X.K S3 d x) → R J H1) → wi σ H R)
    (hK : ∀ (L : Addr) acc w' S' xs H', κ acc w' → Same S S' → F L = none → World X.K T S' w' (upd F L (.lst xs)) H' → RepL X.K S' acc xs → Q (.ref L) H') :
    tLc wi (lcG X scope tg) (lcT X scope ifs) (lcE X scope elt) vs σ H Q := by
  refine h _ fun ds w1 S1 H1 J G Y k s1 W1 ww hG hY L nL => ?_
  obtain ⟨hz, Pv, p0, turn, done⟩ := k
  have fL : F L = none := (W1.free nL).2.2
  refine lc_it ww (g := lcG X scope tg) (tt := lcT X scope ifs) (te := lcE X scope elt) (vs := vs) (σ := σ) (H1 := H1) (D := L) (Qd := fun H => Q (.ref L) H) (fun i H' => ∃ acc w' S' xs, Pv i acc w' ∧ acc.length ≤ i ∧ Same S1 S' ∧ World X.K T S' w' (upd F L (.lst xs)) H' ∧ RepL X.K S' acc xs) ?_ (fun i H' _ ⟨acc, w', S', xs, _, _, s2, W2, _⟩ => hG S' w' _ H' s2 W2) ?_ ?_
  · exact ⟨[], w1, S1, [], p0, Nat.le_refl _, Same.refl _, W1.takeF nL (fun _ z => by cases z), rfl⟩
  · rintro i x H' H3 hi ⟨acc, w', S', xs, pv, hacc, s2, W2, ra⟩ y
    obtain ⟨S3, s3, W3, r⟩ := hY i ds[i] S' w' _ H' x H3 (List.getElem?_eq_getElem hi) s2 W2 y
    intro s H0 C cl fp
    refine turn i ds[i] acc w' (List.getElem?_eq_getElem hi) pv s H0 C cl fp (upd F L (.lst xs)) x (L2.wipe σ vs) S3 H3 _ r ((hE.mono (s1.trans (s2.trans s3))).wipe vs) W3 fun δ2 w2 σ2 S4 H4 k s4 hE4 W4 o4 l4 => ?_
    refine ⟨?_, ?_⟩
    · rw [wipe_eq (σ1 := L2.wipe σ vs) (σ2 := σ2) l4 fun j hj => o4 j fun z => hj (hsub j z)]
      exact wipe_eq (L2.wipe_length σ vs) fun j hj => L2.wipe_out hj
    · intro s H0 C cl fp
      refine k s H0 C cl fp (upd F L (.lst xs)) σ2 S4 H4 _ hE4 W4 fun b w5 S5 H5 k5 s5 W5 => ?_
      cases b with
      | false =>
        rw [if_neg Bool.false_ne_true] at k5 ⊢
        exact ⟨acc, w5, S5, xs, k5, Nat.le_succ_of_le hacc, s2.trans (s3.trans (s4.trans s5)), W5, ra.mono (s3.trans (s4.trans s5))⟩
      | true =>
        rw [if_pos rfl] at k5 ⊢
        intro s H0 C cl fp
        refine k5 s H0 C cl fp (upd F L (.lst xs)) σ2 S5 H5 _ (hE4.mono s5) W5 exf fun d6 w6 v6 S6 H6 k6 s6 W6 r6 => ?_
        have ra6 := ra.mono (s3.trans (s4.trans (s5.trans s6)))
        refine ⟨xs, (W6.frm L _ upd_same).2, by rw [ra6.length]; omega, acc ++ [d6], w6, S6, xs ++ [v6], k6, ?_, s2.trans (s3.trans (s4.trans (s5.trans s6))), ?_, ra6.app (RepL.one r6)⟩
        · rw [List.length_append]
          show acc.length + 1 ≤ i + 1
          omega
        · have W7 := W6.putF (o := .lst (xs ++ [v6])) upd_same (fun _ z => by cases z) (fun _ z => by cases z) (fun _ z => by cases z)
          rw [upd_upd] at W7
          exact W7
  · rintro H' ⟨acc, w', S', xs, pv, hacc, s2, W2, ra⟩
    exact hK L acc w' S' xs H' (done acc w' pv) (s1.trans s2) fL W2 ra
end
end DL

set_option Elab.async false
set_option linter.all false
set_option maxRecDepth 100000
set_option maxHeartbeats 1000000
/-! Comprehensions as expressions and stored; calls of own defs, methods, classes; fields; the rule for a def. -/
namespace DL
open PySem PySem.Spec PyProof.Rows L2 LamX
section
variable {X : Cx} {T : List (Addr × Str)} {W : WX} {χ : XD} {δ : Dn} {w : Wp} {pos : Pos}
theorem pg_bx {scope : Scope} {tg : Expr} (s : Shared) (H : Hp) (C : Addr) (cl : List (Str × Addr)) (fp : List Addr) : PG (X.blk s H scope (compEnvC scope cl C X.env) fp) tg (lcG X scope tg) := ⟨fun pins s1 σ H1 v u Q I r h => h s H C cl fp pins s1 u I r⟩
theorem pt_bx {scope : Scope} {ifs : List Expr} (s : Shared) (H : Hp) (C : Addr) (cl : List (Str × Addr)) (fp : List Addr) : PTs (X.blk s H scope (compEnvC scope cl C X.env) fp) ifs (lcT X scope ifs) := ⟨fun pins s1 σ H1 Q I h => h s H C cl fp pins s1 I⟩
theorem pe_bx {scope : Scope} {e : Expr} (s : Shared) (H : Hp) (C : Addr) (cl : List (Str × Addr)) (fp : List Addr) : PE (X.blk s H scope (compEnvC scope cl C X.env) fp) e (lcE X scope e) := ⟨fun pins s1 σ H1 Q I h => h s H C cl fp pins s1 I⟩
theorem pd_lc {elt tg iter : Expr} {ifs : List Expr} {scope : Scope} (own : List (Str × Nat)) (is : List Nat) {κ : D → Wp → Prop} (hc : X.calm = true) (hN : X.N.Nodup) (ok : BlkOk X.N X.env.scope scope own) (hsub : ∀ i ∈ is, i ∈ own.map (·.2))
    (h : IterD X T W χ tg iter δ w (LcD X T is tg ifs elt scope (own.map (·.2)) δ (fun acc w' => κ (.lst acc) w'))) (hs : ∀ x, foldedSetIterable iter X.env x = pure x := by intro _; rfl) : PD X T W χ (.ListComp elt [⟨tg, iter, ifs, 0⟩] scope pos) δ w κ := fun F σ S H Q hE hW hX hK => by
  obtain ⟨wi, hi, h⟩ := h
  exact wp_pe (pe_lc hc hN hi ok pg_bx pt_bx pe_bx hs) (lc_read hsub hE hW (fun R hR => h F σ S H R hE hW hX hR) (fin_stay hK))
theorem psd_setLc {i : Nat} {y : Str} {py spos : Pos} {elt tg iter : Expr} {ifs : List Expr} {scope : Scope} {C : Fin} (own : List (Str × Nat)) (is : List Nat) (hc : X.calm = true) (hN : X.N.Nodup) (hy : X.N[i]? = some y) (hyl : X.env.scope.names.lookup y = some .local)
    (hsw : swapsWith (.ListComp elt [⟨tg, iter, ifs, 0⟩] scope pos) (some (.Name y py)) spos.line X.env = pure true) (ok : BlkOk X.N X.env.scope scope own) (hsub : ∀ i ∈ is, i ∈ own.map (·.2))
    (h : IterD X T W χ tg iter δ w (LcD X T is tg ifs elt scope (own.map (·.2)) δ (fun acc w' => (fun d w' => C.nx (δ.set i (some d)) w') (.lst acc) w'))) (hs : ∀ x, foldedSetIterable iter X.env x = pure x := by intro _; rfl) : PSD X T W χ (.Assign [.Name y py] (.ListComp elt [⟨tg, iter, ifs, 0⟩] scope pos) spos) δ w C := fun F σ S H E hE hW hX hK => by
  obtain ⟨wi, hi, h⟩ := h
  refine wp_ps (ps_setLc hc hN hy hyl hsw hi ok pg_bx pt_bx pe_bx hs) ?_
  have q := lc_read (Q := fun v H' => gName i v σ H' E.nx) hsub hE hW (fun R hR => h F σ S H R hE hW (hX σ) hR) (fin_stay (κ := fun d w' => C.nx (δ.set i (some d)) w') fun d w' v S' H' k s1 W1 r => hK.nx _ w' _ S' H' k s1 ((hE.mono s1).set i r) W1)
  exact q
theorem pd_lcO {elt tg iter : Expr} {ifs : List Expr} {scope : Scope} (own : List (Str × Nat)) (is : List Nat) {κ : D → Wp → Prop} (hc : X.calm = true) (hN : X.N.Nodup) (ok : BlkOk X.N X.env.scope scope own) (hsub : ∀ i ∈ is, i ∈ own.map (·.2))
    (h : IterD X T W χ tg iter δ w (LcD X T is tg ifs elt scope (own.map (·.2)) δ (fun acc w' => ∀ a, w' a = none → κ (R a) (wu w' a (.lst acc))))) (hs : ∀ x, foldedSetIterable iter X.env x = pure x := by intro _; rfl) : PD X T W χ (.ListComp elt [⟨tg, iter, ifs, 0⟩] scope pos) δ w κ := fun F σ S H Q hE hW hX hK => by
  obtain ⟨wi, hi, h⟩ := h
  exact wp_pe (pe_lc hc hN hi ok pg_bx pt_bx pe_bx hs) (lc_read hsub hE hW (fun R hR => h F σ S H R hE hW hX hR) (fin_own hK))
theorem psd_setLcO {i : Nat} {y : Str} {py spos : Pos} {elt tg iter : Expr} {ifs : List Expr} {scope : Scope} {C : Fin} (own : List (Str × Nat)) (is : List Nat) (hc : X.calm = true) (hN : X.N.Nodup) (hy : X.N[i]? = some y) (hyl : X.env.scope.names.lookup y = some .local)
    (hsw : swapsWith (.ListComp elt [⟨tg, iter, ifs, 0⟩] scope pos) (some (.Name y py)) spos.line X.env = pure true) (ok : BlkOk X.N X.env.scope scope own) (hsub : ∀ i ∈ is, i ∈ own.map (·.2))
    (h : IterD X T W χ tg iter δ w (LcD X T is tg ifs elt scope (own.map (·.2)) δ (fun acc w' => ∀ a, w' a = none → (fun d w' => C.nx (δ.set i (some d)) w') (R a) (wu w' a (.lst acc))))) (hs : ∀ x, foldedSetIterable iter X.env x = pure x := by intro _; rfl) : PSD X T W χ (.Assign [.Name y py] (.ListComp elt [⟨tg, iter, ifs, 0⟩] scope pos) spos) δ w C := fun F σ S H E hE hW hX hK => by
  obtain ⟨wi, hi, h⟩ := h
  refine wp_ps (ps_setLc hc hN hy hyl hsw hi ok pg_bx pt_bx pe_bx hs) ?_
  have q := lc_read (Q := fun v H' => gName i v σ H' E.nx) hsub hE hW (fun R hR => h F σ S H R hE hW (hX σ) hR) (fin_own (κ := fun d w' => C.nx (δ.set i (some d)) w') fun d w' v S' H' k s1 W1 r => hK.nx _ w' _ S' H' k s1 ((hE.mono s1).set i r) W1)
  exact q
/-! ### specs in data -/
abbrev SpD := List D → Wp → (D → Wp → Prop) → XD → Prop
def spOf (K : PySem.W.Frag) (T : List (Addr × Str)) (sp : SpD) : Sp := fun vs H Q E => ∃ ds w F S κ χ, sp ds w κ χ ∧ RepL K S ds vs ∧ World K T S w F H ∧ KD K T κ S F Q ∧
  (∀ C ns fs w' d S' H', χ C ns fs w' → Same S S' → World K T S' w' F H' → XdR K S' d ns fs → E (.ref C) (some d) H')
theorem pass0At {X : Cx} {σ : L2.St} {E : XK} : PassesAt CX0 X σ E := fun _ _ _ _ _ _ h => h.elim
theorem pd_call {CX : CXT} {k : Nat} {f : Addr} {fd : FuncData} {ps : List Str} {sp : SpD} {x : Str} {p : Pos} {e : Expr} {es : List Expr} {κ : D → Wp → Prop} (G : FnOk X.prog X.w X.K X.mg X.base CX k f fd ps (spOf X.K T sp)) (hr : Room k X.A) (hm : X.mg x = some (.ref f))
    (hk : PySem.W.keepIn X.K (.ref f) = true) (hb : Binds X.K fd ps []) (hx : ∀ σ, PassesAt CX X σ (WE W σ)) (h : PAD X T W χ (e :: es) δ w fun ds w1 => sp ds w1 κ χ) (hg : Gl X x := by rfl) (hdb : (x == ("__debug__" : Str)) = false := by decide)
    (he : starEach (e :: es) X.env = (false, eval e X.env) :: starEach es X.env := by rfl) (hpl : (backTo pos (starEach es X.env)).any (·.1) = false := by rfl) : PD X T W χ (.Call (.Name x p) (e :: es) [] pos) δ w κ := fun F σ S H Q hE hW hX hK =>
  wp_pe (pe_callSD G hr hg hm hk hb .nil hx (pa_wp _) hdb he hpl) (by
    refine h F σ S H _ hE hW hX fun ds w1 vs S1 H1 k s1 W1 r => ?_
    show spOf X.K T sp (vs ++ []) H1 Q (WE W σ)
    rw [List.append_nil]
    exact ⟨ds, w1, F, S1, κ, χ, k, r, W1, hK.mono s1, fun C ns fs w' d S' H' x s2 W2 xr => hX C ns fs w' d S' H' x (s1.trans s2) W2 xr⟩)
/-- a receiver: an instance of the class at C that has no field m -/
def InsD (C : Addr) (m : Str) (d : D) (w : Wp) : Prop := match d with
  | .obj C' ns _ => C' = C ∧ m ∉ ns
  | .val (.ref a) => ∃ dx ns ds, w a = some (.ins C dx ns ds) ∧ m ∉ ns
  | _ => False
theorem lookup_no {ys : List (Str × V)} {m : Str} (h : m ∉ ys.map (·.1)) : ys.lookup m = none := by
  induction ys with
  | nil => rfl
  | cons p ys ih =>
    obtain ⟨g, x⟩ := p
    have h1 : ¬ m = g := fun z => h (by rw [z]; exact List.mem_cons_self ..)
    have hb : (m == g) = false := beq_eq_false_iff_ne.mpr h1
    simp only [List.lookup, hb]
    exact ih fun z => h (List.mem_cons_of_mem _ z)
theorem InsD.is {K : PySem.W.Frag} {C : Addr} {m : Str} {d : D} {w : Wp} {S F H : Hp} {x : V} (i : InsD C m d w) (hW : World K T S w F H) (r : Rep K S d x) : ∃ a dx fs, x = .ref a ∧ H a = some (.ins C dx fs) ∧ fs.lookup m = none := by
  cases d with
  | obj C' ns ds =>
    obtain ⟨rfl, hm⟩ := i
    obtain ⟨a, dx, ys, rfl, h1, rfl, _⟩ := r
    exact ⟨a, dx, ys, rfl, hW.same _ _ h1, lookup_no hm⟩
  | val v =>
    have e : x = v := r
    subst e
    cases x with
    | ref a =>
      obtain ⟨dx, ns, ds, hw, hm⟩ := i
      obtain ⟨_, _, o, h1, h2⟩ := hW.own a _ hw
      obtain ⟨ys, rfl, rfl, h3⟩ := h2
      exact ⟨a, dx, ys, rfl, h1, lookup_no hm⟩
    | _ => exact i.elim
  | _ => exact i.elim
def tMethSD (C : Addr) (m : Str) (sp : Sp) (E : L2.St → XK) (ta : TE) (t : TA) : TE := fun σ H Q => ta σ H fun x H1 => ∃ a dx fs, x = .ref a ∧ H1 a = some (.ins C dx fs) ∧ fs.lookup m = none ∧
  t σ H1 fun vs H2 => sp (x :: vs) H2 Q (E σ)
theorem pe_methSD {CX : CXT} {k : Nat} {f C : Addr} {fd : FuncData} {ps : List Str} {sp : Sp} {E : L2.St → XK} {m : Str} {apos : Pos} {e o : Expr} {es : List Expr} {ta : TE} {t : TA} {pl : Sem Bool} (he : PE X o ta) (c : Cls X.K C) (hm : Meth X.K C m f) (G : FnOk X.prog X.w X.K X.mg X.base CX k f fd ps sp) (hr : Room k X.A) (hb : Binds X.K fd ps [])
    (hx : ∀ σ, PassesAt CX X σ (E σ)) (ha : PA X (e :: es) t)
    (hst : starEach (e :: es) X.env = (false, eval e X.env) :: starEach es X.env := by rfl) (hpl : (backTo pos (starEach es X.env)).any (·.1) = false := by rfl)
    (ht : eval (.Call (.Attribute o m apos) (e :: es) [] pos) X.env = (do
      let ov ← eval o X.env
      standAt apos.atName
      let (f, first) ← holding [ov] (getMethod ov m pl)
      callWith pos f first (backTo pos (starEach (e :: es) X.env)) (backToKw pos (keywordEach [] X.env))) := by rfl) : PE X (.Call (.Attribute o m apos) (e :: es) [] pos) (tMethSD C m sp E ta t) := by
  refine ⟨fun pins s σ H Q I h => ?_⟩
  refine PySem.W.methodCall_KW (pl := pl) (thn (he.run pins s σ H _ I h) fun u s1 ⟨x, H1, I1, rx, a, dx, fs, ex, ea, l, q⟩ => ?_) ht
  subst ex
  obtain rfl : u = Value.ref a := rx
  refine getmeth_ok I1 ea c hm l ?_
  refine PySem.W.callWith_K (first := [.ref a]) (h₀ := X.base) I.ok.mod.kin hm.kp (thn (ha.run pos pins s1 σ H1 _ I1 q) fun us s2 ⟨vs, H2, I2, r, q2⟩ => ⟨I2.kIn, ?_⟩) hst hpl
  exact run_fnSD (us := .ref a :: us) (vs := .ref a :: vs) (dvs := []) (ds := []) G hr hb .nil (hx σ) I2 (.cons rfl r) (by rw [List.append_nil]; exact q2)
theorem pe_meth0SD {CX : CXT} {k : Nat} {f C : Addr} {fd : FuncData} {ps : List Str} {sp : Sp} {E : L2.St → XK} {m : Str} {apos : Pos} {o : Expr} {ta : TE} {pl : Sem Bool} (he : PE X o ta) (c : Cls X.K C) (hm : Meth X.K C m f) (G : FnOk X.prog X.w X.K X.mg X.base CX k f fd ps sp) (hr : Room k X.A) (hb : Binds X.K fd ps [])
    (hx : ∀ σ, PassesAt CX X σ (E σ))
    (ht : eval (.Call (.Attribute o m apos) [] [] pos) X.env = (do
      let ov ← eval o X.env
      standAt apos.atName
      let (f, first) ← holding [ov] (getMethod ov m pl)
      callWith pos f first (backTo pos (starEach [] X.env)) (backToKw pos (keywordEach [] X.env))) := by rfl) : PE X (.Call (.Attribute o m apos) [] [] pos) (tMethSD C m sp E ta tNil) := by
  refine ⟨fun pins s σ H Q I h => ?_⟩
  refine PySem.W.methodCall_KW (pl := pl) (thn (he.run pins s σ H _ I h) fun u s1 ⟨x, H1, I1, rx, a, dx, fs, ex, ea, l, q⟩ => ?_) ht
  subst ex
  obtain rfl : u = Value.ref a := rx
  refine getmeth_ok I1 ea c hm l ?_
  exact PySem.W.callWith_K0 (first := [.ref a]) I1.kIn hm.kp (run_fnSD (us := [.ref a]) (vs := [.ref a]) (dvs := []) (ds := []) G hr hb .nil (hx σ) I1 (.cons rfl .nil) q)
theorem pd_meth {CX : CXT} {k : Nat} {f C : Addr} {fd : FuncData} {ps : List Str} {sp : SpD} {m : Str} {apos : Pos} {e o : Expr} {es : List Expr} {κ : D → Wp → Prop} {pl : Sem Bool} (c : Cls X.K C) (hm : Meth X.K C m f) (G : FnOk X.prog X.w X.K X.mg X.base CX k f fd ps (spOf X.K T sp)) (hr : Room k X.A) (hb : Binds X.K fd ps [])
    (hx : ∀ σ, PassesAt CX X σ (WE W σ)) (h : PD X T W χ o δ w fun d w1 => InsD C m d w1 ∧ PAD X T W χ (e :: es) δ w1 fun ds w2 => sp (d :: ds) w2 κ χ)
    (hst : starEach (e :: es) X.env = (false, eval e X.env) :: starEach es X.env := by rfl) (hpl : (backTo pos (starEach es X.env)).any (·.1) = false := by rfl)
    (ht : eval (.Call (.Attribute o m apos) (e :: es) [] pos) X.env = (do
      let ov ← eval o X.env
      standAt apos.atName
      let (f, first) ← holding [ov] (getMethod ov m pl)
      callWith pos f first (backTo pos (starEach (e :: es) X.env)) (backToKw pos (keywordEach [] X.env))) := by rfl) : PD X T W χ (.Call (.Attribute o m apos) (e :: es) [] pos) δ w κ := fun F σ S H Q hE hW hX hK =>
  wp_pe (pe_methSD (pe_wp o) c hm G hr hb hx (pa_wp _) hst hpl ht) (by
    refine h F σ S H _ hE hW hX fun d w1 v S1 H1 k s1 W1 r => ?_
    obtain ⟨a, dx, fs, rfl, h1, h2⟩ := k.1.is W1 r
    refine ⟨a, dx, fs, rfl, h1, h2, ?_⟩
    refine k.2 F σ S1 H1 _ (hE.mono s1) W1 (hX.mono s1) fun ds w2 vs S2 H2 k2 s2 W2 r2 => ?_
    exact ⟨d :: ds, w2, F, S2, κ, χ, k2, ⟨_, vs, rfl, r.mono s2, r2⟩, W2, hK.mono (s1.trans s2), fun C ns fs w' d S' H' x s3 W3 xr => hX C ns fs w' d S' H' x (s1.trans (s2.trans s3)) W3 xr⟩)
theorem pd_meth0 {CX : CXT} {k : Nat} {f C : Addr} {fd : FuncData} {ps : List Str} {sp : SpD} {m : Str} {apos : Pos} {o : Expr} {κ : D → Wp → Prop} {pl : Sem Bool} (c : Cls X.K C) (hm : Meth X.K C m f) (G : FnOk X.prog X.w X.K X.mg X.base CX k f fd ps (spOf X.K T sp)) (hr : Room k X.A) (hb : Binds X.K fd ps [])
    (hx : ∀ σ, PassesAt CX X σ (WE W σ)) (h : PD X T W χ o δ w fun d w1 => InsD C m d w1 ∧ sp [d] w1 κ χ)
    (ht : eval (.Call (.Attribute o m apos) [] [] pos) X.env = (do
      let ov ← eval o X.env
      standAt apos.atName
      let (f, first) ← holding [ov] (getMethod ov m pl)
      callWith pos f first (backTo pos (starEach [] X.env)) (backToKw pos (keywordEach [] X.env))) := by rfl) : PD X T W χ (.Call (.Attribute o m apos) [] [] pos) δ w κ := fun F σ S H Q hE hW hX hK =>
  wp_pe (pe_meth0SD (pe_wp o) c hm G hr hb hx ht) (by
    refine h F σ S H _ hE hW hX fun d w1 v S1 H1 k s1 W1 r => ?_
    obtain ⟨a, dx, fs, rfl, h1, h2⟩ := k.1.is W1 r
    refine ⟨a, dx, fs, rfl, h1, h2, ?_⟩
    exact ⟨[d], w1, F, S1, κ, χ, k.2, ⟨_, [], rfl, r, rfl⟩, W1, hK.mono s1, fun C ns fs w' d S' H' x s3 W3 xr => hX C ns fs w' d S' H' x (s1.trans s3) W3 xr⟩)
/-- C(e, ..) -/
theorem run_makeSD {CX : CXT} {k : Nat} {f C : Addr} {fd : FuncData} {ps : List Str} {sp : Sp} {E : XK} {pins : List (Addr × Obj)} {σ : L2.St} {H : Hp} {s : Shared} {Q : VK} {us : List Value} {vs : List V} (M : Mk X.K C f) (G : FnOk X.prog X.w X.K X.mg X.base CX k f fd ps sp) (hr : Room (k + 1) X.A) (hb : Binds X.K fd ps [])
    (hx : PassesAt CX X σ E) (I : Inv X pins σ H s) (r : Vals vs us)
    (h : ∀ x dx, H x = none → H dx = none → dx ≠ x → sp (.ref x :: vs) (upd (upd H dx (.own x)) x (.ins C dx [])) (fun v H2 => v = .non ∧ Q (.ref x) H2) E) :
    wpAny (model X.prog X.w) X.A (call (.ref C) us) (EP X pins σ Q) X.xe s := by
  have hq := h (s.heap.objs.size + 1) s.heap.objs.size (I.hok.fresh (Nat.le_succ _)) (I.hok.fresh (Nat.le_refl _)) (Nat.ne_of_lt (Nat.lt_succ_self _))
  have I2 := Inv.made (C := C) I
  have r2 : Vals (V.ref (s.heap.objs.size + 1) :: vs) (Value.ref (s.heap.objs.size + 1) :: us) := .cons rfl r
  have hl : ((Value.ref (s.heap.objs.size + 1) :: us) ++ []).length = ps.length := by
    have e := r2.length
    rw [F_len G hq] at e
    rw [List.append_nil]
    exact e.symm
  have bb := hb _ (Value.ref (s.heap.objs.size + 1) :: us) I2.kIn hl
  rw [List.append_nil] at bb
  refine wpAny_call (make_map (f := f) I.kIn M.makes M.init (beq_iff_eq.mp M.fn) (codeAny_mono (G.run _ X.stack _ _ ⟨Value.ref (s.heap.objs.size + 1) :: us, []⟩ (Value.ref (s.heap.objs.size + 1) :: us) _ _ E (hr.make C us [])
    (I2.env0.make C us []) bb r2 hq) fun r s' hq' => ?_))
  cases r with
  | error e => exact hx pins _ _ e s' I2 hq'
  | ok fl =>
    cases fl with
    | ret u =>
      obtain ⟨v, H', I3, rv, ev, q3⟩ := I2.after hq'
      subst ev
      exact ⟨rv, ⟨V.ref (s.heap.objs.size + 1), H', I3, rfl, q3⟩⟩
    | next => exact False.elim hq'
    | brk => exact False.elim hq'
    | cont => exact False.elim hq'
where F_len {CX : CXT} {k : Nat} {f : Addr} {fd : FuncData} {ps : List Str} {sp : Sp} {E : XK} {Q : VK} {H : Hp} {vs : List V} (G : FnOk X.prog X.w X.K X.mg X.base CX k f fd ps sp) (h : sp vs H Q E) : vs.length = ps.length := G.len _ _ _ _ h
def tMakeSD (C : Addr) (sp : Sp) (E : L2.St → XK) (t : TA) : TE := fun σ H Q => t σ H fun vs H1 => ∀ x dx, H1 x = none → H1 dx = none → dx ≠ x →
  sp (.ref x :: vs) (upd (upd H1 dx (.own x)) x (.ins C dx [])) (fun v H2 => v = .non ∧ Q (.ref x) H2) (E σ)
theorem pe_makeSD {CX : CXT} {k : Nat} {f C : Addr} {fd : FuncData} {ps : List Str} {sp : Sp} {E : L2.St → XK} {x : Str} {p : Pos} {e : Expr} {es : List Expr} {t : TA} (M : Mk X.K C f) (G : FnOk X.prog X.w X.K X.mg X.base CX k f fd ps sp) (hr : Room (k + 1) X.A) (hg : Gl X x) (hm : X.mg x = some (.ref C)) (hb : Binds X.K fd ps []) (hx : ∀ σ, PassesAt CX X σ (E σ))
    (ha : PA X (e :: es) t) (hdb : (x == ("__debug__" : Str)) = false := by decide) (he : starEach (e :: es) X.env = (false, eval e X.env) :: starEach es X.env := by rfl) (hpl : (backTo pos (starEach es X.env)).any (·.1) = false := by rfl) :
    PE X (.Call (.Name x p) (e :: es) [] pos) (tMakeSD C sp E t) := by
  refine ⟨fun pins s σ H Q I h => ?_⟩
  refine wpAny_Call_Name_kw (ld_glob I hg hm ?_ hdb)
  refine PySem.W.callWith_K (h₀ := X.base) I.ok.mod.kin M.kp (thn (ha.run pos pins s σ H _ I h) fun us s1 ⟨vs, H1, I1, r, q⟩ => ⟨I1.kIn, ?_⟩) he hpl
  exact run_makeSD M G hr hb (hx σ) I1 r q
theorem pd_make {CX : CXT} {k : Nat} {f C : Addr} {fd : FuncData} {ps : List Str} {sp : SpD} {x : Str} {p : Pos} {e : Expr} {es : List Expr} {κ : D → Wp → Prop} (M : Mk X.K C f) (G : FnOk X.prog X.w X.K X.mg X.base CX k f fd ps (spOf X.K T sp)) (hr : Room (k + 1) X.A) (hm : X.mg x = some (.ref C)) (hb : Binds X.K fd ps []) (hx : ∀ σ, PassesAt CX X σ (WE W σ))
    (h : PAD X T W χ (e :: es) δ w fun ds w1 => ∀ a dx, w1 a = none → sp (R a :: ds) (wu w1 a (.ins C dx [] [])) (fun d w2 => d = N ∧ ∃ ns es, w2 a = some (.ins C dx ns es) ∧ κ (.obj C ns es) (wd w2 a)) χ)
    (hg : Gl X x := by rfl) (hdb : (x == ("__debug__" : Str)) = false := by decide) (he : starEach (e :: es) X.env = (false, eval e X.env) :: starEach es X.env := by rfl) (hpl : (backTo pos (starEach es X.env)).any (·.1) = false := by rfl) :
    PD X T W χ (.Call (.Name x p) (e :: es) [] pos) δ w κ := fun F σ S H Q hE hW hX hK => wp_pe (pe_makeSD M G hr hg hm hb hx (pa_wp _) hdb he hpl) (by
  refine h F σ S H _ hE hW hX fun ds w1 vs S1 H1 k s1 W1 r => ?_
  intro a dx na ndx nad
  have W2 := (W1.junk (o := .own a) ndx).take (a := a) (h := .ins C dx [] []) (o := .ins C dx []) (by rw [upd_ne (Ne.symm nad)]; exact na) ⟨[], rfl, rfl, rfl⟩
  refine ⟨R a :: ds, _, F, S1, _, χ, k a dx (W1.free na).2.1, ⟨_, vs, rfl, rfl, r⟩, W2, ?_, fun C ns fs w' d S' H' x s3 W3 xr => hX C ns fs w' d S' H' x (s1.trans s3) W3 xr⟩
  rintro d w' v S' H' ⟨rfl, ns, es, ew, kk⟩ s2 W3 rv
  refine ⟨rv, ?_⟩
  obtain ⟨o, e1, r3, W4⟩ := W3.freeze ew
  obtain ⟨ys, rfl, hys, r4⟩ := r3
  have s3 : Same S' (upd S' a (.ins C dx ys)) := same_upd e1
  exact hK _ _ _ _ _ kk (s1.trans (s2.trans s3)) W4 ⟨a, dx, ys, rfl, upd_same, hys, r4.mono s3⟩)
/-! ### fields -/
def look2 : List Str → List D → Str → Option D
  | n :: ns, d :: ds, f => if f = n then some d else look2 ns ds f
  | _, _, _ => none
theorem look2_at {K : PySem.W.Frag} {S : Hp} : ∀ {ys : List (Str × V)} {ds : List D} {f : Str} {d : D}, RepL K S ds (ys.map (·.2)) → look2 (ys.map (·.1)) ds f = some d → ∃ v, ys.lookup f = some v ∧ Rep K S d v
  | [], ds, f, d, r, h => by cases h
  | (g, x) :: ys, [], f, d, r, h => by cases h
  | (g, x) :: ys, d0 :: ds, f, d, r, h => by
    obtain ⟨y, zs, e, r1, r2⟩ := r
    have e' : x :: ys.map (·.2) = y :: zs := e
    cases e'
    have h' : (if f = g then some d0 else look2 (ys.map (·.1)) ds f) = some d := h
    by_cases q : f = g
    · rw [if_pos q] at h'
      cases h'
      subst q
      exact ⟨x, by simp [List.lookup], r1⟩
    · rw [if_neg q] at h'
      obtain ⟨v, h1, h2⟩ := look2_at r2 h'
      have hb : (f == g) = false := beq_eq_false_iff_ne.mpr q
      exact ⟨v, by simp only [List.lookup, hb]; exact h1, h2⟩
/-- the instance d of the class at C has at f the data u -/
def FldD (C : Addr) (f : Str) (d : D) (w : Wp) (u : D) : Prop := match d with
  | .obj C' ns ds => C' = C ∧ look2 ns ds f = some u
  | .val (.ref a) => ∃ dx ns ds, w a = some (.ins C dx ns ds) ∧ look2 ns ds f = some u
  | _ => False
theorem pd_fld {e : Expr} {f : Str} {C : Addr} {κ : D → Wp → Prop} (c : Cls X.K C) (n : NoAttr X.K C f) (h : PD X T W χ e δ w fun d w1 => ∃ u, FldD C f d w1 u ∧ κ u w1)
    (hb : attributeBase e f X.env (eval e X.env) = eval e X.env := by rfl) : PD X T W χ (.Attribute e f pos) δ w κ := fun F σ S H Q hE hW hX hK => wp_pe (pe_fld (pe_wp e) hb) (by
  refine h F σ S H _ hE hW hX fun d w1 v S1 H1 k s1 W1 r => ?_
  obtain ⟨u, hf, k⟩ := k
  cases d with
  | obj C' ns ds =>
    obtain ⟨rfl, hl⟩ := hf
    obtain ⟨a, dx, ys, rfl, h1, rfl, h3⟩ := r
    obtain ⟨v, h4, h5⟩ := look2_at h3 hl
    exact ⟨a, _, dx, ys, v, rfl, W1.same _ _ h1, c, n, h4, hK u w1 v S1 H1 k s1 W1 h5⟩
  | val v' =>
    have e' : v = v' := r
    subst e'
    cases v with
    | ref a =>
      obtain ⟨dx, ns, ds, hw, hl⟩ := hf
      obtain ⟨_, _, o, h1, h2⟩ := W1.own a _ hw
      obtain ⟨ys, rfl, rfl, h3⟩ := h2
      obtain ⟨v, h4, h5⟩ := look2_at h3 hl
      exact ⟨a, _, dx, ys, v, rfl, h1, c, n, h4, hK u w1 v S1 H1 k s1 W1 h5⟩
    | _ => exact hf.elim
  | _ => exact hf.elim)
theorem putF_new {f : Str} {v : V} : ∀ {ys : List (Str × V)}, f ∉ ys.map (·.1) → putF f v ys = ys ++ [(f, v)]
  | [], _ => rfl
  | (g, x) :: ys, h => by
    show (if g = f then (g, v) :: ys else (g, x) :: putF f v ys) = _
    rw [if_neg (fun z => h (by rw [← z]; exact List.mem_cons_self ..)), putF_new fun z => h (List.mem_cons_of_mem _ z)]
    rfl
/-- self.f = e, f new -/
theorem psd_fldNew {o e : Expr} {f : Str} {fp : Pos} {C : Addr} {Fi : Fin} (c : Cls X.K C) (n : NoAttr X.K C f) (h : PD X T W χ e δ w fun d w1 => PD X T W χ o δ w1 fun od w2 => ∃ a dx ns ds, od = R a ∧ w2 a = some (.ins C dx ns ds) ∧ f ∉ ns ∧ ns.length < 1000 ∧ Fi.nx δ (wu w2 a (.ins C dx (ns ++ [f]) (ds ++ [d]))))
    (hs : swapsWith e (some (.Attribute o f fp)) pos.line X.env = pure false := by rfl) : PSD X T W χ (.Assign [.Attribute o f fp] e pos) δ w Fi := fun F σ S H E hE hW hX hK => wp_ps (ps_fld (pe_wp o) (pe_wp e) hs) (by
  refine h F σ S H _ hE hW (hX σ) fun d w1 v S1 H1 k s1 W1 r => ?_
  refine k F σ S1 H1 _ (hE.mono s1) W1 ((hX σ).mono s1) fun od w2 x S2 H2 k2 s2 W2 r2 => ?_
  obtain ⟨a, dx, ns, ds, rfl, hw, hn, hl, k2⟩ := k2
  have r2' : x = .ref a := r2
  subst r2'
  obtain ⟨_, _, ob, h1, h2⟩ := W2.own a _ hw
  obtain ⟨ys, rfl, rfl, h3⟩ := h2
  refine ⟨a, C, dx, ys, rfl, h1, c, n, by rw [List.length_map] at hl; exact hl, ?_⟩
  rw [putF_new hn]
  refine hK.nx δ _ σ S2 _ k2 (s1.trans s2) (hE.mono (s1.trans s2)) (W2.put hw ⟨_, rfl, by rw [List.map_append]; rfl, ?_⟩)
  rw [List.map_append]
  exact h3.app (RepL.one (r.mono s2)))
/-- a class's constant -/
theorem pd_cval {e : Expr} {f : Str} {mc : Value} {C : Addr} {v : V} {u : Value} {κ : D → Wp → Prop} (r : ClX.CRead X.K C mc) (k : ClX.CVal X.K C mc f v u) (h : PD X T W χ e δ w fun d w1 => d = R C ∧ κ (.val v) w1)
    (hb : attributeBase e f X.env (eval e X.env) = eval e X.env := by rfl) : PD X T W χ (.Attribute e f pos) δ w κ := fun F σ S H Q hE hW hX hK => wp_pe (ClX.pe_cval (pe_wp e) hb) (by
  refine h F σ S H _ hE hW hX fun d w1 x S1 H1 q s1 W1 r1 => ?_
  obtain ⟨rfl, q⟩ := q
  exact ⟨C, mc, v, u, r1, r, k, hK _ w1 _ S1 H1 q s1 W1 rfl⟩)
theorem pd_glob {x : Str} {v : V} {u : Value} {κ : D → Wp → Prop} (hm : X.mg x = some u) (r : RelV v u) (k : κ (.val v) w) (hg : Gl X x := by rfl) (hd : (x == ("__debug__" : Str)) = false := by decide) : PD X T W χ (.Name x pos) δ w κ :=
  fun F σ S H Q hE hW hX hK => wp_pe (pe_glob hg hm r hd) (hK _ w _ S H k (Same.refl _) hW rfl)
theorem pd_bltn {x : Str} {v : V} {u : Value} {κ : D → Wp → Prop} (hm : X.mg x = none) (hv : bootBuiltins x = some u) (r : RelV v u) (k : κ (.val v) w) (hg : Gl X x := by rfl) (hn : x ≠ "__name__" := by decide) (hd : (x == ("__debug__" : Str)) = false := by decide) : PD X T W χ (.Name x pos) δ w κ :=
  fun F σ S H Q hE hW hX hK => wp_pe (pe_bltn hg hm hv r hn hd) (hK _ w _ S H k (Same.refl _) hW rfl)
end
/-! ### defs -/
def startD (N : List Str) (ds : List D) : Dn := ds.map some ++ List.replicate (N.length - ds.length) none
theorem env_start {K : PySem.W.Frag} {S : Hp} {N : List Str} {ds : List D} {vs : List V} (r : RepL K S ds vs) : EnvD K S (startD N ds) (L2.start N vs) := by
  have hl := r.length
  refine ⟨by unfold startD L2.start; rw [List.length_append, List.length_append, List.length_map, List.length_map, List.length_replicate, List.length_replicate, hl], fun i d h => ?_⟩
  unfold startD at h
  by_cases hi : i < ds.length
  · rw [List.getElem?_append_left (by rw [List.length_map]; exact hi), List.getElem?_map] at h
    cases e : ds[i]? with
    | none =>
      rw [e] at h
      cases h
    | some d' =>
      rw [e] at h
      cases h
      obtain ⟨v, h1, h2⟩ := r.get e
      refine ⟨v, ?_, h2⟩
      unfold L2.start
      rw [List.getElem?_append_left (by rw [List.length_map, hl]; exact hi), List.getElem?_map, h1]
      rfl
  · rw [List.getElem?_append_right (by rw [List.length_map]; omega), List.getElem?_replicate] at h
    split at h <;> cases h
section
variable {P : Program} {w : PySem.World} {K : PySem.W.Frag} {mg : Str → Option Value} {base : Heap} {T : List (Addr × Str)}
/-- a def that lets no error out -/
theorem fnD {x qual : Str} {st : Stmt} {f : Addr} {fd : FuncData} {N ps : List Str} {k : Nat} {sp : SpD} (G : Fun K x qual st f fd) (S : FnScope N ps (defScope st)) (len : ∀ ds w κ χ, sp ds w κ χ → ds.length = ps.length)
    (body : ∀ (cdv : Value) (A : Around) (outer : List Env) (s : Shared) (H : Hp) (E : XK) (ds : List D) (w0 : Wp) (κ : D → Wp → Prop) (χ : XD), Room k (A.deeper (envOfC qual (defScope st) s.heap.objs.size f cdv)) → sp ds w0 κ χ →
      PSsD (cxOf CX0 P w K mg base N qual (defScope st) f cdv A outer s H E).nox T Wf noX (defBody st) (startD N ds) w0 { nx := fun _ w' => κ DL.N w', rt := κ }) : FnOk P w K mg base CX0 (k + 1) f fd ps (spOf K T sp) := by
  refine G.ok S (fun vs H Q E h => ?_) (fun cdv A outer s H vs Q E hr h => ?_)
  · obtain ⟨ds, w0, F, S0, κ, χ, h1, h2, _⟩ := h
    rw [h2.length]
    exact len _ _ _ _ h1
  · obtain ⟨ds, w0, F, S0, κ, χ, h1, h2, h3, h4, h5⟩ := h
    refine ⟨_, pss_wp _, ?_⟩
    exact body cdv A outer s H E ds w0 κ χ hr h1 F _ S0 H _ (env_start h2) h3 exsf ⟨fun δ' w' σ' S' H' k s1 hE W1 => h4 _ w' _ S' H' k s1 W1 rfl, h4, fun _ _ _ _ _ z => z.elim, fun _ _ _ _ _ z => z.elim⟩
/-- a def that may raise -/
theorem fnX {x qual : Str} {st : Stmt} {f : Addr} {fd : FuncData} {N ps : List Str} {k : Nat} {sp : SpD} (G : Fun K x qual st f fd) (S : FnScope N ps (defScope st)) (len : ∀ ds w κ χ, sp ds w κ χ → ds.length = ps.length)
    (body : ∀ (cdv : Value) (A : Around) (outer : List Env) (s : Shared) (H : Hp) (E : XK) (ds : List D) (w0 : Wp) (κ : D → Wp → Prop) (χ : XD), Room k (A.deeper (envOfC qual (defScope st) s.heap.objs.size f cdv)) → sp ds w0 κ χ →
      PSsD (cxOf (L2.CX P w) P w K mg base N qual (defScope st) f cdv A outer s H E) T (fun cls d _ H => E cls d H) χ (defBody st) (startD N ds) w0 { nx := fun _ w' => κ DL.N w', rt := κ }) : FnOk P w K mg base (L2.CX P w) (k + 1) f fd ps (spOf K T sp) := by
  refine G.okX S (fun vs H Q E h => ?_) (fun cdv A outer s H vs Q E hr h => ?_)
  · obtain ⟨ds, w0, F, S0, κ, χ, h1, h2, _⟩ := h
    rw [h2.length]
    exact len _ _ _ _ h1
  · obtain ⟨ds, w0, F, S0, κ, χ, h1, h2, h3, h4, h5⟩ := h
    refine ⟨_, pss_wp _, ?_⟩
    exact body cdv A outer s H E ds w0 κ χ hr h1 F _ S0 H _ (env_start h2) h3 (fun σ C ns fs w' d S' H' x s1 W1 xr => h5 C ns fs w' d S' H' x s1 W1 xr) ⟨fun δ' w' σ' S' H' k s1 hE W1 => h4 _ w' _ S' H' k s1 W1 rfl, h4, fun _ _ _ _ _ z => z.elim, fun _ _ _ _ _ z => z.elim⟩
end
end DL

set_option Elab.async false
set_option linter.all false
set_option maxRecDepth 100000
set_option maxHeartbeats 1000000
/-! Slices, index, isinstance. -/
namespace DL
open PySem PySem.Spec PyProof.Rows L2 LamX
theorem cut_to (xs : List V) (n : Nat) : cutV xs none (some (n : Int)) = xs.take n := by
  unfold cutV
  rw [HT.sIx_none, HT.sIx_nat, List.drop_zero, Nat.sub_zero]
  by_cases h : n ≤ xs.length
  · rw [Nat.min_eq_left h]
  · rw [Nat.min_eq_right (by omega), List.take_of_length_le (Nat.le_refl _), List.take_of_length_le (by omega)]
theorem cut_from (xs : List V) (n : Nat) : cutV xs (some (n : Int)) none = xs.drop n := by
  unfold cutV
  rw [HT.sIx_none, HT.sIx_nat]
  by_cases h : n ≤ xs.length
  · rw [Nat.min_eq_left h, List.take_of_length_le (by rw [List.length_drop]; omega)]
  · rw [Nat.min_eq_right (by omega), List.drop_eq_nil_of_le (Nat.le_refl _), List.drop_eq_nil_of_le (by omega), List.take_nil]
section
variable {X : Cx} {T : List (Addr × Str)} {W : WX} {χ : XD} {δ : Dn} {w : Wp} {pos : Pos}
/-- what may be read as a list -/
def LstD (d : D) (ds : List D) : Prop := d = .lst ds ∨ d = .rd ds
theorem LstD.at_ {K : PySem.W.Frag} {S F H : Hp} {w : Wp} {d : D} {ds : List D} {x : V} (l : LstD d ds) (hW : World K T S w F H) (r : Rep K S d x) : ∃ a xs, x = .ref a ∧ SqL K H a xs ∧ RepL K S ds xs := by
  rcases l with rfl | rfl
  · obtain ⟨a, xs, rfl, h1, h2⟩ := r
    exact ⟨a, xs, rfl, SqL.of (hW.same _ _ h1), h2⟩
  · obtain ⟨a, xs, rfl, h1, h2⟩ := r
    exact ⟨a, xs, rfl, hW.same.seq h1, h2⟩
/-- xs[:n] -/
theorem pd_slTo {e : Expr} {n : Nat} {j : Nat} {p1 p2 : Pos} {κ : D → Wp → Prop} (h : PD X T W χ e δ w fun d w1 => ∃ ds, LstD d ds ∧ κ (.lst (ds.take n)) w1) : PD X T W χ (.Subscript e (.Slice none (some (.Constant (.int (n : Int)) j p1)) none p2) pos) δ w κ := fun F σ S H Q hE hW hX hK =>
  wp_pe (pe_slice sl_list (pe_wp e) po_none (po_some pe_int)) (by
    refine h F σ S H _ hE hW hX fun d w1 v S1 H1 k s1 W1 r => ?_
    obtain ⟨ds, hl, k⟩ := k
    obtain ⟨a, xs, rfl, h1, h2⟩ := hl.at_ W1 r
    refine ⟨n, rfl, a, xs, rfl, h1, fun p hp => ?_⟩
    rw [cut_to]
    have s2 : Same S1 (upd S1 p (.lst (xs.take n))) := same_upd (W1.free hp).1
    exact hK _ w1 _ _ _ k (s1.trans s2) (W1.laid hp fun _ z => by cases z) ⟨p, _, rfl, upd_same, (h2.take n).mono s2⟩)
/-- xs[n:] -/
theorem pd_slFrom {e : Expr} {n : Nat} {j : Nat} {p1 p2 : Pos} {κ : D → Wp → Prop} (h : PD X T W χ e δ w fun d w1 => ∃ ds, LstD d ds ∧ κ (.lst (ds.drop n)) w1) : PD X T W χ (.Subscript e (.Slice (some (.Constant (.int (n : Int)) j p1)) none none p2) pos) δ w κ := fun F σ S H Q hE hW hX hK =>
  wp_pe (pe_slice sl_list (pe_wp e) (po_some pe_int) po_none) (by
    refine h F σ S H _ hE hW hX fun d w1 v S1 H1 k s1 W1 r => ?_
    obtain ⟨ds, hl, k⟩ := k
    obtain ⟨a, xs, rfl, h1, h2⟩ := hl.at_ W1 r
    refine ⟨n, rfl, a, xs, rfl, h1, fun p hp => ?_⟩
    rw [cut_from]
    have s2 : Same S1 (upd S1 p (.lst (xs.drop n))) := same_upd (W1.free hp).1
    exact hK _ w1 _ _ _ k (s1.trans s2) (W1.laid hp fun _ z => by cases z) ⟨p, _, rfl, upd_same, (h2.drop n).mono s2⟩)
end
section
variable {K : PySem.W.Frag} {T : List (Addr × Str)} {w : Wp} {κ : D → Wp → Prop}
theorem before_ix : ∀ {ns : List Int} {m : Nat} {n : Int}, m < ns.idxOf n → ns[m]? ≠ some n
  | [], m, n, h => by simp at h
  | a :: ns, m, n, h => by
    rw [List.idxOf_cons] at h
    by_cases e : a = n
    · have e' : (a == n) = true := beq_iff_eq.mpr e
      rw [e'] at h
      exact absurd h (Nat.not_lt_zero _)
    · have e' : (a == n) = false := beq_eq_false_iff_ne.mpr e
      rw [e'] at h
      have h' : m < ns.idxOf n + 1 := h
      cases m with
      | zero => exact fun z => e (Option.some.inj z)
      | succ m => exact before_ix (ns := ns) (m := m) (by omega)
/-- xs.index(x), ints -/
theorem vm_index {ns : List Int} {n : Int} (hm : n ∈ ns) (k : κ (I ((ns.idxOf n : Nat) : Int)) w) : VRM K T (rIndex K) (.lst (ns.map I)) [I n] w κ := fun F S H x xs Q hW r1 r2 hK => by
  obtain ⟨a, ys, rfl, h1, h2⟩ := r1
  obtain ⟨y, zs, rfl, h3, h4⟩ := r2
  have h3' : y = .int n := h3
  have h4' : zs = [] := h4
  have h2' := h2.ints
  subst h3' h4' h2'
  have hi : ns.idxOf n < ns.length := List.idxOf_lt_length_of_mem hm
  refine ⟨a, ns.map V.int, .int n, ns.idxOf n, .int n, rfl, rfl, SqL.of (hW.same _ _ h1), rfl, ?_, ?_, ?_, ?_, hK _ w _ S H k (Same.refl _) hW rfl⟩
  · rw [List.all_eq_true]
    intro v hv
    obtain ⟨m, _, rfl⟩ := List.mem_map.mp hv
    rfl
  · rw [List.getElem?_map, List.getElem?_eq_getElem hi, List.getElem_idxOf hi]
    rfl
  · show (n == n) = true
    exact beq_self_eq_true n
  · intro m z' hlt hz
    rw [List.getElem?_map] at hz
    cases e : ns[m]? with
    | none =>
      rw [e] at hz
      cases hz
    | some z =>
      rw [e] at hz
      cases hz
      show (z == n) = false
      have hne : z ≠ n := fun q => by
        subst q
        exact before_ix hlt e
      exact beq_eq_false_iff_ne.mpr hne
/-- a datum's built-in type -/
def tyD : D → Option String
  | .val .non => some "NoneType"
  | .val (.bl _) => some "bool"
  | .val (.int _) => some "int"
  | .val (.str _) => some "str"
  | .val _ => none
  | .lst _ => some "list"
  | .rd _ => none
  | .tup _ => some "tuple"
  | .obj _ _ _ => none
  | .exc _ _ _ _ => none
  | .dic _ => none
  | .dct _ => none
theorem tyx {S F H : Hp} {d : D} {x : V} {t : String} (hW : World K T S w F H) (h : tyD d = some t) (r : Rep K S d x) : TyX K H x (.type t) := by
  cases d with
  | val v =>
    have e : x = v := r
    subst e
    cases x <;> first | (cases h; exact .base (by constructor)) | cases h
  | lst ds =>
    obtain ⟨a, xs, rfl, h1, h2⟩ := r
    cases h
    exact .base (.lst (hW.same _ _ h1))
  | tup ds =>
    obtain ⟨a, xs, rfl, h1, h2⟩ := r
    cases h
    exact .base (.tup (hW.same _ _ h1))
  | _ => cases h
/-- isinstance(x, T), both built-in -/
theorem va_isi {d : D} {t n : String} {b : Bool} (ht : tyD d = some t) (hk : kitB t n = some b) (k : κ (B b) w) : VRA K T (rIsi K) [d, .val (.ty n)] w κ := fun F S H xs Q hW r hK => by
  obtain ⟨x, ys, rfl, h1, y, zs, rfl, h2, h3⟩ := r
  have h2' : y = .ty n := h2
  have h3' : zs = [] := h3
  subst h2' h3'
  exact ⟨x, .ty n, .type t, .type n, b, rfl, .ty n, tyx hW ht h1, kit_ty hk, hK _ w _ S H k (Same.refl _) hW rfl⟩
end
end DL

set_option Elab.async false
set_option linter.all false
set_option maxRecDepth 100000
set_option maxHeartbeats 1000000
/-! Usual comprehensions. -/
namespace DL
open PySem PySem.Spec PyProof.Rows L2 LamX
section
variable {X : Cx} {T : List (Addr × Str)} {δ : Dn} {w : Wp} {is vs : List Nat} {tg elt : Expr} {ifs : List Expr} {scope : Scope} {κ : List D → Wp → Prop}
/-- one turn: the item d, the test's answer b, the element y; w stays -/
def TurnD (X : Cx) (T : List (Addr × Str)) (is : List Nat) (tg : Expr) (ifs : List Expr) (elt : Expr) (scope : Scope) (δ : Dn) (w : Wp) (d : D) (b : Bool) (y : D) : Prop :=
  ∀ s H0 C cl fp, PGL (bx X s H0 scope cl C fp) T is tg d δ w fun δ2 w2 => ∀ s H0 C cl fp, PTsD (bx X s H0 scope cl C fp) T ifs δ2 w2 fun b' w3 =>
    if b' = true then ∀ s H0 C cl fp, PD (bx X s H0 scope cl C fp) T Wf noX elt δ2 w3 fun y' w4 => b = true ∧ y' = y ∧ w4 = w else b = false ∧ w3 = w
theorem lcd_ix {ds : List D} (p : Nat → Bool) (f : Nat → D) (hz : ds.length < sizeLine) (turn : ∀ i d, ds[i]? = some d → TurnD X T is tg ifs elt scope (wipeD δ vs) w d (p i) (f i))
    (k : κ (((List.range ds.length).filter p).map f) w) : LcD X T is tg ifs elt scope vs δ κ ds w := by
  refine ⟨hz, fun i acc w' => acc = ((List.range i).filter p).map f ∧ w' = w, ⟨rfl, rfl⟩, ?_, fun acc w' ⟨e1, e2⟩ => by rw [e1, e2]; exact k⟩
  rintro i d acc w' hd ⟨rfl, rfl⟩ s H0 C cl fp
  intro F v σ S H Q r hE hW hK
  refine turn i d hd s H0 C cl fp F v σ S H Q r hE hW fun δ' w' σ' S' H' k' s1 hE1 W1 o1 l1 => ?_
  refine hK δ' w' σ' S' H' (fun s H0 C cl fp => ?_) s1 hE1 W1 o1 l1
  intro F2 σ2 S2 H2 Q2 hE2 W2 hK2
  refine k' s H0 C cl fp F2 σ2 S2 H2 Q2 hE2 W2 fun b w3 S3 H3 k3 s3 W3 => ?_
  refine hK2 b w3 S3 H3 ?_ s3 W3
  try dsimp only at k3 ⊢
  cases b with
  | true =>
    rw [if_pos rfl] at k3 ⊢
    intro s H0 C cl fp
    refine (k3 s H0 C cl fp).imp fun y w4 ⟨e1, e2, e3⟩ => ⟨?_, e3⟩
    rw [e2, List.range_succ, List.filter_append, List.map_append, List.filter_cons, if_pos e1]
    rfl
  | false =>
    rw [if_neg Bool.false_ne_true] at k3 ⊢
    refine ⟨?_, k3.2⟩
    rw [List.range_succ, List.filter_append, List.map_append, List.filter_cons, if_neg (by rw [k3.1]; exact Bool.false_ne_true)]
    show _ = _ ++ []
    rw [List.append_nil]
theorem range_map {α β : Type} (xs : List α) (f : α → β) (g : Nat → β) (h : ∀ i x, xs[i]? = some x → g i = f x) : (List.range xs.length).map g = xs.map f := by
  refine List.ext_getElem (by simp) fun i h1 h2 => ?_
  rw [List.getElem_map, List.getElem_map, List.getElem_range]
  exact h i _ (List.getElem?_eq_getElem (by simpa using h2))
/-- over a list, all items -/
theorem lcd_map {α : Type} {xs : List α} {g : α → D} (f : α → D) (hz : xs.length < sizeLine) (turn : ∀ x ∈ xs, TurnD X T is tg ifs elt scope (wipeD δ vs) w (g x) true (f x)) (k : κ (xs.map f) w) : LcD X T is tg ifs elt scope vs δ κ (xs.map g) w := by
  refine ⟨by rw [List.length_map]; exact hz, fun i acc w' => acc = (xs.take i).map f ∧ w' = w, ⟨rfl, rfl⟩, ?_, fun acc w' ⟨e1, e2⟩ => by rw [e1, e2, List.length_map, List.take_length]; exact k⟩
  rintro i d acc w' hd ⟨rfl, rfl⟩ s H0 C cl fp
  rw [List.getElem?_map] at hd
  cases e : xs[i]? with
  | none =>
    rw [e] at hd
    cases hd
  | some x =>
    rw [e] at hd
    cases hd
    intro F v σ S H Q r hE hW hK
    refine turn x (List.mem_of_getElem? e) s H0 C cl fp F v σ S H Q r hE hW fun δ' w' σ' S' H' k' s1 hE1 W1 o1 l1 => ?_
    refine hK δ' w' σ' S' H' (fun s H0 C cl fp => ?_) s1 hE1 W1 o1 l1
    intro F2 σ2 S2 H2 Q2 hE2 W2 hK2
    refine k' s H0 C cl fp F2 σ2 S2 H2 Q2 hE2 W2 fun b w3 S3 H3 k3 s3 W3 => ?_
    refine hK2 b w3 S3 H3 ?_ s3 W3
    try dsimp only at k3 ⊢
    cases b with
    | true =>
      rw [if_pos rfl] at k3 ⊢
      intro s H0 C cl fp
      refine (k3 s H0 C cl fp).imp fun y w4 ⟨e1, e2, e3⟩ => ⟨?_, e3⟩
      rw [e2, List.take_add_one, e, List.map_append]
      rfl
    | false =>
      rw [if_neg Bool.false_ne_true] at k3
      exact absurd k3.1 (by simp)
/-- over a list, with a test -/
theorem lcd_filter {α : Type} {xs : List α} {g : α → D} (p : α → Bool) (f : α → D) (hz : xs.length < sizeLine) (turn : ∀ x ∈ xs, TurnD X T is tg ifs elt scope (wipeD δ vs) w (g x) (p x) (f x)) (k : κ ((xs.filter p).map f) w) : LcD X T is tg ifs elt scope vs δ κ (xs.map g) w := by
  refine ⟨by rw [List.length_map]; exact hz, fun i acc w' => acc = ((xs.take i).filter p).map f ∧ w' = w, ⟨rfl, rfl⟩, ?_, fun acc w' ⟨e1, e2⟩ => by rw [e1, e2, List.length_map, List.take_length]; exact k⟩
  rintro i d acc w' hd ⟨rfl, rfl⟩ s H0 C cl fp
  rw [List.getElem?_map] at hd
  cases e : xs[i]? with
  | none =>
    rw [e] at hd
    cases hd
  | some x =>
    rw [e] at hd
    cases hd
    intro F v σ S H Q r hE hW hK
    refine turn x (List.mem_of_getElem? e) s H0 C cl fp F v σ S H Q r hE hW fun δ' w' σ' S' H' k' s1 hE1 W1 o1 l1 => ?_
    refine hK δ' w' σ' S' H' (fun s H0 C cl fp => ?_) s1 hE1 W1 o1 l1
    intro F2 σ2 S2 H2 Q2 hE2 W2 hK2
    refine k' s H0 C cl fp F2 σ2 S2 H2 Q2 hE2 W2 fun b w3 S3 H3 k3 s3 W3 => ?_
    refine hK2 b w3 S3 H3 ?_ s3 W3
    have tk : xs.take (i + 1) = xs.take i ++ [x] := by rw [List.take_add_one, e]; rfl
    try dsimp only at k3 ⊢
    cases b with
    | true =>
      rw [if_pos rfl] at k3 ⊢
      intro s H0 C cl fp
      refine (k3 s H0 C cl fp).imp fun y w4 ⟨e1, e2, e3⟩ => ⟨?_, e3⟩
      rw [e2, tk, List.filter_append, List.map_append, List.filter_cons, if_pos e1]
      rfl
    | false =>
      rw [if_neg Bool.false_ne_true] at k3 ⊢
      refine ⟨?_, k3.2⟩
      rw [tk, List.filter_append, List.map_append, List.filter_cons, if_neg (by rw [k3.1]; exact Bool.false_ne_true)]
      show _ = _ ++ []
      rw [List.append_nil]
end
end DL

set_option Elab.async false
set_option linter.all false
set_option maxRecDepth 100000
set_option maxHeartbeats 1000000
/-! Lists that stand or are owned, read alike. -/
namespace DL
open PySem PySem.Spec PyProof.Rows L2 LamX
/-- a list that stands or is owned -/
def Lk (w : Wp) (d : D) (ds : List D) : Prop := d = .lst ds ∨ ∃ a, d = R a ∧ w a = some (.lst ds)
section
variable {K : PySem.W.Frag} {T : List (Addr × Str)} {w : Wp} {κ : D → Wp → Prop}
theorem Lk.at_ {S F H : Hp} {d : D} {ds : List D} {x : V} (l : Lk w d ds) (hW : World K T S w F H) (r : Rep K S d x) : ∃ a xs, x = .ref a ∧ H a = some (.lst xs) ∧ RepL K S ds xs := by
  rcases l with rfl | ⟨a, rfl, hw⟩
  · obtain ⟨a, xs, rfl, h1, h2⟩ := r
    exact ⟨a, xs, rfl, hW.same _ _ h1, h2⟩
  · obtain ⟨_, _, o, h1, h2⟩ := hW.own a _ hw
    obtain ⟨xs, rfl, h2⟩ := h2
    have r' : x = .ref a := r
    exact ⟨a, xs, r', h1, h2⟩
theorem vr_ixK {d : D} {ds : List D} {i : Nat} {e : D} (l : Lk w d ds) (h : ds[i]? = some e) (k : κ e w) : VR2 K T (rIxL K) d (I (i : Int)) w κ := fun F S H x y Q hW r1 r2 hK => by
  obtain ⟨a, xs, rfl, h1, h2⟩ := l.at_ hW r1
  obtain ⟨v, h3, h4⟩ := h2.get h
  exact ⟨a, xs, i, v, rfl, r2, SqL.of h1, ix_at h3, hK e w v S H k (Same.refl _) hW h4⟩
theorem va_lenK {d : D} {ds : List D} (l : Lk w d ds) (k : κ (I (ds.length : Int)) w) : VRA K T (fun xs H Q => ∃ p ys, xs = [.ref p] ∧ (SqL K H p ys ∨ SqT K H p ys) ∧ Q (.int ys.length) H) [d] w κ := fun F S H xs Q hW r hK => by
  obtain ⟨y, ys, rfl, h1, h2⟩ := r
  obtain ⟨a, zs, rfl, h3, h4⟩ := l.at_ hW h1
  have h2' : ys = [] := h2
  subst h2'
  refine ⟨a, zs, rfl, .inl (SqL.of h3), ?_⟩
  rw [h4.length]
  exact hK _ w _ S H k (Same.refl _) hW rfl
theorem va_isiK {d : D} {ds : List D} {n : String} {b : Bool} (l : Lk w d ds) (hk : kitB "list" n = some b) (k : κ (B b) w) : VRA K T (rIsi K) [d, .val (.ty n)] w κ := fun F S H xs Q hW r hK => by
  obtain ⟨x, ys, rfl, h1, y, zs, rfl, h2, h3⟩ := r
  have h2' : y = .ty n := h2
  have h3' : zs = [] := h3
  subst h2' h3'
  obtain ⟨a, xs, rfl, h4, h5⟩ := l.at_ hW h1
  exact ⟨_, .ty n, .type "list", .type n, b, rfl, .ty n, .base (.lst h4), kit_ty hk, hK _ w _ S H k (Same.refl _) hW rfl⟩
end
/-- the same data, n deep -/
inductive Sm : Nat → D → D → Prop
  | non {n : Nat} : Sm n N N
  | bl {n : Nat} (b : Bool) : Sm n (B b) (B b)
  | int {n : Nat} (i : Int) : Sm n (I i) (I i)
  | str {n : Nat} (x : Str) : Sm n (DL.T x) (DL.T x)
  | lst {n : Nat} {ds es : List D} (hl : ds.length = es.length) (hz : es.length ≤ sizeLine) (h : ∀ (i : Nat) (x y : D), ds[i]? = some x → es[i]? = some y → Sm n x y) : Sm (n + 1) (.lst ds) (.lst es)
  | tup {n : Nat} {ds es : List D} (hl : ds.length = es.length) (hz : es.length ≤ sizeLine) (h : ∀ (i : Nat) (x y : D), ds[i]? = some x → es[i]? = some y → Sm n x y) : Sm (n + 1) (.tup ds) (.tup es)
theorem Sm.map {α : Type} {n : Nat} {xs : List α} {f g : α → D} (hz : xs.length ≤ sizeLine) (h : ∀ x ∈ xs, Sm n (f x) (g x)) : Sm (n + 1) (.lst (xs.map f)) (.lst (xs.map g)) := by
  refine .lst (by rw [List.length_map, List.length_map]) (by rw [List.length_map]; exact hz) fun i x y h1 h2 => ?_
  rw [List.getElem?_map] at h1 h2
  cases e : xs[i]? with
  | none =>
    rw [e] at h1
    cases h1
  | some z =>
    rw [e] at h1 h2
    cases h1
    cases h2
    exact h z (List.mem_of_getElem? e)
theorem Sm.nil {n : Nat} : Sm (n + 1) (.lst []) (.lst []) := .lst rfl (Nat.zero_le _) fun i x y h _ => by simp at h
theorem Sm.cons {n : Nat} {d e : D} {ds es : List D} (h : Sm n d e) (k : Sm (n + 1) (.lst ds) (.lst es)) (hz : es.length + 1 ≤ sizeLine) : Sm (n + 1) (.lst (d :: ds)) (.lst (e :: es)) := by
  cases k with
  | lst hl hz' h' =>
    refine .lst (by simp [hl]) (by simpa using hz) fun i x y h1 h2 => ?_
    cases i with
    | zero =>
      cases h1
      cases h2
      exact h
    | succ i => exact h' i x y h1 h2
end DL

set_option Elab.async false
set_option linter.all false
set_option maxRecDepth 100000
set_option maxHeartbeats 1000000
/-! Dicts that stand: made by a comprehension, read by a key; ranges from their end. -/
namespace DL
open PySem PySem.Spec PyProof.Rows L2 LamX
section
variable {X : Cx} {T : List (Addr × Str)} {W : WX} {χ : XD} {δ : Dn} {w : Wp} {pos : Pos}
def downs (n : Nat) : List D := (List.range n).map fun (k : Nat) => I (((n - 1 - k : Nat)) : Int)
theorem downs_len (n : Nat) : (downs n).length = n := by unfold downs; rw [List.length_map, List.length_range]
theorem downs_at {n i : Nat} {d : D} (h : (downs n)[i]? = some d) : i < n ∧ d = I (((n - 1 - i : Nat)) : Int) := by
  unfold downs at h
  rw [List.getElem?_map] at h
  by_cases hi : i < n
  · rw [List.getElem?_range hi] at h
    exact ⟨hi, (Option.some.inj h).symm⟩
  · rw [List.getElem?_eq_none (by simpa using hi)] at h
    cases h
/-- reversed(range(n)) -/
theorem it_revR {tg e : Expr} {p p2 pos2 : Pos} {κ : List D → Wp → Prop} (hm : X.mg "reversed" = none) (hm2 : X.mg "range" = none) (h : PD X T W χ e δ w fun d w1 => ∃ n : Nat, d = I (n : Int) ∧ (n : Int) < 2 ^ 62 ∧ κ (downs n) w1)
    (hg : Gl X "reversed" := by rfl) (hg2 : Gl X "range" := by rfl) (he : starEach [e] X.env = (false, eval e X.env) :: starEach [] X.env := by rfl)
    (he2 : starEach [.Call (.Name "range" p2) [e] [] pos2] X.env = (false, eval (.Call (.Name "range" p2) [e] [] pos2) X.env) :: starEach [] X.env := by rfl) :
    IterD X T W χ tg (.Call (.Name "reversed" p) [.Call (.Name "range" p2) [e] [] pos2] [] pos) δ w κ :=
  ⟨_, pi_revR hg hm (prg_1 hg2 hm2 (pe_wp e) he) he2, fun F σ S H R hE hW hX hK => by
    refine h F σ S H _ hE hW hX fun d w1 v S1 H1 k s1 W1 r => ?_
    obtain ⟨n, rfl, hn, k⟩ := k
    have r' : v = .int (n : Int) := r
    refine ⟨n, r', by decide, by decide, by omega, hn, ?_⟩
    have en : (((n : Int)) - 0).toNat = n := by omega
    rw [en]
    have ww := walk_rangeC (lo := (0 : Int) + ((n : Nat) : Int) - 1) (c := -1) (n := n)
    refine hK (downs n) w1 S1 H1 _ _ _ k s1 W1 (by rw [downs_len]; exact ww) (fun S2 w2 F2 H2 s2 W2 => True.intro) fun i d S2 w2 F2 H2 x H3 hd s2 W2 y => ?_
    obtain ⟨rfl, hx⟩ := y
    obtain ⟨hi, rfl⟩ := downs_at hd
    refine ⟨S2, Same.refl _, W2, ?_⟩
    show x = .int ((n - 1 - i : Nat) : Int)
    rw [hx]
    show V.int (0 + (n : Int) - 1 + (i : Int) * (-1)) = _
    congr 1
    omega⟩
/-- d[k] -/
theorem pd_dget {o i : Expr} {κ : D → Wp → Prop} (hu : X.A.units + 1 < cLine) (h : PD X T W χ o δ w fun d w1 => PD X T W χ i δ w1 fun e w2 => ∃ kvs k v, d = .dic kvs ∧ e = .val (kV k) ∧ valV kvs k = some v ∧ κ (.val v) w2)
    (hs : NoSl i := by exact fun _ _ => rfl) : PD X T W χ (.Subscript o i pos) δ w κ := fun F σ S H Q hE hW hX hK =>
  wp_pe (pe_dget hu (pe_wp o) (pe_wp i) hs) (by
    refine h F σ S H _ hE hW hX fun d w1 x S1 H1 k s1 W1 r1 => ?_
    refine k F σ S1 H1 _ (hE.mono s1) W1 (hX.mono s1) fun e w2 y S2 H2 k2 s2 W2 r2 => ?_
    obtain ⟨kvs, ky, v, rfl, rfl, hv, k2⟩ := k2
    obtain ⟨a, rfl, ha⟩ := r1
    have r2' : y = kV ky := r2
    subst r2'
    refine ⟨a, v, rfl, .inl ⟨kvs, ky, .inl (W2.same _ _ (s2 _ _ ha)), rfl, hv.symm⟩, ?_⟩
    exact hK _ w2 _ S2 H2 k2 (s1.trans s2) W2 rfl)
/-- the turns of a dict's comprehension over what is walked -/
theorem dc_turns {J : It} {n : Nat} {G : Hp → Prop} {Y : Nat → Hp → V → Hp → Prop} (w : Walk J n G Y) {g : TG} {tt : TT} {tk tv : TE} {vs : List Nat} {σ : L2.St} {H1 : Hp} {L : Addr} {Qd : Hp → Prop} (Pv : Nat → Hp → Prop)
    (h0 : Pv 0 (upd H1 L (.dK []))) (hG : ∀ i H, i ≤ n → Pv i H → G H)
    (hs : ∀ i x H H', i < n → Pv i H → Y i H x H' → g x (L2.wipe σ vs) H' fun σ2 H2 => L2.wipe σ2 vs = L2.wipe σ vs ∧ tt σ2 H2 fun b H3 =>
      if b = true then tk σ2 H3 fun y H4 => tv σ2 H4 fun z H5 => ∃ kvs k, y = kV k ∧ H5 L = some (.dK kvs) ∧ kvs.length < sizeLine ∧ Pv (i + 1) (upd H5 L (.dK (putK kvs k z))) else Pv (i + 1) H3)
    (hd : ∀ H, Pv n H → Qd H) : ∃ W : Nat → Nat → Hp → Prop, (∃ m, W 0 m (upd H1 L (.dK []))) ∧ ∀ i m H, W i m H →
      (J.stop i H ∧ Qd H) ∨ (J.go i H ∧ ∃ Nx : Hp → Prop, (∀ H', Nx H' → ∃ m', m' < m ∧ W (i + 1) m' H') ∧ ∀ x H', J.yld i H x H' → g x (L2.wipe σ vs) H' fun σ2 H2 => L2.wipe σ2 vs = L2.wipe σ vs ∧ tt σ2 H2 fun b H3 =>
        if b = true then tk σ2 H3 fun y H4 => tv σ2 H4 fun z H5 => ∃ kvs k, y = kV k ∧ H5 L = some (.dK kvs) ∧ kvs.length < sizeLine ∧ Nx (upd H5 L (.dK (putK kvs k z))) else Nx H3) :=
  ⟨fun i m H => m = n - i ∧ i ≤ n ∧ Pv i H, ⟨n, rfl, Nat.zero_le _, h0⟩, by
    intro i m H h
    obtain ⟨hm, hi, p⟩ := h
    have gg := hG i H hi p
    cases Nat.lt_or_ge i n with
    | inl hlt =>
      exact Or.inr ⟨w.goes i H hlt gg, Pv (i + 1), (fun H' p' => ⟨n - (i + 1), (by omega), rfl, hlt, p'⟩), fun x H' y => hs i x H H' hlt p (w.yields i H x H' hlt gg y)⟩
    | inr hge =>
      obtain rfl : i = n := Nat.le_antisymm hi hge
      exact Or.inl ⟨w.stops H gg, hd H p⟩⟩
/-- what a dict's comprehension (without a test) asks -/
def DcD (X : Cx) (T : List (Addr × Str)) (is : List Nat) (tg kx vx : Expr) (scope : Scope) (vs : List Nat) (δ : Dn) (κ : List (Key × V) → Wp → Prop) (ds : List D) (w1 : Wp) : Prop :=
  ds.length < sizeLine ∧ ∃ Pv : Nat → List (Key × V) → Wp → Prop, Pv 0 [] w1 ∧
    (∀ (i : Nat) (d : D) acc w', ds[i]? = some d → Pv i acc w' → ∀ s H0 C cl fp, PGL (bx X s H0 scope cl C fp) T is tg d (wipeD δ vs) w' fun δ2 w2 => ∀ s H0 C cl fp, PD (bx X s H0 scope cl C fp) T Wf noX kx δ2 w2 fun kd w3 =>
      ∀ s H0 C cl fp, PD (bx X s H0 scope cl C fp) T Wf noX vx δ2 w3 fun vd w4 => ∃ k v, kd = .val (kV k) ∧ vd = .val v ∧ Pv (i + 1) (putK acc k v) w4) ∧
    ∀ acc w', Pv ds.length acc w' → κ acc w'
theorem ptsx_nil {scope : Scope} (s : Shared) (H : Hp) (C : Addr) (cl : List (Str × Addr)) (fp : List Addr) : PTs (X.blk s H scope (compEnvC scope cl C X.env) fp) [] (fun σ H Q => Q true H) := pts_nil
theorem pd_dc {kx vx tg iter : Expr} {scope : Scope} (own : List (Str × Nat)) (is : List Nat) {κ : D → Wp → Prop} (hc : X.calm = true) (hN : X.N.Nodup) (ok : BlkOk X.N X.env.scope scope own) (hsub : ∀ i ∈ is, i ∈ own.map (·.2))
    (h : IterD X T W χ tg iter δ w (DcD X T is tg kx vx scope (own.map (·.2)) δ (fun acc w' => κ (.dic acc) w'))) (hs : ∀ x, foldedSetIterable iter X.env x = pure x := by intro _; rfl) : PD X T W χ (.DictComp kx vx [⟨tg, iter, [], 0⟩] scope pos) δ w κ := fun F σ S H Q hE hW hX hK => by
  obtain ⟨wi, hi, h⟩ := h
  refine wp_pe (pe_dc hc hN hi ok pg_bx ptsx_nil pe_bx pe_bx hs) ?_
  refine h F σ S H _ hE hW hX fun ds w1 S1 H1 J G Y k s1 W1 ww hG hY L nL => ?_
  obtain ⟨hz, Pv, p0, turn, done⟩ := k
  have fL : F L = none := (W1.free nL).2.2
  refine dc_turns ww (g := lcG X scope tg) (tt := fun σ H Q => Q true H) (tk := lcE X scope kx) (tv := lcE X scope vx) (vs := own.map (·.2)) (σ := σ) (H1 := H1) (L := L) (Qd := fun H => Q (.ref L) H) (fun i H' => ∃ acc w' S', Pv i acc w' ∧ acc.length ≤ i ∧ Same S1 S' ∧ World X.K T S' w' (upd F L (.dK acc)) H') ?_ (fun i H' _ ⟨acc, w', S', _, _, s2, W2⟩ => hG S' w' _ H' s2 W2) ?_ ?_
  · exact ⟨[], w1, S1, p0, Nat.le_refl _, Same.refl _, W1.takeF nL (fun _ z => by cases z)⟩
  · rintro i x H' H3 hi ⟨acc, w', S', pv, hacc, s2, W2⟩ y
    obtain ⟨S3, s3, W3, r⟩ := hY i ds[i] S' w' _ H' x H3 (List.getElem?_eq_getElem hi) s2 W2 y
    intro s H0 C cl fp
    refine turn i ds[i] acc w' (List.getElem?_eq_getElem hi) pv s H0 C cl fp (upd F L (.dK acc)) x (L2.wipe σ (own.map (·.2))) S3 H3 _ r ((hE.mono (s1.trans (s2.trans s3))).wipe _) W3 fun δ2 w2 σ2 S4 H4 k s4 hE4 W4 o4 l4 => ?_
    refine ⟨?_, ?_⟩
    · rw [wipe_eq (σ1 := L2.wipe σ (own.map (·.2))) (σ2 := σ2) l4 fun j hj => o4 j fun z => hj (hsub j z)]
      exact wipe_eq (L2.wipe_length σ _) fun j hj => L2.wipe_out hj
    · show (if true = true then _ else _)
      rw [if_pos rfl]
      intro s H0 C cl fp
      refine k s H0 C cl fp (upd F L (.dK acc)) σ2 S4 H4 _ hE4 W4 exf fun kd w5 y5 S5 H5 k5 s5 W5 r5 => ?_
      intro s H0 C cl fp
      refine k5 s H0 C cl fp (upd F L (.dK acc)) σ2 S5 H5 _ (hE4.mono s5) W5 exf fun vd w6 z6 S6 H6 k6 s6 W6 r6 => ?_
      obtain ⟨ky, v, rfl, rfl, k6⟩ := k6
      have r5' : y5 = kV ky := r5
      have r6' : z6 = v := r6
      subst r5' r6'
      refine ⟨acc, ky, rfl, (W6.frm L _ upd_same).2, by omega, putK acc ky z6, w6, S6, k6, ?_, s2.trans (s3.trans (s4.trans (s5.trans s6))), ?_⟩
      · have := length_putK acc ky z6
        omega
      · have W7 := W6.putF (o := .dK (putK acc ky z6)) upd_same (fun _ z => by cases z) (fun _ z => by cases z) (fun _ z => by cases z)
        rw [upd_upd] at W7
        exact W7
  · rintro H' ⟨acc, w', S', pv, hacc, s2, W2⟩
    obtain ⟨e1, W3⟩ := W2.freezeF fL fun _ z => by cases z
    have s3 : Same S' (upd S' L (.dK acc)) := same_upd e1
    exact hK _ w' _ _ H' (done acc w' pv) (s1.trans (s2.trans s3)) W3 ⟨L, rfl, upd_same⟩
end
end DL

set_option Elab.async false
set_option linter.all false
set_option maxRecDepth 100000
set_option maxHeartbeats 1000000
/-! Dicts whose keys are tuples: made by a comprehension without a test, read by a key. -/
namespace DL
open PySem PySem.Spec PyProof.Rows L2 LamX
section
variable {X : Cx}
/-- the store of one pair, the key a tuple -/
theorem store_tk {pins : List (Addr × Obj)} {σ : L2.St} {H : Hp} {s : Shared} {E : Value → Shared → Prop} {L b : Addr} {kvs : List (List Key × V)} {ks : List Key} {z : V} {r : Value} {Q : Unit → Shared → Prop} (room : X.A.units < cLine) (I : Inv X pins σ H s)
    (atL : H L = some (.dT kvs)) (atb : H b = some (.tup (ks.map kV))) (few : kvs.length < sizeLine) (rz : RelV z r) (go : ∀ s', Inv X pins σ (upd H L (.dT (putK kvs ks z))) s' → Q () s') : wpAny (model X.prog X.w) X.A (dictSet L (.ref b) r) Q E s := by
  obtain ⟨c1, c2, xs, rel, dd⟩ := dt_of I.hok atL
  have c3 : xs.length ≤ sizeLine := (Paired.length rel).symm ▸ c1
  have c4 := length_putK kvs ks z
  refine wpAny_dictSet_heap (hsz := c3) (show (tupleKind (mixKind X.prog X.w)).room X.A from room) (key_of I.hok atb) dd (fun h' dd' sb => go _ ?_)
  obtain ⟨ob, es, ep, g1, g2, g3, g4, _, g5⟩ := dd'
  refine d_write I (by rw [atL]; exact True.intro) sb ⟨ob, g1⟩ ⟨by omega, c2, _, (rel.put ks atb rz).keeps (fun c ys ec => ?_), ob, es, ep, g1, g2, g3, g4, g5⟩
  rw [upd_ne (ne_of ec atL (fun q => nomatch q))]
  exact ec
def tDcT (wi : TI) (g : TG) (tk tv : TE) (vs : List Nat) : TE := fun σ H Q => wi σ H fun J H1 => ∀ L, H1 L = none → ∃ Wt : Nat → Nat → Hp → Prop, (∃ m, Wt 0 m (upd H1 L (.dT []))) ∧ ∀ i m Hi, Wt i m Hi →
  (J.stop i Hi ∧ Q (.ref L) Hi) ∨ (J.go i Hi ∧ ∃ Nx : Hp → Prop, (∀ Hn, Nx Hn → ∃ m', m' < m ∧ Wt (i + 1) m' Hn) ∧ ∀ x Hy, J.yld i Hi x Hy → g x (L2.wipe σ vs) Hy fun σ2 H2 => L2.wipe σ2 vs = L2.wipe σ vs ∧
    tk σ2 H2 fun y H4 => tv σ2 H4 fun z H5 => ∃ kvs ks b, y = .ref b ∧ H5 b = some (.tup (ks.map kV)) ∧ H5 L = some (.dT kvs) ∧ kvs.length < sizeLine ∧ Nx (upd H5 L (.dT (putK kvs ks z))))
theorem pe_dcT {kx vx tg iter : Expr} {scope : Scope} {own : List (Str × Nat)} {pos : Pos} {wi : TI} {g : TG} {tk tv : TE} (room : X.A.units < cLine) (hc : X.calm = true) (hN : X.N.Nodup) (hi : PI X tg iter wi) (ok : BlkOk X.N X.env.scope scope own)
    (pg0 : ∀ (s : Shared) (H : Hp) (C : Addr) (cl : List (Str × Addr)) (fp : List Addr), PG (X.blk s H scope (compEnvC scope cl C X.env) fp) tg g)
    (pk0 : ∀ (s : Shared) (H : Hp) (C : Addr) (cl : List (Str × Addr)) (fp : List Addr), PE (X.blk s H scope (compEnvC scope cl C X.env) fp) kx tk)
    (pv0 : ∀ (s : Shared) (H : Hp) (C : Addr) (cl : List (Str × Addr)) (fp : List Addr), PE (X.blk s H scope (compEnvC scope cl C X.env) fp) vx tv) (hs : ∀ x, foldedSetIterable iter X.env x = pure x := by intro _; rfl) :
    PE X (.DictComp kx vx [⟨tg, iter, [], 0⟩] scope pos) (tDcT wi g tk tv (own.map (·.2))) := ⟨fun pins s σ H Q I q0 => by
  rw [arm_eval_DictComp]
  have closes : ∀ y ∈ scope.names, y.2 = .free → ∃ c, X.env.cells.lookup y.1 = some c := by
    intro y hy e
    cases ok.free y hy e with
    | inl k => exact I.ok.has _ (Or.inl k)
    | inr k => exact I.ok.has _ (Or.inr k)
  refine wpAny_comprehension_free (use := none) rfl hs (closure_ok closes) ok.kind (fun y hy e => (ok.uniq y hy).trans (congrArg some e)) ?_
  refine thn (hi.run pins s σ H _ I q0) (fun xv sa hx => thn hx (fun itv sb hb => ?_))
  obtain ⟨it, fp, tn, J, Hb, rfl, Ib, Tr, at0, fpb, q1⟩ := hb
  refine wpAny_newObj_type (newEnv_comp ?_)
  generalize eL : sb.heap.objs.size = L
  have freeL : Hb L = none := Ib.hok.fresh (Nat.le_of_eq eL)
  obtain ⟨Wt, ⟨m0, w0⟩, turns⟩ := q1 L freeL
  generalize esc : ({ sb with heap := sb.heap.push { cls := .type "dict", data := .dict #[] } } : Shared) = sc
  have hsc : sc.heap = sb.heap.push { cls := .type "dict", data := .dict #[] } := esc ▸ rfl
  have Ic : Inv X pins σ (upd Hb L (.dT [])) sc := by
    subst esc
    subst eL
    exact Ib.laid (t' := sb.toks) (fun b o e => Heap.get?_push_of_some _ e) (Nat.le_refl _) (dt_empty sb.heap Ib.big)
  have below : ∀ b ∈ fp, b < sb.heap.objs.size := by
    intro b hb
    obtain ⟨o, e, _⟩ := Tr.obj _ _ at0 b hb
    exact Heap.lt_size e
  have fpc : ∀ b ∈ fp, FpOk X pins (upd Hb L (.dT [])) b ∧ b < sc.heap.objs.size := by
    intro b hb
    have lt := below b hb
    refine ⟨⟨?_, (fpb b hb).2⟩, ?_⟩
    · rw [upd_ne (eL ▸ Nat.ne_of_lt lt)]
      exact (fpb b hb).1
    · rw [hsc, Heap.size_push]
      exact Nat.lt_succ_of_lt lt
  have at1 : tn 0 sc.heap := Tr.keep _ _ _ at0 (fun b _ o e => hsc ▸ Heap.get?_push_of_some _ e)
  have Id := block_start Ic ok hN fpc
  generalize ecl : cellsFrom (sc.heap.objs.size + 1) scope.names (cloFrom X.env.cells scope.names []) = cl at Id
  have pg := pg0 sc (upd Hb L (.dT [])) sc.heap.objs.size cl fp
  have pk := pk0 sc (upd Hb L (.dT [])) sc.heap.objs.size cl fp
  have pv := pv0 sc (upd Hb L (.dT [])) sc.heap.objs.size cl fp
  have nfp : ∀ b ∈ fp, (upd Hb L (.dT [])) b = none := fun b hb => (fpc b hb).1.1
  have goal : codeAny (model X.prog X.w) X.A (.compStart (.DictComp kx vx [⟨tg, iter, [], 0⟩] scope pos) 0 (.ref it) (.ref L) (compEnvC scope cl sc.heap.objs.size X.env)) (compPost (model X.prog X.w) X.A X.xe none (EP X pins σ Q) (.ref L) sc.heap.objs.size) { sc with heap := pushCells (sc.heap.push { cls := .type "dict", data := .dict #[] }) scope.names } := by
    generalize ece : compEnvC scope cl sc.heap.objs.size X.env = ce at Id pg pk pv ⊢
    have ceL : ce.locals = sc.heap.objs.size := ece ▸ rfl
    generalize eH : upd Hb L (.dT []) = Hc at Ic Id pg pk pv w0 nfp fpc
    generalize esd : ({ sc with heap := pushCells (sc.heap.push { cls := .type "dict", data := .dict #[] }) scope.names } : Shared) = sd at Id ⊢
    have at2 : tn 0 sd.heap := Tr.keep _ _ _ at1 (fun b _ o e => esd ▸ pushCells_keeps _ _ _ _ (Heap.get?_push_of_some _ e))
    have calmB : (X.blk sc Hc scope ce fp).calm = true := hc
    have fpB : ∀ {σ' : L2.St} {H' : Hp} {s' : Shared}, Inv (X.blk sc Hc scope ce fp) [] σ' H' s' → (∀ b ∈ fp, H' b = none) → ∀ b ∈ fp, FpOk (X.blk sc Hc scope ce fp) [] H' b := by
      intro σ' H' s' I' n' b hb
      refine ⟨n' b hb, (I'.ok.exf b hb).1, I'.ok.exfs b hb, .inl hb, (fun x c e => (I'.ok.exf b hb).2 x c e), ?_⟩
      intro p hp
      have hp' : p ∈ ([] : List (Addr × Obj)) ++ [] := hp
      simp at hp'
    refine codeAny_compStart_dict (rest := []) ?loop (Tr.self X.A 0 _ _ _ at2 ?loop)
    case loop =>
    refine compLoop_anyD (fun n s' => ∃ i H', Inv (X.blk sc Hc scope ce fp) [] (L2.wipe σ (own.map (·.2))) H' s' ∧ tn i s'.heap ∧ (∀ b ∈ fp, H' b = none) ∧ Wt i n H') ?_ m0 ⟨0, Hc, Id, at2, nfp, w0⟩
    rintro n se ⟨i, He, Ie, ate, ne, we⟩
    cases turns i n He we with
    | inl st =>
      obtain ⟨stop, qe⟩ := st
      refine thnF (Tr.done (X.blk sc Hc scope ce fp) rfl rfl rfl calmB i [] se _ He (fun _ _ => False) Ie (fpB Ie ne) ate stop) (fun r sf hr => ?_)
      obtain ⟨rfl, If⟩ := hr
      have Ig : Inv X pins σ He sf := by
        refine Ic.call' (ch := fp) If.os If.base If.hok If.bare (fun b hb => ?_)
        obtain ⟨⟨_, y1, y2, y3, y4, y5⟩, _⟩ := fpc b hb
        exact ⟨y3, y1, y4, y5⟩
      have nC : He sc.heap.objs.size = none := by
        have q := If.free
        exact ceL ▸ q
      obtain ⟨m, hn, _⟩ := If.loc
      have hn' : sf.heap.Ns sc.heap.objs.size m := by
        have q : sf.heap.Ns ce.locals m := hn
        exact ceL ▸ q
      refine ⟨m, hn', fun h'' sbb => ?_⟩
      obtain ⟨y0, y1, y2, y3, y4, y5⟩ := Ic.fpOk (Nat.le_refl _) nC
      exact ⟨.ref L, He, Ig.turned (t' := sf.toks) (fun b o hb e => (sbb.2 b hb).trans e) y0 y1 y3 y4 y5, rfl, qe⟩
    | inr gn =>
      obtain ⟨go, Nx, hNx, step⟩ := gn
      refine thnF (Tr.item (X.blk sc Hc scope ce fp) rfl rfl rfl calmB i [] se _ He (fun _ _ => False) Ie (fpB Ie ne) ate go) (fun r sf hr => ?_)
      obtain ⟨u, rfl, hu⟩ := hr
      refine thnF hu (fun _ sg hg => ?_)
      obtain ⟨x, Hg, Ig, rg, yg, atg, ng⟩ := hg
      have Ig' := Ig.pinned (fpB Ig ng) (Tr.obj _ _ atg)
      refine thnF (pg.run _ sg _ Hg x u _ Ig' rg (step x Hg yg)) (fun _ sh hh => ?_)
      obtain ⟨σ8, Hh, Ih, wh, qh⟩ := hh
      show wpAny _ _ (pure true) _ _ _
      refine wpAny_pure ?_
      rw [if_pos rfl]
      refine thnF (pk.run _ sh σ8 Hh _ Ih qh) (fun kv si hk => ?_)
      obtain ⟨yk, Hi, Ii, ri, qi⟩ := hk
      refine thnF (pv.run _ si σ8 Hi _ Ii qi) (fun vv sj hv => ?_)
      obtain ⟨yv, Hj, Ij, rj, kvs, ks, b, rfl, atb, atL, few, nx⟩ := hv
      obtain rfl : kv = Value.ref b := ri
      refine store_tk (X := X.blk sc Hc scope ce fp) room Ij atL atb few rj (fun sk Ik => ?_)
      obtain ⟨m', lt, wn⟩ := hNx _ nx
      have stay : ∀ c ∈ fp, ∀ o, sg.heap.get? c = some o → sk.heap.get? c = some o ∧ (upd Hj L (.dT (putK kvs ks yv))) c = none := by
        intro c hc' o e
        have z := Ik.pin (c, o) (List.mem_append_right _ (List.mem_append_right _ (mem_pinsAt hc' e)))
        exact ⟨z.1, z.2.1⟩
      have len : (L2.wipe σ (own.map (·.2))).length = σ8.length := wh ▸ L2.wipe_length σ8 _
      refine ⟨m', lt, i + 1, _, (Ik.unpinned (pins := [])).weak len (fun j v e => ?_), Tr.keep _ _ _ atg (fun c hc' o e => (stay c hc' o e).1), (fun c hc' => ?_), wn⟩
      · exact (wipe_some (wh ▸ e)).1
      · obtain ⟨o, e, _⟩ := Tr.obj _ _ atg c hc'
        exact (stay c hc' o e).2
  subst ecl
  exact goal⟩
end
section
variable {X : Cx} {T : List (Addr × Str)} {W : WX} {χ : XD} {δ : Dn} {w : Wp} {pos : Pos}
/-- d[k], k a tuple -/
theorem pd_dgetT {o i : Expr} {κ : D → Wp → Prop} (hu : X.A.units + 1 < cLine) (h : PD X T W χ o δ w fun d w1 => PD X T W χ i δ w1 fun e w2 => ∃ kvs ks v, d = .dct kvs ∧ e = .tup (ks.map fun k => .val (kV k)) ∧ valV kvs ks = some v ∧ κ (.val v) w2)
    (hs : NoSl i := by exact fun _ _ => rfl) : PD X T W χ (.Subscript o i pos) δ w κ := fun F σ S H Q hE hW hX hK =>
  wp_pe (pe_dget hu (pe_wp o) (pe_wp i) hs) (by
    refine h F σ S H _ hE hW hX fun d w1 x S1 H1 k s1 W1 r1 => ?_
    refine k F σ S1 H1 _ (hE.mono s1) W1 (hX.mono s1) fun e w2 y S2 H2 k2 s2 W2 r2 => ?_
    obtain ⟨kvs, ks, v, rfl, rfl, hv, k2⟩ := k2
    obtain ⟨a, rfl, ha⟩ := r1
    obtain ⟨b, xs, rfl, hb, hxs⟩ := r2
    have ex : xs = ks.map kV := by
      have e2 : (ks.map fun k => D.val (kV k)) = (ks.map kV).map D.val := by rw [List.map_map]; rfl
      rw [e2] at hxs
      exact hxs.vals
    subst ex
    refine ⟨a, v, rfl, .inr ⟨kvs, ks, b, .inl (W2.same _ _ (s2 _ _ ha)), rfl, W2.same _ _ hb, hv.symm⟩, ?_⟩
    exact hK _ w2 _ S2 H2 k2 (s1.trans s2) W2 rfl)
/-- what a dict's comprehension with tuples as keys asks -/
def DcDT (X : Cx) (T : List (Addr × Str)) (is : List Nat) (tg kx vx : Expr) (scope : Scope) (vs : List Nat) (δ : Dn) (κ : List (List Key × V) → Wp → Prop) (ds : List D) (w1 : Wp) : Prop :=
  ds.length < sizeLine ∧ ∃ Pv : Nat → List (List Key × V) → Wp → Prop, Pv 0 [] w1 ∧
    (∀ (i : Nat) (d : D) acc w', ds[i]? = some d → Pv i acc w' → ∀ s H0 C cl fp, PGL (bx X s H0 scope cl C fp) T is tg d (wipeD δ vs) w' fun δ2 w2 => ∀ s H0 C cl fp, PD (bx X s H0 scope cl C fp) T Wf noX kx δ2 w2 fun kd w3 =>
      ∀ s H0 C cl fp, PD (bx X s H0 scope cl C fp) T Wf noX vx δ2 w3 fun vd w4 => ∃ ks v, kd = .tup (ks.map fun k => .val (kV k)) ∧ vd = .val v ∧ Pv (i + 1) (putK acc ks v) w4) ∧
    ∀ acc w', Pv ds.length acc w' → κ acc w'
theorem pd_dcT {kx vx tg iter : Expr} {scope : Scope} (own : List (Str × Nat)) (is : List Nat) {κ : D → Wp → Prop} (room : X.A.units < cLine) (hc : X.calm = true) (hN : X.N.Nodup) (ok : BlkOk X.N X.env.scope scope own) (hsub : ∀ i ∈ is, i ∈ own.map (·.2))
    (h : IterD X T W χ tg iter δ w (DcDT X T is tg kx vx scope (own.map (·.2)) δ (fun acc w' => κ (.dct acc) w'))) (hs : ∀ x, foldedSetIterable iter X.env x = pure x := by intro _; rfl) : PD X T W χ (.DictComp kx vx [⟨tg, iter, [], 0⟩] scope pos) δ w κ := fun F σ S H Q hE hW hX hK => by
  obtain ⟨wi, hi, h⟩ := h
  refine wp_pe (pe_dcT room hc hN hi ok pg_bx pe_bx pe_bx hs) ?_
  refine h F σ S H _ hE hW hX fun ds w1 S1 H1 J G Y k s1 W1 ww hG hY L nL => ?_
  obtain ⟨hz, Pv, p0, turn, done⟩ := k
  have fL : F L = none := (W1.free nL).2.2
  refine ⟨fun i m Hi => m = ds.length - i ∧ i ≤ ds.length ∧ ∃ acc w' S', Pv i acc w' ∧ acc.length ≤ i ∧ Same S1 S' ∧ World X.K T S' w' (upd F L (.dT acc)) Hi, ⟨_, rfl, Nat.zero_le _, [], w1, S1, p0, Nat.le_refl _, Same.refl _, W1.takeF nL (fun _ z => by cases z)⟩, ?_⟩
  rintro i m H' ⟨rfl, hi, acc, w', S', pv, hacc, s2, W2⟩
  have gg := hG S' w' _ H' s2 W2
  cases Nat.lt_or_ge i ds.length with
  | inr ge =>
    obtain rfl : i = ds.length := Nat.le_antisymm hi ge
    refine .inl ⟨ww.stops H' gg, ?_⟩
    obtain ⟨e1, W3⟩ := W2.freezeF fL fun _ z => by cases z
    have s3 : Same S' (upd S' L (.dT acc)) := same_upd e1
    exact hK _ w' _ _ H' (done acc w' pv) (s1.trans (s2.trans s3)) W3 ⟨L, rfl, upd_same⟩
  | inl hlt =>
    refine .inr ⟨ww.goes i H' hlt gg, fun Hn => ∃ acc w' S', Pv (i + 1) acc w' ∧ acc.length ≤ i + 1 ∧ Same S1 S' ∧ World X.K T S' w' (upd F L (.dT acc)) Hn, fun Hn p => ⟨ds.length - (i + 1), by omega, rfl, hlt, p⟩, fun x H3 y => ?_⟩
    obtain ⟨S3, s3, W3, r⟩ := hY i ds[i] S' w' _ H' x H3 (List.getElem?_eq_getElem hlt) s2 W2 (ww.yields i H' x H3 hlt gg y)
    intro s H0 C cl fp
    refine turn i ds[i] acc w' (List.getElem?_eq_getElem hlt) pv s H0 C cl fp (upd F L (.dT acc)) x (L2.wipe σ (own.map (·.2))) S3 H3 _ r ((hE.mono (s1.trans (s2.trans s3))).wipe _) W3 fun δ2 w2 σ2 S4 H4 k s4 hE4 W4 o4 l4 => ?_
    refine ⟨?_, ?_⟩
    · rw [wipe_eq (σ1 := L2.wipe σ (own.map (·.2))) (σ2 := σ2) l4 fun j hj => o4 j fun z => hj (hsub j z)]
      exact wipe_eq (L2.wipe_length σ _) fun j hj => L2.wipe_out hj
    intro s H0 C cl fp
    refine k s H0 C cl fp (upd F L (.dT acc)) σ2 S4 H4 _ hE4 W4 exf fun kd w5 y5 S5 H5 k5 s5 W5 r5 => ?_
    intro s H0 C cl fp
    refine k5 s H0 C cl fp (upd F L (.dT acc)) σ2 S5 H5 _ (hE4.mono s5) W5 exf fun vd w6 z6 S6 H6 k6 s6 W6 r6 => ?_
    obtain ⟨ks, v, rfl, rfl, k6⟩ := k6
    obtain ⟨b, xs, rfl, hb, hxs⟩ := r5
    have ex : xs = ks.map kV := by
      have e2 : (ks.map fun k => D.val (kV k)) = (ks.map kV).map D.val := by rw [List.map_map]; rfl
      rw [e2] at hxs
      exact hxs.vals
    subst ex
    have r6' : z6 = v := r6
    subst r6'
    refine ⟨acc, ks, b, rfl, W6.same _ _ (s6 _ _ hb), (W6.frm L _ upd_same).2, by omega, putK acc ks z6, w6, S6, k6, ?_, s2.trans (s3.trans (s4.trans (s5.trans s6))), ?_⟩
    · have := length_putK acc ks z6
      omega
    · have W7 := W6.putF (o := .dT (putK acc ks z6)) upd_same (fun _ z => by cases z) (fun _ z => by cases z) (fun _ z => by cases z)
      rw [upd_upd] at W7
      exact W7
end
end DL

set_option Elab.async false
set_option linter.all false
set_option maxRecDepth 100000
set_option maxHeartbeats 1000000
/-! list(zip(xs, ys)), two lists of one length: a new list of new pairs. -/
namespace DL
open PySem PySem.Spec PyProof.Rows L2 LamX
theorem lz_len : typeLookup (.type "zip") "__len__" = pure none := am_miss_of_fast (by decide +kernel)
theorem lz_hint : typeLookup (.type "zip") "__length_hint__" = pure none := am_miss_of_fast (by decide +kernel)
/-- pairs laid one after the other -/
inductive GrowT : Hp → List (V × V) → List Addr → Hp → Prop
  | nil {H : Hp} : GrowT H [] [] H
  | snoc {H Hk : Hp} {ps : List (V × V)} {ts : List Addr} {x y : V} {t : Addr} (g : GrowT H ps ts Hk) (n : Hk t = none) : GrowT H (ps ++ [(x, y)]) (ts ++ [t]) (upd Hk t (.tup [x, y]))
theorem GrowT.same {H H' : Hp} {ps : List (V × V)} {ts : List Addr} (g : GrowT H ps ts H') : Same H H' := by
  induction g with
  | nil => exact Same.refl _
  | snoc g n ih => exact ih.trans (same_upd n)
theorem GrowT.len {H H' : Hp} {ps : List (V × V)} {ts : List Addr} (g : GrowT H ps ts H') : ts.length = ps.length := by
  induction g with
  | nil => rfl
  | snoc g n ih => simp [ih]
abbrev fpz (z TI TO i1 i2 : Addr) : List Addr := [z, TI, TO, i1, i2]
/-- how a zip over the lists at a and b stands behind k draws whose pairs are kept -/
structure ZS (h : Heap) (z TI TO i1 i2 a b S : Addr) (k : Nat) : Prop where
  ti : IsPair h TI (.ref i1) (.ref i2)
  h1 : h.IsListIter i1 a k
  h2 : h.IsListIter i2 b k
  lt : ∀ c ∈ fpz z TI TO i1 i2, c < h.objs.size
  out : (IsZip h z TI TO .none ∧ ∃ u v, IsPair h TO u v) ∨ ∃ T f oT, IsZipHeld h z TI TO T f ∧ h.get? T = some oT ∧ T ≠ z ∧ T ≠ i1 ∧ T ≠ i2 ∧ T ≠ S
theorem ZS.typ {h : Heap} {z TI TO i1 i2 a b S : Addr} {k : Nat} (st : ZS h z TI TO i1 i2 a b S k) : ∃ o, h.get? z = some o ∧ o.cls = .type "zip" := by
  rcases st.out with ⟨e, _⟩ | ⟨T, f, oT, e, _⟩
  · exact ⟨_, e, rfl⟩
  · exact ⟨_, e, rfl⟩
theorem ZS.over {h h' : Heap} {z TI TO i1 i2 a b S : Addr} {k : Nat} (st : ZS h z TI TO i1 i2 a b S k) (nS : S ∉ fpz z TI TO i1 i2) (hs : h.objs.size ≤ h'.objs.size) (kp : ∀ c o, c ≠ S → h.get? c = some o → h'.get? c = some o) : ZS h' z TI TO i1 i2 a b S k := by
  have nz : ∀ c ∈ fpz z TI TO i1 i2, c ≠ S := fun c hc e => nS (e ▸ hc)
  have m1 : z ∈ fpz z TI TO i1 i2 := by simp
  have m2 : TI ∈ fpz z TI TO i1 i2 := by simp
  have m3 : TO ∈ fpz z TI TO i1 i2 := by simp
  have m4 : i1 ∈ fpz z TI TO i1 i2 := by simp
  have m5 : i2 ∈ fpz z TI TO i1 i2 := by simp
  refine ⟨kp _ _ (nz _ m2) st.ti, st.h1.at fun o q => kp _ o (nz _ m4) q, st.h2.at fun o q => kp _ o (nz _ m5) q, fun c hc => Nat.lt_of_lt_of_le (st.lt c hc) hs, ?_⟩
  rcases st.out with ⟨e, u, v, e2⟩ | ⟨T, f, oT, e, e2, n1, n2, n3, n4⟩
  · exact .inl ⟨kp _ _ (nz _ m1) e, u, v, kp _ _ (nz _ m3) e2⟩
  · exact .inr ⟨T, f, oT, kp _ _ (nz _ m1) e, kp _ _ n4 e2, n1, n2, n3, n4⟩
section
variable {X : Cx} {pins : List (Addr × Obj)} {σ : L2.St} {A : Around} {E : Value → Shared → Prop} {s : Shared} {H : Hp} {z TI TO i1 i2 a b S : Addr} {k : Nat} {xs ys : List V}
theorem zip_step {x y : V} {Q : Option Value → Shared → Prop} (D : ZipApart z TI TO i1 i2 a b) (I : Inv X pins σ H s) (fpo : ∀ c ∈ fpz z TI TO i1 i2, FpOk X pins H c) (st : ZS s.heap z TI TO i1 i2 a b S k) (hS : S < s.heap.objs.size) (nS : S ∉ fpz z TI TO i1 i2)
    (qx : SqL X.K H a xs) (qy : SqL X.K H b ys) (hx : xs[k]? = some x) (hy : ys[k]? = some y)
    (go : ∀ s', Inv X pins σ (upd H s.heap.objs.size (.tup [x, y])) s' → (∀ c ∈ fpz z TI TO i1 i2, FpOk X pins (upd H s.heap.objs.size (.tup [x, y])) c) → ZS s'.heap z TI TO i1 i2 a b S (k + 1) → S < s'.heap.objs.size → Q (some (.ref s.heap.objs.size)) s') :
    wpAny (model X.prog X.w) A (pyNext (.ref z)) Q E s := by
  obtain ⟨its, rv, p1, _⟩ := I.list qx
  obtain ⟨its2, rv2, p2, _⟩ := I.list qy
  obtain ⟨u, hu, ru⟩ := rv.get hx
  obtain ⟨u2, hu2, ru2⟩ := rv2.get hy
  have fin : ∀ h' : Heap, IsPair h' s.heap.objs.size u u2 → h'.objs.size = s.heap.objs.size + 1 → (∀ c o, c ∉ fpz z TI TO i1 i2 → s.heap.get? c = some o → h'.get? c = some o) → ZS h' z TI TO i1 i2 a b S (k + 1) → Q (some (.ref s.heap.objs.size)) { s with heap := h' } := by
    intro h' hT hsz hk zs
    have new : ObjOk X.prog X.w (upd H s.heap.objs.size (.tup [x, y])) h' s.heap.objs.size (.tup [x, y]) := ⟨by show 2 ≤ sizeLine; decide, [u, u2], .cons ru (.cons ru2 .nil), ⟨_, hT, rfl, _, rfl⟩⟩
    have J : Inv X pins σ (upd H s.heap.objs.size (.tup [x, y])) { s with heap := h' } := I.turnedNew (t' := s.toks) (ch := fpz z TI TO i1 i2) (fun c o hb q => hk c o hb q) fpo (Nat.le_refl _) new
    refine go _ J (fun c hc => ⟨?_, (fpo c hc).2⟩) zs (Nat.lt_of_lt_of_le hS (by show s.heap.objs.size ≤ h'.objs.size; rw [hsz]; exact Nat.le_succ _))
    rw [upd_ne (Nat.ne_of_lt (st.lt c hc))]
    exact (fpo c hc).1
  have ltz := st.lt z (by simp)
  have lt1 := st.lt i1 (by simp)
  have lt2 := st.lt i2 (by simp)
  have ltI : ∀ h' : Heap, h'.objs.size = s.heap.objs.size + 1 → ∀ c ∈ fpz z TI TO i1 i2, c < h'.objs.size := fun h' e c hc => Nat.lt_of_lt_of_le (st.lt c hc) (by rw [e]; exact Nat.le_succ _)
  rcases st.out with ⟨hz, u0, v0, hO⟩ | ⟨T, f, oT, hz, hT, n1, n2, n3, n4⟩
  · refine wpAny_pyNext_zip_item D hz st.ti hO st.h1 st.h2 p1.isList p2.isList (x := u) (y := u2) (by simpa using hu) (by simpa using hu2) fun h' g1 g2 g3 g4 g5 g6 kp => ?_
    refine fin h' g5 g6 (fun c o hc q => kp c o (fun e => hc (by simp [e])) (fun e => hc (by simp [e])) (fun e => hc (by simp [e])) (fun e => hc (by simp [e])) q) ⟨kp _ _ D.TIz D.TITO D.TIi1 D.TIi2 st.ti, g3, g4, ltI h' g6, .inr ⟨_, false, _, g1, g5, Nat.ne_of_gt ltz, Nat.ne_of_gt lt1, Nat.ne_of_gt lt2, Nat.ne_of_gt hS⟩⟩
  · refine wpAny_pyNext_zip_item_held D hz hT st.ti st.h1 st.h2 p1.isList p2.isList (x := u) (y := u2) (by simpa using hu) (by simpa using hu2) fun h' g1 g3 g4 g5 g6 kp => ?_
    refine fin h' g5 g6 (fun c o hc q => kp c o (fun e => hc (by simp [e])) (fun e => hc (by simp [e])) (fun e => hc (by simp [e])) q) ⟨kp _ _ D.TIz D.TIi1 D.TIi2 st.ti, g3, g4, ltI h' g6, .inr ⟨T, true, oT, g1, kp _ _ n1 n2 n3 hT, n1, n2, n3, n4⟩⟩
theorem zip_over {Q : Option Value → Shared → Prop} (hA : A.handled = none) (D : ZipApart z TI TO i1 i2 a b) (I : Inv X pins σ H s) (fpo : ∀ c ∈ fpz z TI TO i1 i2, FpOk X pins H c) (st : ZS s.heap z TI TO i1 i2 a b S k)
    (qx : SqL X.K H a xs) (qy : SqL X.K H b ys) (hx : xs.length ≤ k) (go : ∀ s', Inv X pins σ H s' → Q none s') : wpAny (model X.prog X.w) A (pyNext (.ref z)) Q E s := by
  obtain ⟨its, rv, p1, _⟩ := I.list qx
  obtain ⟨its2, rv2, p2, _⟩ := I.list qy
  have l1 := rv.length
  have none1 : its.toArray[k]? = none ∨ its2.toArray[k]? = none := .inl (by simp; omega)
  rcases st.out with ⟨hz, u0, v0, hO⟩ | ⟨T, f, oT, hz, hT, n1, n2, n3, n4⟩
  · exact wpAny_pyNext_zip_end hA D hz st.ti hO st.h1 st.h2 p1.isList p2.isList none1 fun h' kp => go _ (I.turnedL (t' := s.toks) (ch := fpz z TI TO i1 i2) (fun c o hc q => kp c o (fun e => hc (by simp [e])) (fun e => hc (by simp [e])) (fun e => hc (by simp [e])) (fun e => hc (by simp [e])) q) fpo)
  · exact wpAny_pyNext_zip_end_held hA D hz hT st.ti st.h1 st.h2 p1.isList p2.isList none1 fun h' kp => go _ (I.turnedL (t' := s.toks) (ch := fpz z TI TO i1 i2) (fun c o hc q => kp c o (fun e => hc (by simp [e])) (fun e => hc (by simp [e])) (fun e => hc (by simp [e])) q) fpo)
end
section
variable {X : Cx} {pins : List (Addr × Obj)} {σ : L2.St} {A : Around} {H0 : Hp} {z TI TO i1 i2 a b S : Addr} {xs ys : List V}
theorem upd_swap {H : Hp} {p q : Addr} {u v : HO} (h : p ≠ q) : upd (upd H p u) q v = upd (upd H q v) p u := by
  funext c
  by_cases e1 : c = q
  · subst e1
    rw [upd_same, upd_ne (Ne.symm h), upd_same]
  · rw [upd_ne e1]
    by_cases e2 : c = p
    · subst e2
      rw [upd_same, upd_same]
    · rw [upd_ne e2, upd_ne e2, upd_ne e1]
theorem take_zip {x y : V} {k : Nat} (hx : xs[k]? = some x) (hy : ys[k]? = some y) : (xs.zip ys).take (k + 1) = (xs.zip ys).take k ++ [(x, y)] := by
  have e : (xs.zip ys)[k]? = some (x, y) := by rw [List.getElem?_zip_eq_some]; exact ⟨hx, hy⟩
  rw [List.take_add_one, e]
  rfl
theorem ext_zip {R : Result → Shared → Prop} (hA : A.in1.handled = none) (D : ZipApart z TI TO i1 i2 a b) (nS : S ∉ fpz z TI TO i1 i2) (hl : xs.length = ys.length) (hz : xs.length ≤ 1000)
    (fin : ∀ s' Hn ts, Hn S = none → GrowT H0 (xs.zip ys) ts Hn → Inv X pins σ (upd Hn S (.lst (ts.map V.ref))) s' → R (.ok (.ret .none)) s') :
    ∀ (r k : Nat) (s : Shared) (Hk : Hp) (ts : List Addr), xs.length - k = r → k ≤ xs.length → Hk S = none → GrowT H0 ((xs.zip ys).take k) ts Hk → Inv X pins σ (upd Hk S (.lst (ts.map V.ref))) s →
      (∀ c ∈ fpz z TI TO i1 i2, FpOk X pins (upd Hk S (.lst (ts.map V.ref))) c) → ZS s.heap z TI TO i1 i2 a b S k → S < s.heap.objs.size → SqL X.K Hk a xs → SqL X.K Hk b ys →
      codeAny (model X.prog X.w) A (.builtin "list.extend.loop" ⟨[.ref S, .ref z, .none], []⟩) R s := by
  intro r
  induction r with
  | zero =>
    intro k s Hk ts hr hk hn g I fpo st hS qx qy
    have ek : k = xs.length := by omega
    subst ek
    refine codeAny_builtin F.entry_extend_loop ?_
    rw [Around.under_plainId F.plain_extend_loop _]
    show wpAny _ A.in1 (pyNext (.ref z) >>= _) _ _ s
    have sm : Same Hk (upd Hk S (.lst (ts.map V.ref))) := same_upd hn
    refine wpAny_bind (zip_over hA D I fpo st (sm.seq qx) (sm.seq qy) (Nat.le_refl _) fun s' I' => ?_)
    refine wpAny_pure (fin s' Hk ts hn ?_ I')
    have e : (xs.zip ys).take xs.length = xs.zip ys := List.take_of_length_le (by rw [List.length_zip]; omega)
    rw [e] at g
    exact g
  | succ r ih =>
    intro k s Hk ts hr hk hn g I fpo st hS qx qy
    have hlt : k < xs.length := by omega
    have ex : xs[k]? = some xs[k] := List.getElem?_eq_getElem hlt
    have ey : ys[k]? = some (ys[k]'(by omega)) := List.getElem?_eq_getElem (by omega)
    refine codeAny_builtin F.entry_extend_loop ?_
    rw [Around.under_plainId F.plain_extend_loop _]
    show wpAny _ A.in1 (pyNext (.ref z) >>= _) _ _ s
    have sm : Same Hk (upd Hk S (.lst (ts.map V.ref))) := same_upd hn
    refine wpAny_bind (zip_step D I fpo st hS nS (sm.seq qx) (sm.seq qy) ex ey fun s' I' fpo' st' hS' => ?_)
    generalize hp : s.heap.objs.size = p at I' fpo' ⊢
    have pS : S ≠ p := fun e => Nat.ne_of_lt hS (e.trans hp.symm)
    have np : Hk p = none := by
      have q := I.hok.fresh (Nat.le_of_eq hp)
      rw [upd_ne (Ne.symm pS)] at q
      exact q
    rw [upd_swap pS] at I' fpo'
    obtain ⟨hz1, its, n, vals, hget⟩ := I'.hok S _ upd_same
    show wpAny _ A.in1 (updateSeq S (·.push (Value.ref p)) >>= _) _ _ _
    have li : its.length = ts.length := by
      have q := vals.length
      rw [List.length_map] at q
      exact q.symm
    have lts : ts.length = k := by
      rw [g.len, List.length_take, List.length_zip]
      omega
    have lim : sizeLine ≥ 5000 := by decide
    have eS := Heap.get?_update_self (Obj.mapSeq (·.push (Value.ref p))) hget rfl
    have sb : Heap.SameBut S s'.heap (s'.heap.update S (Obj.mapSeq (·.push (Value.ref p)))) := Heap.SameBut.update ..
    refine wpAny_bind (wpAny_updateSeq hget rfl (wpAny_pure ⟨plainId_quiet F.plain_extend_loop _, ?_⟩) (by rw [List.size_toArray]; omega) (by rw [Array.size_push, List.size_toArray]; omega))
    have nS2 : (upd Hk p (.tup [xs[k], ys[k]'(by omega)])) S = none := by rw [upd_ne pS]; exact hn
    have e1 : upd (upd (upd Hk p (.tup [xs[k], ys[k]'(by omega)])) S (.lst (ts.map V.ref))) S (.lst ((ts ++ [p]).map V.ref)) = upd (upd Hk p (.tup [xs[k], ys[k]'(by omega)])) S (.lst ((ts ++ [p]).map V.ref)) := upd_upd
    have J := I'.write (t' := s'.toks) (h' := s'.heap.update S (Obj.mapSeq (·.push (Value.ref p)))) (x := S) (e := S) (o := .lst ((ts ++ [p]).map V.ref)) (by rw [upd_same]; exact True.intro) (.inl rfl) (fun c o hc q => (sb.2 c hc).trans q) ⟨_, eS⟩
      ⟨by rw [List.length_map, List.length_append]; show ts.length + 1 ≤ sizeLine; omega, its ++ [.ref p], _, by rw [List.map_append]; exact vals.append (.cons rfl .nil), by rw [eS]; simp only [Obj.mapSeq, List.push_toArray]; rfl⟩
    rw [e1] at J
    refine ih (k + 1) _ _ (ts ++ [p]) (by omega) hlt nS2 (by rw [take_zip ex ey]; exact g.snoc np) J (fun c hc => ⟨?_, (fpo' c hc).2⟩) (st'.over nS (by rw [Heap.size_update]; exact Nat.le_refl _) fun c o hc q => (sb.2 c hc).trans q) (by show S < (s'.heap.update S _).objs.size; rw [Heap.size_update]; exact hS') ((same_upd np).seq qx) ((same_upd np).seq qy)
    have cS : c ≠ S := fun e => nS (e ▸ hc)
    have q := (fpo' c hc).1
    rw [upd_ne cS] at q ⊢
    exact q
end
end DL
namespace DL
open PySem PySem.Spec PyProof.Rows L2 LamX
section
variable {X : Cx} {pins : List (Addr × Obj)} {σ : L2.St} {A : Around} {H0 : Hp} {z TI TO i1 i2 a b S : Addr} {xs ys : List V}
theorem lz_extend {R : Result → Shared → Prop} {s : Shared} (hA : A.in1.handled = none) (D : ZipApart z TI TO i1 i2 a b) (nS : S ∉ fpz z TI TO i1 i2) (hl : xs.length = ys.length) (hz : xs.length ≤ 1000) (n0 : H0 S = none) (I : Inv X pins σ (upd H0 S (.lst [])) s)
    (fpo : ∀ c ∈ fpz z TI TO i1 i2, FpOk X pins (upd H0 S (.lst [])) c) (st : ZS s.heap z TI TO i1 i2 a b S 0) (zfree : IsZip s.heap z TI TO .none) (hS : S < s.heap.objs.size) (qx : SqL X.K H0 a xs) (qy : SqL X.K H0 b ys)
    (fin : ∀ s' Hn ts, Hn S = none → GrowT H0 (xs.zip ys) ts Hn → Inv X pins σ (upd Hn S (.lst (ts.map V.ref))) s' → R (.ok (.ret .none)) s') :
    wpAny (model X.prog X.w) A.in1 (Builtin.List.listExtendWith (.ref S) (.ref z) .none) (fun r s' => match r with | .done f => R (.ok f) s' | .again c => c.quiet = true ∧ codeAny (model X.prog X.w) A c R s') (fun e s' => R (.error e) s') s := by
  have neS : S ≠ z := fun e => nS (by rw [e]; simp)
  have tz : s.TypeIs (.ref z) "zip" := st.typ
  obtain ⟨hz1, its, n, vals, hget⟩ := I.hok S _ upd_same
  cases vals
  have k1 : Builtin.List.listSameRef (.ref S) (.ref z) = false := by simp [Builtin.List.listSameRef, neS]
  have k2 : (Value.type "zip" == Value.type "list") = false := by decide
  have k3 : (Value.type "zip" == Value.type "tuple") = false := by decide
  unfold Builtin.List.listExtendWith
  refine wpAny_bind (wpAny_typeOf tz ?_)
  simp only [k1, k2, k3, Bool.or_false, Bool.false_eq_true, if_false]
  refine wpAny_bind (wpAny_pyIter_zip zfree ?_)
  refine wpAny_bind (wpAny_holding ?_)
  unfold Builtin.List.listLengthHint
  refine wpAny_bind (wpAny_specialOf tz lz_len ?_)
  show wpAny _ _ (specialOf (Value.ref z) (Str.ofString "__length_hint__") >>= _) _ _ _
  refine wpAny_bind (wpAny_specialOf tz lz_hint (wpAny_pure ?_))
  show wpAny _ _ (rule "list.extend.makes-room" >>= fun _ => Builtin.List.listTouch (.ref S) >>= fun _ => again _) _ _ _
  refine wpAny_bind (wpAny_rule (wpAny_bind ?_))
  show wpAny _ _ (updateSeq S (·.push .none) >>= fun _ => updateSeq S (·.pop)) _ _ _
  have lim : sizeLine ≥ 5000 := by decide
  refine wpAny_bind (wpAny_updateSeq hget rfl ?_)
  have g2 := Heap.get?_update_self (Obj.mapSeq (·.push Value.none)) hget rfl
  refine wpAny_updateSeq (hz := by seq_fits) g2 rfl ?_
  have g3 := Heap.get?_update_self (Obj.mapSeq (·.pop)) g2 rfl
  have far : ∀ c o, c ≠ S → s.heap.get? c = some o → ((s.heap.update S (Obj.mapSeq (·.push Value.none))).update S (Obj.mapSeq (·.pop))).get? c = some o := fun c o hc e =>
    (Heap.get?_update_other _ _ (Ne.symm hc)).trans ((Heap.get?_update_other _ _ (Ne.symm hc)).trans e)
  have J := I.write (t' := s.toks) (h' := (s.heap.update S (Obj.mapSeq (·.push Value.none))).update S (Obj.mapSeq (·.pop))) (x := S) (e := S) (o := .lst []) (by rw [upd_same]; exact True.intro) (.inl rfl) far ⟨_, g3⟩ ⟨Nat.zero_le _, [], _, .nil, by rw [g3]; rfl⟩
  rw [upd_upd] at J
  refine wpAny_pure ⟨plainId_quiet F.plain_extend_loop _, ?_⟩
  exact ext_zip hA D nS hl hz fin _ 0 _ H0 [] rfl (Nat.zero_le _) n0 GrowT.nil J fpo (st.over nS (by rw [Heap.size_update, Heap.size_update]; exact Nat.le_refl _) far) (Nat.lt_of_lt_of_le hS (by rw [Heap.size_update, Heap.size_update]; exact Nat.le_refl _)) qx qy
theorem lz_init {R : Result → Shared → Prop} {s : Shared} (hA : A.in1.handled = none) (D : ZipApart z TI TO i1 i2 a b) (nS : S ∉ fpz z TI TO i1 i2) (hl : xs.length = ys.length) (hz : xs.length ≤ 1000) (n0 : H0 S = none) (I : Inv X pins σ (upd H0 S (.lst [])) s)
    (fpo : ∀ c ∈ fpz z TI TO i1 i2, FpOk X pins (upd H0 S (.lst [])) c) (st : ZS s.heap z TI TO i1 i2 a b S 0) (zfree : IsZip s.heap z TI TO .none) (hS : S < s.heap.objs.size) (qx : SqL X.K H0 a xs) (qy : SqL X.K H0 b ys)
    (fin : ∀ s' Hn ts, Hn S = none → GrowT H0 (xs.zip ys) ts Hn → Inv X pins σ (upd Hn S (.lst (ts.map V.ref))) s' → R (.ok (.ret .none)) s') :
    wpAny (model X.prog X.w) A.in1 (Builtin.«list.__init__» ⟨[.ref S, .ref z], []⟩) (fun r s' => match r with | .done f => R (.ok f) s' | .again c => c.quiet = true ∧ codeAny (model X.prog X.w) A c R s') (fun e s' => R (.error e) s') s := by
  obtain ⟨hz1, its, n, vals, hget⟩ := I.hok S _ upd_same
  cases vals
  have zne : z ≠ S := fun e => nS (by rw [← e]; simp)
  show wpAny _ _ (Builtin.List.listItems (.ref S) >>= fun old => Builtin.List.listUpdate (.ref S) (fun _ => #[]) >>= fun _ => letGo old.toList.reverse >>= fun _ => Builtin.List.listExtendWith (.ref S) (.ref z) .none) _ _ s
  refine wpAny_bind ?_
  unfold Builtin.List.listItems
  refine wpAny_bind (wpAny_seqItems hget rfl (wpAny_pure (wpAny_bind ?_)))
  show wpAny _ _ (updateSeq S (fun _ => #[])) _ _ s
  refine wpAny_updateSeq hget rfl (wpAny_bind (wpAny_letGo ?_))
  have g3 := Heap.get?_update_self (Obj.mapSeq (fun _ => (#[] : Array Value))) hget rfl
  have far : ∀ c o, c ≠ S → s.heap.get? c = some o → (s.heap.update S (Obj.mapSeq (fun _ => (#[] : Array Value)))).get? c = some o := fun c o hc e => (Heap.get?_update_other _ _ (Ne.symm hc)).trans e
  have J := I.write (t' := s.toks) (h' := s.heap.update S (Obj.mapSeq (fun _ => (#[] : Array Value)))) (x := S) (e := S) (o := .lst []) (by rw [upd_same]; exact True.intro) (.inl rfl) far ⟨_, g3⟩ ⟨Nat.zero_le _, [], _, .nil, by rw [g3]; rfl⟩
  rw [upd_upd] at J
  exact lz_extend hA D nS hl hz n0 J fpo (st.over nS (by rw [Heap.size_update]; exact Nat.le_refl _) far) (far _ _ zne zfree) (Nat.lt_of_lt_of_le hS (by rw [Heap.size_update]; exact Nat.le_refl _)) qx qy fin
def tLZ (K : PySem.W.Frag) (ta : TA) : TE := fun σ H Q => ta σ H fun vs H1 => ∃ a b xs ys, vs = [.ref a, .ref b] ∧ SqL K H1 a xs ∧ SqL K H1 b ys ∧ xs.length = ys.length ∧ xs.length ≤ 1000 ∧ ∀ S Hn ts, Hn S = none → GrowT H1 (xs.zip ys) ts Hn → Q (.ref S) (upd Hn S (.lst (ts.map V.ref)))
theorem pe_listZip {e1 e2 : Expr} {ta : TA} {p p2 pos pos2 : Pos} (hc : X.calm = true) (hg : Gl X "list") (hm : X.mg "list" = none) (hg2 : Gl X "zip") (hm2 : X.mg "zip" = none) (ha : PA X [e1, e2] ta)
    (hs : starEach [e1, e2] X.env = (false, eval e1 X.env) :: starEach [e2] X.env := by rfl) (hpl : (backTo pos2 (starEach [e2] X.env)).any (·.1) = false := by rfl)
    (hs2 : starEach [.Call (.Name "zip" p2) [e1, e2] [] pos2] X.env = (false, eval (.Call (.Name "zip" p2) [e1, e2] [] pos2) X.env) :: starEach [] X.env := by rfl) :
    PE X (.Call (.Name "list" p) [.Call (.Name "zip" p2) [e1, e2] [] pos2] [] pos) (tLZ X.K ta) := ⟨fun pins s σ H Q I h => by
  refine Call_ (ld_blt I hg hm boot_list (PyProof.Rows.callWith_type1 (args_cons (Call_ (ld_blt I hg2 hm2 PyProof.Rows.boot_zip (PyProof.Rows.callWith_type1 (thn (ha.run pos2 pins s σ H _ I h) fun us s1 hx => ?_) hs hpl))) hs2) hs2 rfl))
  obtain ⟨vs, H1, I1, r1, a, b, xs, ys, rfl, qx, qy, hl, hz, q⟩ := hx
  obtain ⟨u1, u2, rfl, e1', e2'⟩ : ∃ u1 u2, us = [u1, u2] ∧ u1 = Value.ref a ∧ u2 = Value.ref b := by
    cases r1 with
    | cons ra rr =>
      cases rr with
      | cons rb rc =>
        cases rc
        exact ⟨_, _, rfl, ra, rb⟩
  subst e1' e2'
  obtain ⟨its, rv, p1, _⟩ := I1.list qx
  obtain ⟨its2, rv2, p2', _⟩ := I1.list qy
  refine call_zip_2 p1.isList p2'.isList fun h1 g1 g2 g3 g4 g5 g6 kp => args_nil ?_
  generalize hn0 : s1.heap.objs.size = n0 at g1 g2 g3 g4 g5 g6
  have I2 : Inv X pins σ H1 { s1 with heap := h1 } := I1.kept (t' := s1.toks) kp
  have D : ZipApart (n0 + 4) (n0 + 2) (n0 + 3) n0 (n0 + 1) a b := by
    rw [← hn0]
    exact PySem.W.ktu_apart s1.heap.objs.size a b p1.lt p2'.lt
  have fz : ∀ c ∈ fpz (n0 + 4) (n0 + 2) (n0 + 3) n0 (n0 + 1), n0 ≤ c ∧ c < n0 + 5 := by
    intro c hcm
    simp only [fpz, List.mem_cons, List.not_mem_nil, or_false] at hcm
    rcases hcm with e | e | e | e | e <;> subst e <;> exact ⟨by first | exact Nat.le_refl _ | exact Nat.le_add_right _ _, by first | exact Nat.lt_add_of_pos_right (by decide) | exact Nat.add_lt_add_left (by decide) _⟩
  refine callType_codes (Q₁ := fun ob s2 => ob = .ref h1.objs.size ∧ s2 = { s1 with heap := h1.push { cls := .type "list", data := .seq #[] } }) F.called_list (F.typeCall_list_1 _) F.entry_list_init (code_list_new _ ⟨rfl, rfl⟩) fun ob s2 h2 => ?_
  obtain ⟨rfl, rfl⟩ := h2
  generalize hS : h1.objs.size = S
  have eS : (h1.push { cls := .type "list", data := .seq #[] }).get? S = some { cls := .type "list", data := .seq #[] } := by rw [← hS]; exact Heap.get?_push_size _ rfl
  have kp2 : ∀ c o, h1.get? c = some o → (h1.push { cls := .type "list", data := .seq #[] }).get? c = some o := fun c o e => Heap.get?_push_of_some _ e
  have nH : H1 S = none := I2.hok.fresh (Nat.le_of_eq hS)
  have J : Inv X pins σ (upd H1 S (.lst [])) { s1 with heap := h1.push { cls := .type "list", data := .seq #[] } } := I2.laid (t' := s1.toks) kp2 (Nat.le_of_eq hS) ⟨Nat.zero_le _, [], 0, .nil, eS⟩
  have nS : S ∉ fpz (n0 + 4) (n0 + 2) (n0 + 3) n0 (n0 + 1) := fun e => by
    have q := (fz S e).2
    rw [← hS, g6] at q
    exact absurd q (Nat.lt_irrefl _)
  refine ⟨⟨_, eS, rfl⟩, F.args_list_init_2 _ _, ?_⟩
  refine lz_init (H0 := H1) (xs := xs) (ys := ys) ?_ D nS hl hz nH J (fun c hcm => ?_) ⟨kp2 _ _ g2, g4.at fun o e => kp2 _ o e, g5.at fun o e => kp2 _ o e, fun c hcm => ?_, .inl ⟨kp2 _ _ g1, _, _, kp2 _ _ g3⟩⟩ (kp2 _ _ g1) ?_ qx qy fun s' Hn ts nn gr I' => ⟨rfl, .ref S, _, I', rfl, q S Hn ts nn gr⟩
  · exact I1.ok.hd hc
  · have hle : s1.heap.objs.size ≤ c := by rw [hn0]; exact (fz c hcm).1
    refine I1.fpOk hle ?_
    have cS : c ≠ S := fun e => nS (e ▸ hcm)
    rw [upd_ne cS]
    exact I1.hok.fresh hle
  · show c < (h1.push _).objs.size
    rw [Heap.size_push, g6]
    exact Nat.lt_succ_of_lt (fz c hcm).2
  · show S < (h1.push _).objs.size
    rw [Heap.size_push, hS]
    exact Nat.lt_succ_self _⟩
end
section
variable {X : Cx} {T : List (Addr × Str)} {W : WX} {χ : XD} {δ : Dn} {w : Wp} {pos : Pos}
/-- the pairs of two lists of plain values -/
def zipD (xs ys : List V) : List D := (xs.zip ys).map fun p => .tup [.val p.1, .val p.2]
theorem grow_world {K : PySem.W.Frag} {S F H H' : Hp} {ps : List (V × V)} {ts : List Addr} (g : GrowT H ps ts H') (hW : World K T S w F H) : ∃ S', Same S S' ∧ World K T S' w F H' ∧ RepL K S' (ps.map fun p => D.tup [.val p.1, .val p.2]) (ts.map V.ref) := by
  induction g with
  | nil => exact ⟨S, Same.refl _, hW, rfl⟩
  | @snoc Hk ps ts x y t g n ih =>
    obtain ⟨S', s1, W1, r1⟩ := ih
    have s2 := same_upd (o := HO.tup [x, y]) (W1.free n).1
    refine ⟨_, s1.trans s2, W1.laid n (fun _ z => by cases z), ?_⟩
    rw [List.map_append, List.map_append]
    exact (r1.mono s2).app (RepL.one ⟨_, _, rfl, upd_same, _, _, rfl, rfl, _, _, rfl, rfl, rfl⟩)
theorem pd_listZip {e1 e2 : Expr} {p p2 pos2 : Pos} {κ : D → Wp → Prop} (hc : X.calm = true) (hm : X.mg "list" = none) (hm2 : X.mg "zip" = none)
    (h : PAD X T W χ [e1, e2] δ w fun ds w1 => ∃ d1 d2 xs ys, ds = [d1, d2] ∧ Lk w1 d1 (xs.map D.val) ∧ Lk w1 d2 (ys.map D.val) ∧ xs.length = ys.length ∧ xs.length ≤ 1000 ∧ κ (.lst (zipD xs ys)) w1)
    (hg : Gl X "list" := by rfl) (hg2 : Gl X "zip" := by rfl)
    (hs : starEach [e1, e2] X.env = (false, eval e1 X.env) :: starEach [e2] X.env := by rfl) (hpl : (backTo pos2 (starEach [e2] X.env)).any (·.1) = false := by rfl)
    (hs2 : starEach [.Call (.Name "zip" p2) [e1, e2] [] pos2] X.env = (false, eval (.Call (.Name "zip" p2) [e1, e2] [] pos2) X.env) :: starEach [] X.env := by rfl) :
    PD X T W χ (.Call (.Name "list" p) [.Call (.Name "zip" p2) [e1, e2] [] pos2] [] pos) δ w κ := fun F σ S H Q hE hW hX hK => wp_pe (pe_listZip hc hg hm hg2 hm2 (pa_wp _) hs hpl hs2) (by
  refine h F σ S H _ hE hW hX fun ds w1 vs S1 H1 k s1 W1 r => ?_
  obtain ⟨d1, d2, xs, ys, rfl, l1, l2, hl, hz, k⟩ := k
  obtain ⟨v1, r0, rfl, r1, v2, r3, rfl, r2, r4⟩ := r
  have r4' : r3 = [] := r4
  subst r4'
  obtain ⟨a, xs', rfl, h1, h2⟩ := l1.at_ W1 r1
  obtain ⟨b, ys', rfl, h3, h4⟩ := l2.at_ W1 r2
  have e1 := h2.vals
  have e2 := h4.vals
  subst e1 e2
  refine ⟨a, b, _, _, rfl, SqL.of h1, SqL.of h3, hl, hz, fun L Hn ts nn gr => ?_⟩
  obtain ⟨S2, s2, W2, r5⟩ := grow_world gr W1
  have s3 := same_upd (o := HO.lst (ts.map V.ref)) (W2.free nn).1
  exact hK _ w1 _ _ _ k (s1.trans (s2.trans s3)) (W2.laid nn fun _ z => by cases z) ⟨L, _, rfl, upd_same, r5.mono s3⟩)
end
end DL

set_option Elab.async false
set_option linter.all false
set_option maxRecDepth 100000
set_option maxHeartbeats 1000000
/-! the draws -/
namespace Tw
open PySem PySem.Spec PyProof.Rows L2 LamX DL
def top (i : Nat) : Stmt := PySem.Challenge.pw_thinwall_k02_parted_merged_and_texts.main.body.getD i (.Pass ⟨0, 0, 0, 0⟩)
abbrev sTake : Stmt := top 18
structure Bag where
  row : List Int
  seed : Int
  cnt : Int
def take (b : Bag) (m : Int) : Int × Bag :=
  match b.row with
  | x :: rest => (x % m, { b with row := if x / m = 0 then rest else x / m :: rest })
  | [] => ((((b.seed * 48271 + (b.cnt + 1) * 69621 + 7) % 2147483647 * 16807 + (b.seed * 48271 + (b.cnt + 1) * 69621 + 7) % 2147483647 / 4099 + (b.cnt + 1) * 40692) % 2147483629) / 127 % m,
    ⟨[], (b.seed * 48271 + (b.cnt + 1) * 69621 + 7) % 2147483647, b.cnt + 1⟩)
def bagPut (w : Wp) (a r : Addr) (b : Bag) : Wp := wu (wu w a (.lst [R r, I b.seed, I b.cnt])) r (.lst (b.row.map I))
structure BagAt (w : Wp) (a r : Addr) (b : Bag) : Prop where
  at_ : w a = some (.lst [R r, I b.seed, I b.cnt])
  row : w r = some (.lst (b.row.map I))
  ne : a ≠ r
theorem bag_put {w : Wp} {a r : Addr} {b : Bag} (h : a ≠ r) : BagAt (bagPut w a r b) a r b := ⟨by unfold bagPut; rw [wu_ne h, wu_same], by unfold bagPut; rw [wu_same], h⟩
theorem wu_comm {w : Wp} {a r : Addr} {h k : HD} (e : a ≠ r) : wu (wu w a h) r k = wu (wu w r k) a h := by
  funext b
  by_cases h1 : b = r
  · subst h1
    rw [wu_same, wu_ne (fun z => e z.symm), wu_same]
  · rw [wu_ne h1]
    by_cases h2 : b = a
    · subst h2
      rw [wu_same, wu_same]
    · rw [wu_ne h2, wu_ne h2, wu_ne h1]
theorem bag_put2 {w : Wp} {a r : Addr} {b b' : Bag} (h : a ≠ r) : bagPut (bagPut w a r b) a r b' = bagPut w a r b' := by
  unfold bagPut
  rw [wu_comm (w := wu (wu w a _) r _) h, wu_wu, wu_comm (w := wu w a _) h.symm, wu_wu, wu_comm h]
theorem wu_id {w : Wp} {a : Addr} {h : HD} (e : w a = some h) : wu w a h = w := by
  funext b
  by_cases z : b = a
  · rw [z, wu_same, e]
  · rw [wu_ne z]
theorem BagAt.put {w : Wp} {a r : Addr} {b : Bag} (h : BagAt w a r b) : bagPut w a r b = w := by
  unfold bagPut
  rw [wu_id h.at_, wu_id h.row]
def spTake : SpD := fun ds w κ χ => ∃ a r b m, ds = [R a, I m] ∧ BagAt w a r b ∧ (0 < m ∧ m.natAbs.log2 < 9000) ∧ κ (I (take b m).1) (bagPut w a r (take b m).2)
theorem py_ints : ∀ ns : List Int, pyDs (ns.map I) = some (ns.map PyData.int)
  | [] => rfl
  | n :: ns => by
    show ((pyD (I n)).bind fun x => (pyDs (ns.map I)).map fun xs => x :: xs) = _
    rw [py_ints ns]
    rfl
theorem lay_ints : ∀ ns : List Int, PyData.canLayAll0 (ns.map PyData.int) = true
  | [] => rfl
  | n :: ns => by
    show (PyData.canLay0 (.int n) && PyData.canLayAll0 (ns.map PyData.int)) = true
    rw [lay_ints ns]
    rfl
theorem dep_ints : ∀ ns : List Int, PyData.depthAll (ns.map PyData.int) = 0
  | [] => rfl
  | n :: ns => by
    show max (PyData.depth (.int n)) (PyData.depthAll (ns.map PyData.int)) = 0
    rw [dep_ints ns]
    rfl
theorem shaped_ints (ns : List Int) : SeqAt.shaped (.list (ns.map PyData.int)) = true := by
  show (PyData.canLayAll0 (ns.map PyData.int) && decide (PyData.depthAll (ns.map PyData.int) + 1 ≤ 64)) = true
  rw [lay_ints, dep_ints]
  rfl
theorem eqv_nil (ps : List PyData) : PyData.eqv (.list ps) (.list []) = ps.isEmpty := by
  cases ps <;> simp [PyData.eqv, PyData.eqvAll]
structure Nm (mg : Str → Option Value) : Prop where
  int : mg "int" = none
section
variable {P : Program} {w : PySem.World} {K : PySem.W.Frag} {mg : Str → Option Value} {base : Heap} {T : List (Addr × Str)}
theorem scTake : FnScope ["bag", "many", "row", "digit", "mixed"] ["bag", "many"] (defScope sTake) := ⟨rfl, rfl, rfl, by decide +kernel, rfl, by decide +kernel, by decide +kernel⟩
theorem ok_take {f : Addr} {fd : FuncData} (G : Fun K "_law_take" "_law_take" sTake f fd) (hm : Nm mg) : FnOk P w K mg base CX0 1 f fd ["bag", "many"] (spOf K T spTake) := by
  refine fnD G scTake (fun ds w κ χ h => ?_) (fun cdv A outer s H E ds w0 κ χ hr h => ?_)
  · obtain ⟨a, r, b, m, rfl, _⟩ := h
    rfl
  · obtain ⟨a, r, b, m, rfl, hb, hm0, k⟩ := h
    have hu := hr.units
    have nd := scTake.nd
    -- row = bag[0]
    refine pssd_cons (psd_set (i := 2) nd rfl ?_)
    refine pd_ix ix_list ?_
    refine pd_var (i := 0) rfl rfl ?_
    refine pd_int ?_
    refine vr_ixO (i := 0) hb.at_ rfl ?_
    -- if row != []
    refine pssd_cons (psd_if ?_)
    refine ptd_cmp (op_neD hu) ?_
    refine pd_var (i := 2) rfl rfl ?_
    refine pd_lst ?_
    refine pad_nil ?_
    refine ⟨Nat.zero_le _, ?_⟩
    refine vr_neDO hb.row (py_ints _) rfl (shaped_ints _) rfl ?_
    refine ⟨_, rfl, ?_⟩
    rw [eqv_nil]
    cases b with
    | mk row seed cnt =>
      cases row with
      | cons x rest =>
        refine iteT ?_
        have hr0 : w0 r = some (.lst (I x :: rest.map I)) := hb.row
        -- digit = int(row[0]) % many
        refine pssd_cons (psd_set (i := 3) nd rfl ?_)
        refine pd_op op_mod ?_
        refine pd_callTy call_int1 rfl hm.int PyProof.Rows.boot_int ?_
        refine pad_cons ?_
        refine pd_ix ix_list ?_
        refine pd_var (i := 2) rfl rfl ?_
        refine pd_int ?_
        refine vr_ixO (i := 0) hr0 rfl ?_
        refine pad_nil ?_
        refine va_int ?_
        refine pd_var (i := 1) rfl rfl ?_
        refine vr_IC hm0.1 ?_
        -- row[0] = int(row[0]) // many
        refine pssd_cons (psd_sub set_list ?_)
        refine pd_op op_fdivW ?_
        refine pd_callTy call_int1 rfl hm.int PyProof.Rows.boot_int ?_
        refine pad_cons ?_
        refine pd_ix ix_list ?_
        refine pd_var (i := 2) rfl rfl ?_
        refine pd_int ?_
        refine vr_ixO (i := 0) hr0 rfl ?_
        refine pad_nil ?_
        refine va_int ?_
        refine pd_var (i := 1) rfl rfl ?_
        refine vr_IC hm0 ?_
        refine pd_var (i := 2) rfl rfl ?_
        refine pd_int ?_
        refine vr_setO (i := 0) hr0 (Nat.succ_pos _) ?_
        generalize hw1 : wu w0 r (.lst ((I x :: rest.map I).set 0 (D.val (V.int (x / m))))) = w1
        have e1 : w1 r = some (.lst (I (x / m) :: rest.map I)) := by
          rw [← hw1]
          exact wu_same
        -- if row[0] == 0: row.pop(0)
        refine pssd_cons (psd_if ?_)
        refine ptd_cmp op_eq ?_
        refine pd_ix ix_list ?_
        refine pd_var (i := 2) rfl rfl ?_
        refine pd_int ?_
        refine vr_ixO (i := 0) e1 rfl ?_
        refine pd_int ?_
        refine vr_eq rfl ⟨_, rfl, ?_⟩
        refine ite2 (fun c => ?_) (fun c => ?_)
        · have c' : x / m = 0 := V.int.inj (of_decide_eq_true c)
          refine pssd_one (psd_expr ?_)
          refine pd_bm PySem.F.plainAttrs_list PySem.F.slot_list_pop PySem.F.type_list_pop mt_popAt ?_
          refine pd_var (i := 2) rfl rfl ?_
          refine ⟨⟨rfl, _, e1⟩, ?_⟩
          refine pad_cons ?_
          refine pd_int ?_
          refine pad_nil ?_
          refine vm_pop0 e1 ?_
          refine pssd_one (psd_ret ?_)
          refine pd_var (i := 3) rfl rfl ?_
          have e2 : take ⟨x :: rest, seed, cnt⟩ m = (x % m, ⟨rest, seed, cnt⟩) := by
            unfold take
            simp only [c', if_pos]
          rw [e2] at k
          have e3 : wu w1 r (.lst (rest.map I)) = bagPut w0 a r ⟨rest, seed, cnt⟩ := by
            unfold bagPut
            rw [← hw1, wu_wu, wu_id hb.at_]
          rw [e3]
          exact k
        · have c' : ¬ x / m = 0 := fun z => c (decide_eq_true (congrArg V.int z))
          refine pssd_nil ?_
          refine pssd_one (psd_ret ?_)
          refine pd_var (i := 3) rfl rfl ?_
          have e2 : take ⟨x :: rest, seed, cnt⟩ m = (x % m, ⟨x / m :: rest, seed, cnt⟩) := by
            unfold take
            simp only [c', if_neg, not_false_eq_true]
          rw [e2] at k
          have e3 : w1 = bagPut w0 a r ⟨x / m :: rest, seed, cnt⟩ := by
            unfold bagPut
            rw [← hw1, wu_id hb.at_]
            rfl
          rw [e3]
          exact k
      | nil =>
        refine iteF ?_
        refine pssd_nil ?_
        have ha0 : w0 a = some (.lst [R r, I seed, I cnt]) := hb.at_
        -- bag[2] = bag[2] + 1
        refine pssd_cons (psd_sub set_list ?_)
        refine pd_op op_add ?_
        refine pd_ix ix_list ?_
        refine pd_var (i := 0) rfl rfl ?_
        refine pd_int ?_
        refine vr_ixO (i := 2) ha0 rfl ?_
        refine pd_int ?_
        refine vr_I ?_
        refine pd_var (i := 0) rfl rfl ?_
        refine pd_int ?_
        refine vr_setO (i := 2) ha0 (by simp) ?_
        generalize hw1 : wu w0 a (.lst ([R r, I seed, I cnt].set 2 (D.val (V.int (cnt + 1))))) = w1
        have e1 : w1 a = some (.lst [R r, I seed, I (cnt + 1)]) := by
          rw [← hw1]
          exact wu_same
        -- bag[1] = ..
        refine pssd_cons (psd_sub set_list ?_)
        refine pd_op op_mod ?_
        refine pd_callTy call_int1 rfl hm.int PyProof.Rows.boot_int ?_
        refine pad_cons ?_
        refine pd_op op_add ?_
        refine pd_op op_add ?_
        refine pd_op op_mul ?_
        refine pd_ix ix_list ?_
        refine pd_var (i := 0) rfl rfl ?_
        refine pd_int ?_
        refine vr_ixO (i := 1) e1 rfl ?_
        refine pd_int ?_
        refine vr_IC (.inr ⟨by decide, by decide⟩) ?_
        refine pd_op op_mul ?_
        refine pd_ix ix_list ?_
        refine pd_var (i := 0) rfl rfl ?_
        refine pd_int ?_
        refine vr_ixO (i := 2) e1 rfl ?_
        refine pd_int ?_
        refine vr_IC (.inr ⟨by decide, by decide⟩) ?_
        refine vr_I ?_
        refine pd_int ?_
        refine vr_I ?_
        refine pad_nil ?_
        refine va_int ?_
        refine pd_int ?_
        refine vr_IC (by decide) ?_
        refine pd_var (i := 0) rfl rfl ?_
        refine pd_int ?_
        refine vr_setO (i := 1) e1 (by simp) ?_
        generalize hs : (seed * 48271 + (cnt + 1) * 69621 + 7) % 2147483647 = sd
        generalize hw2 : wu w1 a (.lst ([R r, I seed, I (cnt + 1)].set 1 (D.val (V.int sd)))) = w2
        have e2 : w2 a = some (.lst [R r, I sd, I (cnt + 1)]) := by
          rw [← hw2]
          exact wu_same
        -- mixed = ..
        refine pssd_cons (psd_set (i := 4) nd rfl ?_)
        refine pd_op op_mod ?_
        refine pd_callTy call_int1 rfl hm.int PyProof.Rows.boot_int ?_
        refine pad_cons ?_
        refine pd_op op_add ?_
        refine pd_op op_add ?_
        refine pd_op op_mul ?_
        refine pd_ix ix_list ?_
        refine pd_var (i := 0) rfl rfl ?_
        refine pd_int ?_
        refine vr_ixO (i := 1) e2 rfl ?_
        refine pd_int ?_
        refine vr_IC (.inr ⟨by decide, by decide⟩) ?_
        refine pd_op op_fdiv ?_
        refine pd_ix ix_list ?_
        refine pd_var (i := 0) rfl rfl ?_
        refine pd_int ?_
        refine vr_ixO (i := 1) e2 rfl ?_
        refine pd_int ?_
        refine vr_IC ⟨by decide, by decide⟩ ?_
        refine vr_I ?_
        refine pd_op op_mul ?_
        refine pd_ix ix_list ?_
        refine pd_var (i := 0) rfl rfl ?_
        refine pd_int ?_
        refine vr_ixO (i := 2) e2 rfl ?_
        refine pd_int ?_
        refine vr_IC (.inr ⟨by decide, by decide⟩) ?_
        refine vr_I ?_
        refine pad_nil ?_
        refine va_int ?_
        refine pd_int ?_
        refine vr_IC (by decide) ?_
        -- return mixed // 127 % many
        refine pssd_one (psd_ret ?_)
        refine pd_op op_mod ?_
        refine pd_op op_fdiv ?_
        refine pd_var (i := 4) rfl rfl ?_
        refine pd_int ?_
        refine vr_IC ⟨by decide, by decide⟩ ?_
        refine pd_var (i := 1) rfl rfl ?_
        refine vr_IC hm0.1 ?_
        have e4 : take ⟨[], seed, cnt⟩ m = (((sd * 16807 + sd / 4099 + (cnt + 1) * 40692) % 2147483629) / 127 % m, ⟨[], sd, cnt + 1⟩) := by
          rw [← hs]
          rfl
        rw [e4] at k
        have e3 : w2 = bagPut w0 a r ⟨[], sd, cnt + 1⟩ := by
          unfold bagPut
          have hr0 : (wu w0 a (.lst [R r, I sd, I (cnt + 1)])) r = some (.lst (List.map I [])) := by
            rw [wu_ne hb.ne.symm]
            exact hb.row
          rw [wu_id hr0, ← hw2, ← hw1, wu_wu]
          rfl
        rw [e3]
        exact k
end
/-! ### _law_start -/
abbrev sStart : Stmt := top 17
def pos0 (n : Int) : Int := if n ≥ 0 then n else -1 - n
def seeds (ns : List Int) : Int := ns.foldl (fun s c => (s * 48271 + c % 1000003 + 11) % 2147483647) 2724
def start (ns : List Int) : Bag :=
  ⟨((ns.take 63).map pos0).filter (fun c => decide (c ≥ 10 ^ 18)), seeds ((ns.take 63).map pos0), 0⟩
def spStart : SpD := fun ds w κ χ => ∃ ns : List Int, ds = [.rd (ns.map I)] ∧ ∀ a r, w a = none → w r = none → a ≠ r → κ (R a) (bagPut w a r (start ns))
theorem lt_line {n : Nat} (h : n ≤ 1000) : n < sizeLine := small1000 h
section
variable {P : Program} {w : PySem.World} {K : PySem.W.Frag} {mg : Str → Option Value} {base : Heap} {T : List (Addr × Str)}
theorem scStart : FnScope ["script", "cells", "seed", "cell"] ["script"] (defScope sStart) := ⟨rfl, rfl, rfl, by decide +kernel, rfl, by decide +kernel, by decide +kernel⟩
theorem ok_start {f : Addr} {fd : FuncData} (G : Fun K "_law_start" "_law_start" sStart f fd) (hm : Nm mg) : FnOk P w K mg base CX0 1 f fd ["script"] (spOf K T spStart) := by
  refine fnD G scStart (fun ds w κ χ h => ?_) (fun cdv A outer s H E ds w0 κ χ hr h => ?_)
  · obtain ⟨ns, rfl, _⟩ := h
    rfl
  · obtain ⟨ns, rfl, k⟩ := h
    have hu := hr.units
    have nd := scStart.nd
    have hz : (ns.take 63).length ≤ 63 := by
      rw [List.length_take]
      exact Nat.min_le_left _ _
    -- cells = [int(cell) if cell >= 0 else -1 - int(cell) for cell in script[:63]]
    refine pssd_cons ?_
    refine psd_setLc (i := 1) (own := [("cell", 3)]) (is := [3]) rfl nd rfl rfl (sw_true rfl rfl rfl (by decide +kernel)) (blkOk_by (N := ["script", "cells", "seed", "cell"]) (sc := defScope sStart) (by decide +kernel)) (by decide) ?_
    refine it_list ?_
    refine pd_slTo (n := 63) ?_
    refine pd_var (i := 0) rfl rfl ?_
    refine ⟨_, .inr rfl, ?_⟩
    rw [← List.map_take]
    refine ⟨_, rfl, ?_⟩
    refine lcd_map (fun n => I (pos0 n)) (lt_line (by omega)) (fun n hn s H0 C cl fp => ?_) ?_
    · refine pgl_name nd rfl ?_
      intro s H0 C cl fp
      refine ptsd_nil ?_
      refine iteT fun s H0 C cl fp => ?_
      refine pd_if ?_
      refine ptd_cmp op_ge ?_
      refine pd_var (i := 3) rfl rfl ?_
      refine pd_int ?_
      refine vr_I ?_
      refine ⟨_, rfl, ?_⟩
      refine ite2 (fun c => ?_) (fun c => ?_)
      · refine pd_callTy call_int1 rfl hm.int PyProof.Rows.boot_int ?_
        refine pad_cons ?_
        refine pd_var (i := 3) rfl rfl ?_
        refine pad_nil ?_
        refine va_int ?_
        refine ⟨rfl, ?_, rfl⟩
        unfold pos0
        rw [if_pos (of_decide_eq_true c)]
      · refine pd_op op_sub ?_
        refine pd_un un_neg ?_
        refine pd_int ?_
        refine vr_U ?_
        refine pd_callTy call_int1 rfl hm.int PyProof.Rows.boot_int ?_
        refine pad_cons ?_
        refine pd_var (i := 3) rfl rfl ?_
        refine pad_nil ?_
        refine va_int ?_
        refine vr_I ?_
        refine ⟨rfl, ?_, rfl⟩
        unfold pos0
        rw [if_neg (fun z => c (decide_eq_true z))]
    have em : (List.map (fun n => I (pos0 n)) (ns.take 63)) = ((ns.take 63).map pos0).map I := by rw [List.map_map]; rfl
    rw [em]
    have hz2 : ((ns.take 63).map pos0).length ≤ 63 := by rw [List.length_map]; exact hz
    have k2 : ∀ a r, w0 a = none → w0 r = none → a ≠ r → κ (R a) (bagPut w0 a r ⟨((ns.take 63).map pos0).filter (fun c => decide (c ≥ 10 ^ 18)), seeds ((ns.take 63).map pos0), 0⟩) := k
    revert k2 hz2
    generalize (ns.take 63).map pos0 = cs
    intro hz2 k2
    -- seed = 4959
    refine pssd_cons (psd_set (i := 2) nd rfl ?_)
    refine pd_int ?_
    -- for cell in cells
    refine pssd_cons (psd_for PassesOwn.never rfl ?_)
    refine it_list ?_
    refine pd_var (i := 1) rfl rfl ?_
    refine ⟨_, rfl, ?_⟩
    refine ⟨fun i δ' w' => w' = w0 ∧ ∃ y3, δ' = [some (.rd (ns.map I)), some (.lst (cs.map I)), some (I (seeds (cs.take i))), y3], ⟨rfl, none, rfl⟩, ?_, ?_⟩
    · rintro i d δ' w' hd ⟨rfl, y3, rfl⟩
      rw [List.getElem?_map] at hd
      cases e : cs[i]? with
      | none =>
        rw [e] at hd
        cases hd
      | some c =>
        rw [e] at hd
        cases hd
        refine pgd_name (i := 3) nd rfl ?_
        refine pssd_one (psd_set (i := 2) nd rfl ?_)
        refine pd_op op_mod ?_
        refine pd_callTy call_int1 rfl hm.int PyProof.Rows.boot_int ?_
        refine pad_cons ?_
        refine pd_op op_add ?_
        refine pd_op op_add ?_
        refine pd_op op_mul ?_
        refine pd_var (i := 2) rfl rfl ?_
        refine pd_int ?_
        refine vr_IC (.inr ⟨by decide, by decide⟩) ?_
        refine pd_op op_mod ?_
        refine pd_var (i := 3) rfl rfl ?_
        refine pd_int ?_
        refine vr_IC (by decide) ?_
        refine vr_I ?_
        refine pd_int ?_
        refine vr_I ?_
        refine pad_nil ?_
        refine va_int ?_
        refine pd_int ?_
        refine vr_IC (by decide) ?_
        refine ⟨rfl, some (I c), ?_⟩
        have es : seeds (cs.take (i + 1)) = (seeds (cs.take i) * 48271 + c % 1000003 + 11) % 2147483647 := by
          unfold seeds
          rw [List.take_add_one, e, List.foldl_append]
          rfl
        rw [es]
        rfl
    rintro δ' w' ⟨rfl, y3, rfl⟩
    rw [List.length_map, List.take_length]
    -- return [[cell for cell in cells if cell >= 10 ** 18], seed, 0]
    refine pssd_one (psd_ret ?_)
    refine pd_lstO ?_
    refine pad_cons ?_
    refine pd_lcO (own := [("cell", 3)]) (is := [3]) rfl nd (blkOk_by (N := ["script", "cells", "seed", "cell"]) (sc := defScope sStart) (by decide +kernel)) (by decide) ?_
    refine it_list ?_
    refine pd_var (i := 1) rfl rfl ?_
    refine ⟨_, rfl, ?_⟩
    refine lcd_filter (fun c => decide (c ≥ 10 ^ 18)) I (lt_line (by omega)) (fun c hc s H0 C cl fp => ?_) ?_
    · refine pgl_name nd rfl ?_
      intro s H0 C cl fp
      refine ptsd_one ?_
      refine ptd_cmp op_ge ?_
      refine pd_var (i := 3) rfl rfl ?_
      refine pd_op op_pow ?_
      refine pd_int ?_
      refine pd_int ?_
      refine vr_IC ⟨by decide, by decide, by decide⟩ ?_
      refine vr_I ?_
      refine ⟨_, rfl, ?_⟩
      refine ite2 (fun c1 => fun s H0 C cl fp => ?_) (fun c1 => ⟨by simpa using c1, rfl⟩)
      refine pd_var (i := 3) rfl rfl ?_
      exact ⟨c1, rfl, rfl⟩
    intro r hr0
    refine pad_cons ?_
    refine pd_var (i := 2) rfl rfl ?_
    refine pad_cons ?_
    refine pd_int ?_
    refine pad_nil ?_
    refine ⟨by show 3 ≤ sizeLine; decide, fun a ha => ?_⟩
    have ne : a ≠ r := fun z => by
      rw [z, wu_same] at ha
      cases ha
    rw [wu_ne ne] at ha
    have kk := k2 a r ha hr0 ne
    unfold bagPut at kk
    rw [wu_comm ne] at kk
    exact kk
end
end Tw

set_option Elab.async false
set_option linter.all false
set_option maxRecDepth 100000
set_option maxHeartbeats 1000000
/-! An own error class whose __init__ begins with super().__init__(e, ..), the base's __init__ that of ValueError: the rule for that def. -/
namespace DL
open PySem PySem.Spec PyProof.Rows L2 LamX
open PySem.W (ksEnv)
structure ScopeS (N ps : List Str) (sc : Scope) : Prop where
  kind : sc.kind = .function
  co : sc.isCoroutine = false
  gen : sc.isGenerator = false
  nd : N.Nodup
  pre : N.take ps.length = ps
  par : ∀ x ∈ ps, sc.names.lookup x = some .local
  nocell : ∀ y ∈ sc.names, y.2 ≠ .cell
  nofree : ∀ x, sc.names.lookup x = some .cell ∨ sc.names.lookup x = some .free → x = "__class__"
  cls : sc.names.lookup ("__class__" : Str) = some .free
  sup : sc.names.lookup ("super" : Str) = some .globalImplicit
/-- what the written part says of the def at f, __init__ of the class at C -/
structure SupTxt (P : Program) (K : PySem.W.Frag) (mg : Str → Option Value) (C f cc cda : Addr) (qual : Str) (st : Stmt) (fd : FuncData) : Prop where
  ex : ∃ (oc : Value) (od : Option Addr) (kV doc pm : Value) (an : Option Addr) (ct : Value) (osl : Array (Option Value)),
    fd = PySem.W.fnX "__init__" qual (defArgs st) (defBody st) (defScope st) [("__class__", cc)] .none kV doc pm an (.ref cda) ct ∧ K.lookup f = some ⟨oc, od, .func fd, osl⟩ ∧ PySem.W.codeIn K (.ref cda) qual = true
  code : ∃ (ccl : Value) (cdd : Option Addr) (ccs : Array (Option Value)) (vs : Array Value) (file : Str) (tf : Tok), K.lookup cda = some ⟨ccl, cdd, .fields vs, ccs⟩ ∧ vs[2]? = some (.str file tf) ∧ ((P.main.file : Str) == file) = true
  cell : ∃ (cl : Value) (cld : Option Addr) (csl : Array (Option Value)), K.lookup cc = some ⟨cl, cld, .cell (some (.ref C)), csl⟩
  along : PySem.W.ks_superIn K C C "__init__" = some (some (.builtin "ValueError.__init__"))
  opq : PySem.W.nsIn K cStatics "thirdparty.any" = some none
  sub : PySem.W.subIn K (.ref C) (.type "ValueError") = some true
  selfc : PySem.W.mroIn K C (.ref C) = some true
  mgs : mg "super" = none
  top : (P.main.scope.names.lookup ("super" : Str)).isSome = false
theorem boot_super : bootBuiltins "super" = some (.type "super") := by decide +kernel
def cxS (CX : CXT) (P : Program) (w : PySem.World) (K : PySem.W.Frag) (mg : Str → Option Value) (base : Heap) (N : List Str) (qual : Str) (scope : Scope) (f : Addr) (cd : Value) (cc : Addr) (A : Around) (outer : List Env) (s : Shared) (H : Hp) (E : XK) : Cx where
  prog := P
  w := w
  K := K
  mg := mg
  base := base
  A := A.deeper (ksEnv qual scope s.heap.objs.size f cd cc)
  N := N
  s_0 := s
  H_0 := H
  env := ksEnv qual scope s.heap.objs.size f cd cc
  outer := outer
  stack := ksEnv qual scope s.heap.objs.size f cd cc :: outer
  ex := []
  calm := true
  fn := fun _ => false
  pn := []
  xe := fun e s' => wpAny (model P w) (A.deeper (ksEnv qual scope s.heap.objs.size f cd cc)) (leaving (ksEnv qual scope s.heap.objs.size f cd cc) e) (fun _ s'' => CX outer H s E e s'') (fun e' s'' => CX outer H s E e' s'') s'
theorem look_app {α β : Type} [BEq α] (x : α) : ∀ (a b : List (α × β)), (a ++ b).lookup x = match a.lookup x with | some v => some v | none => b.lookup x
  | [], b => rfl
  | (k, v) :: a, b => by
    have ih := look_app x a b
    cases hb : x == k with
    | true => simp only [List.cons_append, List.lookup, hb]
    | false =>
      simp only [List.cons_append, List.lookup, hb]
      exact ih
theorem look_rev_none {x : Str} : ∀ {l : List (Str × Value)}, x ∉ l.map (·.1) → l.reverse.lookup x = none
  | [], _ => rfl
  | (k, v) :: l, h => by
    rw [List.reverse_cons, look_app, look_rev_none (l := l) fun z => h (List.mem_cons_of_mem _ z)]
    have hb : (x == k) = false := beq_eq_false_iff_ne.mpr fun z => h (by rw [z]; exact List.mem_cons_self ..)
    simp only [List.lookup, hb]
theorem look_rev {x : Str} {u : Value} : ∀ {ps : List Str} {us : List Value} {i : Nat}, ps.Nodup → ps[i]? = some x → us[i]? = some u → (ps.zip us).reverse.lookup x = some u
  | [], _, _, _, h, _ => by simp at h
  | _ :: _, [], _, _, _, h => by simp at h
  | p :: ps, v :: us, 0, nd, h1, h2 => by
    have e1 : p = x := Option.some.inj h1
    have e2 : v = u := Option.some.inj h2
    subst e1 e2
    show ((p, v) :: ps.zip us).reverse.lookup p = some v
    rw [List.reverse_cons, look_app, look_rev_none]
    · simp [List.lookup]
    · intro z
      obtain ⟨q, hq, e⟩ := List.mem_map.mp z
      obtain ⟨a, b⟩ := q
      have e' : a = p := e
      subst e'
      exact (List.nodup_cons.mp nd).1 (List.of_mem_zip hq).1
  | p :: ps, v :: us, i + 1, nd, h1, h2 => by
    show ((p, v) :: ps.zip us).reverse.lookup x = some u
    rw [List.reverse_cons, look_app, look_rev (i := i) (List.nodup_cons.mp nd).2 h1 h2]
theorem inv_startS {CX : CXT} {P : Program} {w : PySem.World} {K : PySem.W.Frag} {mg : Str → Option Value} {base : Heap} {N ps : List Str} {qual : Str} {scope : Scope} {f cc : Addr} {cd : Value} {A : Around} {outer : List Env} {s : Shared} {H : Hp} {E : XK} {us : List Value} {vs : List V} {h1 : Heap} {tk : Nat}
    (S : ScopeS N ps scope) (hd : A.handled = none) (e0 : Env0 P w K mg base A outer s H) (hl : vs.length = ps.length) (r : Vals vs us) (hcc : ∃ (cl : Value) (cld : Option Addr) (csl : Array (Option Value)) (v : Option Value), K.lookup cc = some ⟨cl, cld, .cell v, csl⟩)
    (hns : h1.Ns s.heap.objs.size (fun x => (ps.zip us).reverse.lookup x)) (hk : ∀ b o, s.heap.get? b = some o → h1.get? b = some o) :
    Inv (cxS CX P w K mg base N qual scope f cd cc A outer s H E) [] (L2.start N vs) H { s with heap := h1, toks := tk } := by
  have hpl : ps.length ≤ N.length := by have := congrArg List.length S.pre; rw [List.length_take] at this; omega
  obtain ⟨cl, cld, csl, cv, hcc⟩ := hcc
  have bcc := e0.mod.kin cc _ hcc
  have lk : ∀ y c, List.lookup y [(("__class__" : Str), cc)] = some c → y = "__class__" ∧ c = cc := fun y c h => by
    by_cases e : y = "__class__"
    · subst e
      have : List.lookup ("__class__" : Str) [(("__class__" : Str), cc)] = some cc := by simp [List.lookup]
      rw [this] at h
      exact ⟨rfl, (Option.some.inj h).symm⟩
    · have hb : (y == ("__class__" : Str)) = false := beq_eq_false_iff_ne.mpr e
      simp only [List.lookup, hb] at h
      cases h
  have noA : ∀ b : Addr, b ∉ (cxS CX P w K mg base N qual scope f cd cc A outer s H E).ex := fun b z => absurd (show b ∈ ([] : List Addr) from z) (by simp)
  refine ⟨⟨e0.mod, S.kind, rfl, rfl, Nat.le_refl _, fun y z c h1 h2 => ?_, fun y hy => ?_, fun y c q h => absurd (show false = true from q) Bool.false_ne_true, fun _ => hd, Around.frames_deeper e0.frames, .inr ⟨rfl, rfl⟩, fun b z => absurd z (noA b), e0.bs, e0.bsz, fun b _ _ => noA b, fun b z => absurd z (noA b), e0.funs, e0.frf⟩,
    rfl, e0.bare, Un.kept hk, ⟨_, hns, fun i y v h1 h2 h3 => ?_⟩, fun y c h => ?_, e0.hok.fresh (Nat.le_refl _), fun y c h => ?_, fun p hp => absurd (show p ∈ ([] : List (Addr × Obj)) from hp) (by simp), e0.hok.kept hk, ?_⟩
  · rw [(lk y c h1).1, (lk z c h2).1]
  · have hy : scope.names.lookup y = some .cell ∨ scope.names.lookup y = some .free := hy
    have e := S.nofree y hy
    subst e
    exact ⟨cc, by show List.lookup ("__class__" : Str) [(("__class__" : Str), cc)] = some cc; simp [List.lookup]⟩
  · have hi : i < vs.length := by
      unfold L2.start at h2
      by_cases hi : i < vs.length
      · exact hi
      · rw [List.getElem?_append_right (by simpa using hi)] at h2
        rw [List.getElem?_replicate] at h2
        split at h2 <;> cases h2
    have ha : vs[i]? = some v := by
      unfold L2.start at h2
      rw [List.getElem?_append_left (by simpa using hi), List.getElem?_map] at h2
      cases e : vs[i]? with
      | none => rw [e] at h2; cases h2
      | some a => rw [e] at h2; cases h2; rfl
    obtain ⟨u, hu, rv⟩ := r.get ha
    have hp : ps[i]? = some y := by
      rw [← S.pre, List.getElem?_take_of_lt (by omega)]; exact h1
    have ndP : ps.Nodup := by rw [← S.pre]; exact S.nd.sublist (List.take_sublist _ _)
    exact ⟨u, rv, .inl ⟨S.par y (List.mem_of_getElem? hp), look_rev ndP hp hu⟩⟩
  · obtain ⟨_, rfl⟩ := lk y c h
    exact ⟨_, ⟨_, hk _ _ (e0.bs _ _ bcc).1, rfl⟩⟩
  · obtain ⟨_, rfl⟩ := lk y c h
    exact (e0.bs _ _ bcc).2
  · unfold L2.start
    show _ = N.length
    rw [List.length_append, List.length_map, List.length_replicate]
    omega
/-- the wrapper called -/
theorem call_mw {prog : Program} {w : PySem.World} {A : Around} {E : Value → Shared → Prop} {h : Heap} {g : Array GenState} {d : Drawn} {t : Nat} {os : OsState} {nm q : Str} {C N : Addr} {bs bm : List Value} {hdct : Bool} {sn : List Str} {sub : List Value} {ab : Bool} {col : Option Bool} {dd : Option Addr} {k0 k1 k2 k3 k5 : Option Value}
    {u e t0 : Addr} {rest : List Value} {Q : Value → Shared → Prop}
    (hC : h.get? C = some (excClassObj nm q C N bs bm hdct sn sub ab col dd k0 k1 k2 k3 k5 "ValueError.__new__")) (he : h.get? e = some (HandSPX.excO C t0)) (hu : h.get? u = some (PySem.W.kxs_mw "ValueError.__init__" e)) (hrest : rest.length ≤ sizeLine)
    (hq : ∀ h' t1, (∀ b o, b ≠ e → h.get? b = some o → h'.get? b = some o) → h'.get? e = some (HandSPX.excO C t1) → Q .none ⟨h', g, d, t, os⟩) :
    wpAny (model prog w) A (call (.ref u) rest) Q E ⟨h, g, d, t, os⟩ := by
  refine wpAny_call (codeAny_of_tree ?_)
  show wpAny _ A.in1 (callAny (.ref u) ⟨rest, []⟩) _ _ _
  simp only [callAny]
  refine wpAny_bind (wpAny_load hu ?_)
  simp only [PySem.W.kxs_mw, show (Value.type "method-wrapper" == Value.type "method" || Value.type "method-wrapper" == Value.type "builtin_function_or_method" || Value.type "method-wrapper" == Value.type "method-wrapper") = true by decide, if_true]
  refine PySem.W.KFB.if_so (by decide) ?_
  refine wpAny_bind (PySem.W.check_bound_init F.excBase_ValueError.toExcCallFacts hC he rfl ?_)
  refine wpAny_bind (wpAny_pure (wpAny_pure ?_))
  refine ⟨plainId_quiet F.excBase_ValueError.init.plain _, codeAny_builtin F.excBase_ValueError.initEntry ?_⟩
  rw [Around.under_plainId F.excBase_ValueError.init.plain _]
  wp_walk
  refine hq _ h.objs.size (fun b o hb ho => ?_) ?_
  · rw [Heap.get?_update_other _ _ (Ne.symm hb)]
    exact Heap.get?_push_of_some _ ho
  · rw [Heap.get?_update_self _ (Heap.get?_push_of_some _ he) rfl]
    rfl
end DL

set_option Elab.async false
set_option linter.all false
set_option maxRecDepth 100000
set_option maxHeartbeats 2000000
namespace DL
open PySem PySem.Spec PyProof.Rows L2 LamX
open PySem.W (ksEnv)
theorem callWith_mw {M : Model} {A : Around} {E : Value → Shared → Prop} {s : Shared} {i : String} {u x : Addr} {pos : Pos} {env : Env} {e : Expr} {rest : List Expr} {Q : Value → Shared → Prop}
    (he : starEach (e :: rest) env = (false, eval e env) :: starEach rest env) (hplain : (backTo pos (starEach rest env)).any (·.1) = false)
    (h : wpAny M A (spliced (backTo pos (starEach (e :: rest) env))) (fun vs s₁ => PySem.W.KxsAt i u x s₁.heap ∧ wpAny M A (call (.ref u) vs) Q E s₁) E s) :
    wpAny M A (callWith pos (.ref u) [] (backTo pos (starEach (e :: rest) env)) []) Q E s := by
  rw [he] at h ⊢
  refine PySem.W.kxs_callWith (i := i) (x := x) (by show (false || (backTo pos (starEach rest env)).any (·.1)) = false; rw [hplain]; rfl) ?_
  exact Calls.evalArgs_plain h
theorem fnSup {P : Program} {w : PySem.World} {K : PySem.W.Frag} {mg : Str → Option Value} {base : Heap} {CX : CXT} {N ps : List Str} {qual : Str} {st : Stmt} {f C cc cda : Addr} {fd : FuncData} {k : Nat} {sp : Sp} {p0 p1 ap cp xp : Pos} {e : Expr} {es : List Expr} {rest : List Stmt} {ar : Arg} {pl : Env → Sem Bool}
    (G : SupTxt P K mg C f cc cda qual st fd) (T : OexC K C) (S : ScopeS N ps (defScope st)) (hbody : defBody st = .Expr (.Call (.Attribute (.Call (.Name "super" p0) [] [] p1) "__init__" ap) (e :: es) [] cp) xp :: rest)
    (hp : ((defArgs st).posonlyargs ++ (defArgs st).args).head? = some ar) (hN0 : N[0]? = some ar.arg) (hpl : ps[0]? = some ar.arg) (len : ∀ vs H Q E, sp vs H Q E → vs.length = ps.length)
    (he : ∀ env, starEach (e :: es) env = (false, eval e env) :: starEach es env) (hpn : ∀ env, (backTo cp (starEach es env)).any (·.1) = false)
    (hev : ∀ env, eval (.Call (.Attribute (.Call (.Name "super" p0) [] [] p1) "__init__" ap) (e :: es) [] cp) env = (do
      let ov ← attributeBase (.Call (.Name "super" p0) [] [] p1) "__init__" env (eval (.Call (.Name "super" p0) [] [] p1) env)
      standAt ap.atName
      let (f, first) ← holding [ov] (getMethod ov "__init__" (pl env))
      callWith cp f first (backTo cp (starEach (e :: es) env)) []))
    (hsw : ∀ env, swapsWith (.Call (.Attribute (.Call (.Name "super" p0) [] [] p1) "__init__" ap) (e :: es) [] cp) none xp.line env = pure false)
    (body : ∀ (A : Around) (outer : List Env) (s : Shared) (H : Hp) (vs : List V) (Q : VK) (E : XK), Room k (A.deeper (ksEnv qual (defScope st) s.heap.objs.size f (.ref cda) cc)) → sp vs H Q E → ∃ ta t a,
      PA (cxS CX P w K mg base N qual (defScope st) f (.ref cda) cc A outer s H E) (e :: es) ta ∧ PSs (cxS CX P w K mg base N qual (defScope st) f (.ref cda) cc A outer s H E) rest t ∧ vs[0]? = some (.ref a) ∧ H a = some (exo a C none) ∧
      ta (L2.start N vs) H fun ws H1 => ws.length ≤ 1000 ∧ H1 a = some (exo a C none) ∧ t { nx := fun _ H' => Q .non H', rt := Q } (L2.start N vs) H1) : FnOk P w K mg base CX (k + 1) f fd ps sp := by
  refine ⟨len, fun A outer s H args us vs Q E hr e0 hb r hsp => ?_⟩
  obtain ⟨oc, od, kV, doc, pm, an, ct, osl, rfl, lk, hcd⟩ := G.ex
  obtain ⟨ccl, cdd, ccs, cvs, file, tf, hcode, hvs, hfile⟩ := G.code
  obtain ⟨cl, cld, csl, hcell⟩ := G.cell
  obtain ⟨nm, q, NN, bs, bm, sn, sub, ab, col, dd, k0, k1, k2, k3, k5, hC, hbm⟩ := T.cls
  have hcls : PySem.W.clsIn K C = some { name := nm, bases := bs, mro := .ref C :: bm, ns := NN, qualname := q, hasDict := true, slotNames := sn, subclasses := sub, abstract := ab, collection := col, hasDel := false } := by unfold PySem.W.clsIn; rw [hC] <;> rfl
  have halong : PySem.W.alongIn K "__init__" bm = some (some (.builtin "ValueError.__init__")) := by
    have z := G.along
    unfold PySem.W.ks_superIn at z
    rw [hcls] at z
    have z2 : PySem.W.alongIn K "__init__" (((Value.ref C :: bm).dropWhile (· != .ref C)).drop 1) = _ := z
    have e2 : ((Value.ref C :: bm).dropWhile (· != .ref C)).drop 1 = bm := by simp [List.dropWhile_cons]
    rw [e2] at z2
    exact z2
  have hl := len _ _ _ _ hsp
  have KX : K.In s.heap := e0.mod.kin.keeps fun b o e => (e0.bs b o e).1
  have lim : s.heap.NoLimit := e0.mod.nolimit.keeps fun b o e => (e0.bs b o e).1
  refine PySem.ks_codeAny_call_defAt (body := defBody st) (binds := ps.zip us) hr.depth (KX _ _ lk) rfl lim (PySem.W.codeRec_of KX hcd) rfl hb S.nocell (fun x hx => S.par _ (List.of_mem_zip hx).1) (fun h1 hns hk => ?_) S.co S.gen S.kind
  obtain ⟨ta, t, a, hta, ht, ha0, hHa, hq⟩ := body A outer s H vs Q E (hr.deeper _) hsp
  have I := inv_startS (CX := CX) (P := P) (w := w) (mg := mg) (qual := qual) (f := f) (cd := .ref cda) (E := E) (tk := s.toks + (ps.zip us).length) S hr.hd e0 hl r ⟨cl, cld, csl, _, hcell⟩ hns hk
  generalize hX : cxS CX P w K mg base N qual (defScope st) f (.ref cda) cc A outer s H E = X at I hta ht
  have xK : X.K = K := by rw [← hX]; rfl
  have xE : callEnv (PySem.W.fnX "__init__" qual (defArgs st) (defBody st) (defScope st) [("__class__", cc)] .none kV doc pm an (.ref cda) ct) s.heap.objs.size f = X.env := by rw [← hX]; rfl
  have xA : A.deeper X.env = X.A := by rw [← hX]; rfl
  have xP : X.prog = P := by rw [← hX]; rfl
  have xw : X.w = w := by rw [← hX]; rfl
  have xm : X.mg = mg := by rw [← hX]; rfl
  have xN : X.N = N := by rw [← hX]; rfl
  have xo : X.outer = outer := by rw [← hX]; rfl
  have xex : X.ex = [] := by rw [← hX]; rfl
  have xH0 : X.H_0 = H := by rw [← hX]; rfl
  have xs0 : X.s_0 = s := by rw [← hX]; rfl
  have xf : X.env.func = some f := by rw [← hX]; rfl
  have xc : X.env.code = .ref cda := by rw [← hX]; rfl
  have xs : X.env.scope = defScope st := by rw [← hX]; rfl
  have xcell : X.env.cells = [(("__class__" : Str), cc)] := by rw [← hX]; rfl
  have xk : ∀ y, X.env.kindOf y = (defScope st).names.lookup y := fun y => by rw [← hX]; rfl
  have xxe : (fun e s' => wpAny (model P w) X.A (leaving X.env e) (fun _ s'' => CR CX outer P w H s Q E (.error e) s'') (fun e' s'' => CR CX outer P w H s Q E (.error e') s'') s') = X.xe := by rw [← hX]; rfl
  rw [xE, xA, hbody]
  subst xP xw xK xm xN
  rw [xxe]
  have hlc : X.env.kindOf ar.arg = some .local := by
    rw [xk]
    exact S.par _ (List.mem_of_getElem? hpl)
  have hs0 : (L2.start X.N vs)[0]? = some (some (V.ref a)) := by
    unfold L2.start
    have hv : 0 < vs.length := (List.getElem?_eq_some_iff.mp ha0).1
    rw [List.getElem?_append_left (by rw [List.length_map]; exact hv), List.getElem?_map, ha0]
    rfl
  have hvis : Vis X.env.scope ar.arg := .inl (by rw [xs]; exact S.par _ (List.mem_of_getElem? hpl))
  refine PySem.ks_wpAt_execs_cons (PySem.ks_wpAt_Expr_any (PySem.ks_wpAt_MethodCall (pl := pl X.env) ?_ (hev _)) I.quiet (hsw _))
  have hof := I.kIn _ _ lk
  have hoc := I.kIn _ _ hcode
  have hcl2 := I.kIn _ _ hcell
  have hC2 := I.kIn _ _ hC
  refine PySem.ks_wpAt_super_base (vs := cvs) (by rw [xk]; exact S.sup) (by rw [xk]; exact S.cls) (by decide) xf hof rfl hp xc hoc rfl hvs hfile G.top ?_
  obtain ⟨mb, b1, b2⟩ := I.mod.blt
  refine PySem.W.ks_loadName_global I.ok.kind (by rw [xk]; exact S.sup) (Calls.loadGlobal_builtin (by rw [I.ok.glob]; exact I.mod.glob.keeps I.bk) G.mgs (by rw [I.ok.blt]; exact b1.keeps I.bk) ((b2 "super" (by decide)).trans boot_super) ⟨rfl, ?_⟩)
  refine wpAny_loadName_free I.ok.kind (by rw [xk]; exact S.cls) (by rw [xcell]; rfl) ⟨_, hcl2, rfl⟩ ?_
  obtain ⟨m, hn, hlo⟩ := I.loc
  obtain ⟨u0, ru, lu⟩ := hlo 0 ar.arg (.ref a) hN0 hs0 hvis
  have ru' : u0 = Value.ref a := ru
  subst ru'
  rcases lu with ⟨_, hm⟩ | ⟨hk2, _⟩
  case inr => rw [hlc] at hk2; rcases hk2 with z | z <;> cases z
  refine wpAny_loadName_local I.ok.kind hlc hn hm ?_
  obtain ⟨t1, hx⟩ := exo_at I.hok hHa
  refine PySem.ks_wpAny_isType_cls hC2 rfl ⟨rfl, ?_⟩
  refine PySem.ks_wpAny_call_super hC2 rfl hx rfl (fun c z => by cases z) (PySem.W.looks_mroIn I.kIn G.selfc) (fun h2 hso k2 => ?_)
  have I2 : L2.Inv X [] (L2.start X.N vs) H { s with heap := h2, toks := s.toks + (ps.zip us).length } := I.kept (t' := s.toks + (ps.zip us).length) k2
  have hx2 := k2 _ _ hx
  have hxC : a ≠ C := fun z => by
    rw [z, hC2] at hx
    have z2 := congrArg Obj.data (Option.some.inj hx)
    cases z2
  have hno : PySem.W.Looks (model X.prog X.w) h2 (opaqueClassAbove (.ref C)) none := PySem.W.looks_opaque I2.kIn G.opq
  have hCm : PySem.W.Looks (model X.prog X.w) h2 (mroOf (.ref C)) (.ref C :: bm) := (PySem.W.looks_clsIn I2.kIn hcls).andThen .now
  have e2 : ((Value.ref C :: bm).dropWhile (· != .ref C)).drop 1 = bm := by simp [List.dropWhile_cons]
  have IA : PySem.W.InstAt h2 a { cls := .ref C, dict := none, data := .fields #[.ref t1, .none, .none, .none, .bool false, .none] } C none := ⟨hx2, rfl, rfl, trivial⟩
  have hI : PySem.W.Looks (model X.prog X.w) h2 (isInstance (.ref a) (.type "ValueError")) true := IA.type.andThen (PySem.W.looks_subIn I2.kIn G.sub)
  refine PySem.W.kxs_getMethod PySem.W.kxs_ValueError hso hno hCm e2 I2.kIn halong hI hxC (by decide) ?_
  have I3 := ClX.pin_new (o := PySem.W.kxs_mw "ValueError.__init__" a) (a := h2.objs.size) (h' := h2.push (PySem.W.kxs_mw "ValueError.__init__" a)) (t' := s.toks + (ps.zip us).length + 1) I2 (fun b o e => Heap.get?_push_of_some _ e) (Nat.le_refl _) (Heap.get?_push_at rfl rfl) (fun v z => by cases z)
  -- the call
  show wpAny (model X.prog X.w) X.A (callWith cp (.ref h2.objs.size) [] (backTo cp (starEach (e :: es) X.env)) []) _ _ _
  refine callWith_mw (i := "ValueError.__init__") (x := a) (he _) (hpn _) ?_
  refine thn (hta.run cp _ _ _ H _ I3 hq) fun ws s3 ⟨vs3, H3, I4, r3, hz3, hH3, q3⟩ => ?_
  refine ⟨ClX.pin_at I4, ?_⟩
  obtain ⟨t2, hx3⟩ := exo_at I4.hok hH3
  obtain ⟨hp3, g3, d3, tk3, os3⟩ := s3
  show wpAny (model X.prog X.w) X.A (call (.ref h2.objs.size) ws) _ _ _
  refine call_mw (I4.kIn _ _ hC) hx3 (ClX.pin_at I4) (by rw [← Paired.length r3, sizeLine_eq]; omega) fun h4 t4 k4 hx4 => ?_
  have J := (ClX.unpin I4).write (t' := tk3) (x := a) (e := a) (o := exo a C none) (by rw [hH3]; exact True.intro) (.inl rfl) k4 ⟨_, hx4⟩ (exo_ok hx4)
  have eu : upd H3 a (exo a C none) = H3 := by
    funext b
    by_cases hb : b = a
    · rw [hb, upd_same, hH3]
    · rw [upd_ne hb]
  rw [eu] at J
  refine wpAt_of_wpAny (wpAny_mono (ht.run [] _ (L2.start X.N vs) H3 _ J q3) (fun fl s' hs => ?_) fun e s' hs => hs)
  have fin : ∀ {σ' : L2.St} {H' : Hp} {v : V} {u : Value}, L2.Inv X [] σ' H' s' → RelV v u → Q v H' → CE outer X.prog X.w H s Q u s' :=
    fun {σ' H' v u} J rv q => by
      have b : Un (frs X.outer) X.ex X.H_0 H' X.s_0.heap s'.heap := J.base
      have os : s'.os = X.s_0.os := J.os
      rw [xo, xex, xH0, xs0] at b
      rw [xs0] at os
      exact ⟨v, H', os, J.bare, b, J.hok, rv, q⟩
  cases fl with
  | ret u =>
    obtain ⟨v, σ', H', J, rv, q⟩ := hs
    exact fin J rv q
  | next =>
    obtain ⟨σ', H', J, q⟩ := hs
    exact fin (v := V.non) (u := Value.none) J rfl q
  | brk =>
    obtain ⟨_, _, _, q⟩ := hs
    exact False.elim q
  | cont =>
    obtain ⟨_, _, _, q⟩ := hs
    exact False.elim q
end DL

set_option Elab.async false
set_option linter.all false
set_option maxRecDepth 100000
set_option maxHeartbeats 2000000
namespace DL
open PySem PySem.Spec PyProof.Rows L2 LamX
open PySem.W (ksEnv)
/-- __init__ of an error class of one field: what it is called with, what it leaves -/
def spX1 (C : Addr) (f : Str) (ok : V → Prop) : Sp := fun vs H Q _ => ∃ a v, vs = [.ref a, v] ∧ H a = some (exo a C none) ∧ ok v ∧
  ∀ dx, H dx = none → dx ≠ a → Q .non (upd (upd H dx (exd dx [(f, v)])) a (exo a C (some dx)))
def intFits (v : V) : Prop := ∃ i : Int, v = .int i ∧ i.natAbs.log2 < 1920
/-- what a made error leaves -/
theorem made_heap {H1 : Hp} {a dx C : Addr} {f : Str} {v : V} (na : H1 a = none) (nd : dx ≠ a) : upd (del (upd (upd (upd H1 a (exo a C none)) dx (exd dx [(f, v)])) a (exo a C (some dx))) a) dx (.xd [(f, v)]) = upd H1 dx (.xd [(f, v)]) := by
  funext b
  by_cases h1 : b = dx
  · rw [h1, upd_same, upd_same]
  · rw [upd_ne h1, upd_ne h1]
    by_cases h2 : b = a
    · rw [h2, del_same, na]
    · rw [del_ne h2, upd_ne h2, upd_ne h1, upd_ne h2]
section
variable {X : Cx} {T : List (Addr × Str)} {W : WX} {χ : XD} {δ : Dn} {w : Wp} {pos : Pos}
/-- raise X(e), X an error class of one field -/
theorem psd_raise1 {CX : CXT} {x f : Str} {C fI : Addr} {k : Nat} {fd : FuncData} {ok : V → Prop} {e : Expr} {p cpos : Pos} {Fi : Fin} (hc : X.calm = true) (tk : Takes X W) (TC : OexC X.K C) (iC : PySem.W.findIn X.K (.ref C) "__init__" = some (some (.ref fI))) (tI : PySem.W.typeIn X.K (.ref fI) = some (.type "function"))
    (G : FnOk X.prog X.w X.K X.mg X.base CX0 k fI fd ["self", f] (spX1 C f ok)) (hr : Room (k + 1) X.A) (hb : Binds X.K fd ["self", f] []) (hm : X.mg x = some (.ref C))
    (h : PD X T W χ e δ w fun d w1 => ∃ v, d = .val v ∧ ok v ∧ χ C [f] [d] w1) (hg : Gl X x := by rfl) (hdb : (x == ("__debug__" : Str)) = false := by decide)
    (he : starEach [e] X.env = (false, eval e X.env) :: starEach [] X.env := by rfl) (hpl : (backTo cpos (starEach [] X.env)).any (·.1) = false := by rfl) : PSD X T W χ (.Raise (some (.Call (.Name x p) [e] [] cpos)) none pos) δ w Fi := fun F σ S H E hE hW hX hK => by
  refine wp_ps (ps_raise hc tk (pmk_oex (dvs := []) (ds := []) TC iC tI G hr hb .nil pass0 hg hm (pa_cons (pe_wp e) pa_nil he) hdb he hpl)) ?_
  refine h F σ S H _ hE hW (hX σ) fun d w1 v S1 H1 q s1 W1 r => ?_
  obtain ⟨v', rfl, hv, q⟩ := q
  have r' : v = v' := r
  subst r'
  refine ⟨by show 1 ≤ 1000; decide, fun a na => ?_⟩
  refine ⟨a, v, rfl, upd_same, hv, fun dx nd nda => ⟨rfl, dx, [(f, v)], upd_same, ?_, ?_, ?_⟩⟩
  · rw [upd_ne nda, upd_same]
  · rw [upd_ne nda] at nd
    exact nd
  · rw [upd_ne nda] at nd
    rw [made_heap na nda]
    have s2 : Same S1 (upd S1 dx (.xd [(f, v)])) := same_upd (W1.free nd).1
    exact hX σ C [f] [.val v] w1 dx _ _ q (s1.trans s2) (W1.laid nd fun _ z => by cases z) ⟨[(f, v)], upd_same, rfl, v, [], rfl, rfl, rfl⟩
end
end DL
namespace Tw
open PySem PySem.Spec PyProof.Rows L2 LamX DL
open PySem.W (ksEnv)
def topX (i : Nat) : Stmt := PySem.Challenge.pw_thinwall_k02_parted_merged_and_texts.main.body.getD i (.Pass ⟨0, 0, 0, 0⟩)
abbrev sBadSize : Stmt := inClass (topX 3) 0
abbrev sUnkCase : Stmt := inClass (topX 4) 0
theorem txt_fits {x y : Str} (h : x.length ≤ 100) (k : y.length ≤ 1921) : (x ++ y).length ≤ sizeLine := by
  have e : (x ++ y).length = x.length + y.length := Str.length_append x y
  rw [e, sizeLine_eq]
  omega
theorem txt_fits2 {x y z : Str} (h : x.length ≤ 100) (k : y.length ≤ 1921) (l : z.length ≤ 100) : (x ++ y ++ z).length ≤ sizeLine := by
  have e : (x ++ y ++ z).length = x.length + y.length + z.length := by rw [Str.length_append, Str.length_append]
  rw [e, sizeLine_eq]
  omega
section
variable {P : Program} {w : PySem.World} {K : PySem.W.Frag} {mg : Str → Option Value} {base : Heap}
theorem scBS : ScopeS ["self", "size"] ["self", "size"] (defScope sBadSize) := by
  refine ⟨rfl, rfl, rfl, by decide +kernel, rfl, by decide +kernel, by decide +kernel, ?_, by decide +kernel, by decide +kernel⟩
  intro x h
  have key : ∀ y ∈ (defScope sBadSize).names, (y.2 = .cell ∨ y.2 = .free) → y.1 = "__class__" := by decide +kernel
  rcases h with h | h
  · exact key (x, _) (PySem.mem_of_lookup h) (.inl rfl)
  · exact key (x, _) (PySem.mem_of_lookup h) (.inr rfl)
theorem ok_bs {f C cc cda : Addr} {fd : FuncData} (G : SupTxt P K mg C f cc cda "BadSize.__init__" sBadSize fd) (TC : OexC K C) (no : PySem.W.findIn K (.ref C) "size" = some none) : FnOk P w K mg base CX0 1 f fd ["self", "size"] (spX1 C "size" intFits) := by
  refine fnSup G TC scBS rfl rfl rfl rfl (fun vs H Q E h => ?_) (fun _ => rfl) (fun _ => rfl) (fun _ => rfl) (fun _ => rfl) (fun A outer s H vs Q E hr h => ?_)
  · obtain ⟨a, v, rfl, _⟩ := h
    rfl
  · obtain ⟨a, v, rfl, ha, ⟨i, rfl, hi⟩, q⟩ := h
    refine ⟨_, _, a, pa_cons (pe_joined (.cons pe_str (.cons (pe_fmt (pv 1)) (.cons pe_str .nil)))) pa_nil, pss_one (ps_ost (pv 0) (pv 1)), rfl, ha, ?_⟩
    refine ⟨_, rfl, by decide +kernel, ?_⟩
    refine ⟨_, rfl, .inr ⟨i, rfl, hi, ?_⟩⟩
    have l0 : (Str.ofString (toString i)).length ≤ 1921 := by
      have e := int_text_length_le (k := 1920) (by decide) hi
      rw [PySem.ofString_length]
      omega
    refine ⟨_, rfl, txt_fits (by decide +kernel : (Str.empty ++ ("the size " : Str)).length ≤ 100) l0, ?_⟩
    refine ⟨_, rfl, txt_fits2 (by decide +kernel : (Str.empty ++ ("the size " : Str)).length ≤ 100) l0 (by decide +kernel), ?_⟩
    refine ⟨by show 1 ≤ 1000; decide, ha, ?_⟩
    refine ⟨_, rfl, _, rfl, a, C, rfl, TC, no, .inl ⟨ha, fun dx nd nda => ?_⟩⟩
    exact q dx nd nda
theorem scUC : ScopeS ["self", "case"] ["self", "case"] (defScope sUnkCase) := by
  refine ⟨rfl, rfl, rfl, by decide +kernel, rfl, by decide +kernel, by decide +kernel, ?_, by decide +kernel, by decide +kernel⟩
  intro x h
  have key : ∀ y ∈ (defScope sUnkCase).names, (y.2 = .cell ∨ y.2 = .free) → y.1 = "__class__" := by decide +kernel
  rcases h with h | h
  · exact key (x, _) (PySem.mem_of_lookup h) (.inl rfl)
  · exact key (x, _) (PySem.mem_of_lookup h) (.inr rfl)
theorem ok_uc {f C cc cda : Addr} {fd : FuncData} (G : SupTxt P K mg C f cc cda "UnknownCase.__init__" sUnkCase fd) (TC : OexC K C) (no : PySem.W.findIn K (.ref C) "case" = some none) : FnOk P w K mg base CX0 1 f fd ["self", "case"] (spX1 C "case" intFits) := by
  refine fnSup G TC scUC rfl rfl rfl rfl (fun vs H Q E h => ?_) (fun _ => rfl) (fun _ => rfl) (fun _ => rfl) (fun _ => rfl) (fun A outer s H vs Q E hr h => ?_)
  · obtain ⟨a, v, rfl, _⟩ := h
    rfl
  · obtain ⟨a, v, rfl, ha, ⟨i, rfl, hi⟩, q⟩ := h
    refine ⟨_, _, a, pa_cons (pe_joined (.cons pe_str (.cons (pe_fmt (pv 1)) .nil))) pa_nil, pss_one (ps_ost (pv 0) (pv 1)), rfl, ha, ?_⟩
    refine ⟨_, rfl, by decide +kernel, ?_⟩
    refine ⟨_, rfl, .inr ⟨i, rfl, hi, ?_⟩⟩
    have l0 : (Str.ofString (toString i)).length ≤ 1921 := by
      have e := int_text_length_le (k := 1920) (by decide) hi
      rw [PySem.ofString_length]
      omega
    refine ⟨_, rfl, txt_fits (by decide +kernel : (Str.empty ++ ("there is no case " : Str)).length ≤ 100) l0, ?_⟩
    refine ⟨by show 1 ≤ 1000; decide, ha, ?_⟩
    refine ⟨_, rfl, _, rfl, a, C, rfl, TC, no, .inl ⟨ha, fun dx nd nda => ?_⟩⟩
    exact q dx nd nda
end
end Tw

set_option Elab.async false
set_option linter.all false
set_option maxRecDepth 100000
set_option maxHeartbeats 1000000
/-! == and != by an own method, len by an own method, isinstance of an own class, freezing within an expression. -/
namespace DL
open PySem PySem.Spec PyProof.Rows L2 LamX
/-- an own class as isinstance and type(..) see it -/
structure ClsI (K : PySem.W.Frag) (C : Addr) : Prop where
  cl : Cls K C
  cc : PySem.W.findIn K (.ref C) "__class__" = some (some (.builtin "object.__class__"))
  cg : PySem.W.specialIn K (.builtin "object.__class__") "__get__" = some (some (.builtin "getset_descriptor.__get__"))
  ct : PySem.W.takesIn K (.builtin "object.__class__") = some true
  mo : PySem.W.mroIn K C (.type "object") = some true
/-- the type of a datum, own classes too -/
def TyDD (K : PySem.W.Frag) (d : D) (t : Value) : Prop := (∃ n, tyD d = some n ∧ t = .type n) ∨ ∃ C ns ds, d = .obj C ns ds ∧ ClsI K C ∧ t = .ref C
theorem TyDD.tyx {K : PySem.W.Frag} {T : List (Addr × Str)} {w : Wp} {S F H : Hp} {d : D} {t : Value} {x : V} (h : TyDD K d t) (hW : World K T S w F H) (r : Rep K S d x) : TyX K H x t := by
  rcases h with ⟨n, h1, rfl⟩ | ⟨C, ns, ds, rfl, c, rfl⟩
  · exact DL.tyx hW h1 r
  · obtain ⟨a, dx, ys, rfl, h1, _, _⟩ := r
    exact .base (.ins (hW.same _ _ h1) c.cl c.cc c.cg c.ct c.mo)
section
variable {X : Cx}
def rOwn (C : Addr) (sp : Sp) : R2 := fun x y H Q => ∃ a dx fs t, x = .ref a ∧ H a = some (.ins C dx fs) ∧ TyX X.K H y t ∧ PySem.W.notFirst X.K C t = true ∧ sp [x, y] H (fun v H' => ∃ b, v = .bl b ∧ Q v H') E0
theorem op_own {op : CmpOp} {C f : Addr} {fd : FuncData} {ps : List Str} {k : Nat} {sp : Sp} (hop : ∀ a b, compareOp op a b = richCompare op a b) (G : FnOk X.prog X.w X.K X.mg X.base CX0 k f fd ps sp) (hr : Room k X.A) (hs : PySem.W.findIn X.K (.ref C) (cmpInfo op).2.1 = some (some (.ref f))) (hf : PySem.W.isFn X.K (.ref f) = true) (hb : Binds X.K fd ps []) :
    OpR X (compareOp op) (rOwn (X := X) C sp) := by
  intro pins s σ H x y v u Q I rx ry h
  obtain ⟨a, dx, fs, t, rfl, ha, ty, nf, hsp⟩ := h
  cases rx
  obtain ⟨mA, J, _⟩ := ins_get I.hok ha
  obtain ⟨od, J, _⟩ := J.look
  obtain ⟨m, hF⟩ := I.fr
  obtain ⟨Pz, Z, p, _⟩ := kit_of I ry ty
  show wpAny (model X.prog X.w) X.A (compareOp op (.ref a) u) (EP X pins σ Q) X.xe s
  rw [hop]
  refine PySem.W.cmp_K (op := op) (tb := t) hr.units0 hF I.ok.mod.kin J (Z.ty _ _ I.kIn p) nf hs hf ?_
  have r2 : Vals [V.ref a, y] [Value.ref a, u] := .cons rfl (.cons ry .nil)
  have q := run_fnSD (σ := σ) (E := fun _ => E0) (dvs := []) (ds := []) G hr hb .nil pass0At I r2 (by rw [List.append_nil]; exact hsp)
  refine thn q fun r s' z => ?_
  obtain ⟨v', H', I', rv, ⟨b, rfl, q⟩⟩ := z
  cases rv
  exact ⟨.bl b, H', I', rfl, q⟩
/-- len(x), x an instance with an own __len__ -/
theorem call_lenOwn {C f : Addr} {fd : FuncData} {ps : List Str} {k : Nat} {sp : Sp} (G : FnOk X.prog X.w X.K X.mg X.base CX0 k f fd ps sp) (hr : Room (k + 1) X.A) (hs : PySem.W.findIn X.K (.ref C) "__len__" = some (some (.ref f))) (hf : PySem.W.isFn X.K (.ref f) = true) (hb : Binds X.K fd ps []) :
    CallR X (.builtin "len") (fun xs H Q => ∃ a dx fs, xs = [.ref a] ∧ H a = some (.ins C dx fs) ∧ sp [.ref a] H (fun v H' => ∃ n : Int, v = .int n ∧ 0 ≤ n ∧ n < 2 ^ 63 ∧ Q v H') E0) := by
  intro pins s σ H xs us Q I r h
  obtain ⟨a, dx, fs, rfl, ha, hsp⟩ := h
  obtain ⟨u, rfl, rx⟩ := vals1 r
  cases (show u = Value.ref a from rx)
  obtain ⟨mA, J, _⟩ := ins_get I.hok ha
  obtain ⟨od, J, _⟩ := J.look
  obtain ⟨m, hF⟩ := I.fr
  refine PySem.W.len_K hF I.ok.mod.kin J hs hf ?_
  have r2 : Vals [V.ref a] [Value.ref a] := .cons rfl .nil
  have hl : ([Value.ref a] ++ []).length = ps.length := by
    have e := r2.length
    rw [G.len _ _ _ _ hsp] at e
    rw [List.append_nil]
    exact e.symm
  have bb := hb s [Value.ref a] I.kIn hl
  rw [List.append_nil] at bb
  refine wpAny_call (codeAny_mono (G.run X.A.in1 X.stack s H ⟨[.ref a], []⟩ [.ref a] [.ref a] _ E0 hr.in1 I.env0.in1 bb r2 hsp) fun r s' hq => ?_)
  cases r with
  | error e => exact hq.elim
  | ok fl =>
    cases fl with
    | ret u =>
      obtain ⟨v', H', I', rv, n, rfl, h0, h1, q⟩ := I.after hq
      obtain ⟨t, rfl⟩ := rv
      exact ⟨⟨h0, h1⟩, .int n, H', I'.tok _, ⟨_, rfl⟩, q⟩
    | next => exact False.elim hq
    | brk => exact False.elim hq
    | cont => exact False.elim hq
end
section
variable {X : Cx} {T : List (Addr × Str)} {W : WX} {χ : XD} {δ : Dn} {w : Wp} {pos : Pos}
/-- == by the own method, in data -/
theorem vr_own {C : Addr} {sp : SpD} {d e : D} {t : Value} {κ : D → Wp → Prop} (hd : ∃ ns ds, d = .obj C ns ds) (he : TyDD X.K e t) (nf : PySem.W.notFirst X.K C t = true) (h : sp [d, e] w (fun d' w' => ∃ b, d' = B b ∧ κ d' w') noX) :
    VR2 X.K T (rOwn (X := X) C (spOf X.K T sp)) d e w κ := fun F S H x y Q hW r1 r2 hK => by
  obtain ⟨ns, ds, rfl⟩ := hd
  obtain ⟨a, dx, ys, rfl, h1, h2, h3⟩ := id r1
  refine ⟨a, dx, ys, t, rfl, hW.same _ _ h1, he.tyx hW r2, nf, [.obj C ns ds, e], w, F, S, _, noX, h, ⟨_, _, rfl, r1, _, _, rfl, r2, rfl⟩, hW, ?_, fun _ _ _ _ _ _ _ z => z.elim⟩
  rintro d' w' v S' H' ⟨b, rfl, k⟩ s1 W1 r
  have r' : v = .bl b := r
  exact ⟨b, r', hK _ w' v S' H' k s1 W1 r⟩
theorem va_lenOwn {C : Addr} {sp : SpD} {d : D} {κ : D → Wp → Prop} (hd : ∃ ns ds, d = .obj C ns ds) (h : sp [d] w (fun d' w' => ∃ n : Int, d' = I n ∧ 0 ≤ n ∧ n < 2 ^ 63 ∧ κ d' w') noX) :
    VRA X.K T (fun xs H Q => ∃ a dx fs, xs = [.ref a] ∧ H a = some (.ins C dx fs) ∧ spOf X.K T sp [.ref a] H (fun v H' => ∃ n : Int, v = .int n ∧ 0 ≤ n ∧ n < 2 ^ 63 ∧ Q v H') E0) [d] w κ := fun F S H xs Q hW r1 hK => by
  obtain ⟨ns, ds, rfl⟩ := hd
  obtain ⟨y, zs, rfl, r2, r3⟩ := r1
  have r3' : zs = [] := r3
  subst r3'
  obtain ⟨a, dx, ys, rfl, h1, h2, h3⟩ := id r2
  refine ⟨a, dx, ys, rfl, hW.same _ _ h1, [.obj C ns ds], w, F, S, _, noX, h, ⟨_, _, rfl, r2, rfl⟩, hW, ?_, fun _ _ _ _ _ _ _ z => z.elim⟩
  rintro d' w' v S' H' ⟨n, rfl, h0, h1, k⟩ s1 W1 r
  have r' : v = .int n := r
  exact ⟨n, r', h0, h1, hK _ w' v S' H' k s1 W1 r⟩
/-- isinstance(x, C), C an own class -/
theorem va_isC {C : Addr} {d : D} {t : Value} {b : Bool} {κ : D → Wp → Prop} (ht : TyDD X.K d t) (hk : PySem.W.kitOne X.K t (.ref C) = some b) (k : κ (B b) w) : VRA X.K T (rIsi X.K) [d, R C] w κ := fun F S H xs Q hW r hK => by
  obtain ⟨x, ys, rfl, h1, y, zs, rfl, h2, h3⟩ := r
  have h2' : y = .ref C := h2
  have h3' : zs = [] := h3
  subst h2' h3'
  exact ⟨x, .ref C, t, .ref C, b, rfl, .own C, ht.tyx hW h1, hk, hK _ w _ S H k (Same.refl _) hW rfl⟩
/-- an owned list stands from now on, within an expression -/
theorem pd_frz {e : Expr} {κ : D → Wp → Prop} (h : PD X T W χ e δ w fun d w1 => ∃ a ds, d = R a ∧ w1 a = some (.lst ds) ∧ κ (.lst ds) (wd w1 a)) : PD X T W χ e δ w κ := fun F σ S H Q hE hW hX hK =>
  h F σ S H Q hE hW hX fun d w1 v S1 H1 k s1 W1 r => by
    obtain ⟨a, ds, rfl, hw, k⟩ := k
    obtain ⟨o, e1, r1, W2⟩ := W1.freeze hw
    obtain ⟨xs, rfl, r1⟩ := r1
    have s2 : Same S1 (upd S1 a (.lst xs)) := same_upd e1
    have r' : v = .ref a := r
    exact hK _ _ v _ H1 k (s1.trans s2) W2 ⟨a, xs, r', upd_same, r1.mono s2⟩
end
end DL

set_option Elab.async false
set_option linter.all false
set_option maxRecDepth 100000
set_option maxHeartbeats 1000000
/-! a op b by an own method, both of one class. -/
namespace DL
open PySem PySem.Spec PyProof.Rows L2 LamX
section
variable {X : Cx}
def rBin (C : Addr) (sp : Sp) (E : XK) : R2 := fun x y H Q => ∃ a dx fs b dy gs, x = .ref a ∧ H a = some (.ins C dx fs) ∧ y = .ref b ∧ H b = some (.ins C dy gs) ∧ sp [x, y] H (fun v H' => ∃ p, v = .ref p ∧ Q v H') E
theorem op_bin {op : Operator} {C f : Addr} {fd : FuncData} {ps : List Str} {k : Nat} {sp : Sp} {CX : CXT} {E : XK} (G : FnOk X.prog X.w X.K X.mg X.base CX k f fd ps sp) (hr : Room k X.A) (hs : PySem.W.findIn X.K (.ref C) (PySem.dunder op.info.2) = some (some (.ref f))) (hf : PySem.W.isFn X.K (.ref f) = true) (hc : PySem.W.selfFirst X.K C = true) (hb : Binds X.K fd ps [])
    (hx : ∀ σ, PassesAt CX X σ E) : OpR X (binaryOp op) (rBin C sp E) := by
  intro pins s σ H x y v u Q I rx ry h
  obtain ⟨a, dx, fs, b, dy, gs, rfl, ha, rfl, hbb, hsp⟩ := h
  cases rx
  cases ry
  obtain ⟨mA, J, _⟩ := ins_get I.hok ha
  obtain ⟨od, J, _⟩ := J.look
  obtain ⟨mB, J2, _⟩ := ins_get I.hok hbb
  obtain ⟨od2, J2, _⟩ := J2.look
  obtain ⟨m, hF⟩ := I.fr
  show wpAny (model X.prog X.w) X.A (binaryOp op (.ref a) (.ref b)) (EP X pins σ Q) X.xe s
  refine PySem.W.binop_K hF I.ok.mod.kin J J2.type hc hs hf ?_
  have r2 : Vals [V.ref a, V.ref b] [Value.ref a, Value.ref b] := .cons rfl (.cons rfl .nil)
  have q := run_fnSD (σ := σ) (E := fun _ => E) (dvs := []) (ds := []) G hr hb .nil (hx σ) I r2 (by rw [List.append_nil]; exact hsp)
  refine thn q fun r s' z => ?_
  obtain ⟨v', H', I', rv, ⟨p, rfl, q⟩⟩ := z
  cases rv
  exact ⟨.ref p, H', I', rfl, q⟩
variable {T : List (Addr × Str)} {χ : XD} {δ : Dn} {w : Wp} {pos : Pos}
theorem pd_bin {a b : Expr} {op : Operator} {C f : Addr} {fd : FuncData} {ps : List Str} {k : Nat} {sp : SpD} {CX : CXT} {E : XK} {κ : D → Wp → Prop} (G : FnOk X.prog X.w X.K X.mg X.base CX k f fd ps (spOf X.K T sp)) (hr : Room k X.A) (hs : PySem.W.findIn X.K (.ref C) (PySem.dunder op.info.2) = some (some (.ref f))) (hf : PySem.W.isFn X.K (.ref f) = true) (hc : PySem.W.selfFirst X.K C = true) (hb : Binds X.K fd ps [])
    (hx : ∀ σ, PassesAt CX X σ E) (h : PD X T (fun cls d _ H => E cls d H) χ a δ w fun d w1 => PD X T (fun cls d _ H => E cls d H) χ b δ w1 fun e w2 => (∃ ns ds, d = .obj C ns ds) ∧ (∃ ns ds, e = .obj C ns ds) ∧ sp [d, e] w2 (fun d' w' => (∃ C' ns ds, d' = .obj C' ns ds) ∧ κ d' w') χ) :
    PD X T (fun cls d _ H => E cls d H) χ (.BinOp a op b pos) δ w κ := fun F σ S H Q hE hW hX hK => wp_pe (pe_op (op_bin G hr hs hf hc hb hx) (pe_wp a) (pe_wp b)) (by
  refine h F σ S H _ hE hW hX fun d w1 v S1 H1 k s1 W1 r1 => ?_
  refine k F σ S1 H1 _ (hE.mono s1) W1 (hX.mono s1) fun e w2 u S2 H2 k2 s2 W2 r2 => ?_
  obtain ⟨⟨ns, ds, rfl⟩, ⟨ms, es, rfl⟩, k2⟩ := k2
  have r1 := r1.mono s2
  have r1' := r1
  have r2' := r2
  obtain ⟨p, dx, ys, rfl, h1, _, _⟩ := r1'
  obtain ⟨q, dy, zs, rfl, h2, _, _⟩ := r2'
  refine ⟨p, dx, ys, q, dy, zs, rfl, W2.same _ _ h1, rfl, W2.same _ _ h2, ?_⟩
  refine ⟨[_, _], w2, F, S2, _, χ, k2, ⟨_, _, rfl, r1, _, [], rfl, r2, rfl⟩, W2, fun d' w' v' S' H' kk s' W' r' => ?_, fun C ns fs w' d S' H' x s3 W3 xr => hX C ns fs w' d S' H' x (s1.trans (s2.trans s3)) W3 xr⟩
  obtain ⟨⟨C', ns', ds', rfl⟩, kk⟩ := kk
  have r3 := r'
  obtain ⟨p', _, _, rfl, _⟩ := r3
  exact ⟨p', rfl, hK _ w' _ S' H' kk (s1.trans (s2.trans s')) W' r'⟩)
end
end DL

set_option Elab.async false
set_option linter.all false
set_option maxRecDepth 100000
set_option maxHeartbeats 1000000
/-! while, in data. -/
namespace DL
open PySem PySem.Spec PyProof.Rows L2 LamX
section
variable {X : Cx} {T : List (Addr × Str)} {W : WX} {χ : XD} {δ : Dn} {w : Wp} {pos : Pos}
theorem psd_while {c : Expr} {body : List Stmt} {C : Fin} (hp : PassesOwn (model X.prog X.w) X.A X.env X.xe) (Pv : Nat → Dn → Wp → Prop) (h0 : ∃ m, Pv m δ w)
    (turn : ∀ m δ' w', Pv m δ' w' → PTD X T W χ c δ' w' fun b w1 => if b = true then PSsD X T W χ body δ' w1 { nx := fun δ2 w2 => ∃ m', m' < m ∧ Pv m' δ2 w2, rt := C.rt, bk := C.nx, ct := fun δ2 w2 => ∃ m', m' < m ∧ Pv m' δ2 w2 } else C.nx δ' w1) :
    PSD X T W χ (.While c body [] pos) δ w C := fun F σ S H E hE hW hX hK => by
  refine wp_ps (ps_while hp (pt_wp c) (pss_wp body)) ?_
  obtain ⟨m0, p0⟩ := h0
  refine ⟨fun m σ' H' => ∃ δ' w' S', Pv m δ' w' ∧ Same S S' ∧ EnvD X.K S' δ' σ' ∧ World X.K T S' w' F H', ⟨m0, δ, w, S, p0, Same.refl _, hE, hW⟩, ?_⟩
  rintro m σ' H' ⟨δ', w', S', pv, s1, hE1, W1⟩
  refine turn m δ' w' pv F σ' S' H' _ hE1 W1 ((hX σ').mono s1) fun b w1 S1 H1 k s2 W2 => ?_
  have ss := s1.trans s2
  cases b with
  | false =>
    rw [if_neg Bool.false_ne_true] at k ⊢
    exact hK.nx δ' w1 σ' S1 H1 k ss (hE1.mono s2) W2
  | true =>
    rw [if_pos rfl] at k ⊢
    refine ⟨fun σ2 H2 => ∃ m', m' < m ∧ ∃ δ2 w2 S2, Pv m' δ2 w2 ∧ Same S S2 ∧ EnvD X.K S2 δ2 σ2 ∧ World X.K T S2 w2 F H2, fun σ2 H2 z => z, ?_⟩
    refine k F σ' S1 H1 _ (hE1.mono s2) W2 (hX.mono ss) ⟨?_, hK.rt.mono ss, hK.nx.mono ss, ?_⟩
    · rintro δ2 w2 σ2 S2 H2 ⟨m', l, pv2⟩ s3 hE3 W3
      exact ⟨m', l, δ2, w2, S2, pv2, ss.trans s3, hE3, W3⟩
    · rintro δ2 w2 σ2 S2 H2 ⟨m', l, pv2⟩ s3 hE3 W3
      exact ⟨m', l, δ2, w2, S2, pv2, ss.trans s3, hE3, W3⟩
end
end DL

set_option Elab.async false
set_option linter.all false
set_option maxRecDepth 100000
set_option maxHeartbeats 2000000
/-! Defs whose caller is known to have no guard under way (repr of a list tells its items then); the law's end for such a def. -/
namespace DL
open PySem PySem.Spec PyProof.Rows L2 LamX
/-- as FnOk, but for callers without a guard -/
structure FnG (P : Program) (w : PySem.World) (K : PySem.W.Frag) (mg : Str → Option Value) (base : Heap) (CX : CXT) (k : Nat) (f : Addr) (fd : FuncData) (ps : List Str) (sp : Sp) : Prop where
  len : ∀ vs H Q E, sp vs H Q E → vs.length = ps.length
  go : ∀ (A : Around), A.guards = some [] → ∀ (outer : List Env) (s : Shared) (H : Hp) (args : Args) (us : List Value) (vs : List V) (Q : VK) (E : XK), Room k A → Env0 P w K mg base A outer s H →
    BindsTo s fd args (ps.zip us) → Vals vs us → sp vs H Q E → codeAny (model P w) A (.call (.ref f) args) (CR CX outer P w H s Q E) s
theorem FnG.of {P : Program} {w : PySem.World} {K : PySem.W.Frag} {mg : Str → Option Value} {base : Heap} {CX : CXT} {k : Nat} {f : Addr} {fd : FuncData} {ps : List Str} {sp : Sp} (G : FnOk P w K mg base CX k f fd ps sp) : FnG P w K mg base CX k f fd ps sp :=
  ⟨G.len, fun A _ => G.run A⟩
section
variable {P : Program} {w : PySem.World} {K : PySem.W.Frag} {mg : Str → Option Value} {base : Heap} {T : List (Addr × Str)}
/-- the rule for such a def -/
theorem fnG_of {CX : CXT} {x qual : Str} {st : Stmt} {f : Addr} {fd : FuncData} {N ps : List Str} {k : Nat} {sp : Sp} (D : Fun K x qual st f fd) (S : FnScope N ps (defScope st)) (len : ∀ vs H Q E, sp vs H Q E → vs.length = ps.length)
    (body : ∀ (cdv : Value) (A : Around) (outer : List Env) (s : Shared) (H : Hp) (vs : List V) (Q : VK) (E : XK), A.guards = some [] → Room k (A.deeper (envOfC qual (defScope st) s.heap.objs.size f cdv)) → sp vs H Q E →
      ∃ t, PSs (cxOf CX P w K mg base N qual (defScope st) f cdv A outer s H E) (defBody st) t ∧ t { nx := fun _ H' => Q .non H', rt := Q } (start N vs) H) : FnG P w K mg base CX (k + 1) f fd ps sp := by
  obtain ⟨oc, od, kV, doc, pm, an, cdv, ct, osl, rfl, lk, hcd⟩ := D.ex
  refine ⟨len, fun A hA outer s H args us vs Q E hr e0 hb r hsp => ?_⟩
  refine StX.run_bnd lk hcd S hr e0 (G := fun zs H2 => zs = vs ∧ H2 = H ∧ True) (fun A' Ex Q' hq => hb _ _ _ _ ?_) fun s2 H2 zs z hr2 => ?_
  · exact hq s H vs us e0 Un.refl rfl (fun _ _ z => z) r (len _ _ _ _ hsp) ⟨rfl, rfl, True.intro⟩
  · obtain ⟨rfl, rfl, _⟩ := z
    exact body cdv A outer s2 H2 zs Q E hA hr2 hsp
end

/-! ### the law's end for such a law -/
section
variable {P : Program} {w : PySem.World} {K : PySem.W.Frag} {h : Heap} {Hh : Hp} {a : Addr} {ts : List Addr} {vs : List Value}
/-- the script's list at a and the tables at ts are all that Hh may tell of -/
structure Hid (K : PySem.W.Frag) (h : Heap) (Hh : Hp) (a : Addr) (ts : List Addr) (vs : List Value) : Prop where
  lst : h.get? a = some { cls := .type "list", data := .seq vs.toArray }
  tab : ∀ b ∈ ts, h.get? b = some { cls := .none, data := .fields #[] }
  kin : K.In h
  noK : ∀ b ∈ ts, K.lookup b = none
  two : ∀ b, Hh b ≠ none → (b = a ∧ K.lookup a = none) ∨ b ∈ ts
theorem Hid.out (D : Hid K h Hh a ts vs) {b : Addr} {o : Obj} (e : h.get? b = some o) (n1 : ∀ us m, o.data ≠ .seq us m) (n2 : o.data ≠ .fields #[]) : Hh b = none := by
  refine Classical.byContradiction fun z => ?_
  rcases D.two b z with ⟨rfl, _⟩ | m
  · have q := D.lst.symm.trans e
    exact n1 vs.toArray _ (congrArg Obj.data (Option.some.inj q)).symm
  · have q := (D.tab b m).symm.trans e
    exact n2 (congrArg Obj.data (Option.some.inj q)).symm
theorem Hid.there (D : Hid K h Hh a ts vs) {b : Addr} {o : Obj} (e : h.get? b = some o) (n1 : ∀ us m, o.data ≠ .seq us m) (n2 : o.data ≠ .fields #[]) : (hidT h Hh).get? b = some o := hidT_get e (D.out e n1 n2)
theorem Hid.ns (D : Hid K h Hh a ts vs) {b : Addr} {m : Str → Option Value} (q : h.Ns b m) : (hidT h Hh).Ns b m := by
  obtain ⟨o, es, ep, e, d, r⟩ := q
  refine ⟨o, es, ep, D.there e (fun us m z => ?_) (fun z => ?_), d, r⟩ <;> (rw [d] at z; cases z)
theorem Hid.inK (D : Hid K h Hh a ts vs) : K.In (hidT h Hh) := fun b o e => by
  refine hidT_get (D.kin b o e) (Classical.byContradiction fun z => ?_)
  rcases D.two b z with ⟨rfl, n⟩ | m
  · rw [n] at e
    cases e
  · rw [D.noK b m] at e
    cases e
theorem Hid.tabB (D : Hid K h Hh a ts vs) {mg : Str → Option Value} {c p : Addr} (hp : p ∈ ts) (G : h.Ns mainGlobals mg) (C : PySem.W.CodeHd h c p)
    (B : ∃ (bm : Addr) (ob : Obj), mg "__builtins__" = some (.ref bm) ∧ bm ≠ builtinsNs ∧ h.get? bm = some ob ∧ ob.cls = .type "module" ∧ ob.dict = some builtinsNs ∧ ob.data = .plain) : TabB (hidT h Hh) mg c p := by
  have tp := D.tab p hp
  refine ⟨?_, ?_, ?_⟩
  · obtain ⟨o, us, fi, tf, fl, tg, iF, tx, tt, c1, q1, q2, q3, q4, q5, q6, q7, q8, q9⟩ := C
    refine ⟨o, us, fi, tf, fl, tg, iF, tx, tt, D.there c1 (fun ys m z => ?_) (fun z => ?_), q1, q2, q3, q4, q5, q6, q7, q8, q9⟩
    · rw [q2] at z
      cases z
    · rw [q2] at z
      cases z
      simp at q3
  · obtain ⟨bm, ob, d1, d2, d3, d4, d5, d6⟩ := B
    refine ⟨bm, ob, d1, d2, fun z => ?_, fun z => ?_, D.there d3 (fun ys m y => ?_) (fun y => ?_), d4, d5, d6⟩
    · obtain ⟨o, es, ep, e, dd, _⟩ := G
      rw [z] at d3
      rw [Option.some.inj (d3.symm.trans e)] at d6
      rw [dd] at d6
      cases d6
    · rw [z] at d3
      rw [← Option.some.inj (tp.symm.trans d3)] at d6
      cases d6
    · rw [d6] at y
      cases y
    · rw [d6] at y
      cases y
  · intro z
    obtain ⟨o, es, ep, e, dd, _⟩ := G
    rw [z] at e
    rw [← Option.some.inj (tp.symm.trans e)] at dd
    cases dd
end

open Classical in
/-- what is tracked at the law's start: the script (where K does not tell of it) and the empty tables -/
noncomputable def trk0 (K : PySem.W.Frag) (a : Addr) (ts : List Addr) (vs : List Value) (ns : List Int) : Hp := fun b =>
  if b ∈ ts then some (.tbl #[]) else if b = a ∧ K.lookup a = none then some (.frz { cls := .type "list", data := .seq vs.toArray } (.lst (ns.map V.int))) else none
section
variable {P : Program} {w : PySem.World} {K : PySem.W.Frag} {h : Heap} {a : Addr} {ts : List Addr} {vs : List Value} {ns : List Int}
theorem trk0_tab {b : Addr} (m : b ∈ ts) : trk0 K a ts vs ns b = some (.tbl #[]) := by
  unfold trk0
  rw [if_pos m]
theorem trk0_cases {b : Addr} {u : HO} (e : trk0 K a ts vs ns b = some u) : (b ∈ ts ∧ u = .tbl #[]) ∨ (b = a ∧ K.lookup a = none ∧ u = .frz { cls := .type "list", data := .seq vs.toArray } (.lst (ns.map V.int))) := by
  unfold trk0 at e
  split at e
  · rename_i m
    exact .inl ⟨m, (Option.some.inj e).symm⟩
  · split at e
    · rename_i m
      exact .inr ⟨m.1, m.2, (Option.some.inj e).symm⟩
    · cases e
/-- the end: a law that keeps its promise where no guard is under way -/
theorem law_callG {mg mb : Str → Option Value} {CX : CXT} {k : Nat} {fa : Addr} {cs : List (Addr × Addr)} {fd : FuncData} {x : Str} {sp : Sp} {s₁ : Shared}
    (kin : K.In s₁.heap) (G : s₁.heap.Ns mainGlobals mg) (nb : s₁.heap.Ns builtinsNs mb) (bb : ∀ y : Str, y ≠ "__name__" → mb y = bootBuiltins y) (nl : s₁.heap.NoLimit) (gs : s₁.gens = #[])
    (tb : ∀ p ∈ cs, s₁.heap.get? p.2 = some { cls := .none, data := .fields #[] }) (nk : ∀ p ∈ cs, K.lookup p.2 = none) (cd : ∀ p ∈ cs, PySem.W.CodeHd s₁.heap p.1 p.2)
    (B : ∃ (bm : Addr) (ob : Obj), mg "__builtins__" = some (.ref bm) ∧ bm ≠ builtinsNs ∧ s₁.heap.get? bm = some ob ∧ ob.cls = .type "module" ∧ ob.dict = some builtinsNs ∧ ob.data = .plain)
    (la : s₁.heap.get? a = some { cls := .type "list", data := .seq vs.toArray }) (it : IntsAre vs ns) (sz : ns.length ≤ sizeLine) (room : Room k callerA)
    (F : ∀ base : Heap, K.In base → base.Ns mainGlobals mg → (∀ p ∈ cs, TabB base mg p.1 p.2) → FnG P w K mg base CX k fa fd [x] sp) (bd : ∀ (s : Shared) (u : Value), BindsTo s fd ⟨[u], []⟩ [(x, u)])
    (start : ∀ H : Hp, (∀ p ∈ cs, H p.2 = some (.tbl #[])) → SqL K H a (ns.map V.int) → sp [.ref a] H (fun v _ => v = .bl true) fun _ _ _ => False)
    (noX : ∀ H e s', CX [] H s₁ (fun _ _ _ => False) e s' → False) :
    codeAny (model P w) callerA (.call (.ref fa) ⟨[.ref a], []⟩) (fun r s' => r = .ok (.ret (.bool true)) ∧ OldK s₁.heap s'.heap ∧ s'.os = s₁.os ∧ AllBare s'.gens) s₁ := by
  have rel := vals_ints it
  have many : vs.length = ns.length := it.length
  let ts := cs.map (·.2)
  have inT : ∀ p ∈ cs, p.2 ∈ ts := fun p hp => List.mem_map_of_mem hp
  have tbl : ∀ b ∈ ts, s₁.heap.get? b = some { cls := .none, data := .fields #[] } := fun b hb => by
    obtain ⟨p, hp, rfl⟩ := List.mem_map.mp hb
    exact tb p hp
  have D : Hid K s₁.heap (trk0 K a ts vs ns) a ts vs := ⟨la, tbl, kin, fun b hb => by
    obtain ⟨p, hp, rfl⟩ := List.mem_map.mp hb
    exact nk p hp, fun b hb => by
    cases q : trk0 K a ts vs ns b with
    | none => exact absurd q hb
    | some u =>
      rcases trk0_cases q with ⟨m, _⟩ | ⟨e, m, _⟩
      · exact .inr m
      · exact .inl ⟨e, m⟩⟩
  have nota : a ∉ ts := fun m => by
    have q := la.symm.trans (tbl a m)
    have q2 := congrArg Obj.data (Option.some.inj q)
    cases q2
  have ok : HOk P w (trk0 K a ts vs ns) s₁.heap := fun b u q => by
    rcases trk0_cases q with ⟨m, rfl⟩ | ⟨rfl, _, rfl⟩
    · exact tbl b m
    · exact ⟨la, by rw [List.length_map]; exact sz, vs, _, rel, la⟩
  have sq : SqL K (trk0 K a ts vs ns) a (ns.map V.int) := by
    cases q : K.lookup a with
    | none =>
      refine .inl (.inr ⟨{ cls := .type "list", data := .seq vs.toArray }, ?_⟩)
      unfold trk0
      rw [if_neg nota, if_pos ⟨rfl, q⟩]
    | some o =>
      have e := Option.some.inj (la.symm.trans (kin a o q))
      subst e
      refine .inr ⟨_, vs.toArray, _, q, rfl, rfl, rfl, ?_, ?_⟩
      · rw [List.size_toArray, many]
        exact sz
      · simpa using rel
  obtain ⟨mc, l1, l2⟩ := nl
  have M : L2.Mod K mg (hidT s₁.heap (trk0 K a ts vs ns)) := ⟨D.inK, D.ns G, ⟨mb, D.ns nb, bb⟩, mc, D.ns l1, l2⟩
  have e0 : Env0 P w K mg (hidT s₁.heap (trk0 K a ts vs ns)) callerA [] s₁ (trk0 K a ts vs ns) :=
    { frames := rfl, mod := M, bs := fun b o e => of_hidT e, bsz := Nat.le_of_eq (hidT_size _ _), funs := True.intro, frf := fun b hb => (List.not_mem_nil (show b ∈ ([] : List Addr) from hb)).elim, hok := ok, bare := .of_eq gs }
  have run := (F _ D.inK (D.ns G) fun p hp => D.tabB (inT p hp) G (cd p hp) B).go callerA rfl [] s₁ _ ⟨[.ref a], []⟩ [.ref a] [.ref a] (fun v _ => v = .bl true) (fun _ _ _ => False) room e0 (bd s₁ (.ref a)) (.cons rfl .nil) (start _ (fun p hp => trk0_tab (inT p hp)) sq)
  refine codeAny_mono run fun r s' z => ?_
  match r, z with
  | .error e, z => exact (noX _ e s' z).elim
  | .ok .next, z => exact (show False from z).elim
  | .ok .brk, z => exact (show False from z).elim
  | .ok .cont, z => exact (show False from z).elim
  | .ok (.ret u), z =>
    obtain ⟨v, H', os, bare, un, ok', rv, rfl⟩ := z
    have eu : u = Value.bool true := rv
    subst eu
    have kept : ∀ b o, b ∉ ts → s₁.heap.get? b = some o → s'.heap.get? b = some o := fun b o nm e => by
      cases q : trk0 K a ts vs ns b with
      | none => exact un.keep b o e q List.not_mem_nil List.not_mem_nil
      | some u =>
        rcases trk0_cases q with ⟨m, _⟩ | ⟨rfl, _, rfl⟩
        · exact absurd m nm
        · have g1 := (ok b _ q).1
          have g2 := (ok' b _ (un.frzs b _ _ q)).1
          rw [e] at g1
          rw [g2, ← Option.some.inj g1]
    have more : ∀ b ∈ ts, ∃ ms : Array Value, s'.heap.get? b = some { cls := .none, data := .fields ms } := fun b hb => by
      obtain ⟨ms, q⟩ := un.tbls b #[] (trk0_tab hb)
      exact ⟨_, ok' b _ q⟩
    refine ⟨rfl, ⟨fun b o e => ?_, fun b o e => ?_⟩, os, bare⟩
    · by_cases m : b ∈ ts
      · obtain ⟨ms, q⟩ := more b m
        have eo := Option.some.inj ((tbl b m).symm.trans e)
        subst eo
        obtain ⟨p, hp, rfl⟩ := List.mem_map.mp m
        exact .inr (.inl ⟨((cd p hp).tab (tb p hp)).isCodeTable, rfl, #[], ms, rfl, by rw [Array.empty_append]; exact q⟩)
      · exact .inl (kept b o m e)
    · by_cases m : b ∈ ts
      · obtain ⟨ms, q⟩ := more b m
        exact ⟨_, q⟩
      · exact ⟨o, kept b o m e⟩
/-- what is known of such a law's promise at the head's heap -/
def LawAtG (l : PySem.W.OpenLaw) (w : PySem.World) (K : PySem.W.Frag) (CX : CXT) (k n : Nat) (x : Str) (mg : Str → Option Value) (fa : Addr) (h : Heap) : Prop :=
  ∃ (fd : FuncData) (cs : List (Addr × Addr)) (sp : Sp), ((∀ p ∈ cs, h.get? p.2 = some { cls := .none, data := .fields #[] }) ∧ (∀ p ∈ cs, K.lookup p.2 = none) ∧ ∀ p ∈ cs, PySem.W.CodeHd h p.1 p.2) ∧ (∀ (s : Shared) (u : Value), BindsTo s fd ⟨[u], []⟩ [(x, u)]) ∧
    (∀ (H : Hp) (a : Addr) (ns : List Int), ns.length ≤ n → (∀ p ∈ cs, H p.2 = some (.tbl #[])) → SqL K H a (ns.map V.int) → sp [.ref a] H (fun v _ => v = .bl true) fun _ _ _ => False) ∧
    ∀ base : Heap, K.In base → base.Ns mainGlobals mg → (∀ p ∈ cs, TabB base mg p.1 p.2) → FnG l.prog w K mg base CX k fa fd [x] sp
theorem walk_ofG {l : PySem.W.OpenLaw} {n k : Nat} {q : Program} {loose : List Str} {XP : (Str → Option Value) → Heap → Prop} {YP : PySem.World → Heap → Prop} {d : DefRec} {KK : Params → PySem.W.Frag} {CX : PySem.World → CXT} {x : Str}
    (m1 : l.most = some n) (m2 : n ≤ sizeLine) (nd : d.params.defaults = []) (room : Room k callerA) (inY : ∀ (w : PySem.World) (h : Heap), YP w h → (KK w.params).In h)
    (F : ∀ (w : PySem.World) (mg : Str → Option Value) (fa : Addr) (h : Heap), YP w h → (KK w.params).In h → h.Ns mainGlobals mg → mg d.name = some (.ref fa) → LawAtG l w (KK w.params) (CX w) k n x mg fa h)
    (noX : ∀ (w : PySem.World) (H : Hp) (s : Shared) (e : Value) (s' : Shared), CX w [] H s (fun _ _ _ => False) e s' → False) : PySem.W.WalkO q loose XP YP l.row.toRowW d [] (fun f vs => PySem.call f vs) := by
  refine Att.attach_callB m1 nd fun w s₀ s₁ mg mb fa o pm cd doc a vs ns G Y _ _ _ hmg la it many _ gs => ?_
  have kin := inY w _ Y
  obtain ⟨fd, cs, sp, ⟨tb, nk, cdh⟩, bd, st, hF⟩ := F w mg fa _ Y kin G.T.g hmg
  exact law_callG kin G.T.g G.T.b G.T.builtins G.T.nolimit gs tb nk cdh G.T.bmain la it (Nat.le_trans many m2) room hF bd (fun H hH hS => st H a ns many hH hS) fun H e s' => noX w H s₁ e s'
end
end DL

set_option Elab.async false
set_option linter.all false
set_option maxRecDepth 100000
set_option maxHeartbeats 2000000
/-! The text of a list of ints (by repr, str, an f-string) where no guard is under way; str(x), repr(x) by own methods. -/
namespace DL
open PySem PySem.Spec PyProof.Rows L2 LamX
def lText (ns : List Int) : Str := listText (ns.map fun i => (toString i : Str))
section
variable {X : Cx} {pins : List (Addr × Obj)} {σ : L2.St} {H : Hp} {s : Shared}
/-- list.__repr__ of ints -/
theorem rep_ints {A : Around} {E : Value → Shared → Prop} {a : Addr} {ns : List Int} {Q : Value → Shared → Prop} (hg : A.guards = some []) (I : Inv X pins σ H s) (h : SqL X.K H a (ns.map V.int)) (h0 : ns ≠ []) (hb : ∀ n ∈ ns, n.natAbs.log2 < 1920) (hz : (lText ns).length ≤ sizeLine)
    (q : ∀ u h' tk, Inv X pins σ H { s with heap := h', toks := tk } → Q (.str (lText ns) u) { s with heap := h', toks := tk }) : wpAny (model X.prog X.w) A (call (.builtin "list.__repr__") [.ref a]) Q E s := by
  obtain ⟨its, r, ⟨o, n, ho, hc, hd0, hd⟩, _⟩ := I.list h
  have hl := r.length
  rw [List.length_map] at hl
  cases its with
  | nil => exact absurd (List.eq_nil_of_length_eq_zero hl) h0
  | cons x l =>
    refine call_list_repr (oa := o) (x := x) (l := l) (na := n) (ts := ns.map fun i => (toString i : Str)) ⟨o, ho, hc⟩ hg (fun v rest kw m => absurd m List.not_mem_nil) ho hd ?_ (fun i y e => ?_) (fun h' u tk k => q u h' tk (I.kept k)) hz
    · rw [List.length_map, List.size_toArray]
      exact hl
    · rw [List.getElem?_toArray] at e
      have hi : i < ns.length := by
        rw [hl]
        exact (List.getElem?_eq_some_iff.mp e).1
      refine ⟨(toString ns[i] : Str), by rw [List.getElem?_map, List.getElem?_eq_getElem hi]; rfl, ?_⟩
      obtain ⟨u, hu, ru⟩ := r.get (show (ns.map V.int)[i]? = some (V.int ns[i]) by rw [List.getElem?_map, List.getElem?_eq_getElem hi]; rfl)
      rw [hu] at e
      cases e
      obtain ⟨t, rfl⟩ := ru
      exact ReprIs.int t (hb _ (List.getElem_mem hi))

/-- str(v), v no text -/
theorem str_via {prog : Program} {w : PySem.World} {A : Around} {E : Value → Shared → Prop} {v : Value} {Q : Value → Shared → Prop} {s : Shared}
    (h : wpAny (model prog w) A.in1.in1 (Builtin.Str.strOf v) (fun r s1 => s1.TypeIs r "str" ∧ Q r s1) E s) : wpAny (model prog w) A (call (.type "str") [v]) Q E s := by
  have m : MeetsIn prog w (Builtin.«str.__new__» ⟨[.type "str", v], []⟩) (fun A R s => wpAny (model prog w) A.in1 (Builtin.Str.strOf v) (fun r s' => R (.ok (.ret r)) s') (fun e s' => R (.error e) s') s) := .of_wp fun A R s h => by
    rw [str_new_tree v]
    refine wpAny_bind (wpAny_pure ?_)
    refine wpAny_bind (wpAny_of_eq isSubtype_str_str ?_)
    exact wpAny_bind (wpAny_mono h (fun r s' h' => wpAny_pure ⟨_, rfl, h'⟩) fun _ _ e => e)
  exact callType_newIn PySem.F.called_str (by decide) (PySem.F.typeCall_str_1 _) (PySem.F.newCall_str_1 _) (fun obj => PySem.F.args_object_init_2 obj _) PySem.F.entry_str_new m h
abbrev rStrL (K : PySem.W.Frag) : List V → Hp → VK → Prop := fun xs H Q => ∃ a ns, xs = [.ref a] ∧ SqL K H a (ns.map V.int) ∧ ns ≠ [] ∧ (∀ n ∈ ns, n.natAbs.log2 < 1920) ∧ (lText ns).length ≤ sizeLine ∧ Q (.str (lText ns)) H
/-- str(xs), xs a list of ints -/
theorem call_strL (hg : X.A.guards = some []) (hu : X.A.units + 65 < cLine) : CallR X (.type "str") (rStrL X.K) := by
  intro pins s σ H xs us Q I r h
  obtain ⟨a, ns, rfl, hs, h0, hb, hz, q⟩ := h
  obtain rfl := Vals.ref1 r
  have ty : s.TypeIs (.ref a) "list" := by
    obtain ⟨its, rv, ⟨o, n, ho, hc, _, _⟩, _⟩ := I.list hs
    exact ⟨o, ho, hc⟩
  refine str_via (wpAny_strOf_slot (T := "list") rfl (by show X.A.units + 1 + 1 + 1 < cLine; omega) ty PySem.F.slot_list_str PySem.F.slot_list_repr.toG ?_)
  refine rep_ints hg I hs h0 hb hz fun u h' tk I1 => ⟨_, _, rfl, ?_, ?_⟩
  · exact typeIs_str _ _ _
  · exact ⟨.str (lText ns), H, I1, ⟨_, rfl⟩, q⟩
/-- {xs} in an f-string -/
def tFmtL (K : PySem.W.Frag) (te : TE) : TE := fun σ H Q => te σ H fun x H1 => ∃ a ns, x = .ref a ∧ SqL K H1 a (ns.map V.int) ∧ ns ≠ [] ∧ (∀ n ∈ ns, n.natAbs.log2 < 1920) ∧ (lText ns).length ≤ sizeLine ∧ Q (.str (lText ns)) H1
theorem pe_fmtL {e : Expr} {te : TE} {pos : Pos} (hg : X.A.guards = some []) (hu : X.A.units + 65 < cLine) (he : PE X e te) : PE X (.FormattedValue e (-1) none pos) (tFmtL X.K te) := by
  refine ⟨fun pins s σ H Q I h => ?_⟩
  refine wpAny_FormattedValue_plain (thn (he.run pins s σ H _ I h) fun v s1 hv => ?_)
  obtain ⟨x, H1, I1, rx, a, ns, rfl, hs, h0, hb, hz, q⟩ := hv
  cases rx
  have ty : s1.TypeIs (.ref a) "list" := by
    obtain ⟨its, rv, ⟨o, n, ho, hc, _, _⟩, _⟩ := I1.list hs
    exact ⟨o, ho, hc⟩
  refine wpAny_formatField_slot (T := "list") (fun _ _ => nofun) (by omega) ty PySem.F.slot_list_format PySem.F.slot_list_str PySem.F.slot_list_repr.toG ?_
  refine rep_ints (s := { s1 with toks := s1.toks + 1 }) hg (I1.tok _) hs h0 hb hz fun u h' tk I2 => ⟨_, _, rfl, ?_⟩
  exact ⟨.str (lText ns), H1, I2, ⟨_, rfl⟩, q⟩
/-- str(x), x an instance with an own __str__ -/
theorem call_strOwn {C f : Addr} {fd : FuncData} {ps : List Str} {k : Nat} {sp : Sp} (G : FnOk X.prog X.w X.K X.mg X.base CX0 k f fd ps sp) (hr : Room (k + 2) X.A) (hs : PySem.W.findIn X.K (.ref C) "__str__" = some (some (.ref f))) (hf : PySem.W.isFn X.K (.ref f) = true) (hb : Binds X.K fd ps []) :
    CallR X (.type "str") (fun xs H Q => ∃ a dx fs, xs = [.ref a] ∧ H a = some (.ins C dx fs) ∧ sp [.ref a] H (fun v H' => ∃ z : Str, v = .str z ∧ Q v H') E0) := by
  intro pins s σ H xs us Q I r h
  obtain ⟨a, dx, fs, rfl, ha, hsp⟩ := h
  obtain ⟨u, rfl, rx⟩ := vals1 r
  cases (show u = Value.ref a from rx)
  obtain ⟨mA, J, _⟩ := ins_get I.hok ha
  obtain ⟨od, J, _⟩ := J.look
  have hu := hr.units
  refine str_via ?_
  unfold Builtin.Str.strOf
  refine wpAny_bind (m := cRoomFor _ _) (wpAny_cRoomFor (by show X.A.units + 1 + 1 < cLine; omega) ?_)
  refine wpAny_bind (m := callSpecial? (.ref a) (Str.ofString "__str__")) (PySem.W.special_fn I.kIn J hs (beq_iff_eq.mp hf) ?_)
  have r2 : Vals [V.ref a] [Value.ref a] := .cons rfl .nil
  have hl : ([Value.ref a] ++ []).length = ps.length := by
    have e := r2.length
    rw [G.len _ _ _ _ hsp] at e
    rw [List.append_nil]
    exact e.symm
  have bb := hb s [Value.ref a] I.kIn hl
  rw [List.append_nil] at bb
  refine wpAny_call (codeAny_mono (G.run X.A.in1.in1 X.stack s H ⟨[.ref a], []⟩ [.ref a] [.ref a] _ E0 hr.in1.in1 I.env0.in1.in1 bb r2 hsp) fun r s' hq => ?_)
  cases r with
  | error e => exact hq.elim
  | ok fl =>
    cases fl with
    | ret u =>
      obtain ⟨v', H', I', rv, z, rfl, q⟩ := I.after hq
      obtain ⟨t, rfl⟩ := rv
      refine wpAny_bind (wpAny_pure ?_)
      exact wpAny_pure ⟨typeIs_str _ _ _, .str z, H', I', ⟨_, rfl⟩, q⟩
    | next => exact False.elim hq
    | brk => exact False.elim hq
    | cont => exact False.elim hq
/-- repr(x), x an instance with an own __repr__ that wants no guard -/
theorem call_reprOwn {C f : Addr} {fd : FuncData} {ps : List Str} {k : Nat} {sp : Sp} (G : FnG X.prog X.w X.K X.mg X.base CX0 k f fd ps sp) (hg : X.A.guards = some []) (hr : Room (k + 1) X.A) (hs : PySem.W.findIn X.K (.ref C) "__repr__" = some (some (.ref f))) (hf : PySem.W.isFn X.K (.ref f) = true) (hb : Binds X.K fd ps []) :
    CallR X (.builtin "repr") (fun xs H Q => ∃ a dx fs, xs = [.ref a] ∧ H a = some (.ins C dx fs) ∧ sp [.ref a] H (fun v H' => ∃ z : Str, v = .str z ∧ Q v H') E0) := by
  intro pins s σ H xs us Q I r h
  obtain ⟨a, dx, fs, rfl, ha, hsp⟩ := h
  obtain ⟨u, rfl, rx⟩ := vals1 r
  cases (show u = Value.ref a from rx)
  obtain ⟨mA, J, _⟩ := ins_get I.hok ha
  obtain ⟨od, J, _⟩ := J.look
  obtain ⟨m, hF⟩ := I.fr
  have hu := hr.units
  refine PySem.W.repr_K (by show X.A.units + 1 < cLine; omega) hF I.ok.mod.kin J hs hf ?_
  have r2 : Vals [V.ref a] [Value.ref a] := .cons rfl .nil
  have hl : ([Value.ref a] ++ []).length = ps.length := by
    have e := r2.length
    rw [G.len _ _ _ _ hsp] at e
    rw [List.append_nil]
    exact e.symm
  have bb := hb s [Value.ref a] I.kIn hl
  rw [List.append_nil] at bb
  refine wpAny_call (codeAny_mono (G.go X.A.in1 hg X.stack s H ⟨[.ref a], []⟩ [.ref a] [.ref a] _ E0 hr.in1 I.env0.in1 bb r2 hsp) fun r s' hq => ?_)
  cases r with
  | error e => exact hq.elim
  | ok fl =>
    cases fl with
    | ret u =>
      obtain ⟨v', H', I', rv, z, rfl, q⟩ := I.after hq
      obtain ⟨t, rfl⟩ := rv
      exact ⟨.str z, H', I', ⟨_, rfl⟩, q⟩
    | next => exact False.elim hq
    | brk => exact False.elim hq
    | cont => exact False.elim hq
/-- f(e, ..), f a def that wants no guard -/
theorem pe_callG {CX : CXT} {k : Nat} {f : Addr} {fd : FuncData} {ps : List Str} {sp : Sp} {E : L2.St → XK} {x : Str} {p pos : Pos} {e : Expr} {es : List Expr} {t : TA} (G : FnG X.prog X.w X.K X.mg X.base CX k f fd ps sp) (hg0 : X.A.guards = some []) (hr : Room k X.A) (hg : Gl X x) (hm : X.mg x = some (.ref f)) (hk : PySem.W.keepIn X.K (.ref f) = true) (hb : Binds X.K fd ps []) (hx : ∀ σ, PassesAt CX X σ (E σ))
    (ha : PA X (e :: es) t) (hdb : (x == ("__debug__" : Str)) = false := by decide) (he : starEach (e :: es) X.env = (false, eval e X.env) :: starEach es X.env := by rfl) (hpl : (backTo pos (starEach es X.env)).any (·.1) = false := by rfl) :
    PE X (.Call (.Name x p) (e :: es) [] pos) (fun σ H Q => t σ H fun vs H1 => sp vs H1 Q (E σ)) := by
  refine ⟨fun pins s σ H Q I h => ?_⟩
  refine wpAny_Call_Name_kw (ld_glob I hg hm ?_ hdb)
  refine PySem.W.callWith_K (h₀ := X.base) I.ok.mod.kin hk (thn (ha.run pos pins s σ H _ I h) fun us s1 ⟨vs, H1, I1, r, q⟩ => ⟨I1.kIn, ?_⟩) he hpl
  have hl : (us ++ []).length = ps.length := by
    have e := r.length
    rw [G.len _ _ _ _ q] at e
    rw [List.append_nil]
    exact e.symm
  have bb := hb s1 us I1.kIn hl
  rw [List.append_nil] at bb
  refine wpAny_call (codeAny_mono (G.go X.A hg0 X.stack s1 H1 ⟨us, []⟩ us vs Q (E σ) hr I1.env0 bb r q) fun r s' hq => ?_)
  cases r with
  | error e => exact hx σ _ H1 s1 e s' I1 hq
  | ok fl =>
    cases fl with
    | ret u => exact I1.after hq
    | next => exact False.elim hq
    | brk => exact False.elim hq
    | cont => exact False.elim hq
end
end DL

set_option Elab.async false
set_option linter.all false
set_option maxRecDepth 100000
set_option maxHeartbeats 2000000
/-! Texts in data: +, parts, signs, join, split; str of ints, lists, own instances; items of lists of texts. -/
namespace DL
open PySem PySem.Spec PyProof.Rows L2 LamX
section
variable {K : PySem.W.Frag} {T : List (Addr × Str)} {w : Wp} {κ : D → Wp → Prop}
theorem vr_addS {a b : Str} (hz : a.length + b.length ≤ sizeLine) (k : κ (DL.T (a ++ b)) w) : VR2 K T (fun x y H Q => ∃ i j, x = .str i ∧ y = .str j ∧ i.length + j.length ≤ sizeLine ∧ Q (.str (i ++ j)) H) (DL.T a) (DL.T b) w κ := fun F S H x y Q hW r1 r2 hK => ⟨a, b, r1, r2, hz, hK _ w _ S H k (Same.refl _) hW rfl⟩
theorem vr_ixS {z : Str} {i : Nat} (hz : z.length ≤ sizeLine) (hi : i < z.length) (k : ∀ c, c ∈ z.cps.toList → κ (DL.T ⟨#[c]⟩) w) : VR2 K T rIxS (DL.T z) (I (i : Int)) w κ := fun F S H x y Q hW r1 r2 hK => by
  have hl : i < z.cps.toList.length := by
    rw [Array.length_toList]
    exact hi
  exact ⟨z, i, z.cps.toList[i], r1, r2, hz, atI_nat (List.getElem?_eq_getElem hl), hK _ w _ S H (k _ (List.getElem_mem hl)) (Same.refl _) hW rfl⟩
theorem va_strI {i : Int} (hz : i.natAbs.log2 < 1920) (k : κ (DL.T (toString i)) w) : VRA K T (fun xs H Q => ∃ i : Int, xs = [.int i] ∧ i.natAbs.log2 < 1920 ∧ Q (.str (toString i)) H) [I i] w κ := fun F S H xs Q hW r hK => by
  obtain ⟨y, ys, rfl, h1, h2⟩ := r
  have h1' : y = .int i := h1
  have h2' : ys = [] := h2
  subst h1' h2'
  exact ⟨i, rfl, hz, hK _ w _ S H k (Same.refl _) hW rfl⟩
theorem va_strL {ns : List Int} (h0 : ns ≠ []) (hb : ∀ n ∈ ns, n.natAbs.log2 < 1920) (hz : (lText ns).length ≤ sizeLine) (k : κ (DL.T (lText ns)) w) : VRA K T (rStrL K) [.lst (ns.map I)] w κ := fun F S H xs Q hW r hK => by
  obtain ⟨y, ys, rfl, h1, h2⟩ := r
  obtain ⟨a, zs, rfl, h3, h4⟩ := h1
  have h2' : ys = [] := h2
  have e := h4.ints
  subst h2' e
  exact ⟨a, ns, rfl, SqL.of (hW.same _ _ h3), h0, hb, hz, hK _ w _ S H k (Same.refl _) hW rfl⟩
theorem va_lenS {z : Str} (hz : z.length ≤ sizeLine) (k : κ (I (z.length : Int)) w) : VRA K T (fun xs H Q => ∃ x n, xs = [x] ∧ LenV K x H n ∧ Q (.int n) H) [DL.T z] w κ := fun F S H xs Q hW r hK => by
  obtain ⟨y, ys, rfl, h1, h2⟩ := r
  have h1' : y = .str z := h1
  have h2' : ys = [] := h2
  subst h1' h2'
  exact ⟨_, z.length, rfl, ⟨hz, rfl⟩, hK _ w _ S H k (Same.refl _) hW rfl⟩
/-- own str and repr, in data -/
theorem va_own1 {C : Addr} {sp : SpD} {d : D} (hd : ∃ ns ds, d = .obj C ns ds) (h : sp [d] w (fun d' w' => ∃ z : Str, d' = DL.T z ∧ κ d' w') noX) :
    VRA K T (fun xs H Q => ∃ a dx fs, xs = [.ref a] ∧ H a = some (.ins C dx fs) ∧ spOf K T sp [.ref a] H (fun v H' => ∃ z : Str, v = .str z ∧ Q v H') E0) [d] w κ := fun F S H xs Q hW r1 hK => by
  obtain ⟨ns, ds, rfl⟩ := hd
  obtain ⟨y, zs, rfl, r2, r3⟩ := r1
  have r3' : zs = [] := r3
  subst r3'
  obtain ⟨a, dx, ys, rfl, h1, h2, h3⟩ := id r2
  refine ⟨a, dx, ys, rfl, hW.same _ _ h1, [.obj C ns ds], w, F, S, _, noX, h, ⟨_, _, rfl, r2, rfl⟩, hW, ?_, fun _ _ _ _ _ _ _ z => z.elim⟩
  rintro d' w' v S' H' ⟨z, rfl, k⟩ s1 W1 r
  have r' : v = .str z := r
  exact ⟨z, r', hK _ w' v S' H' k s1 W1 r⟩
/-- data of a list of texts -/
theorem RepL.txts {S : Hp} : ∀ {ns : List Str} {xs : List V}, RepL K S (ns.map DL.T) xs → xs = ns.map V.str
  | [], xs, h => h
  | n :: ns, xs, h => by
    obtain ⟨y, ys, rfl, h2, h3⟩ := h
    have h2' : y = V.str n := h2
    rw [h2', RepL.txts h3]
    rfl
theorem RepL.of_txts {S : Hp} : ∀ {ns : List Str}, RepL K S (ns.map DL.T) (ns.map V.str)
  | [] => rfl
  | n :: ns => ⟨V.str n, ns.map V.str, rfl, rfl, RepL.of_txts⟩
abbrev rJoin (K : PySem.W.Frag) : V → List V → Hp → VK → Prop := fun x xs H Q => ∃ a p, ∃ ys : List Str, x = .str a ∧ xs = [.ref p] ∧ (SqL K H p (ys.map V.str) ∨ SqT K H p (ys.map V.str)) ∧
    (ys.map (·.length)).sum + ys.length * a.length ≤ 16777216 ∧ Q (.str (Txt.join a ys)) H
theorem vm_join {a : Str} {ys : List Str} (hz : (ys.map (·.length)).sum + ys.length * a.length ≤ 16777216) (k : κ (DL.T (Txt.join a ys)) w) : VRM K T (rJoin K) (DL.T a) [.lst (ys.map DL.T)] w κ := fun F S H x xs Q hW r1 r2 hK => by
  obtain ⟨y, zs, rfl, h3, h4⟩ := r2
  obtain ⟨p, us, rfl, h5, h6⟩ := h3
  have h4' : zs = [] := h4
  have e := h6.txts
  subst h4' e
  exact ⟨a, p, ys, r1, rfl, .inl (SqL.of (hW.same _ _ h5)), hz, hK _ w _ S H k (Same.refl _) hW rfl⟩
theorem vm_joinO {a : Str} {l : Addr} {ys : List Str} (hw : w l = some (.lst (ys.map DL.T))) (hz : (ys.map (·.length)).sum + ys.length * a.length ≤ 16777216) (k : κ (DL.T (Txt.join a ys)) w) : VRM K T (rJoin K) (DL.T a) [R l] w κ := fun F S H x xs Q hW r1 r2 hK => by
  obtain ⟨y, zs, rfl, h3, h4⟩ := r2
  have h3' : y = .ref l := h3
  have h4' : zs = [] := h4
  subst h3' h4'
  obtain ⟨_, _, o, h1, h2⟩ := hW.own l _ hw
  obtain ⟨us, rfl, h6⟩ := h2
  have e := h6.txts
  subst e
  exact ⟨a, l, ys, r1, rfl, .inl (SqL.of h1), hz, hK _ w _ S H k (Same.refl _) hW rfl⟩
abbrev rSplit : V → List V → Hp → VK → Prop := fun x xs H Q => ∃ a b, x = .str a ∧ xs = [.str b] ∧ (b.length == 0) = false ∧ a.length + 2 ≤ sizeLine ∧ rNewStrs (Txt.split a b) H Q
theorem vm_split {a b : Str} (hb : (b.length == 0) = false) (hz : a.length + 2 ≤ sizeLine) (k : κ (.lst ((Txt.split a b).map DL.T)) w) : VRM K T rSplit (DL.T a) [DL.T b] w κ := fun F S H x xs Q hW r1 r2 hK => by
  obtain ⟨y, zs, rfl, h3, h4⟩ := r2
  have h3' : y = .str b := h3
  have h4' : zs = [] := h4
  subst h3' h4'
  refine ⟨a, b, r1, rfl, hb, hz, fun p hp => ?_⟩
  have s1 : Same S (upd S p (.lst ((Txt.split a b).map V.str))) := same_upd (hW.free hp).1
  exact hK _ w _ _ _ k s1 (hW.laid hp fun _ z => by cases z) ⟨p, _, rfl, upd_same, RepL.of_txts⟩
theorem vm_splitO {a b : Str} (hb : (b.length == 0) = false) (hz : a.length + 2 ≤ sizeLine) (k : ∀ l, w l = none → κ (R l) (wu w l (.lst ((Txt.split a b).map DL.T)))) : VRM K T rSplit (DL.T a) [DL.T b] w κ := fun F S H x xs Q hW r1 r2 hK => by
  obtain ⟨y, zs, rfl, h3, h4⟩ := r2
  have h3' : y = .str b := h3
  have h4' : zs = [] := h4
  subst h3' h4'
  refine ⟨a, b, r1, rfl, hb, hz, fun p hp => ?_⟩
  exact hK _ _ _ S _ (k p (hW.free hp).2.1) (Same.refl _) (hW.take hp ⟨_, rfl, RepL.of_txts⟩) rfl
theorem flat_strs : ∀ ys : List Str, (ys.map V.str).all flatV = true
  | [] => rfl
  | y :: ys => by
    rw [List.map_cons, List.all_cons, flat_strs ys]
    rfl
theorem inV_strs (y : Str) : ∀ ys : List Str, inV (.str y) (ys.map V.str) = decide (y ∈ ys)
  | [] => rfl
  | z :: zs => by
    have ih := inV_strs y zs
    unfold inV at ih ⊢
    rw [List.map_cons, List.any_cons, ih]
    have e : eqV (.str z) (.str y) = decide (z = y) := by
      show (z == y) = _
      by_cases h : z = y
      · rw [decide_eq_true h, h]
        exact beq_self_eq_true y
      · rw [decide_eq_false h]
        exact beq_eq_false_iff_ne.mpr h
    rw [e]
    by_cases h : z = y
    · rw [decide_eq_true h, decide_eq_true (p := y ∈ z :: zs) (by rw [h]; exact List.mem_cons_self ..)]
      rfl
    · rw [decide_eq_false h, Bool.false_or]
      refine decide_eq_decide.mpr ⟨fun q => List.mem_cons_of_mem _ q, fun q => ?_⟩
      cases q with
      | head => exact absurd rfl h
      | tail _ q => exact q
/-- a text among the items -/
theorem vr_inS {y : Str} {ys : List Str} (k : κ (B (decide (y ∈ ys))) w) : VR2 K T (rIn K false) (DL.T y) (.lst (ys.map DL.T)) w κ := fun F S H x z Q hW r1 r2 hK => by
  obtain ⟨p, us, rfl, h1, h2⟩ := r2
  have e := h2.txts
  have r1' : x = .str y := r1
  subst e r1'
  refine ⟨p, _, rfl, .inl (SqL.of (hW.same _ _ h1)), rfl, flat_strs ys, ?_⟩
  refine hK _ w _ S H k (Same.refl _) hW ?_
  show V.bl (inV (.str y) (ys.map V.str)) = .bl _
  rw [inV_strs]
theorem vr_ninS {y : Str} {ys : List Str} (k : κ (B (!decide (y ∈ ys))) w) : VR2 K T (rIn K true) (DL.T y) (.lst (ys.map DL.T)) w κ := fun F S H x z Q hW r1 r2 hK => by
  obtain ⟨p, us, rfl, h1, h2⟩ := r2
  have e := h2.txts
  have r1' : x = .str y := r1
  subst e r1'
  refine ⟨p, _, rfl, .inl (SqL.of (hW.same _ _ h1)), rfl, flat_strs ys, ?_⟩
  refine hK _ w _ S H k (Same.refl _) hW ?_
  show V.bl (!inV (.str y) (ys.map V.str)) = .bl _
  rw [inV_strs]
/-- an int among the items -/
theorem flat_ints : ∀ ys : List Int, (ys.map V.int).all flatV = true
  | [] => rfl
  | y :: ys => by
    rw [List.map_cons, List.all_cons, flat_ints ys]
    rfl
theorem inV_ints (y : Int) : ∀ ys : List Int, inV (.int y) (ys.map V.int) = decide (y ∈ ys)
  | [] => rfl
  | z :: zs => by
    have ih := inV_ints y zs
    unfold inV at ih ⊢
    rw [List.map_cons, List.any_cons, ih]
    have e : eqV (.int z) (.int y) = decide (z = y) := by
      show (z == y) = _
      by_cases h : z = y
      · rw [decide_eq_true h, h]
        exact beq_self_eq_true y
      · rw [decide_eq_false h]
        exact beq_eq_false_iff_ne.mpr h
    rw [e]
    by_cases h : z = y
    · rw [decide_eq_true h, decide_eq_true (p := y ∈ z :: zs) (by rw [h]; exact List.mem_cons_self ..)]
      rfl
    · rw [decide_eq_false h, Bool.false_or]
      refine decide_eq_decide.mpr ⟨fun q => List.mem_cons_of_mem _ q, fun q => ?_⟩
      cases q with
      | head => exact absurd rfl h
      | tail _ q => exact q
theorem vr_inI {y : Int} {ys : List Int} (k : κ (B (decide (y ∈ ys))) w) : VR2 K T (rIn K false) (I y) (.lst (ys.map I)) w κ := fun F S H x z Q hW r1 r2 hK => by
  obtain ⟨p, us, rfl, h1, h2⟩ := r2
  have e := h2.ints
  have r1' : x = .int y := r1
  subst e r1'
  refine ⟨p, _, rfl, .inl (SqL.of (hW.same _ _ h1)), rfl, flat_ints ys, ?_⟩
  refine hK _ w _ S H k (Same.refl _) hW ?_
  show V.bl (inV (.int y) (ys.map V.int)) = .bl _
  rw [inV_ints]
theorem idx_leS {x : Str} : ∀ {l : List Str} {m : Nat}, l[m]? = some x → l.idxOf x ≤ m
  | [], m, h => by simp at h
  | y :: l, 0, h => by
    have e : y = x := Option.some.inj h
    rw [e, List.idxOf_cons_self]
    exact Nat.le_refl _
  | y :: l, m + 1, h => by
    have ih := idx_leS (l := l) (m := m) h
    rw [List.idxOf_cons]
    cases (y == x) with
    | true => exact Nat.zero_le _
    | false => exact Nat.succ_le_succ ih
/-- names.index(word) -/
theorem vm_indexS {ns : List Str} {n : Str} (hm : n ∈ ns) (k : κ (I ((ns.idxOf n : Nat) : Int)) w) : VRM K T (rIndex K) (.lst (ns.map DL.T)) [DL.T n] w κ := fun F S H x xs Q hW r1 r2 hK => by
  obtain ⟨a, us, rfl, h1, h2⟩ := r1
  obtain ⟨y, zs, rfl, h3, h4⟩ := r2
  have h3' : y = .str n := h3
  have h4' : zs = [] := h4
  have e := h2.txts
  subst h3' h4' e
  have hi : ns.idxOf n < ns.length := List.idxOf_lt_length_of_mem hm
  refine ⟨a, _, .str n, ns.idxOf n, .str n, rfl, rfl, SqL.of (hW.same _ _ h1), rfl, flat_strs ns, ?_, ?_, ?_, hK _ w _ S H k (Same.refl _) hW rfl⟩
  · rw [List.getElem?_map, List.getElem?_eq_getElem hi, List.getElem_idxOf hi]
    rfl
  · exact beq_self_eq_true n
  · intro m z hlt hz
    rw [List.getElem?_map] at hz
    cases q : ns[m]? with
    | none =>
      rw [q] at hz
      cases hz
    | some u =>
      rw [q] at hz
      cases hz
      show (u == n) = false
      refine beq_eq_false_iff_ne.mpr fun z => ?_
      obtain ⟨hm2, em⟩ := List.getElem?_eq_some_iff.mp q
      have := idx_leS (l := ns) (m := m) (x := n) (by rw [q, z])
      omega
/-- sum(xs) -/
theorem va_sum {ns : List Int} (k : κ (I ns.sum) w) : VRA K T (rSum K) [.lst (ns.map I)] w κ := fun F S H xs Q hW r hK => by
  obtain ⟨y, ys, rfl, h1, h2⟩ := r
  obtain ⟨a, zs, rfl, h3, h4⟩ := h1
  have h2' : ys = [] := h2
  have e := h4.ints
  subst h2' e
  exact ⟨a, ns, rfl, SqL.of (hW.same _ _ h3), hK _ w _ S H k (Same.refl _) hW rfl⟩
end
section
variable {X : Cx} {T : List (Addr × Str)} {W : WX} {χ : XD} {δ : Dn} {w : Wp} {pos : Pos}
theorem cutS_len {z : Str} {lo hi : Option Int} : (cutS z lo hi).length = min (HT.sIx z.length z.length hi - HT.sIx z.length 0 lo) (z.length - HT.sIx z.length 0 lo) := by
  have e : z.cps.toList.length = z.length := Array.length_toList
  unfold cutS
  show (List.toArray _).size = _
  rw [List.size_toArray, List.length_take, List.length_drop, e]
theorem cutS_sub {z : Str} {lo hi : Option Int} : ∀ c ∈ (cutS z lo hi).cps.toList, c ∈ z.cps.toList := fun c h => by
  unfold cutS at h
  exact List.mem_of_mem_drop (List.mem_of_mem_take h)
theorem pd_slSTo {e hi : Expr} {p2 : Pos} {κ : D → Wp → Prop} (h : PD X T W χ e δ w fun d w1 => PD X T W χ hi δ w1 fun u w2 => ∃ (z : Str) (n : Nat), d = DL.T z ∧ u = I (n : Int) ∧ z.length ≤ sizeLine ∧ ∀ y : Str, y.length = min n z.length → (∀ c ∈ y.cps.toList, c ∈ z.cps.toList) → κ (DL.T y) w2) : PD X T W χ (.Subscript e (.Slice none (some hi) none p2) pos) δ w κ := fun F σ S H Q hE hW hX hK =>
  wp_pe (pe_slice sl_str (pe_wp e) po_none (po_some (pe_wp hi))) (by
    refine h F σ S H _ hE hW hX fun d w1 v S1 H1 k s1 W1 r => ?_
    refine k F σ S1 H1 _ (hE.mono s1) W1 (hX.mono s1) fun u w2 y S2 H2 k2 s2 W2 r2 => ?_
    obtain ⟨z, n, rfl, rfl, hz, k2⟩ := k2
    have r' : v = .str z := r
    have r2' : y = .int (n : Int) := r2
    subst r' r2'
    refine ⟨n, rfl, z, rfl, hz, hK _ w2 _ S2 H2 (k2 _ ?_ cutS_sub) (s1.trans s2) W2 rfl⟩
    rw [cutS_len, HT.sIx_nat, HT.sIx_none]
    omega)
theorem pd_slSFrom {e lo : Expr} {p2 : Pos} {κ : D → Wp → Prop} (h : PD X T W χ e δ w fun d w1 => PD X T W χ lo δ w1 fun u w2 => ∃ (z : Str) (n : Nat), d = DL.T z ∧ u = I (n : Int) ∧ z.length ≤ sizeLine ∧ ∀ y : Str, y.length = z.length - n → (∀ c ∈ y.cps.toList, c ∈ z.cps.toList) → κ (DL.T y) w2) : PD X T W χ (.Subscript e (.Slice (some lo) none none p2) pos) δ w κ := fun F σ S H Q hE hW hX hK =>
  wp_pe (pe_slice sl_str (pe_wp e) (po_some (pe_wp lo)) po_none) (by
    refine h F σ S H _ hE hW hX fun d w1 v S1 H1 k s1 W1 r => ?_
    refine k F σ S1 H1 _ (hE.mono s1) W1 (hX.mono s1) fun u w2 y S2 H2 k2 s2 W2 r2 => ?_
    obtain ⟨z, n, rfl, rfl, hz, k2⟩ := k2
    have r' : v = .str z := r
    have r2' : y = .int (n : Int) := r2
    subst r' r2'
    refine ⟨n, rfl, z, rfl, hz, hK _ w2 _ S2 H2 (k2 _ ?_ cutS_sub) (s1.trans s2) W2 rfl⟩
    rw [cutS_len, HT.sIx_nat, HT.sIx_none]
    omega)
theorem pd_slSMid {e lo hi : Expr} {p2 : Pos} {κ : D → Wp → Prop} (h : PD X T W χ e δ w fun d w1 => PD X T W χ lo δ w1 fun u w2 => ∃ m : Nat, u = I (m : Int) ∧ PD X T W χ hi δ w2 fun t w3 => ∃ (z : Str) (n : Nat), d = DL.T z ∧ t = I (n : Int) ∧ z.length ≤ sizeLine ∧ ∀ y : Str, y.length = min n z.length - min m z.length → (∀ c ∈ y.cps.toList, c ∈ z.cps.toList) → κ (DL.T y) w3) : PD X T W χ (.Subscript e (.Slice (some lo) (some hi) none p2) pos) δ w κ := fun F σ S H Q hE hW hX hK =>
  wp_pe (pe_slice sl_str (pe_wp e) (po_some (pe_wp lo)) (po_some (pe_wp hi))) (by
    refine h F σ S H _ hE hW hX fun d w1 v S1 H1 k s1 W1 r => ?_
    refine k F σ S1 H1 _ (hE.mono s1) W1 (hX.mono s1) fun u w2 y S2 H2 k2 s2 W2 r2 => ?_
    obtain ⟨m, rfl, k2⟩ := k2
    have r2' : y = .int (m : Int) := r2
    refine ⟨m, r2', ?_⟩
    refine k2 F σ S2 H2 _ (hE.mono (s1.trans s2)) W2 (hX.mono (s1.trans s2)) fun t w3 x S3 H3 k3 s3 W3 r3 => ?_
    obtain ⟨z, n, rfl, rfl, hz, k3⟩ := k3
    have r' : v = .str z := r
    have r3' : x = .int (n : Int) := r3
    subst r' r3'
    refine ⟨n, rfl, z, rfl, hz, hK _ w3 _ S3 H3 (k3 _ ?_ cutS_sub) (s1.trans (s2.trans s3)) W3 rfl⟩
    rw [cutS_len, HT.sIx_nat, HT.sIx_nat]
    omega)
end
end DL

set_option Elab.async false
set_option linter.all false
set_option maxRecDepth 100000
set_option maxHeartbeats 1000000
namespace Tw
open PySem PySem.Spec PyProof.Rows L2 LamX DL
abbrev sSame : Stmt := top 19
/-- the names that no module binds -/
structure Nm2 (mg : Str → Option Value) : Prop where
  int : mg "int" = none
  str : mg "str" = none
  bool : mg "bool" = none
  list : mg "list" = none
  tuple : mg "tuple" = none
  len : mg "len" = none
  range : mg "range" = none
  enumerate : mg "enumerate" = none
  isinstance : mg "isinstance" = none
theorem Nm2.nm {mg : Str → Option Value} (h : Nm2 mg) : Nm mg := ⟨h.int⟩
theorem bt_int : bootBuiltins "int" = some (.type "int") := by decide +kernel
theorem bt_str : bootBuiltins "str" = some (.type "str") := by decide +kernel
theorem bt_bool : bootBuiltins "bool" = some (.type "bool") := by decide +kernel
theorem bt_list : bootBuiltins "list" = some (.type "list") := by decide +kernel
theorem bt_tuple : bootBuiltins "tuple" = some (.type "tuple") := by decide +kernel
theorem kb_ii : kitB "int" "int" = some true := by decide +kernel
theorem kb_ib : kitB "int" "bool" = some false := by decide +kernel
theorem kb_si : kitB "str" "int" = some false := by decide +kernel
theorem kb_ss : kitB "str" "str" = some true := by decide +kernel
theorem kb_li : kitB "list" "int" = some false := by decide +kernel
theorem kb_ls : kitB "list" "str" = some false := by decide +kernel
theorem kb_ll : kitB "list" "list" = some true := by decide +kernel
theorem kb_lt : kitB "list" "tuple" = some false := by decide +kernel
theorem kb_ti : kitB "tuple" "int" = some false := by decide +kernel
theorem kb_ts : kitB "tuple" "str" = some false := by decide +kernel
theorem kb_tl : kitB "tuple" "list" = some false := by decide +kernel
theorem kb_tt : kitB "tuple" "tuple" = some true := by decide +kernel
def spSame (n : Nat) : SpD := fun ds w κ χ => ∃ d e, ds = [d, e] ∧ (Sm n d e ∨ ∃ a xs, d = R a ∧ w a = some (.lst xs) ∧ Sm n (.lst xs) e) ∧ κ (B true) w
theorem lt62 {n : Nat} (h : n ≤ sizeLine) : (n : Int) < 2 ^ 62 := by
  have e := sizeLine_eq
  omega
section
variable {P : Program} {w : PySem.World} {K : PySem.W.Frag} {mg : Str → Option Value} {base : Heap} {T : List (Addr × Str)}
theorem scSame : FnScope ["actual", "due", "k"] ["actual", "due"] (defScope sSame) := ⟨rfl, rfl, rfl, by decide +kernel, rfl, by decide +kernel, by decide +kernel⟩
theorem same_step {f : Addr} {fd : FuncData} (G : Fun K "_law_same" "_law_same" sSame f fd) (hm : Nm2 mg) (hf : mg "_law_same" = some (.ref f)) (hb : Binds K fd ["actual", "due"] []) (n : Nat)
    (ih : ∀ m, n = m + 1 → FnOk P w K mg base CX0 n f fd ["actual", "due"] (spOf K T (spSame m))) : FnOk P w K mg base CX0 (n + 1) f fd ["actual", "due"] (spOf K T (spSame n)) := by
  refine fnD G scSame (fun ds w κ χ h => ?_) (fun cdv A outer s H E ds w0 κ χ hr h => ?_)
  · obtain ⟨d, e, rfl, _⟩ := h
    rfl
  obtain ⟨d, e, rfl, h, k⟩ := h
  have hu := hr.units
  have nd := scSame.nd
  have key : ∀ (m : Nat) (xs es : List D), n = m + 1 → e = .lst es → Lk w0 d xs → xs.length = es.length → es.length ≤ sizeLine → (∀ (i : Nat) (x y : D), xs[i]? = some x → es[i]? = some y → Sm m x y) →
      PSsD (cxOf CX0 P w K mg base ["actual", "due", "k"] "_law_same" (defScope sSame) f cdv A outer s H E).nox T Wf noX (defBody sSame) (startD ["actual", "due", "k"] [d, e]) w0 { nx := fun _ w' => κ DL.N w', rt := κ } := by
    intro m xs es en ee hk hl hz it
    subst en ee
    refine pssd_cons (psd_if ?_)
    refine ptd_cmp op_isN ?_
    refine pd_var (i := 1) rfl rfl ?_
    refine pd_non ?_
    refine vr_isN ?_
    refine ⟨_, rfl, ?_⟩
    refine iteF ?_
    refine pssd_nil ?_
    refine pssd_cons (psd_if ?_)
    refine ptd_cmp DL.op_isBl ?_
    refine pd_var (i := 1) rfl rfl ?_
    refine pd_bl ?_
    refine vr_isBl ?_
    refine ⟨_, rfl, ?_⟩
    refine iteF ?_
    refine pssd_nil ?_
    refine pssd_cons (psd_if ?_)
    refine ptd_cmp DL.op_isBl ?_
    refine pd_var (i := 1) rfl rfl ?_
    refine pd_bl ?_
    refine vr_isBl ?_
    refine ⟨_, rfl, ?_⟩
    refine iteF ?_
    refine pssd_nil ?_
    refine pssd_cons (psd_if ?_)
    refine ptd_val ?_
    (refine pd_callB call_isi rfl hm.isinstance PyProof.Rows.boot_isinstance ?_; refine pad_cons ?_; refine pd_var (i := 1) rfl rfl ?_; refine pad_cons ?_; refine pd_bltn (v := .ty "int") hm.int bt_int rfl ?_; refine pad_nil ?_)
    refine va_isi rfl kb_li ?_
    refine ⟨_, rfl, ?_⟩
    refine iteF ?_
    refine pssd_nil ?_
    refine pssd_cons (psd_if ?_)
    refine ptd_val ?_
    (refine pd_callB call_isi rfl hm.isinstance PyProof.Rows.boot_isinstance ?_; refine pad_cons ?_; refine pd_var (i := 1) rfl rfl ?_; refine pad_cons ?_; refine pd_bltn (v := .ty "str") hm.str bt_str rfl ?_; refine pad_nil ?_)
    refine va_isi rfl kb_ls ?_
    refine ⟨_, rfl, ?_⟩
    refine iteF ?_
    refine pssd_nil ?_
    refine pssd_cons (psd_if ?_)
    refine pwd_pt ?_
    refine pwd_and ?_
    refine ptd_val ?_
    (refine pd_callB call_isi rfl hm.isinstance PyProof.Rows.boot_isinstance ?_; refine pad_cons ?_; refine pd_var (i := 1) rfl rfl ?_; refine pad_cons ?_; refine pd_bltn (v := .ty "list") hm.list bt_list rfl ?_; refine pad_nil ?_)
    refine va_isi rfl kb_ll ?_
    refine ⟨_, rfl, ?_⟩
    refine iteT ?_
    refine pwd_and1 ?_
    refine ptd_not ?_
    refine ptd_val ?_
    (refine pd_callB call_isi rfl hm.isinstance PyProof.Rows.boot_isinstance ?_; refine pad_cons ?_; refine pd_var (i := 0) rfl rfl ?_; refine pad_cons ?_; refine pd_bltn (v := .ty "list") hm.list bt_list rfl ?_; refine pad_nil ?_)
    refine va_isiK hk kb_ll ?_
    refine ⟨_, rfl, ?_⟩
    refine iteF ?_
    refine pssd_nil ?_
    refine pssd_cons (psd_if ?_)
    refine pwd_pt ?_
    refine pwd_and ?_
    refine ptd_val ?_
    (refine pd_callB call_isi rfl hm.isinstance PyProof.Rows.boot_isinstance ?_; refine pad_cons ?_; refine pd_var (i := 1) rfl rfl ?_; refine pad_cons ?_; refine pd_bltn (v := .ty "tuple") hm.tuple bt_tuple rfl ?_; refine pad_nil ?_)
    refine va_isi rfl kb_lt ?_
    refine ⟨_, rfl, ?_⟩
    refine iteF ?_
    refine iteF ?_
    refine pssd_nil ?_
    refine pssd_cons (psd_if ?_)
    refine ptd_cmp op_ne ?_
    refine pd_callB call_len_seq rfl hm.len PySem.boot_len ?_
    refine pad_cons ?_
    refine pd_var (i := 0) rfl rfl ?_
    refine pad_nil ?_
    refine va_lenK hk ?_
    refine pd_callB call_len_seq rfl hm.len PySem.boot_len ?_
    refine pad_cons ?_
    refine pd_var (i := 1) rfl rfl ?_
    refine pad_nil ?_
    refine va_len ?_
    refine vr_ne rfl ?_
    refine ⟨_, rfl, ?_⟩
    rw [hl, decide_eq_true rfl]
    refine iteF ?_
    refine pssd_nil ?_
    refine pssd_cons (psd_for PassesOwn.never rfl ?_)
    refine it_range hm.range ?_
    refine pd_callB call_len_seq rfl hm.len PySem.boot_len ?_
    refine pad_cons ?_
    refine pd_var (i := 1) rfl rfl ?_
    refine pad_nil ?_
    refine va_len ?_
    refine ⟨es.length, rfl, lt62 hz, ?_⟩
    refine ⟨fun i δ' w' => w' = w0 ∧ δ'[0]? = some (some (d)) ∧ δ'[1]? = some (some (.lst es)) ∧ δ'.length = 3, ⟨rfl, rfl, rfl, rfl⟩, ?_, ?_⟩
    · rintro i dk δ' w' hd ⟨rfl, h0, h1, h3⟩
      obtain ⟨hi, rfl⟩ := ups_at hd
      have e2 : es[i]? = some es[i] := List.getElem?_eq_getElem hi
      have e1 : xs[i]? = some (xs[i]'(by omega)) := List.getElem?_eq_getElem (by omega)
      have sm := it i _ _ e1 e2
      refine pgd_name (i := 2) nd rfl ?_
      have g0 : (δ'.set 2 (some (I (i : Int))))[0]? = some (some (d)) := by
        rw [List.getElem?_set_ne (by decide)]
        exact h0
      have g1 : (δ'.set 2 (some (I (i : Int))))[1]? = some (some (.lst es)) := by
        rw [List.getElem?_set_ne (by decide)]
        exact h1
      have g2 : (δ'.set 2 (some (I (i : Int))))[2]? = some (some (I (i : Int))) := List.getElem?_set_self (by omega)
      refine pssd_one (psd_if ?_)
      refine ptd_not ?_
      refine ptd_val ?_
      refine pd_call (ih m rfl) hr hf G.kp hb (fun _ => pass0At) ?_
      refine pad_cons ?_
      refine pd_ix ix_list ?_
      refine pd_var (i := 0) rfl g0 ?_
      refine pd_var (i := 2) rfl g2 ?_
      refine vr_ixK hk e1 ?_
      refine pad_cons ?_
      refine pd_ix ix_list ?_
      refine pd_var (i := 1) rfl g1 ?_
      refine pd_var (i := 2) rfl g2 ?_
      refine vr_ixL e2 ?_
      refine pad_nil ?_
      refine ⟨_, _, rfl, .inl sm, ?_⟩
      refine ⟨_, rfl, ?_⟩
      refine iteF ?_
      exact pssd_nil ⟨rfl, g0, g1, by rw [List.length_set]; exact h3⟩
    · rintro δ' w' ⟨rfl, _, _, _⟩
      refine pssd_one (psd_ret ?_)
      refine pd_bl ?_
      exact k
  rcases h with h | ⟨a, xs, rfl, hw, h⟩
  case inr =>
    cases h with
    | lst hl hz it => exact key _ _ _ rfl rfl (.inr ⟨a, rfl, hw⟩) hl hz it
  cases h with
  | lst hl hz it => exact key _ _ _ rfl rfl (.inl rfl) hl hz it
  | non =>
    refine pssd_cons (psd_if ?_)
    refine ptd_cmp op_isN ?_
    refine pd_var (i := 1) rfl rfl ?_
    refine pd_non ?_
    refine vr_isN ?_
    refine ⟨_, rfl, ?_⟩
    refine iteT ?_
    refine pssd_one (psd_ret ?_)
    refine pd_cmp op_isN ?_
    refine pd_var (i := 0) rfl rfl ?_
    refine pd_non ?_
    refine vr_isN ?_
    exact k
  | bl b =>
    cases b
    case true =>
      refine pssd_cons (psd_if ?_)
      refine ptd_cmp op_isN ?_
      refine pd_var (i := 1) rfl rfl ?_
      refine pd_non ?_
      refine vr_isN ?_
      refine ⟨_, rfl, ?_⟩
      refine iteF ?_
      refine pssd_nil ?_
      refine pssd_cons (psd_if ?_)
      refine ptd_cmp DL.op_isBl ?_
      refine pd_var (i := 1) rfl rfl ?_
      refine pd_bl ?_
      refine vr_isBl ?_
      refine ⟨_, rfl, ?_⟩
      refine iteT ?_
      refine pssd_one (psd_ret ?_)
      refine pd_cmp DL.op_isBl ?_
      refine pd_var (i := 0) rfl rfl ?_
      refine pd_bl ?_
      refine vr_isBl ?_
      exact k
    case false =>
      refine pssd_cons (psd_if ?_)
      refine ptd_cmp op_isN ?_
      refine pd_var (i := 1) rfl rfl ?_
      refine pd_non ?_
      refine vr_isN ?_
      refine ⟨_, rfl, ?_⟩
      refine iteF ?_
      refine pssd_nil ?_
      refine pssd_cons (psd_if ?_)
      refine ptd_cmp DL.op_isBl ?_
      refine pd_var (i := 1) rfl rfl ?_
      refine pd_bl ?_
      refine vr_isBl ?_
      refine ⟨_, rfl, ?_⟩
      refine iteF ?_
      refine pssd_nil ?_
      refine pssd_cons (psd_if ?_)
      refine ptd_cmp DL.op_isBl ?_
      refine pd_var (i := 1) rfl rfl ?_
      refine pd_bl ?_
      refine vr_isBl ?_
      refine ⟨_, rfl, ?_⟩
      refine iteT ?_
      refine pssd_one (psd_ret ?_)
      refine pd_cmp DL.op_isBl ?_
      refine pd_var (i := 0) rfl rfl ?_
      refine pd_bl ?_
      refine vr_isBl ?_
      exact k
  | int i =>
    refine pssd_cons (psd_if ?_)
    refine ptd_cmp op_isN ?_
    refine pd_var (i := 1) rfl rfl ?_
    refine pd_non ?_
    refine vr_isN ?_
    refine ⟨_, rfl, ?_⟩
    refine iteF ?_
    refine pssd_nil ?_
    refine pssd_cons (psd_if ?_)
    refine ptd_cmp DL.op_isBl ?_
    refine pd_var (i := 1) rfl rfl ?_
    refine pd_bl ?_
    refine vr_isBl ?_
    refine ⟨_, rfl, ?_⟩
    refine iteF ?_
    refine pssd_nil ?_
    refine pssd_cons (psd_if ?_)
    refine ptd_cmp DL.op_isBl ?_
    refine pd_var (i := 1) rfl rfl ?_
    refine pd_bl ?_
    refine vr_isBl ?_
    refine ⟨_, rfl, ?_⟩
    refine iteF ?_
    refine pssd_nil ?_
    refine pssd_cons (psd_if ?_)
    refine ptd_val ?_
    (refine pd_callB call_isi rfl hm.isinstance PyProof.Rows.boot_isinstance ?_; refine pad_cons ?_; refine pd_var (i := 1) rfl rfl ?_; refine pad_cons ?_; refine pd_bltn (v := .ty "int") hm.int bt_int rfl ?_; refine pad_nil ?_)
    refine va_isi rfl kb_ii ?_
    refine ⟨_, rfl, ?_⟩
    refine iteT ?_
    refine pssd_one (psd_ret ?_)
    refine pd_and ?_
    (refine pd_callB call_isi rfl hm.isinstance PyProof.Rows.boot_isinstance ?_; refine pad_cons ?_; refine pd_var (i := 0) rfl rfl ?_; refine pad_cons ?_; refine pd_bltn (v := .ty "int") hm.int bt_int rfl ?_; refine pad_nil ?_)
    refine va_isi rfl kb_ii ?_
    refine ⟨_, rfl, ?_⟩
    refine iteT ?_
    refine pd_and ?_
    refine pd_not ?_
    (refine pd_callB call_isi rfl hm.isinstance PyProof.Rows.boot_isinstance ?_; refine pad_cons ?_; refine pd_var (i := 0) rfl rfl ?_; refine pad_cons ?_; refine pd_bltn (v := .ty "bool") hm.bool bt_bool rfl ?_; refine pad_nil ?_)
    refine va_isi rfl kb_ib ?_
    refine ⟨_, rfl, ?_⟩
    refine ⟨_, rfl, ?_⟩
    refine iteT ?_
    refine pd_one ?_
    refine pd_cmp op_eq ?_
    refine pd_var (i := 0) rfl rfl ?_
    refine pd_var (i := 1) rfl rfl ?_
    refine vr_eq rfl ?_
    rw [decide_eq_true rfl]
    exact k
  | str x =>
    refine pssd_cons (psd_if ?_)
    refine ptd_cmp op_isN ?_
    refine pd_var (i := 1) rfl rfl ?_
    refine pd_non ?_
    refine vr_isN ?_
    refine ⟨_, rfl, ?_⟩
    refine iteF ?_
    refine pssd_nil ?_
    refine pssd_cons (psd_if ?_)
    refine ptd_cmp DL.op_isBl ?_
    refine pd_var (i := 1) rfl rfl ?_
    refine pd_bl ?_
    refine vr_isBl ?_
    refine ⟨_, rfl, ?_⟩
    refine iteF ?_
    refine pssd_nil ?_
    refine pssd_cons (psd_if ?_)
    refine ptd_cmp DL.op_isBl ?_
    refine pd_var (i := 1) rfl rfl ?_
    refine pd_bl ?_
    refine vr_isBl ?_
    refine ⟨_, rfl, ?_⟩
    refine iteF ?_
    refine pssd_nil ?_
    refine pssd_cons (psd_if ?_)
    refine ptd_val ?_
    (refine pd_callB call_isi rfl hm.isinstance PyProof.Rows.boot_isinstance ?_; refine pad_cons ?_; refine pd_var (i := 1) rfl rfl ?_; refine pad_cons ?_; refine pd_bltn (v := .ty "int") hm.int bt_int rfl ?_; refine pad_nil ?_)
    refine va_isi rfl kb_si ?_
    refine ⟨_, rfl, ?_⟩
    refine iteF ?_
    refine pssd_nil ?_
    refine pssd_cons (psd_if ?_)
    refine ptd_val ?_
    (refine pd_callB call_isi rfl hm.isinstance PyProof.Rows.boot_isinstance ?_; refine pad_cons ?_; refine pd_var (i := 1) rfl rfl ?_; refine pad_cons ?_; refine pd_bltn (v := .ty "str") hm.str bt_str rfl ?_; refine pad_nil ?_)
    refine va_isi rfl kb_ss ?_
    refine ⟨_, rfl, ?_⟩
    refine iteT ?_
    refine pssd_one (psd_ret ?_)
    refine pd_and ?_
    (refine pd_callB call_isi rfl hm.isinstance PyProof.Rows.boot_isinstance ?_; refine pad_cons ?_; refine pd_var (i := 0) rfl rfl ?_; refine pad_cons ?_; refine pd_bltn (v := .ty "str") hm.str bt_str rfl ?_; refine pad_nil ?_)
    refine va_isi rfl kb_ss ?_
    refine ⟨_, rfl, ?_⟩
    refine iteT ?_
    refine pd_one ?_
    refine pd_cmp op_eq ?_
    refine pd_var (i := 0) rfl rfl ?_
    refine pd_var (i := 1) rfl rfl ?_
    refine vr_eq rfl ?_
    rw [decide_eq_true rfl]
    exact k
  | @tup m xs es hl hz it =>
    refine pssd_cons (psd_if ?_)
    refine ptd_cmp op_isN ?_
    refine pd_var (i := 1) rfl rfl ?_
    refine pd_non ?_
    refine vr_isN ?_
    refine ⟨_, rfl, ?_⟩
    refine iteF ?_
    refine pssd_nil ?_
    refine pssd_cons (psd_if ?_)
    refine ptd_cmp DL.op_isBl ?_
    refine pd_var (i := 1) rfl rfl ?_
    refine pd_bl ?_
    refine vr_isBl ?_
    refine ⟨_, rfl, ?_⟩
    refine iteF ?_
    refine pssd_nil ?_
    refine pssd_cons (psd_if ?_)
    refine ptd_cmp DL.op_isBl ?_
    refine pd_var (i := 1) rfl rfl ?_
    refine pd_bl ?_
    refine vr_isBl ?_
    refine ⟨_, rfl, ?_⟩
    refine iteF ?_
    refine pssd_nil ?_
    refine pssd_cons (psd_if ?_)
    refine ptd_val ?_
    (refine pd_callB call_isi rfl hm.isinstance PyProof.Rows.boot_isinstance ?_; refine pad_cons ?_; refine pd_var (i := 1) rfl rfl ?_; refine pad_cons ?_; refine pd_bltn (v := .ty "int") hm.int bt_int rfl ?_; refine pad_nil ?_)
    refine va_isi rfl kb_ti ?_
    refine ⟨_, rfl, ?_⟩
    refine iteF ?_
    refine pssd_nil ?_
    refine pssd_cons (psd_if ?_)
    refine ptd_val ?_
    (refine pd_callB call_isi rfl hm.isinstance PyProof.Rows.boot_isinstance ?_; refine pad_cons ?_; refine pd_var (i := 1) rfl rfl ?_; refine pad_cons ?_; refine pd_bltn (v := .ty "str") hm.str bt_str rfl ?_; refine pad_nil ?_)
    refine va_isi rfl kb_ts ?_
    refine ⟨_, rfl, ?_⟩
    refine iteF ?_
    refine pssd_nil ?_
    refine pssd_cons (psd_if ?_)
    refine pwd_pt ?_
    refine pwd_and ?_
    refine ptd_val ?_
    (refine pd_callB call_isi rfl hm.isinstance PyProof.Rows.boot_isinstance ?_; refine pad_cons ?_; refine pd_var (i := 1) rfl rfl ?_; refine pad_cons ?_; refine pd_bltn (v := .ty "list") hm.list bt_list rfl ?_; refine pad_nil ?_)
    refine va_isi rfl kb_tl ?_
    refine ⟨_, rfl, ?_⟩
    refine iteF ?_
    refine iteF ?_
    refine pssd_nil ?_
    refine pssd_cons (psd_if ?_)
    refine pwd_pt ?_
    refine pwd_and ?_
    refine ptd_val ?_
    (refine pd_callB call_isi rfl hm.isinstance PyProof.Rows.boot_isinstance ?_; refine pad_cons ?_; refine pd_var (i := 1) rfl rfl ?_; refine pad_cons ?_; refine pd_bltn (v := .ty "tuple") hm.tuple bt_tuple rfl ?_; refine pad_nil ?_)
    refine va_isi rfl kb_tt ?_
    refine ⟨_, rfl, ?_⟩
    refine iteT ?_
    refine pwd_and1 ?_
    refine ptd_not ?_
    refine ptd_val ?_
    (refine pd_callB call_isi rfl hm.isinstance PyProof.Rows.boot_isinstance ?_; refine pad_cons ?_; refine pd_var (i := 0) rfl rfl ?_; refine pad_cons ?_; refine pd_bltn (v := .ty "tuple") hm.tuple bt_tuple rfl ?_; refine pad_nil ?_)
    refine va_isi rfl kb_tt ?_
    refine ⟨_, rfl, ?_⟩
    refine iteF ?_
    refine pssd_nil ?_
    refine pssd_cons (psd_if ?_)
    refine ptd_cmp op_ne ?_
    refine pd_callB call_len_seq rfl hm.len PySem.boot_len ?_
    refine pad_cons ?_
    refine pd_var (i := 0) rfl rfl ?_
    refine pad_nil ?_
    refine va_lenT ?_
    refine pd_callB call_len_seq rfl hm.len PySem.boot_len ?_
    refine pad_cons ?_
    refine pd_var (i := 1) rfl rfl ?_
    refine pad_nil ?_
    refine va_lenT ?_
    refine vr_ne rfl ?_
    refine ⟨_, rfl, ?_⟩
    rw [hl, decide_eq_true rfl]
    refine iteF ?_
    refine pssd_nil ?_
    refine pssd_cons (psd_for PassesOwn.never rfl ?_)
    refine it_range hm.range ?_
    refine pd_callB call_len_seq rfl hm.len PySem.boot_len ?_
    refine pad_cons ?_
    refine pd_var (i := 1) rfl rfl ?_
    refine pad_nil ?_
    refine va_lenT ?_
    refine ⟨es.length, rfl, lt62 hz, ?_⟩
    refine ⟨fun i δ' w' => w' = w0 ∧ δ'[0]? = some (some (.tup xs)) ∧ δ'[1]? = some (some (.tup es)) ∧ δ'.length = 3, ⟨rfl, rfl, rfl, rfl⟩, ?_, ?_⟩
    · rintro i dk δ' w' hd ⟨rfl, h0, h1, h3⟩
      obtain ⟨hi, rfl⟩ := ups_at hd
      have e2 : es[i]? = some es[i] := List.getElem?_eq_getElem hi
      have e1 : xs[i]? = some (xs[i]'(by omega)) := List.getElem?_eq_getElem (by omega)
      have sm := it i _ _ e1 e2
      refine pgd_name (i := 2) nd rfl ?_
      have g0 : (δ'.set 2 (some (I (i : Int))))[0]? = some (some (.tup xs)) := by
        rw [List.getElem?_set_ne (by decide)]
        exact h0
      have g1 : (δ'.set 2 (some (I (i : Int))))[1]? = some (some (.tup es)) := by
        rw [List.getElem?_set_ne (by decide)]
        exact h1
      have g2 : (δ'.set 2 (some (I (i : Int))))[2]? = some (some (I (i : Int))) := List.getElem?_set_self (by omega)
      refine pssd_one (psd_if ?_)
      refine ptd_not ?_
      refine ptd_val ?_
      refine pd_call (ih m rfl) hr hf G.kp hb (fun _ => pass0At) ?_
      refine pad_cons ?_
      refine pd_ix ix_tup ?_
      refine pd_var (i := 0) rfl g0 ?_
      refine pd_var (i := 2) rfl g2 ?_
      refine vr_ixT e1 ?_
      refine pad_cons ?_
      refine pd_ix ix_tup ?_
      refine pd_var (i := 1) rfl g1 ?_
      refine pd_var (i := 2) rfl g2 ?_
      refine vr_ixT e2 ?_
      refine pad_nil ?_
      refine ⟨_, _, rfl, .inl sm, ?_⟩
      refine ⟨_, rfl, ?_⟩
      refine iteF ?_
      exact pssd_nil ⟨rfl, g0, g1, by rw [List.length_set]; exact h3⟩
    · rintro δ' w' ⟨rfl, _, _, _⟩
      refine pssd_one (psd_ret ?_)
      refine pd_bl ?_
      exact k
theorem ok_same {f : Addr} {fd : FuncData} (G : Fun K "_law_same" "_law_same" sSame f fd) (hm : Nm2 mg) (hf : mg "_law_same" = some (.ref f)) (hb : Binds K fd ["actual", "due"] []) : ∀ n : Nat, FnOk P w K mg base CX0 (n + 1) f fd ["actual", "due"] (spOf K T (spSame n))
  | 0 => same_step G hm hf hb 0 fun m h => by cases h
  | n + 1 => same_step G hm hf hb (n + 1) fun m h => by
    cases h
    exact ok_same G hm hf hb n
end
end Tw

set_option Elab.async false
set_option linter.all false
set_option maxRecDepth 100000
set_option maxHeartbeats 1000000
namespace Tw
open PySem PySem.Spec PyProof.Rows L2 LamX DL
/-- the global x is a def that keeps sp -/
def HasF (P : Program) (w : PySem.World) (K : PySem.W.Frag) (mg : Str → Option Value) (base : Heap) (T : List (Addr × Str)) (CX : CXT) (x : Str) (k : Nat) (ps : List Str) (sp : SpD) : Prop :=
  ∃ f fd, FnOk P w K mg base CX k f fd ps (spOf K T sp) ∧ mg x = some (.ref f) ∧ PySem.W.keepIn K (.ref f) = true ∧ Binds K fd ps []
section
variable {X : Cx} {T : List (Addr × Str)} {W : WX} {χ : XD} {δ : Dn} {w : Wp} {pos : Pos}
theorem pd_has {CX : CXT} {k : Nat} {ps : List Str} {sp : SpD} {x : Str} {p : Pos} {e : Expr} {es : List Expr} {κ : D → Wp → Prop} (G : HasF X.prog X.w X.K X.mg X.base T CX x k ps sp) (hr : Room k X.A)
    (hx : ∀ σ, PassesAt CX X σ (WE W σ)) (h : PAD X T W χ (e :: es) δ w fun ds w1 => sp ds w1 κ χ) (hg : Gl X x := by rfl) (hdb : (x == ("__debug__" : Str)) = false := by decide)
    (he : starEach (e :: es) X.env = (false, eval e X.env) :: starEach es X.env := by rfl) (hpl : (backTo pos (starEach es X.env)).any (·.1) = false := by rfl) : PD X T W χ (.Call (.Name x p) (e :: es) [] pos) δ w κ := by
  obtain ⟨f, fd, h1, h2, h3, h4⟩ := G
  exact pd_call h1 hr h2 h3 h4 hx h hg hdb he hpl
theorem take_lt {b : Bag} {m : Int} (h : 0 < m) : 0 ≤ (take b m).1 ∧ (take b m).1 < m := by
  unfold take
  split
  · exact ⟨Int.emod_nonneg _ (by omega), Int.emod_lt_of_pos _ h⟩
  · exact ⟨Int.emod_nonneg _ (by omega), Int.emod_lt_of_pos _ h⟩
/-- _law_take(bag, e) -/
theorem pd_take {x y : Str} {k i : Nat} {p p1 : Pos} {e : Expr} {a r : Addr} {b : Bag} {κ : D → Wp → Prop} (G : HasF X.prog X.w X.K X.mg X.base T CX0 x k ["bag", "many"] spTake) (hr : Room k X.A)
    (hN : X.N[i]? = some y) (hd : δ[i]? = some (some (R a))) (hb : BagAt w a r b) (h : PD X T W χ e δ w fun d w1 => w1 = w ∧ ∃ m, d = I m ∧ 0 < m ∧ m.natAbs.log2 < 9000 ∧ ∀ v b', 0 ≤ v → v < m → κ (I v) (bagPut w a r b'))
    (hg : Gl X x := by rfl) (hdb : (x == ("__debug__" : Str)) = false := by decide)
    (he : starEach [.Name y p1, e] X.env = (false, eval (.Name y p1) X.env) :: starEach [e] X.env := by rfl) (he2 : starEach [e] X.env = (false, eval e X.env) :: starEach [] X.env := by rfl) (hpl : (backTo pos (starEach [e] X.env)).any (·.1) = false := by rfl)
    (hv : Vis X.env.scope y := by first | exact Or.inl rfl | exact Or.inr (Or.inl rfl) | exact Or.inr (Or.inr rfl)) (h1 : (y == ("__debug__" : Str)) = false := by decide) (h2 : (y == ("__classdict__" : Str)) = false := by decide) : PD X T W χ (.Call (.Name x p) [.Name y p1, e] [] pos) δ w κ := by
  refine pd_has G hr (fun _ => pass0At) ?_ hg hdb he hpl
  refine pad_cons (pd_var hN hd ?_ hv h1 h2) he
  refine pad_cons (h.imp ?_) he2
  rintro d w1 ⟨rfl, m, rfl, h3, h4, k⟩
  refine pad_nil ⟨a, r, b, m, rfl, hb, ⟨h3, h4⟩, ?_⟩
  exact k _ _ (take_lt h3).1 (take_lt h3).2
end
theorem log_of {x : Int} (h : x.natAbs < 2 ^ 1000) : x.natAbs.log2 < 1920 := by
  by_cases z : x.natAbs = 0
  · rw [z]
    decide
  · exact Nat.lt_trans ((Nat.log2_lt z).mpr h) (by decide)
end Tw

set_option Elab.async false
set_option linter.all false
set_option maxRecDepth 100000
set_option maxHeartbeats 1000000
namespace Tw
open PySem PySem.Spec PyProof.Rows L2 LamX DL
/-- what a raise of an own error class of one field asks -/
def HasE (P : Program) (w : PySem.World) (K : PySem.W.Frag) (mg : Str → Option Value) (base : Heap) (x : Str) (C : Addr) (k : Nat) (f : Str) : Prop :=
  ∃ fI fd, FnOk P w K mg base CX0 k fI fd ["self", f] (spX1 C f intFits) ∧ mg x = some (.ref C) ∧ OexC K C ∧ PySem.W.findIn K (.ref C) "__init__" = some (some (.ref fI)) ∧ PySem.W.typeIn K (.ref fI) = some (.type "function") ∧ Binds K fd ["self", f] []
/-- C.m is a method that keeps sp -/
def HasM (P : Program) (w : PySem.World) (K : PySem.W.Frag) (mg : Str → Option Value) (base : Heap) (T : List (Addr × Str)) (CX : CXT) (C : Addr) (m : Str) (k : Nat) (ps : List Str) (sp : SpD) : Prop :=
  ∃ f fd, FnOk P w K mg base CX k f fd ps (spOf K T sp) ∧ Meth K C m f ∧ Binds K fd ps []
theorem passLf {X : Cx} {σ : L2.St} : PassesAt (L2.CX X.prog X.w) X σ (WE Wf σ) := fun pins H s e s' I h => passL pins σ H s e s' I h
section
variable {X : Cx} {T : List (Addr × Str)} {W : WX} {χ : XD} {δ : Dn} {w : Wp} {pos : Pos}
theorem psd_raiseH {x f : Str} {C : Addr} {k : Nat} {e : Expr} {p cpos : Pos} {Fi : DL.Fin} (hc : X.calm = true) (tk : Takes X W) (G : HasE X.prog X.w X.K X.mg X.base x C k f) (hr : Room (k + 1) X.A)
    (h : PD X T W χ e δ w fun d w1 => ∃ i : Int, d = I i ∧ i.natAbs.log2 < 1920 ∧ χ C [f] [I i] w1) (hg : Gl X x := by rfl) (hdb : (x == ("__debug__" : Str)) = false := by decide)
    (he : starEach [e] X.env = (false, eval e X.env) :: starEach [] X.env := by rfl) (hpl : (backTo cpos (starEach [] X.env)).any (·.1) = false := by rfl) : PSD X T W χ (.Raise (some (.Call (.Name x p) [e] [] cpos)) none pos) δ w Fi := by
  obtain ⟨fI, fd, h1, h2, h3, h4, h5, h6⟩ := G
  refine psd_raise1 (CX := CX0) hc tk h3 h4 h5 h1 hr h6 h2 (h.imp ?_) hg hdb he hpl
  rintro d w1 ⟨i, rfl, hi, k⟩
  exact ⟨.int i, rfl, ⟨i, rfl, hi⟩, k⟩
theorem pd_hasm {CX : CXT} {k : Nat} {C : Addr} {ps : List Str} {sp : SpD} {m : Str} {apos : Pos} {e o : Expr} {es : List Expr} {κ : D → Wp → Prop} {pl : Sem Bool} (c : Cls X.K C) (G : HasM X.prog X.w X.K X.mg X.base T CX C m k ps sp) (hr : Room k X.A)
    (hx : ∀ σ, PassesAt CX X σ (WE W σ)) (h : PD X T W χ o δ w fun d w1 => InsD C m d w1 ∧ PAD X T W χ (e :: es) δ w1 fun ds w2 => sp (d :: ds) w2 κ χ)
    (hst : starEach (e :: es) X.env = (false, eval e X.env) :: starEach es X.env := by rfl) (hpl : (backTo pos (starEach es X.env)).any (·.1) = false := by rfl)
    (ht : eval (.Call (.Attribute o m apos) (e :: es) [] pos) X.env = (do
      let ov ← eval o X.env
      standAt apos.atName
      let (f, first) ← holding [ov] (getMethod ov m pl)
      callWith pos f first (backTo pos (starEach (e :: es) X.env)) (backToKw pos (keywordEach [] X.env))) := by rfl) : PD X T W χ (.Call (.Attribute o m apos) (e :: es) [] pos) δ w κ := by
  obtain ⟨f, fd, h1, h2, h3⟩ := G
  exact pd_meth c h2 h1 hr h3 hx h hst hpl ht
theorem pd_hasm0 {CX : CXT} {k : Nat} {C : Addr} {ps : List Str} {sp : SpD} {m : Str} {apos : Pos} {o : Expr} {κ : D → Wp → Prop} {pl : Sem Bool} (c : Cls X.K C) (G : HasM X.prog X.w X.K X.mg X.base T CX C m k ps sp) (hr : Room k X.A)
    (hx : ∀ σ, PassesAt CX X σ (WE W σ)) (h : PD X T W χ o δ w fun d w1 => InsD C m d w1 ∧ sp [d] w1 κ χ)
    (ht : eval (.Call (.Attribute o m apos) [] [] pos) X.env = (do
      let ov ← eval o X.env
      standAt apos.atName
      let (f, first) ← holding [ov] (getMethod ov m pl)
      callWith pos f first (backTo pos (starEach [] X.env)) (backToKw pos (keywordEach [] X.env))) := by rfl) : PD X T W χ (.Call (.Attribute o m apos) [] [] pos) δ w κ := by
  obtain ⟨f, fd, h1, h2, h3⟩ := G
  exact pd_meth0 c h2 h1 hr h3 hx h ht
end
/-! ### data -/
def nats (l : List Nat) : D := .lst (l.map fun (k : Nat) => I (k : Int))
def spl (C : Addr) (lo : List Nat) : D := .obj C ["size", "_marks"] [I (lo.length : Int), nats lo]
def cellN (lo : List Nat) (m : Nat) : List Nat := (List.range lo.length).filter fun o => decide (lo[o]? = some m)
def heads (lo : List Nat) : List Nat := (List.range lo.length).filter fun c => decide (lo[c]? = some c)
def cellsN (lo : List Nat) : List (List Nat) := (heads lo).map fun c => cellN lo c
def lowN (ms : List Int) : List Nat := ms.map fun m => ms.idxOf m
/-! ### check_case, _check_size -/
def InR (c s : Int) : Prop := 0 ≤ c ∧ c < s
def spCheck (CU : Addr) : SpD := fun ds w κ χ => ∃ c s, ds = [I c, I s] ∧ (InR c s → κ N w) ∧ (¬ InR c s → c.natAbs.log2 < 1920 ∧ χ CU ["case"] [I c] w)
abbrev sCheck : Stmt := top 8
def spSize (CB : Addr) : SpD := fun ds w κ χ => ∃ s : Int, ds = [I s] ∧ ((1 ≤ s ∧ s ≤ 12) → κ N w) ∧ (¬ (1 ≤ s ∧ s ≤ 12) → s.natAbs.log2 < 1920 ∧ χ CB ["size"] [I s] w)
abbrev sSize : Stmt := top 12
section
variable {P : Program} {w : PySem.World} {K : PySem.W.Frag} {mg : Str → Option Value} {base : Heap} {T : List (Addr × Str)}
theorem takesX {N : List Str} {qual : Str} {sc : Scope} {f : Addr} {cdv : Value} {A : Around} {outer : List Env} {s : Shared} {H : Hp} {E : XK} : Takes (cxOf (L2.CX P w) P w K mg base N qual sc f cdv A outer s H E) (fun cls d _ H => E cls d H) := takes_of rfl rfl rfl rfl
theorem passX {N : List Str} {qual : Str} {sc : Scope} {f : Addr} {cdv : Value} {A : Around} {outer : List Env} {s : Shared} {H : Hp} {E : XK} (σ : L2.St) : PassesAt (L2.CX P w) (cxOf (L2.CX P w) P w K mg base N qual sc f cdv A outer s H E) σ (WE (fun cls d _ H => E cls d H) σ) := passAt takesX σ
theorem scCheck : FnScope ["case", "size"] ["case", "size"] (defScope sCheck) := ⟨rfl, rfl, rfl, by decide +kernel, rfl, by decide +kernel, by decide +kernel⟩
theorem ok_check {f CU : Addr} {fd : FuncData} (G : Fun K "check_case" "check_case" sCheck f fd) (hE : HasE P w K mg base "UnknownCase" CU 1 "case") : FnOk P w K mg base (L2.CX P w) 3 f fd ["case", "size"] (spOf K T (spCheck CU)) := by
  refine fnX G scCheck (fun ds w κ χ h => ?_) (fun cdv A outer s H E ds w0 κ χ hr h => ?_)
  · obtain ⟨c, s, rfl, _⟩ := h
    rfl
  obtain ⟨c, sz, rfl, k1, k2⟩ := h
  refine pssd_one (psd_if ?_)
  refine pwd_pt ?_
  refine pwd_or ?_
  refine ptd_cmp op_lt ?_
  refine pd_var (i := 0) rfl rfl ?_
  refine pd_int ?_
  refine vr_I ?_
  refine ⟨_, rfl, ?_⟩
  have out : ¬ InR c sz → ∀ p1 p2 p3 p4 : Pos, PSsD (cxOf (L2.CX P w) P w K mg base ["case", "size"] "check_case" (defScope sCheck) f cdv A outer s H E) T (fun cls d _ H => E cls d H) χ [.Raise (some (.Call (.Name "UnknownCase" p1) [.Name "case" p2] [] p3)) none p4] (startD ["case", "size"] [I c, I sz]) w0 { nx := fun _ w' => κ DL.N w', rt := κ } := fun ho p1 p2 p3 p4 => by
    refine pssd_one (psd_raiseH rfl takesX hE hr ?_)
    refine pd_var (i := 0) rfl rfl ?_
    exact ⟨c, rfl, k2 ho⟩
  refine ite2 (fun h1 => ?_) (fun h1 => ?_)
  · refine iteT ?_
    exact out (fun h => by simp only [decide_eq_true_eq] at h1; exact absurd h.1 (by omega)) _ _ _ _
  refine pwd_or1 ?_
  refine ptd_cmp op_ge ?_
  refine pd_var (i := 0) rfl rfl ?_
  refine pd_var (i := 1) rfl rfl ?_
  refine vr_I ?_
  refine ⟨_, rfl, ?_⟩
  refine ite2 (fun h2 => ?_) (fun h2 => ?_)
  · exact out (fun h => by simp only [decide_eq_true_eq] at h2; exact absurd h.2 (by omega)) _ _ _ _
  · exact pssd_nil (k1 (by simp only [decide_eq_true_eq] at h1 h2; exact ⟨by omega, by omega⟩))
theorem scSize : FnScope ["size"] ["size"] (defScope sSize) := ⟨rfl, rfl, rfl, by decide +kernel, rfl, by decide +kernel, by decide +kernel⟩
theorem ok_size {f CB C : Addr} {mc : Value} {u : Value} {fd : FuncData} (G : Fun K "check_size" "check_size" sSize f fd) (hE : HasE P w K mg base "BadSize" CB 1 "size") (hS : mg "Split" = some (.ref C)) (rC : ClX.CRead K C mc) (vC : ClX.CVal K C mc "MOST" (.int 12) u) : FnOk P w K mg base (L2.CX P w) 3 f fd ["size"] (spOf K T (spSize CB)) := by
  refine fnX G scSize (fun ds w κ χ h => ?_) (fun cdv A outer s H E ds w0 κ χ hr h => ?_)
  · obtain ⟨c, rfl, _⟩ := h
    rfl
  obtain ⟨sz, rfl, k1, k2⟩ := h
  refine pssd_one (psd_if ?_)
  refine pwd_pt ?_
  refine pwd_or ?_
  refine ptd_cmp op_lt ?_
  refine pd_var (i := 0) rfl rfl ?_
  refine pd_int ?_
  refine vr_I ?_
  refine ⟨_, rfl, ?_⟩
  have out : ¬ (1 ≤ sz ∧ sz ≤ 12) → ∀ p1 p2 p3 p4 : Pos, PSsD (cxOf (L2.CX P w) P w K mg base ["size"] "check_size" (defScope sSize) f cdv A outer s H E) T (fun cls d _ H => E cls d H) χ [.Raise (some (.Call (.Name "BadSize" p1) [.Name "size" p2] [] p3)) none p4] (startD ["size"] [I sz]) w0 { nx := fun _ w' => κ DL.N w', rt := κ } := fun ho p1 p2 p3 p4 => by
    refine pssd_one (psd_raiseH rfl takesX hE hr ?_)
    refine pd_var (i := 0) rfl rfl ?_
    exact ⟨sz, rfl, k2 ho⟩
  refine ite2 (fun h1 => ?_) (fun h1 => ?_)
  · refine iteT ?_
    exact out (fun h => by simp only [decide_eq_true_eq] at h1; exact absurd h.1 (by omega)) _ _ _ _
  refine pwd_or1 ?_
  refine ptd_cmp op_gt ?_
  refine pd_var (i := 0) rfl rfl ?_
  refine pd_cval rC vC ?_
  refine pd_glob (v := .ref C) hS rfl ?_
  refine ⟨rfl, ?_⟩
  refine vr_I ?_
  refine ⟨_, rfl, ?_⟩
  refine ite2 (fun h2 => ?_) (fun h2 => ?_)
  · exact out (fun h => by simp only [decide_eq_true_eq] at h2; exact absurd h.2 (by omega)) _ _ _ _
  · exact pssd_nil (k1 (by simp only [decide_eq_true_eq] at h1 h2; exact ⟨by omega, by omega⟩))
end
end Tw

set_option Elab.async false
set_option linter.all false
set_option maxRecDepth 100000
set_option maxHeartbeats 2000000
/-! Error classes of two fields. -/
namespace DL
open PySem PySem.Spec PyProof.Rows L2 LamX
open PySem.W (ksEnv)
def spX2 (C : Addr) (f g : Str) (ok : V → Prop) : Sp := fun vs H Q _ => ∃ a v u, vs = [.ref a, v, u] ∧ H a = some (exo a C none) ∧ ok v ∧ ok u ∧
  ∀ dx, H dx = none → dx ≠ a → Q .non (upd (upd H dx (exd dx [(g, u), (f, v)])) a (exo a C (some dx)))
theorem made_heap2 {H1 : Hp} {a dx C : Addr} {fs : List (Str × V)} (na : H1 a = none) (nd : dx ≠ a) : upd (del (upd (upd (upd H1 a (exo a C none)) dx (exd dx fs)) a (exo a C (some dx))) a) dx (.xd fs) = upd H1 dx (.xd fs) := by
  funext b
  by_cases h1 : b = dx
  · subst h1
    rw [upd_same, upd_same]
  · rw [upd_ne h1, upd_ne h1]
    by_cases h2 : b = a
    · subst h2
      rw [del_same, na]
    · rw [del_ne h2, upd_ne h2, upd_ne h1, upd_ne h2]
section
variable {X : Cx} {T : List (Addr × Str)} {W : WX} {χ : XD} {δ : Dn} {w : Wp} {pos : Pos}
/-- raise X(e1, e2), X an error class of two fields -/
theorem psd_raise2 {CX : CXT} {x f g : Str} {C fI : Addr} {k : Nat} {fd : FuncData} {ok : V → Prop} {e1 e2 : Expr} {p cpos : Pos} {Fi : Fin} (hc : X.calm = true) (tk : Takes X W) (TC : OexC X.K C) (iC : PySem.W.findIn X.K (.ref C) "__init__" = some (some (.ref fI))) (tI : PySem.W.typeIn X.K (.ref fI) = some (.type "function"))
    (G : FnOk X.prog X.w X.K X.mg X.base CX0 k fI fd ["self", f, g] (spX2 C f g ok)) (hr : Room (k + 1) X.A) (hb : Binds X.K fd ["self", f, g] []) (hm : X.mg x = some (.ref C))
    (h : PD X T W χ e1 δ w fun d w1 => PD X T W χ e2 δ w1 fun d2 w2 => ∃ v u, d = .val v ∧ d2 = .val u ∧ ok v ∧ ok u ∧ χ C [g, f] [d2, d] w2) (hg : Gl X x := by rfl) (hdb : (x == ("__debug__" : Str)) = false := by decide)
    (he1 : starEach [e1, e2] X.env = (false, eval e1 X.env) :: starEach [e2] X.env := by rfl) (he2 : starEach [e2] X.env = (false, eval e2 X.env) :: starEach [] X.env := by rfl) (hpl : (backTo cpos (starEach [e2] X.env)).any (·.1) = false := by rfl) : PSD X T W χ (.Raise (some (.Call (.Name x p) [e1, e2] [] cpos)) none pos) δ w Fi := fun F σ S H E hE hW hX hK => by
  refine wp_ps (ps_raise hc tk (pmk_oex (dvs := []) (ds := []) TC iC tI G hr hb .nil pass0 hg hm (pa_cons (pe_wp e1) (pa_cons (pe_wp e2) pa_nil he2) he1) hdb he1 hpl)) ?_
  refine h F σ S H _ hE hW (hX σ) fun d w1 v S1 H1 q s1 W1 r => ?_
  refine q F σ S1 H1 _ (hE.mono s1) W1 ((hX σ).mono s1) fun d2 w2 u S2 H2 q2 s2 W2 r2 => ?_
  obtain ⟨v', u', rfl, rfl, hv, hu, q2⟩ := q2
  have r' : v = v' := r
  have r2' : u = u' := r2
  subst r' r2'
  refine ⟨by show 2 ≤ 1000; decide, fun a na => ?_⟩
  refine ⟨a, v, u, rfl, upd_same, hv, hu, fun dx nd nda => ⟨rfl, dx, [(g, u), (f, v)], upd_same, ?_, ?_, ?_⟩⟩
  · rw [upd_ne nda, upd_same]
  · rw [upd_ne nda] at nd
    exact nd
  · rw [upd_ne nda] at nd
    rw [made_heap2 na nda]
    have s3 : Same S2 (upd S2 dx (.xd [(g, u), (f, v)])) := same_upd (W2.free nd).1
    exact hX σ C [g, f] [.val u, .val v] w2 dx _ _ q2 (s1.trans (s2.trans s3)) (W2.laid nd fun _ z => by cases z) ⟨_, upd_same, rfl, u, [v], rfl, rfl, v, [], rfl, rfl, rfl⟩
end
end DL
namespace Tw
open PySem PySem.Spec PyProof.Rows L2 LamX DL
open PySem.W (ksEnv)
abbrev sSizeMis : Stmt := inClass (topX 5) 0
theorem txt_fits3 {x y z : Str} (h : x.length ≤ 2100) (k : y.length ≤ 1921) (l : z.length ≤ 100) : (x ++ y ++ z).length ≤ sizeLine := by
  have e : (x ++ y ++ z).length = x.length + y.length + z.length := by rw [Str.length_append, Str.length_append]
  rw [e, sizeLine_eq]
  omega
def HasE2 (P : Program) (w : PySem.World) (K : PySem.W.Frag) (mg : Str → Option Value) (base : Heap) (x : Str) (C : Addr) (k : Nat) (f g : Str) : Prop :=
  ∃ fI fd, FnOk P w K mg base CX0 k fI fd ["self", f, g] (spX2 C f g intFits) ∧ mg x = some (.ref C) ∧ OexC K C ∧ PySem.W.findIn K (.ref C) "__init__" = some (some (.ref fI)) ∧ PySem.W.typeIn K (.ref fI) = some (.type "function") ∧ Binds K fd ["self", f, g] []
section
variable {X : Cx} {T : List (Addr × Str)} {W : WX} {χ : XD} {δ : Dn} {w : Wp} {pos : Pos}
theorem psd_raiseH2 {x f g : Str} {C : Addr} {k : Nat} {e1 e2 : Expr} {p cpos : Pos} {Fi : DL.Fin} (hc : X.calm = true) (tk : Takes X W) (G : HasE2 X.prog X.w X.K X.mg X.base x C k f g) (hr : Room (k + 1) X.A)
    (h : PD X T W χ e1 δ w fun d w1 => PD X T W χ e2 δ w1 fun d2 w2 => ∃ i j : Int, d = I i ∧ d2 = I j ∧ i.natAbs.log2 < 1920 ∧ j.natAbs.log2 < 1920 ∧ χ C [g, f] [I j, I i] w2) (hg : Gl X x := by rfl) (hdb : (x == ("__debug__" : Str)) = false := by decide)
    (he1 : starEach [e1, e2] X.env = (false, eval e1 X.env) :: starEach [e2] X.env := by rfl) (he2 : starEach [e2] X.env = (false, eval e2 X.env) :: starEach [] X.env := by rfl) (hpl : (backTo cpos (starEach [e2] X.env)).any (·.1) = false := by rfl) : PSD X T W χ (.Raise (some (.Call (.Name x p) [e1, e2] [] cpos)) none pos) δ w Fi := by
  obtain ⟨fI, fd, h1, h2, h3, h4, h5, h6⟩ := G
  refine psd_raise2 (CX := CX0) hc tk h3 h4 h5 h1 hr h6 h2 (h.imp fun d w1 q => q.imp ?_) hg hdb he1 he2 hpl
  rintro d2 w2 ⟨i, j, rfl, rfl, hi, hj, k⟩
  exact ⟨.int i, .int j, rfl, rfl, ⟨i, rfl, hi⟩, ⟨j, rfl, hj⟩, k⟩
end
section
variable {P : Program} {w : PySem.World} {K : PySem.W.Frag} {mg : Str → Option Value} {base : Heap}
theorem scSM : ScopeS ["self", "first", "second"] ["self", "first", "second"] (defScope sSizeMis) := by
  refine ⟨rfl, rfl, rfl, by decide +kernel, rfl, by decide +kernel, by decide +kernel, ?_, by decide +kernel, by decide +kernel⟩
  intro x h
  have key : ∀ y ∈ (defScope sSizeMis).names, (y.2 = .cell ∨ y.2 = .free) → y.1 = "__class__" := by decide +kernel
  rcases h with h | h
  · exact key (x, _) (PySem.mem_of_lookup h) (.inl rfl)
  · exact key (x, _) (PySem.mem_of_lookup h) (.inr rfl)
theorem ok_sm {f C cc cda : Addr} {fd : FuncData} (G : SupTxt P K mg C f cc cda "SizeMismatch.__init__" sSizeMis fd) (TC : OexC K C) (no : PySem.W.findIn K (.ref C) "first" = some none) (no2 : PySem.W.findIn K (.ref C) "second" = some none) : FnOk P w K mg base CX0 1 f fd ["self", "first", "second"] (spX2 C "first" "second" intFits) := by
  refine fnSup G TC scSM rfl rfl rfl rfl (fun vs H Q E h => ?_) (fun _ => rfl) (fun _ => rfl) (fun _ => rfl) (fun _ => rfl) (fun A outer s H vs Q E hr h => ?_)
  · obtain ⟨a, v, u, rfl, _⟩ := h
    rfl
  · obtain ⟨a, v, u, rfl, ha, ⟨i, rfl, hi⟩, ⟨j, rfl, hj⟩, q⟩ := h
    refine ⟨_, _, a, pa_cons (pe_joined (.cons pe_str (.cons (pe_fmt (pv 1)) (.cons pe_str (.cons (pe_fmt (pv 2)) (.cons pe_str .nil)))))) pa_nil, pss_cons (ps_ost (pv 0) (pv 1)) (pss_one (ps_ost (pv 0) (pv 2))), rfl, ha, ?_⟩
    have l0 : (Str.ofString (toString i)).length ≤ 1921 := by
      have e := int_text_length_le (k := 1920) (by decide) hi
      rw [PySem.ofString_length]
      omega
    have l1 : (Str.ofString (toString j)).length ≤ 1921 := by
      have e := int_text_length_le (k := 1920) (by decide) hj
      rw [PySem.ofString_length]
      omega
    have c1 : (Str.empty ++ ("the sizes " : Str)).length ≤ 50 := by decide +kernel
    have c2 : (" and " : Str).length ≤ 50 := by decide +kernel
    have c3 : (" differ" : Str).length ≤ 50 := by decide +kernel
    have big : sizeLine ≥ 5000 := by decide
    refine ⟨_, rfl, by decide +kernel, ?_⟩
    refine ⟨_, rfl, .inr ⟨i, rfl, hi, ?_⟩⟩
    refine ⟨_, rfl, by rw [Str.length_append]; omega, ?_⟩
    refine ⟨_, rfl, by rw [Str.length_append, Str.length_append]; omega, ?_⟩
    refine ⟨_, rfl, .inr ⟨j, rfl, hj, ?_⟩⟩
    refine ⟨_, rfl, by rw [Str.length_append, Str.length_append, Str.length_append]; omega, ?_⟩
    refine ⟨_, rfl, by rw [Str.length_append, Str.length_append, Str.length_append, Str.length_append]; omega, ?_⟩
    refine ⟨by show 1 ≤ 1000; decide, ha, ?_⟩
    refine ⟨_, rfl, _, rfl, a, C, rfl, TC, no, .inl ⟨ha, fun dx nd nda => ?_⟩⟩
    refine ⟨_, rfl, _, rfl, a, C, rfl, TC, no2, .inr ⟨dx, _, upd_same, by rw [upd_ne nda, upd_same], by show 1 ≤ 900; decide, ?_⟩⟩
    have e : upd (upd (upd H dx (exd dx [("first", V.int i)])) a (exo a C (some dx))) dx (exd dx [("second", V.int j), ("first", V.int i)]) = upd (upd H dx (exd dx [("second", V.int j), ("first", V.int i)])) a (exo a C (some dx)) := by
      funext b
      by_cases h1 : b = dx
      · subst h1
        rw [upd_same, upd_ne nda, upd_same]
      · rw [upd_ne h1]
        by_cases h2 : b = a
        · subst h2
          rw [upd_same, upd_same]
        · rw [upd_ne h2, upd_ne h2, upd_ne h1, upd_ne h1]
    show Q .non (upd (upd (upd H dx (exd dx [("first", V.int i)])) a (exo a C (some dx))) dx (exd dx [("second", V.int j), ("first", V.int i)]))
    rw [e]
    exact q dx nd nda
end
end Tw

set_option Elab.async false
set_option linter.all false
set_option maxRecDepth 100000
set_option maxHeartbeats 1000000
namespace Tw
open PySem PySem.Spec PyProof.Rows L2 LamX DL
abbrev sM (i : Nat) : Stmt := inClass (top 10) i
abbrev sMarks : Stmt := sM 5
abbrev sCells : Stmt := sM 6
abbrev sCell : Stmt := sM 7
abbrev sTog : Stmt := sM 8
/-- what of the class stands -/
structure SplC (K : PySem.W.Frag) (C : Addr) : Prop where
  cl : Cls K C
  nS : NoAttr K C "size"
  nM : NoAttr K C "_marks"
def nl (l : List Nat) : List D := l.map fun (k : Nat) => I (k : Int)
theorem nl_len (l : List Nat) : (nl l).length = l.length := List.length_map _
theorem nl_at {l : List Nat} {i m : Nat} (h : l[i]? = some m) : (nl l)[i]? = some (I (m : Int)) := by
  unfold nl
  rw [List.getElem?_map, h]
  rfl
def spMarks (C : Addr) : SpD := fun ds w κ χ => ∃ lo, ds = [spl C lo] ∧ ∀ a, w a = none → κ (R a) (wu w a (.lst (nl lo)))
def markAt (lo : List Nat) (c : Int) : Nat := lo.getD c.toNat 0
def spCell (C CU : Addr) : SpD := fun ds w κ χ => ∃ lo c, ds = [spl C lo, I c] ∧ lo.length ≤ 12 ∧ (InR c lo.length → ∀ a, w a = none → κ (R a) (wu w a (.lst (nl (cellN lo (markAt lo c)))))) ∧ (¬ InR c lo.length → c.natAbs.log2 < 1920 ∧ χ CU ["case"] [I c] w)
def spTog (C CU : Addr) : SpD := fun ds w κ χ => ∃ lo c d, ds = [spl C lo, I c, I d] ∧ lo.length ≤ 12 ∧ (InR c lo.length → InR d lo.length → κ (B (decide (markAt lo c = markAt lo d))) w) ∧
  (¬ InR c lo.length → c.natAbs.log2 < 1920 ∧ χ CU ["case"] [I c] w) ∧ (InR c lo.length → ¬ InR d lo.length → d.natAbs.log2 < 1920 ∧ χ CU ["case"] [I d] w)
theorem fld_size {C : Addr} {lo : List Nat} {w : Wp} : FldD C "size" (spl C lo) w (I (lo.length : Int)) := ⟨rfl, rfl⟩
theorem fld_marks {C : Addr} {lo : List Nat} {w : Wp} : FldD C "_marks" (spl C lo) w (nats lo) := ⟨rfl, rfl⟩
theorem ins_spl {C : Addr} {lo : List Nat} {w : Wp} {m : Str} (h : m ∉ (["size", "_marks"] : List Str)) : InsD C m (spl C lo) w := ⟨rfl, h⟩
theorem inR_nat {c : Int} {n : Nat} (h : InR c n) : ∃ i : Nat, c = i ∧ i < n := ⟨c.toNat, by obtain ⟨h1, h2⟩ := h; omega, by obtain ⟨h1, h2⟩ := h; omega⟩
theorem mark_at {lo : List Nat} {i : Nat} (h : i < lo.length) : lo[i]? = some (markAt lo i) := by
  unfold markAt
  rw [Int.toNat_natCast, List.getD_eq_getElem?_getD, List.getElem?_eq_getElem h]
  rfl
section
variable {P : Program} {w : PySem.World} {K : PySem.W.Frag} {mg : Str → Option Value} {base : Heap} {T : List (Addr × Str)} {C CU : Addr}
theorem scMarks : FnScope ["self"] ["self"] (defScope sMarks) := ⟨rfl, rfl, rfl, by decide +kernel, rfl, by decide +kernel, by decide +kernel⟩
theorem ok_marks {f : Addr} {fd : FuncData} (G : Fun K "marks" "Split.marks" sMarks f fd) (hm : Nm2 mg) (c : SplC K C) : FnOk P w K mg base CX0 1 f fd ["self"] (spOf K T (spMarks C)) := by
  refine fnD G scMarks (fun ds w κ χ h => ?_) (fun cdv A outer s H E ds w0 κ χ hr h => ?_)
  · obtain ⟨lo, rfl, _⟩ := h
    rfl
  obtain ⟨lo, rfl, k⟩ := h
  refine pssd_one (psd_ret ?_)
  refine pd_callTy call_list_of rfl hm.list bt_list ?_
  refine pad_cons ?_
  refine pd_fld c.cl c.nM ?_
  refine pd_var (i := 0) rfl rfl ?_
  refine ⟨_, fld_marks, ?_⟩
  refine pad_nil ?_
  exact va_listO k
theorem scCell : FnScope ["self", "case", "other", "mark"] ["self", "case"] (defScope sCell) := ⟨rfl, rfl, rfl, by decide +kernel, rfl, by decide +kernel, by decide +kernel⟩
theorem ok_cell {f : Addr} {fd : FuncData} (G : Fun K "cell" "Split.cell" sCell f fd) (hm : Nm2 mg) (c : SplC K C) (hC : HasF P w K mg base T (L2.CX P w) "check_case" 3 ["case", "size"] (spCheck CU)) : FnOk P w K mg base (L2.CX P w) 4 f fd ["self", "case"] (spOf K T (spCell C CU)) := by
  refine fnX G scCell (fun ds w κ χ h => ?_) (fun cdv A outer s H E ds w0 κ χ hr h => ?_)
  · obtain ⟨lo, c, rfl, _⟩ := h
    rfl
  obtain ⟨lo, cs, rfl, hz, k1, k2⟩ := h
  have nd := scCell.nd
  refine pssd_cons (psd_expr ?_)
  refine pd_has hC hr passX ?_
  refine pad_cons ?_
  refine pd_var (i := 1) rfl rfl ?_
  refine pad_cons ?_
  refine pd_fld c.cl c.nS ?_
  refine pd_var (i := 0) rfl rfl ?_
  refine ⟨_, fld_size, ?_⟩
  refine pad_nil ?_
  refine ⟨cs, _, rfl, fun hin => ?_, k2⟩
  obtain ⟨i0, rfl, hi0⟩ := inR_nat hin
  have k := k1 hin
  refine pssd_one (psd_ret ?_)
  refine pd_lcO (own := [("other", 2), ("mark", 3)]) (is := [2, 3]) rfl nd (blkOk_by rfl) (by decide) ?_
  refine it_enum hm.enumerate ?_
  refine pd_fld c.cl c.nM ?_
  refine pd_var (i := 0) rfl rfl ?_
  refine ⟨_, fld_marks, ?_⟩
  refine ⟨_, rfl, ?_⟩
  have el : (pairs (nl lo)).length = lo.length := by rw [DL.pairs_len, nl_len]
  refine lcd_ix (fun o => decide (lo[o]? = some (markAt lo i0))) (fun o => I (o : Int)) (by show (pairs (nl lo)).length < _; rw [el]; exact small1000 (by omega)) (fun i d hd => ?_) ?_
  · obtain ⟨e, he, rfl⟩ := pairs_at (show (pairs (nl lo))[i]? = some d from hd)
    have hi : i < lo.length := by
      have z := (List.getElem?_eq_some_iff.mp hd).1
      exact el ▸ z
    rw [nl_at (mark_at hi)] at he
    cases he
    intro s H0 C1 cl1 fp1
    refine pgl_two rfl ?_
    refine pgl_name nd rfl ?_
    refine pgl_name nd rfl ?_
    intro s H0 C1 cl1 fp1
    refine ptsd_one ?_
    refine ptd_cmp op_eq ?_
    refine pd_var (i := 3) rfl rfl ?_
    refine pd_ix ix_list ?_
    refine pd_fld c.cl c.nM ?_
    refine pd_var (i := 0) rfl rfl ?_
    refine ⟨_, fld_marks, ?_⟩
    refine pd_var (i := 1) rfl rfl ?_
    refine vr_ixL (nl_at (mark_at hi0)) ?_
    refine vr_eq rfl ⟨_, rfl, ?_⟩
    have e2 : decide (lo[i]? = some (markAt lo i0)) = decide (V.int (markAt lo i : Int) = V.int (markAt lo i0 : Int)) := by
      rw [mark_at hi]
      refine decide_eq_decide.mpr ⟨fun z => ?_, fun z => ?_⟩
      · rw [Option.some.inj z]
      · have z2 := V.int.inj z
        congr 1
        omega
    refine ite2 (fun c1 => ?_) (fun c1 => ?_)
    · intro s H0 C1 cl1 fp1
      refine pd_var (i := 2) rfl rfl ?_
      exact ⟨e2.trans c1, rfl, rfl⟩
    · exact ⟨e2.trans (Bool.eq_false_iff.mpr c1), rfl⟩
  · show ∀ a, w0 a = none → κ (R a) (wu w0 a (.lst (((List.range (pairs (nl lo)).length).filter _).map _)))
    rw [el]
    exact k
end
end Tw

set_option Elab.async false
set_option linter.all false
set_option maxRecDepth 100000
set_option maxHeartbeats 1000000
namespace DL
open PySem PySem.Spec PyProof.Rows L2 LamX
section
variable {X : Cx} {T : List (Addr × Str)} {W : WX} {χ : XD} {δ : Dn} {w : Wp} {pos : Pos}
/-- an owned list whose first item is an owned list: both stand from now on -/
theorem pd_frz2 {e : Expr} {κ : D → Wp → Prop} (h : PD X T W χ e δ w fun d w1 => ∃ a a1 es ds, d = R a ∧ w1 a = some (.lst (R a1 :: ds)) ∧ w1 a1 = some (.lst es) ∧ a ≠ a1 ∧ κ (.lst (.lst es :: ds)) (wd (wd w1 a1) a)) : PD X T W χ e δ w κ := fun F σ S H Q hE hW hX hK =>
  h F σ S H Q hE hW hX fun d w1 v S1 H1 k s1 W1 r => by
    obtain ⟨a, a1, es, ds, rfl, hw, hw1, ne, k⟩ := k
    obtain ⟨o, e1, r1, W2⟩ := W1.freeze hw1
    obtain ⟨ys, rfl, r1⟩ := r1
    have hw2 : (wd w1 a1) a = some (.lst (R a1 :: ds)) := by
      show (if a = a1 then none else w1 a) = _
      rw [if_neg ne]
      exact hw
    obtain ⟨o, e2, r2, W3⟩ := W2.freeze hw2
    obtain ⟨xs, rfl, y, zs, rfl, r2, r3⟩ := r2
    have s2 : Same S1 (upd S1 a1 (.lst ys)) := same_upd e1
    have r2' : y = .ref a1 := r2
    subst r2'
    have s3 : Same (upd S1 a1 (.lst ys)) (upd (upd S1 a1 (.lst ys)) a (.lst (.ref a1 :: zs))) := same_upd e2
    have r' : v = .ref a := r
    exact hK _ _ v _ H1 k (s1.trans (s2.trans s3)) W3 ⟨a, _, r', upd_same, .ref a1, zs, rfl, ⟨a1, ys, rfl, s3 _ _ upd_same, (r1.mono s2).mono s3⟩, r3.mono s3⟩
theorem World.drop {K : PySem.W.Frag} {S F H : Hp} (W : World K T S w F H) (a : Addr) : World K T S (wd w a) F H := by
  refine ⟨W.same, W.notbl, fun b k q => ?_, W.frm, W.tabs, W.nf⟩
  have q' : (if b = a then none else w b) = some k := q
  by_cases e : b = a
  · rw [if_pos e] at q'
    cases q'
  · rw [if_neg e] at q'
    exact W.own b k q'
/-- C(e, ..); what is let out comes without the unfinished instance -/
theorem pd_makeX {CX : CXT} {k : Nat} {f C : Addr} {fd : FuncData} {ps : List Str} {sp : SpD} {x : Str} {p : Pos} {e : Expr} {es : List Expr} {κ : D → Wp → Prop} (M : Mk X.K C f) (G : FnOk X.prog X.w X.K X.mg X.base CX k f fd ps (spOf X.K T sp)) (hr : Room (k + 1) X.A) (hm : X.mg x = some (.ref C)) (hb : Binds X.K fd ps []) (hx : ∀ σ, PassesAt CX X σ (WE W σ))
    (h : PAD X T W χ (e :: es) δ w fun ds w1 => ∀ a dx, w1 a = none → sp (R a :: ds) (wu w1 a (.ins C dx [] [])) (fun d w2 => d = N ∧ ∃ ns es, w2 a = some (.ins C dx ns es) ∧ κ (.obj C ns es) (wd w2 a)) (fun C ns fs w2 => χ C ns fs (wd w2 a)))
    (hg : Gl X x := by rfl) (hdb : (x == ("__debug__" : Str)) = false := by decide) (he : starEach (e :: es) X.env = (false, eval e X.env) :: starEach es X.env := by rfl) (hpl : (backTo pos (starEach es X.env)).any (·.1) = false := by rfl) :
    PD X T W χ (.Call (.Name x p) (e :: es) [] pos) δ w κ := fun F σ S H Q hE hW hX hK => wp_pe (pe_makeSD M G hr hg hm hb hx (pa_wp _) hdb he hpl) (by
  refine h F σ S H _ hE hW hX fun ds w1 vs S1 H1 k s1 W1 r => ?_
  intro a dx na ndx nad
  have W2 := (W1.junk (o := .own a) ndx).take (a := a) (h := .ins C dx [] []) (o := .ins C dx []) (by rw [upd_ne (Ne.symm nad)]; exact na) ⟨[], rfl, rfl, rfl⟩
  refine ⟨R a :: ds, _, F, S1, _, _, k a dx (W1.free na).2.1, ⟨_, vs, rfl, rfl, r⟩, W2, ?_, fun C ns fs w' d S' H' x s3 W3 xr => hX C ns fs _ d S' H' x (s1.trans s3) (W3.drop a) xr⟩
  rintro d w' v S' H' ⟨rfl, ns, es, ew, kk⟩ s2 W3 rv
  refine ⟨rv, ?_⟩
  obtain ⟨o, e1, r3, W4⟩ := W3.freeze ew
  obtain ⟨ys, rfl, hys, r4⟩ := r3
  have s3 : Same S' (upd S' a (.ins C dx ys)) := same_upd e1
  exact hK _ _ _ _ _ kk (s1.trans (s2.trans s3)) W4 ⟨a, dx, ys, rfl, upd_same, hys, r4.mono s3⟩)
end
end DL
namespace Tw
open PySem PySem.Spec PyProof.Rows L2 LamX DL
abbrev sInit : Stmt := sM 1
abbrev sEq : Stmt := sM 14
abbrev sNe : Stmt := sM 15
abbrev sLen : Stmt := sM 16
def isHead (lo : List Nat) (c : Nat) : Bool := decide (lo[c]? = some c)
def tails (lo : List Nat) (i : Nat) : List Nat := (List.range' 1 (i - 1)).filter (isHead lo)
theorem tails_succ {lo : List Nat} {i : Nat} (h : 0 < i) : tails lo (i + 1) = tails lo i ++ (if isHead lo i = true then [i] else []) := by
  obtain ⟨j, rfl⟩ : ∃ j, i = j + 1 := ⟨i - 1, by omega⟩
  unfold tails
  rw [Nat.add_sub_cancel, Nat.add_sub_cancel, List.range'_1_concat, List.filter_append]
  congr 1
  rw [Nat.add_comm 1 j]
  by_cases q : isHead lo (j + 1) = true
  · rw [if_pos q, List.filter_cons, if_pos q]
    rfl
  · rw [if_neg q, List.filter_cons, if_neg q]
    rfl
theorem heads_eq {lo : List Nat} (h : lo[0]? = some 0) : heads lo = 0 :: tails lo lo.length := by
  have hn : 0 < lo.length := (List.getElem?_eq_some_iff.mp h).1
  unfold heads tails
  obtain ⟨n, e⟩ : ∃ n, lo.length = n + 1 := ⟨lo.length - 1, by omega⟩
  rw [e, List.range_eq_range', List.range'_succ, List.filter_cons, if_pos (decide_eq_true h), Nat.add_sub_cancel]
  rfl
def spCells (C : Addr) : SpD := fun ds w κ χ => ∃ lo, ds = [spl C lo] ∧ lo[0]? = some 0 ∧ lo.length ≤ 12 ∧
  ∀ a a1, a ≠ a1 → w a = none → w a1 = none → κ (R a) (wu (wu w a1 (.lst (nl (cellN lo 0)))) a (.lst (R a1 :: (tails lo lo.length).map fun c => nats (cellN lo c))))
def spLen (C : Addr) : SpD := fun ds w κ χ => ∃ lo, ds = [spl C lo] ∧ lo[0]? = some 0 ∧ lo.length ≤ 12 ∧ κ (I ((heads lo).length : Int)) w
section
variable {P : Program} {w : PySem.World} {K : PySem.W.Frag} {mg : Str → Option Value} {base : Heap} {T : List (Addr × Str)} {C CU CB : Addr}
theorem scCells : FnScope ["self", "case", "mark"] ["self"] (defScope sCells) := ⟨rfl, rfl, rfl, by decide +kernel, rfl, by decide +kernel, by decide +kernel⟩
theorem ok_cells {f : Addr} {fd : FuncData} (G : Fun K "cells" "Split.cells" sCells f fd) (hm : Nm2 mg) (c : SplC K C) (hC : HasM P w K mg base T (L2.CX P w) C "cell" 4 ["self", "case"] (spCell C CU)) : FnOk P w K mg base CX0 5 f fd ["self"] (spOf K T (spCells C)) := by
  refine fnD G scCells (fun ds w κ χ h => ?_) (fun cdv A outer s H E ds w0 κ χ hr h => ?_)
  · obtain ⟨lo, rfl, _⟩ := h
    rfl
  obtain ⟨lo, rfl, h0, hz, k⟩ := h
  have nd := scCells.nd
  refine pssd_one (psd_ret ?_)
  refine pd_lcO (own := [("case", 1), ("mark", 2)]) (is := [1, 2]) rfl nd (blkOk_by rfl) (by decide) ?_
  refine it_enum hm.enumerate ?_
  refine pd_fld c.cl c.nM ?_
  refine pd_var (i := 0) rfl rfl ?_
  refine ⟨_, fld_marks, ?_⟩
  refine ⟨_, rfl, ?_⟩
  have el : (pairs (nl lo)).length = lo.length := by rw [DL.pairs_len, nl_len]
  refine ⟨by show (pairs (nl lo)).length < _; rw [el]; exact small1000 (by omega), fun i acc w' => (i = 0 ∧ acc = [] ∧ w' = w0) ∨ (0 < i ∧ ∃ a1, w0 a1 = none ∧ acc = R a1 :: (tails lo i).map (fun c => nats (cellN lo c)) ∧ w' = wu w0 a1 (.lst (nl (cellN lo 0)))), .inl ⟨rfl, rfl, rfl⟩, ?_, ?_⟩
  · intro i d acc w1 hd pv s H0 C1 cl1 fp1
    obtain ⟨e, he, rfl⟩ := pairs_at (show (pairs (nl lo))[i]? = some d from hd)
    have hi : i < lo.length := by
      have z := (List.getElem?_eq_some_iff.mp hd).1
      exact el ▸ z
    rw [nl_at (mark_at hi)] at he
    cases he
    refine pgl_two rfl ?_
    refine pgl_name nd rfl ?_
    refine pgl_name nd rfl ?_
    intro s H0 C1 cl1 fp1
    refine ptsd_one ?_
    refine ptd_cmp op_eq ?_
    refine pd_var (i := 1) rfl rfl ?_
    refine pd_var (i := 2) rfl rfl ?_
    refine vr_eq rfl ⟨_, rfl, ?_⟩
    have e2 : decide (V.int (i : Int) = V.int (markAt lo i : Int)) = isHead lo i := by
      unfold isHead
      rw [mark_at hi]
      refine decide_eq_decide.mpr ⟨fun z => ?_, fun z => ?_⟩
      · have z2 := V.int.inj z
        congr 1
        omega
      · rw [Option.some.inj z]
    rw [e2]
    have hin : InR (i : Int) (lo.length : Int) := ⟨by omega, by omega⟩
    refine ite2 (fun c1 => ?_) (fun c1 => ?_)
    · have em : markAt lo i = i := by
        have z := of_decide_eq_true c1
        rw [mark_at hi] at z
        exact Option.some.inj z
      intro s H0 C1 cl1 fp1
      rcases pv with ⟨rfl, rfl, rfl⟩ | ⟨hi0, a1, ha1, rfl, rfl⟩
      · refine pd_hasm c.cl hC hr (fun _ => passLf) ?_
        refine pd_var (i := 0) rfl rfl ?_
        refine ⟨ins_spl (by decide), ?_⟩
        refine pad_cons ?_
        refine pd_var (i := 1) rfl rfl ?_
        refine pad_nil ?_
        refine ⟨lo, _, rfl, hz, fun _ a ha => .inr ⟨by omega, a, ha, ?_, ?_⟩, fun q => absurd hin q⟩
        · rfl
        · rw [em]
      · refine pd_frz ?_
        refine pd_hasm c.cl hC hr (fun _ => passLf) ?_
        refine pd_var (i := 0) rfl rfl ?_
        refine ⟨ins_spl (by decide), ?_⟩
        refine pad_cons ?_
        refine pd_var (i := 1) rfl rfl ?_
        refine pad_nil ?_
        refine ⟨lo, _, rfl, hz, fun _ a ha => ⟨a, _, rfl, wu_same, .inr ⟨by omega, a1, ha1, ?_, wd_wu ha⟩⟩, fun q => absurd hin q⟩
        rw [em, tails_succ hi0, if_pos c1, List.map_append]
        rfl
    · rcases pv with ⟨rfl, rfl, rfl⟩ | ⟨hi0, a1, ha1, rfl, rfl⟩
      · exact absurd (decide_eq_true h0) c1
      · refine .inr ⟨by omega, a1, ha1, ?_, rfl⟩
        rw [tails_succ hi0, if_neg c1, List.append_nil]
  · intro acc w' pv a ha
    rw [show (pairs (List.map (fun (k : Nat) => I (k : Int)) lo)).length = lo.length from el] at pv
    have hn : 0 < lo.length := (List.getElem?_eq_some_iff.mp h0).1
    rcases pv with ⟨z, _⟩ | ⟨_, a1, ha1, rfl, rfl⟩
    · omega
    · have ne : a ≠ a1 := fun z => by
        rw [z, wu_same] at ha
        cases ha
      rw [wu_ne ne] at ha
      exact k a a1 ne ha ha1
theorem scLen : FnScope ["self"] ["self"] (defScope sLen) := ⟨rfl, rfl, rfl, by decide +kernel, rfl, by decide +kernel, by decide +kernel⟩
theorem wd_cells {w : Wp} {a a1 : Addr} {h k : HD} (ne : a ≠ a1) (ha : w a = none) (ha1 : w a1 = none) : wd (wd (wu (wu w a1 h) a k) a1) a = w := by
  funext b
  by_cases h1 : b = a
  · rw [h1, ha]
    exact if_pos rfl
  · show (if b = a then none else (if b = a1 then none else wu (wu w a1 h) a k b)) = w b
    rw [if_neg h1]
    by_cases h2 : b = a1
    · rw [if_pos h2, h2, ha1]
    · rw [if_neg h2, wu_ne h1, wu_ne h2]
theorem ok_len {f : Addr} {fd : FuncData} (G : Fun K "__len__" "Split.__len__" sLen f fd) (hm : Nm2 mg) (c : SplC K C) (hC : HasM P w K mg base T CX0 C "cells" 5 ["self"] (spCells C)) : FnOk P w K mg base CX0 6 f fd ["self"] (spOf K T (spLen C)) := by
  refine fnD G scLen (fun ds w κ χ h => ?_) (fun cdv A outer s H E ds w0 κ χ hr h => ?_)
  · obtain ⟨lo, rfl, _⟩ := h
    rfl
  obtain ⟨lo, rfl, h0, hz, k⟩ := h
  refine pssd_one (psd_ret ?_)
  refine pd_callB call_len_seq rfl hm.len PySem.boot_len ?_
  refine pad_cons ?_
  refine pd_frz2 ?_
  refine pd_hasm0 c.cl hC hr (fun _ => pass0At) ?_
  refine pd_var (i := 0) rfl rfl ?_
  refine ⟨ins_spl (by decide), lo, rfl, h0, hz, fun a a1 ne ha ha1 => ⟨a, a1, nl (cellN lo 0), _, rfl, wu_same, ?_, ne, ?_⟩⟩
  · rw [wu_ne ne.symm]
    exact wu_same
  rw [wd_cells ne ha ha1]
  refine pad_nil ?_
  refine va_len ?_
  rw [heads_eq h0] at k
  have e : (D.lst (nl (cellN lo 0)) :: (tails lo lo.length).map fun c => nats (cellN lo c)).length = (0 :: tails lo lo.length).length := by simp
  rw [e]
  exact k
end
end Tw

set_option Elab.async false
set_option linter.all false
set_option maxRecDepth 100000
set_option maxHeartbeats 1000000
namespace Tw
open PySem PySem.Spec PyProof.Rows L2 LamX DL
def four (n : String) : Prop := n = "list" ∨ n = "tuple" ∨ n = "int" ∨ n = "str"
structure SplQ (K : PySem.W.Frag) (C : Addr) : Prop where
  ci : ClsI K C
  nfC : PySem.W.notFirst K C (.ref C) = true
  kC : PySem.W.kitOne K (.ref C) (.ref C) = some true
  nf : ∀ n, four n → PySem.W.notFirst K C (.type n) = true
  kt : ∀ n, four n → PySem.W.kitOne K (.type n) (.ref C) = some false
def casts (l : List Nat) : List Int := l.map fun (k : Nat) => (k : Int)
theorem nl_casts (l : List Nat) : nl l = (casts l).map I := by
  unfold nl casts
  rw [List.map_map]
  rfl
theorem casts_inj {l m : List Nat} : casts l = casts m ↔ l = m := by
  refine ⟨fun h => ?_, fun h => by rw [h]⟩
  have h2 := congrArg (List.map Int.toNat) h
  unfold casts at h2
  rw [List.map_map, List.map_map] at h2
  have e : (Int.toNat ∘ fun (k : Nat) => (k : Int)) = id := by
    funext k
    simp
  rw [e, List.map_id, List.map_id] at h2
  exact h2
theorem eqv_all_ints : ∀ ns ms : List Int, PyData.eqvAll (ns.map PyData.int) (ms.map PyData.int) = decide (ns = ms)
  | [], [] => rfl
  | [], m :: ms => rfl
  | n :: ns, [] => rfl
  | n :: ns, m :: ms => by
    show (PyData.eqv (.int n) (.int m) && PyData.eqvAll (ns.map PyData.int) (ms.map PyData.int)) = _
    rw [eqv_all_ints ns ms]
    have e : PyData.eqv (.int n) (.int m) = decide (n = m) := rfl
    rw [e]
    by_cases h1 : n = m
    · by_cases h2 : ns = ms
      · simp [h1, h2]
      · simp [h1, h2]
    · simp [h1]
theorem eqv_ints (ns ms : List Int) : PyData.eqv (.list (ns.map PyData.int)) (.list (ms.map PyData.int)) = decide (ns = ms) := eqv_all_ints ns ms
theorem py_nats (l : List Nat) : pyD (nats l) = some (.list ((casts l).map PyData.int)) := by
  show (pyDs (nl l)).map PyData.list = _
  rw [nl_casts, py_ints]
  rfl
def spEq (C : Addr) : SpD := fun ds w κ χ => ∃ lo e, ds = [spl C lo, e] ∧ ((∃ lo2, e = spl C lo2 ∧ κ (B (decide (lo = lo2))) w) ∨ (∃ n, tyD e = some n ∧ four n ∧ κ (B false) w))
def spNe (C : Addr) : SpD := fun ds w κ χ => ∃ lo e, ds = [spl C lo, e] ∧ ((∃ lo2, e = spl C lo2 ∧ κ (B (!decide (lo = lo2))) w) ∨ (∃ n, tyD e = some n ∧ four n ∧ κ (B true) w))
def spPlaces : SpD := fun ds w κ χ => ∃ (d : D) (ms : List Int), ds = [d] ∧ Lk w d (ms.map I) ∧ ms.length ≤ 12 ∧ κ (nats (lowN ms)) w
def spInit (C CB : Addr) : SpD := fun ds w κ χ => ∃ (a dx : Addr) (d : D) (ms : List Int), ds = [R a, d] ∧ w a = some (.ins C dx [] []) ∧ Lk w d (ms.map I) ∧ ms.length ≤ 1000 ∧
  ((1 ≤ ms.length ∧ ms.length ≤ 12) → κ N (wu w a (.ins C dx ["size", "_marks"] [I (ms.length : Int), nats (lowN ms)]))) ∧ (¬ (1 ≤ ms.length ∧ ms.length ≤ 12) → χ CB ["size"] [I (ms.length : Int)] w)
section
variable {P : Program} {w : PySem.World} {K : PySem.W.Frag} {mg : Str → Option Value} {base : Heap} {T : List (Addr × Str)} {C CU CB : Addr}
theorem scEq : FnScope ["self", "other"] ["self", "other"] (defScope sEq) := ⟨rfl, rfl, rfl, by decide +kernel, rfl, by decide +kernel, by decide +kernel⟩
theorem ok_eq {f : Addr} {fd : FuncData} (G : Fun K "__eq__" "Split.__eq__" sEq f fd) (hm : Nm2 mg) (c : SplC K C) (q : SplQ K C) (hS : mg "Split" = some (.ref C)) : FnOk P w K mg base CX0 1 f fd ["self", "other"] (spOf K T (spEq C)) := by
  refine fnD G scEq (fun ds w κ χ h => ?_) (fun cdv A outer s H E ds w0 κ χ hr h => ?_)
  · obtain ⟨lo, e, rfl, _⟩ := h
    rfl
  obtain ⟨lo, e, rfl, h⟩ := h
  have hu := hr.units
  refine pssd_one (psd_ret ?_)
  refine pd_and ?_
  refine pd_callB call_isi rfl hm.isinstance PyProof.Rows.boot_isinstance ?_
  refine pad_cons ?_
  refine pd_var (i := 1) rfl rfl ?_
  refine pad_cons ?_
  refine pd_glob (v := .ref C) hS rfl ?_
  refine pad_nil ?_
  rcases h with ⟨lo2, rfl, k⟩ | ⟨n, hn, h4, k⟩
  · refine va_isC (t := .ref C) (b := true) (.inr ⟨C, _, _, rfl, q.ci, rfl⟩) q.kC ?_
    refine ⟨_, rfl, ?_⟩
    refine iteT ?_
    refine pd_one ?_
    refine pd_cmp (op_eqD hu) ?_
    refine pd_fld c.cl c.nM ?_
    refine pd_var (i := 0) rfl rfl ?_
    refine ⟨_, fld_marks, ?_⟩
    refine pd_fld c.cl c.nM ?_
    refine pd_var (i := 1) rfl rfl ?_
    refine ⟨_, fld_marks, ?_⟩
    refine vr_eqD (py_nats lo) (py_nats lo2) (shaped_ints _) (shaped_ints _) ?_
    rw [eqv_ints, decide_eq_decide.mpr casts_inj]
    exact k
  · refine va_isC (t := .type n) (b := false) (.inl ⟨n, hn, rfl⟩) (q.kt n h4) ?_
    refine ⟨_, rfl, ?_⟩
    refine iteF ?_
    exact k
theorem scNe : FnScope ["self", "other"] ["self", "other"] (defScope sNe) := ⟨rfl, rfl, rfl, by decide +kernel, rfl, by decide +kernel, by decide +kernel⟩
theorem ok_ne {f : Addr} {fd : FuncData} (G : Fun K "__ne__" "Split.__ne__" sNe f fd) (q : SplQ K C) (hE : HasM P w K mg base T CX0 C "__eq__" 1 ["self", "other"] (spEq C)) : FnOk P w K mg base CX0 2 f fd ["self", "other"] (spOf K T (spNe C)) := by
  refine fnD G scNe (fun ds w κ χ h => ?_) (fun cdv A outer s H E ds w0 κ χ hr h => ?_)
  · obtain ⟨lo, e, rfl, _⟩ := h
    rfl
  obtain ⟨lo, e, rfl, h⟩ := h
  obtain ⟨fE, fdE, h1, h2, h3⟩ := hE
  refine pssd_one (psd_ret ?_)
  refine pd_not ?_
  refine pd_cmp (op_own (op := .Eq) (fun _ _ => rfl) h1 hr h2.at_ h2.fn h3) ?_
  refine pd_var (i := 0) rfl rfl ?_
  refine pd_var (i := 1) rfl rfl ?_
  rcases h with ⟨lo2, rfl, k⟩ | ⟨n, hn, h4, k⟩
  · refine vr_own (t := .ref C) ⟨_, _, rfl⟩ (.inr ⟨C, _, _, rfl, q.ci, rfl⟩) q.nfC ?_
    exact ⟨lo, _, rfl, .inl ⟨lo2, rfl, _, rfl, _, rfl, k⟩⟩
  · refine vr_own (t := .type n) ⟨_, _, rfl⟩ (.inl ⟨n, hn, rfl⟩) (q.nf n h4) ?_
    exact ⟨lo, _, rfl, .inr ⟨n, hn, h4, _, rfl, _, rfl, k⟩⟩
theorem scInit : FnScope ["self", "marks"] ["self", "marks"] (defScope sInit) := ⟨rfl, rfl, rfl, by decide +kernel, rfl, by decide +kernel, by decide +kernel⟩
theorem ok_init {f : Addr} {fd : FuncData} (G : Fun K "__init__" "Split.__init__" sInit f fd) (hm : Nm2 mg) (c : SplC K C) (hS : HasF P w K mg base T (L2.CX P w) "check_size" 3 ["size"] (spSize CB)) (hF : HasF P w K mg base T CX0 "first_places" 3 ["items"] spPlaces) :
    FnOk P w K mg base (L2.CX P w) 4 f fd ["self", "marks"] (spOf K T (spInit C CB)) := by
  refine fnX G scInit (fun ds w κ χ h => ?_) (fun cdv A outer s H E ds w0 κ χ hr h => ?_)
  · obtain ⟨a, dx, d, ms, rfl, _⟩ := h
    rfl
  obtain ⟨a, dx, d, ms, rfl, ha, hl, hz, k1, k2⟩ := h
  have hl2 : ∀ h : HD, Lk (wu w0 a h) d (ms.map I) := fun h => by
    rcases hl with rfl | ⟨b, rfl, hb⟩
    · exact .inl rfl
    · refine .inr ⟨b, rfl, ?_⟩
      rw [wu_ne (fun z => by rw [z, ha] at hb; cases hb)]
      exact hb
  refine pssd_cons (psd_expr ?_)
  refine pd_has hS hr passX ?_
  refine pad_cons ?_
  refine pd_callB call_len_seq rfl hm.len PySem.boot_len ?_
  refine pad_cons ?_
  refine pd_var (i := 1) rfl rfl ?_
  refine pad_nil ?_
  refine va_lenK hl ?_
  rw [List.length_map]
  refine pad_nil ?_
  refine ⟨_, rfl, fun hin => ?_, fun hout => ?_⟩
  case refine_2 =>
    refine ⟨log_of (Nat.lt_of_lt_of_le (by omega : _ < 2000) (by decide)), k2 fun z => hout ⟨by omega, by omega⟩⟩
  refine pssd_cons (psd_fldNew c.cl c.nS ?_)
  refine pd_callB call_len_seq rfl hm.len PySem.boot_len ?_
  refine pad_cons ?_
  refine pd_var (i := 1) rfl rfl ?_
  refine pad_nil ?_
  refine va_lenK hl ?_
  rw [List.length_map]
  refine pd_var (i := 0) rfl rfl ?_
  refine ⟨a, dx, _, _, rfl, ha, by decide, by decide, ?_⟩
  refine pssd_one (psd_fldNew c.cl c.nM ?_)
  refine pd_has hF (hr.mono (by decide)) (fun _ => pass0At) ?_
  refine pad_cons ?_
  refine pd_var (i := 1) rfl rfl ?_
  refine pad_nil ?_
  refine ⟨d, ms, rfl, hl2 _, by omega, ?_⟩
  refine pd_var (i := 0) rfl rfl ?_
  refine ⟨a, dx, _, _, rfl, wu_same, by decide, by decide, ?_⟩
  rw [wu_wu]
  exact k1 ⟨by omega, by omega⟩
end
end Tw

set_option Elab.async false
set_option linter.all false
set_option maxRecDepth 100000
set_option maxHeartbeats 2000000
namespace DL
open PySem PySem.Spec PyProof.Rows L2 LamX
section
variable {X : Cx} {T : List (Addr × Str)} {W : WX} {χ : XD} {δ : Dn} {w : Wp} {pos : Pos}
/-- an owned cell is forgotten -/
theorem pssd_drop {sts : List Stmt} {C : DL.Fin} (a : Addr) (h : PSsD X T W χ sts δ (wd w a) C) : PSsD X T W χ sts δ w C := fun F σ S H E hE hW hX hK => h F σ S H E hE (hW.drop a) hX hK
theorem pd_drop {e : Expr} {κ : D → Wp → Prop} (h : PD X T W χ e δ w fun d w' => ∃ a, κ d (wd w' a)) : PD X T W χ e δ w κ := fun F σ S H Q hE hW hX hK => h F σ S H Q hE hW hX fun d w' v S' H' ⟨a, k⟩ s1 W1 r => hK d _ v S' H' k s1 (W1.drop a) r
end
end DL
namespace DL
open PySem PySem.Spec PyProof.Rows L2 LamX
section
variable {X : Cx} {T : List (Addr × Str)} {W : WX} {χ : XD} {δ : Dn} {w : Wp} {pos : Pos}
theorem rg_ups {K : PySem.W.Frag} {S : Hp} (n : Nat) : RepL K S (ups n) (rgV 0 n) := by
  have e : rgV 0 (n : Int) = (List.range n).map fun (k : Nat) => V.int (k : Int) := by
    unfold rgV
    rw [Int.sub_zero, Int.toNat_natCast]
    refine List.map_congr_left fun k _ => ?_
    rw [Int.zero_add]
  rw [e]
  have h : ∀ l : List Nat, RepL K S (l.map fun (k : Nat) => I (k : Int)) (l.map fun (k : Nat) => V.int (k : Int)) := by
    intro l
    induction l with
    | nil => rfl
    | cons a l ih => exact ⟨V.int a, _, rfl, rfl, ih⟩
  exact h _
/-- list(range(n)) -/
theorem pd_listRg {e : Expr} {p p2 pos2 : Pos} {κ : D → Wp → Prop} (hc : X.calm = true) (hmL : X.mg "list" = none) (hmR : X.mg "range" = none) (h : PD X T W χ e δ w fun d w1 => ∃ n : Nat, d = I (n : Int) ∧ n ≤ 1000 ∧ κ (.lst (ups n)) w1)
    (hg1 : Gl X "list" := by rfl) (hg2 : Gl X "range" := by rfl) (na : starEach [e] X.env = (false, eval e X.env) :: starEach [] X.env := by rfl)
    (nb : starEach [.Call (.Name "range" p2) [e] [] pos2] X.env = (false, eval (.Call (.Name "range" p2) [e] [] pos2) X.env) :: starEach [] X.env := by rfl) : PD X T W χ (.Call (.Name "list" p) [.Call (.Name "range" p2) [e] [] pos2] [] pos) δ w κ := by
  intro F σ S H Q hE hW hX hK
  refine wp_pe (pe_listRg hc hg1 hmL (prg_1 hg2 hmR (pe_wp e) na) nb) ?_
  refine h F σ S H _ hE hW hX fun d w1 v S1 H1 k s1 W1 r => ?_
  obtain ⟨n, rfl, hn, k⟩ := k
  refine ⟨n, r, RgOk.of_le (by omega) (by omega) (by omega) (by omega), fun q hq => ?_⟩
  have s2 : Same S1 (upd S1 q (.lst (rgV 0 n))) := same_upd (W1.free hq).1
  exact hK _ w1 _ _ _ k (s1.trans s2) (W1.laid hq fun _ z => by cases z) ⟨q, _, rfl, upd_same, rg_ups n⟩
end
end DL
namespace Tw
open PySem PySem.Spec PyProof.Rows L2 LamX DL
abbrev sLow : Stmt := top 20
def spLow : SpD := fun ds w κ χ => ∃ ms : List Int, ds = [.lst (ms.map I)] ∧ ms.length ≤ 1000 ∧ κ (nats (lowN ms)) w
theorem nats_low (ms : List Int) : D.lst (ms.map fun m => I ((ms.idxOf m : Nat) : Int)) = nats (lowN ms) := by
  unfold nats lowN
  rw [List.map_map]
  rfl
theorem lt62k {n : Nat} (h : n ≤ 1000) : (n : Int) < 2 ^ 62 := by omega
section
variable {P : Program} {w : PySem.World} {K : PySem.W.Frag} {mg : Str → Option Value} {base : Heap} {T : List (Addr × Str)} {C CU CB : Addr}
theorem scLow : FnScope ["marks", "mark"] ["marks"] (defScope sLow) := ⟨rfl, rfl, rfl, by decide +kernel, rfl, by decide +kernel, by decide +kernel⟩
theorem ok_low {f : Addr} {fd : FuncData} (G : Fun K "_law_low" "_law_low" sLow f fd) : FnOk P w K mg base CX0 1 f fd ["marks"] (spOf K T spLow) := by
  refine fnD G scLow (fun ds w κ χ h => ?_) (fun cdv A outer s H E ds w0 κ χ hr h => ?_)
  · obtain ⟨ms, rfl, _⟩ := h
    rfl
  obtain ⟨ms, rfl, hz, k⟩ := h
  have nd := scLow.nd
  refine pssd_one (psd_ret ?_)
  refine pd_lc (own := [("mark", 1)]) (is := [1]) rfl nd (blkOk_by rfl) (by decide) ?_
  refine it_list ?_
  refine pd_var (i := 0) rfl rfl ?_
  refine ⟨_, rfl, ?_⟩
  refine lcd_map (fun m => I ((ms.idxOf m : Nat) : Int)) (small1000 hz) (fun m hm s H0 C cl fp => ?_) ?_
  · refine pgl_name nd rfl ?_
    intro s H0 C cl fp
    refine ptsd_nil ?_
    intro s H0 C cl fp
    refine pd_bm PySem.F.plainAttrs_list PySem.F.slot_list_index PySem.F.type_list_index mt_index ?_
    refine pd_var (i := 0) rfl rfl ?_
    refine ⟨rfl, ?_⟩
    refine pad_cons ?_
    refine pd_var (i := 1) rfl rfl ?_
    refine pad_nil ?_
    refine vm_index hm ?_
    exact ⟨rfl, rfl, rfl⟩
  · show κ (.lst (ms.map fun m => I ((ms.idxOf m : Nat) : Int))) w0
    rw [nats_low]
    exact k
end
/-- the global x is the class at C, its __init__ keeps sp -/
def HasMk (P : Program) (w : PySem.World) (K : PySem.W.Frag) (mg : Str → Option Value) (base : Heap) (T : List (Addr × Str)) (CX : CXT) (x : Str) (C : Addr) (k : Nat) (ps : List Str) (sp : SpD) : Prop :=
  ∃ f fd, FnOk P w K mg base CX k f fd ps (spOf K T sp) ∧ mg x = some (.ref C) ∧ Mk K C f ∧ Binds K fd ps []
section
variable {X : Cx} {T : List (Addr × Str)} {W : WX} {χ : XD} {δ : Dn} {w : Wp} {pos : Pos}
theorem pd_hasmk {CX : CXT} {k : Nat} {C : Addr} {ps : List Str} {sp : SpD} {x : Str} {p : Pos} {e : Expr} {es : List Expr} {κ : D → Wp → Prop} (G : HasMk X.prog X.w X.K X.mg X.base T CX x C k ps sp) (hr : Room (k + 1) X.A) (hx : ∀ σ, PassesAt CX X σ (WE W σ))
    (h : PAD X T W χ (e :: es) δ w fun ds w1 => ∀ a dx, w1 a = none → sp (R a :: ds) (wu w1 a (.ins C dx [] [])) (fun d w2 => d = N ∧ ∃ ns es, w2 a = some (.ins C dx ns es) ∧ κ (.obj C ns es) (wd w2 a)) (fun C ns fs w2 => χ C ns fs (wd w2 a)))
    (hg : Gl X x := by rfl) (hdb : (x == ("__debug__" : Str)) = false := by decide) (he : starEach (e :: es) X.env = (false, eval e X.env) :: starEach es X.env := by rfl) (hpl : (backTo pos (starEach es X.env)).any (·.1) = false := by rfl) :
    PD X T W χ (.Call (.Name x p) (e :: es) [] pos) δ w κ := by
  obtain ⟨f, fd, h1, h2, h3, h4⟩ := G
  exact pd_makeX h3 h1 hr h2 h4 hx h hg hdb he hpl
end
theorem low_len (ms : List Int) : (lowN ms).length = ms.length := List.length_map _
theorem le_line {n : Nat} (h : n ≤ 1000) : n ≤ sizeLine := Nat.le_of_lt (small1000 h)
theorem rep_flat (n : Nat) (x : Int) : (List.replicate n [I x]).flatten = (List.replicate n x).map I := by
  induction n with
  | zero => rfl
  | succ n ih =>
    rw [List.replicate_succ, List.replicate_succ, List.flatten_cons, ih]
    rfl
theorem ups_ints (n : Nat) : ups n = ((List.range n).map fun (k : Nat) => (k : Int)).map I := by
  unfold ups
  rw [List.map_map]
  rfl
theorem BagAt.own {w : Wp} {a r c : Addr} {b : Bag} {h : HD} (k : BagAt w a r b) (n : w c = none) : BagAt (wu w c h) a r b := by
  have n1 : a ≠ c := fun z => by rw [← z, k.at_] at n; cases n
  have n2 : r ≠ c := fun z => by rw [← z, k.row] at n; cases n
  exact ⟨by rw [wu_ne n1]; exact k.at_, by rw [wu_ne n2]; exact k.row, k.ne⟩
theorem bag_comm {w : Wp} {a r c : Addr} {b b' : Bag} {h : HD} (k : BagAt w a r b) (n : w c = none) : bagPut (wu w c h) a r b' = wu (bagPut w a r b') c h := by
  have n1 : a ≠ c := fun z => by rw [← z, k.at_] at n; cases n
  have n2 : r ≠ c := fun z => by rw [← z, k.row] at n; cases n
  unfold bagPut
  rw [wu_comm (Ne.symm n1), wu_comm (Ne.symm n2)]
theorem low0 {ms : List Int} (h : 1 ≤ ms.length) : (lowN ms)[0]? = some 0 := by
  cases ms with
  | nil => simp at h
  | cons x xs =>
    show some ((x :: xs).idxOf x) = some 0
    rw [List.idxOf_cons_self]
theorem sm_ints {n : Nat} {ns : List Int} (h : ns.length ≤ 1000) : Sm (n + 1) (.lst (ns.map I)) (.lst (ns.map I)) := Sm.map (le_line h) fun x _ => .int x
theorem sm_nats {n : Nat} {l : List Nat} (h : l.length ≤ 1000) : Sm (n + 1) (nats l) (nats l) := Sm.map (le_line h) fun x _ => .int x
theorem int_eq_dec {a b : Nat} : decide (V.int (a : Int) = V.int (b : Int)) = decide (a = b) := by
  refine decide_eq_decide.mpr ⟨fun z => ?_, fun z => ?_⟩
  · have z2 := V.int.inj z
    omega
  · rw [z]
theorem some_eq_dec {a b : Nat} : decide (some a = some b) = decide (a = b) := decide_eq_decide.mpr ⟨fun z => Option.some.inj z, fun z => by rw [z]⟩
end Tw

set_option Elab.async false
set_option linter.all false
set_option maxRecDepth 100000
set_option maxHeartbeats 1000000
/-! Loops and comprehensions over a list of plain values that stands or is owned, and is left as it is. -/
namespace DL
open PySem PySem.Spec PyProof.Rows L2 LamX
def IterDK (X : Cx) (T : List (Addr × Str)) (W : WX) (χ : XD) (Kp : Wp → Prop) (tg iter : Expr) (δ : Dn) (w : Wp) (κ : List D → Wp → Prop) : Prop :=
  ∃ wi, PI X tg iter wi ∧ ∀ (F : Hp) (σ : L2.St) (S H : Hp) (R : It → Hp → Prop), EnvD X.K S δ σ → World X.K T S w F H → ExD X.K T W χ σ S F →
    (∀ (ds : List D) (w1 : Wp) (S1 H1 : Hp) (J : It) (G : Hp → Prop) (Y : Nat → Hp → V → Hp → Prop), κ ds w1 → Same S S1 → World X.K T S1 w1 F H1 → Walk J ds.length G Y →
      (∀ S2 w2 F2 H2, Kp w2 → Same S1 S2 → World X.K T S2 w2 F2 H2 → G H2) →
      (∀ (i : Nat) (d : D) S2 w2 F2 H2 x H3, ds[i]? = some d → Kp w2 → Same S1 S2 → World X.K T S2 w2 F2 H2 → Y i H2 x H3 → ∃ S3, Same S2 S3 ∧ World X.K T S3 w2 F2 H3 ∧ Rep X.K S3 d x) → R J H1) → wi σ H R
section
variable {X : Cx} {T : List (Addr × Str)} {W : WX} {χ : XD} {δ : Dn} {w : Wp} {pos : Pos}
theorem it_lk {tg e : Expr} {dd : D} {vs : List V} {κ : List D → Wp → Prop} (h : PD X T W χ e δ w fun d w1 => d = dd ∧ Lk w1 dd (vs.map D.val) ∧ κ (vs.map D.val) w1) : IterDK X T W χ (fun w2 => Lk w2 dd (vs.map D.val)) tg e δ w κ :=
  ⟨_, pi_list (pe_wp e), fun F σ S H R hE hW hX hK => by
    refine h F σ S H _ hE hW hX fun d w1 v S1 H1 k s1 W1 r => ?_
    obtain ⟨rfl, lk, k⟩ := k
    obtain ⟨a, xs, rfl, h1, h2⟩ := lk.at_ W1 r
    have e2 := h2.vals
    subst e2
    refine ⟨a, rfl, ⟨xs, SqL.of h1⟩, ?_⟩
    have ww := walk_list (K := X.K) (a := a) (xs := xs)
    have el : xs.length = (xs.map D.val).length := (List.length_map _).symm
    rw [el] at ww
    have at2 : ∀ S2 w2 F2 H2, Lk w2 d (xs.map D.val) → Same S1 S2 → World X.K T S2 w2 F2 H2 → H2 a = some (.lst xs) := fun S2 w2 F2 H2 l2 s2 W2 => by
      obtain ⟨a2, xs2, e3, h3, h4⟩ := l2.at_ W2 (r.mono s2)
      cases e3
      rw [h4.vals] at h3
      exact h3
    refine hK _ w1 S1 H1 _ _ _ k s1 W1 ww (fun S2 w2 F2 H2 l2 s2 W2 => SqL.of (at2 S2 w2 F2 H2 l2 s2 W2)) fun i d' S2 w2 F2 H2 x H3 hd l2 s2 W2 y => ?_
    obtain ⟨rfl, hx⟩ := y
    rw [List.getElem?_map, hx] at hd
    cases hd
    exact ⟨S2, Same.refl _, W2, rfl⟩⟩
theorem psd_forK {Kp : Wp → Prop} {tg iter : Expr} {body : List Stmt} {C : DL.Fin} (hp : PassesOwn (model X.prog X.w) X.A X.env X.xe) (hc : X.calm = true)
    (h : IterDK X T W χ Kp tg iter δ w (fun ds w1 => ∃ Pv : Nat → Dn → Wp → Prop, Pv 0 δ w1 ∧ (∀ i δ' w', Pv i δ' w' → Kp w') ∧
      (∀ (i : Nat) (d : D) δ' w', ds[i]? = some d → Pv i δ' w' → PGD X T tg d δ' w' fun δ2 w2 => PSsD X T W χ body δ2 w2 { nx := Pv (i + 1), rt := C.rt, bk := C.nx, ct := Pv (i + 1) }) ∧
      ∀ δ' w', Pv ds.length δ' w' → C.nx δ' w'))
    (hs : ∀ x, foldedSetIterable iter X.env x = pure x := by intro _; rfl) : PSD X T W χ (.For tg iter body [] pos) δ w C := fun F σ S H E hE hW hX hK => by
  obtain ⟨wi, hi, h⟩ := h
  refine wp_ps (ps_for hp hc hi (pg_wp tg) (pss_wp body) hs) ?_
  refine h F σ S H _ hE hW (hX σ) fun ds w1 S1 H1 J G Y k s1 W1 ww hG hY => ?_
  obtain ⟨Pv, p0, pk, turn, done⟩ := k
  refine for_it ww (D := E) (fun i σ' H' => ∃ δ' w' S', Pv i δ' w' ∧ Same S1 S' ∧ EnvD X.K S' δ' σ' ∧ World X.K T S' w' F H') ⟨δ, w1, S1, p0, Same.refl _, hE.mono s1, W1⟩ (fun i σ' H' _ ⟨δ', w', S', pv, s2, _, W2⟩ => hG S' w' F H' (pk _ _ _ pv) s2 W2) ?_ ?_
  · rintro i x σ' H' H3 hi ⟨δ', w', S', pv, s2, hE2, W2⟩ y
    obtain ⟨S3, s3, W3, r⟩ := hY i ds[i] S' w' F H' x H3 (List.getElem?_eq_getElem hi) (pk _ _ _ pv) s2 W2 y
    refine turn i ds[i] δ' w' (List.getElem?_eq_getElem hi) pv F x σ' S3 H3 _ r (hE2.mono s3) W3 fun δ2 w2 σ2 S4 H4 k s4 hE4 W4 => ?_
    have ss := s1.trans (s2.trans (s3.trans s4))
    refine k F σ2 S4 H4 _ hE4 W4 (hX.mono ss) ⟨fun δ5 w5 σ5 S5 H5 k5 s5 hE5 W5 => ⟨δ5, w5, S5, k5, s2.trans (s3.trans (s4.trans s5)), hE5, W5⟩, hK.rt.mono ss, hK.nx.mono ss, fun δ5 w5 σ5 S5 H5 k5 s5 hE5 W5 => ⟨δ5, w5, S5, k5, s2.trans (s3.trans (s4.trans s5)), hE5, W5⟩⟩
  · rintro σ' H' ⟨δ', w', S', pv, s2, hE2, W2⟩
    exact hK.nx δ' w' σ' S' H' (done δ' w' pv) (s1.trans s2) hE2 W2
/-- what a comprehension asks -/
def LcDK (X : Cx) (T : List (Addr × Str)) (is : List Nat) (tg : Expr) (ifs : List Expr) (elt : Expr) (scope : Scope) (vs : List Nat) (δ : Dn) (κ : List D → Wp → Prop) (ds : List D) (Kp : Wp → Prop) (w1 : Wp) : Prop :=
  ds.length < sizeLine ∧ ∃ Pv : Nat → List D → Wp → Prop, Pv 0 [] w1 ∧ (∀ i acc w', Pv i acc w' → Kp w') ∧
    (∀ (i : Nat) (d : D) acc w', ds[i]? = some d → Pv i acc w' → ∀ s H0 C cl fp, PGL (bx X s H0 scope cl C fp) T is tg d (wipeD δ vs) w' fun δ2 w2 => ∀ s H0 C cl fp, PTsD (bx X s H0 scope cl C fp) T ifs δ2 w2 fun b w3 =>
      if b = true then ∀ s H0 C cl fp, PD (bx X s H0 scope cl C fp) T Wf noX elt δ2 w3 fun y w4 => Pv (i + 1) (acc ++ [y]) w4 else Pv (i + 1) acc w3) ∧
    ∀ acc w', Pv ds.length acc w' → κ acc w'
theorem lc_readK {Kp : Wp → Prop} {tg elt : Expr} {ifs : List Expr} {scope : Scope} {vs is : List Nat} {κ : List D → Wp → Prop} {wi : TI} {F : Hp} {σ : L2.St} {S H : Hp} {Q : VK} (hsub : ∀ i ∈ is, i ∈ vs) (hE : EnvD X.K S δ σ) (hW : World X.K T S w F H)
    (h : ∀ (R : It → Hp → Prop), (∀ (ds : List D) (w1 : Wp) (S1 H1 : Hp) (J : It) (G : Hp → Prop) (Y : Nat → Hp → V → Hp → Prop), LcDK X T is tg ifs elt scope vs δ κ ds Kp w1 → Same S S1 → World X.K T S1 w1 F H1 → Walk J ds.length G Y →
      (∀ S2 w2 F2 H2, Kp w2 → Same S1 S2 → World X.K T S2 w2 F2 H2 → G H2) →
      (∀ (i : Nat) (d : D) S2 w2 F2 H2 x H3, ds[i]? = some d → Kp w2 → Same S1 S2 → World X.K T S2 w2 F2 H2 → Y i H2 x H3 → ∃ S3, Same S2 S3 ∧ World X.K T S3 w2 F2 H3 ∧ Rep X.K S3 d x) → R J H1) → wi σ H R)
    (hK : ∀ (L : Addr) acc w' S' xs H', κ acc w' → Same S S' → F L = none → World X.K T S' w' (upd F L (.lst xs)) H' → RepL X.K S' acc xs → Q (.ref L) H') :
    tLc wi (lcG X scope tg) (lcT X scope ifs) (lcE X scope elt) vs σ H Q := by
  refine h _ fun ds w1 S1 H1 J G Y k s1 W1 ww hG hY L nL => ?_
  obtain ⟨hz, Pv, p0, pk, turn, done⟩ := k
  have fL : F L = none := (W1.free nL).2.2
  refine lc_it ww (g := lcG X scope tg) (tt := lcT X scope ifs) (te := lcE X scope elt) (vs := vs) (σ := σ) (H1 := H1) (D := L) (Qd := fun H => Q (.ref L) H) (fun i H' => ∃ acc w' S' xs, Pv i acc w' ∧ acc.length ≤ i ∧ Same S1 S' ∧ World X.K T S' w' (upd F L (.lst xs)) H' ∧ RepL X.K S' acc xs) ?_ (fun i H' _ ⟨acc, w', S', xs, pv, _, s2, W2, _⟩ => hG S' w' _ H' (pk _ _ _ pv) s2 W2) ?_ ?_
  · exact ⟨[], w1, S1, [], p0, Nat.le_refl _, Same.refl _, W1.takeF nL (fun _ z => by cases z), rfl⟩
  · rintro i x H' H3 hi ⟨acc, w', S', xs, pv, hacc, s2, W2, ra⟩ y
    obtain ⟨S3, s3, W3, r⟩ := hY i ds[i] S' w' _ H' x H3 (List.getElem?_eq_getElem hi) (pk _ _ _ pv) s2 W2 y
    intro s H0 C cl fp
    refine turn i ds[i] acc w' (List.getElem?_eq_getElem hi) pv s H0 C cl fp (upd F L (.lst xs)) x (L2.wipe σ vs) S3 H3 _ r ((hE.mono (s1.trans (s2.trans s3))).wipe vs) W3 fun δ2 w2 σ2 S4 H4 k s4 hE4 W4 o4 l4 => ?_
    refine ⟨?_, ?_⟩
    · rw [wipe_eq (σ1 := L2.wipe σ vs) (σ2 := σ2) l4 fun j hj => o4 j fun z => hj (hsub j z)]
      exact wipe_eq (L2.wipe_length σ vs) fun j hj => L2.wipe_out hj
    · intro s H0 C cl fp
      refine k s H0 C cl fp (upd F L (.lst xs)) σ2 S4 H4 _ hE4 W4 fun b w5 S5 H5 k5 s5 W5 => ?_
      cases b with
      | false =>
        rw [if_neg Bool.false_ne_true] at k5 ⊢
        exact ⟨acc, w5, S5, xs, k5, Nat.le_succ_of_le hacc, s2.trans (s3.trans (s4.trans s5)), W5, ra.mono (s3.trans (s4.trans s5))⟩
      | true =>
        rw [if_pos rfl] at k5 ⊢
        intro s H0 C cl fp
        refine k5 s H0 C cl fp (upd F L (.lst xs)) σ2 S5 H5 _ (hE4.mono s5) W5 exf fun d6 w6 v6 S6 H6 k6 s6 W6 r6 => ?_
        have ra6 := ra.mono (s3.trans (s4.trans (s5.trans s6)))
        refine ⟨xs, (W6.frm L _ upd_same).2, by rw [ra6.length]; omega, acc ++ [d6], w6, S6, xs ++ [v6], k6, ?_, s2.trans (s3.trans (s4.trans (s5.trans s6))), ?_, ra6.app (RepL.one r6)⟩
        · rw [List.length_append]
          show acc.length + 1 ≤ i + 1
          omega
        · have W7 := W6.putF (o := .lst (xs ++ [v6])) upd_same (fun _ z => by cases z) (fun _ z => by cases z) (fun _ z => by cases z)
          rw [upd_upd] at W7
          exact W7
  · rintro H' ⟨acc, w', S', xs, pv, hacc, s2, W2, ra⟩
    exact hK L acc w' S' xs H' (done acc w' pv) (s1.trans s2) fL W2 ra
theorem pd_lcK {Kp : Wp → Prop} {elt tg iter : Expr} {ifs : List Expr} {scope : Scope} (own : List (Str × Nat)) (is : List Nat) {κ : D → Wp → Prop} (hc : X.calm = true) (hN : X.N.Nodup) (ok : BlkOk X.N X.env.scope scope own) (hsub : ∀ i ∈ is, i ∈ own.map (·.2))
    (h : IterDK X T W χ Kp tg iter δ w (fun ds => LcDK X T is tg ifs elt scope (own.map (·.2)) δ (fun acc w' => κ (.lst acc) w') ds Kp)) (hs : ∀ x, foldedSetIterable iter X.env x = pure x := by intro _; rfl) : PD X T W χ (.ListComp elt [⟨tg, iter, ifs, 0⟩] scope pos) δ w κ := fun F σ S H Q hE hW hX hK => by
  obtain ⟨wi, hi, h⟩ := h
  exact wp_pe (pe_lc hc hN hi ok pg_bx pt_bx pe_bx hs) (lc_readK hsub hE hW (fun R hR => h F σ S H R hE hW hX hR) (fin_stay hK))
end
section
variable {K : PySem.W.Frag} {T : List (Addr × Str)} {w : Wp} {κ : D → Wp → Prop}
/-- xs.index(x), ints, owned or not -/
theorem vm_indexK {d : D} {ns : List Int} {n : Int} (l : Lk w d (ns.map I)) (hm : n ∈ ns) (k : κ (I ((ns.idxOf n : Nat) : Int)) w) : VRM K T (rIndex K) d [I n] w κ := fun F S H x xs Q hW r1 r2 hK => by
  obtain ⟨a, ys, rfl, h1, h2⟩ := l.at_ hW r1
  obtain ⟨y, zs, rfl, h3, h4⟩ := r2
  have h3' : y = .int n := h3
  have h4' : zs = [] := h4
  have h2' := h2.ints
  subst h3' h4' h2'
  have hi : ns.idxOf n < ns.length := List.idxOf_lt_length_of_mem hm
  refine ⟨a, ns.map V.int, .int n, ns.idxOf n, .int n, rfl, rfl, SqL.of h1, rfl, ?_, ?_, ?_, ?_, hK _ w _ S H k (Same.refl _) hW rfl⟩
  · rw [List.all_eq_true]
    intro v hv
    obtain ⟨m, _, rfl⟩ := List.mem_map.mp hv
    rfl
  · rw [List.getElem?_map, List.getElem?_eq_getElem hi, List.getElem_idxOf hi]
    rfl
  · show (n == n) = true
    exact beq_self_eq_true n
  · intro m z' hlt hz
    rw [List.getElem?_map] at hz
    cases e : ns[m]? with
    | none =>
      rw [e] at hz
      cases hz
    | some z =>
      rw [e] at hz
      cases hz
      show (z == n) = false
      refine beq_eq_false_iff_ne.mpr fun q => ?_
      subst q
      exact before_ix hlt e
theorem TyD.lk {d : D} {ds : List D} (l : Lk w d ds) : TyD K "list" d w := by
  rcases l with rfl | ⟨a, rfl, h⟩
  · exact rfl
  · exact ⟨rfl, ds, h⟩
end
end DL

set_option Elab.async false
set_option linter.all false
set_option maxRecDepth 100000
set_option maxHeartbeats 2000000
namespace Tw
open PySem PySem.Spec PyProof.Rows L2 LamX DL
abbrev sPlaces : Stmt := top 11
def firstAt : List Int → Nat → Int → Option V
  | [], _, _ => none
  | x :: xs, s, m => if m = x then some (.int (s : Nat)) else firstAt xs (s + 1) m
theorem firstAt_mem : ∀ {ms : List Int} {s : Nat} {m : Int}, m ∈ ms → firstAt ms s m = some (.int ((s + ms.idxOf m : Nat) : Int))
  | [], s, m, h => by cases h
  | x :: xs, s, m, h => by
    unfold firstAt
    by_cases e : m = x
    · rw [if_pos e, e, List.idxOf_cons_self]
      rfl
    · have e2 : (x == m) = false := beq_eq_false_iff_ne.mpr fun z => e z.symm
      have e3 : (x :: xs).idxOf m = xs.idxOf m + 1 := by
        rw [List.idxOf_cons, e2]
        rfl
      have e4 : s + 1 + xs.idxOf m = s + (xs.idxOf m + 1) := by omega
      rw [if_neg e, firstAt_mem (List.mem_of_ne_of_mem e h), e3, e4]
theorem firstAt_step {ms : List Int} {p : Nat} {m j : Int} (h : ms[p]? = some m) : firstAt (ms.drop p) p j = if j = m then some (.int (p : Nat)) else firstAt (ms.drop (p + 1)) (p + 1) j := by
  obtain ⟨hp, e⟩ := List.getElem?_eq_some_iff.mp h
  rw [List.drop_eq_getElem_cons hp, e]
  rfl
section
variable {P : Program} {w : PySem.World} {K : PySem.W.Frag} {mg : Str → Option Value} {base : Heap} {T : List (Addr × Str)}
theorem scPlaces : FnScope ["items", "firsts", "place", "item"] ["items"] (defScope sPlaces) := ⟨rfl, rfl, rfl, by decide +kernel, rfl, by decide +kernel, by decide +kernel⟩
theorem ok_places2 {f : Addr} {fd : FuncData} (G : Fun K "first_places" "first_places" sPlaces f fd) (hm : Nm2 mg) (hrv : mg "reversed" = none) : FnOk P w K mg base CX0 3 f fd ["items"] (spOf K T spPlaces) := by
  refine fnD G scPlaces (fun ds w κ χ h => ?_) (fun cdv A outer s H E ds w0 κ χ hr h => ?_)
  · obtain ⟨d, ms, rfl, _⟩ := h
    rfl
  obtain ⟨d, ms, rfl, hl, hz, k⟩ := h
  have nd := scPlaces.nd
  have hu := Nat.lt_of_le_of_lt (Nat.add_le_add_left (show 1 ≤ 64 by decide) _) hr.units
  have ev : ms.map I = (ms.map V.int).map D.val := by
    rw [List.map_map]
    rfl
  refine pssd_cons (psd_set (i := 1) nd rfl ?_)
  refine pd_dc (own := [("place", 2)]) (is := [2]) rfl nd (blkOk_by rfl) (by decide) ?_
  refine it_revR hrv hm.range ?_
  refine pd_callB call_len_seq rfl hm.len PySem.boot_len ?_
  refine pad_cons ?_
  refine pd_var (i := 0) rfl rfl ?_
  refine pad_nil ?_
  refine va_lenK hl ?_
  rw [List.length_map]
  refine ⟨ms.length, rfl, by omega, ?_⟩
  refine ⟨by rw [downs_len]; exact small1000 (by omega), fun i acc w' => (i ≤ ms.length → ∀ m, valV acc (.inl m) = firstAt (ms.drop (ms.length - i)) (ms.length - i) m) ∧ w' = w0, ⟨fun _ m => ?_, rfl⟩, ?_, ?_⟩
  · rw [Nat.sub_zero, List.drop_length]
    rfl
  · rintro i d' acc w' hd ⟨hv, rfl⟩ s H0 C1 cl1 fp1
    obtain ⟨hi, rfl⟩ := downs_at hd
    have hp : ms.length - 1 - i < ms.length := by omega
    have hg : ms[ms.length - 1 - i]? = some (ms[ms.length - 1 - i]) := List.getElem?_eq_getElem hp
    refine pgl_name nd rfl ?_
    intro s H0 C1 cl1 fp1
    refine pd_ix ix_list ?_
    refine pd_var (i := 0) rfl rfl ?_
    refine pd_var (i := 2) rfl rfl ?_
    refine vr_ixK hl (e := I (ms[ms.length - 1 - i])) (by rw [List.getElem?_map, hg]; rfl) ?_
    intro s H0 C1 cl1 fp1
    refine pd_var (i := 2) rfl rfl ?_
    refine ⟨.inl (ms[ms.length - 1 - i]), _, rfl, rfl, fun _ m => ?_, rfl⟩
    have e1 : ms.length - (i + 1) = ms.length - 1 - i := by omega
    have e2 : ms.length - 1 - i + 1 = ms.length - i := by omega
    rw [valV_put, hv (by omega), e1, firstAt_step hg, e2]
    by_cases q : m = ms[ms.length - 1 - i]
    · rw [if_pos q, if_pos (by rw [q])]
    · rw [if_neg q, if_neg (fun z => q (Sum.inl.inj z))]
  rintro acc w' ⟨hv, rfl⟩
  rw [downs_len] at hv
  have hv := hv (Nat.le_refl _)
  rw [Nat.sub_self, List.drop_zero] at hv
  refine pssd_one (psd_ret ?_)
  refine pd_lcK (Kp := fun w2 => Lk w2 d ((ms.map V.int).map D.val)) (own := [("item", 3)]) (is := [3]) rfl nd (blkOk_by rfl) (by decide) ?_
  refine it_lk ?_
  refine pd_var (i := 0) rfl rfl ?_
  refine ⟨rfl, by rw [← ev]; exact hl, ?_⟩
  rw [← ev]
  refine ⟨by rw [List.length_map]; exact small1000 (by omega), fun i acc w2 => acc = ((ms.take i).map fun m => I ((ms.idxOf m : Nat) : Int)) ∧ w2 = w', ⟨rfl, rfl⟩, ?_, ?_, ?_⟩
  · rintro i acc w' ⟨_, rfl⟩
    exact hl
  · rintro i d' acc w' hd ⟨rfl, rfl⟩ s H0 C1 cl1 fp1
    rw [List.getElem?_map] at hd
    cases e : ms[i]? with
    | none =>
      rw [e] at hd
      cases hd
    | some m =>
    rw [e] at hd
    cases hd
    refine pgl_name nd rfl ?_
    intro s H0 C1 cl1 fp1
    refine ptsd_nil ?_
    intro s H0 C1 cl1 fp1
    refine pd_dget hu ?_
    refine pd_var (i := 1) rfl rfl ?_
    refine pd_var (i := 3) rfl rfl ?_
    refine ⟨_, .inl m, _, rfl, rfl, (hv m).trans (firstAt_mem (List.mem_of_getElem? e)), ?_, rfl⟩
    rw [Nat.zero_add, List.take_add_one, e, List.map_append]
    rfl
  · rintro acc w' ⟨rfl, rfl⟩
    rw [List.length_map, List.take_length, nats_low]
    exact k
end
end Tw

set_option linter.all false
/-! Lists of marks: the low form, the common parts, the joined cells. No Python here. -/
namespace Mth
section
variable {α β γ : Type} [BEq α] [LawfulBEq α] [BEq β] [LawfulBEq β]
def lowG (l : List α) : List Nat := l.map fun x => l.idxOf x
/-- the same cells -/
def Pat (l : List α) (m : List β) : Prop := l.length = m.length ∧ ∀ (i j : Nat), i < l.length → j < l.length → (l[i]? = l[j]? ↔ m[i]? = m[j]?)
theorem Pat.refl (l : List α) : Pat l l := ⟨rfl, fun _ _ _ _ => Iff.rfl⟩
theorem Pat.symm {l : List α} {m : List β} (p : Pat l m) : Pat m l := ⟨p.1.symm, fun i j hi hj => (p.2 i j (by rw [p.1]; exact hi) (by rw [p.1]; exact hj)).symm⟩
theorem Pat.trans {l : List α} {m : List β} {k : List γ} (p : Pat l m) (q : Pat m k) : Pat l k := ⟨p.1.trans q.1, fun i j hi hj => (p.2 i j hi hj).trans (q.2 i j (by rw [← p.1]; exact hi) (by rw [← p.1]; exact hj))⟩
theorem idx_le : ∀ {l : List α} {i : Nat} {x : α}, l[i]? = some x → l.idxOf x ≤ i
  | [], i, x, h => by simp at h
  | a :: l, 0, x, h => by
    have e : a = x := by simpa using h
    rw [e, List.idxOf_cons_self]
    exact Nat.le_refl _
  | a :: l, i + 1, x, h => by
    rw [List.idxOf_cons]
    have h' : l[i]? = some x := by simpa using h
    have := idx_le h'
    cases a == x
    · exact Nat.succ_le_succ this
    · exact Nat.zero_le _
theorem idx_at {l : List α} {x : α} (h : x ∈ l) : l[l.idxOf x]? = some x := by
  have hi := List.idxOf_lt_length_of_mem h
  rw [List.getElem?_eq_getElem hi, List.getElem_idxOf hi]
theorem low_len (l : List α) : (lowG l).length = l.length := List.length_map _
theorem low_at {l : List α} {i : Nat} {x : α} (h : l[i]? = some x) : (lowG l)[i]? = some (l.idxOf x) := by
  unfold lowG
  rw [List.getElem?_map, h]
  rfl
theorem at_lt {l : List γ} {i : Nat} (h : i < l.length) : ∃ x, l[i]? = some x := ⟨l[i], List.getElem?_eq_getElem h⟩
theorem low_pat (l : List α) : Pat (lowG l) l := by
  refine ⟨low_len l, fun i j hi hj => ?_⟩
  rw [low_len] at hi hj
  obtain ⟨x, hx⟩ := at_lt hi
  obtain ⟨y, hy⟩ := at_lt hj
  rw [low_at hx, low_at hy, hx, hy]
  refine ⟨fun e => ?_, fun e => by rw [Option.some.inj e]⟩
  have e' := Option.some.inj e
  have h1 := idx_at (List.mem_of_getElem? hx)
  rw [e', idx_at (List.mem_of_getElem? hy)] at h1
  exact h1.symm
theorem low_eq {l : List α} {m : List β} (p : Pat l m) : lowG l = lowG m := by
  refine List.ext_getElem? fun i => ?_
  by_cases hi : i < l.length
  · have hm : i < m.length := by rw [← p.1]; exact hi
    obtain ⟨x, hx⟩ := at_lt hi
    obtain ⟨y, hy⟩ := at_lt hm
    rw [low_at hx, low_at hy]
    congr 1
    have hxl := List.idxOf_lt_length_of_mem (List.mem_of_getElem? hx)
    have hym := List.idxOf_lt_length_of_mem (List.mem_of_getElem? hy)
    refine Nat.le_antisymm ?_ ?_
    · refine idx_le ?_
      rw [← hx]
      exact (p.2 _ _ (by rw [p.1]; exact hym) hi).mpr ((idx_at (List.mem_of_getElem? hy)).trans hy.symm)
    · refine idx_le ?_
      rw [← hy]
      exact (p.2 _ _ hxl hi).mp ((idx_at (List.mem_of_getElem? hx)).trans hx.symm)
  · rw [List.getElem?_eq_none (by rw [low_len]; omega), List.getElem?_eq_none (by rw [low_len, ← p.1]; omega)]
theorem low_low (l : List α) : lowG (lowG l) = lowG l := low_eq (low_pat l)
/-- a list of marks in low form -/
def IsLow (lo : List Nat) : Prop := ∀ (i x : Nat), lo[i]? = some x → x ≤ i ∧ lo[x]? = some x
theorem low_isLow (l : List α) : IsLow (lowG l) := by
  intro i x h
  have hi : i < l.length := by
    have := (List.getElem?_eq_some_iff.mp h).1
    rwa [low_len] at this
  obtain ⟨y, hy⟩ := at_lt hi
  rw [low_at hy] at h
  cases h
  exact ⟨idx_le hy, low_at (idx_at (List.mem_of_getElem? hy))⟩
theorem isLow_low {lo : List Nat} (h : IsLow lo) : lowG lo = lo := by
  refine List.ext_getElem? fun i => ?_
  by_cases hi : i < lo.length
  · obtain ⟨x, hx⟩ := at_lt hi
    rw [low_at hx, hx]
    congr 1
    obtain ⟨h1, h2⟩ := h i x hx
    have h3 := idx_le h2
    obtain ⟨h4, _⟩ := h _ _ (idx_at (List.mem_of_getElem? hx))
    omega
  · rw [List.getElem?_eq_none (by rw [low_len]; omega), List.getElem?_eq_none (by omega)]
theorem pat_map {f : α → γ} {l : List α} (inj : ∀ a ∈ l, ∀ b ∈ l, f a = f b → a = b) : Pat (l.map f) l := by
  refine ⟨List.length_map _, fun i j hi hj => ?_⟩
  rw [List.length_map] at hi hj
  obtain ⟨x, hx⟩ := at_lt hi
  obtain ⟨y, hy⟩ := at_lt hj
  rw [List.getElem?_map, List.getElem?_map, hx, hy]
  refine ⟨fun e => ?_, fun e => by rw [Option.some.inj e]⟩
  rw [inj x (List.mem_of_getElem? hx) y (List.mem_of_getElem? hy) (Option.some.inj e)]
theorem pat_zip {l l' : List Nat} {δ ε : Type} {a : List δ} {b : List ε} {m : List β} {k : List γ} (hl : a.length = m.length) (p : Pat a b) (q : Pat m k) : Pat (a.zip m) (b.zip k) := by
  have h1 := p.1
  have h2 := q.1
  refine ⟨by rw [List.length_zip, List.length_zip]; omega, fun i j hi hj => ?_⟩
  rw [List.length_zip] at hi hj
  obtain ⟨x, hx⟩ := at_lt (l := a) (i := i) (by omega)
  obtain ⟨y, hy⟩ := at_lt (l := a) (i := j) (by omega)
  obtain ⟨u, hu⟩ := at_lt (l := m) (i := i) (by omega)
  obtain ⟨v, hv⟩ := at_lt (l := m) (i := j) (by omega)
  obtain ⟨x', hx'⟩ := at_lt (l := b) (i := i) (by omega)
  obtain ⟨y', hy'⟩ := at_lt (l := b) (i := j) (by omega)
  obtain ⟨u', hu'⟩ := at_lt (l := k) (i := i) (by omega)
  obtain ⟨v', hv'⟩ := at_lt (l := k) (i := j) (by omega)
  have z1 : (a.zip m)[i]? = some (x, u) := List.getElem?_zip_eq_some.mpr ⟨hx, hu⟩
  have z2 : (a.zip m)[j]? = some (y, v) := List.getElem?_zip_eq_some.mpr ⟨hy, hv⟩
  have z3 : (b.zip k)[i]? = some (x', u') := List.getElem?_zip_eq_some.mpr ⟨hx', hu'⟩
  have z4 : (b.zip k)[j]? = some (y', v') := List.getElem?_zip_eq_some.mpr ⟨hy', hv'⟩
  have p2 := p.2 i j (by omega) (by omega)
  have q2 := q.2 i j (by omega) (by omega)
  rw [hx, hy, hx', hy'] at p2
  rw [hu, hv, hu', hv'] at q2
  rw [z1, z2, z3, z4]
  simp only [Option.some.injEq, Prod.mk.injEq] at p2 q2 ⊢
  rw [p2, q2]
end
/-! ### joined cells -/
inductive Cn (E : Nat → Nat → Prop) : Nat → Nat → Prop
  | refl (i : Nat) : Cn E i i
  | step {i j k : Nat} (h : Cn E i j) (e : E j k) : Cn E i k
theorem Cn.trans {E : Nat → Nat → Prop} {i j k : Nat} (h : Cn E i j) (g : Cn E j k) : Cn E i k := by
  induction g with
  | refl => exact h
  | step _ e ih => exact .step ih e
theorem Cn.one {E : Nat → Nat → Prop} {i j : Nat} (e : E i j) : Cn E i j := .step (.refl i) e
theorem Cn.symm {E : Nat → Nat → Prop} (s : ∀ i j, E i j → E j i) {i j : Nat} (h : Cn E i j) : Cn E j i := by
  induction h with
  | refl => exact .refl _
  | step _ e ih => exact (Cn.one (s _ _ e)).trans ih
def E2 {α β : Type} (l : List α) (m : List β) (i j : Nat) : Prop := i < l.length ∧ j < l.length ∧ (l[i]? = l[j]? ∨ m[i]? = m[j]?)
theorem E2.symm {α β : Type} {l : List α} {m : List β} (i j : Nat) (h : E2 l m i j) : E2 l m j i := ⟨h.2.1, h.1, h.2.2.imp Eq.symm Eq.symm⟩
theorem E2.pat {α β γ δ : Type} {l : List α} {m : List β} {l' : List γ} {m' : List δ} (hl : l.length = m.length) (p : Pat l l') (q : Pat m m') : E2 l m = E2 l' m' := by
  funext i j
  refine propext ⟨fun h => ?_, fun h => ?_⟩
  · refine ⟨by rw [← p.1]; exact h.1, by rw [← p.1]; exact h.2.1, h.2.2.imp (p.2 i j h.1 h.2.1).mp (q.2 i j (by rw [← hl]; exact h.1) (by rw [← hl]; exact h.2.1)).mp⟩
  · have h1 : i < l.length := by rw [p.1]; exact h.1
    have h2 : j < l.length := by rw [p.1]; exact h.2.1
    exact ⟨h1, h2, h.2.2.imp (p.2 i j h1 h2).mpr (q.2 i j (by rw [← hl]; exact h1) (by rw [← hl]; exact h2)).mpr⟩
structure Good (E : Nat → Nat → Prop) (n : Nat) (m : List Nat) : Prop where
  len : m.length = n
  low : ∀ (i x : Nat), m[i]? = some x → x ≤ i ∧ Cn E i x
structure IsJoin (E : Nat → Nat → Prop) (n : Nat) (m : List Nat) : Prop extends Good E n m where
  const : ∀ (i j : Nat), E i j → m[i]? = m[j]?
theorem IsJoin.along {E : Nat → Nat → Prop} {n : Nat} {m : List Nat} (J : IsJoin E n m) {i j : Nat} (h : Cn E i j) : m[i]? = m[j]? := by
  induction h with
  | refl => rfl
  | step _ e ih => exact ih.trans (J.const _ _ e)
theorem join_le {E : Nat → Nat → Prop} {n : Nat} {m m' : List Nat} (J : IsJoin E n m) (J' : IsJoin E n m') {i x x' : Nat} (h : m[i]? = some x) (h' : m'[i]? = some x') : x' ≤ x := by
  have c := (J.low i x h).2
  have e := J'.along c
  rw [h'] at e
  exact (J'.low x x' e.symm).1
theorem IsJoin.uniq {E : Nat → Nat → Prop} {n : Nat} {m m' : List Nat} (J : IsJoin E n m) (J' : IsJoin E n m') : m = m' := by
  refine List.ext_getElem? fun i => ?_
  by_cases hi : i < n
  · obtain ⟨x, hx⟩ := at_lt (l := m) (i := i) (by rw [J.len]; exact hi)
    obtain ⟨x', hx'⟩ := at_lt (l := m') (i := i) (by rw [J'.len]; exact hi)
    rw [hx, hx']
    congr 1
    exact Nat.le_antisymm (join_le J' J hx' hx) (join_le J J' hx hx')
  · rw [List.getElem?_eq_none (by rw [J.len]; omega), List.getElem?_eq_none (by rw [J'.len]; omega)]
theorem IsJoin.isLow {E : Nat → Nat → Prop} {n : Nat} {m : List Nat} (J : IsJoin E n m) : IsLow m := by
  intro i x h
  obtain ⟨h1, h2⟩ := J.low i x h
  exact ⟨h1, (J.along h2).symm.trans h⟩
/-! ### by merging one pair after the other -/
def mergeN (m : List Nat) (i j : Nat) : List Nat := m.map fun x => if x = max (m.getD i 0) (m.getD j 0) then min (m.getD i 0) (m.getD j 0) else x
def orFrom (lo2 : List Nat) : Nat → List Nat → List Nat
  | 0, m => m
  | k + 1, m => mergeN (orFrom lo2 k m) k (lo2.getD k 0)
def orN (lo1 lo2 : List Nat) : List Nat := orFrom lo2 lo2.length lo1
theorem merge_at {m : List Nat} {i j k x : Nat} (h : m[k]? = some x) : (mergeN m i j)[k]? = some (if x = max (m.getD i 0) (m.getD j 0) then min (m.getD i 0) (m.getD j 0) else x) := by
  unfold mergeN
  rw [List.getElem?_map, h]
  rfl
theorem merge_len (m : List Nat) (i j : Nat) : (mergeN m i j).length = m.length := List.length_map _
theorem getD_of {m : List Nat} {i a : Nat} (h : m[i]? = some a) : m.getD i 0 = a := by
  rw [List.getD_eq_getElem?_getD, h]
  rfl
theorem merge_same {m : List Nat} {i j k l : Nat} (h : m[k]? = m[l]?) : (mergeN m i j)[k]? = (mergeN m i j)[l]? := by
  unfold mergeN
  rw [List.getElem?_map, List.getElem?_map, h]
theorem merge_pair {m : List Nat} {i j a b : Nat} (h1 : m[i]? = some a) (h2 : m[j]? = some b) : (mergeN m i j)[i]? = (mergeN m i j)[j]? := by
  rw [merge_at h1, merge_at h2, getD_of h1, getD_of h2]
  congr 1
  by_cases e1 : a = max a b
  · rw [if_pos e1]
    by_cases e2 : b = max a b
    · rw [if_pos e2]
    · rw [if_neg e2]
      omega
  · rw [if_neg e1]
    by_cases e2 : b = max a b
    · rw [if_pos e2]
      omega
    · omega
theorem merge_good {E : Nat → Nat → Prop} (sy : ∀ i j, E i j → E j i) {n i j a b : Nat} {m : List Nat} (G : Good E n m) (h1 : m[i]? = some a) (h2 : m[j]? = some b) (e : Cn E i j) : Good E n (mergeN m i j) := by
  refine ⟨(merge_len m i j).trans G.len, fun k x h => ?_⟩
  have hk : k < m.length := by
    have := (List.getElem?_eq_some_iff.mp h).1
    rwa [merge_len] at this
  obtain ⟨y, hy⟩ := at_lt hk
  rw [merge_at hy, getD_of h1, getD_of h2] at h
  have h := Option.some.inj h
  obtain ⟨g1, g2⟩ := G.low k y hy
  by_cases q : y = max a b
  · rw [if_pos q] at h
    subst h
    refine ⟨by omega, ?_⟩
    have ca := (G.low i a h1).2
    have cb := (G.low j b h2).2
    have cab : Cn E a b := ((ca.symm sy).trans e).trans cb
    rcases Nat.le_total a b with hab | hab
    · have e1 : max a b = b := by omega
      have e2 : min a b = a := by omega
      rw [e2]
      rw [q, e1] at g2
      exact g2.trans (cab.symm sy)
    · have e1 : max a b = a := by omega
      have e2 : min a b = b := by omega
      rw [e2]
      rw [q, e1] at g2
      exact g2.trans cab
  · rw [if_neg q] at h
    subst h
    exact ⟨g1, g2⟩
theorem or_join {lo1 lo2 : List Nat} (l1 : IsLow lo1) (l2 : IsLow lo2) (hl : lo1.length = lo2.length) : IsJoin (E2 lo1 lo2) lo1.length (orN lo1 lo2) := by
  have lt_of : ∀ {l : List Nat} {i x : Nat}, l[i]? = some x → i < l.length := fun h => (List.getElem?_eq_some_iff.mp h).1
  have key : ∀ k, k ≤ lo2.length → Good (E2 lo1 lo2) lo1.length (orFrom lo2 k lo1) ∧ (∀ (i j : Nat), lo1[i]? = lo1[j]? → (orFrom lo2 k lo1)[i]? = (orFrom lo2 k lo1)[j]?) ∧ ∀ (i y : Nat), i < k → lo2[i]? = some y → (orFrom lo2 k lo1)[i]? = (orFrom lo2 k lo1)[y]? := by
    intro k
    induction k with
    | zero =>
      intro _
      refine ⟨⟨rfl, fun i x h => ?_⟩, fun i j h => h, fun i y h => absurd h (Nat.not_lt_zero _)⟩
      obtain ⟨h1, h2⟩ := l1 i x h
      exact ⟨h1, Cn.one ⟨lt_of h, lt_of h2, .inl (h.trans h2.symm)⟩⟩
    | succ k ih =>
      intro hk
      obtain ⟨G, c1, c2⟩ := ih (by omega)
      obtain ⟨y, hy⟩ := at_lt (l := lo2) (i := k) (by omega)
      obtain ⟨h1, h2⟩ := l2 k y hy
      obtain ⟨a, ha⟩ := at_lt (l := orFrom lo2 k lo1) (i := k) (by rw [G.len]; omega)
      obtain ⟨b, hb⟩ := at_lt (l := orFrom lo2 k lo1) (i := y) (by rw [G.len]; omega)
      have eE : Cn (E2 lo1 lo2) k y := Cn.one ⟨by omega, by omega, .inr (hy.trans h2.symm)⟩
      have em : orFrom lo2 (k + 1) lo1 = mergeN (orFrom lo2 k lo1) k y := by
        show mergeN (orFrom lo2 k lo1) k (lo2.getD k 0) = _
        rw [getD_of hy]
      rw [em]
      refine ⟨merge_good E2.symm G ha hb eE, fun i j h => merge_same (c1 i j h), fun i z hi hz => ?_⟩
      by_cases q : i = k
      · subst q
        rw [hy] at hz
        cases hz
        exact merge_pair ha hb
      · exact merge_same (c2 i z (by omega) hz)
  obtain ⟨G, c1, c2⟩ := key lo2.length (Nat.le_refl _)
  refine ⟨G, fun i j h => ?_⟩
  obtain ⟨h1, h2, h3⟩ := h
  rcases h3 with h3 | h3
  · exact c1 i j h3
  · obtain ⟨y, hy⟩ := at_lt (l := lo2) (i := i) (by omega)
    have hy2 := h3.symm.trans hy
    exact (c2 i y (by omega) hy).trans (c2 j y (by omega) hy2).symm
/-! ### by taking the least one, round after round -/
structure PassR {α : Type} (ks : List α) (low low' : List Nat) : Prop where
  len : low'.length = ks.length
  some_ : ∀ (i x : Nat), low'[i]? = some x → ∃ j : Nat, j < ks.length ∧ ks[j]? = ks[i]? ∧ low[j]? = some x
  le : ∀ (i x : Nat), low'[i]? = some x → ∀ (j y : Nat), ks[j]? = ks[i]? → low[j]? = some y → x ≤ y
theorem pass_good {α : Type} {E : Nat → Nat → Prop} {ks : List α} {n : Nat} {low low' : List Nat} (hn : ks.length = n) (sub : ∀ (i j : Nat), i < n → j < n → ks[i]? = ks[j]? → E i j) (G : Good E n low) (p : PassR ks low low') : Good E n low' := by
  refine ⟨p.len.trans hn, fun i x h => ?_⟩
  have hi : i < n := by
    have := (List.getElem?_eq_some_iff.mp h).1
    rwa [p.len, hn] at this
  obtain ⟨y, hy⟩ := at_lt (l := low) (i := i) (by rw [G.len]; exact hi)
  obtain ⟨j, hj, e, hx⟩ := p.some_ i x h
  exact ⟨Nat.le_trans (p.le i x h i y rfl hy) (G.low i y hy).1, (Cn.one (sub i j hi (by omega) e.symm)).trans (G.low j x hx).2⟩
def cnt (c : Nat) (l : List Nat) : Nat := (l.filter fun x => decide (x ≤ c)).length
theorem cnt_le (c : Nat) (l : List Nat) : cnt c l ≤ l.length := List.length_filter_le _ _
theorem cnt_mono {c : Nat} : ∀ {l l' : List Nat}, l.length = l'.length → (∀ (i : Nat) (x y : Nat), l[i]? = some x → l'[i]? = some y → y ≤ x) → cnt c l ≤ cnt c l'
  | [], [], _, _ => Nat.le_refl _
  | [], _ :: _, h, _ => by simp at h
  | _ :: _, [], h, _ => by simp at h
  | a :: l, b :: l', h, q => by
    have ih := cnt_mono (c := c) (l := l) (l' := l') (by simpa using h) fun i x y h1 h2 => q (i + 1) x y (by simpa using h1) (by simpa using h2)
    have hab := q 0 a b rfl rfl
    unfold cnt at ih ⊢
    rw [List.filter_cons, List.filter_cons]
    by_cases h1 : a ≤ c
    · rw [if_pos (decide_eq_true h1), if_pos (decide_eq_true (Nat.le_trans hab h1))]
      exact Nat.succ_le_succ ih
    · rw [if_neg (by simpa using h1)]
      by_cases h2 : b ≤ c
      · rw [if_pos (decide_eq_true h2)]
        exact Nat.le_succ_of_le ih
      · rw [if_neg (by simpa using h2)]
        exact ih
theorem cnt_lt {c : Nat} : ∀ {l l' : List Nat} {k u v : Nat}, l.length = l'.length → (∀ (i : Nat) (x y : Nat), l[i]? = some x → l'[i]? = some y → y ≤ x) → l[k]? = some u → l'[k]? = some v → ¬ u ≤ c → v ≤ c → cnt c l + 1 ≤ cnt c l'
  | [], _, k, u, v, _, _, h, _, _, _ => by simp at h
  | _ :: _, [], k, u, v, h, _, _, _, _, _ => by simp at h
  | a :: l, b :: l', 0, u, v, h, q, h1, h2, h3, h4 => by
    have e1 : a = u := by simpa using h1
    have e2 : b = v := by simpa using h2
    subst e1 e2
    have ih := cnt_mono (c := c) (l := l) (l' := l') (by simpa using h) fun i x y h1 h2 => q (i + 1) x y (by simpa using h1) (by simpa using h2)
    unfold cnt at ih ⊢
    rw [List.filter_cons, List.filter_cons, if_neg (by simpa using h3), if_pos (decide_eq_true h4)]
    exact Nat.succ_le_succ ih
  | a :: l, b :: l', k + 1, u, v, h, q, h1, h2, h3, h4 => by
    have ih := cnt_lt (c := c) (l := l) (l' := l') (k := k) (u := u) (v := v) (by simpa using h) (fun i x y h1 h2 => q (i + 1) x y (by simpa using h1) (by simpa using h2)) (by simpa using h1) (by simpa using h2) h3 h4
    have hab := q 0 a b rfl rfl
    unfold cnt at ih ⊢
    rw [List.filter_cons, List.filter_cons]
    by_cases h1 : a ≤ c
    · rw [if_pos (decide_eq_true h1), if_pos (decide_eq_true (Nat.le_trans hab h1)), List.length_cons, List.length_cons]
      omega
    · rw [if_neg (by simpa using h1)]
      by_cases h2 : b ≤ c
      · rw [if_pos (decide_eq_true h2), List.length_cons]
        omega
      · rw [if_neg (by simpa using h2)]
        exact ih
/-- after t rounds -/
inductive Runs {α β : Type} (l : List α) (m : List β) : Nat → List Nat → Prop
  | zero : Runs l m 0 (List.range l.length)
  | succ {t : Nat} {a b c : List Nat} (r : Runs l m t a) (p : PassR l a b) (q : PassR m b c) : Runs l m (t + 1) c
section
variable {α β : Type} {l : List α} {m : List β}
theorem runs_good (hl : l.length = m.length) {t : Nat} {a : List Nat} (r : Runs l m t a) : Good (E2 l m) l.length a := by
  induction r with
  | zero =>
    refine ⟨List.length_range, fun i x h => ?_⟩
    have hi : i < l.length := by
      have := (List.getElem?_eq_some_iff.mp h).1
      rwa [List.length_range] at this
    rw [List.getElem?_range hi] at h
    cases h
    exact ⟨Nat.le_refl _, .refl _⟩
  | succ r p q ih =>
    refine pass_good hl.symm (fun i j hi hj e => ⟨hi, hj, .inr e⟩) ?_ q
    exact pass_good rfl (fun i j hi hj e => ⟨hi, hj, .inl e⟩) ih p
theorem runs_all (hl : l.length = m.length) {c : Nat} (hc : c < l.length) {t : Nat} {a : List Nat} (r : Runs l m t a) : (∀ (i x : Nat), Cn (E2 l m) c i → a[i]? = some x → x ≤ c) ∨ t + 1 ≤ cnt c a := by
  induction r with
  | zero =>
    refine .inr ?_
    have h : ∃ x ∈ List.range l.length, decide (x ≤ c) = true := ⟨c, List.mem_range.mpr hc, by simp⟩
    obtain ⟨x, h1, h2⟩ := h
    exact List.length_pos_of_mem (List.mem_filter.mpr ⟨h1, h2⟩)
  | @succ t a b d r p q ih =>
    have G := runs_good hl r
    have Gb : Good (E2 l m) l.length b := pass_good rfl (fun i j hi hj e => ⟨hi, hj, .inl e⟩) G p
    have Gd : Good (E2 l m) l.length d := pass_good hl.symm (fun i j hi hj e => ⟨hi, hj, .inr e⟩) Gb q
    have mid : ∀ {i x : Nat}, d[i]? = some x → ∃ y z, b[i]? = some y ∧ a[i]? = some z ∧ x ≤ y ∧ y ≤ z := fun {i x} h => by
      have hi : i < l.length := by
        have := (List.getElem?_eq_some_iff.mp h).1
        rwa [Gd.len] at this
      obtain ⟨y, hy⟩ := at_lt (l := b) (i := i) (by rw [Gb.len]; exact hi)
      obtain ⟨z, hz⟩ := at_lt (l := a) (i := i) (by rw [G.len]; exact hi)
      exact ⟨y, z, hy, hz, q.le i x h i y rfl hy, p.le i y hy i z rfl hz⟩
    have down : ∀ (i : Nat) (x y : Nat), a[i]? = some x → d[i]? = some y → y ≤ x := fun i x y h1 h2 => by
      obtain ⟨u, v, _, e, h3, h4⟩ := mid h2
      rw [h1] at e
      cases e
      omega
    have reach : ∀ {i j x y : Nat}, E2 l m i j → a[i]? = some x → x ≤ c → d[j]? = some y → y ≤ c := fun {i j x y} e h1 h2 h3 => by
      obtain ⟨u, v, hu, hv, h4, h5⟩ := mid h3
      rcases e.2.2 with e1 | e1
      · have := p.le j u hu i x e1 h1
        omega
      · obtain ⟨z, hz⟩ := at_lt (l := b) (i := i) (by rw [Gb.len]; exact e.1)
        have h6 := q.le j y h3 i z e1 hz
        have h7 := p.le i z hz i x rfl h1
        omega
    rcases ih with ih | ih
    · refine .inl fun i x h1 h2 => ?_
      obtain ⟨u, v, _, hv, h4, h5⟩ := mid h2
      have := ih i v h1 hv
      omega
    · by_cases cl : ∀ (i j x y : Nat), E2 l m i j → a[i]? = some x → a[j]? = some y → x ≤ c → y ≤ c
      · refine .inl fun i x h1 h2 => ?_
        obtain ⟨u, v, _, hv, h4, h5⟩ := mid h2
        have all : ∀ {i}, Cn (E2 l m) c i → ∀ v, a[i]? = some v → v ≤ c := fun {i} h => by
          induction h with
          | refl => exact fun v hv => (G.low c v hv).1
          | @step j k _ e ih2 =>
            intro v hv
            obtain ⟨z, hz⟩ := at_lt (l := a) (i := j) (by rw [G.len]; exact e.1)
            exact cl j k z v e hz hv (ih2 z hz)
        have := all h1 v hv
        omega
      · refine .inr ?_
        have ex : ∃ (i j x y : Nat), E2 l m i j ∧ a[i]? = some x ∧ a[j]? = some y ∧ x ≤ c ∧ ¬ y ≤ c := by
          refine Classical.byContradiction fun no => cl fun i j x y h1 h2 h3 h4 => ?_
          refine Classical.byContradiction fun h5 => no ⟨i, j, x, y, h1, h2, h3, h4, h5⟩
        obtain ⟨i, j, x, y, h1, h2, h3, h4, h5⟩ := ex
        obtain ⟨v, hv⟩ := at_lt (l := d) (i := j) (by rw [Gd.len]; exact h1.2.1)
        have := cnt_lt (c := c) (G.len.trans Gd.len.symm) down h3 hv h5 (reach h1 h2 h4 hv)
        omega
theorem runs_join (hl : l.length = m.length) {a : List Nat} (r : Runs l m l.length a) : IsJoin (E2 l m) l.length a := by
  have G := runs_good hl r
  have half : ∀ {i j x y : Nat}, E2 l m i j → a[i]? = some x → a[j]? = some y → y ≤ x := fun {i j x y} e h1 h2 => by
    have hx : x < l.length := by
      have := (G.low i x h1).1
      have := e.1
      omega
    have c := ((G.low i x h1).2.symm E2.symm).trans (Cn.one e)
    rcases runs_all hl hx r with h | h
    · exact h j y c h2
    · have h3 := cnt_le x a
      rw [G.len] at h3
      omega
  refine ⟨G, fun i j e => ?_⟩
  obtain ⟨x, hx⟩ := at_lt (l := a) (i := i) (by rw [G.len]; exact e.1)
  obtain ⟨y, hy⟩ := at_lt (l := a) (i := j) (by rw [G.len]; exact e.2.1)
  rw [hx, hy]
  congr 1
  exact Nat.le_antisymm (half (E2.symm _ _ e) hy hx) (half e hx hy)
end
end Mth

set_option Elab.async false
set_option linter.all false
set_option maxRecDepth 100000
set_option maxHeartbeats 2000000
namespace DL
open PySem PySem.Spec PyProof.Rows L2 LamX
def tupK (ks : List Key) : D := .tup (ks.map fun k => .val (kV k))
end DL
namespace Tw
open PySem PySem.Spec PyProof.Rows L2 LamX DL Mth
def fAt {α : Type} [DecidableEq α] : List α → Nat → α → Option V
  | [], _, _ => none
  | x :: xs, s, m => if m = x then some (.int (s : Nat)) else fAt xs (s + 1) m
theorem fAt_mem {α : Type} [DecidableEq α] : ∀ {ms : List α} {s : Nat} {m : α}, m ∈ ms → fAt ms s m = some (.int ((s + ms.idxOf m : Nat) : Int))
  | [], s, m, h => by cases h
  | x :: xs, s, m, h => by
    unfold fAt
    by_cases e : m = x
    · rw [if_pos e, e, List.idxOf_cons_self]
      rfl
    · have e2 : (x == m) = false := beq_eq_false_iff_ne.mpr fun z => e z.symm
      have e3 : (x :: xs).idxOf m = xs.idxOf m + 1 := by
        rw [List.idxOf_cons, e2]
        rfl
      have e4 : s + 1 + xs.idxOf m = s + (xs.idxOf m + 1) := by omega
      rw [if_neg e, fAt_mem (List.mem_of_ne_of_mem e h), e3, e4]
theorem fAt_step {α : Type} [DecidableEq α] {ms : List α} {p : Nat} {m j : α} (h : ms[p]? = some m) : fAt (ms.drop p) p j = if j = m then some (.int (p : Nat)) else fAt (ms.drop (p + 1)) (p + 1) j := by
  obtain ⟨hp, e⟩ := List.getElem?_eq_some_iff.mp h
  rw [List.drop_eq_getElem_cons hp, e]
  rfl
def lowK (kss : List (List Key)) : List Nat := @lowG (List Key) instBEqOfDecidableEq kss
def ixK (kss : List (List Key)) (m : List Key) : Nat := @List.idxOf (List Key) instBEqOfDecidableEq m kss
def pairK (lo : List Nat) (ks : List Key) : List (List Key) := (lo.zip ks).map fun p => [.inl (p.1 : Int), p.2]
def keysN (lo : List Nat) : List Key := lo.map fun (x : Nat) => .inl (x : Int)
theorem pair_low (lo lo2 : List Nat) : lowK (pairK lo (keysN lo2)) = lowG (lo.zip lo2) := by
  refine @low_eq (List Key) (Nat × Nat) instBEqOfDecidableEq _ _ _ _ _ ?_
  have e : pairK lo (keysN lo2) = (lo.zip lo2).map fun p => [Sum.inl (p.1 : Int), Sum.inl (p.2 : Int)] := by
    unfold pairK keysN
    rw [List.zip_map_right, List.map_map]
    rfl
  rw [e]
  refine pat_map fun a _ b _ h => ?_
  simp only [List.cons.injEq, Sum.inl.injEq, and_true] at h
  exact Prod.ext (by exact_mod_cast h.1) (by exact_mod_cast h.2)
def spPlacesT : SpD := fun ds w κ χ => ∃ kss : List (List Key), ds = [.lst (kss.map tupK)] ∧ kss.length ≤ 12 ∧ κ (nats (lowK kss)) w
abbrev sSame2 : Stmt := top 13
abbrev sMerged : Stmt := top 15
abbrev sFin : Stmt := sM 9
abbrev sParted : Stmt := sM 10
abbrev sAnd : Stmt := sM 12
abbrev sOr : Stmt := sM 13
def spSame2 (C CM : Addr) : SpD := fun ds w κ χ => ∃ lo lo2, ds = [spl C lo, spl C lo2] ∧ lo.length ≤ 12 ∧ lo2.length ≤ 12 ∧ (lo.length = lo2.length → κ N w) ∧ (lo.length ≠ lo2.length → χ CM ["second", "first"] [I (lo2.length : Int), I (lo.length : Int)] w)
def spMerged : SpD := fun ds w κ χ => ∃ (m : List Nat) (i j : Nat), ds = [nats m, I (i : Int), I (j : Int)] ∧ m.length ≤ 12 ∧ i < m.length ∧ j < m.length ∧ κ (nats (mergeN m i j)) w
def finN (lo lo2 : List Nat) : Bool := (List.range lo.length).all fun (i : Nat) => decide (markAt lo2 (i : Int) = markAt lo2 (markAt lo (i : Int) : Int))
def spFin (C CM : Addr) : SpD := fun ds w κ χ => ∃ lo lo2, ds = [spl C lo, spl C lo2] ∧ IsLow lo ∧ lo.length ≤ 12 ∧ lo2.length ≤ 12 ∧ (lo.length = lo2.length → κ (B (finN lo lo2)) w) ∧ (lo.length ≠ lo2.length → χ CM ["second", "first"] [I (lo2.length : Int), I (lo.length : Int)] w)
def spParted (C CM : Addr) : SpD := fun ds w κ χ => ∃ (lo : List Nat) (ks : List Key) (d : D), ds = [spl C lo, d] ∧ Lk w d (ks.map fun k => .val (kV k)) ∧ 1 ≤ lo.length ∧ lo.length ≤ 12 ∧ ks.length ≤ 1000 ∧
  (ks.length = lo.length → κ (spl C (lowK (pairK lo ks))) w) ∧ (ks.length ≠ lo.length → χ CM ["second", "first"] [I (ks.length : Int), I (lo.length : Int)] w)
def spAnd (C CM : Addr) : SpD := fun ds w κ χ => ∃ lo lo2, ds = [spl C lo, spl C lo2] ∧ 1 ≤ lo.length ∧ lo.length ≤ 12 ∧ lo2.length ≤ 12 ∧
  (lo.length = lo2.length → κ (spl C (lowG (lo.zip lo2))) w) ∧ (lo.length ≠ lo2.length → χ CM ["second", "first"] [I (lo2.length : Int), I (lo.length : Int)] w)
def spOr (C CM : Addr) : SpD := fun ds w κ χ => ∃ lo lo2, ds = [spl C lo, spl C lo2] ∧ IsLow lo ∧ IsLow lo2 ∧ 1 ≤ lo.length ∧ lo.length ≤ 12 ∧ lo2.length ≤ 12 ∧
  (lo.length = lo2.length → κ (spl C (orN lo lo2)) w) ∧ (lo.length ≠ lo2.length → χ CM ["second", "first"] [I (lo2.length : Int), I (lo.length : Int)] w)
theorem lowN_G (ms : List Int) : lowN ms = lowG ms := rfl
theorem low_casts (m : List Nat) : lowN (casts m) = lowG m := by
  rw [lowN_G]
  exact low_eq (pat_map fun a _ b _ e => by exact_mod_cast e)
theorem eo_spl (C : Addr) (xs : List Int) : D.obj C ["size", "_marks"] [I (xs.length : Int), nats (lowN xs)] = spl C (lowN xs) := by
  unfold spl
  rw [low_len]
theorem mark_val {lo : List Nat} {i x : Nat} (h : lo[i]? = some x) : markAt lo i = x := by
  unfold markAt
  rw [Int.toNat_natCast, List.getD_eq_getElem?_getD, h]
  rfl
theorem log_small {n : Nat} (h : n ≤ 1000) : ((n : Int)).natAbs.log2 < 1920 := log_of (Nat.lt_of_lt_of_le (by omega : _ < 2000) (by decide))
section
variable {P : Program} {w : PySem.World} {K : PySem.W.Frag} {mg : Str → Option Value} {base : Heap} {T : List (Addr × Str)} {C CU CB CM : Addr}
theorem ok_placesT {f : Addr} {fd : FuncData} (G : Fun K "first_places" "first_places" sPlaces f fd) (hm : Nm2 mg) (hrv : mg "reversed" = none) : FnOk P w K mg base CX0 3 f fd ["items"] (spOf K T spPlacesT) := by
  refine fnD G scPlaces (fun ds w κ χ h => ?_) (fun cdv A outer s H E ds w0 κ χ hr h => ?_)
  · obtain ⟨kss, rfl, _⟩ := h
    rfl
  obtain ⟨kss, rfl, hz, k⟩ := h
  have nd := scPlaces.nd
  have hu := Nat.lt_of_le_of_lt (Nat.add_le_add_left (show 1 ≤ 64 by decide) _) hr.units
  refine pssd_cons (psd_set (i := 1) nd rfl ?_)
  refine pd_dcT (own := [("place", 2)]) (is := [2]) hr.units0 rfl nd (blkOk_by rfl) (by decide) ?_
  refine it_revR hrv hm.range ?_
  refine pd_callB call_len_seq rfl hm.len PySem.boot_len ?_
  refine pad_cons ?_
  refine pd_var (i := 0) rfl rfl ?_
  refine pad_nil ?_
  refine va_len ?_
  rw [List.length_map]
  refine ⟨kss.length, rfl, by omega, ?_⟩
  refine ⟨by rw [downs_len]; exact small1000 (by omega), fun i acc w' => (i ≤ kss.length → ∀ m, valV acc m = fAt (kss.drop (kss.length - i)) (kss.length - i) m) ∧ w' = w0, ⟨fun _ m => ?_, rfl⟩, ?_, ?_⟩
  · rw [Nat.sub_zero, List.drop_length]
    rfl
  · rintro i d' acc w' hd ⟨hv, rfl⟩ s H0 C1 cl1 fp1
    obtain ⟨hi, rfl⟩ := downs_at hd
    have hp : kss.length - 1 - i < kss.length := by omega
    have hg : kss[kss.length - 1 - i]? = some (kss[kss.length - 1 - i]) := List.getElem?_eq_getElem hp
    refine pgl_name nd rfl ?_
    intro s H0 C1 cl1 fp1
    refine pd_ix ix_list ?_
    refine pd_var (i := 0) rfl rfl ?_
    refine pd_var (i := 2) rfl rfl ?_
    refine vr_ixL (d := tupK (kss[kss.length - 1 - i])) (by rw [List.getElem?_map, hg]; rfl) ?_
    intro s H0 C1 cl1 fp1
    refine pd_var (i := 2) rfl rfl ?_
    refine ⟨kss[kss.length - 1 - i], _, rfl, rfl, fun _ m => ?_, rfl⟩
    have e1 : kss.length - (i + 1) = kss.length - 1 - i := by omega
    have e2 : kss.length - 1 - i + 1 = kss.length - i := by omega
    rw [valV_put, hv (by omega), e1, fAt_step hg, e2]
  rintro acc w' ⟨hv, rfl⟩
  rw [downs_len] at hv
  have hv := hv (Nat.le_refl _)
  rw [Nat.sub_self, List.drop_zero] at hv
  refine pssd_one (psd_ret ?_)
  refine pd_lc (own := [("item", 3)]) (is := [3]) rfl nd (blkOk_by rfl) (by decide) ?_
  refine it_list ?_
  refine pd_var (i := 0) rfl rfl ?_
  refine ⟨_, rfl, ?_⟩
  refine lcd_map (fun m => I ((ixK kss m : Nat) : Int)) (small1000 (by omega)) (fun m hm s H0 C cl fp => ?_) ?_
  · refine pgl_name nd rfl ?_
    intro s H0 C cl fp
    refine ptsd_nil ?_
    intro s H0 C cl fp
    refine pd_dgetT hu ?_
    refine pd_var (i := 1) rfl rfl ?_
    refine pd_var (i := 3) rfl rfl ?_
    refine ⟨_, m, _, rfl, rfl, (hv m).trans (fAt_mem hm), ?_⟩
    rw [Nat.zero_add]
    exact ⟨rfl, rfl, rfl⟩
  · have e : D.lst (kss.map fun m => I ((ixK kss m : Nat) : Int)) = nats (lowK kss) := by
      unfold nats lowK lowG
      rw [List.map_map]
      rfl
    show κ (.lst (kss.map fun m => I ((ixK kss m : Nat) : Int))) w'
    rw [e]
    exact k
theorem scSame2 : FnScope ["one", "other"] ["one", "other"] (defScope sSame2) := ⟨rfl, rfl, rfl, by decide +kernel, rfl, by decide +kernel, by decide +kernel⟩
theorem ok_same2 {f : Addr} {fd : FuncData} (G : Fun K "_check_same_size" "_check_same_size" sSame2 f fd) (c : SplC K C) (hE : HasE2 P w K mg base "SizeMismatch" CM 1 "first" "second") : FnOk P w K mg base (L2.CX P w) 3 f fd ["one", "other"] (spOf K T (spSame2 C CM)) := by
  refine fnX G scSame2 (fun ds w κ χ h => ?_) (fun cdv A outer s H E ds w0 κ χ hr h => ?_)
  · obtain ⟨lo, lo2, rfl, _⟩ := h
    rfl
  obtain ⟨lo, lo2, rfl, h1, h2, k1, k2⟩ := h
  refine pssd_one (psd_if ?_)
  refine ptd_cmp op_ne ?_
  refine pd_fld c.cl c.nS ?_
  refine pd_var (i := 0) rfl rfl ?_
  refine ⟨_, fld_size, ?_⟩
  refine pd_fld c.cl c.nS ?_
  refine pd_var (i := 1) rfl rfl ?_
  refine ⟨_, fld_size, ?_⟩
  refine vr_ne rfl ?_
  refine ⟨_, rfl, ?_⟩
  rw [int_eq_dec]
  refine ite2 (fun q => ?_) (fun q => ?_)
  · refine pssd_one (psd_raiseH2 rfl takesX hE hr ?_)
    refine pd_fld c.cl c.nS ?_
    refine pd_var (i := 0) rfl rfl ?_
    refine ⟨_, fld_size, ?_⟩
    refine pd_fld c.cl c.nS ?_
    refine pd_var (i := 1) rfl rfl ?_
    refine ⟨_, fld_size, ?_⟩
    exact ⟨_, _, rfl, rfl, log_small (by omega), log_small (by omega), k2 (by simpa using q)⟩
  · exact pssd_nil (k1 (by simpa using q))
theorem scMerged : FnScope ["marks", "first", "second", "low", "high", "mark"] ["marks", "first", "second"] (defScope sMerged) := ⟨rfl, rfl, rfl, by decide +kernel, rfl, by decide +kernel, by decide +kernel⟩
theorem va_two {r : List V → Hp → VK → Prop} {g : Int → Int → Int} {w : Wp} {κ : D → Wp → Prop} {i j : Int} (hr : r = fun xs H Q => ∃ i j, xs = [.int i, .int j] ∧ Q (.int (g i j)) H) (k : κ (I (g i j)) w) : VRA K T r [I i, I j] w κ := by
  subst hr
  intro F S H xs Q hW r hK
  obtain ⟨y, ys, rfl, h1, z, zs, rfl, h2, h3⟩ := r
  have h1' : y = .int i := h1
  have h2' : z = .int j := h2
  have h3' : zs = [] := h3
  subst h1' h2' h3'
  exact ⟨i, j, rfl, hK _ w _ S H k (Same.refl _) hW rfl⟩
theorem bt_min : bootBuiltins "min" = some (.builtin "min") := by decide +kernel
theorem bt_max : bootBuiltins "max" = some (.builtin "max") := by decide +kernel
theorem ok_merged {f : Addr} {fd : FuncData} (G : Fun K "_merged_marks" "_merged_marks" sMerged f fd) (hmn : mg "min" = none) (hmx : mg "max" = none) : FnOk P w K mg base CX0 1 f fd ["marks", "first", "second"] (spOf K T spMerged) := by
  refine fnD G scMerged (fun ds w κ χ h => ?_) (fun cdv A outer s H E ds w0 κ χ hr h => ?_)
  · obtain ⟨m, i, j, rfl, _⟩ := h
    rfl
  obtain ⟨m, i, j, rfl, hz, hi, hj, k⟩ := h
  have nd := scMerged.nd
  obtain ⟨a, ha⟩ := at_lt hi
  obtain ⟨b, hb⟩ := at_lt hj
  refine pssd_cons (psd_set (i := 3) nd rfl ?_)
  refine pd_callB (call_min2 rfl) rfl hmn bt_min ?_
  refine pad_cons ?_
  refine pd_ix ix_list ?_
  refine pd_var (i := 0) rfl rfl ?_
  refine pd_var (i := 1) rfl rfl ?_
  refine vr_ixL (nl_at ha) ?_
  refine pad_cons ?_
  refine pd_ix ix_list ?_
  refine pd_var (i := 0) rfl rfl ?_
  refine pd_var (i := 2) rfl rfl ?_
  refine vr_ixL (nl_at hb) ?_
  refine pad_nil ?_
  refine va_two (g := fun i j => if j < i then j else i) rfl ?_
  have e1 : (if (b : Int) < (a : Int) then (b : Int) else (a : Int)) = ((min a b : Nat) : Int) := by
    by_cases q : (b : Int) < (a : Int)
    · rw [if_pos q]
      congr 1
      omega
    · rw [if_neg q]
      congr 1
      omega
  rw [e1]
  refine pssd_cons (psd_set (i := 4) nd rfl ?_)
  refine pd_callB (call_max2 rfl) rfl hmx bt_max ?_
  refine pad_cons ?_
  refine pd_ix ix_list ?_
  refine pd_var (i := 0) rfl rfl ?_
  refine pd_var (i := 1) rfl rfl ?_
  refine vr_ixL (nl_at ha) ?_
  refine pad_cons ?_
  refine pd_ix ix_list ?_
  refine pd_var (i := 0) rfl rfl ?_
  refine pd_var (i := 2) rfl rfl ?_
  refine vr_ixL (nl_at hb) ?_
  refine pad_nil ?_
  refine va_two (g := fun i j => if j > i then j else i) rfl ?_
  have e2 : (if (b : Int) > (a : Int) then (b : Int) else (a : Int)) = ((max a b : Nat) : Int) := by
    by_cases q : (b : Int) > (a : Int)
    · rw [if_pos q]
      congr 1
      omega
    · rw [if_neg q]
      congr 1
      omega
  rw [e2]
  refine pssd_one (psd_ret ?_)
  refine pd_lc (own := [("mark", 5)]) (is := [5]) rfl nd (blkOk_by rfl) (by decide) ?_
  refine it_list ?_
  refine pd_var (i := 0) rfl rfl ?_
  refine ⟨_, rfl, ?_⟩
  refine lcd_map (fun (x : Nat) => I (((if x = max a b then min a b else x : Nat)) : Int)) (small1000 (by omega)) (fun x hx s H0 C cl fp => ?_) ?_
  · refine pgl_name nd rfl ?_
    intro s H0 C cl fp
    refine ptsd_nil ?_
    intro s H0 C cl fp
    refine pd_if ?_
    refine ptd_cmp op_eq ?_
    refine pd_var (i := 5) rfl rfl ?_
    refine pd_var (i := 4) rfl rfl ?_
    refine vr_eq rfl ?_
    refine ⟨_, rfl, ?_⟩
    rw [int_eq_dec]
    refine ite2 (fun q => ?_) (fun q => ?_)
    · refine pd_var (i := 3) rfl rfl ?_
      refine ⟨rfl, ?_, rfl⟩
      rw [if_pos (by simpa using q)]
    · refine pd_var (i := 5) rfl rfl ?_
      refine ⟨rfl, ?_, rfl⟩
      rw [if_neg (by simpa using q)]
  · have e : D.lst (m.map fun (x : Nat) => I (((if x = max a b then min a b else x : Nat)) : Int)) = nats (mergeN m i j) := by
      unfold nats mergeN
      rw [List.map_map, getD_of ha, getD_of hb]
      rfl
    show κ (.lst (m.map fun (x : Nat) => I (((if x = max a b then min a b else x : Nat)) : Int))) w0
    rw [e]
    exact k
end
end Tw

set_option Elab.async false
set_option linter.all false
set_option maxRecDepth 100000
set_option maxHeartbeats 2000000
namespace Tw
open PySem PySem.Spec PyProof.Rows L2 LamX DL Mth
theorem va_all {K : PySem.W.Frag} {T : List (Addr × Str)} {w : Wp} {κ : D → Wp → Prop} {bs : List Bool} (k : κ (B (bs.all id)) w) : VRA K T (rAll K) [.lst (bs.map B)] w κ := fun F S H xs Q hW r hK => by
  obtain ⟨y, ys, rfl, h1, h2⟩ := r
  obtain ⟨a, zs, rfl, h3, h4⟩ := h1
  have h2' : ys = [] := h2
  subst h2'
  have e : bs.map B = (bs.map V.bl).map D.val := by
    rw [List.map_map]
    rfl
  rw [e] at h4
  have e2 := h4.vals
  subst e2
  exact ⟨a, bs, rfl, SqL.of (hW.same _ _ h3), hK _ w _ S H k (Same.refl _) hW rfl⟩
theorem bt_all : bootBuiltins "all" = some (.builtin "all") := by decide +kernel
theorem low_lt {lo : List Nat} (h : IsLow lo) {i : Nat} (hi : i < lo.length) : markAt lo i < lo.length := by
  have := (h i _ (mark_at hi)).1
  omega
section
variable {P : Program} {w : PySem.World} {K : PySem.W.Frag} {mg : Str → Option Value} {base : Heap} {T : List (Addr × Str)} {C CU CB CM : Addr}
theorem scParted : FnScope ["self", "words"] ["self", "words"] (defScope sParted) := ⟨rfl, rfl, rfl, by decide +kernel, rfl, by decide +kernel, by decide +kernel⟩
theorem zip_pair (lo : List Nat) (ks : List Key) : zipD (lo.map fun (x : Nat) => V.int (x : Int)) (ks.map kV) = (pairK lo ks).map tupK := by
  unfold zipD pairK
  rw [List.zip_map, List.map_map, List.map_map]
  rfl
theorem pair_len {lo : List Nat} {ks : List Key} (h : ks.length = lo.length) : (pairK lo ks).length = lo.length := by
  unfold pairK
  rw [List.length_map, List.length_zip]
  omega
theorem lowK_len (kss : List (List Key)) : (lowK kss).length = kss.length := List.length_map _
theorem lowK_low (kss : List (List Key)) : IsLow (lowK kss) := @low_isLow (List Key) instBEqOfDecidableEq _ kss
theorem low_casts_of {m : List Nat} (h : IsLow m) : lowN (casts m) = m := (low_casts m).trans (isLow_low h)
theorem nats_casts (m : List Nat) : nats m = .lst ((casts m).map I) := by
  show D.lst (nl m) = _
  rw [nl_casts]
theorem nats_vals (m : List Nat) : nats m = .lst ((m.map fun (x : Nat) => V.int (x : Int)).map D.val) := by
  unfold nats
  rw [List.map_map]
  rfl
theorem ok_parted {f : Addr} {fd : FuncData} (G : Fun K "parted" "Split.parted" sParted f fd) (hm : Nm2 mg) (hz : mg "zip" = none) (c : SplC K C) (hE : HasE2 P w K mg base "SizeMismatch" CM 1 "first" "second")
    (hF : HasF P w K mg base T CX0 "first_places" 3 ["items"] spPlacesT) (hMk : HasMk P w K mg base T (L2.CX P w) "Split" C 4 ["self", "marks"] (spInit C CB)) :
    FnOk P w K mg base (L2.CX P w) 6 f fd ["self", "words"] (spOf K T (spParted C CM)) := by
  refine fnX G scParted (fun ds w κ χ h => ?_) (fun cdv A outer s H E ds w0 κ χ hr h => ?_)
  · obtain ⟨lo, ks, d, rfl, _⟩ := h
    rfl
  obtain ⟨lo, ks, d, rfl, hl, h1, h12, hk, k1, k2⟩ := h
  have nd := scParted.nd
  refine pssd_cons (psd_if ?_)
  refine ptd_cmp op_ne ?_
  refine pd_callB call_len_seq rfl hm.len PySem.boot_len ?_
  refine pad_cons ?_
  refine pd_var (i := 1) rfl rfl ?_
  refine pad_nil ?_
  refine va_lenK hl ?_
  rw [List.length_map]
  refine pd_fld c.cl c.nS ?_
  refine pd_var (i := 0) rfl rfl ?_
  refine ⟨_, fld_size, ?_⟩
  refine vr_ne rfl ?_
  refine ⟨_, rfl, ?_⟩
  rw [int_eq_dec]
  refine ite2 (fun q => ?_) (fun q => ?_)
  · refine pssd_one (psd_raiseH2 rfl takesX hE (hr.mono (by decide)) ?_)
    refine pd_fld c.cl c.nS ?_
    refine pd_var (i := 0) rfl rfl ?_
    refine ⟨_, fld_size, ?_⟩
    refine pd_callB call_len_seq rfl hm.len PySem.boot_len ?_
    refine pad_cons ?_
    refine pd_var (i := 1) rfl rfl ?_
    refine pad_nil ?_
    refine va_lenK hl ?_
    rw [List.length_map]
    exact ⟨_, _, rfl, rfl, log_small (by omega), log_small (by omega), k2 (by simpa using q)⟩
  refine pssd_nil ?_
  have e : ks.length = lo.length := by simpa using q
  have k := k1 e
  refine pssd_one (psd_ret ?_)
  refine pd_hasmk hMk (hr.mono (by decide)) passX ?_
  refine pad_cons ?_
  refine pd_has hF (hr.mono (by decide)) (fun _ => pass0At) ?_
  refine pad_cons ?_
  refine pd_listZip rfl hm.list hz ?_
  refine pad_cons ?_
  refine pd_fld c.cl c.nM ?_
  refine pd_var (i := 0) rfl rfl ?_
  refine ⟨_, fld_marks, ?_⟩
  refine pad_cons ?_
  refine pd_var (i := 1) rfl rfl ?_
  refine pad_nil ?_
  refine ⟨_, d, lo.map fun (x : Nat) => V.int (x : Int), ks.map kV, rfl, .inl (nats_vals lo), by rw [List.map_map]; exact hl, by rw [List.length_map, List.length_map]; exact e.symm, by rw [List.length_map]; omega, ?_⟩
  rw [zip_pair]
  refine pad_nil ?_
  refine ⟨pairK lo ks, rfl, by rw [pair_len e]; exact h12, ?_⟩
  refine pad_nil ?_
  intro a dx ha
  have en : (casts (lowK (pairK lo ks))).length = lo.length := by
    unfold casts
    rw [List.length_map, lowK_len, pair_len e]
  refine ⟨a, dx, _, casts (lowK (pairK lo ks)), rfl, wu_same, .inl (nats_casts _), by omega, fun _ => ⟨rfl, _, _, wu_same, ?_⟩, fun z => absurd ⟨by omega, by omega⟩ z⟩
  rw [wu_wu, wd_wu ha, eo_spl, low_casts_of (lowK_low _)]
  exact k
theorem keys_nats (lo : List Nat) : nl lo = (keysN lo).map fun k => D.val (kV k) := by
  unfold nl keysN
  rw [List.map_map]
  rfl
theorem keys_len (lo : List Nat) : (keysN lo).length = lo.length := List.length_map _
end
end Tw

set_option Elab.async false
set_option linter.all false
set_option maxRecDepth 100000
set_option maxHeartbeats 2000000
/-! The text of a split, and what it reads back to: splitting what was joined, the partition, both readings. -/
namespace Tw
open PySem PySem.Spec PyProof.Rows L2 LamX DL Mth
abbrev cm : Str := ⟨#[44]⟩
abbrev br : Str := ⟨#[124]⟩
/-! ### joined and split again -/
theorem Str.eq_of_list {a b : Str} (h : a.cps.toList = b.cps.toList) : a = b := Str.ext' (Array.toList_inj.mp h)
theorem join_two (c : Nat) (x y : Str) (r : List Str) : (Str.join ⟨#[c]⟩ (x :: y :: r)).cps.toList = x.cps.toList ++ c :: (Str.join ⟨#[c]⟩ (y :: r)).cps.toList := by
  show ((x ++ ⟨#[c]⟩ ++ Str.join ⟨#[c]⟩ (y :: r)) : Str).cps.toList = _
  rw [Str.cps_append, Str.cps_append, Array.toList_append, Array.toList_append]
  simp
theorem cut_inj {c : Nat} : ∀ {a b x y : List Nat}, c ∉ a → c ∉ b → a ++ c :: x = b ++ c :: y → a = b ∧ x = y
  | [], [], x, y, _, _, h => ⟨rfl, (List.cons.inj h).2⟩
  | [], u :: b, x, y, _, hb, h => absurd (List.mem_cons_self ..) (by rw [← (List.cons.inj h).1] at hb; exact hb)
  | u :: a, [], x, y, ha, _, h => absurd (List.mem_cons_self ..) (by rw [(List.cons.inj h).1] at ha; exact ha)
  | u :: a, v :: b, x, y, ha, hb, h => by
    obtain ⟨h1, h2⟩ := List.cons.inj h
    obtain ⟨h3, h4⟩ := cut_inj (fun z => ha (List.mem_cons_of_mem _ z)) (fun z => hb (List.mem_cons_of_mem _ z)) h2
    exact ⟨by rw [h1, h3], h4⟩
def FreeOf (c : Nat) (ps : List Str) : Prop := ∀ p ∈ ps, c ∉ p.cps.toList
theorem join_inj (c : Nat) : ∀ {xs ys : List Str}, xs ≠ [] → ys ≠ [] → FreeOf c xs → FreeOf c ys → Str.join ⟨#[c]⟩ xs = Str.join ⟨#[c]⟩ ys → xs = ys
  | [], _, h, _, _, _, _ => absurd rfl h
  | _, [], _, h, _, _, _ => absurd rfl h
  | [x], [y], _, _, _, _, h => by
    have h' : x = y := h
    rw [h']
  | [x], y :: z :: r, _, _, fx, _, h => by
    have h' : x.cps.toList = (Str.join ⟨#[c]⟩ (y :: z :: r)).cps.toList := congrArg (fun s : Str => s.cps.toList) h
    rw [join_two] at h'
    exact absurd (by rw [h']; exact List.mem_append_right _ (List.mem_cons_self ..)) (fx x (List.mem_cons_self ..))
  | x :: u :: q, [y], _, _, _, fy, h => by
    have h' : (Str.join ⟨#[c]⟩ (x :: u :: q)).cps.toList = y.cps.toList := congrArg (fun s : Str => s.cps.toList) h
    rw [join_two] at h'
    exact absurd (by rw [← h']; exact List.mem_append_right _ (List.mem_cons_self ..)) (fy y (List.mem_cons_self ..))
  | x :: u :: q, y :: z :: r, _, _, fx, fy, h => by
    have h' := congrArg (fun s : Str => s.cps.toList) h
    simp only [join_two] at h'
    obtain ⟨h1, h2⟩ := cut_inj (fx x (List.mem_cons_self ..)) (fy y (List.mem_cons_self ..)) h'
    have := join_inj c (xs := u :: q) (ys := z :: r) (by simp) (by simp) (fun p hp => fx p (List.mem_cons_of_mem _ hp)) (fun p hp => fy p (List.mem_cons_of_mem _ hp)) (Str.eq_of_list h2)
    rw [Str.eq_of_list h1, this]
theorem split_ne (t : Str) (c : Nat) : Txt.split t ⟨#[c]⟩ ≠ [] := fun z => by
  have := PyProof.Rows.split_pos t ⟨#[c]⟩
  rw [z] at this
  exact absurd this (by simp)
theorem split_join {c : Nat} {ps : List Str} (h0 : ps ≠ []) (hf : FreeOf c ps) : Txt.split (Str.join ⟨#[c]⟩ ps) ⟨#[c]⟩ = ps :=
  join_inj c (split_ne _ _) h0 (fun p hp => StrLaws.split_free _ c p hp) hf (StrLaws.join_split _ _)
theorem txt_join (s : Str) (ps : List Str) : Txt.join s ps = Str.join s ps := StrLaws.glued_eq_join s ps
theorem free_join {c d : Nat} (hcd : c ≠ d) : ∀ {ps : List Str}, FreeOf c ps → c ∉ (Str.join ⟨#[d]⟩ ps).cps.toList
  | [], _ => by
    show c ∉ Str.empty.cps.toList
    simp [Str.empty]
  | [x], h => h x (List.mem_cons_self ..)
  | x :: y :: r, h => by
    rw [join_two]
    intro z
    rcases List.mem_append.mp z with z | z
    · exact h x (List.mem_cons_self ..) z
    · cases z with
      | head => exact hcd rfl
      | tail _ z => exact free_join hcd (fun p hp => h p (List.mem_cons_of_mem _ hp)) z
theorem join_len (c : Nat) : ∀ (ps : List Str), ps ≠ [] → (Str.join ⟨#[c]⟩ ps).length + 1 = (ps.map (·.length)).sum + ps.length
  | [], h => absurd rfl h
  | [x], _ => by
    show x.length + 1 = [x.length].sum + 1
    simp
  | x :: y :: r, _ => by
    have ih := join_len c (y :: r) (by simp)
    have e : (Str.join ⟨#[c]⟩ (x :: y :: r)).length = x.length + 1 + (Str.join ⟨#[c]⟩ (y :: r)).length := by
      show ((x ++ ⟨#[c]⟩ ++ Str.join ⟨#[c]⟩ (y :: r)) : Str).length = _
      rw [Str.length_append, Str.length_append]
      rfl
    simp only [List.map_cons, List.sum_cons, List.length_cons] at ih ⊢
    omega
theorem split_len (c : Nat) (t : Str) : t.length + 1 = ((Txt.split t ⟨#[c]⟩).map (·.length)).sum + (Txt.split t ⟨#[c]⟩).length := by
  have h := join_len c _ (split_ne t c)
  rw [StrLaws.join_split] at h
  exact h
/-! ### the names of the cases -/
def nm (k : Nat) : Str := (toString (k : Int) : String)
theorem nm_free : ∀ k < 12, 44 ∉ (nm k).cps.toList ∧ 124 ∉ (nm k).cps.toList := by decide +kernel
theorem nm_inj : ∀ i < 12, ∀ j < 12, nm i = nm j → i = j := by decide +kernel
theorem nm_len : ∀ k < 20, (nm k).length ≤ 2 := by decide +kernel
/-! ### the cells -/
def cellsT (lo : List Nat) : List (List Nat) := (heads lo).map (cellN lo)
def cTx (c : List Nat) : Str := Str.join cm (c.map nm)
def tx (lo : List Nat) : Str := Str.join br ((cellsT lo).map cTx)
def wordsOf (t : Str) : List (List Str) := (Txt.split t br).map fun p => Txt.split p cm
theorem mem_cell {lo : List Nat} {m o : Nat} : o ∈ cellN lo m ↔ o < lo.length ∧ lo[o]? = some m := by
  unfold cellN
  rw [List.mem_filter, List.mem_range, decide_eq_true_eq]
theorem mem_heads {lo : List Nat} {c : Nat} : c ∈ heads lo ↔ c < lo.length ∧ lo[c]? = some c := by
  unfold heads
  rw [List.mem_filter, List.mem_range, decide_eq_true_eq]
theorem cell_ne {lo : List Nat} {c : Nat} (h : c ∈ heads lo) : cellN lo c ≠ [] := fun z => by
  have := mem_cell.mpr (mem_heads.mp h)
  rw [z] at this
  cases this
theorem heads_ne {lo : List Nat} (h : lo[0]? = some 0) : heads lo ≠ [] := fun z => by
  have := mem_heads.mpr ⟨(List.getElem?_eq_some_iff.mp h).1, h⟩
  rw [z] at this
  cases this
theorem isLow0 {lo : List Nat} (h : IsLow lo) (h1 : 1 ≤ lo.length) : lo[0]? = some 0 := by
  obtain ⟨x, hx⟩ := at_lt (show 0 < lo.length by omega)
  have := (h 0 x hx).1
  have e : x = 0 := by omega
  rw [hx, e]
theorem cells_sort (lo : List Nat) : ∀ r ∈ cellsT lo, r.Pairwise (· < ·) := fun r hr => by
  obtain ⟨c, _, rfl⟩ := List.mem_map.mp hr
  exact List.pairwise_lt_range.filter _
theorem heads_sort (lo : List Nat) : (heads lo).Pairwise (· < ·) := List.pairwise_lt_range.filter _
theorem cells_perm {lo : List Nat} (h : IsLow lo) : (cellsT lo).flatten.Perm (List.range lo.length) := by
  refine (List.perm_ext_iff_of_nodup ?_ List.nodup_range).mpr fun a => ?_
  · refine List.pairwise_flatten.mpr ⟨fun r hr => (cells_sort lo r hr).imp fun q => Nat.ne_of_lt q, ?_⟩
    unfold cellsT
    refine List.pairwise_map.mpr ((heads_sort lo).imp fun {c d} q x hx y hy e => ?_)
    have h1 := (mem_cell.mp hx).2
    have h2 := (mem_cell.mp hy).2
    rw [e, h2] at h1
    have := Option.some.inj h1
    omega
  · rw [List.mem_flatten, List.mem_range]
    constructor
    · rintro ⟨r, hr, ha⟩
      obtain ⟨c, _, rfl⟩ := List.mem_map.mp hr
      exact (mem_cell.mp ha).1
    · intro ha
      obtain ⟨x, hx⟩ := at_lt ha
      have hx2 := h a x hx
      refine ⟨cellN lo x, List.mem_map_of_mem (mem_heads.mpr ⟨by omega, hx2.2⟩), mem_cell.mpr ⟨ha, hx⟩⟩
theorem cell_lt {lo : List Nat} (hz : lo.length ≤ 12) : ∀ r ∈ cellsT lo, ∀ k ∈ r, k < 12 := fun r hr k hk => by
  obtain ⟨c, _, rfl⟩ := List.mem_map.mp hr
  have := (mem_cell.mp hk).1
  omega
theorem words_tx {lo : List Nat} (h0 : lo[0]? = some 0) (hz : lo.length ≤ 12) : wordsOf (tx lo) = (cellsT lo).map fun r => r.map nm := by
  unfold wordsOf tx
  have ne : cellsT lo ≠ [] := fun z => heads_ne h0 (List.map_eq_nil_iff.mp z)
  have fr : ∀ r ∈ cellsT lo, FreeOf 124 (r.map nm) ∧ FreeOf 44 (r.map nm) := fun r hr => ⟨fun p hp => by
    obtain ⟨k, hk, rfl⟩ := List.mem_map.mp hp
    exact (nm_free k (cell_lt hz r hr k hk)).2, fun p hp => by
    obtain ⟨k, hk, rfl⟩ := List.mem_map.mp hp
    exact (nm_free k (cell_lt hz r hr k hk)).1⟩
  rw [split_join (c := 124) (fun z => ne (List.map_eq_nil_iff.mp z)) (fun p hp => by
    obtain ⟨r, hr, rfl⟩ := List.mem_map.mp hp
    exact free_join (by decide) (fr r hr).1), List.map_map]
  refine List.map_congr_left fun r hr => ?_
  refine split_join (c := 44) (fun z => ?_) (fr r hr).2
  obtain ⟨c, hc, rfl⟩ := List.mem_map.mp hr
  exact cell_ne hc (List.map_eq_nil_iff.mp z)
/-! ### the law's reading -/
/-- the rows of found cases -/
structure LR (t : Str) (m : List Nat) (fnd : List (List Nat)) : Prop where
  wd : wordsOf t = fnd.map fun r => r.map nm
  lt : ∀ r ∈ fnd, ∀ k ∈ r, k < 12
  up : ∀ r ∈ fnd, r.Pairwise (· ≤ ·)
  hd : (fnd.map fun r => r.headD 0).Pairwise (· ≤ ·)
  pm : fnd.flatten.Perm (List.range fnd.flatten.length)
  len : m.length = fnd.flatten.length
  at_ : ∀ r ∈ fnd, ∀ c ∈ r, m[c]? = some (r.headD 0)
theorem head_cell {lo : List Nat} (h : IsLow lo) {c : Nat} (hc : c ∈ heads lo) : (cellN lo c).headD 0 = c := by
  have m := mem_cell.mpr (mem_heads.mp hc)
  have s := cells_sort lo _ (List.mem_map_of_mem hc)
  cases e : cellN lo c with
  | nil =>
    rw [e] at m
    cases m
  | cons x l =>
    show x = c
    rw [e] at m s
    have hx : x ∈ cellN lo c := by
      rw [e]
      exact List.mem_cons_self ..
    have hx2 := h x c (mem_cell.mp hx).2
    cases m with
    | head => rfl
    | tail _ m =>
      have := (List.pairwise_cons.mp s).1 c m
      omega
theorem lr_tx {lo : List Nat} (h : IsLow lo) (h1 : 1 ≤ lo.length) (hz : lo.length ≤ 12) : LR (tx lo) lo (cellsT lo) := by
  have e : (cellsT lo).map (fun r => r.headD 0) = heads lo := by
    unfold cellsT
    rw [List.map_map]
    exact (List.map_congr_left fun c hc => head_cell h hc).trans (List.map_id _)
  have p := cells_perm h
  have el : (cellsT lo).flatten.length = lo.length := by rw [p.length_eq, List.length_range]
  refine ⟨words_tx (isLow0 h h1) hz, cell_lt hz, fun r hr => (cells_sort lo r hr).imp Nat.le_of_lt, ?_, by rw [el]; exact p, el.symm, fun r hr c hc => ?_⟩
  · rw [e]
    exact (heads_sort lo).imp Nat.le_of_lt
  · obtain ⟨d, hd, rfl⟩ := List.mem_map.mp hr
    rw [head_cell h hd]
    exact (mem_cell.mp hc).2
theorem row_ne {t : Str} {fnd : List (List Nat)} (w : wordsOf t = fnd.map fun r => r.map nm) : ∀ r ∈ fnd, r ≠ [] := fun r hr z => by
  have m : r.map nm ∈ wordsOf t := by
    rw [w]
    exact List.mem_map_of_mem hr
  obtain ⟨p, _, e⟩ := List.mem_map.mp m
  rw [z] at e
  exact split_ne p 44 e
theorem strict_of {l : List Nat} (h : l.Pairwise (· ≤ ·)) (n : l.Nodup) : l.Pairwise (· < ·) := by
  have := h.and n
  exact this.imp fun q => Nat.lt_of_le_of_ne q.1 q.2
theorem sorted_ext {l m : List Nat} (h1 : l.Pairwise (· < ·)) (h2 : m.Pairwise (· < ·)) (h : ∀ a, a ∈ l ↔ a ∈ m) : l = m :=
  List.Perm.eq_of_pairwise (le := (· < ·)) (fun a b _ _ x y => absurd x (by omega)) h1 h2 ((List.perm_ext_iff_of_nodup (h1.imp fun q => Nat.ne_of_lt q) (h2.imp fun q => Nat.ne_of_lt q)).mpr h)
theorem headD_mem {r : List Nat} (h : r ≠ []) : r.headD 0 ∈ r := by
  cases r with
  | nil => exact absurd rfl h
  | cons x l => exact List.mem_cons_self ..
theorem LR.low {t : Str} {m : List Nat} {fnd : List (List Nat)} (h : LR t m fnd) : IsLow m ∧ 1 ≤ m.length ∧ m.length ≤ 12 ∧ t = tx m := by
  have ne := row_ne h.wd
  have fne : fnd ≠ [] := fun z => by
    have w := h.wd
    rw [z] at w
    exact split_ne t 124 (List.map_eq_nil_iff.mp w)
  have nd : fnd.flatten.Nodup := h.pm.nodup_iff.mpr List.nodup_range
  have ndp := List.pairwise_flatten.mp nd
  have mem : ∀ a, a < m.length ↔ a ∈ fnd.flatten := fun a => by rw [h.len, h.pm.mem_iff, List.mem_range]
  have strict : ∀ r ∈ fnd, r.Pairwise (· < ·) := fun r hr => strict_of (h.up r hr) (ndp.1 r hr)
  have head_le : ∀ r ∈ fnd, ∀ c ∈ r, r.headD 0 ≤ c := fun r hr c hc => by
    have s := h.up r hr
    cases r with
    | nil => cases hc
    | cons x l =>
      cases hc with
      | head => exact Nat.le_refl _
      | tail _ hc => exact (List.pairwise_cons.mp s).1 c hc
  have l12 : m.length ≤ 12 := by
    by_cases q : m.length ≤ 12
    · exact q
    · have := (mem 12).mp (by omega)
      obtain ⟨r, hr, hk⟩ := List.mem_flatten.mp this
      exact absurd (h.lt r hr 12 hk) (by omega)
  have lpos : 1 ≤ m.length := by
    obtain ⟨r, l, e⟩ := List.exists_cons_of_ne_nil fne
    have hr : r ∈ fnd := by
      rw [e]
      exact List.mem_cons_self ..
    have := (mem (r.headD 0)).mpr (List.mem_flatten.mpr ⟨r, hr, headD_mem (ne r hr)⟩)
    omega
  have low : IsLow m := fun i x hx => by
    have hi := (List.getElem?_eq_some_iff.mp hx).1
    obtain ⟨r, hr, hc⟩ := List.mem_flatten.mp ((mem i).mp hi)
    have e := h.at_ r hr i hc
    rw [hx] at e
    have e' := Option.some.inj e
    rw [e']
    exact ⟨head_le r hr i hc, h.at_ r hr _ (headD_mem (ne r hr))⟩
  refine ⟨low, lpos, l12, ?_⟩
  have inj : ∀ r ∈ fnd, ∀ s ∈ fnd, r.headD 0 = s.headD 0 → ∀ a, a ∈ r → a ∈ s := fun r hr s hs e a ha => by
    have hm := h.at_ r hr a ha
    refine Classical.byContradiction fun q => ?_
    -- a lies in r alone; the head lies in both
    have h1 : r.headD 0 ∈ r := headD_mem (ne r hr)
    have h2 : r.headD 0 ∈ s := by
      rw [e]
      exact headD_mem (ne s hs)
    by_cases z : r = s
    · exact q (by rw [← z]; exact ha)
    · have two := ndp.2
      obtain ⟨i, hi, ei⟩ := List.getElem_of_mem hr
      obtain ⟨j, hj, ej⟩ := List.getElem_of_mem hs
      have nij : i ≠ j := fun y => z (by rw [← ei, ← ej]; simp only [y])
      rcases Nat.lt_or_gt_of_ne nij with y | y
      · have := List.pairwise_iff_getElem.mp two i j hi hj y
        rw [ei, ej] at this
        exact this _ h1 _ h2 rfl
      · have := List.pairwise_iff_getElem.mp two j i hj hi y
        rw [ei, ej] at this
        exact this _ h2 _ h1 rfl
  have cell : ∀ r ∈ fnd, cellN m (r.headD 0) = r := fun r hr => by
    refine sorted_ext (List.pairwise_lt_range.filter _) (strict r hr) fun a => ?_
    show a ∈ cellN m (r.headD 0) ↔ _
    rw [mem_cell]
    constructor
    · rintro ⟨ha, e⟩
      obtain ⟨s, hs, has⟩ := List.mem_flatten.mp ((mem a).mp ha)
      have e2 := h.at_ s hs a has
      rw [e] at e2
      exact inj s hs r hr (Option.some.inj e2).symm a has
    · intro ha
      exact ⟨(mem a).mpr (List.mem_flatten.mpr ⟨r, hr, ha⟩), h.at_ r hr a ha⟩
  have hds : heads m = fnd.map fun r => r.headD 0 := by
    refine sorted_ext (heads_sort m) (strict_of h.hd ?_) fun a => ?_
    · refine List.pairwise_map.mpr (ndp.2.imp_of_mem fun {r s} hr hs q => ?_)
      exact fun e => q _ (headD_mem (ne r hr)) _ (headD_mem (ne s hs)) e
    · rw [mem_heads, List.mem_map]
      constructor
      · rintro ⟨ha, e⟩
        obtain ⟨s, hs, has⟩ := List.mem_flatten.mp ((mem a).mp ha)
        have e2 := h.at_ s hs a has
        rw [e] at e2
        exact ⟨s, hs, (Option.some.inj e2).symm⟩
      · rintro ⟨r, hr, rfl⟩
        exact ⟨(mem _).mpr (List.mem_flatten.mpr ⟨r, hr, headD_mem (ne r hr)⟩), h.at_ r hr _ (headD_mem (ne r hr))⟩
  have cs : cellsT m = fnd := by
    unfold cellsT
    rw [hds, List.map_map]
    exact (List.map_congr_left fun r hr => cell r hr).trans (List.map_id _)
  -- the text is what its parts join to
  have w := h.wd
  unfold wordsOf at w
  unfold tx
  rw [cs, ← StrLaws.join_split t br]
  congr 1
  have w2 := congrArg (List.map (Str.join cm)) w
  rw [List.map_map, List.map_map] at w2
  refine Eq.trans ?_ w2
  exact ((List.map_congr_left fun p _ => StrLaws.join_split p cm).trans (List.map_id _)).symm
end Tw

set_option Elab.async false
set_option linter.all false
set_option maxRecDepth 100000
set_option maxHeartbeats 2000000
/-! Where the words of a text stand; how long texts are. -/
namespace Tw
open PySem PySem.Spec PyProof.Rows L2 LamX DL Mth
/-- the index of the first row with the word, or -1 -/
def plcI (rows : List (List Str)) (y : Str) : Int := match rows.findIdx? (fun r => decide (y ∈ r)) with
  | some i => (i : Int)
  | none => -1
def sizeOf' (t : Str) : Nat := ((wordsOf t).map (·.length)).sum
def plsOf (t : Str) : List Int := (List.range (sizeOf' t)).map fun k => plcI (wordsOf t) (nm k)
theorem size_pos (t : Str) : 1 ≤ sizeOf' t := by
  unfold sizeOf' wordsOf
  cases e : Txt.split t br with
  | nil => exact absurd e (split_ne t 124)
  | cons p r =>
    simp only [List.map_cons, List.sum_cons]
    have := PyProof.Rows.split_pos p cm
    omega
theorem size_tx {lo : List Nat} (h : IsLow lo) (h1 : 1 ≤ lo.length) (hz : lo.length ≤ 12) : sizeOf' (tx lo) = lo.length := by
  unfold sizeOf'
  rw [words_tx (isLow0 h h1) hz, List.map_map]
  have e : (cellsT lo).map ((fun r : List Str => r.length) ∘ fun r : List Nat => r.map nm) = (cellsT lo).map List.length := List.map_congr_left fun r _ => List.length_map _
  rw [e, ← List.length_flatten, (cells_perm h).length_eq, List.length_range]
theorem find_map {α β : Type} (f : α → β) (p : β → Bool) : ∀ l : List α, (l.map f).findIdx? p = l.findIdx? (fun x => p (f x))
  | [] => rfl
  | x :: l => by
    rw [List.map_cons, List.findIdx?_cons, List.findIdx?_cons, find_map f p l]
theorem find_idx {x : Nat} : ∀ {l : List Nat}, x ∈ l → l.findIdx? (fun c => decide (c = x)) = some (l.idxOf x)
  | [], h => by cases h
  | y :: l, h => by
    rw [List.findIdx?_cons, List.idxOf_cons]
    by_cases e : y = x
    · rw [if_pos (decide_eq_true e), e]
      simp
    · rw [if_neg (by simpa using e), find_idx (List.mem_of_ne_of_mem (fun z => e z.symm) h)]
      have : (y == x) = false := beq_eq_false_iff_ne.mpr e
      rw [this]
      rfl
theorem plc_tx {lo : List Nat} (h : IsLow lo) (h1 : 1 ≤ lo.length) (hz : lo.length ≤ 12) {k x : Nat} (hk : lo[k]? = some x) : plcI (wordsOf (tx lo)) (nm k) = ((heads lo).idxOf x : Nat) := by
  have hk1 := (List.getElem?_eq_some_iff.mp hk).1
  have hx := h k x hk
  have e : (wordsOf (tx lo)).findIdx? (fun r => decide (nm k ∈ r)) = some ((heads lo).idxOf x) := by
    rw [words_tx (isLow0 h h1) hz]
    unfold cellsT
    rw [List.map_map, find_map, ← find_idx (mem_heads.mpr ⟨by omega, hx.2⟩)]
    congr 1
    funext c
    refine decide_eq_decide.mpr ⟨fun q => ?_, fun q => ?_⟩
    · obtain ⟨j, hj, ej⟩ := List.mem_map.mp q
      have hj2 := mem_cell.mp hj
      have := nm_inj j (by omega) k (by omega) ej
      rw [this, hk] at hj2
      exact (Option.some.inj hj2.2).symm
    · rw [q]
      exact List.mem_map_of_mem (mem_cell.mpr ⟨hk1, hk⟩)
  unfold plcI
  rw [e]
theorem pls_tx {lo : List Nat} (h : IsLow lo) (h1 : 1 ≤ lo.length) (hz : lo.length ≤ 12) : lowN (plsOf (tx lo)) = lo := by
  rw [lowN_G]
  refine Eq.trans ?_ (isLow_low h)
  unfold plsOf
  rw [size_tx h h1 hz]
  refine low_eq ⟨by rw [List.length_map, List.length_range], fun i j hi hj => ?_⟩
  rw [List.length_map, List.length_range] at hi hj
  obtain ⟨x, hx⟩ := at_lt hi
  obtain ⟨y, hy⟩ := at_lt hj
  have mx := mem_heads.mpr ⟨by have := (h i x hx).1; omega, (h i x hx).2⟩
  have my := mem_heads.mpr ⟨by have := (h j y hy).1; omega, (h j y hy).2⟩
  rw [List.getElem?_map, List.getElem?_map, List.getElem?_range hi, List.getElem?_range hj, Option.map_some, Option.map_some, plc_tx h h1 hz hx, plc_tx h h1 hz hy, hx, hy]
  constructor
  · intro e
    have e1 : (heads lo).idxOf x = (heads lo).idxOf y := by
      have := Option.some.inj e
      exact_mod_cast this
    have a := idx_at mx
    rw [e1, idx_at my] at a
    exact a.symm
  · intro e
    rw [Option.some.inj e]
/-- t is the text of a split -/
def Good (t : Str) (lo : List Nat) : Prop := IsLow lo ∧ 1 ≤ lo.length ∧ lo.length ≤ 12 ∧ tx lo = t
theorem good_one {t : Str} {lo lo2 : List Nat} (h : Good t lo) (k : Good t lo2) : lo = lo2 := by
  obtain ⟨a1, a2, a3, rfl⟩ := h
  obtain ⟨b1, b2, b3, e⟩ := k
  rw [← pls_tx a1 a2 a3, ← e, pls_tx b1 b2 b3]
theorem good_lr {t : Str} {m : List Nat} {fnd : List (List Nat)} (h : LR t m fnd) : Good t m := ⟨h.low.1, h.low.2.1, h.low.2.2.1, h.low.2.2.2.symm⟩
/-! ### lengths -/
theorem sum_le {B : Nat} : ∀ {l : List Nat}, (∀ x ∈ l, x ≤ B) → l.sum ≤ l.length * B
  | [], _ => by simp
  | y :: r, h => by
    have h1 := h y (List.mem_cons_self ..)
    have h2 := sum_le (l := r) fun z hz => h z (List.mem_cons_of_mem _ hz)
    simp only [List.sum_cons, List.length_cons, Nat.succ_mul]
    omega
theorem lens_le {B : Nat} {ys : List Str} (h : ∀ y ∈ ys, y.length ≤ B) : (ys.map (·.length)).sum ≤ ys.length * B := by
  have := sum_le (l := ys.map (·.length)) (B := B) fun x hx => by
    obtain ⟨y, hy, rfl⟩ := List.mem_map.mp hx
    exact h y hy
  rwa [List.length_map] at this
theorem nms_len {c : List Nat} {n : Nat} (hn : n ≤ 20) (h : ∀ k ∈ c, k < n) (hc : c.length ≤ n) : ((c.map nm).map (·.length)).sum + (c.map nm).length * 1 ≤ n * 3 := by
  have := lens_le (ys := c.map nm) (B := 2) fun y hy => by
    obtain ⟨k, hk, rfl⟩ := List.mem_map.mp hy
    exact nm_len k (by have := h k hk; omega)
  rw [List.length_map] at this ⊢
  omega
theorem join_le (c : Nat) (ps : List Str) : (Str.join ⟨#[c]⟩ ps).length ≤ (ps.map (·.length)).sum + ps.length * 1 := StrLaws.join_length_le ⟨#[c]⟩ ps
theorem cell_len {lo : List Nat} (hz : lo.length ≤ 12) : ∀ r ∈ cellsT lo, r.length ≤ 12 := fun r hr => by
  obtain ⟨c, _, rfl⟩ := List.mem_map.mp hr
  unfold cellN
  exact Nat.le_trans (List.length_filter_le _ _) (by rw [List.length_range]; exact hz)
theorem cTx_len {lo : List Nat} (hz : lo.length ≤ 12) : ∀ r ∈ cellsT lo, (cTx r).length ≤ 36 := fun r hr => by
  have := join_le 44 (r.map nm)
  have := nms_len (c := r) (n := 12) (by decide) (cell_lt hz r hr) (cell_len hz r hr)
  show (Str.join ⟨#[44]⟩ (r.map nm)).length ≤ 36
  omega
theorem cells_len {lo : List Nat} (hz : lo.length ≤ 12) : (cellsT lo).length ≤ 12 := by
  unfold cellsT heads
  rw [List.length_map]
  exact Nat.le_trans (List.length_filter_le _ _) (by rw [List.length_range]; exact hz)
theorem tx_sum {lo : List Nat} (hz : lo.length ≤ 12) : (((cellsT lo).map cTx).map (·.length)).sum + ((cellsT lo).map cTx).length * 1 ≤ 444 := by
  have h1 := lens_le (ys := (cellsT lo).map cTx) (B := 36) fun y hy => by
    obtain ⟨r, hr, rfl⟩ := List.mem_map.mp hy
    exact cTx_len hz r hr
  have h2 := cells_len hz
  rw [List.length_map] at h1 ⊢
  omega
theorem tx_len {lo : List Nat} (hz : lo.length ≤ 12) : (tx lo).length ≤ 444 := Nat.le_trans (join_le 124 _) (tx_sum hz)
theorem lText_len {lo : List Nat} (hz : lo.length ≤ 12) (h : ∀ k ∈ lo, k < 12) : (lText (casts lo)).length ≤ 100 := by
  unfold lText
  have e : (casts lo).map (fun i => ((toString i : String) : Str)) = lo.map nm := by
    unfold casts
    rw [List.map_map]
    rfl
  have := listText_len_le ((casts lo).map fun i => ((toString i : String) : Str))
  rw [e] at this ⊢
  have h2 := nms_len (c := lo) (n := 12) (by decide) h hz
  rw [List.length_map] at this h2
  omega
theorem low_lt12 {lo : List Nat} (h : IsLow lo) (hz : lo.length ≤ 12) : ∀ k ∈ lo, k < 12 := fun k hk => by
  obtain ⟨i, hi⟩ := List.getElem?_of_mem hk
  have := (h i k hi).1
  have := (List.getElem?_eq_some_iff.mp hi).1
  omega
end Tw

set_option Elab.async false
set_option linter.all false
set_option maxRecDepth 100000
set_option maxHeartbeats 2000000
namespace DL
open PySem PySem.Spec PyProof.Rows L2 LamX
section
variable {P : Program} {w : PySem.World} {K : PySem.W.Frag} {mg : Str → Option Value} {base : Heap} {T : List (Addr × Str)}
/-- as fnD, for callers without a guard -/
theorem fnGD {x qual : Str} {st : Stmt} {f : Addr} {fd : FuncData} {N ps : List Str} {k : Nat} {sp : SpD} (G : Fun K x qual st f fd) (S : FnScope N ps (defScope st)) (len : ∀ ds w κ χ, sp ds w κ χ → ds.length = ps.length)
    (body : ∀ (cdv : Value) (A : Around) (outer : List Env) (s : Shared) (H : Hp) (E : XK) (ds : List D) (w0 : Wp) (κ : D → Wp → Prop) (χ : XD), A.guards = some [] → Room k (A.deeper (envOfC qual (defScope st) s.heap.objs.size f cdv)) → sp ds w0 κ χ →
      PSsD (cxOf CX0 P w K mg base N qual (defScope st) f cdv A outer s H E).nox T Wf noX (defBody st) (startD N ds) w0 { nx := fun _ w' => κ DL.N w', rt := κ }) : FnG P w K mg base CX0 (k + 1) f fd ps (spOf K T sp) := by
  refine fnG_of G S (fun vs H Q E h => ?_) (fun cdv A outer s H vs Q E hA hr h => ?_)
  · obtain ⟨ds, w0, F, S0, κ, χ, h1, h2, _⟩ := h
    rw [h2.length]
    exact len _ _ _ _ h1
  · obtain ⟨ds, w0, F, S0, κ, χ, h1, h2, h3, h4, h5⟩ := h
    refine ⟨_, (pss_wp _).nox, ?_⟩
    exact body cdv A outer s H E ds w0 κ χ hA hr h1 F _ S0 H _ (env_start h2) h3 exsf ⟨fun δ' w' σ' S' H' k s1 hE W1 => h4 _ w' _ S' H' k s1 W1 rfl, h4, fun _ _ _ _ _ z => z.elim, fun _ _ _ _ _ z => z.elim⟩
variable {X : Cx} {W : WX} {χ : XD} {δ : Dn} {w : Wp} {pos : Pos}
/-- f(e, ..), f a def that wants no guard, in data -/
theorem pd_callG {CX : CXT} {k : Nat} {f : Addr} {fd : FuncData} {ps : List Str} {sp : SpD} {x : Str} {p : Pos} {e : Expr} {es : List Expr} {κ : D → Wp → Prop} (G : FnG X.prog X.w X.K X.mg X.base CX k f fd ps (spOf X.K T sp)) (hA : X.A.guards = some []) (hr : Room k X.A) (hm : X.mg x = some (.ref f))
    (hk : PySem.W.keepIn X.K (.ref f) = true) (hb : Binds X.K fd ps []) (hx : ∀ σ, PassesAt CX X σ (WE W σ)) (h : PAD X T W χ (e :: es) δ w fun ds w1 => sp ds w1 κ χ) (hg : Gl X x := by rfl) (hdb : (x == ("__debug__" : Str)) = false := by decide)
    (he : starEach (e :: es) X.env = (false, eval e X.env) :: starEach es X.env := by rfl) (hpl : (backTo pos (starEach es X.env)).any (·.1) = false := by rfl) : PD X T W χ (.Call (.Name x p) (e :: es) [] pos) δ w κ := fun F σ S H Q hE hW hX hK =>
  wp_pe (pe_callG G hA hr hg hm hk hb hx (pa_wp _) hdb he hpl) (by
    refine h F σ S H _ hE hW hX fun ds w1 vs S1 H1 k s1 W1 r => ?_
    exact ⟨ds, w1, F, S1, κ, χ, k, r, W1, hK.mono s1, fun C ns fs w' d S' H' x s2 W2 xr => hX C ns fs w' d S' H' x (s1.trans s2) W2 xr⟩)
/-- f"a{xs}b", xs a list of ints -/
theorem pd_js3 {a b : Str} {i j : Nat} {p1 p2 p3 : Pos} {e : Expr} {κ : D → Wp → Prop} (hA : X.A.guards = some []) (hu : X.A.units + 65 < cLine) (ha : a.length ≤ sizeLine) (h : PD X T W χ e δ w fun d w1 => ∃ ns : List Int, d = .lst (ns.map I) ∧ ns ≠ [] ∧ (∀ n ∈ ns, n.natAbs.log2 < 1920) ∧ a.length + (lText ns).length + b.length ≤ sizeLine ∧ κ (DL.T (a ++ lText ns ++ b)) w1)
    : PD X T W χ (.JoinedStr [.Constant (.str a) i p1, .FormattedValue e (-1) none p2, .Constant (.str b) j p3] pos) δ w κ := fun F σ S H Q hE hW hX hK =>
  wp_pe (pe_joined (.cons pe_str (.cons (pe_fmtL hA hu (pe_wp e)) (.cons pe_str .nil)))) (by
    show ∃ y : Str, V.str a = V.str y ∧ _
    refine ⟨a, rfl, ?_, ?_⟩
    · rw [Str.empty_append]
      exact ha
    refine h F σ S H _ hE hW hX fun d w1 v S1 H1 k s1 W1 r => ?_
    obtain ⟨ns, rfl, h0, hb, hz, k⟩ := k
    obtain ⟨l, zs, rfl, h3, h4⟩ := r
    have e := h4.ints
    subst e
    refine ⟨l, ns, rfl, SqL.of (W1.same _ _ h3), h0, hb, by omega, lText ns, rfl, ?_, b, rfl, ?_, ?_⟩
    · rw [Str.empty_append, Str.length_append]
      omega
    · rw [Str.empty_append, Str.length_append, Str.length_append]
      omega
    · rw [Str.empty_append]
      exact hK _ w1 _ S1 H1 k s1 W1 rfl)
end
end DL

set_option Elab.async false
set_option linter.all false
set_option maxRecDepth 100000
set_option maxHeartbeats 2000000
namespace DL
open PySem PySem.Spec PyProof.Rows L2 LamX
/-- C.m is a staticmethod: its record at p, its def at g -/
structure SMet (K : PySem.W.Frag) (C : Addr) (mc : Value) (m : Str) (p g : Addr) : Prop where
  at_ : PySem.W.findCls K (.ref C) mc m = some (.get (.builtin "staticmethod.__get__") (.ref p) .none (.ref C))
  rc : ∃ rest, PySem.W.recIn K p "staticmethod" = some (.ref g :: rest)
  kp : PySem.W.keepIn K (.ref g) = true
section
variable {X : Cx} {T : List (Addr × Str)} {W : WX} {χ : XD} {δ : Dn} {w : Wp} {pos : Pos}
theorem pe_smet {CX : CXT} {k : Nat} {C p g : Addr} {mc : Value} {m : Str} {fd : FuncData} {ps : List Str} {sp : Sp} {E : L2.St → XK} {o e : Expr} {es : List Expr} {ta : TE} {t : TA} {apos : Pos} {pl : Sem Bool} (he : PE X o ta) (r : ClX.CRead X.K C mc) (c : SMet X.K C mc m p g)
    (G : FnOk X.prog X.w X.K X.mg X.base CX k g fd ps sp) (hr : Room k X.A) (hb : Binds X.K fd ps []) (hx : ∀ σ, PassesAt CX X σ (E σ)) (ha : PA X (e :: es) t)
    (hst : starEach (e :: es) X.env = (false, eval e X.env) :: starEach es X.env := by rfl) (hpl : (backTo pos (starEach es X.env)).any (·.1) = false := by rfl)
    (ht : eval (.Call (.Attribute o m apos) (e :: es) [] pos) X.env = (do
      let ov ← eval o X.env
      standAt apos.atName
      let (f, first) ← holding [ov] (getMethod ov m pl)
      callWith pos f first (backTo pos (starEach (e :: es) X.env)) (backToKw pos (keywordEach [] X.env))) := by rfl) :
    PE X (.Call (.Attribute o m apos) (e :: es) [] pos) (fun σ H Q => ta σ H fun x H1 => x = .ref C ∧ t σ H1 fun vs H2 => sp vs H2 Q (E σ)) := by
  refine ⟨fun pins s σ H Q I h => ?_⟩
  refine PySem.W.methodCall_KW (pl := pl) (thn (he.run pins s σ H _ I h) fun u s1 ⟨x, H1, I1, rx, ex, q⟩ => ?_) ht
  subst ex
  obtain rfl : u = Value.ref C := rx
  obtain ⟨rest, hp⟩ := c.rc
  refine PySem.W.method_cls I1.kIn r.ga ?_
  refine PySem.W.cls_bind I1.kIn r.rd c.at_ ?_
  refine wpAny_call (PySem.W.sm_get (s := { s1 with toks := s1.toks + 1 }) I1.kIn hp (PySem.W.handed_on rfl ?_))
  have I2 := I1.tok (s1.toks + 1)
  refine PySem.W.callWith_K (first := []) (h₀ := X.base) I2.ok.mod.kin c.kp (thn (ha.run pos pins _ σ H1 _ I2 q) fun us s2 ⟨vs, H2, I3, rv, q2⟩ => ⟨I3.kIn, ?_⟩) hst hpl
  exact run_fnSD (dvs := []) (ds := []) G hr hb .nil (hx σ) I3 rv (by rw [List.append_nil]; exact q2)
theorem pd_smet {CX : CXT} {k : Nat} {C p g : Addr} {mc : Value} {m : Str} {fd : FuncData} {ps : List Str} {sp : SpD} {o e : Expr} {es : List Expr} {apos : Pos} {pl : Sem Bool} {κ : D → Wp → Prop} (r : ClX.CRead X.K C mc) (c : SMet X.K C mc m p g)
    (G : FnOk X.prog X.w X.K X.mg X.base CX k g fd ps (spOf X.K T sp)) (hr : Room k X.A) (hb : Binds X.K fd ps []) (hx : ∀ σ, PassesAt CX X σ (WE W σ)) (h : PD X T W χ o δ w fun d w1 => d = R C ∧ PAD X T W χ (e :: es) δ w1 fun ds w2 => sp ds w2 κ χ)
    (hst : starEach (e :: es) X.env = (false, eval e X.env) :: starEach es X.env := by rfl) (hpl : (backTo pos (starEach es X.env)).any (·.1) = false := by rfl)
    (ht : eval (.Call (.Attribute o m apos) (e :: es) [] pos) X.env = (do
      let ov ← eval o X.env
      standAt apos.atName
      let (f, first) ← holding [ov] (getMethod ov m pl)
      callWith pos f first (backTo pos (starEach (e :: es) X.env)) (backToKw pos (keywordEach [] X.env))) := by rfl) :
    PD X T W χ (.Call (.Attribute o m apos) (e :: es) [] pos) δ w κ := fun F σ S H Q hE hW hX hK =>
  wp_pe (pe_smet (pe_wp o) r c G hr hb hx (pa_wp _) hst hpl ht) (by
    refine h F σ S H _ hE hW hX fun d w1 v S1 H1 k s1 W1 rv => ?_
    obtain ⟨rfl, k⟩ := k
    refine ⟨rv, ?_⟩
    refine k F σ S1 H1 _ (hE.mono s1) W1 (hX.mono s1) fun ds w2 vs S2 H2 k2 s2 W2 r2 => ?_
    exact ⟨ds, w2, F, S2, κ, χ, k2, r2, W2, hK.mono (s1.trans s2), fun C ns fs w' d S' H' x s3 W3 xr => hX C ns fs w' d S' H' x (s1.trans (s2.trans s3)) W3 xr⟩)
end
end DL
namespace Tw
open PySem PySem.Spec PyProof.Rows L2 LamX DL Mth
open PySem.W (ksEnv)
def Okc (z : Str) : Prop := z.length ≤ 1000 ∧ ∀ c ∈ z.cps.toList, c < 200
theorem Okc.rep {z : Str} (h : Okc z) : (reprText z).length ≤ 10002 := by
  have := StrLaws.reprText_len z fun c hc => Nat.lt_trans (h.2 c hc) (by decide)
  have := h.1
  omega
def strFits (v : V) : Prop := ∃ z : Str, v = .str z ∧ Okc z
abbrev sBadText : Stmt := inClass (topX 6) 0
section
variable {P : Program} {w : PySem.World} {K : PySem.W.Frag} {mg : Str → Option Value} {base : Heap}
theorem scBT : ScopeS ["self", "text"] ["self", "text"] (defScope sBadText) := by
  refine ⟨rfl, rfl, rfl, by decide +kernel, rfl, by decide +kernel, by decide +kernel, ?_, by decide +kernel, by decide +kernel⟩
  intro x h
  have key : ∀ y ∈ (defScope sBadText).names, (y.2 = .cell ∨ y.2 = .free) → y.1 = "__class__" := by decide +kernel
  rcases h with h | h
  · exact key (x, _) (PySem.mem_of_lookup h) (.inl rfl)
  · exact key (x, _) (PySem.mem_of_lookup h) (.inr rfl)
theorem ok_bt {f C cc cda : Addr} {fd : FuncData} (G : SupTxt P K mg C f cc cda "BadText.__init__" sBadText fd) (TC : OexC K C) (no : PySem.W.findIn K (.ref C) "text" = some none) : FnOk P w K mg base CX0 1 f fd ["self", "text"] (spX1 C "text" strFits) := by
  refine fnSup G TC scBT rfl rfl rfl rfl (fun vs H Q E h => ?_) (fun _ => rfl) (fun _ => rfl) (fun _ => rfl) (fun _ => rfl) (fun A outer s H vs Q E hr h => ?_)
  · obtain ⟨a, v, rfl, _⟩ := h
    rfl
  · obtain ⟨a, v, rfl, ha, ⟨z, rfl, hz⟩, q⟩ := h
    refine ⟨_, _, a, pa_cons (pe_joined (.cons pe_str (.cons (pe_fmtR (pv 1)) .nil))) pa_nil, pss_one (ps_ost (pv 0) (pv 1)), rfl, ha, ?_⟩
    refine ⟨_, rfl, by decide +kernel, ?_⟩
    have hr2 := hz.rep
    refine ⟨_, rfl, .inl ⟨z, rfl, by rw [sizeLine_eq]; omega, ?_⟩⟩
    refine ⟨_, rfl, ?_, ?_⟩
    · rw [Str.length_append, sizeLine_eq]
      have : (Str.empty ++ ("nothing has the text " : Str)).length ≤ 100 := by decide +kernel
      omega
    refine ⟨by show 1 ≤ 1000; decide, ha, ?_⟩
    refine ⟨_, rfl, _, rfl, a, C, rfl, TC, no, .inl ⟨ha, fun dx nd nda => ?_⟩⟩
    exact q dx nd nda
end
/-- what a raise of BadText asks -/
def HasET (P : Program) (w : PySem.World) (K : PySem.W.Frag) (mg : Str → Option Value) (base : Heap) (x : Str) (C : Addr) (k : Nat) (f : Str) : Prop :=
  ∃ fI fd, FnOk P w K mg base CX0 k fI fd ["self", f] (spX1 C f strFits) ∧ mg x = some (.ref C) ∧ OexC K C ∧ PySem.W.findIn K (.ref C) "__init__" = some (some (.ref fI)) ∧ PySem.W.typeIn K (.ref fI) = some (.type "function") ∧ Binds K fd ["self", f] []
section
variable {X : Cx} {T : List (Addr × Str)} {W : WX} {χ : XD} {δ : Dn} {w : Wp} {pos : Pos}
theorem psd_raiseT {x f : Str} {C : Addr} {k : Nat} {e : Expr} {p cpos : Pos} {Fi : DL.Fin} (hc : X.calm = true) (tk : Takes X W) (G : HasET X.prog X.w X.K X.mg X.base x C k f) (hr : Room (k + 1) X.A)
    (h : PD X T W χ e δ w fun d w1 => ∃ z : Str, d = DL.T z ∧ Okc z ∧ χ C [f] [DL.T z] w1) (hg : Gl X x := by rfl) (hdb : (x == ("__debug__" : Str)) = false := by decide)
    (he : starEach [e] X.env = (false, eval e X.env) :: starEach [] X.env := by rfl) (hpl : (backTo cpos (starEach [] X.env)).any (·.1) = false := by rfl) : PSD X T W χ (.Raise (some (.Call (.Name x p) [e] [] cpos)) none pos) δ w Fi := by
  obtain ⟨fI, fd, h1, h2, h3, h4, h5, h6⟩ := G
  refine psd_raise1 (CX := CX0) hc tk h3 h4 h5 h1 hr h6 h2 (h.imp ?_) hg hdb he hpl
  rintro d w1 ⟨z, rfl, hz, k⟩
  exact ⟨.str z, rfl, ⟨z, rfl, hz⟩, k⟩
end
end Tw

set_option Elab.async false
set_option linter.all false
set_option maxRecDepth 100000
set_option maxHeartbeats 2000000
namespace Tw
open PySem PySem.Spec PyProof.Rows L2 LamX DL Mth
abbrev sPlace : Stmt := top 14
abbrev sRead : Stmt := sM 4
abbrev sStr : Stmt := sM 17
abbrev sRepr : Stmt := sM 18
def txts (r : List Str) : D := .lst (r.map DL.T)
def spPlace : SpD := fun ds w κ χ => ∃ (rows : List (List Str)) (y : Str), ds = [.lst (rows.map txts), DL.T y] ∧ rows.length ≤ 2000 ∧ κ (I (plcI rows y)) w
def spStr (C : Addr) : SpD := fun ds w κ χ => ∃ lo, ds = [spl C lo] ∧ lo[0]? = some 0 ∧ lo.length ≤ 12 ∧ κ (DL.T (tx lo)) w
def rpx (lo : List Nat) : Str := ("Split(" : Str) ++ lText (casts lo) ++ (")" : Str)
def spRepr (C : Addr) : SpD := fun ds w κ χ => ∃ lo, ds = [spl C lo] ∧ IsLow lo ∧ 1 ≤ lo.length ∧ lo.length ≤ 12 ∧ κ (DL.T (rpx lo)) w
def spRead (C CT : Addr) : SpD := fun ds w κ χ => ∃ t : Str, ds = [DL.T t] ∧ Okc t ∧ (∀ lo, Good t lo → κ (spl C lo) w) ∧ ((∀ lo, ¬ Good t lo) → χ CT ["text"] [DL.T t] w)
theorem str_eq_dec {a b : Str} : decide (V.str a = V.str b) = decide (a = b) := decide_eq_decide.mpr ⟨fun z => V.str.inj z, fun z => by rw [z]⟩
section
variable {P : Program} {w : PySem.World} {K : PySem.W.Frag} {mg : Str → Option Value} {base : Heap} {T : List (Addr × Str)} {C CU CB CT : Addr}
theorem scPlace : FnScope ["cells", "word", "place", "cell"] ["cells", "word"] (defScope sPlace) := ⟨rfl, rfl, rfl, by decide +kernel, rfl, by decide +kernel, by decide +kernel⟩
theorem find_none_step {rows : List (List Str)} {y : Str} {i : Nat} {r : List Str} (hr : rows[i]? = some r) (h : ∀ j < i, ∀ q, rows[j]? = some q → y ∉ q) : (y ∈ r → rows.findIdx? (fun r => decide (y ∈ r)) = some i) := fun hy => by
  obtain ⟨hi, e⟩ := List.getElem?_eq_some_iff.mp hr
  rw [List.findIdx?_eq_some_iff_getElem]
  refine ⟨hi, by rw [e]; exact decide_eq_true hy, fun j hj => ?_⟩
  have := h j hj _ (List.getElem?_eq_getElem (by omega))
  simpa using this
theorem ok_place {f : Addr} {fd : FuncData} (G : Fun K "_place_of_word" "_place_of_word" sPlace f fd) (hm : Nm2 mg) : FnOk P w K mg base CX0 1 f fd ["cells", "word"] (spOf K T spPlace) := by
  refine fnD G scPlace (fun ds w κ χ h => ?_) (fun cdv A outer s H E ds w0 κ χ hr h => ?_)
  · obtain ⟨rows, y, rfl, _⟩ := h
    rfl
  obtain ⟨rows, y, rfl, hz, k⟩ := h
  have nd := scPlace.nd
  refine pssd_cons (psd_for PassesOwn.never rfl ?_)
  refine it_enum hm.enumerate ?_
  refine pd_var (i := 0) rfl rfl ?_
  refine ⟨_, rfl, ?_⟩
  refine ⟨fun i δ' w' => ∃ x z, δ' = [some (.lst (rows.map txts)), some (DL.T y), x, z] ∧ w' = w0 ∧ ∀ j < i, ∀ q, rows[j]? = some q → y ∉ q, ⟨none, none, rfl, rfl, fun j hj => absurd hj (by omega)⟩, ?_, ?_⟩
  · rintro i d δ' w' hd ⟨x, z, rfl, rfl, hno⟩
    obtain ⟨e0, he, rfl⟩ := pairs_at hd
    rw [List.getElem?_map] at he
    cases er : rows[i]? with
    | none =>
      rw [er] at he
      cases he
    | some r =>
      rw [er] at he
      cases he
      refine PGL.pgd (is := [2, 3]) ?_
      refine pgl_two (i := 2) (j := 3) rfl ?_
      refine pgl_name nd rfl ?_
      refine pgl_name nd rfl ?_
      refine pssd_one (psd_if ?_)
      refine ptd_cmp op_in_seq ?_
      refine pd_var (i := 1) rfl rfl ?_
      refine pd_var (i := 3) rfl rfl ?_
      refine vr_inS ?_
      refine ⟨_, rfl, ?_⟩
      refine ite2 (fun q => ?_) (fun q => ?_)
      · have hy : y ∈ r := of_decide_eq_true q
        refine pssd_one (psd_ret ?_)
        refine pd_var (i := 2) rfl rfl ?_
        have e : plcI rows y = (i : Int) := by
          unfold plcI
          rw [find_none_step er hno hy]
        rw [← e]
        exact k
      · refine pssd_nil ?_
        refine ⟨some (I (i : Int)), some (txts r), rfl, rfl, fun j hj q2 hq2 => ?_⟩
        by_cases ej : j = i
        · subst ej
          rw [er] at hq2
          cases hq2
          exact of_decide_eq_false (by simpa using q)
        · exact hno j (by omega) q2 hq2
  · rintro δ' w' ⟨x, z, rfl, rfl, hno⟩
    rw [DL.pairs_len, List.length_map] at hno
    refine pssd_one (psd_ret ?_)
    refine pd_un un_neg ?_
    refine pd_int ?_
    refine vr_U ?_
    have e : plcI rows y = -1 := by
      unfold plcI
      have : rows.findIdx? (fun r => decide (y ∈ r)) = none := by
        rw [List.findIdx?_eq_none_iff]
        intro q hq
        obtain ⟨j, hj⟩ := List.getElem?_of_mem hq
        have := hno j (List.getElem?_eq_some_iff.mp hj).1 q hj
        simpa using this
      rw [this]
    rw [← e]
    exact k
end
end Tw

set_option Elab.async false
set_option linter.all false
set_option maxRecDepth 100000
set_option maxHeartbeats 2000000
namespace Tw
open PySem PySem.Spec PyProof.Rows L2 LamX DL Mth
theorem bt_sum : bootBuiltins "sum" = some (.builtin "sum") := by decide +kernel
theorem pass_cm : (("," : String) : Str) = cm := by decide +kernel
theorem pass_br : (("|" : String) : Str) = br := by decide +kernel
section
variable {P : Program} {w : PySem.World} {K : PySem.W.Frag} {mg : Str → Option Value} {base : Heap} {T : List (Addr × Str)} {C CU CB CT : Addr}
theorem scStr : FnScope ["self", "cell", "case"] ["self"] (defScope sStr) := ⟨rfl, rfl, rfl, by decide +kernel, rfl, by decide +kernel, by decide +kernel⟩
theorem cells_cons {lo : List Nat} (h0 : lo[0]? = some 0) : D.lst (.lst (nl (cellN lo 0)) :: (tails lo lo.length).map fun c => nats (cellN lo c)) = .lst ((cellsT lo).map nats) := by
  unfold cellsT
  rw [heads_eq h0, List.map_map]
  rfl
theorem ok_str {f : Addr} {fd : FuncData} (G : Fun K "__str__" "Split.__str__" sStr f fd) (hs : mg "str" = none) (c : SplC K C) (hC : HasM P w K mg base T CX0 C "cells" 5 ["self"] (spCells C)) : FnOk P w K mg base CX0 6 f fd ["self"] (spOf K T (spStr C)) := by
  refine fnD G scStr (fun ds w κ χ h => ?_) (fun cdv A outer s H E ds w0 κ χ hr h => ?_)
  · obtain ⟨lo, rfl, _⟩ := h
    rfl
  obtain ⟨lo, rfl, h0, hz, k⟩ := h
  have nd := scStr.nd
  refine pssd_one (psd_ret ?_)
  refine pd_bm PySem.F.plainAttrs_str PySem.F.slot_str_join PySem.F.type_str_join mt_join ?_
  refine pd_str ?_
  refine ⟨rfl, ?_⟩
  refine pad_cons ?_
  refine pd_lc (own := [("cell", 1)]) (is := [1]) rfl nd (blkOk_by rfl) (by decide) ?_
  refine it_list ?_
  refine pd_frz2 ?_
  refine pd_hasm0 c.cl hC hr (fun _ => pass0At) ?_
  refine pd_var (i := 0) rfl rfl ?_
  refine ⟨ins_spl (by decide), ?_⟩
  refine ⟨lo, rfl, h0, hz, fun a a1 ne ha ha1 => ?_⟩
  refine ⟨a, a1, _, _, rfl, wu_same, by rw [wu_ne (fun z => ne z.symm)]; exact wu_same, ne, ?_⟩
  rw [wd_cells ne ha ha1]
  refine ⟨_, cells_cons h0, ?_⟩
  refine lcd_map (fun r => DL.T (cTx r)) (small1000 (by have := cells_len hz; omega)) (fun r hr2 s H0 C1 cl1 fp1 => ?_) ?_
  · refine pgl_name nd rfl ?_
    intro s H0 C1 cl1 fp1
    refine ptsd_nil ?_
    intro s H0 C1 cl1 fp1
    refine pd_bm PySem.F.plainAttrs_str PySem.F.slot_str_join PySem.F.type_str_join mt_join ?_
    refine pd_str ?_
    refine ⟨rfl, ?_⟩
    refine pad_cons ?_
    refine pd_lc (own := [("case", 2)]) (is := [2]) rfl nd (blkOk_by rfl) (by decide) ?_
    refine it_list ?_
    refine pd_var (i := 1) rfl rfl ?_
    refine ⟨_, rfl, ?_⟩
    have hl := cell_len hz r hr2
    refine lcd_map (fun k => DL.T (nm k)) (small1000 (by omega)) (fun k hk s H0 C1 cl1 fp1 => ?_) ?_
    · refine pgl_name nd rfl ?_
      intro s H0 C1 cl1 fp1
      refine ptsd_nil ?_
      intro s H0 C1 cl1 fp1
      refine pd_callTy call_str_int rfl hs bt_str ?_
      refine pad_cons ?_
      refine pd_var (i := 2) rfl rfl ?_
      refine pad_nil ?_
      refine va_strI (log_small (by have := cell_lt hz r hr2 k hk; omega)) ?_
      exact ⟨rfl, rfl, rfl⟩
    · refine pad_nil ?_
      have e : r.map (fun k => DL.T (nm k)) = (r.map nm).map DL.T := by rw [List.map_map]; rfl
      rw [e, pass_cm]
      have b := nms_len (c := r) (n := 12) (by decide) (cell_lt hz r hr2) hl
      refine vm_join (Nat.le_trans b (by decide)) ?_
      refine ⟨rfl, ?_, rfl⟩
      rw [txt_join]
      rfl
  · refine pad_nil ?_
    have e : (cellsT lo).map (fun r => DL.T (cTx r)) = ((cellsT lo).map cTx).map DL.T := by rw [List.map_map]; rfl
    rw [e, pass_br]
    refine vm_join (Nat.le_trans (tx_sum hz) (by decide)) ?_
    rw [txt_join]
    exact k
theorem scRepr : FnScope ["self"] ["self"] (defScope sRepr) := ⟨rfl, rfl, rfl, by decide +kernel, rfl, by decide +kernel, by decide +kernel⟩
theorem casts_ne {lo : List Nat} (h : 1 ≤ lo.length) : casts lo ≠ [] := fun z => by
  have e : (casts lo).length = lo.length := List.length_map _
  rw [z] at e
  have e' : 0 = lo.length := e
  omega
theorem casts_log {lo : List Nat} (h : IsLow lo) (hz : lo.length ≤ 12) : ∀ n ∈ casts lo, n.natAbs.log2 < 1920 := fun n hn => by
  obtain ⟨k, hk, rfl⟩ := List.mem_map.mp hn
  exact log_small (by have := low_lt12 h hz k hk; omega)
theorem ok_repr {f : Addr} {fd : FuncData} (G : Fun K "__repr__" "Split.__repr__" sRepr f fd) (c : SplC K C) : FnG P w K mg base CX0 1 f fd ["self"] (spOf K T (spRepr C)) := by
  refine fnGD G scRepr (fun ds w κ χ h => ?_) (fun cdv A outer s H E ds w0 κ χ hA hr h => ?_)
  · obtain ⟨lo, rfl, _⟩ := h
    rfl
  obtain ⟨lo, rfl, hl, h1, hz, k⟩ := h
  refine pssd_one (psd_ret ?_)
  have hu : (A.deeper (envOfC "Split.__repr__" (defScope sRepr) s.heap.objs.size f cdv)).units + 65 < cLine := by
    have := hr.un
    omega
  refine pd_js3 hA hu (by decide +kernel) ?_
  refine pd_fld c.cl c.nM ?_
  refine pd_var (i := 0) rfl rfl ?_
  refine ⟨_, fld_marks, casts lo, nats_casts lo, casts_ne h1, casts_log hl hz, ?_, k⟩
  have := lText_len hz (low_lt12 hl hz)
  have e1 : ("Split(" : Str).length = 6 := by decide +kernel
  have e2 : (")" : Str).length = 1 := by decide +kernel
  rw [e1, e2, sizeLine_eq]
  omega
end
end Tw

set_option Elab.async false
set_option linter.all false
set_option maxRecDepth 100000
set_option maxHeartbeats 2000000
namespace Tw
open PySem PySem.Spec PyProof.Rows L2 LamX DL Mth
theorem le_sum {x : Nat} : ∀ {l : List Nat}, x ∈ l → x ≤ l.sum
  | y :: l, h => by
    rw [List.sum_cons]
    cases h with
    | head => omega
    | tail _ h =>
      have := le_sum h
      omega
/-- the words of the text's rows, as lists -/
theorem split_okc {t : Str} {c : Nat} (h : Okc t) : ∀ p ∈ Txt.split t ⟨#[c]⟩, Okc p := by
  have hl := split_len c t
  have hs := StrLaws.join_split t ⟨#[c]⟩
  intro p hp
  refine ⟨?_, ?_⟩
  · have : p.length ≤ ((Txt.split t ⟨#[c]⟩).map (·.length)).sum := by
      have m : p.length ∈ (Txt.split t ⟨#[c]⟩).map (·.length) := List.mem_map_of_mem hp
      exact le_sum m
    have n1 : 1 ≤ (Txt.split t ⟨#[c]⟩).length := PyProof.Rows.split_pos t ⟨#[c]⟩
    have := h.1
    omega
  · intro k hk
    refine h.2 k ?_
    rw [← hs]
    exact join_mem hp hk
where
  join_mem {c k : Nat} : ∀ {ps : List Str} {p : Str}, p ∈ ps → k ∈ p.cps.toList → k ∈ (Str.join ⟨#[c]⟩ ps).cps.toList
  | [x], p, hp, hk => by
    rw [List.mem_singleton.mp hp] at hk
    exact hk
  | x :: y :: r, p, hp, hk => by
    rw [join_two]
    cases hp with
    | head => exact List.mem_append_left _ hk
    | tail _ hp => exact List.mem_append_right _ (List.mem_cons_of_mem _ (join_mem hp hk))
theorem split_cnt {t : Str} {c : Nat} (h : Okc t) : (Txt.split t ⟨#[c]⟩).length ≤ 1001 := by
  have hl := split_len c t
  have := h.1
  omega
theorem words_cnt {t : Str} (h : Okc t) : (wordsOf t).length ≤ 1001 := by
  unfold wordsOf
  rw [List.length_map]
  exact split_cnt h
theorem fits_split {t : Str} (h : Okc t) : t.length + 2 ≤ sizeLine := by
  have := h.1
  rw [sizeLine_eq]
  omega
section
variable {P : Program} {w : PySem.World} {K : PySem.W.Frag} {mg : Str → Option Value} {base : Heap} {T : List (Addr × Str)} {C CU CB CT : Addr}
theorem scRead : FnScope ["text", "cells", "size", "split", "cell", "case"] ["text"] (defScope sRead) := ⟨rfl, rfl, rfl, by decide +kernel, rfl, by decide +kernel, by decide +kernel⟩
theorem read_size {t : Str} : ((wordsOf t).map fun r => ((r.length : Nat) : Int)).sum = (sizeOf' t : Int) := by
  unfold sizeOf'
  generalize wordsOf t = rows
  induction rows with
  | nil => rfl
  | cons r rs ih =>
    simp only [List.map_cons, List.sum_cons, ih]
    omega
theorem good_size {t : Str} {lo : List Nat} (h : Good t lo) : sizeOf' t = lo.length := by
  obtain ⟨a, b, c, rfl⟩ := h
  exact size_tx a b c
theorem pls_len (t : Str) : (plsOf t).length = sizeOf' t := by
  unfold plsOf
  rw [List.length_map, List.length_range]
theorem good_pls {t : Str} (hs : sizeOf' t ≤ 12) (e : tx (lowN (plsOf t)) = t) : Good t (lowN (plsOf t)) := by
  refine ⟨by rw [lowN_G]; exact low_isLow _, ?_, ?_, e⟩
  · rw [Tw.low_len, pls_len]
    exact size_pos t
  · rw [Tw.low_len, pls_len]
    exact hs
theorem ok_read {f : Addr} {fd : FuncData} {mc u : Value} (G : Fun K "read" "Split.read" sRead f fd) (hm : Nm2 mg) (hs : mg "str" = none) (hsm : mg "sum" = none) (hSp : mg "Split" = some (.ref C)) (rC : ClX.CRead K C mc) (vC : ClX.CVal K C mc "MOST" (.int 12) u)
    (hP : HasF P w K mg base T CX0 "_place_of_word" 1 ["cells", "word"] spPlace) (hE : HasET P w K mg base "BadText" CT 1 "text") (hMk : HasMk P w K mg base T (L2.CX P w) "Split" C 4 ["self", "marks"] (spInit C CB))
    (hStr : ∃ f fd, FnOk P w K mg base CX0 6 f fd ["self"] (spOf K T (spStr C)) ∧ PySem.W.findIn K (.ref C) "__str__" = some (some (.ref f)) ∧ PySem.W.isFn K (.ref f) = true ∧ L2.Binds K fd ["self"] []) :
    FnOk P w K mg base (L2.CX P w) 9 f fd ["text"] (spOf K T (spRead C CT)) := by
  refine fnX G scRead (fun ds w κ χ h => ?_) (fun cdv A outer s H E ds w0 κ χ hr h => ?_)
  · obtain ⟨t, rfl, _⟩ := h
    rfl
  obtain ⟨t, rfl, hO, kY, kN⟩ := h
  have nd := scRead.nd
  have hw := words_cnt hO
  refine pssd_cons (psd_set (i := 1) nd rfl ?_)
  refine pd_lc (own := [("cell", 4)]) (is := [4]) rfl nd (blkOk_by rfl) (by decide) ?_
  refine it_list ?_
  refine pd_bm PySem.F.plainAttrs_str PySem.F.slot_str_split PySem.F.type_str_split mt_split ?_
  refine pd_var (i := 0) rfl rfl ?_
  refine ⟨rfl, ?_⟩
  refine pad_cons ?_
  refine pd_str ?_
  refine pad_nil ?_
  rw [pass_br]
  refine vm_split rfl (fits_split hO) ?_
  refine ⟨_, rfl, ?_⟩
  refine lcd_map (fun p => txts (Txt.split p cm)) (Nat.lt_of_le_of_lt (split_cnt (c := 124) hO) (by decide)) (fun p hp s H0 C1 cl1 fp1 => ?_) ?_
  · refine pgl_name nd rfl ?_
    intro s H0 C1 cl1 fp1
    refine ptsd_nil ?_
    intro s H0 C1 cl1 fp1
    refine pd_bm PySem.F.plainAttrs_str PySem.F.slot_str_split PySem.F.type_str_split mt_split ?_
    refine pd_var (i := 4) rfl rfl ?_
    refine ⟨rfl, ?_⟩
    refine pad_cons ?_
    refine pd_str ?_
    refine pad_nil ?_
    rw [pass_cm]
    refine vm_split rfl (fits_split (split_okc hO p hp)) ?_
    exact ⟨rfl, rfl, rfl⟩
  have e1 : (Txt.split t br).map (fun p => txts (Txt.split p cm)) = (wordsOf t).map txts := by
    unfold wordsOf
    rw [List.map_map]
    rfl
  rw [e1]
  refine pssd_cons (psd_set (i := 2) nd rfl ?_)
  refine pd_callB (cr_sum rfl) rfl hsm bt_sum ?_
  refine pad_cons ?_
  refine pd_lc (own := [("cell", 4)]) (is := [4]) rfl nd (blkOk_by rfl) (by decide) ?_
  refine it_list ?_
  refine pd_var (i := 1) rfl rfl ?_
  refine ⟨_, rfl, ?_⟩
  refine lcd_map (fun r => I ((r.length : Nat) : Int)) (Nat.lt_of_le_of_lt hw (by decide)) (fun r hr2 s H0 C1 cl1 fp1 => ?_) ?_
  · refine pgl_name nd rfl ?_
    intro s H0 C1 cl1 fp1
    refine ptsd_nil ?_
    intro s H0 C1 cl1 fp1
    refine pd_callB call_len_seq rfl hm.len PySem.boot_len ?_
    refine pad_cons ?_
    refine pd_var (i := 4) rfl rfl ?_
    refine pad_nil ?_
    refine va_len ?_
    rw [List.length_map]
    exact ⟨rfl, rfl, rfl⟩
  refine pad_nil ?_
  have e2 : (wordsOf t).map (fun r => I ((r.length : Nat) : Int)) = ((wordsOf t).map fun r => ((r.length : Nat) : Int)).map I := by rw [List.map_map]; rfl
  rw [e2]
  refine va_sum ?_
  rw [read_size]
  refine pssd_cons (psd_if ?_)
  refine ptd_cmp op_gt ?_
  refine pd_var (i := 2) rfl rfl ?_
  refine pd_cval rC vC ?_
  refine pd_glob (v := .ref C) hSp rfl ?_
  refine ⟨rfl, ?_⟩
  refine vr_I ?_
  refine ⟨_, rfl, ?_⟩
  refine ite2 (fun q => ?_) (fun q => ?_)
  · refine pssd_one (psd_raiseT rfl takesX hE (hr.mono (by decide)) ?_)
    refine pd_var (i := 0) rfl rfl ?_
    refine ⟨t, rfl, hO, kN fun lo hg => ?_⟩
    have := good_size hg
    have := hg.2.2.1
    simp only [decide_eq_true_eq] at q
    omega
  have hsz : sizeOf' t ≤ 12 := by
    have q' : ((sizeOf' t : Nat) : Int) ≤ 12 := by simpa using q
    omega
  refine pssd_nil ?_
  refine pssd_cons (psd_set (i := 3) nd rfl ?_)
  refine pd_hasmk hMk (hr.mono (by decide)) (fun σ => passX σ) ?_
  refine pad_cons ?_
  refine pd_lc (own := [("case", 5)]) (is := [5]) rfl nd (blkOk_by rfl) (by decide) ?_
  refine it_range hm.range ?_
  refine pd_var (i := 2) rfl rfl ?_
  refine ⟨sizeOf' t, rfl, by omega, ?_⟩
  refine lcd_map (xs := List.range (sizeOf' t)) (fun k => I (plcI (wordsOf t) (nm k))) (by rw [List.length_range]; exact small1000 (by omega)) (fun k hk s H0 C1 cl1 fp1 => ?_) ?_
  · have hk := List.mem_range.mp hk
    refine pgl_name nd rfl ?_
    intro s H0 C1 cl1 fp1
    refine ptsd_nil ?_
    intro s H0 C1 cl1 fp1
    refine pd_has hP (hr.mono (by decide)) (fun _ => pass0At) ?_
    refine pad_cons ?_
    refine pd_var (i := 1) rfl rfl ?_
    refine pad_cons ?_
    refine pd_callTy call_str_int rfl hs bt_str ?_
    refine pad_cons ?_
    refine pd_var (i := 5) rfl rfl ?_
    refine pad_nil ?_
    refine va_strI (log_small (by omega)) ?_
    refine pad_nil ?_
    exact ⟨wordsOf t, nm k, rfl, by omega, rfl, rfl, rfl⟩
  refine pad_nil fun a dx ha => ?_
  have e3 : (List.range (sizeOf' t)).map (fun k => I (plcI (wordsOf t) (nm k))) = (plsOf t).map I := by unfold plsOf; rw [List.map_map]; rfl
  rw [e3]
  have hpl := pls_len t
  have hp1 := size_pos t
  refine ⟨a, dx, _, plsOf t, rfl, wu_same, .inl rfl, by rw [hpl]; omega, fun _ => ⟨rfl, _, _, wu_same, ?_⟩, fun z => absurd ⟨by omega, by omega⟩ z⟩
  rw [wu_wu, wd_wu ha, eo_spl]
  have hlow : IsLow (lowN (plsOf t)) := by
    rw [lowN_G]
    exact low_isLow _
  have hll : (lowN (plsOf t)).length = sizeOf' t := by rw [Tw.low_len, hpl]
  obtain ⟨fs, fds, gs, fs2, fs3, fs4⟩ := hStr
  refine pssd_cons (psd_if ?_)
  refine ptd_cmp op_ne ?_
  refine pd_callTy (call_strOwn gs (hr.mono (by decide)) fs2 fs3 fs4) rfl hs bt_str ?_
  refine pad_cons ?_
  refine pd_var (i := 3) rfl rfl ?_
  refine pad_nil ?_
  refine va_own1 ⟨_, _, rfl⟩ ?_
  refine ⟨lowN (plsOf t), rfl, isLow0 hlow (by omega), by omega, ?_⟩
  refine ⟨_, rfl, ?_⟩
  refine pd_var (i := 0) rfl rfl ?_
  refine vr_ne rfl ?_
  refine ⟨_, rfl, ?_⟩
  rw [str_eq_dec]
  refine ite2 (fun q2 => ?_) (fun q2 => ?_)
  · have hne : tx (lowN (plsOf t)) ≠ t := by simpa using q2
    refine pssd_one (psd_raiseT rfl takesX hE (hr.mono (by decide)) ?_)
    refine pd_var (i := 0) rfl rfl ?_
    refine ⟨t, rfl, hO, kN fun lo hg => ?_⟩
    obtain ⟨g1, g2, g3, rfl⟩ := hg
    rw [pls_tx g1 g2 g3] at hne
    exact hne rfl
  · have he : tx (lowN (plsOf t)) = t := by simpa using q2
    refine pssd_nil ?_
    refine pssd_one (psd_ret ?_)
    refine pd_var (i := 3) rfl rfl ?_
    exact kY _ (good_pls hsz he)
end
end Tw

set_option Elab.async false
set_option linter.all false
set_option maxRecDepth 100000
set_option maxHeartbeats 2000000
namespace Tw
open PySem PySem.Spec PyProof.Rows L2 LamX DL Mth
abbrev sLTx : Stmt := top 21
def spLTx : SpD := fun ds w κ χ => ∃ lo, ds = [nats lo] ∧ lo.length ≤ 12 ∧ κ (DL.T (tx lo)) w
def headsTo (lo : List Nat) (i : Nat) : List Nat := (List.range i).filter fun c => decide (lo[c]? = some c)
theorem headsTo_succ (lo : List Nat) (i : Nat) : headsTo lo (i + 1) = headsTo lo i ++ (if decide (lo[i]? = some i) = true then [i] else []) := by
  unfold headsTo
  rw [List.range_succ, List.filter_append, List.filter_cons]
  congr 1
theorem headsTo_len (lo : List Nat) (i : Nat) : (headsTo lo i).length ≤ i := by
  unfold headsTo
  exact Nat.le_trans (List.length_filter_le _ _) (by rw [List.length_range]; exact Nat.le_refl _)
theorem cellTx_len {lo : List Nat} (hz : lo.length ≤ 12) (c : Nat) : ((cellN lo c).map nm).length ≤ 12 ∧ ∀ k ∈ cellN lo c, k < 12 := by
  refine ⟨?_, fun k hk => by have := (mem_cell.mp hk).1; omega⟩
  rw [List.length_map]
  unfold cellN
  exact Nat.le_trans (List.length_filter_le _ _) (by rw [List.length_range]; exact hz)
section
variable {P : Program} {w : PySem.World} {K : PySem.W.Frag} {mg : Str → Option Value} {base : Heap} {T : List (Addr × Str)} {C CU CB CT : Addr}
theorem scLTx : FnScope ["low", "rows", "case", "at"] ["low"] (defScope sLTx) := ⟨rfl, rfl, rfl, by decide +kernel, rfl, by decide +kernel, by decide +kernel⟩
theorem ok_ltx {f : Addr} {fd : FuncData} (G : Fun K "_law_text" "_law_text" sLTx f fd) (hm : Nm2 mg) (hs : mg "str" = none) : FnOk P w K mg base CX0 1 f fd ["low"] (spOf K T spLTx) := by
  refine fnD G scLTx (fun ds w κ χ h => ?_) (fun cdv A outer s H E ds w0 κ χ hr h => ?_)
  · obtain ⟨lo, rfl, _⟩ := h
    rfl
  obtain ⟨lo, rfl, hz, k⟩ := h
  have nd := scLTx.nd
  have el := nl_len lo
  refine pssd_cons (psd_set (i := 1) nd rfl ?_)
  refine pd_lstO ?_
  refine pad_nil ⟨Nat.zero_le _, fun a ha => ?_⟩
  refine pssd_cons (psd_for PassesOwn.never rfl ?_)
  refine it_range hm.range ?_
  refine pd_callB call_len_seq rfl hm.len PySem.boot_len ?_
  refine pad_cons ?_
  refine pd_var (i := 0) rfl rfl ?_
  refine pad_nil ?_
  refine va_len ?_
  refine ⟨lo.length, by show I ((nl lo).length : Int) = _; rw [el], by omega, ?_⟩
  refine ⟨fun i δ' w' => ∃ x y, δ' = [some (nats lo), some (R a), x, y] ∧ w' = wu w0 a (.lst (((headsTo lo i).map fun c => cTx (cellN lo c)).map DL.T)), ⟨none, none, rfl, rfl⟩, ?_, ?_⟩
  · rintro i d δ' w' hd ⟨x, y, rfl, rfl⟩
    obtain ⟨hi, rfl⟩ := ups_at hd
    refine pgd_name (i := 2) nd rfl ?_
    refine pssd_one (psd_if ?_)
    refine ptd_cmp op_eq ?_
    refine pd_ix ix_list ?_
    refine pd_var (i := 0) rfl rfl ?_
    refine pd_var (i := 2) rfl rfl ?_
    refine vr_ixL (nl_at (mark_at hi)) ?_
    refine pd_var (i := 2) rfl rfl ?_
    refine vr_eq rfl ⟨_, rfl, ?_⟩
    have e2 : decide (V.int (markAt lo i : Int) = V.int (i : Int)) = decide (lo[i]? = some i) := by
      rw [mark_at hi]
      refine decide_eq_decide.mpr ⟨fun z => ?_, fun z => ?_⟩
      · have z2 := V.int.inj z
        congr 1
        omega
      · rw [Option.some.inj z]
    rw [e2]
    refine ite2 (fun c1 => ?_) (fun c1 => ?_)
    · refine pssd_one (psd_expr ?_)
      refine pd_bm PySem.F.plainAttrs_list PySem.F.slot_list_append PySem.F.type_list_append mt_append ?_
      refine pd_var (i := 1) rfl rfl ?_
      refine ⟨⟨rfl, _, wu_same⟩, ?_⟩
      refine pad_cons ?_
      refine pd_bm PySem.F.plainAttrs_str PySem.F.slot_str_join PySem.F.type_str_join mt_join ?_
      refine pd_str ?_
      refine ⟨rfl, ?_⟩
      refine pad_cons ?_
      refine pd_lc (own := [("at", 3)]) (is := [3]) rfl nd (blkOk_by rfl) (by decide) ?_
      refine it_range hm.range ?_
      refine pd_callB call_len_seq rfl hm.len PySem.boot_len ?_
      refine pad_cons ?_
      refine pd_var (i := 0) rfl rfl ?_
      refine pad_nil ?_
      refine va_len ?_
      refine ⟨lo.length, by show I ((nl lo).length : Int) = _; rw [el], by omega, ?_⟩
      refine lcd_filter (xs := List.range lo.length) (fun o => decide (lo[o]? = some i)) (fun k => DL.T (nm k)) (by rw [List.length_range]; exact small1000 (by omega)) (fun o ho s H0 C1 cl1 fp1 => ?_) ?_
      · have ho2 := List.mem_range.mp ho
        refine pgl_name nd rfl ?_
        intro s H0 C1 cl1 fp1
        refine ptsd_one ?_
        refine ptd_cmp op_eq ?_
        refine pd_ix ix_list ?_
        refine pd_var (i := 0) rfl rfl ?_
        refine pd_var (i := 3) rfl rfl ?_
        refine vr_ixL (nl_at (mark_at ho2)) ?_
        refine pd_var (i := 2) rfl rfl ?_
        refine vr_eq rfl ⟨_, rfl, ?_⟩
        have e3 : decide (V.int (markAt lo o : Int) = V.int (i : Int)) = decide (lo[o]? = some i) := by
          rw [mark_at ho2]
          refine decide_eq_decide.mpr ⟨fun z => ?_, fun z => ?_⟩
          · have z2 := V.int.inj z
            congr 1
            omega
          · rw [Option.some.inj z]
        rw [e3]
        refine ite2 (fun c2 => ?_) (fun c2 => ?_)
        · intro s H0 C1 cl1 fp1
          refine pd_callTy call_str_int rfl hs bt_str ?_
          refine pad_cons ?_
          refine pd_var (i := 3) rfl rfl ?_
          refine pad_nil ?_
          refine va_strI (log_small (by omega)) ?_
          exact ⟨c2, rfl, rfl⟩
        · exact ⟨Bool.eq_false_iff.mpr c2, rfl⟩
      · refine pad_nil ?_
        have e : ((List.range lo.length).filter fun o => decide (lo[o]? = some i)).map (fun k => DL.T (nm k)) = ((cellN lo i).map nm).map DL.T := by
          rw [List.map_map]
          rfl
        rw [e, pass_cm]
        obtain ⟨b1, b2⟩ := cellTx_len hz i
        refine vm_join (Nat.le_trans (nms_len (n := 12) (by decide) b2 (by rw [List.length_map] at b1; exact b1)) (by decide)) ?_
        refine pad_nil ?_
        refine vm_append wu_same (by rw [List.length_map, List.length_map]; exact small1000 (by have := headsTo_len lo i; omega)) ?_
        rw [wu_wu, txt_join]
        refine ⟨_, y, rfl, ?_⟩
        rw [headsTo_succ, if_pos c1, List.map_append, List.map_append]
        rfl
    · refine pssd_nil ⟨_, y, rfl, ?_⟩
      rw [headsTo_succ, if_neg c1, List.append_nil]
  · rintro δ' w' ⟨x, y, rfl, rfl⟩
    rw [ups_len]
    refine pssd_one (psd_ret ?_)
    refine pd_drop (?_ : PD _ _ _ _ _ _ _ fun d w' => ∃ a, κ d (wd w' a))
    refine pd_bm PySem.F.plainAttrs_str PySem.F.slot_str_join PySem.F.type_str_join mt_join ?_
    refine pd_str ?_
    refine ⟨rfl, ?_⟩
    refine pad_cons ?_
    refine pd_var (i := 1) rfl rfl ?_
    refine pad_nil ?_
    rw [pass_br]
    have e : (headsTo lo lo.length).map (fun c => cTx (cellN lo c)) = (cellsT lo).map cTx := by
      unfold cellsT
      rw [List.map_map]
      rfl
    rw [e]
    refine vm_joinO wu_same (Nat.le_trans (tx_sum hz) (by decide)) ⟨a, ?_⟩
    rw [wd_wu ha, txt_join]
    exact k
end
end Tw

set_option Elab.async false
set_option linter.all false
set_option maxRecDepth 100000
set_option maxHeartbeats 2000000
namespace Tw
open PySem PySem.Spec PyProof.Rows L2 LamX DL Mth
abbrev sFar : Stmt := top 26
abbrev sSwp : Stmt := top 23
abbrev sLes : Stmt := top 24
abbrev sBnt : Stmt := top 25
def spFar : SpD := fun ds w κ χ => ∃ a r b m, ds = [R a, I m] ∧ BagAt w a r b ∧ 0 < m ∧ m ≤ 1000 ∧ ∀ x b', (x < 0 ∨ m ≤ x) → x.natAbs.log2 < 1920 → κ (I x) (bagPut w a r b')
/-- a bent text: at most two signs more, of signs below 200 -/
def Bent (t t' : Str) : Prop := t'.length ≤ t.length + 2 ∧ ∀ c ∈ t'.cps.toList, c < 200
def spSwp : SpD := fun ds w κ χ => ∃ (t : Str) (c : Nat) (p : Nat), ds = [DL.T t, DL.T ⟨#[c]⟩, I (p : Int)] ∧ c < 200 ∧ Okc t ∧ p ≤ 1000 ∧ ∀ t', Bent t t' → κ (DL.T t') w
def spBnt : SpD := fun ds w κ χ => ∃ (a r : Addr) (b : Bag) (t : Str), ds = [R a, DL.T t] ∧ BagAt w a r b ∧ t.length ≤ 900 ∧ (∀ c ∈ t.cps.toList, c < 200) ∧ ∀ t' b', Bent t t' → κ (DL.T t') (bagPut w a r b')
theorem mem_join {c k : Nat} : ∀ {ps : List Str}, k ∈ (Str.join ⟨#[c]⟩ ps).cps.toList → k = c ∨ ∃ p ∈ ps, k ∈ p.cps.toList
  | [], h => by
    have h' : k ∈ Str.empty.cps.toList := h
    simp [Str.empty] at h'
  | [x], h => .inr ⟨x, List.mem_cons_self .., h⟩
  | x :: y :: r, h => by
    rw [join_two] at h
    rcases List.mem_append.mp h with h | h
    · exact .inr ⟨x, List.mem_cons_self .., h⟩
    · cases h with
      | head => exact .inl rfl
      | tail _ h =>
        rcases mem_join h with h | ⟨p, hp, hk⟩
        · exact .inl h
        · exact .inr ⟨p, List.mem_cons_of_mem _ hp, hk⟩
/-- what is joined of the text's parts, in any order, at most once each -/
theorem bent_join {t : Str} {c : Nat} {ps : List Str} (hc : c < 200) (ht : Okc t) (hs : (ps.map (·.length)).sum ≤ ((Txt.split t ⟨#[c]⟩).map (·.length)).sum) (hl : ps.length ≤ (Txt.split t ⟨#[c]⟩).length) (hm : ∀ p ∈ ps, p ∈ Txt.split t ⟨#[c]⟩) : Bent t (Str.join ⟨#[c]⟩ ps) ∧ (ps.map (·.length)).sum + ps.length * (⟨#[c]⟩ : Str).length ≤ 16777216 := by
  have e := split_len c t
  have j := join_le c ps
  have o := ht.1
  have e1 : (⟨#[c]⟩ : Str).length = 1 := rfl
  refine ⟨⟨by omega, fun k hk => ?_⟩, by rw [e1]; omega⟩
  rcases mem_join hk with h | ⟨p, hp, hk⟩
  · rw [h]
    exact hc
  · exact (split_okc ht p (hm p hp)).2 k hk
section
variable {P : Program} {w : PySem.World} {K : PySem.W.Frag} {mg : Str → Option Value} {base : Heap} {T : List (Addr × Str)} {C CU CB CT : Addr}
theorem scSwp : FnScope ["text", "sign", "place", "row", "one", "two", "spare"] ["text", "sign", "place"] (defScope sSwp) := ⟨rfl, rfl, rfl, by decide +kernel, rfl, by decide +kernel, by decide +kernel⟩
theorem set_sum {ns : List Nat} {i x : Nat} (h : ns[i]? = some x) (y : Nat) : (ns.set i y).sum + x = ns.sum + y := by
  induction ns generalizing i with
  | nil => simp at h
  | cons n ns ih =>
    cases i with
    | zero =>
      have e : n = x := Option.some.inj h
      subst e
      simp only [List.set_cons_zero, List.sum_cons]
      omega
    | succ i =>
      have := ih (i := i) h
      simp only [List.set_cons_succ, List.sum_cons]
      omega
theorem ok_swp {f : Addr} {fd : FuncData} (G : Fun K "_law_swapped" "_law_swapped" sSwp f fd) (hm : Nm2 mg) : FnOk P w K mg base CX0 1 f fd ["text", "sign", "place"] (spOf K T spSwp) := by
  refine fnD G scSwp (fun ds w κ χ h => ?_) (fun cdv A outer s H E ds w0 κ χ hr h => ?_)
  · obtain ⟨t, c, p, rfl, _⟩ := h
    rfl
  obtain ⟨t, c, p, rfl, hc, hO, hp, k⟩ := h
  have nd := scSwp.nd
  have hcnt := split_cnt (c := c) hO
  have hpos : 1 ≤ (Txt.split t ⟨#[c]⟩).length := PyProof.Rows.split_pos t ⟨#[c]⟩
  generalize hps : Txt.split t ⟨#[c]⟩ = ps at hcnt hpos
  have el : (ps.map DL.T).length = ps.length := List.length_map _
  refine pssd_cons (psd_set (i := 3) nd rfl ?_)
  refine pd_bm PySem.F.plainAttrs_str PySem.F.slot_str_split PySem.F.type_str_split mt_split ?_
  refine pd_var (i := 0) rfl rfl ?_
  refine ⟨rfl, ?_⟩
  refine pad_cons ?_
  refine pd_var (i := 1) rfl rfl ?_
  refine pad_nil ?_
  refine vm_splitO rfl (fits_split hO) fun l hl => ?_
  rw [hps]
  -- one = place % len(row)
  have md : ∀ x : Nat, ∃ q : Nat, q < ps.length ∧ ((x : Int) % (ps.length : Int)) = (q : Int) := fun x => ⟨x % ps.length, Nat.mod_lt _ hpos, (Int.natCast_emod x ps.length).symm⟩
  obtain ⟨q1, h1, m1⟩ := md p
  obtain ⟨q2, h2, m2⟩ := md (q1 + 1)
  have m2' : ((q1 : Int) + 1) % (ps.length : Int) = (q2 : Int) := by
    rw [← m2]
    rfl
  obtain ⟨y1, g1⟩ := at_lt h1
  obtain ⟨y2, g2⟩ := at_lt h2
  have tg : ∀ {qs : List Str} {n : Nat} {y : Str}, qs[n]? = some y → (qs.map DL.T)[n]? = some (DL.T y) := fun {qs n y} g => by
    rw [List.getElem?_map, g]
    rfl
  refine pssd_cons (psd_set (i := 4) nd rfl ?_)
  refine pd_op op_mod ?_
  refine pd_var (i := 2) rfl rfl ?_
  refine pd_callB call_len_seq rfl hm.len PySem.boot_len ?_
  refine pad_cons ?_
  refine pd_var (i := 3) rfl rfl ?_
  refine pad_nil ?_
  refine va_lenK (.inr ⟨l, rfl, wu_same⟩) ?_
  rw [el]
  refine vr_IC (by show (0 : Int) < (ps.length : Int); omega) ?_
  show PSsD _ _ _ _ _ ((startD ["text", "sign", "place", "row", "one", "two", "spare"] [DL.T t, DL.T ⟨#[c]⟩, I (p : Int)] |>.set 3 (some (R l))).set 4 (some (I ((p : Int) % (ps.length : Int))))) _ _
  rw [m1]
  refine pssd_cons (psd_set (i := 5) nd rfl ?_)
  refine pd_op op_mod ?_
  refine pd_op op_add ?_
  refine pd_var (i := 4) rfl rfl ?_
  refine pd_int ?_
  refine vr_I ?_
  refine pd_callB call_len_seq rfl hm.len PySem.boot_len ?_
  refine pad_cons ?_
  refine pd_var (i := 3) rfl rfl ?_
  refine pad_nil ?_
  refine va_lenK (.inr ⟨l, rfl, wu_same⟩) ?_
  rw [el]
  refine vr_IC (by show (0 : Int) < (ps.length : Int); omega) ?_
  show PSsD _ _ _ _ _ (((startD ["text", "sign", "place", "row", "one", "two", "spare"] [DL.T t, DL.T ⟨#[c]⟩, I (p : Int)] |>.set 3 (some (R l))).set 4 (some (I (q1 : Int)))).set 5 (some (I (((q1 : Int) + 1) % (ps.length : Int))))) _ _
  rw [m2']
  refine pssd_cons (psd_set (i := 6) nd rfl ?_)
  refine pd_ix ix_list ?_
  refine pd_var (i := 3) rfl rfl ?_
  refine pd_var (i := 4) rfl rfl ?_
  refine vr_ixO wu_same (tg g1) ?_
  refine pssd_cons (psd_sub set_list ?_)
  refine pd_ix ix_list ?_
  refine pd_var (i := 3) rfl rfl ?_
  refine pd_var (i := 5) rfl rfl ?_
  refine vr_ixO wu_same (tg g2) ?_
  refine pd_var (i := 3) rfl rfl ?_
  refine pd_var (i := 4) rfl rfl ?_
  refine vr_setO wu_same (by rw [el]; exact h1) ?_
  rw [wu_wu]
  refine pssd_cons (psd_sub set_list ?_)
  refine pd_var (i := 6) rfl rfl ?_
  refine pd_var (i := 3) rfl rfl ?_
  refine pd_var (i := 5) rfl rfl ?_
  refine vr_setO wu_same (by rw [List.length_set, el]; exact h2) ?_
  rw [wu_wu]
  have em : ((ps.map DL.T).set q1 (DL.T y2)).set q2 (DL.T y1) = ((ps.set q1 y2).set q2 y1).map DL.T := by rw [List.map_set, List.map_set]
  rw [em]
  refine pssd_one (psd_ret ?_)
  refine pd_drop ?_
  refine pd_bm PySem.F.plainAttrs_str PySem.F.slot_str_join PySem.F.type_str_join mt_join ?_
  refine pd_var (i := 1) rfl rfl ?_
  refine ⟨rfl, ?_⟩
  refine pad_cons ?_
  refine pd_var (i := 3) rfl rfl ?_
  refine pad_nil ?_
  have L1 : ((ps.set q1 y2).map (·.length)).sum + y1.length = (ps.map (·.length)).sum + y2.length := by
    rw [List.map_set]
    exact set_sum (by rw [List.getElem?_map, g1]; rfl) _
  have L2 : ∃ z, (ps.set q1 y2)[q2]? = some z ∧ z = y2 := by
    by_cases e : q1 = q2
    · exact ⟨y2, by rw [e]; exact List.getElem?_set_self h2, rfl⟩
    · exact ⟨y2, by rw [List.getElem?_set_ne e]; exact g2, rfl⟩
  obtain ⟨z, hz, rfl⟩ := L2
  have L3 : (((ps.set q1 z).set q2 y1).map (·.length)).sum + z.length = ((ps.set q1 z).map (·.length)).sum + y1.length := by
    rw [List.map_set]
    exact set_sum (by rw [List.getElem?_map, hz]; rfl) _
  have mem : ∀ x ∈ (ps.set q1 z).set q2 y1, x ∈ ps := fun x hx => by
    rcases List.mem_or_eq_of_mem_set hx with hx | hx
    · rcases List.mem_or_eq_of_mem_set hx with hx | hx
      · exact hx
      · rw [hx]
        exact List.mem_of_getElem? g2
    · rw [hx]
      exact List.mem_of_getElem? g1
  obtain ⟨b1, b2⟩ := bent_join (ps := (ps.set q1 z).set q2 y1) hc hO (by rw [hps]; omega) (by rw [hps, List.length_set, List.length_set]; exact Nat.le_refl _) (by rw [hps]; exact mem)
  refine vm_joinO wu_same b2 ⟨l, ?_⟩
  rw [wd_wu hl, txt_join]
  exact k _ b1
theorem scLes : FnScope ["text", "sign", "place", "row"] ["text", "sign", "place"] (defScope sLes) := ⟨rfl, rfl, rfl, by decide +kernel, rfl, by decide +kernel, by decide +kernel⟩
theorem vm_popAt {K : PySem.W.Frag} {T : List (Addr × Str)} {w : Wp} {κ : D → Wp → Prop} {a : Addr} {ds : List D} {i : Nat} {d : D} (hw : w a = some (.lst ds)) (hi : ds[i]? = some d) (hz : ds.length ≤ 2000) (k : κ d (wu w a (.lst (ds.eraseIdx i)))) : VRM K T rPopAt (R a) [I (i : Int)] w κ := fun F S H x xs Q hW r1 r2 hK => by
  obtain ⟨_, _, o, h1, h2⟩ := hW.own a _ hw
  obtain ⟨zs, rfl, h2⟩ := h2
  obtain ⟨y, ys, rfl, h3, h4⟩ := r2
  have h4' : ys = [] := h4
  have h3' : y = .int (i : Int) := h3
  subst h4' h3'
  obtain ⟨v, h5, h6⟩ := h2.get hi
  have hl := (List.getElem?_eq_some_iff.mp h5).1
  have e := h2.length
  refine ⟨a, zs, (i : Int), i, v, r1, rfl, h1, by omega, by omega, ?_, h5, ?_⟩
  · unfold seqIndex?
    first
      | (simp; omega)
      | simp [hl]
  · exact hK _ _ _ S _ k (Same.refl _) (hW.put hw ⟨_, rfl, h2.eraseIdx i⟩) h6
theorem era_map {α β : Type} (g : α → β) : ∀ (l : List α) (i : Nat), (l.map g).eraseIdx i = (l.eraseIdx i).map g
  | [], i => by simp
  | x :: l, 0 => rfl
  | x :: l, i + 1 => by
    rw [List.map_cons, List.eraseIdx_cons_succ, List.eraseIdx_cons_succ, List.map_cons, era_map g l i]
theorem erase_sum {ns : List Nat} : ∀ i, (ns.eraseIdx i).sum ≤ ns.sum := by
  induction ns with
  | nil => intro i; simp
  | cons n ns ih =>
    intro i
    cases i with
    | zero =>
      simp only [List.eraseIdx_zero, List.tail_cons, List.sum_cons]
      omega
    | succ i =>
      have := ih i
      simp only [List.eraseIdx_cons_succ, List.sum_cons]
      omega
theorem ok_les {f : Addr} {fd : FuncData} (G : Fun K "_law_less" "_law_less" sLes f fd) (hm : Nm2 mg) : FnOk P w K mg base CX0 1 f fd ["text", "sign", "place"] (spOf K T spSwp) := by
  refine fnD G scLes (fun ds w κ χ h => ?_) (fun cdv A outer s H E ds w0 κ χ hr h => ?_)
  · obtain ⟨t, c, p, rfl, _⟩ := h
    rfl
  obtain ⟨t, c, p, rfl, hc, hO, hp, k⟩ := h
  have nd := scLes.nd
  have hcnt := split_cnt (c := c) hO
  have hpos : 1 ≤ (Txt.split t ⟨#[c]⟩).length := PyProof.Rows.split_pos t ⟨#[c]⟩
  generalize hps : Txt.split t ⟨#[c]⟩ = ps at hcnt hpos
  have el : (ps.map DL.T).length = ps.length := List.length_map _
  refine pssd_cons (psd_set (i := 3) nd rfl ?_)
  refine pd_bm PySem.F.plainAttrs_str PySem.F.slot_str_split PySem.F.type_str_split mt_split ?_
  refine pd_var (i := 0) rfl rfl ?_
  refine ⟨rfl, ?_⟩
  refine pad_cons ?_
  refine pd_var (i := 1) rfl rfl ?_
  refine pad_nil ?_
  refine vm_splitO rfl (fits_split hO) fun l hl => ?_
  rw [hps]
  have m1 : ((p : Int) % (ps.length : Int)) = ((p % ps.length : Nat) : Int) := (Int.natCast_emod p ps.length).symm
  have h1 : p % ps.length < ps.length := Nat.mod_lt _ hpos
  generalize p % ps.length = q1 at m1 h1
  obtain ⟨y1, g1⟩ := at_lt h1
  refine pssd_cons (psd_expr ?_)
  refine pd_bm PySem.F.plainAttrs_list PySem.F.slot_list_pop PySem.F.type_list_pop mt_popAt ?_
  refine pd_var (i := 3) rfl rfl ?_
  refine ⟨⟨rfl, _, wu_same⟩, ?_⟩
  refine pad_cons ?_
  refine pd_op op_mod ?_
  refine pd_var (i := 2) rfl rfl ?_
  refine pd_callB call_len_seq rfl hm.len PySem.boot_len ?_
  refine pad_cons ?_
  refine pd_var (i := 3) rfl rfl ?_
  refine pad_nil ?_
  refine va_lenK (.inr ⟨l, rfl, wu_same⟩) ?_
  rw [el]
  refine vr_IC (by show (0 : Int) < (ps.length : Int); omega) ?_
  refine pad_nil ?_
  show VRM _ _ _ _ [I ((p : Int) % (ps.length : Int))] _ _
  rw [m1]
  refine vm_popAt wu_same (d := DL.T y1) (by rw [List.getElem?_map, g1]; rfl) (by rw [el]; omega) ?_
  rw [wu_wu]
  have em : (ps.map DL.T).eraseIdx q1 = (ps.eraseIdx q1).map DL.T := era_map _ _ _
  rw [em]
  refine pssd_one (psd_ret ?_)
  refine pd_drop ?_
  refine pd_bm PySem.F.plainAttrs_str PySem.F.slot_str_join PySem.F.type_str_join mt_join ?_
  refine pd_var (i := 1) rfl rfl ?_
  refine ⟨rfl, ?_⟩
  refine pad_cons ?_
  refine pd_var (i := 3) rfl rfl ?_
  refine pad_nil ?_
  obtain ⟨b1, b2⟩ := bent_join (ps := ps.eraseIdx q1) hc hO (by rw [hps, ← era_map]; exact erase_sum q1) (by rw [hps]; exact List.length_eraseIdx_le ..) (by rw [hps]; exact fun x hx => List.mem_of_mem_eraseIdx hx)
  refine vm_joinO wu_same b2 ⟨l, ?_⟩
  rw [wd_wu hl, txt_join]
  exact k _ b1
end
end Tw

set_option Elab.async false
set_option linter.all false
set_option maxRecDepth 100000
set_option maxHeartbeats 2000000
namespace Tw
open PySem PySem.Spec PyProof.Rows L2 LamX DL Mth
section
variable {P : Program} {w : PySem.World} {K : PySem.W.Frag} {mg : Str → Option Value} {base : Heap} {T : List (Addr × Str)}
theorem scFar : FnScope ["bag", "many", "way"] ["bag", "many"] (defScope sFar) := ⟨rfl, rfl, rfl, by decide +kernel, rfl, by decide +kernel, by decide +kernel⟩
theorem ok_far {f : Addr} {fd : FuncData} (G : Fun K "_law_far" "_law_far" sFar f fd) (hm : Nm2 mg) (hT : HasF P w K mg base T CX0 "_law_take" 1 ["bag", "many"] spTake) : FnOk P w K mg base CX0 2 f fd ["bag", "many"] (spOf K T spFar) := by
  refine fnD G scFar (fun ds w κ χ h => ?_) (fun cdv A outer s H E ds w0 κ χ hr h => ?_)
  · obtain ⟨a, r, b, m, rfl, _⟩ := h
    rfl
  obtain ⟨a, r, b, m, rfl, hb, hm0, hm1, k⟩ := h
  have nd := scFar.nd
  refine pssd_cons (psd_set (i := 2) nd rfl ?_)
  (refine pd_take hT hr (i := 0) rfl rfl hb ?_)
  refine pd_int ?_
  refine ⟨rfl, _, rfl, by decide, by decide, fun way b1 h0 h1 => ?_⟩
  have hb1 := bag_put (w := w0) (b := b1) hb.ne
  refine pssd_cons (psd_if ?_)
  refine ptd_cmp op_eq ?_
  refine pd_var (i := 2) rfl rfl ?_
  refine pd_int ?_
  refine vr_eq rfl ⟨_, rfl, ?_⟩
  refine ite2 (fun c => ?_) (fun c => ?_)
  · refine pssd_one (psd_ret ?_)
    refine pd_op op_add ?_
    refine pd_var (i := 1) rfl rfl ?_
    (refine pd_take hT hr (i := 0) rfl rfl hb1 ?_)
    refine pd_int ?_
    refine ⟨rfl, _, rfl, by decide, by decide, fun x b2 h2 h3 => ?_⟩
    refine vr_I ?_
    rw [bag_put2 hb.ne]
    exact k _ b2 (.inr (by omega)) (log_of (Nat.lt_of_lt_of_le (by omega : _ < 2000) (by decide)))
  refine pssd_nil ?_
  refine pssd_cons (psd_if ?_)
  refine ptd_cmp op_eq ?_
  refine pd_var (i := 2) rfl rfl ?_
  refine pd_int ?_
  refine vr_eq rfl ⟨_, rfl, ?_⟩
  refine ite2 (fun c => ?_) (fun c => ?_)
  · refine pssd_one (psd_ret ?_)
    refine pd_op op_sub ?_
    refine pd_un un_neg ?_
    refine pd_int ?_
    refine vr_U ?_
    (refine pd_take hT hr (i := 0) rfl rfl hb1 ?_)
    refine pd_var (i := 1) rfl rfl ?_
    refine ⟨rfl, _, rfl, hm0, Nat.lt_trans (log_of (Nat.lt_of_lt_of_le (by omega : _ < 2000) (by decide))) (by decide), fun x b2 h2 h3 => ?_⟩
    refine vr_I ?_
    rw [bag_put2 hb.ne]
    exact k _ b2 (.inl (by omega)) (log_of (Nat.lt_of_lt_of_le (by omega : _ < 2000) (by decide)))
  refine pssd_nil ?_
  refine pssd_cons (psd_if ?_)
  refine ptd_cmp op_eq ?_
  refine pd_var (i := 2) rfl rfl ?_
  refine pd_int ?_
  refine vr_eq rfl ⟨_, rfl, ?_⟩
  refine ite2 (fun c => ?_) (fun c => ?_)
  · refine pssd_one (psd_ret ?_)
    refine pd_op op_sub ?_
    refine pd_op op_sub ?_
    (refine pd_op op_pow ?_; refine pd_int ?_; refine pd_int ?_; refine vr_IC ⟨by decide, by decide, by decide⟩ ?_)
    refine pd_int ?_
    refine vr_I ?_
    (refine pd_take hT hr (i := 0) rfl rfl hb1 ?_)
    refine pd_int ?_
    refine ⟨rfl, _, rfl, by decide, by decide, fun x b2 h2 h3 => ?_⟩
    refine vr_I ?_
    rw [bag_put2 hb.ne]
    have e40 : ((10 : Int) ^ (40 : Int).toNat) = 10000000000000000000000000000000000000000 := by decide
    rw [e40]
    exact k _ b2 (.inr (by omega)) (log_of (Nat.lt_of_lt_of_le (by omega : _ < 20000000000000000000000000000000000000000) (by decide)))
  refine pssd_nil ?_
  refine pssd_one (psd_ret ?_)
  refine pd_op op_add ?_
  refine pd_op op_sub ?_
  refine pd_int ?_
  (refine pd_op op_pow ?_; refine pd_int ?_; refine pd_int ?_; refine vr_IC ⟨by decide, by decide, by decide⟩ ?_)
  refine vr_I ?_
  (refine pd_take hT hr (i := 0) rfl rfl hb1 ?_)
  refine pd_int ?_
  refine ⟨rfl, _, rfl, by decide, by decide, fun x b2 h2 h3 => ?_⟩
  refine vr_I ?_
  rw [bag_put2 hb.ne]
  have e40 : ((10 : Int) ^ (40 : Int).toNat) = 10000000000000000000000000000000000000000 := by decide
  rw [e40]
  exact k _ b2 (.inl (by omega)) (log_of (Nat.lt_of_lt_of_le (by omega : _ < 20000000000000000000000000000000000000000) (by decide)))
theorem scBnt : FnScope ["bag", "text", "menu", "way", "sign", "place"] ["bag", "text"] (defScope sBnt) := ⟨rfl, rfl, rfl, by decide +kernel, rfl, by decide +kernel, by decide +kernel⟩
def menuT : Str := ("0123456789,|,|01 +-_;aA\n" : String)
theorem menu_len : menuT.length = 24 := by decide +kernel
theorem menu_ok : ∀ c ∈ menuT.cps.toList, c < 200 := by decide +kernel
theorem cat_ok {a b : Str} (ha : ∀ c ∈ a.cps.toList, c < 200) (hb : ∀ c ∈ b.cps.toList, c < 200) : ∀ c ∈ (a ++ b).cps.toList, c < 200 := fun c h => by
  rw [Str.cps_append, Array.toList_append] at h
  rcases List.mem_append.mp h with h | h
  · exact ha c h
  · exact hb c h
theorem ok_bnt {f : Addr} {fd : FuncData} (G : Fun K "_law_bent" "_law_bent" sBnt f fd) (hm : Nm2 mg) (hT : HasF P w K mg base T CX0 "_law_take" 1 ["bag", "many"] spTake) (hSw : HasF P w K mg base T CX0 "_law_swapped" 1 ["text", "sign", "place"] spSwp) (hLe : HasF P w K mg base T CX0 "_law_less" 1 ["text", "sign", "place"] spSwp) :
    FnOk P w K mg base CX0 2 f fd ["bag", "text"] (spOf K T spBnt) := by
  refine fnD G scBnt (fun ds w κ χ h => ?_) (fun cdv A outer s H E ds w0 κ χ hr h => ?_)
  · obtain ⟨a, r, b, t, rfl, _⟩ := h
    rfl
  obtain ⟨a, r, b, t, rfl, hb, hz, hch, k⟩ := h
  have nd := scBnt.nd
  have hO : Okc t := ⟨by omega, hch⟩
  have tz : t.length ≤ sizeLine := by
    rw [sizeLine_eq]
    omega
  have pp : ∀ b b', bagPut (bagPut w0 a r b) a r b' = bagPut w0 a r b' := fun b b' => bag_put2 hb.ne
  have hB : ∀ b, BagAt (bagPut w0 a r b) a r b := fun b => bag_put hb.ne
  refine pssd_cons (psd_set (i := 2) nd rfl ?_)
  refine pd_str ?_
  refine pssd_cons (psd_set (i := 3) nd rfl ?_)
  refine pd_take hT hr (i := 0) rfl rfl hb ?_
  refine pd_int ?_
  refine ⟨rfl, _, rfl, by decide, by decide, fun way b1 _ _ => ?_⟩
  refine pssd_cons (psd_set (i := 4) nd rfl ?_)
  refine pd_ix ix_str ?_
  refine pd_var (i := 2) rfl rfl ?_
  refine pd_take hT hr (i := 0) rfl rfl (hB b1) ?_
  refine pd_callB call_len rfl hm.len PySem.boot_len ?_
  refine pad_cons ?_
  refine pd_var (i := 2) rfl rfl ?_
  refine pad_nil ?_
  refine va_lenS (z := menuT) (by rw [menu_len, sizeLine_eq]; decide) ?_
  rw [menu_len]
  refine ⟨rfl, _, rfl, by decide, by decide, fun x b2 g0 g1 => ?_⟩
  obtain ⟨j, rfl⟩ := Int.eq_ofNat_of_zero_le g0
  refine vr_ixS (z := menuT) (by rw [menu_len, sizeLine_eq]; decide) (by rw [menu_len]; omega) fun ch hc => ?_
  rw [pp]
  have hc2 := menu_ok ch hc
  refine pssd_cons (psd_set (i := 5) nd rfl ?_)
  refine pd_take hT hr (i := 0) rfl rfl (hB b2) ?_
  refine pd_op op_add ?_
  refine pd_callB call_len rfl hm.len PySem.boot_len ?_
  refine pad_cons ?_
  refine pd_var (i := 1) rfl rfl ?_
  refine pad_nil ?_
  refine va_lenS tz ?_
  refine pd_int ?_
  refine vr_I ?_
  refine ⟨rfl, _, rfl, by omega, Nat.lt_trans (log_of (Nat.lt_of_lt_of_le (by omega : _ < 2000) (by decide))) (by decide), fun x b3 g2 g3 => ?_⟩
  obtain ⟨p, rfl⟩ := Int.eq_ofNat_of_zero_le g2
  rw [pp]
  have hp : p ≤ t.length := by omega
  have l1 : (⟨#[ch]⟩ : Str).length = 1 := rfl
  have o1 : ∀ c ∈ (⟨#[ch]⟩ : Str).cps.toList, c < 200 := fun c h => by
    have h' : c = ch := by simpa using h
    rw [h']
    exact hc2
  have sl : sizeLine = 16777216 := sizeLine_eq
  have sub : ∀ y : Str, (∀ c ∈ y.cps.toList, c ∈ t.cps.toList) → ∀ c ∈ y.cps.toList, c < 200 := fun y h c hc => hch c (h c hc)
  (refine pssd_cons (psd_if ?_); refine ptd_cmp op_eq ?_; refine pd_var (i := 3) rfl rfl ?_; refine pd_int ?_; refine vr_eq rfl ⟨_, rfl, ?_⟩; refine ite2 (fun cc => ?_) (fun cc => ?_))
  · refine pssd_one (psd_ret ?_)
    refine pd_op op_add_str ?_
    refine pd_op op_add_str ?_
    (refine pd_slSTo ?_; refine pd_var (i := 1) rfl rfl ?_; refine pd_var (i := 5) rfl rfl ?_; refine ⟨t, p, rfl, rfl, tz, fun y1 e1 s1 => ?_⟩)
    refine pd_var (i := 4) rfl rfl ?_
    refine vr_addS (by omega) ?_
    refine pd_slSFrom ?_
    refine pd_var (i := 1) rfl rfl ?_
    refine pd_var (i := 5) rfl rfl ?_
    refine ⟨t, p, rfl, rfl, tz, fun y2 e2 s2 => ?_⟩
    refine vr_addS (by rw [Str.length_append]; omega) ?_
    exact k _ b3 ⟨by rw [Str.length_append, Str.length_append]; omega, cat_ok (cat_ok (sub _ s1) o1) (sub _ s2)⟩
  refine pssd_nil ?_
  (refine pssd_cons (psd_if ?_); refine ptd_cmp op_eq ?_; refine pd_var (i := 3) rfl rfl ?_; refine pd_int ?_; refine vr_eq rfl ⟨_, rfl, ?_⟩; refine ite2 (fun cc => ?_) (fun cc => ?_))
  · refine pssd_one (psd_ret ?_)
    refine pd_op op_add_str ?_
    (refine pd_slSTo ?_; refine pd_var (i := 1) rfl rfl ?_; refine pd_var (i := 5) rfl rfl ?_; refine ⟨t, p, rfl, rfl, tz, fun y1 e1 s1 => ?_⟩)
    refine pd_slSFrom ?_
    refine pd_var (i := 1) rfl rfl ?_
    (refine pd_op op_add ?_; refine pd_var (i := 5) rfl rfl ?_; refine pd_int ?_; refine vr_I ?_)
    refine ⟨t, p + 1, rfl, rfl, tz, fun y2 e2 s2 => ?_⟩
    refine vr_addS (by omega) ?_
    exact k _ b3 ⟨by rw [Str.length_append]; omega, cat_ok (sub _ s1) (sub _ s2)⟩
  refine pssd_nil ?_
  (refine pssd_cons (psd_if ?_); refine ptd_cmp op_eq ?_; refine pd_var (i := 3) rfl rfl ?_; refine pd_int ?_; refine vr_eq rfl ⟨_, rfl, ?_⟩; refine ite2 (fun cc => ?_) (fun cc => ?_))
  · refine pssd_one (psd_ret ?_)
    refine pd_op op_add_str ?_
    refine pd_op op_add_str ?_
    (refine pd_slSTo ?_; refine pd_var (i := 1) rfl rfl ?_; refine pd_var (i := 5) rfl rfl ?_; refine ⟨t, p, rfl, rfl, tz, fun y1 e1 s1 => ?_⟩)
    refine pd_var (i := 4) rfl rfl ?_
    refine vr_addS (by omega) ?_
    refine pd_slSFrom ?_
    refine pd_var (i := 1) rfl rfl ?_
    (refine pd_op op_add ?_; refine pd_var (i := 5) rfl rfl ?_; refine pd_int ?_; refine vr_I ?_)
    refine ⟨t, p + 1, rfl, rfl, tz, fun y2 e2 s2 => ?_⟩
    refine vr_addS (by rw [Str.length_append]; omega) ?_
    exact k _ b3 ⟨by rw [Str.length_append, Str.length_append]; omega, cat_ok (cat_ok (sub _ s1) o1) (sub _ s2)⟩
  refine pssd_nil ?_
  (refine pssd_cons (psd_if ?_); refine ptd_cmp op_eq ?_; refine pd_var (i := 3) rfl rfl ?_; refine pd_int ?_; refine vr_eq rfl ⟨_, rfl, ?_⟩; refine ite2 (fun cc => ?_) (fun cc => ?_))
  · refine pssd_one (psd_ret ?_)
    refine pd_op op_add_str ?_
    refine pd_op op_add_str ?_
    refine pd_op op_add_str ?_
    (refine pd_slSTo ?_; refine pd_var (i := 1) rfl rfl ?_; refine pd_var (i := 5) rfl rfl ?_; refine ⟨t, p, rfl, rfl, tz, fun y1 e1 s1 => ?_⟩)
    refine pd_slSMid ?_
    refine pd_var (i := 1) rfl rfl ?_
    (refine pd_op op_add ?_; refine pd_var (i := 5) rfl rfl ?_; refine pd_int ?_; refine vr_I ?_)
    refine ⟨p + 1, rfl, ?_⟩
    (refine pd_op op_add ?_; refine pd_var (i := 5) rfl rfl ?_; refine pd_int ?_; refine vr_I ?_)
    refine ⟨t, p + 2, rfl, rfl, tz, fun y2 e2 s2 => ?_⟩
    refine vr_addS (by omega) ?_
    refine pd_slSMid ?_
    refine pd_var (i := 1) rfl rfl ?_
    refine pd_var (i := 5) rfl rfl ?_
    refine ⟨p, rfl, ?_⟩
    (refine pd_op op_add ?_; refine pd_var (i := 5) rfl rfl ?_; refine pd_int ?_; refine vr_I ?_)
    refine ⟨t, p + 1, rfl, rfl, tz, fun y3 e3 s3 => ?_⟩
    refine vr_addS (by rw [Str.length_append]; omega) ?_
    refine pd_slSFrom ?_
    refine pd_var (i := 1) rfl rfl ?_
    (refine pd_op op_add ?_; refine pd_var (i := 5) rfl rfl ?_; refine pd_int ?_; refine vr_I ?_)
    refine ⟨t, p + 2, rfl, rfl, tz, fun y4 e4 s4 => ?_⟩
    refine vr_addS (by rw [Str.length_append, Str.length_append]; omega) ?_
    exact k _ b3 ⟨by rw [Str.length_append, Str.length_append, Str.length_append]; omega, cat_ok (cat_ok (cat_ok (sub _ s1) (sub _ s2)) (sub _ s3)) (sub _ s4)⟩
  refine pssd_nil ?_
  (refine pssd_cons (psd_if ?_); refine ptd_cmp op_eq ?_; refine pd_var (i := 3) rfl rfl ?_; refine pd_int ?_; refine vr_eq rfl ⟨_, rfl, ?_⟩; refine ite2 (fun cc => ?_) (fun cc => ?_))
  · refine pssd_one (psd_ret ?_)
    refine pd_has hSw hr (fun _ => pass0At) ?_
    refine pad_cons ?_
    refine pd_var (i := 1) rfl rfl ?_
    refine pad_cons ?_
    refine pd_str ?_
    refine pad_cons ?_
    refine pd_var (i := 5) rfl rfl ?_
    refine pad_nil ?_
    rw [pass_br]
    exact ⟨t, 124, p, rfl, by decide, hO, by omega, fun t' h => k t' b3 h⟩
  refine pssd_nil ?_
  (refine pssd_cons (psd_if ?_); refine ptd_cmp op_eq ?_; refine pd_var (i := 3) rfl rfl ?_; refine pd_int ?_; refine vr_eq rfl ⟨_, rfl, ?_⟩; refine ite2 (fun cc => ?_) (fun cc => ?_))
  · refine pssd_one (psd_ret ?_)
    refine pd_has hSw hr (fun _ => pass0At) ?_
    refine pad_cons ?_
    refine pd_var (i := 1) rfl rfl ?_
    refine pad_cons ?_
    refine pd_str ?_
    refine pad_cons ?_
    refine pd_var (i := 5) rfl rfl ?_
    refine pad_nil ?_
    rw [pass_cm]
    exact ⟨t, 44, p, rfl, by decide, hO, by omega, fun t' h => k t' b3 h⟩
  refine pssd_nil ?_
  refine pssd_one (psd_ret ?_)
  refine pd_has hLe hr (fun _ => pass0At) ?_
  refine pad_cons ?_
  refine pd_var (i := 1) rfl rfl ?_
  refine pad_cons ?_
  refine pd_str ?_
  refine pad_cons ?_
  refine pd_var (i := 5) rfl rfl ?_
  refine pad_nil ?_
  rw [pass_br]
  exact ⟨t, 124, p, rfl, by decide, hO, by omega, fun t' h => k t' b3 h⟩
end
end Tw

set_option Elab.async false
set_option linter.all false
set_option maxRecDepth 100000
set_option maxHeartbeats 2000000
namespace Tw
open PySem PySem.Spec PyProof.Rows L2 LamX DL Mth
abbrev sWds : Stmt := top 27
abbrev sLPa : Stmt := top 28
abbrev sLMe : Stmt := top 29
def kD (k : Key) : D := .val (kV k)
def kP : Key → PyData
  | .inl i => .int i
  | .inr x => .str x
def KOk (ks : List Key) : Prop := ∀ k ∈ ks, PyData.canLay0 (kP k) = true
def spWds : SpD := fun ds w κ χ => ∃ (a r : Addr) (b : Bag) (n : Nat), ds = [R a, I (n : Int)] ∧ BagAt w a r b ∧ n ≤ 12 ∧ ∀ (ks : List Key) (b' : Bag), ks.length = n → KOk ks → κ (.lst (ks.map kD)) (bagPut w a r b')
def spLPa : SpD := fun ds w κ χ => ∃ (lo : List Nat) (ks : List Key), ds = [nats lo, .lst (ks.map kD)] ∧ lo.length ≤ 12 ∧ ks.length = lo.length ∧ KOk ks ∧ κ (nats (lowK (pairK lo ks))) w
def spLMe : SpD := fun ds w κ χ => ∃ (m : List Nat) (i j : Nat), ds = [nats m, I (i : Int), I (j : Int)] ∧ m.length ≤ 12 ∧ i < m.length ∧ j < m.length ∧ κ (nats (mergeN m i j)) w
theorem py_kD (k : Key) : pyD (kD k) = some (kP k) := by cases k <;> rfl
theorem eqv_kP (a b : Key) : PyData.eqv (kP a) (kP b) = decide (a = b) := by
  cases a with
  | inl i =>
    cases b with
    | inl j =>
      show decide (i = j) = _
      exact decide_eq_decide.mpr ⟨fun z => by rw [z], fun z => Sum.inl.inj z⟩
    | inr y =>
      show false = _
      exact (decide_eq_false (fun z => by cases z)).symm
  | inr x =>
    cases b with
    | inl j =>
      show false = _
      exact (decide_eq_false (fun z => by cases z)).symm
    | inr y =>
      have e : PyData.eqv (kP (.inr x)) (kP (.inr y)) = (x == y) := by first | rfl | (unfold kP PyData.eqv; rfl)
      rw [e]
      by_cases h : x = y
      · rw [h, decide_eq_true rfl]
        exact beq_self_eq_true y
      · rw [decide_eq_false (fun z => h (Sum.inr.inj z))]
        exact beq_eq_false_iff_ne.mpr h
def pyK (ks : List Key) : PyData := .tuple (ks.map kP)
theorem py_keys : ∀ ks : List Key, pyDs (ks.map fun k => D.val (kV k)) = some (ks.map kP)
  | [] => rfl
  | k :: ks => by
    show ((pyD (kD k)).bind fun x => (pyDs (ks.map fun k => D.val (kV k))).map fun xs => x :: xs) = _
    rw [py_kD, py_keys ks]
    rfl
theorem py_tupK (ks : List Key) : pyD (tupK ks) = some (pyK ks) := by
  show (pyDs (ks.map fun k => D.val (kV k))).map PyData.tuple = _
  rw [py_keys]
  rfl
theorem py_tupKs : ∀ kss : List (List Key), pyDs (kss.map tupK) = some (kss.map pyK)
  | [] => rfl
  | k :: ks => by
    show ((pyD (tupK k)).bind fun x => (pyDs (ks.map tupK)).map fun xs => x :: xs) = _
    rw [py_tupK, py_tupKs ks]
    rfl
theorem dep_kP (k : Key) : PyData.depth (kP k) = 0 := by cases k <;> rfl
theorem lay_kPs : ∀ {ks : List Key}, KOk ks → PyData.canLayAll0 (ks.map kP) = true
  | [], _ => rfl
  | k :: ks, h => by
    show (PyData.canLay0 (kP k) && PyData.canLayAll0 (ks.map kP)) = true
    rw [h k (List.mem_cons_self ..), lay_kPs fun x hx => h x (List.mem_cons_of_mem _ hx)]
    rfl
theorem dep_kPs : ∀ ks : List Key, PyData.depthAll (ks.map kP) = 0
  | [] => rfl
  | k :: ks => by
    show max (PyData.depth (kP k)) (PyData.depthAll (ks.map kP)) = 0
    rw [dep_kP, dep_kPs ks]
    rfl
theorem lay_pyKs : ∀ {kss : List (List Key)}, (∀ k ∈ kss, KOk k) → PyData.canLayAll0 (kss.map pyK) = true
  | [], _ => rfl
  | k :: ks, h => by
    show (PyData.canLayAll0 (k.map kP) && PyData.canLayAll0 (ks.map pyK)) = true
    rw [lay_kPs (h k (List.mem_cons_self ..)), lay_pyKs fun x hx => h x (List.mem_cons_of_mem _ hx)]
    rfl
theorem dep_pyK (k : List Key) : PyData.depth (pyK k) = 1 := by
  show PyData.depthAll (k.map kP) + 1 = 1
  rw [dep_kPs]
theorem dep_pyKs : ∀ kss : List (List Key), PyData.depthAll (kss.map pyK) ≤ 1
  | [] => Nat.zero_le _
  | k :: ks => by
    show max (PyData.depth (pyK k)) (PyData.depthAll (ks.map pyK)) ≤ 1
    rw [dep_pyK]
    have := dep_pyKs ks
    omega
theorem shaped_pyKs {kss : List (List Key)} (h : ∀ k ∈ kss, KOk k) : SeqAt.shaped (.list (kss.map pyK)) = true := by
  show (PyData.canLayAll0 (kss.map pyK) && decide (PyData.depthAll (kss.map pyK) + 1 ≤ 64)) = true
  rw [lay_pyKs h, decide_eq_true (Nat.le_trans (Nat.succ_le_succ (dep_pyKs kss)) (by decide))]
  rfl
theorem shaped_pyK {ks : List Key} (h : KOk ks) : SeqAt.shaped (pyK ks) = true := by
  show (PyData.canLayAll0 (ks.map kP) && decide (PyData.depthAll (ks.map kP) + 1 ≤ 64)) = true
  rw [lay_kPs h, dep_kPs]
  rfl
theorem eqv_all_kP : ∀ as bs : List Key, PyData.eqvAll (as.map kP) (bs.map kP) = decide (as = bs)
  | [], [] => rfl
  | [], b :: bs => (decide_eq_false (fun z => by cases z)).symm
  | a :: as, [] => (decide_eq_false (fun z => by cases z)).symm
  | a :: as, b :: bs => by
    show (PyData.eqv (kP a) (kP b) && PyData.eqvAll (as.map kP) (bs.map kP)) = _
    rw [eqv_kP, eqv_all_kP as bs]
    by_cases h1 : a = b
    · by_cases h2 : as = bs
      · rw [decide_eq_true h1, decide_eq_true h2, decide_eq_true (by rw [h1, h2])]
        rfl
      · rw [decide_eq_true h1, decide_eq_false h2, decide_eq_false (p := a :: as = b :: bs) fun z => h2 (List.cons.inj z).2]
        rfl
    · rw [decide_eq_false h1, decide_eq_false (p := a :: as = b :: bs) fun z => h1 (List.cons.inj z).1]
      rfl
theorem eqv_pyK (as bs : List Key) : PyData.eqv (pyK as) (pyK bs) = decide (as = bs) := eqv_all_kP as bs
theorem ixK_at {kss : List (List Key)} {m : List Key} (h : m ∈ kss) : kss[ixK kss m]? = some m := @idx_at (List Key) instBEqOfDecidableEq _ _ _ h
theorem ixK_le {kss : List (List Key)} {m : List Key} {i : Nat} (h : kss[i]? = some m) : ixK kss m ≤ i := @idx_le (List Key) instBEqOfDecidableEq _ _ _ _ h
theorem vm_indexK {K : PySem.W.Frag} {T : List (Addr × Str)} {w : Wp} {κ : D → Wp → Prop} {kss : List (List Key)} {p : List Key} (ho : ∀ k ∈ kss, KOk k) (hm : p ∈ kss) (k : κ (I ((ixK kss p : Nat) : Int)) w) : VRM K T (rIndexD K) (.lst (kss.map tupK)) [tupK p] w κ := fun F S H x xs Q hW r1 r2 hK => by
  obtain ⟨y, zs, rfl, h3, h4⟩ := r2
  have h4' : zs = [] := h4
  subst h4'
  have r1' := r1
  obtain ⟨a, ys, rfl, _, _⟩ := r1'
  have d1 : Dp K H (.ref a) (.list (kss.map pyK)) := dp_of hW.same (by show (pyDs (kss.map tupK)).map PyData.list = _; rw [py_tupKs]; rfl) r1
  have d2 : Dp K H y (pyK p) := dp_of hW.same (py_tupK p) h3
  refine ⟨a, y, pyK p, kss.map pyK, ixK kss p, pyK p, rfl, rfl, d1, d2, shaped_pyKs ho, shaped_pyK (ho p hm), ?_, ?_, ?_, hK _ w _ S H k (Same.refl _) hW rfl⟩
  · rw [List.getElem?_map, ixK_at hm]
    rfl
  · rw [eqv_pyK, decide_eq_true rfl]
  · intro m z' hlt hz
    rw [List.getElem?_map] at hz
    cases e : kss[m]? with
    | none =>
      rw [e] at hz
      cases hz
    | some q =>
      rw [e] at hz
      cases hz
      rw [eqv_pyK]
      refine decide_eq_false fun z => ?_
      have := ixK_le (m := p) (i := m) (by rw [e, z])
      omega
theorem pair_ok {lo : List Nat} {ks : List Key} (h : KOk ks) : ∀ p ∈ pairK lo ks, KOk p := fun p hp k hk => by
  obtain ⟨⟨x, y⟩, hz, rfl⟩ := List.mem_map.mp hp
  have hy := (List.of_mem_zip hz).2
  cases hk with
  | head => rfl
  | tail _ hk =>
    rw [List.mem_singleton.mp hk]
    exact h y hy
theorem va_minC {K : PySem.W.Frag} {T : List (Addr × Str)} {w : Wp} {κ : D → Wp → Prop} {ns : List Int} (h0 : 0 < ns.length) (k : ∀ m, m ∈ ns → (∀ y, y ∈ ns → m ≤ y) → κ (I m) w) : VRA K T (rMin K) [.lst (ns.map I)] w κ := fun F S H xs Q hW r hK => by
  obtain ⟨y, ys, rfl, h1, h2⟩ := r
  obtain ⟨a, zs, rfl, h3, h4⟩ := h1
  have h2' : ys = [] := h2
  subst h2'
  have e2 := h4.ints
  subst e2
  exact ⟨a, ns, rfl, SqL.of (hW.same _ _ h3), h0, fun m h5 h6 => hK _ w _ S H (k m h5 h6) (Same.refl _) hW rfl⟩
section
variable {P : Program} {w : PySem.World} {K : PySem.W.Frag} {mg : Str → Option Value} {base : Heap} {T : List (Addr × Str)}
theorem scLPa : FnScope ["low", "words", "pairs", "case", "pair"] ["low", "words"] (defScope sLPa) := ⟨rfl, rfl, rfl, by decide +kernel, rfl, by decide +kernel, by decide +kernel⟩
theorem ok_lpa {f : Addr} {fd : FuncData} (G : Fun K "_law_parted" "_law_parted" sLPa f fd) (hm : Nm2 mg) : FnOk P w K mg base CX0 2 f fd ["low", "words"] (spOf K T spLPa) := by
  refine fnD G scLPa (fun ds w κ χ h => ?_) (fun cdv A outer s H E ds w0 κ χ hr h => ?_)
  · obtain ⟨lo, ks, rfl, _⟩ := h
    rfl
  obtain ⟨lo, ks, rfl, hz, hl, ho, k⟩ := h
  have nd := scLPa.nd
  have hu : (A.deeper (envOfC "_law_parted" (defScope sLPa) s.heap.objs.size f cdv)).units + 65 < cLine := by
    have := hr.un
    omega
  have el := nl_len lo
  have pl : (pairK lo ks).length = lo.length := pair_len hl
  refine pssd_cons (psd_set (i := 2) nd rfl ?_)
  refine pd_lc (own := [("case", 3)]) (is := [3]) rfl nd (blkOk_by rfl) (by decide) ?_
  refine it_range hm.range ?_
  refine pd_callB call_len_seq rfl hm.len PySem.boot_len ?_
  refine pad_cons ?_
  refine pd_var (i := 0) rfl rfl ?_
  refine pad_nil ?_
  refine va_len ?_
  refine ⟨lo.length, by show I ((nl lo).length : Int) = _; rw [el], by omega, ?_⟩
  refine lcd_ix (fun _ => true) (fun i => tupK ((pairK lo ks).getD i [])) (by rw [ups_len]; exact small1000 (by omega)) (fun i d hd => ?_) ?_
  · obtain ⟨hi, rfl⟩ := ups_at hd
    obtain ⟨x, hx⟩ := at_lt hi
    obtain ⟨y, hy⟩ := at_lt (show i < ks.length by omega)
    have e : (pairK lo ks).getD i [] = [.inl (x : Int), y] := by
      unfold pairK
      rw [List.getD_eq_getElem?_getD, List.getElem?_map, (List.getElem?_zip_eq_some (z := (x, y))).mpr ⟨hx, hy⟩]
      rfl
    intro s H0 C1 cl1 fp1
    refine pgl_name nd rfl ?_
    intro s H0 C1 cl1 fp1
    refine ptsd_nil ?_
    intro s H0 C1 cl1 fp1
    refine pd_tup ?_
    refine pad_cons ?_
    refine pd_ix ix_list ?_
    refine pd_var (i := 0) rfl rfl ?_
    refine pd_var (i := 3) rfl rfl ?_
    refine vr_ixL (nl_at hx) ?_
    refine pad_cons ?_
    refine pd_ix ix_list ?_
    refine pd_var (i := 1) rfl rfl ?_
    refine pd_var (i := 3) rfl rfl ?_
    refine vr_ixL (d := kD y) (by rw [List.getElem?_map, hy]; rfl) ?_
    refine pad_nil ⟨by show 2 ≤ sizeLine; decide, rfl, ?_, rfl⟩
    rw [e]
    rfl
  have e2 : ((List.range (ups lo.length).length).filter fun _ => true).map (fun i => tupK ((pairK lo ks).getD i [])) = (pairK lo ks).map tupK := by
    rw [ups_len, ← pl, List.filter_eq_self.mpr (fun _ _ => rfl)]
    refine range_map (pairK lo ks) tupK _ fun i x hx => ?_
    rw [List.getD_eq_getElem?_getD, hx]
    rfl
  rw [e2]
  refine pssd_one (psd_ret ?_)
  refine pd_lc (own := [("pair", 4)]) (is := [4]) rfl nd (blkOk_by rfl) (by decide) ?_
  refine it_list ?_
  refine pd_var (i := 2) rfl rfl ?_
  refine ⟨_, rfl, ?_⟩
  refine lcd_map (fun p => I ((ixK (pairK lo ks) p : Nat) : Int)) (by rw [pl]; exact small1000 (by omega)) (fun p hp s H0 C1 cl1 fp1 => ?_) ?_
  · refine pgl_name nd rfl ?_
    intro s H0 C1 cl1 fp1
    refine ptsd_nil ?_
    intro s H0 C1 cl1 fp1
    refine pd_bm PySem.F.plainAttrs_list PySem.F.slot_list_index PySem.F.type_list_index (mt_indexD hu) ?_
    refine pd_var (i := 2) rfl rfl ?_
    refine ⟨rfl, ?_⟩
    refine pad_cons ?_
    refine pd_var (i := 4) rfl rfl ?_
    refine pad_nil ?_
    refine vm_indexK (pair_ok ho) hp ?_
    exact ⟨rfl, rfl, rfl⟩
  · have e : D.lst ((pairK lo ks).map fun m => I ((ixK (pairK lo ks) m : Nat) : Int)) = nats (lowK (pairK lo ks)) := by
      unfold nats lowK lowG
      rw [List.map_map]
      rfl
    show κ (.lst ((pairK lo ks).map fun m => I ((ixK (pairK lo ks) m : Nat) : Int))) w0
    rw [e]
    exact k
theorem scLMe : FnScope ["low", "one", "two", "ends", "mark"] ["low", "one", "two"] (defScope sLMe) := ⟨rfl, rfl, rfl, by decide +kernel, rfl, by decide +kernel, by decide +kernel⟩
theorem bt_min2 : bootBuiltins "min" = some (.builtin "min") := by decide +kernel
theorem ok_lme {f : Addr} {fd : FuncData} (G : Fun K "_law_merged" "_law_merged" sLMe f fd) (hmn : mg "min" = none) : FnOk P w K mg base CX0 1 f fd ["low", "one", "two"] (spOf K T spLMe) := by
  refine fnD G scLMe (fun ds w κ χ h => ?_) (fun cdv A outer s H E ds w0 κ χ hr h => ?_)
  · obtain ⟨m, i, j, rfl, _⟩ := h
    rfl
  obtain ⟨m, i, j, rfl, hz, hi, hj, k⟩ := h
  have nd := scLMe.nd
  obtain ⟨a, ha⟩ := at_lt hi
  obtain ⟨b, hb⟩ := at_lt hj
  refine pssd_cons (psd_set (i := 3) nd rfl ?_)
  refine pd_lst ?_
  refine pad_cons ?_
  refine pd_ix ix_list ?_
  refine pd_var (i := 0) rfl rfl ?_
  refine pd_var (i := 1) rfl rfl ?_
  refine vr_ixL (nl_at ha) ?_
  refine pad_cons ?_
  refine pd_ix ix_list ?_
  refine pd_var (i := 0) rfl rfl ?_
  refine pd_var (i := 2) rfl rfl ?_
  refine vr_ixL (nl_at hb) ?_
  refine pad_nil ⟨by show 2 ≤ sizeLine; decide, ?_⟩
  refine pssd_one (psd_ret ?_)
  refine pd_lc (own := [("mark", 4)]) (is := [4]) rfl nd (blkOk_by rfl) (by decide) ?_
  refine it_list ?_
  refine pd_var (i := 0) rfl rfl ?_
  refine ⟨_, rfl, ?_⟩
  refine lcd_map (fun (x : Nat) => I (((if x = max a b then min a b else x : Nat)) : Int)) (small1000 (by omega)) (fun x hx s H0 C cl fp => ?_) ?_
  · refine pgl_name nd rfl ?_
    intro s H0 C cl fp
    refine ptsd_nil ?_
    intro s H0 C cl fp
    refine pd_if ?_
    refine ptd_cmp op_in_seq ?_
    refine pd_var (i := 4) rfl rfl ?_
    refine pd_var (i := 3) rfl rfl ?_
    refine vr_inI (ys := [(a : Int), (b : Int)]) ?_
    refine ⟨_, rfl, ?_⟩
    refine ite2 (fun q => ?_) (fun q => ?_)
    · refine pd_callB (cr_min rfl) rfl hmn bt_min2 ?_
      refine pad_cons ?_
      refine pd_var (i := 3) rfl rfl ?_
      refine pad_nil ?_
      refine va_minC (ns := [(a : Int), (b : Int)]) (by simp) fun z hz2 hmin => ?_
      refine ⟨rfl, ?_, rfl⟩
      have q2 : (x : Int) = a ∨ (x : Int) = b := by simpa using q
      have h1 := hmin a (by simp)
      have h2 := hmin b (by simp)
      have h3 : z = a ∨ z = b := by simpa using hz2
      congr 1
      by_cases c : x = max a b
      · rw [if_pos c]
        omega
      · rw [if_neg c]
        omega
    · refine pd_var (i := 4) rfl rfl ?_
      have q2 : ¬ ((x : Int) = a ∨ (x : Int) = b) := by simpa using q
      refine ⟨rfl, ?_, rfl⟩
      rw [if_neg (by omega)]
  · have e : D.lst (m.map fun (x : Nat) => I (((if x = max a b then min a b else x : Nat)) : Int)) = nats (mergeN m i j) := by
      unfold nats mergeN
      rw [List.map_map, getD_of ha, getD_of hb]
      rfl
    show κ (.lst (m.map fun (x : Nat) => I (((if x = max a b then min a b else x : Nat)) : Int))) w0
    rw [e]
    exact k
theorem scWds : FnScope ["bag", "many", "texts", "numbers", "menu", "pool", "k"] ["bag", "many"] (defScope sWds) := ⟨rfl, rfl, rfl, by decide +kernel, rfl, by decide +kernel, by decide +kernel⟩
def tKs : List Key := [.inr "", .inr "-", .inr "yes", .inr "no", .inr "unsure", .inr "a", .inr "ab", .inr "yes "]
def nKs : List Key := [.inl 0, .inl 1, .inl (-1), .inl (-2), .inl 2, .inl ((10 : Int) ^ (40 : Int).toNat - 1), .inl (1 - (10 : Int) ^ (40 : Int).toNat), .inl 10]
theorem tKs_ok : KOk tKs := by
  intro k hk
  simp only [tKs, List.mem_cons, List.not_mem_nil, or_false] at hk
  rcases hk with rfl | rfl | rfl | rfl | rfl | rfl | rfl | rfl <;> decide +kernel
theorem nKs_ok : KOk nKs := by
  intro k hk
  simp only [nKs, List.mem_cons, List.not_mem_nil, or_false] at hk
  rcases hk with rfl | rfl | rfl | rfl | rfl | rfl | rfl | rfl <;> rfl
theorem kD_at {ks : List Key} {i : Nat} {y : Key} (h : ks[i]? = some y) : (ks.map kD)[i]? = some (kD y) := by
  rw [List.getElem?_map, h]
  rfl
theorem ok_wds {f : Addr} {fd : FuncData} (G : Fun K "_law_words" "_law_words" sWds f fd) (hm : Nm2 mg) (hT : HasF P w K mg base T CX0 "_law_take" 1 ["bag", "many"] spTake) : FnOk P w K mg base CX0 2 f fd ["bag", "many"] (spOf K T spWds) := by
  refine fnD G scWds (fun ds w κ χ h => ?_) (fun cdv A outer s H E ds w0 κ χ hr h => ?_)
  · obtain ⟨a, r, b, n, rfl, _⟩ := h
    rfl
  obtain ⟨a, r, b, n, rfl, hb, hz, k⟩ := h
  have nd := scWds.nd
  have pp : ∀ b b', bagPut (bagPut w0 a r b) a r b' = bagPut w0 a r b' := fun b b' => bag_put2 hb.ne
  have hB : ∀ b, BagAt (bagPut w0 a r b) a r b := fun b => bag_put hb.ne
  refine pssd_cons (psd_set (i := 2) nd rfl ?_)
  refine pd_lst ?_
  refine pad_cons (pd_str ?_)
  refine pad_cons (pd_str ?_)
  refine pad_cons (pd_str ?_)
  refine pad_cons (pd_str ?_)
  refine pad_cons (pd_str ?_)
  refine pad_cons (pd_str ?_)
  refine pad_cons (pd_str ?_)
  refine pad_cons (pd_str ?_)
  refine pad_nil ⟨by show 8 ≤ sizeLine; decide, ?_⟩
  refine pssd_cons (psd_set (i := 3) nd rfl ?_)
  refine pd_lst ?_
  refine pad_cons (pd_int ?_)
  refine pad_cons (pd_int ?_)
  refine pad_cons ?_
  (refine pd_un un_neg ?_; refine pd_int ?_; refine vr_U ?_)
  refine pad_cons ?_
  (refine pd_un un_neg ?_; refine pd_int ?_; refine vr_U ?_)
  refine pad_cons (pd_int ?_)
  refine pad_cons ?_
  refine pd_op op_sub ?_
  (refine pd_op op_pow ?_; refine pd_int ?_; refine pd_int ?_; refine vr_IC ⟨by decide, by decide, by decide⟩ ?_)
  refine pd_int ?_
  refine vr_I ?_
  refine pad_cons ?_
  refine pd_op op_sub ?_
  refine pd_int ?_
  (refine pd_op op_pow ?_; refine pd_int ?_; refine pd_int ?_; refine vr_IC ⟨by decide, by decide, by decide⟩ ?_)
  refine vr_I ?_
  refine pad_cons (pd_int ?_)
  refine pad_nil ⟨by show 8 ≤ sizeLine; decide, ?_⟩
  refine pssd_cons (psd_set (i := 4) nd rfl ?_)
  refine pd_if ?_
  refine ptd_cmp op_eq ?_
  refine pd_take hT hr (i := 0) rfl rfl hb ?_
  refine pd_int ?_
  refine ⟨rfl, _, rfl, by decide, by decide, fun way b1 _ _ => ?_⟩
  refine pd_int ?_
  refine vr_eq rfl ⟨_, rfl, ?_⟩
  have rest : ∀ mk : List Key, mk.length = 8 → KOk mk → PSsD (cxOf CX0 P w K mg base ["bag", "many", "texts", "numbers", "menu", "pool", "k"] "_law_words" (defScope sWds) f cdv A outer s H E).nox T Wf noX ((defBody sWds).drop 3) [some (R a), some (I (n : Int)), some (.lst (tKs.map kD)), some (.lst (nKs.map kD)), some (.lst (mk.map kD)), none, none] (bagPut w0 a r b1) { nx := fun _ w' => κ DL.N w', rt := κ } := by
    intro mk hl ho
    refine pssd_cons (psd_set (i := 5) nd rfl ?_)
    refine pd_lc (own := [("k", 6)]) (is := [6]) rfl nd (blkOk_by rfl) (by decide) ?_
    refine it_range hm.range ?_
    refine pd_op op_add ?_
    refine pd_int ?_
    refine pd_take hT hr (i := 0) rfl rfl (hB b1) ?_
    refine pd_int ?_
    refine ⟨rfl, _, rfl, by decide, by decide, fun x b2 g0 g1 => ?_⟩
    refine vr_I ?_
    rw [pp]
    obtain ⟨x', rfl⟩ := Int.eq_ofNat_of_zero_le g0
    refine ⟨1 + x', by show I (1 + (x' : Int)) = _; congr 1, by omega, ?_⟩
    refine ⟨by rw [ups_len]; exact small1000 (by omega), fun i acc w' => ∃ (b' : Bag) (ks : List Key), w' = bagPut w0 a r b' ∧ acc = ks.map kD ∧ ks.length = i ∧ KOk ks, ⟨b2, [], rfl, rfl, rfl, fun _ h => by cases h⟩, ?_, ?_⟩
    · rintro i d acc w' hd ⟨b', ks, rfl, rfl, hl2, ho2⟩ s H0 C1 cl1 fp1
      obtain ⟨hi, rfl⟩ := ups_at hd
      refine pgl_name nd rfl ?_
      intro s H0 C1 cl1 fp1
      refine ptsd_nil ?_
      intro s H0 C1 cl1 fp1
      refine pd_ix ix_list ?_
      refine pd_var (i := 4) rfl rfl ?_
      refine pd_take hT hr (i := 0) rfl rfl (hB b') ?_
      refine pd_int ?_
      refine ⟨rfl, _, rfl, by decide, by decide, fun y b3 g2 g3 => ?_⟩
      obtain ⟨y', rfl⟩ := Int.eq_ofNat_of_zero_le g2
      obtain ⟨z, hz2⟩ := at_lt (show y' < mk.length by omega)
      refine vr_ixL (kD_at hz2) ?_
      rw [pp]
      exact ⟨b3, ks ++ [z], rfl, by rw [List.map_append]; rfl, by rw [List.length_append, hl2]; rfl, fun q hq => by
        rcases List.mem_append.mp hq with hq | hq
        · exact ho2 q hq
        · rw [List.mem_singleton.mp hq]
          exact ho z (List.mem_of_getElem? hz2)⟩
    · rintro acc w' ⟨b', pool, rfl, rfl, hl2, ho2⟩
      rw [ups_len] at hl2
      refine pssd_one (psd_ret ?_)
      refine pd_lc (own := [("k", 6)]) (is := [6]) rfl nd (blkOk_by rfl) (by decide) ?_
      refine it_range hm.range ?_
      refine pd_var (i := 1) rfl rfl ?_
      refine ⟨n, rfl, by omega, ?_⟩
      refine ⟨by rw [ups_len]; exact small1000 (by omega), fun i acc w' => ∃ (b' : Bag) (ks : List Key), w' = bagPut w0 a r b' ∧ acc = ks.map kD ∧ ks.length = i ∧ KOk ks, ⟨b', [], rfl, rfl, rfl, fun _ h => by cases h⟩, ?_, ?_⟩
      · rintro i d acc w' hd ⟨b4, ks, rfl, rfl, hl3, ho3⟩ s H0 C1 cl1 fp1
        obtain ⟨hi, rfl⟩ := ups_at hd
        refine pgl_name nd rfl ?_
        intro s H0 C1 cl1 fp1
        refine ptsd_nil ?_
        intro s H0 C1 cl1 fp1
        refine pd_ix ix_list ?_
        refine pd_var (i := 5) rfl rfl ?_
        refine pd_take hT hr (i := 0) rfl rfl (hB b4) ?_
        refine pd_callB call_len_seq rfl hm.len PySem.boot_len ?_
        refine pad_cons ?_
        refine pd_var (i := 5) rfl rfl ?_
        refine pad_nil ?_
        refine va_len ?_
        rw [List.length_map]
        refine ⟨rfl, _, rfl, by omega, Nat.lt_trans (log_of (Nat.lt_of_lt_of_le (by omega : _ < 2000) (by decide))) (by decide), fun y b3 g2 g3 => ?_⟩
        obtain ⟨y', rfl⟩ := Int.eq_ofNat_of_zero_le g2
        obtain ⟨z, hz2⟩ := at_lt (show y' < pool.length by omega)
        refine vr_ixL (kD_at hz2) ?_
        rw [pp]
        exact ⟨b3, ks ++ [z], rfl, by rw [List.map_append]; rfl, by rw [List.length_append, hl3]; rfl, fun q hq => by
          rcases List.mem_append.mp hq with hq | hq
          · exact ho3 q hq
          · rw [List.mem_singleton.mp hq]
            exact ho2 z (List.mem_of_getElem? hz2)⟩
      · rintro acc w' ⟨b4, ks, rfl, rfl, hl3, ho3⟩
        rw [ups_len] at hl3
        exact k ks b4 hl3 ho3
  refine ite2 (fun _ => ?_) (fun _ => ?_)
  · refine pd_var (i := 2) rfl rfl ?_
    exact rest tKs rfl tKs_ok
  · refine pd_var (i := 3) rfl rfl ?_
    exact rest nKs rfl nKs_ok
end
end Tw

set_option Elab.async false
set_option linter.all false
set_option maxRecDepth 100000
set_option maxHeartbeats 2000000
namespace Tw
open PySem PySem.Spec PyProof.Rows L2 LamX DL Mth
abbrev sLRd : Stmt := top 22
def spLRd : SpD := fun ds w κ χ => ∃ t : Str, ds = [DL.T t] ∧ Okc t ∧ (∀ m fnd, LR t m fnd → κ (nats m) w) ∧ ((∀ m fnd, ¬ LR t m fnd) → κ N w)
def NM : List Str := (List.range 12).map nm
theorem mem_NM {y : Str} : y ∈ NM ↔ ∃ k, k < 12 ∧ nm k = y := by
  unfold NM
  rw [List.mem_map]
  exact ⟨fun ⟨k, hk, e⟩ => ⟨k, List.mem_range.mp hk, e⟩, fun ⟨k, hk, e⟩ => ⟨k, List.mem_range.mpr hk, e⟩⟩
theorem NM_at {k : Nat} (h : k < 12) : NM[k]? = some (nm k) := by
  unfold NM
  rw [List.getElem?_map, List.getElem?_range h]
  rfl
theorem idx_NM {y : Str} (h : y ∈ NM) : NM.idxOf y < 12 ∧ nm (NM.idxOf y) = y := by
  have h1 := List.idxOf_lt_length_of_mem h
  have l : NM.length = 12 := by
    unfold NM
    rw [List.length_map, List.length_range]
  have h2 : NM.idxOf y < 12 := by omega
  refine ⟨h2, ?_⟩
  have e := NM_at h2
  rw [List.getElem?_eq_getElem h1, List.getElem_idxOf h1] at e
  exact (Option.some.inj e).symm
theorem nms_inj : ∀ {a b : List Nat}, (∀ k ∈ a, k < 12) → (∀ k ∈ b, k < 12) → a.map nm = b.map nm → a = b
  | [], [], _, _, _ => rfl
  | [], y :: b, _, _, h => by simp at h
  | x :: a, [], _, _, h => by simp at h
  | x :: a, y :: b, ha, hb, h => by
    rw [List.map_cons, List.map_cons] at h
    obtain ⟨h1, h2⟩ := List.cons.inj h
    rw [nm_inj x (ha x (List.mem_cons_self ..)) y (hb y (List.mem_cons_self ..)) h1, nms_inj (fun k hk => ha k (List.mem_cons_of_mem _ hk)) (fun k hk => hb k (List.mem_cons_of_mem _ hk)) h2]
theorem nmss_inj : ∀ {a b : List (List Nat)}, (∀ r ∈ a, ∀ k ∈ r, k < 12) → (∀ r ∈ b, ∀ k ∈ r, k < 12) → a.map (fun r => r.map nm) = b.map (fun r => r.map nm) → a = b
  | [], [], _, _, _ => rfl
  | [], y :: b, _, _, h => by simp at h
  | x :: a, [], _, _, h => by simp at h
  | x :: a, y :: b, ha, hb, h => by
    rw [List.map_cons, List.map_cons] at h
    obtain ⟨h1, h2⟩ := List.cons.inj h
    rw [nms_inj (ha x (List.mem_cons_self ..)) (hb y (List.mem_cons_self ..)) h1, nmss_inj (fun k hk => ha k (List.mem_cons_of_mem _ hk)) (fun k hk => hb k (List.mem_cons_of_mem _ hk)) h2]
theorem LR.word {t : Str} {m : List Nat} {fnd : List (List Nat)} (h : LR t m fnd) {r : List Str} (hr : r ∈ wordsOf t) {y : Str} (hy : y ∈ r) : y ∈ NM := by
  rw [h.wd] at hr
  obtain ⟨q, hq, rfl⟩ := List.mem_map.mp hr
  obtain ⟨k, hk, rfl⟩ := List.mem_map.mp hy
  exact mem_NM.mpr ⟨k, h.lt q hq k hk, rfl⟩
theorem LR.same {t : Str} {m : List Nat} {fnd f2 : List (List Nat)} (h : LR t m fnd) (w : wordsOf t = f2.map fun r => r.map nm) (l : ∀ r ∈ f2, ∀ k ∈ r, k < 12) : fnd = f2 := nmss_inj h.lt l (h.wd.symm.trans w)
theorem py_txts : ∀ r : List Str, pyDs (r.map DL.T) = some (r.map PyData.str)
  | [] => rfl
  | n :: ns => by
    show ((pyD (DL.T n)).bind fun x => (pyDs (ns.map DL.T)).map fun xs => x :: xs) = _
    rw [py_txts ns]
    rfl
theorem okc_str {y : Str} (h : Okc y) : PyData.canLay0 (.str y) = true := by
  show PyData.strOk y = true
  unfold PyData.strOk
  rw [← Array.all_toList, List.all_eq_true]
  intro c hc
  exact decide_eq_true (Nat.lt_trans (h.2 c hc) (by decide))
theorem lay_txts : ∀ {r : List Str}, (∀ y ∈ r, Okc y) → PyData.canLayAll0 (r.map PyData.str) = true
  | [], _ => rfl
  | y :: r, h => by
    show (PyData.canLay0 (.str y) && PyData.canLayAll0 (r.map PyData.str)) = true
    rw [okc_str (h y (List.mem_cons_self ..)), lay_txts fun x hx => h x (List.mem_cons_of_mem _ hx)]
    rfl
theorem dep_txts : ∀ r : List Str, PyData.depthAll (r.map PyData.str) = 0
  | [] => rfl
  | y :: r => by
    show max (PyData.depth (.str y)) (PyData.depthAll (r.map PyData.str)) = 0
    rw [dep_txts r]
    rfl
theorem shaped_txts {r : List Str} (h : ∀ y ∈ r, Okc y) : SeqAt.shaped (.list (r.map PyData.str)) = true := by
  show (PyData.canLayAll0 (r.map PyData.str) && decide (PyData.depthAll (r.map PyData.str) + 1 ≤ 64)) = true
  rw [lay_txts h, dep_txts]
  rfl
theorem eqv_nilS (r : List Str) : PyData.eqv (.list (r.map PyData.str)) (.list []) = decide (r = []) := by
  cases r with
  | nil => rfl
  | cons x l => exact (decide_eq_false (fun z => by cases z)).symm
theorem shaped_intsL (ns : List Int) : SeqAt.shaped (.list (ns.map PyData.int)) = true := shaped_ints ns
theorem vr_neInts {K : PySem.W.Frag} {T : List (Addr × Str)} {w : Wp} {κ : D → Wp → Prop} {a b : List Int} (k : κ (B (!decide (a = b))) w) : VR2 K T (rNeD K) (.lst (a.map I)) (.lst (b.map I)) w κ := by
  refine vr_neD (p := .list (a.map PyData.int)) (q := .list (b.map PyData.int)) (by show (pyDs (a.map I)).map PyData.list = _; rw [py_ints]; rfl) (by show (pyDs (b.map I)).map PyData.list = _; rw [py_ints]; rfl) (shaped_ints a) (shaped_ints b) ?_
  rw [eqv_ints]
  exact k
theorem bt_sorted : bootBuiltins "sorted" = some (.builtin "sorted") := by decide +kernel
/-- sorted(xs) -/
theorem va_sorted {K : PySem.W.Frag} {T : List (Addr × Str)} {w : Wp} {κ : D → Wp → Prop} {ns : List Int} (k : ∀ ns' : List Int, ns'.Perm ns → ns'.Pairwise (· ≤ ·) → κ (.lst (ns'.map I)) w) : VRA K T (rSortedI K) [.lst (ns.map I)] w κ := fun F S H xs Q hW r hK => by
  obtain ⟨y, ys, rfl, h1, h2⟩ := r
  obtain ⟨a, zs, rfl, h3, h4⟩ := h1
  have h2' : ys = [] := h2
  have e := h4.ints
  subst h2' e
  refine ⟨a, ns, rfl, SqL.of (hW.same _ _ h3), fun ns' p hp hs hn => ?_⟩
  have s1 : Same S (upd S p (.lst (ns'.map V.int))) := same_upd (hW.free hn).1
  have rl : ∀ l : List Int, RepL K (upd S p (.lst (ns'.map V.int))) (l.map I) (l.map V.int) := by
    intro l
    induction l with
    | nil => rfl
    | cons x l ih => exact ⟨V.int x, _, rfl, rfl, ih⟩
  exact hK _ w _ _ _ (k ns' hp hs) s1 (hW.laid hn fun _ z => by cases z) ⟨p, _, rfl, upd_same, rl ns'⟩
theorem casts_sorted {l : List Nat} {ns : List Int} (hp : ns.Perm (casts l)) (hs : ns.Pairwise (· ≤ ·)) : casts l = ns ↔ l.Pairwise (· ≤ ·) := by
  have e : l.Pairwise (· ≤ ·) ↔ (casts l).Pairwise (· ≤ ·) := by
    unfold casts
    rw [List.pairwise_map]
    exact ⟨fun h => h.imp fun q => by exact_mod_cast q, fun h => h.imp fun q => by exact_mod_cast q⟩
  rw [e]
  constructor
  · intro h
    rw [h]
    exact hs
  · intro h
    exact List.Perm.eq_of_pairwise (le := (· ≤ ·)) (fun a b _ _ x y => by omega) h hs hp.symm
theorem sorted_range {l : List Nat} {ns : List Int} (hp : ns.Perm (casts l)) (hs : ns.Pairwise (· ≤ ·)) : ns = casts (List.range l.length) ↔ l.Perm (List.range l.length) := by
  have hr : (casts (List.range l.length)).Pairwise (· ≤ ·) := by
    unfold casts
    rw [List.pairwise_map]
    exact List.pairwise_lt_range.imp fun q => by omega
  constructor
  · intro h
    rw [h] at hp
    have : (casts l).Perm (casts (List.range l.length)) := hp.symm
    have m := this.map Int.toNat
    have id : ∀ x : List Nat, (casts x).map Int.toNat = x := fun x => by
      unfold casts
      rw [List.map_map]
      exact (List.map_congr_left fun k _ => Int.toNat_natCast k).trans (List.map_id _)
    rw [id, id] at m
    exact m
  · intro h
    have : (casts l).Perm (casts (List.range l.length)) := h.map _
    exact List.Perm.eq_of_pairwise (le := (· ≤ ·)) (fun a b _ _ x y => by omega) hs hr (hp.trans this)
end Tw

set_option Elab.async false
set_option linter.all false
set_option maxRecDepth 100000
set_option maxHeartbeats 2000000
namespace DL
open PySem PySem.Spec PyProof.Rows L2 LamX
theorem vr_repO {K : PySem.W.Frag} {T : List (Addr × Str)} {w : Wp} {κ : D → Wp → Prop} {ds : List D} {n : Nat} (h1 : (n : Int) < 2 ^ 63) (hz : ds.length * n ≤ sizeLine) (k : ∀ l, w l = none → κ (R l) (wu w l (.lst (List.replicate n ds).flatten))) : VR2 K T rRep (.lst ds) (I (n : Int)) w κ := fun F S H x y Q hW r1 r2 hK => by
  obtain ⟨a, xs, rfl, h3, h4⟩ := r1
  refine ⟨a, n, xs, rfl, r2, hW.same _ _ h3, by omega, h1, by rw [h4.length]; exact hz, fun p hp => ?_⟩
  exact hK _ _ _ S _ (k p (hW.free hp).2.1) (Same.refl _) (hW.take hp ⟨_, rfl, h4.rep n⟩) rfl
end DL
namespace Tw
open PySem PySem.Spec PyProof.Rows L2 LamX DL Mth
/-! ### the marks -/
def putC (v : Nat) (M : List Nat) (r : List Nat) : List Nat := r.foldl (fun M c => M.set c v) M
def putF (M : List Nat) (F : List (List Nat)) : List Nat := F.foldl (fun M r => putC (r.headD 0) M r) M
theorem putC_len (v : Nat) : ∀ (r : List Nat) (M : List Nat), (putC v M r).length = M.length
  | [], M => rfl
  | c :: r, M => by
    show (putC v (M.set c v) r).length = _
    rw [putC_len v r, List.length_set]
theorem putC_ne (v : Nat) : ∀ (r : List Nat) (M : List Nat) {c : Nat}, c ∉ r → (putC v M r)[c]? = M[c]?
  | [], M, c, _ => rfl
  | d :: r, M, c, h => by
    show (putC v (M.set d v) r)[c]? = _
    rw [putC_ne v r _ fun z => h (List.mem_cons_of_mem _ z), List.getElem?_set_ne]
    intro e
    exact h (by rw [e]; exact List.mem_cons_self ..)
theorem putC_at (v : Nat) : ∀ (r : List Nat) (M : List Nat) {c : Nat}, c ∈ r → c < M.length → (putC v M r)[c]? = some v
  | d :: r, M, c, h, hl => by
    show (putC v (M.set d v) r)[c]? = _
    by_cases q : c ∈ r
    · exact putC_at v r _ q (by rw [List.length_set]; exact hl)
    · rw [putC_ne v r _ q]
      have e : c = d := by
        rcases List.mem_cons.mp h with z | z
        · exact z
        · exact absurd z q
      rw [e]
      exact List.getElem?_set_self (by rw [← e]; exact hl)
theorem putF_len : ∀ (F : List (List Nat)) (M : List Nat), (putF M F).length = M.length
  | [], M => rfl
  | r :: F, M => by
    show (putF (putC _ M r) F).length = _
    rw [putF_len F, putC_len]
theorem putF_ne : ∀ (F : List (List Nat)) (M : List Nat) {c : Nat}, c ∉ F.flatten → (putF M F)[c]? = M[c]?
  | [], M, c, _ => rfl
  | r :: F, M, c, h => by
    rw [List.flatten_cons, List.mem_append] at h
    show (putF (putC _ M r) F)[c]? = _
    rw [putF_ne F _ fun z => h (.inr z), putC_ne _ r _ fun z => h (.inl z)]
theorem putF_at : ∀ (F : List (List Nat)) (M : List Nat) {c : Nat} {r : List Nat}, F.flatten.Nodup → r ∈ F → c ∈ r → c < M.length → (putF M F)[c]? = some (r.headD 0)
  | r0 :: F, M, c, r, nd, hr, hc, hl => by
    rw [List.flatten_cons] at nd
    obtain ⟨_, n2, n3⟩ := List.nodup_append.mp nd
    show (putF (putC _ M r0) F)[c]? = _
    rcases List.mem_cons.mp hr with e | e
    · subst e
      rw [putF_ne F _ fun z => n3 c hc c z rfl]
      exact putC_at _ r M hc hl
    · exact putF_at F _ n2 e hc (by rw [putC_len]; exact hl)
/-! ### what is found -/
def fdI (t : Str) (i : Nat) : List (List Nat) := ((wordsOf t).take i).map fun r => r.map NM.idxOf
theorem take_next {α : Type} {l : List α} {i : Nat} {x : α} (h : l[i]? = some x) : l.take (i + 1) = l.take i ++ [x] := by
  rw [List.take_add_one, h]
  rfl
theorem word_okc {t : Str} (h : Okc t) : ∀ r ∈ wordsOf t, ∀ y ∈ r, Okc y := fun r hr y hy => by
  obtain ⟨p, hp, rfl⟩ := List.mem_map.mp hr
  exact split_okc (split_okc h p hp) y hy
theorem row_cnt {t : Str} (h : Okc t) : ∀ r ∈ wordsOf t, r.length ≤ 1001 := fun r hr => by
  obtain ⟨p, hp, rfl⟩ := List.mem_map.mp hr
  exact split_cnt (split_okc h p hp)
theorem sum_words : ∀ (ps : List Str), (∀ p ∈ ps, ∀ y ∈ Txt.split p cm, 1 ≤ y.length) → 2 * ((ps.map fun p => Txt.split p cm).map List.length).sum ≤ (ps.map (·.length)).sum + ps.length
  | [], _ => Nat.le_refl _
  | p :: ps, h => by
    have ih := sum_words ps fun q hq => h q (List.mem_cons_of_mem _ hq)
    have s := split_len 44 p
    have k : ∀ (l : List Str), (∀ y ∈ l, 1 ≤ y.length) → l.length ≤ (l.map (·.length)).sum := by
      intro l
      induction l with
      | nil => intro _; exact Nat.le_refl _
      | cons y l ih2 =>
        intro h2
        have a := ih2 fun z hz => h2 z (List.mem_cons_of_mem _ hz)
        have b := h2 y (List.mem_cons_self ..)
        simp only [List.length_cons, List.map_cons, List.sum_cons]
        omega
    have k1 := k _ (h p (List.mem_cons_self ..))
    simp only [List.map_cons, List.sum_cons, List.length_cons]
    have e : cm = ⟨#[44]⟩ := rfl
    rw [e] at k1 ⊢
    rw [e] at ih
    omega
theorem nm_pos : ∀ y ∈ NM, 1 ≤ y.length := by decide +kernel
theorem cnt_words {t : Str} (h : Okc t) (w : ∀ r ∈ wordsOf t, ∀ y ∈ r, y ∈ NM) : ((wordsOf t).map List.length).sum ≤ 500 := by
  have a := sum_words (Txt.split t br) fun p hp y hy => nm_pos y (w _ (List.mem_map_of_mem hp) y hy)
  have b := split_len 124 t
  have c := h.1
  have e : br = ⟨#[124]⟩ := rfl
  unfold wordsOf
  rw [e] at a ⊢
  omega
theorem nats_cat (a b : List Nat) : D.lst (nl a ++ nl b) = nats (a ++ b) := by
  unfold nats nl
  rw [List.map_append]
end Tw

set_option Elab.async false
set_option linter.all false
set_option maxRecDepth 100000
set_option maxHeartbeats 2000000
namespace Tw
open PySem PySem.Spec PyProof.Rows L2 LamX DL Mth
section
variable {P : Program} {w : PySem.World} {K : PySem.W.Frag} {mg : Str → Option Value} {base : Heap} {T : List (Addr × Str)}
theorem scLRd : FnScope ["text", "names", "rows", "found", "row", "cases", "lows", "marks", "case", "cell", "word"] ["text"] (defScope sLRd) := ⟨rfl, rfl, rfl, by decide +kernel, rfl, by decide +kernel, by decide +kernel⟩
theorem cast_ints (l : List Nat) : (D.lst (l.map fun (k : Nat) => I (k : Int))) = .lst ((casts l).map I) := nats_casts l
theorem ok_lread {f : Addr} {fd : FuncData} (G : Fun K "_law_read" "_law_read" sLRd f fd) (hm : Nm2 mg) (hso : mg "sorted" = none) : FnOk P w K mg base CX0 1 f fd ["text"] (spOf K T spLRd) := by
  refine fnD G scLRd (fun ds w κ χ h => ?_) (fun cdv A outer s H E ds w0 κ χ hr h => ?_)
  · obtain ⟨t, rfl, _⟩ := h
    rfl
  obtain ⟨t, rfl, hO, kY, kN⟩ := h
  have hu := hr.units
  have nd := scLRd.nd
  have hw := words_cnt hO
  refine pssd_cons (psd_set (i := 1) nd rfl ?_)
  refine pd_lc (own := [("case", 8)]) (is := [8]) rfl nd (blkOk_by rfl) (by decide) ?_
  refine it_range hm.range ?_
  refine pd_int ?_
  refine ⟨12, rfl, by decide, ?_⟩
  refine lcd_map (xs := List.range 12) (fun k => DL.T (nm k)) (by rw [List.length_range]; exact small1000 (by omega)) (fun k hk s H0 C1 cl1 fp1 => ?_) ?_
  · have hk := List.mem_range.mp hk
    refine pgl_name nd rfl ?_
    intro s H0 C1 cl1 fp1
    refine ptsd_nil ?_
    intro s H0 C1 cl1 fp1
    refine pd_callTy call_str_int rfl hm.str bt_str ?_
    refine pad_cons ?_
    refine pd_var (i := 8) rfl rfl ?_
    refine pad_nil ?_
    refine va_strI (log_small (by omega)) ?_
    exact ⟨rfl, rfl, rfl⟩
  have en : (List.range 12).map (fun k => DL.T (nm k)) = NM.map DL.T := by
    unfold NM
    rw [List.map_map]
    rfl
  rw [en]
  refine pssd_cons ?_
  refine psd_setLc (i := 2) (own := [("cell", 9)]) (is := [9]) rfl nd rfl rfl (sw_true rfl rfl rfl (by decide +kernel)) (blkOk_by rfl) (by decide) ?_
  refine it_list ?_
  refine pd_bm PySem.F.plainAttrs_str PySem.F.slot_str_split PySem.F.type_str_split mt_split ?_
  refine pd_var (i := 0) rfl rfl ?_
  refine ⟨rfl, ?_⟩
  refine pad_cons ?_
  refine pd_str ?_
  refine pad_nil ?_
  rw [pass_br]
  refine vm_split rfl (fits_split hO) ?_
  refine ⟨_, rfl, ?_⟩
  refine lcd_map (fun p => txts (Txt.split p cm)) (Nat.lt_of_le_of_lt (split_cnt (c := 124) hO) (by decide)) (fun p hp s H0 C1 cl1 fp1 => ?_) ?_
  · refine pgl_name nd rfl ?_
    intro s H0 C1 cl1 fp1
    refine ptsd_nil ?_
    intro s H0 C1 cl1 fp1
    refine pd_bm PySem.F.plainAttrs_str PySem.F.slot_str_split PySem.F.type_str_split mt_split ?_
    refine pd_var (i := 9) rfl rfl ?_
    refine ⟨rfl, ?_⟩
    refine pad_cons ?_
    refine pd_str ?_
    refine pad_nil ?_
    rw [pass_cm]
    refine vm_split rfl (fits_split (split_okc hO p hp)) ?_
    exact ⟨rfl, rfl, rfl⟩
  have e1 : (Txt.split t br).map (fun p => txts (Txt.split p cm)) = (wordsOf t).map txts := by
    unfold wordsOf
    rw [List.map_map]
    rfl
  rw [e1]
  refine pssd_cons (psd_set (i := 3) nd rfl ?_)
  refine pd_lstO ?_
  refine pad_nil ⟨Nat.zero_le _, fun a ha => ?_⟩
  refine pssd_cons (psd_for PassesOwn.never rfl ?_)
  refine it_list ?_
  refine pd_var (i := 2) rfl rfl ?_
  refine ⟨_, rfl, ?_⟩
  refine ⟨fun i δ' w' => ∃ x, δ' = [some (DL.T t), some (.lst (NM.map DL.T)), some (.lst ((wordsOf t).map txts)), some (R a), x, none, none, none, none, none, none] ∧ w' = wu w0 a (.lst ((fdI t i).map nats)) ∧ ∀ r ∈ (wordsOf t).take i, ∀ y ∈ r, y ∈ NM, ⟨none, rfl, rfl, fun r hr => by simp at hr⟩, ?_, ?_⟩
  · rintro i d δ' w' hd ⟨x, rfl, rfl, hall⟩
    rw [List.getElem?_map] at hd
    obtain ⟨r, hr1, rfl⟩ := Option.map_eq_some_iff.mp hd
    have hmem := List.mem_of_getElem? hr1
    have hrl := row_cnt hO r hmem
    refine pgd_name (i := 4) nd rfl ?_
    refine pssd_cons (psd_if ?_)
    refine ptd_cmp (op_neD hu) ?_
    refine pd_lc (own := [("word", 10)]) (is := [10]) rfl nd (blkOk_by rfl) (by decide) ?_
    refine it_list ?_
    refine pd_var (i := 4) rfl rfl ?_
    refine ⟨_, rfl, ?_⟩
    refine lcd_filter (xs := r) (g := DL.T) (fun y => !decide (y ∈ NM)) DL.T (Nat.lt_of_le_of_lt hrl (by decide)) (fun y hy s H0 C1 cl1 fp1 => ?_) ?_
    · refine pgl_name nd rfl ?_
      intro s H0 C1 cl1 fp1
      refine ptsd_one ?_
      refine ptd_cmp op_notIn_seq ?_
      refine pd_var (i := 10) rfl rfl ?_
      refine pd_var (i := 1) rfl rfl ?_
      refine vr_ninS ?_
      refine ⟨_, rfl, ?_⟩
      refine ite2 (fun c2 => ?_) (fun c2 => ?_)
      · intro s H0 C1 cl1 fp1
        refine pd_var (i := 10) rfl rfl ?_
        exact ⟨c2, rfl, rfl⟩
      · exact ⟨Bool.eq_false_iff.mpr c2, rfl⟩
    refine pd_lst ?_
    refine pad_nil ⟨Nat.zero_le _, ?_⟩
    refine vr_neD (p := .list ((r.filter fun y => !decide (y ∈ NM)).map PyData.str)) (q := .list []) (by show (pyDs _).map PyData.list = _; rw [py_txts]; rfl) rfl (shaped_txts fun y hy => word_okc hO r hmem y (List.mem_filter.mp hy).1) rfl ?_
    rw [eqv_nilS]
    refine ⟨_, rfl, ?_⟩
    refine ite2 (fun c1 => ?_) (fun c1 => ?_)
    · refine pssd_one (psd_ret ?_)
      refine pd_drop ?_
      refine pd_non ⟨a, ?_⟩
      rw [wd_wu ha]
      have c1' : ¬ (r.filter fun y => !decide (y ∈ NM)) = [] := by simpa using c1
      refine kN fun m fnd hL => c1' (List.filter_eq_nil_iff.mpr fun y hy => ?_)
      rw [decide_eq_true (hL.word hmem hy)]
      decide
    · have c1' : (r.filter fun y => !decide (y ∈ NM)) = [] := by simpa using c1
      have hin : ∀ y ∈ r, y ∈ NM := fun y hy => by
        have := (List.filter_eq_nil_iff.mp c1') y hy
        simpa using this
      refine pssd_nil ?_
      refine pssd_one (psd_expr ?_)
      refine pd_bm PySem.F.plainAttrs_list PySem.F.slot_list_append PySem.F.type_list_append mt_append ?_
      refine pd_var (i := 3) rfl rfl ?_
      refine ⟨⟨rfl, _, wu_same⟩, ?_⟩
      refine pad_cons ?_
      refine pd_lc (own := [("word", 10)]) (is := [10]) rfl nd (blkOk_by rfl) (by decide) ?_
      refine it_list ?_
      refine pd_var (i := 4) rfl rfl ?_
      refine ⟨_, rfl, ?_⟩
      refine lcd_map (xs := r) (g := DL.T) (fun y => I ((NM.idxOf y : Nat) : Int)) (Nat.lt_of_le_of_lt hrl (by decide)) (fun y hy s H0 C1 cl1 fp1 => ?_) ?_
      · refine pgl_name nd rfl ?_
        intro s H0 C1 cl1 fp1
        refine ptsd_nil ?_
        intro s H0 C1 cl1 fp1
        refine pd_bm PySem.F.plainAttrs_list PySem.F.slot_list_index PySem.F.type_list_index mt_index ?_
        refine pd_var (i := 1) rfl rfl ?_
        refine ⟨rfl, ?_⟩
        refine pad_cons ?_
        refine pd_var (i := 10) rfl rfl ?_
        refine pad_nil ?_
        refine vm_indexS (hin y hy) ?_
        exact ⟨rfl, rfl, rfl⟩
      refine pad_nil ?_
      have en2 : D.lst (r.map fun y => I ((NM.idxOf y : Nat) : Int)) = nats (r.map NM.idxOf) := by
        unfold nats
        rw [List.map_map]
        rfl
      rw [en2]
      refine vm_append wu_same (by unfold fdI; rw [List.length_map, List.length_map, List.length_take]; exact Nat.lt_of_le_of_lt (Nat.le_trans (Nat.min_le_right ..) hw) (by decide)) ?_
      rw [wu_wu]
      refine ⟨_, rfl, ?_, fun r2 h2 => ?_⟩
      · unfold fdI
        rw [take_next hr1, List.map_append, List.map_append]
        rfl
      · rw [take_next hr1] at h2
        rcases List.mem_append.mp h2 with h2 | h2
        · exact hall r2 h2
        · rw [List.mem_singleton.mp h2]
          exact hin
  rintro δ' w' ⟨x, rfl, rfl, hall⟩
  rw [List.length_map] at hall ⊢
  have hall' : ∀ r ∈ wordsOf t, ∀ y ∈ r, y ∈ NM := fun r hr => hall r (by rw [List.take_length]; exact hr)
  have hF : fdI t (wordsOf t).length = (wordsOf t).map fun r => r.map NM.idxOf := by
    unfold fdI
    rw [List.take_length]
  rw [hF]
  generalize hFF : ((wordsOf t).map fun r => r.map NM.idxOf) = F
  have hwd : wordsOf t = F.map fun r => r.map nm := by
    rw [← hFF, List.map_map]
    refine ((List.map_congr_left fun r hr => ?_).trans (List.map_id _)).symm
    show (r.map NM.idxOf).map nm = r
    rw [List.map_map]
    exact (List.map_congr_left fun y hy => (idx_NM (hall' r hr y hy)).2).trans (List.map_id _)
  have hlt : ∀ r ∈ F, ∀ k ∈ r, k < 12 := fun r hr k hk => by
    rw [← hFF] at hr
    obtain ⟨r0, hr0, rfl⟩ := List.mem_map.mp hr
    obtain ⟨y, hy, rfl⟩ := List.mem_map.mp hk
    exact (idx_NM (hall' r0 hr0 y hy)).1
  have hne := row_ne hwd
  have hFl : F.length ≤ 1001 := by rw [← hFF, List.length_map]; exact hw
  have hcnt : F.flatten.length ≤ 500 := by
    have := cnt_words hO hall'
    have e : F.flatten.length = ((wordsOf t).map List.length).sum := by
      rw [List.length_flatten, ← hFF, List.map_map]
      congr 1
      exact List.map_congr_left fun r _ => List.length_map _
    omega
  have hsame : ∀ {m fnd}, LR t m fnd → fnd = F := fun h => h.same hwd hlt
  refine pssd_freeze (i := 3) rfl wu_same ?_
  rw [wd_wu ha]
  refine pssd_cons (psd_set (i := 5) nd rfl ?_)
  refine pd_lst ?_
  refine pad_nil ⟨Nat.zero_le _, ?_⟩
  refine pssd_cons (psd_for PassesOwn.never rfl ?_)
  refine it_list ?_
  refine pd_var (i := 3) rfl rfl ?_
  refine ⟨_, rfl, ?_⟩
  refine ⟨fun i δ' w' => w' = w0 ∧ (∃ x, δ' = [some (DL.T t), some (.lst (NM.map DL.T)), some (.lst ((wordsOf t).map txts)), some (.lst (F.map nats)), x, some (nats (F.take i).flatten), none, none, none, none, none]) ∧ ∀ r ∈ F.take i, r.Pairwise (· ≤ ·), ⟨rfl, ⟨x, rfl⟩, fun r hr => by simp at hr⟩, ?_, ?_⟩
  · rintro i d δ' w' hd ⟨rfl, ⟨x, rfl⟩, hsrt⟩
    rw [List.getElem?_map] at hd
    obtain ⟨r, hr1, rfl⟩ := Option.map_eq_some_iff.mp hd
    have hmem := List.mem_of_getElem? hr1
    refine pgd_name (i := 4) nd rfl ?_
    refine pssd_cons (psd_if ?_)
    refine ptd_cmp (op_neD hu) ?_
    refine pd_var (i := 4) rfl rfl ?_
    refine pd_callB cr_sortedI rfl hso bt_sorted ?_
    refine pad_cons ?_
    refine pd_var (i := 4) rfl rfl ?_
    refine pad_nil ?_
    rw [nats_casts]
    refine va_sorted fun ns' hp hs => ?_
    refine vr_neInts ?_
    refine ⟨_, rfl, ?_⟩
    have hcs := casts_sorted hp hs
    refine ite2 (fun c1 => ?_) (fun c1 => ?_)
    · refine pssd_one (psd_ret ?_)
      refine pd_non ?_
      have c1' : ¬ casts r = ns' := by simpa using c1
      refine kN fun m fnd hL => c1' (hcs.mpr (hL.up r (by rw [hsame hL]; exact hmem)))
    · have c1' : casts r = ns' := by simpa using c1
      refine pssd_nil ?_
      refine pssd_one (psd_set (i := 5) nd rfl ?_)
      refine pd_op op_cat ?_
      refine pd_var (i := 5) rfl rfl ?_
      refine pd_var (i := 4) rfl rfl ?_
      have hle : (F.take (i + 1)).flatten.length ≤ F.flatten.length := by
        have := congrArg (fun l : List (List Nat) => l.flatten.length) (List.take_append_drop (i + 1) F)
        simp only [List.flatten_append, List.length_append] at this
        omega
      have e5 : (F.take (i + 1)).flatten = (F.take i).flatten ++ r := by rw [take_next hr1, List.flatten_append, List.flatten_cons, List.flatten_nil, List.append_nil]
      have hle2 := hle
      rw [e5, List.length_append] at hle2
      have e6 : D.lst ((casts r).map I) = .lst (nl r) := (nats_casts r).symm
      rw [e6]
      refine vr_cat (ds := nl (F.take i).flatten) (es := nl r) (by rw [nl_len, nl_len]; exact Nat.le_of_lt (small1000 (by omega))) ?_
      rw [nats_cat]
      refine ⟨rfl, ⟨_, by rw [e5]; rfl⟩, fun r2 h2 => ?_⟩
      rw [take_next hr1] at h2
      rcases List.mem_append.mp h2 with h2 | h2
      · exact hsrt r2 h2
      · rw [List.mem_singleton.mp h2]
        exact hcs.mp c1'
  rintro δ' w1 ⟨rfl, ⟨x, rfl⟩, hsrt⟩
  rw [List.length_map, List.take_length] at hsrt
  rw [List.length_map, List.take_length]
  refine pssd_cons ?_
  refine psd_setLc (i := 6) (own := [("row", 4)]) (is := [4]) rfl nd rfl rfl (sw_true rfl rfl rfl (by decide +kernel)) (blkOk_by rfl) (by decide) ?_
  refine it_list ?_
  refine pd_var (i := 3) rfl rfl ?_
  refine ⟨_, rfl, ?_⟩
  refine lcd_map (xs := F) (g := nats) (fun r => I ((r.headD 0 : Nat) : Int)) (Nat.lt_of_le_of_lt hFl (by decide)) (fun r hr s H0 C1 cl1 fp1 => ?_) ?_
  · refine pgl_name nd rfl ?_
    intro s H0 C1 cl1 fp1
    refine ptsd_nil ?_
    intro s H0 C1 cl1 fp1
    refine pd_ix ix_list ?_
    refine pd_var (i := 4) rfl rfl ?_
    refine pd_int ?_
    have h0 : r[0]? = some (r.headD 0) := by
      cases r with
      | nil => exact absurd rfl (hne _ hr)
      | cons y l => rfl
    refine vr_ixL (i := 0) (nl_at h0) ?_
    exact ⟨rfl, rfl, rfl⟩
  have e7 : (F.map fun r => I ((r.headD 0 : Nat) : Int)) = (casts (F.map fun r => r.headD 0)).map I := by
    unfold casts
    rw [List.map_map, List.map_map]
    rfl
  rw [e7]
  refine pssd_cons (psd_if ?_)
  refine pwd_pt ?_
  refine pwd_or ?_
  refine ptd_cmp (op_neD hu) ?_
  refine pd_var (i := 6) rfl rfl ?_
  refine pd_callB cr_sortedI rfl hso bt_sorted ?_
  refine pad_cons ?_
  refine pd_var (i := 6) rfl rfl ?_
  refine pad_nil ?_
  refine va_sorted fun ns1 hp1 hs1 => ?_
  refine vr_neInts ?_
  refine ⟨_, rfl, ?_⟩
  have hcs1 := casts_sorted hp1 hs1
  refine ite2 (fun c1 => ?_) (fun c1 => ?_)
  · rw [if_pos rfl]
    refine pssd_one (psd_ret ?_)
    refine pd_non ?_
    have c1' : ¬ casts (F.map fun r => r.headD 0) = ns1 := by simpa using c1
    refine kN fun m fnd hL => c1' (hcs1.mpr (by have := hL.hd; rw [hsame hL] at this; exact this))
  have c1' : casts (F.map fun r => r.headD 0) = ns1 := by simpa using c1
  refine pwd_or1 ?_
  refine ptd_cmp (op_neD hu) ?_
  refine pd_callB cr_sortedI rfl hso bt_sorted ?_
  refine pad_cons ?_
  refine pd_var (i := 5) rfl rfl ?_
  refine pad_nil ?_
  rw [nats_casts]
  refine va_sorted fun ns2 hp2 hs2 => ?_
  refine pd_listRg rfl hm.list hm.range ?_
  refine pd_callB call_len_seq rfl hm.len PySem.boot_len ?_
  refine pad_cons ?_
  refine pd_var (i := 5) rfl rfl ?_
  refine pad_nil ?_
  refine va_len ?_
  have el : ((casts F.flatten).map I).length = F.flatten.length := (List.length_map _).trans (List.length_map _)
  rw [el]
  refine ⟨F.flatten.length, rfl, by omega, ?_⟩
  have eu : D.lst (ups F.flatten.length) = .lst ((casts (List.range F.flatten.length)).map I) := nats_casts _
  rw [eu]
  refine vr_neInts ?_
  refine ⟨_, rfl, ?_⟩
  have hcs2 := sorted_range hp2 hs2
  refine ite2 (fun c2 => ?_) (fun c2 => ?_)
  · refine pssd_one (psd_ret ?_)
    refine pd_non ?_
    have c2' : ¬ ns2 = casts (List.range F.flatten.length) := by simpa using c2
    refine kN fun m fnd hL => c2' (hcs2.mpr (by have := hL.pm; rw [hsame hL] at this; exact this))
  have c2' : ns2 = casts (List.range F.flatten.length) := by simpa using c2
  have hpm := hcs2.mp c2'
  have hnd : F.flatten.Nodup := hpm.nodup_iff.mpr List.nodup_range
  have hin : ∀ {c}, c ∈ F.flatten → c < F.flatten.length := fun h => List.mem_range.mp (hpm.mem_iff.mp h)
  refine pssd_nil ?_
  refine pssd_cons (psd_set (i := 7) nd rfl ?_)
  refine pd_op op_rep ?_
  refine pd_lst ?_
  refine pad_cons ?_
  refine pd_int ?_
  refine pad_nil ⟨by show 1 ≤ sizeLine; decide, ?_⟩
  refine pd_callB call_len_seq rfl hm.len PySem.boot_len ?_
  refine pad_cons ?_
  refine pd_var (i := 5) rfl rfl ?_
  refine pad_nil ?_
  refine va_len ?_
  rw [el]
  refine vr_repO (n := F.flatten.length) (by omega) (by show 1 * F.flatten.length ≤ sizeLine; rw [Nat.one_mul]; exact Nat.le_of_lt (small1000 (by omega))) fun l hl => ?_
  generalize hM0 : List.replicate F.flatten.length 0 = M0
  have hM0l : M0.length = F.flatten.length := by rw [← hM0, List.length_replicate]
  have e8 : (List.replicate F.flatten.length [I 0]).flatten = nl M0 := by
    rw [rep_flat, ← hM0]
    unfold nl
    rw [List.map_replicate, List.map_replicate]
    rfl
  rw [e8]
  refine pssd_cons (psd_for PassesOwn.never rfl ?_)
  refine it_list ?_
  refine pd_var (i := 3) rfl rfl ?_
  refine ⟨_, rfl, ?_⟩
  refine ⟨fun i δ' w' => (∃ x y, δ' = [some (DL.T t), some (.lst (NM.map DL.T)), some (.lst ((wordsOf t).map txts)), some (.lst (F.map nats)), x, some (.lst ((casts F.flatten).map I)), some (.lst ((casts (F.map fun r => r.headD 0)).map I)), some (R l), y, none, none]) ∧ w' = wu _ l (.lst (nl (putF M0 (F.take i)))), ⟨⟨x, none, rfl⟩, rfl⟩, ?_, ?_⟩
  · rintro i d δ' w' hd ⟨⟨x, y, rfl⟩, rfl⟩
    rw [List.getElem?_map] at hd
    obtain ⟨r, hr1, rfl⟩ := Option.map_eq_some_iff.mp hd
    have hmem := List.mem_of_getElem? hr1
    have h0 : r[0]? = some (r.headD 0) := by
      cases r with
      | nil => exact absurd rfl (hne _ hmem)
      | cons y l => rfl
    refine pgd_name (i := 4) nd rfl ?_
    refine pssd_one (psd_for PassesOwn.never rfl ?_)
    refine it_list ?_
    refine pd_var (i := 4) rfl rfl ?_
    refine ⟨_, rfl, ?_⟩
    refine ⟨fun j δ' w' => (∃ y, δ' = [some (DL.T t), some (.lst (NM.map DL.T)), some (.lst ((wordsOf t).map txts)), some (.lst (F.map nats)), some (nats r), some (.lst ((casts F.flatten).map I)), some (.lst ((casts (F.map fun r => r.headD 0)).map I)), some (R l), y, none, none]) ∧ w' = wu _ l (.lst (nl (putC (r.headD 0) (putF M0 (F.take i)) (r.take j)))), ⟨⟨y, rfl⟩, rfl⟩, ?_, ?_⟩
    · rintro j d δ' w' hd ⟨⟨y, rfl⟩, rfl⟩
      rw [List.getElem?_map] at hd
      obtain ⟨c, hc1, rfl⟩ := Option.map_eq_some_iff.mp hd
      have hc2 := hin (List.mem_flatten.mpr ⟨r, hmem, List.mem_of_getElem? hc1⟩)
      refine pgd_name (i := 8) nd rfl ?_
      refine pssd_one (psd_sub set_list ?_)
      refine pd_ix ix_list ?_
      refine pd_var (i := 4) rfl rfl ?_
      refine pd_int ?_
      refine vr_ixL (i := 0) (nl_at h0) ?_
      refine pd_var (i := 7) rfl rfl ?_
      refine pd_var (i := 8) rfl rfl ?_
      refine vr_setO wu_same (by rw [nl_len, putC_len, putF_len, hM0l]; exact hc2) ?_
      rw [wu_wu]
      refine ⟨⟨_, rfl⟩, ?_⟩
      congr 2
      unfold nl putC
      rw [take_next hc1, List.foldl_append, List.foldl_cons, List.foldl_nil, List.map_set]
    · rintro δ' w' ⟨⟨y, rfl⟩, rfl⟩
      rw [List.length_map, List.take_length]
      refine ⟨⟨_, y, rfl⟩, ?_⟩
      rw [take_next hr1]
      unfold putF
      rw [List.foldl_append, List.foldl_cons, List.foldl_nil]
  rintro δ' w' ⟨⟨x, y, rfl⟩, rfl⟩
  rw [List.length_map, List.take_length]
  refine pssd_one (psd_ret ?_)
  refine pd_frz ?_
  refine pd_var (i := 7) rfl rfl ?_
  refine ⟨l, _, rfl, wu_same, ?_⟩
  rw [wd_wu hl]
  refine kY (putF M0 F) F ⟨hwd, hlt, hsrt, hcs1.mp c1', hpm, by rw [putF_len, hM0l], fun r hr c hc => ?_⟩
  exact putF_at F M0 hnd hr hc (by rw [hM0l]; exact hin (List.mem_flatten.mpr ⟨r, hr, hc⟩))
end
end Tw

set_option Elab.async false
set_option linter.all false
set_option maxRecDepth 100000
set_option maxHeartbeats 2000000
/-! try with several clauses, some of them with a name; isinstance of a caught error that has fields. -/
namespace DL
open PySem PySem.Spec PyProof.Rows L2 LamX
abbrev TSx := Addr → Value → Option Addr → TS
/-- what happens behind a suite whose clause has a name: the name goes -/
def goneD (i : Nat) (D : Ends) : Ends := { nx := fun σ H => D.nx (σ.set i none) H, rt := D.rt, bk := fun σ H => D.bk (σ.set i none) H, ct := fun σ H => D.ct (σ.set i none) H }
def suiteW (o : Option Nat) (ts : TSx) (D : Ends) (a : Addr) (cls : Value) (d : Option Addr) (σ : L2.St) (H : Hp) : Prop := match o with
  | none => ts a cls d D σ H
  | some i => ts a cls d (goneD i D) (σ.set i (some (.ref a))) H
def wMix (K : PySem.W.Frag) (Wout : WX) (D : Ends) : List (Value × Option Nat × TSx) → WX
  | [] => Wout
  | (c, o, ts) :: more => fun cls d σ H => ∃ b, PySem.W.exmOne K cls c = some b ∧ (b = true → ∀ a, H a = none → suiteW o ts D a cls d σ H) ∧ (b = false → wMix K Wout D more cls d σ H)
inductive HdMix (X : Cx) : List ExceptHandler → List (Value × Option Nat × TSx) → Prop
  | none : HdMix X [] []
  | bare {x : Str} {c : Value} {ts : TSx} {st : Stmt} {sts : List Stmt} {np hp : Pos} {hds : List ExceptHandler} {l : List (Value × Option Nat × TSx)} (nm : Names X x c)
      (su : ∀ (a : Addr) (oe : Obj) (cls : Value) (d : Option Addr) (pn : List (Addr × Obj)), Zc cls d oe → (∃ vs, oe.data = .fields vs) → PSs (X.suite a ((a, oe) :: pn)) (st :: sts) (ts a cls d)) (more : HdMix X hds l) :
      HdMix X (.ExceptHandler (some (.Name x np)) .none (st :: sts) hp :: hds) ((c, .none, ts) :: l)
  | named {x n : Str} {i : Nat} {c : Value} {ts : TSx} {st : Stmt} {sts : List Stmt} {np hp : Pos} {hds : List ExceptHandler} {l : List (Value × Option Nat × TSx)} (nm : Names X x c) (hi : X.N[i]? = some n) (hl : X.env.kindOf n = some .local)
      (su : ∀ (a : Addr) (oe : Obj) (cls : Value) (d : Option Addr) (pn : List (Addr × Obj)), Zc cls d oe → (∃ vs, oe.data = .fields vs) → PSs (X.suite a ((a, oe) :: pn)) (st :: sts) (ts a cls d)) (more : HdMix X hds l) :
      HdMix X (.ExceptHandler (some (.Name x np)) (some n) (st :: sts) hp :: hds) ((c, some i, ts) :: l)
section
variable {X : Cx} {body : List Stmt} {hd0 : ExceptHandler} {hds : List ExceptHandler} {l : List (Value × Option Nat × TSx)} {pos : Pos} {tb : WX → TS} {Wout : WX}
theorem ps_try_mix (hs : X.stack = X.env :: X.outer) (hf : X.env.frame = some X.env.locals) (hN : X.N.Nodup) (tk : Takes X Wout)
    (hb : ∀ (W : WX) (pn : List (Addr × Obj)) (xe : Value → Shared → Prop), Takes (X.tr pn xe) W → PassesOwn (model X.prog X.w) X.A X.env xe → PSs (X.tr pn xe) body (tb W))
    (hh : HdMix X (hd0 :: hds) l) : PS X (.Try body (hd0 :: hds) [] [] pos) (fun D σ H => tb (fun cls d σ' H' => σ'.length = X.N.length → wMix X.K Wout D l cls d σ' H') D σ H) := ⟨fun pins s σ H D I h => by
  have ok := I.ok
  have frA : X.A.frames = some (X.env :: X.outer) := ok.frames.trans (by rw [hs])
  refine wpAny_Try_except ?_
  let xe' : Value → Shared → Prop := fun e t1 => wpAny (model X.prog X.w) X.A (noteFrame e X.env) (fun _ t2 => wpAny (model X.prog X.w) X.A (setFlight e none) (fun _ t3 => wpAny (model X.prog X.w) X.A (handleBy e X.env (hd0 :: hds)) (SP X pins D) X.xe t3) X.xe t2) X.xe t1
  have taken : Takes (X.tr (X.pn ++ pins) xe') (fun cls d σ' H' => σ'.length = X.N.length → wMix X.K Wout D l cls d σ' H') := by
    rintro u s' ⟨a, B, sI, pins', σ', H', cls, d, rfl, J', nb, up, sky, na, os, ag, w⟩
    have J := Inv.ofTry J' ok
    have w := w J.len
    rw [show (X.tr (X.pn ++ pins) xe').stack = X.env :: X.outer from hs] at sky
    show wpAny (model X.prog X.w) X.A (noteFrame (.ref a) X.env) _ _ s'
    refine Sky.land Zc.steady frA hf sky fun hA flA upA => ?_
    have JA : Inv X pins σ' H' { s' with heap := hA } := Inv.landed J nb flA.1 (up.trans upA) os ag
    obtain ⟨oA, vA, eA, zA, dA⟩ := flA.there
    have out : a ∉ frs (X.env :: X.outer) := by
      intro hm
      obtain ⟨_, o', e', n'⟩ := flA.2.2.1.mem hm
      rw [eA] at e'
      cases e'
      exact n' _ dA
    have outL : a ≠ X.env.locals := by
      rintro rfl
      exact out (List.mem_filterMap.mpr ⟨X.env, List.mem_cons_self, hf⟩)
    have outF : a ∉ X.fs := by
      intro hm
      obtain ⟨e, he, q⟩ := List.mem_filterMap.mp hm
      exact out (List.mem_filterMap.mpr ⟨e, List.mem_cons_of_mem _ he, q⟩)
    have SA := Inv.suite JA eA dA na outL outF
    have asked : ∀ {x : Str} {c : Value} {np : Pos}, Names X x c → ∀ {Q E : Value → Shared → Prop}, Q c { s' with heap := hA } → wpAny (model X.prog X.w) (X.A.mark (some (.ref a))) (eval (.Name x np) X.env) Q E { s' with heap := hA } := by
      rintro x c np ⟨g1, g2, m1 | ⟨m1, m2, m3⟩⟩ Q E q
      · exact ld_glob (X := X.suite a ((a, oA) :: (X.pn ++ pins))) SA g1 m1 q g2
      · exact ld_blt (X := X.suite a ((a, oA) :: (X.pn ++ pins))) SA g1 m1 m2 q m3 g2
    have ofA : PySem.W.Looks (model X.prog X.w) hA (typeOf (.ref a)) cls := by
      intro A' Q E t k q
      exact wpAny_typeOf_ref (k _ _ eA) (by rw [zA.1]; exact q)
    suffices go : ∀ {hs' : List ExceptHandler} {l' : List (Value × Option Nat × TSx)}, HdMix X hs' l' → wMix X.K Wout D l' cls d σ' H' → wpAny (model X.prog X.w) X.A (handleBy (.ref a) X.env hs') (SP X pins D) X.xe { s' with heap := hA } by exact go hh w
    intro hs' l' hk
    induction hk with
    | none =>
      intro w
      refine wpAny_handleBy_nil ?_
      obtain ⟨_, _, _, oe, vs, T, oT, ts', he, hz, hd, h1, hr⟩ := id flA
      unfold PySem.passOn
      refine wpAny_bind (wpAny_field he hd h1 ?_)
      have nn : ¬ ((Value.ref T == Value.none) = true) := by simp
      rw [if_neg nn]
      have last : wpAny (model X.prog X.w) X.A (setFlight (.ref a) X.env.frame) (fun _ t4 => wpAny (model X.prog X.w) X.A (throw (.ref a) : Sem Flow) (SP X pins D) X.xe t4) X.xe { s' with heap := hA } := by
        rw [hf]
        refine HandSPX.setFlight_upZ flA fun hB goB upB => wpAny_throw (tk _ _ ?_)
        refine ⟨a, B, sI, pins, σ', H', cls, d, rfl, J, nb, (up.trans upA).trans upB, .inr (.inr ?_), na, os, ag, w⟩
        rw [hs]
        exact goB
      first
        | exact wpAny_bind last
        | exact wpAny_bind (wpAny_pure (wpAny_bind last))
    | bare nm su more ih =>
      rintro ⟨b, b1, byes, bno⟩
      refine wpAny_handleBy_cons (codeAny_handlers_test ?_) (by intro q; cases q)
      refine asked nm ((PySem.W.exm_one (M := model X.prog X.w) JA.kIn ofA b1).here ?_)
      cases b with
      | false => exact ih (bno rfl)
      | true =>
        refine codeAny_handlers_suite (HandSPX.lands_againZ flA fun hB flB upB => ?_)
        obtain ⟨oB, vB, eB, zB, dB⟩ := flB.there
        have JB : Inv X pins σ' H' { s' with heap := hB } := Inv.landed J nb flB.1 ((up.trans upA).trans upB) os ag
        have SB := Inv.suite JB eB dB na outL outF
        refine wpAny_mono ((su a oB cls d (X.pn ++ pins) zB ⟨_, dB⟩).run [] _ _ H' _ SB (byes rfl a na)) (fun f t hsp => ?_) (fun _ _ z => z.elim)
        cases f with
        | ret u =>
          obtain ⟨v6, σ6, H6, S6, r6, q6⟩ := hsp
          exact ⟨_, _, _, Inv.unsuite S6 ok, r6, q6⟩
        | next =>
          obtain ⟨σ6, H6, S6, q6⟩ := hsp
          exact ⟨_, _, Inv.unsuite S6 ok, q6⟩
        | brk =>
          obtain ⟨σ6, H6, S6, q6⟩ := hsp
          exact ⟨_, _, Inv.unsuite S6 ok, q6⟩
        | cont =>
          obtain ⟨σ6, H6, S6, q6⟩ := hsp
          exact ⟨_, _, Inv.unsuite S6 ok, q6⟩
    | named nm hi hl su more ih =>
      rintro ⟨b, b1, byes, bno⟩
      refine wpAny_handleBy_cons (codeAny_handlers_test ?_) (by intro q; cases q)
      refine asked nm ((PySem.W.exm_one (M := model X.prog X.w) JA.kIn ofA b1).here ?_)
      cases b with
      | false => exact ih (bno rfl)
      | true =>
        refine codeAny_handlers_suite_as (HandSPX.lands_againZ flA fun hB flB upB => ?_)
        obtain ⟨oB, vB, eB, zB, dB⟩ := flB.there
        have JB : Inv X pins σ' H' { s' with heap := hB } := Inv.landed J nb flB.1 ((up.trans upA).trans upB) os ag
        have SB := Inv.suite JB eB dB na outL outF
        refine store_ok (X := X.suite a ((a, oB) :: (X.pn ++ pins))) (v := .ref a) SB hN hi (.inl hl) rfl (fun t5 S5 => ?_) (.inr hl)
        refine wpAny_mono ((su a oB cls d (X.pn ++ pins) zB ⟨_, dB⟩).run [] t5 _ H' _ S5 (byes rfl a na)) (fun f t hsp => ?_) (fun _ _ z => z.elim)
        cases f with
        | ret u =>
          obtain ⟨v6, σ6, H6, S6, r6, q6⟩ := hsp
          exact gone_ok (Inv.unsuite S6 ok) hN hi hl fun t7 J7 => ⟨_, _, _, J7, r6, q6⟩
        | next =>
          obtain ⟨σ6, H6, S6, q6⟩ := hsp
          exact gone_ok (Inv.unsuite S6 ok) hN hi hl fun t7 J7 => ⟨_, _, J7, q6⟩
        | brk =>
          obtain ⟨σ6, H6, S6, q6⟩ := hsp
          exact gone_ok (Inv.unsuite S6 ok) hN hi hl fun t7 J7 => ⟨_, _, J7, q6⟩
        | cont =>
          obtain ⟨σ6, H6, S6, q6⟩ := hsp
          exact gone_ok (Inv.unsuite S6 ok) hN hi hl fun t7 J7 => ⟨_, _, J7, q6⟩
  refine wpAny_mono ((hb _ (X.pn ++ pins) xe' taken PassesOwn.looking).run [] s σ H D (Inv.toTry I _) h) (fun f t hsp => ?_) (fun e t he => he)
  cases f with
  | next =>
    obtain ⟨σ', H', J', q⟩ := hsp
    exact wpAny_execs_nil ⟨σ', H', Inv.ofTry J' ok, q⟩
  | brk =>
    obtain ⟨σ', H', J', q⟩ := hsp
    exact ⟨σ', H', Inv.ofTry J' ok, q⟩
  | cont =>
    obtain ⟨σ', H', J', q⟩ := hsp
    exact ⟨σ', H', Inv.ofTry J' ok, q⟩
  | ret u =>
    obtain ⟨v, σ', H', J', r, q⟩ := hsp
    exact ⟨v, σ', H', Inv.ofTry J' ok, r, q⟩⟩
end
end DL

set_option Elab.async false
set_option linter.all false
set_option maxRecDepth 100000
set_option maxHeartbeats 2000000
namespace DL
open PySem PySem.Spec PyProof.Rows L2 LamX
/-- isinstance(e, c), e a caught error with fields -/
def rIsX (K : PySem.W.Frag) (D a : Addr) (d : Option Addr) : List V → Hp → VK → Prop := fun xs H Q => ∃ (c : V) (cv : Value) (b : Bool) (dd : Addr) (fs : List (Str × V)), xs = [.ref a, c] ∧ (∀ u, RelV c u → u = cv) ∧ PySem.W.kitOne K (.ref D) cv = some b ∧ d = some dd ∧ H dd = some (.xd fs) ∧ Q (.bl b) H
theorem call_isX {X : Cx} {a D : Addr} {d : Option Addr} {oe : Obj} {pn : List (Addr × Obj)} (C : L2.ExcC X.K D) (hz : Zc (.ref D) d oe) (hf : ∃ vs, oe.data = .fields vs) : CallR (X.suite a ((a, oe) :: pn)) (.builtin "isinstance") (rIsX X.K D a d) := by
  rintro pins s σ H xs us Q I r ⟨c, cv, b, dd, fs, rfl, hcv, e, rfl, hdd, q⟩
  obtain ⟨u1, u2, rfl, rx, rt⟩ : ∃ u1 u2, us = [u1, u2] ∧ RelV (.ref a) u1 ∧ RelV c u2 := by
    cases r with
    | cons rx rr =>
      cases rr with
      | cons rt rr =>
        cases rr
        exact ⟨_, _, rfl, rx, rt⟩
  cases (show u1 = Value.ref a from rx)
  cases hcv _ rt
  have hget := (I.pin (a, oe) (List.mem_append.mpr (.inl List.mem_cons_self))).1
  obtain ⟨vs, hv⟩ := hf
  obtain ⟨mA, hns, _⟩ := (show ObjOk X.prog X.w H s.heap dd (.xd fs) from I.hok dd _ hdd)
  obtain ⟨od, ho, _⟩ := lookIn_ns hns
  have J : PySem.W.InstAt s.heap a oe D (some od) := ⟨hget, hz.1, by unfold PySem.W.notCls; rw [hv] <;> rfl, by rw [hz.2]; exact ho⟩
  have hcl : (PySem.W.clsIn X.K D).isSome = true := by
    obtain ⟨cd, hc, _⟩ := PySem.W.any_some C.hd
    rw [hc]
    rfl
  exact PySem.W.kia_one (PySem.W.kitx_exc hcl C.hg C.hk C.hs C.ha C.hn C.ht C.hm) I.kIn J e (fun z => nomatch z) fun tk => ⟨.bl b, H, I.kept (t' := tk) fun _ _ z => z, rfl, q⟩
/-- the heap may get more in its tables of code -/
theorem World.more {K : PySem.W.Frag} {T : List (Addr × Str)} {S F H H1 : Hp} {w : Wp} (W : World K T S w F H) (e : ExtN H H1) (t : Tabs T H1) : World K T S w F H1 := by
  refine ⟨fun b x q => e b x (W.same b x q) fun ps z => W.notbl b ps (by rw [q, z]), W.notbl, fun b h q => ?_, fun b x q => ?_, t, W.nf⟩
  · obtain ⟨q1, q2, o, q3, q4⟩ := W.own b h q
    exact ⟨q1, q2, o, e b o q3 q4.notbl.1, q4⟩
  · obtain ⟨q1, q2⟩ := W.frm b x q
    exact ⟨q1, e b x q2 fun ps z => W.nf b ps (by rw [q, z])⟩
section
variable {K : PySem.W.Frag} {T : List (Addr × Str)} {w : Wp} {κ : D → Wp → Prop}
theorem va_isX {D0 a dd : Addr} {ns : List Str} {ds : List D} {c : V} {cv : Value} {b : Bool} (hc : ∀ u, RelV c u → u = cv) (hk : PySem.W.kitOne K (.ref D0) cv = some b) (k : κ (B b) w) : VRA K T (rIsX K D0 a (some dd)) [.exc a dd ns ds, .val c] w κ := by
  intro F S H xs Q hW r hK
  obtain ⟨x, ys, rfl, ⟨zs, rfl, h1, h2, h3⟩, y, us, rfl, h4, h5⟩ := r
  have h4' : y = c := h4
  have h5' : us = [] := h5
  subst h4' h5'
  exact ⟨y, cv, b, dd, zs, rfl, hc, hk, rfl, hW.same _ _ h1, hK _ w _ S H k (Same.refl _) hW rfl⟩
end
section
variable {X : Cx} {T : List (Addr × Str)} {W : WX} {χ : XD} {δ : Dn} {w : Wp} {pos : Pos}
theorem pd_xf {a dd C : Addr} {oe : Obj} {pn : List (Addr × Obj)} {e : Expr} {f : Str} {ns : List Str} {ds : List D} {κ : D → Wp → Prop} (TX : XfC X.K C) (hno : PySem.W.findIn X.K (.ref C) f = some none) (hz : Zc (.ref C) (some dd) oe) (hf : ∃ vs, oe.data = .fields vs)
    (h : PD (X.suite a ((a, oe) :: pn)) T W χ e δ w fun d w1 => d = .exc a dd ns ds ∧ ∃ u, look2 ns ds f = some u ∧ κ u w1) (hb : attributeBase e f X.env (eval e X.env) = eval e X.env := by rfl) : PD (X.suite a ((a, oe) :: pn)) T W χ (.Attribute e f pos) δ w κ := fun F σ S H Q hE hW hX hK => wp_pe (pe_xf TX hno hz hf (pe_wp e) hb) (by
  refine h F σ S H _ hE hW hX fun d w1 v S1 H1 k s1 W1 r => ?_
  obtain ⟨rfl, u, hl, k⟩ := k
  obtain ⟨ys, rfl, h1, rfl, h3⟩ := r
  obtain ⟨v, h4, h5⟩ := look2_at h3 hl
  exact ⟨rfl, rfl, dd, ys, v, rfl, W1.same _ _ h1, h4, hK u w1 v S1 H1 k s1 W1 h5⟩)
end
end DL
namespace DL
open PySem PySem.Spec PyProof.Rows L2 LamX
/-- as Fun, its code object named -/
structure FunC (K : PySem.W.Frag) (x qual : Str) (st : Stmt) (f : Addr) (fd : FuncData) (cdv : Value) : Prop where
  ex : ∃ (oc : Value) (od : Option Addr) (kV doc pm : Value) (an : Option Addr) (ct : Value) (osl : Array (Option Value)),
    fd = PySem.W.fnOf x qual (defArgs st) (defBody st) (defScope st) .none kV doc pm an cdv ct ∧ K.lookup f = some ⟨oc, od, .func fd, osl⟩ ∧ PySem.W.codeIn K cdv qual = true
  kp : PySem.W.keepIn K (.ref f) = true
section
variable {P : Program} {w : PySem.World} {K : PySem.W.Frag} {mg : Str → Option Value} {base : Heap} {T : List (Addr × Str)}
theorem FunC.fun {x qual : Str} {st : Stmt} {f : Addr} {fd : FuncData} {cdv : Value} (G : FunC K x qual st f fd cdv) : Fun K x qual st f fd := by
  obtain ⟨oc, od, kV, doc, pm, an, ct, osl, h1, h2, h3⟩ := G.ex
  exact ⟨⟨oc, od, kV, doc, pm, an, cdv, ct, osl, h1, h2, h3⟩, G.kp⟩
/-- a def that lets no error out, its code object known -/
theorem fnDc {x qual : Str} {st : Stmt} {f : Addr} {fd : FuncData} {N ps : List Str} {k : Nat} {sp : SpD} {cdv : Value} (G : FunC K x qual st f fd cdv) (S : FnScope N ps (defScope st)) (len : ∀ ds w κ χ, sp ds w κ χ → ds.length = ps.length)
    (body : ∀ (A : Around) (outer : List Env) (s : Shared) (H : Hp) (E : XK) (ds : List D) (w0 : Wp) (κ : D → Wp → Prop) (χ : XD), Room k (A.deeper (envOfC qual (defScope st) s.heap.objs.size f cdv)) → sp ds w0 κ χ →
      PSsD (cxOf CX0 P w K mg base N qual (defScope st) f cdv A outer s H E).nox T Wf noX (defBody st) (startD N ds) w0 { nx := fun _ w' => κ DL.N w', rt := κ }) : FnOk P w K mg base CX0 (k + 1) f fd ps (spOf K T sp) := by
  obtain ⟨oc, od, kV, doc, pm, an, ct, osl, rfl, lk, hcd⟩ := G.ex
  refine fn_of lk hcd S (fun vs H Q E h => ?_) fun A outer s H vs Q E hr h => ?_
  · obtain ⟨ds, w0, F, S0, κ, χ, h1, h2, _⟩ := h
    rw [h2.length]
    exact len _ _ _ _ h1
  · obtain ⟨ds, w0, F, S0, κ, χ, h1, h2, h3, h4, h5⟩ := h
    refine ⟨_, (pss_wp _).nox, ?_⟩
    exact body A outer s H E ds w0 κ χ hr h1 F _ S0 H _ (env_start h2) h3 exsf ⟨fun δ' w' σ' S' H' k s1 hE W1 => h4 _ w' _ S' H' k s1 W1 rfl, h4, fun _ _ _ _ _ z => z.elim, fun _ _ _ _ _ z => z.elim⟩
end
theorem takesL {X : Cx} {A : Around} {outer : List Env} {s : Shared} {H : Hp} {E : XK} {scope : Scope} {f c' : Addr} : Takes (lamCx X A outer s H E scope f c') (fun cls d _ H => E cls d H) := takes_of rfl rfl rfl rfl
theorem passL2 {X : Cx} {A : Around} {outer : List Env} {s : Shared} {H : Hp} {E : XK} {scope : Scope} {f c' : Addr} (σ : L2.St) : PassesAt (L2.CX X.prog X.w) (lamCx X A outer s H E scope f c') σ (WE (fun cls d _ H => E cls d H) σ) := passAt takesL σ
end DL
namespace Tw
open PySem PySem.Spec PyProof.Rows L2 LamX DL
abbrev sTold : Stmt := top 30
theorem bt_ve : bootBuiltins "ValueError" = some (.type "ValueError") := by decide +kernel
theorem rel_ref {C : Addr} : ∀ u, RelV (V.ref C) u → u = Value.ref C := fun u h => h
theorem rel_ty {n : String} : ∀ u, RelV (V.ty n) u → u = Value.type n := fun u h => h
/-- a suite's weakest reading -/
def tsW (X : Cx) (sts : List Stmt) : TSx := fun a cls d D σ H => ∀ (oe : Obj) (pn : List (Addr × Obj)), Zc cls d oe → (∃ vs, oe.data = .fields vs) → wpSs (X.suite a ((a, oe) :: pn)) sts D σ H
theorem su_wp {X : Cx} {sts : List Stmt} (a : Addr) (oe : Obj) (cls : Value) (d : Option Addr) (pn : List (Addr × Obj)) (hz : Zc cls d oe) (hf : ∃ vs, oe.data = .fields vs) : PSs (X.suite a ((a, oe) :: pn)) sts (tsW X sts a cls d) := ⟨fun pins s _ _ _ I h => h oe pn hz hf pins s I⟩
/-- what a lambda's maker has -/
structure LamM (X : Cx) (T : List (Addr × Str)) : Prop where
  ex : ∃ c Pt, TabB X.base X.mg c Pt ∧ X.env.code = .ref c ∧ (Pt, X.env.qual ++ "<lambda>") ∈ T ∧ ∀ p ∈ T, p.1 = Pt → p.2 = X.env.qual ++ "<lambda>"
/-- _law_told stands -/
structure ToldOk (K : PySem.W.Frag) (mg : Str → Option Value) : Prop where
  ex : ∃ g fd, Fun K "_law_told" "_law_told" sTold g fd ∧ mg "_law_told" = some (.ref g) ∧ L2.Binds K fd ["action"] []
/-- which errors are told how -/
structure ErrT (K : PySem.W.Frag) (mg : Str → Option Value) (CM CU CE CT : Addr) : Prop where
  mM : mg "SizeMismatch" = some (.ref CM)
  mU : mg "UnknownCase" = some (.ref CU)
  mE : mg "BadText" = some (.ref CE)
  mT : mg "ThinwallError" = some (.ref CT)
  mV : mg "ValueError" = none
  mm : PySem.W.exmOne K (.ref CM) (.ref CM) = some true
  um : PySem.W.exmOne K (.ref CU) (.ref CM) = some false
  uu : PySem.W.exmOne K (.ref CU) (.ref CU) = some true
  em : PySem.W.exmOne K (.ref CE) (.ref CM) = some false
  eu : PySem.W.exmOne K (.ref CE) (.ref CU) = some false
  ee : PySem.W.exmOne K (.ref CE) (.ref CE) = some true
  cM : L2.ExcC K CM
  cU : L2.ExcC K CU
  cE : L2.ExcC K CE
  xM : XfC K CM
  xU : XfC K CU
  xE : XfC K CE
  n1 : PySem.W.findIn K (.ref CM) "first" = some none
  n2 : PySem.W.findIn K (.ref CM) "second" = some none
  nU : PySem.W.findIn K (.ref CU) "case" = some none
  nE : PySem.W.findIn K (.ref CE) "text" = some none
  kMV : PySem.W.kitOne K (.ref CM) (.type "ValueError") = some true
  kME : PySem.W.kitOne K (.ref CM) (.ref CE) = some false
  kUV : PySem.W.kitOne K (.ref CU) (.type "ValueError") = some true
  kUE : PySem.W.kitOne K (.ref CU) (.ref CE) = some false
  kEV : PySem.W.kitOne K (.ref CE) (.type "ValueError") = some true
  kEU : PySem.W.kitOne K (.ref CE) (.ref CU) = some false
abbrev fs2 : List Str := ["second", "first"]
def errM (x y : D) : D := .lst [DL.T "SizeMismatch", x, y, B true, B false]
def errU (x : D) : D := .lst [DL.T "UnknownCase", x, B true, B false]
def errE (x : D) : D := .lst [DL.T "BadText", x, B true, B false]
def errN : D := .lst [DL.T "no error"]
/-- how an error is told -/
def TK (CM CU CE : Addr) (C : Addr) (ns : List Str) (ds : List D) (out : D) : Prop := (∃ x y, C = CM ∧ ns = fs2 ∧ ds = [y, x] ∧ out = errM x y) ∨ (∃ x, C = CU ∧ ns = [("case" : Str)] ∧ ds = [x] ∧ out = errU x) ∨ ∃ x, C = CE ∧ ns = [("text" : Str)] ∧ ds = [x] ∧ out = errE x
def ToldX (K : PySem.W.Frag) (T : List (Addr × Str)) (CM CU CE : Addr) (Q : VK) : XK := fun cls d H' => ∃ (C : Addr) (ns : List Str) (ds : List D) (out : D) (w' : Wp) (S' F' : Hp) (dd : Addr), cls = .ref C ∧ d = some dd ∧ World K T S' w' F' H' ∧ XdR K S' dd ns ds ∧
  TK CM CU CE C ns ds out ∧ KD K T (fun d w2 => d = out ∧ w2 = w') S' F' Q
def ToldV (K : PySem.W.Frag) (T : List (Addr × Str)) (Q : VK) : Hp → Prop := fun H' => ∃ (w' : Wp) (S' F' : Hp), World K T S' w' F' H' ∧ KD K T (fun d w2 => d = errN ∧ w2 = w') S' F' Q
def TTold (K : PySem.W.Frag) (T : List (Addr × Str)) (CM CU CE : Addr) : (XK → Hp → VK → Prop) → Hp → VK → Prop := fun tl H Q => tl (ToldX K T CM CU CE Q) H fun _ H' => ToldV K T Q H'
theorem scTold : FnScope ["action", "e"] ["action"] (defScope sTold) := ⟨rfl, rfl, rfl, by decide +kernel, rfl, by decide +kernel, by decide +kernel⟩
section
variable {X : Cx} {T : List (Addr × Str)} {CM CU CE CT : Addr}
theorem told_gives {g : Addr} {cdg : Value} {q : Str} (hm : Nm2 X.mg) (er : ErrT X.K X.mg CM CU CE CT) : GivesTo X ["action", "e"] "_law_told" (defScope sTold) g cdg (defBody sTold) "action" q (TTold X.K T CM CU CE) := by
  intro f c' s H Q tl act hc h
  have nd := scTold.nd
  let Z : Cx := (cxOf C8.CX0 X.prog X.w X.K X.mg X.base ["action", "e"] "_law_told" (defScope sTold) g cdg X.A X.stack s H C8.E0).nox
  refine ⟨_, pss_cons (ps_try_mix (X := Z) rfl rfl nd L2.takes0 (tb := fun W D σ H1 => (∀ cls d σ' H', ToldX X.K T CM CU CE Q cls d H' → W cls d σ' H') ∧ σ[0]? = some (some (.ref f)) ∧ H1 c' = some (CodeO c' q) ∧
      tl (ToldX X.K T CM CU CE Q) H1 (fun _ H' => ToldV X.K T Q H') ∧ ∀ σ' H', σ' = σ → ToldV X.K T Q H' → D.nx σ' H') (fun W pn xe tk _ => ?_)
    (.named (i := 1) ⟨rfl, by decide, .inl er.mM⟩ rfl rfl su_wp (.named (i := 1) ⟨rfl, by decide, .inl er.mU⟩ rfl rfl su_wp (.named (i := 1) ⟨rfl, by decide, .inl er.mE⟩ rfl rfl su_wp (.bare ⟨rfl, by decide, .inl er.mT⟩ su_wp .none))))) (pss_wp _), ?_⟩
  · refine ⟨fun pins s' σ H1 D I h' => ?_⟩
    obtain ⟨h1, h2, h3, h4, h5⟩ := h'
    have hp := fun p1 p2 p3 => pss_one (ps_expr (pos := p3) (act W pn xe (ToldX X.K T CM CU CE Q) p1 p2 tk h1) (by rfl))
    have ee : (fun (_ : V) (H' : Hp) => (σ = σ ∧ ToldV X.K T Q H' : Prop)) = fun _ H' => ToldV X.K T Q H' := by
      funext _ H'
      exact propext ⟨fun z => z.2, fun z => ⟨rfl, z⟩⟩
    refine wpAny_mono ((hp _ _ _).run pins s' σ H1 { D with nx := fun σ' H' => σ' = σ ∧ ToldV X.K T Q H' } I ⟨h2, h3, by rw [← ee] at h4; exact h4⟩) (fun fl t z => ?_) fun _ _ z => z
    cases fl with
    | next =>
      obtain ⟨σ', H', J, z1, z2⟩ := z
      exact ⟨σ', H', J, h5 σ' H' z1 z2⟩
    | brk => exact z
    | cont => exact z
    | ret u => exact z
  · refine ⟨fun cls d σ' H' hx hl => ?_, rfl, hc, h, fun σ' H' es hv => ?_⟩
    · obtain ⟨C, ns, ds, out, w', S', F', dd, rfl, rfl, W', xr, hcase, kd⟩ := hx
      have len2 : σ'.length = 2 := hl
      have envE : ∀ a : Addr, EnvD X.K S' [none, some (.exc a dd ns ds)] (σ'.set 1 (some (.ref a))) := fun a => by
        refine ⟨by rw [List.length_set]; exact len2.symm, fun i d hd => ?_⟩
        match i, hd with
        | 1, hd =>
          cases hd
          obtain ⟨ys, e1, e2, e3⟩ := xr
          exact ⟨.ref a, List.getElem?_set_self (by omega), ys, rfl, e1, e2, e3⟩
        | n + 2, hd => simp at hd
      rcases hcase with ⟨x, y, rfl, rfl, rfl, rfl⟩ | ⟨x, rfl, rfl, rfl, rfl⟩ | ⟨x, rfl, rfl, rfl, rfl⟩
      · refine ⟨true, er.mm, fun _ a na oe pn hz hf => ?_, (fun z => by cases z)⟩
        refine (?_ : PSsD (Z.suite a ((a, oe) :: pn)) T Wf noX _ [none, some (.exc a dd fs2 [y, x])] w' { nx := fun _ _ => False, rt := fun d w2 => d = errM x y ∧ w2 = w' }) F' _ S' H' _ (envE a) W' exsf ⟨fun _ _ _ _ _ z => z.elim, kd, fun _ _ _ _ _ z => z.elim, fun _ _ _ _ _ z => z.elim⟩
        refine pssd_one (psd_ret ?_)
        refine pd_lst ?_
        refine pad_cons ?_
        refine pd_str ?_
        refine pad_cons ?_
        refine pd_xf (ns := fs2) (ds := [y, x]) er.xM er.n1 hz hf ?_
        refine pd_var (i := 1) rfl rfl ?_
        refine ⟨rfl, x, rfl, ?_⟩
        refine pad_cons ?_
        refine pd_xf (ns := fs2) (ds := [y, x]) er.xM er.n2 hz hf ?_
        refine pd_var (i := 1) rfl rfl ?_
        refine ⟨rfl, y, rfl, ?_⟩
        (refine pad_cons ?_; refine pd_callB (call_isX er.cM hz hf) rfl hm.isinstance PyProof.Rows.boot_isinstance ?_; refine pad_cons ?_; refine pd_var (i := 1) rfl rfl ?_; refine pad_cons ?_; refine (pd_bltn (v := .ty "ValueError") (by exact er.mV) bt_ve rfl) ?_; refine pad_nil ?_; refine va_isX (by first | exact rel_ref | exact rel_ty) er.kMV ?_)
        (refine pad_cons ?_; refine pd_callB (call_isX er.cM hz hf) rfl hm.isinstance PyProof.Rows.boot_isinstance ?_; refine pad_cons ?_; refine pd_var (i := 1) rfl rfl ?_; refine pad_cons ?_; refine (pd_glob (v := .ref CE) (by exact er.mE) rfl) ?_; refine pad_nil ?_; refine va_isX (by first | exact rel_ref | exact rel_ty) er.kME ?_)
        exact pad_nil ⟨by show 5 ≤ sizeLine; decide, rfl, rfl⟩
      · refine ⟨false, er.um, (fun z => by cases z), fun _ => ⟨true, er.uu, fun _ a na oe pn hz hf => ?_, (fun z => by cases z)⟩⟩
        refine (?_ : PSsD (Z.suite a ((a, oe) :: pn)) T Wf noX _ [none, some (.exc a dd ["case"] [x])] w' { nx := fun _ _ => False, rt := fun d w2 => d = errU x ∧ w2 = w' }) F' _ S' H' _ (envE a) W' exsf ⟨fun _ _ _ _ _ z => z.elim, kd, fun _ _ _ _ _ z => z.elim, fun _ _ _ _ _ z => z.elim⟩
        refine pssd_one (psd_ret ?_)
        refine pd_lst ?_
        refine pad_cons ?_
        refine pd_str ?_
        refine pad_cons ?_
        refine pd_xf (ns := ["case"]) (ds := [x]) er.xU er.nU hz hf ?_
        refine pd_var (i := 1) rfl rfl ?_
        refine ⟨rfl, x, rfl, ?_⟩
        (refine pad_cons ?_; refine pd_callB (call_isX er.cU hz hf) rfl hm.isinstance PyProof.Rows.boot_isinstance ?_; refine pad_cons ?_; refine pd_var (i := 1) rfl rfl ?_; refine pad_cons ?_; refine (pd_bltn (v := .ty "ValueError") (by exact er.mV) bt_ve rfl) ?_; refine pad_nil ?_; refine va_isX (by first | exact rel_ref | exact rel_ty) er.kUV ?_)
        (refine pad_cons ?_; refine pd_callB (call_isX er.cU hz hf) rfl hm.isinstance PyProof.Rows.boot_isinstance ?_; refine pad_cons ?_; refine pd_var (i := 1) rfl rfl ?_; refine pad_cons ?_; refine (pd_glob (v := .ref CE) (by exact er.mE) rfl) ?_; refine pad_nil ?_; refine va_isX (by first | exact rel_ref | exact rel_ty) er.kUE ?_)
        exact pad_nil ⟨by show 4 ≤ sizeLine; decide, rfl, rfl⟩
      · refine ⟨false, er.em, (fun z => by cases z), fun _ => ⟨false, er.eu, (fun z => by cases z), fun _ => ⟨true, er.ee, fun _ a na oe pn hz hf => ?_, (fun z => by cases z)⟩⟩⟩
        refine (?_ : PSsD (Z.suite a ((a, oe) :: pn)) T Wf noX _ [none, some (.exc a dd ["text"] [x])] w' { nx := fun _ _ => False, rt := fun d w2 => d = errE x ∧ w2 = w' }) F' _ S' H' _ (envE a) W' exsf ⟨fun _ _ _ _ _ z => z.elim, kd, fun _ _ _ _ _ z => z.elim, fun _ _ _ _ _ z => z.elim⟩
        refine pssd_one (psd_ret ?_)
        refine pd_lst ?_
        refine pad_cons ?_
        refine pd_str ?_
        refine pad_cons ?_
        refine pd_xf (ns := ["text"]) (ds := [x]) er.xE er.nE hz hf ?_
        refine pd_var (i := 1) rfl rfl ?_
        refine ⟨rfl, x, rfl, ?_⟩
        (refine pad_cons ?_; refine pd_callB (call_isX er.cE hz hf) rfl hm.isinstance PyProof.Rows.boot_isinstance ?_; refine pad_cons ?_; refine pd_var (i := 1) rfl rfl ?_; refine pad_cons ?_; refine (pd_bltn (v := .ty "ValueError") (by exact er.mV) bt_ve rfl) ?_; refine pad_nil ?_; refine va_isX (by first | exact rel_ref | exact rel_ty) er.kEV ?_)
        (refine pad_cons ?_; refine pd_callB (call_isX er.cE hz hf) rfl hm.isinstance PyProof.Rows.boot_isinstance ?_; refine pad_cons ?_; refine pd_var (i := 1) rfl rfl ?_; refine pad_cons ?_; refine (pd_glob (v := .ref CU) (by exact er.mU) rfl) ?_; refine pad_nil ?_; refine va_isX (by first | exact rel_ref | exact rel_ty) er.kEU ?_)
        exact pad_nil ⟨by show 4 ≤ sizeLine; decide, rfl, rfl⟩
    · obtain ⟨w', S', F', W', kd⟩ := hv
      subst es
      refine (?_ : PSsD Z T Wf noX _ (startD ["action", "e"] [R f]) w' { nx := fun _ _ => False, rt := fun d w2 => d = errN ∧ w2 = w' }) F' _ S' H' _ (env_start (RepL.one rfl)) W' exsf ⟨fun _ _ _ _ _ z => z.elim, kd, fun _ _ _ _ _ z => z.elim, fun _ _ _ _ _ z => z.elim⟩
      refine pssd_one (psd_ret ?_)
      refine pd_lst ?_
      refine pad_cons ?_
      refine pd_str ?_
      exact pad_nil ⟨by decide, rfl, rfl⟩
end
section
variable {X : Cx} {T : List (Addr × Str)} {W : WX} {χ : XD} {δ : Dn} {w : Wp} {pos : Pos} {CM CU CE CT : Addr}
def XTold (CM CU CE : Addr) (κ : D → Wp → Prop) : XD := fun C ns ds w1 => ∃ out, TK CM CU CE C ns ds out ∧ κ out w1
theorem pd_told {k : Nat} {params : Arguments} {body : Expr} {scope : Scope} {p lpos : Pos} {κ : D → Wp → Prop} (hm : Nm2 X.mg) (er : ErrT X.K X.mg CM CU CE CT) (G : ToldOk X.K X.mg) (LM : LamM X T) (hr : Room (k + 2) X.A) (L : LamS X.env.scope scope)
    (hB : ∀ (A : Around) (outer : List Env) (s : Shared) (H : Hp) (E : XK) (f c' : Addr), Room k (A.deeper (lamEnv X scope s.heap.objs.size f c')) →
      PD (lamCx X A outer s H E scope f c') T (fun cls d _ H => E cls d H) (XTold CM CU CE κ) body δ w fun _ w1 => κ errN w1)
    (hg : Gl X "_law_told" := by rfl) (hdef : defaultsOf params X.env = ([], []) := by rfl)
    (hbind : ∀ (q : Str) (cl : List (Str × Addr)) (pm cv ctv : Value), bindArgs (PySem.W.kla_fn "<lambda>" q params body scope cl pm cv ctv) ⟨[], []⟩ = pure [] := by intros; rfl) :
    PD X T W χ (.Call (.Name "_law_told" p) [.Lambda params body scope lpos] [] pos) δ w κ := by
  obtain ⟨c, Pt, TB, hcode, hmT, hu⟩ := LM.ex
  obtain ⟨g, fd, ⟨⟨oc, od, kV, doc, pm, an, cdv, ct, osl, rfl, lk, hcd⟩, kp⟩, hmg, hb⟩ := G.ex
  intro F σ S H Q hE hW hX hK
  refine wp_pe (pe_lamcall (t := fun E σ H Q => ∀ A outer s H0 f c', Room k (A.deeper (lamEnv X scope s.heap.objs.size f c')) → wpE (lamCx X A outer s H0 E scope f c') body σ H Q) hg hmg kp lk hcd hb scTold rfl (by first | exact Or.inl rfl | exact Or.inr (Or.inl rfl) | exact Or.inr (Or.inr rfl))
    (told_gives (T := T) hm er) TB hcode hmT hu hr L hdef hbind (fun A outer s H E f c' hr' => ⟨fun pins s1 σ H1 Q I h => h A outer s H f c' hr' pins s1 I⟩)) ?_
  refine ⟨hW.tabs, fun H1 ext T1 => ?_⟩
  intro A outer s H0 f c' hr'
  refine hB A outer s H0 _ f c' hr' F σ S H1 _ hE (hW.more ext T1) ?_ ?_
  · rintro C ns ds w' d S' H' ⟨out, hc, kk⟩ s1 W1 xr
    refine ⟨C, ns, ds, out, w', S', F, d, rfl, rfl, W1, xr, hc, ?_⟩
    rintro d2 w2 v S2 H2 ⟨rfl, rfl⟩ s2 W2 r
    exact hK _ _ v S2 H2 kk (s1.trans s2) W2 r
  · intro d w' v S' H' kk s1 W1 r
    refine ⟨w', S', F, W1, ?_⟩
    rintro d2 w2 v S2 H2 ⟨rfl, rfl⟩ s2 W2 r
    exact hK _ _ v S2 H2 kk (s1.trans s2) W2 r
end
end Tw

set_option Elab.async false
set_option linter.all false
set_option maxRecDepth 100000
set_option maxHeartbeats 2000000
namespace Tw
open PySem PySem.Spec PyProof.Rows L2 LamX DL Mth
theorem merge_low {m : List Nat} {i j : Nat} (h : IsLow m) (hi : i < m.length) (hj : j < m.length) : IsLow (mergeN m i j) := by
  obtain ⟨a, ha⟩ := at_lt hi
  obtain ⟨b, hb⟩ := at_lt hj
  have ga : m.getD i 0 = a := getD_of ha
  have gb : m.getD j 0 = b := getD_of hb
  have pa := (h i a ha).2
  have pb := (h j b hb).2
  have pm : m[min a b]? = some (min a b) := by
    rcases Nat.le_total a b with q | q
    · rw [Nat.min_eq_left q]; exact pa
    · rw [Nat.min_eq_right q]; exact pb
  have at2 : ∀ k x, m[k]? = some x → (mergeN m i j)[k]? = some (if x = max a b then min a b else x) := fun k x hx => by
    unfold mergeN
    rw [List.getElem?_map, hx, ga, gb]
    rfl
  intro k y hy
  have hk : k < m.length := by
    have := (List.getElem?_eq_some_iff.mp hy).1
    rw [merge_len] at this
    exact this
  obtain ⟨x, hx⟩ := at_lt hk
  have e := at2 k x hx
  rw [hy] at e
  have e := Option.some.inj e
  obtain ⟨h1, h2⟩ := h k x hx
  by_cases q : x = max a b
  · rw [if_pos q] at e
    subst e
    refine ⟨by omega, ?_⟩
    rw [at2 _ _ pm]
    congr 1
    by_cases q2 : min a b = max a b
    · rw [if_pos q2]
    · rw [if_neg q2]
  · rw [if_neg q] at e
    subst e
    refine ⟨h1, ?_⟩
    rw [at2 _ _ h2, if_neg q]
abbrev sMrg : Stmt := sM 11
def spMrg (C CU : Addr) : SpD := fun ds w κ χ => ∃ (lo : List Nat) (c d : Int), ds = [spl C lo, I c, I d] ∧ IsLow lo ∧ 1 ≤ lo.length ∧ lo.length ≤ 12 ∧ (∀ i j : Nat, c = (i : Int) → d = (j : Int) → i < lo.length → j < lo.length → κ (spl C (mergeN lo i j)) w) ∧
  (¬ InR c lo.length → c.natAbs.log2 < 1920 ∧ χ CU ["case"] [I c] w) ∧ (InR c lo.length → ¬ InR d lo.length → d.natAbs.log2 < 1920 ∧ χ CU ["case"] [I d] w)
section
variable {P : Program} {w : PySem.World} {K : PySem.W.Frag} {mg : Str → Option Value} {base : Heap} {T : List (Addr × Str)} {C CU CB CT : Addr}
theorem scMrg : FnScope ["self", "first", "second"] ["self", "first", "second"] (defScope sMrg) := ⟨rfl, rfl, rfl, by decide +kernel, rfl, by decide +kernel, by decide +kernel⟩
theorem ok_mrg {f : Addr} {fd : FuncData} (G : Fun K "merged" "Split.merged" sMrg f fd) (hm : Nm2 mg) (c : SplC K C) (hC : HasF P w K mg base T (L2.CX P w) "check_case" 3 ["case", "size"] (spCheck CU))
    (hM : HasF P w K mg base T CX0 "_merged_marks" 1 ["marks", "first", "second"] spMerged) (hMk : HasMk P w K mg base T (L2.CX P w) "Split" C 4 ["self", "marks"] (spInit C CB)) :
    FnOk P w K mg base (L2.CX P w) 6 f fd ["self", "first", "second"] (spOf K T (spMrg C CU)) := by
  refine fnX G scMrg (fun ds w κ χ h => ?_) (fun cdv A outer s H E ds w0 κ χ hr h => ?_)
  · obtain ⟨lo, a, b, rfl, _⟩ := h
    rfl
  obtain ⟨lo, a, b, rfl, hlow, h1, h12, k1, k2, k3⟩ := h
  have nd := scMrg.nd
  refine pssd_cons (psd_expr ?_)
  refine pd_has hC (hr.mono (by decide)) passX ?_
  refine pad_cons ?_
  refine pd_var (i := 1) rfl rfl ?_
  refine pad_cons ?_
  refine pd_fld c.cl c.nS ?_
  refine pd_var (i := 0) rfl rfl ?_
  refine ⟨_, fld_size, ?_⟩
  refine pad_nil ?_
  refine ⟨a, _, rfl, fun hin => ?_, k2⟩
  refine pssd_cons (psd_expr ?_)
  refine pd_has hC (hr.mono (by decide)) passX ?_
  refine pad_cons ?_
  refine pd_var (i := 2) rfl rfl ?_
  refine pad_cons ?_
  refine pd_fld c.cl c.nS ?_
  refine pd_var (i := 0) rfl rfl ?_
  refine ⟨_, fld_size, ?_⟩
  refine pad_nil ?_
  refine ⟨b, _, rfl, fun hin2 => ?_, k3 hin⟩
  obtain ⟨i, rfl, hi⟩ := inR_nat hin
  obtain ⟨j, rfl, hj⟩ := inR_nat hin2
  have k := k1 i j rfl rfl hi hj
  refine pssd_one (psd_ret ?_)
  refine pd_hasmk hMk (hr.mono (by decide)) passX ?_
  refine pad_cons ?_
  refine pd_has hM (hr.mono (by decide)) (fun _ => pass0At) ?_
  refine pad_cons ?_
  refine pd_fld c.cl c.nM ?_
  refine pd_var (i := 0) rfl rfl ?_
  refine ⟨_, fld_marks, ?_⟩
  refine pad_cons ?_
  refine pd_var (i := 1) rfl rfl ?_
  refine pad_cons ?_
  refine pd_var (i := 2) rfl rfl ?_
  refine pad_nil ?_
  refine ⟨lo, i, j, rfl, h12, hi, hj, ?_⟩
  refine pad_nil ?_
  intro q dx ha
  have en : (casts (mergeN lo i j)).length = lo.length := by
    unfold casts
    rw [List.length_map, merge_len]
  refine ⟨q, dx, _, casts (mergeN lo i j), rfl, wu_same, .inl (nats_casts _), by omega, fun _ => ⟨rfl, _, _, wu_same, ?_⟩, fun z => absurd ⟨by omega, by omega⟩ z⟩
  rw [wu_wu, wd_wu ha, eo_spl, low_casts_of (merge_low hlow hi hj)]
  exact k
end
end Tw

set_option Elab.async false
set_option linter.all false
set_option maxRecDepth 100000
set_option maxHeartbeats 2000000
namespace Tw
open PySem PySem.Spec PyProof.Rows L2 LamX DL Mth
abbrev sRfd : Stmt := top 33
def spRfd (C : Addr) : SpD := fun ds w κ χ => ∃ (a r : Addr) (b : Bag) (lo : List Nat), ds = [R a, spl C lo, I (lo.length : Int)] ∧ BagAt w a r b ∧ IsLow lo ∧ 1 ≤ lo.length ∧ lo.length ≤ 12 ∧ ∀ b', κ (B true) (bagPut w a r b')
theorem sm_errM {x y : Int} : Sm 2 (errM (I x) (I y)) (errM (I x) (I y)) := Sm.cons (.str _) (Sm.cons (.int _) (Sm.cons (.int _) (Sm.cons (.bl _) (Sm.cons (.bl _) Sm.nil (by decide)) (by show 2 ≤ sizeLine; decide)) (by show 3 ≤ sizeLine; decide)) (by show 4 ≤ sizeLine; decide)) (by show 5 ≤ sizeLine; decide)
theorem sm_errU {x : Int} : Sm 2 (errU (I x)) (errU (I x)) := Sm.cons (.str _) (Sm.cons (.int _) (Sm.cons (.bl _) (Sm.cons (.bl _) Sm.nil (by decide)) (by show 2 ≤ sizeLine; decide)) (by show 3 ≤ sizeLine; decide)) (by show 4 ≤ sizeLine; decide)
theorem sm_errE {x : Str} : Sm 2 (errE (DL.T x)) (errE (DL.T x)) := Sm.cons (.str _) (Sm.cons (.str _) (Sm.cons (.bl _) (Sm.cons (.bl _) Sm.nil (by decide)) (by show 2 ≤ sizeLine; decide)) (by show 3 ≤ sizeLine; decide)) (by show 4 ≤ sizeLine; decide)
theorem sm_errN : Sm 2 errN errN := Sm.cons (.str _) Sm.nil (by decide)
section
variable {P : Program} {w : PySem.World} {K : PySem.W.Frag} {mg : Str → Option Value} {base : Heap} {T : List (Addr × Str)} {C CM CU CE CT : Addr}
theorem scRfd : FnScope ["bag", "split", "many", "far", "beyond", "near", "wrong", "words", "asked", "due"] ["bag", "split", "many"] (defScope sRfd) := ⟨rfl, rfl, rfl, by decide +kernel, rfl, by decide +kernel, by decide +kernel⟩
theorem ok_rfd {f : Addr} {fd : FuncData} {cdv : Value} (G : FunC K "_law_refused" "_law_refused" sRfd f fd cdv) (hm : Nm2 mg) (c : SplC K C) (er : ErrT K mg CM CU CE CT) (tOk : ToldOk K mg)
    (lam : ∃ cc Pt, TabB base mg cc Pt ∧ cdv = .ref cc ∧ (Pt, (("_law_refused" : Str) ++ ".<locals>.") ++ "<lambda>") ∈ T ∧ ∀ p ∈ T, p.1 = Pt → p.2 = (("_law_refused" : Str) ++ ".<locals>.") ++ "<lambda>")
    (hT : HasF P w K mg base T CX0 "_law_take" 1 ["bag", "many"] spTake) (hFar : HasF P w K mg base T CX0 "_law_far" 2 ["bag", "many"] spFar)
    (hS : HasF P w K mg base T CX0 "_law_same" 4 ["actual", "due"] (spSame 3)) (hP : HasM P w K mg base T (L2.CX P w) C "parted" 6 ["self", "words"] (spParted C CM))
    (hM : HasM P w K mg base T (L2.CX P w) C "merged" 6 ["self", "first", "second"] (spMrg C CU)) :
    FnOk P w K mg base CX0 10 f fd ["bag", "split", "many"] (spOf K T (spRfd C)) := by
  refine fnDc G scRfd (fun ds w κ χ h => ?_) (fun A outer s H E ds w0 κ χ hr h => ?_)
  · obtain ⟨a, r, b, lo, rfl, _⟩ := h
    rfl
  obtain ⟨a, r, b, lo, rfl, hb, hlow, h1, h12, k⟩ := h
  have nd := scRfd.nd
  have pp : ∀ b b', bagPut (bagPut w0 a r b) a r b' = bagPut w0 a r b' := fun b b' => bag_put2 hb.ne
  have hB : ∀ b, BagAt (bagPut w0 a r b) a r b := fun b => bag_put hb.ne
  have LM : LamM (cxOf CX0 P w K mg base ["bag", "split", "many", "far", "beyond", "near", "wrong", "words", "asked", "due"] "_law_refused" (defScope sRfd) f cdv A outer s H E).nox T := by
    obtain ⟨cc, Pt, h1, h2, h3, h4⟩ := lam
    exact ⟨cc, Pt, h1, h2, h3, h4⟩
  refine pssd_cons (psd_set (i := 3) nd rfl ?_)
  refine pd_has hFar (hr.mono (by decide)) (fun _ => pass0At) ?_
  refine pad_cons ?_
  refine pd_var (i := 0) rfl rfl ?_
  refine pad_cons ?_
  refine pd_var (i := 2) rfl rfl ?_
  refine pad_nil ⟨a, r, b, _, rfl, hb, by omega, by omega, fun far b1 f1 f2 => ?_⟩
  refine pssd_cons (psd_set (i := 4) nd rfl ?_)
  refine pd_has hFar (hr.mono (by decide)) (fun _ => pass0At) ?_
  refine pad_cons ?_
  refine pd_var (i := 0) rfl rfl ?_
  refine pad_cons ?_
  refine pd_var (i := 2) rfl rfl ?_
  refine pad_nil ⟨a, r, b1, _, rfl, hB b1, by omega, by omega, fun bey b2 e1 e2 => ?_⟩
  rw [pp]
  refine pssd_cons (psd_set (i := 5) nd rfl ?_)
  refine pd_take hT (hr.mono (by decide)) (i := 0) rfl rfl (hB b2) ?_
  refine pd_var (i := 2) rfl rfl ?_
  refine ⟨rfl, _, rfl, by omega, Nat.lt_trans (log_of (Nat.lt_of_lt_of_le (by omega : _ < 2000) (by decide))) (by decide), fun near b3 n0 n1 => ?_⟩
  rw [pp]
  refine pssd_cons (psd_set (i := 6) nd rfl ?_)
  refine pd_op op_mod ?_
  refine pd_op op_add ?_
  refine pd_op op_add ?_
  refine pd_var (i := 2) rfl rfl ?_
  refine pd_int ?_
  refine vr_I ?_
  refine pd_take hT (hr.mono (by decide)) (i := 0) rfl rfl (hB b3) ?_
  refine pd_int ?_
  refine ⟨rfl, _, rfl, by decide, by decide, fun x b4 x0 x1 => ?_⟩
  rw [pp]
  refine vr_I ?_
  refine pd_int ?_
  refine vr_IC (by decide) ?_
  obtain ⟨wr, hw1, hw2, hw3⟩ : ∃ wr : Nat, ((lo.length : Int) + 1 + x) % 14 = (wr : Int) ∧ wr < 14 ∧ wr ≠ lo.length := ⟨(((lo.length : Int) + 1 + x) % 14).toNat, by omega, by omega, by omega⟩
  rw [show ((lo.length : Int) + 1 + x) % 14 = (wr : Int) from hw1]
  have rest : ∀ ks : List Key, ks.length = wr → ∀ b5, PSsD (cxOf CX0 P w K mg base ["bag", "split", "many", "far", "beyond", "near", "wrong", "words", "asked", "due"] "_law_refused" (defScope sRfd) f cdv A outer s H E).nox T Wf noX ((defBody sRfd).drop 5)
      [some (R a), some (spl C lo), some (I (lo.length : Int)), some (I far), some (I bey), some (I near), some (I (wr : Int)), some (.lst (ks.map kD)), none, none] (bagPut w0 a r b5) { nx := fun _ w' => κ DL.N w', rt := κ } := by
    intro ks hks b5
    refine pssd_cons (psd_set (i := 8) nd rfl ?_)
    refine pd_lstO ?_
    refine pad_nil ⟨Nat.zero_le _, fun q hq => ?_⟩
    have nfar : ¬ InR far lo.length := fun z => by
      obtain ⟨z1, z2⟩ := z
      omega
    have inear : InR near lo.length := ⟨n0, n1⟩
    (refine pssd_cons (psd_expr ?_); refine pd_bm PySem.F.plainAttrs_list PySem.F.slot_list_append PySem.F.type_list_append mt_append ?_; refine pd_var (i := 8) rfl rfl ?_; refine ⟨⟨rfl, _, wu_same⟩, ?_⟩; refine pad_cons ?_; refine pd_told (k := 7) hm er tOk LM (hr.mono (by decide)) (lamS_by rfl) (fun _ _ _ _ _ _ _ hr' => ?_))
    refine pd_hasm c.cl hP (hr'.mono (by decide)) passL2 ?_
    refine pd_var (i := 1) rfl rfl ?_
    refine ⟨ins_spl (by decide), ?_⟩
    refine pad_cons ?_
    refine pd_callTy call_list_of rfl hm.list bt_list ?_
    refine pad_cons ?_
    refine pd_var (i := 7) rfl rfl ?_
    refine pad_nil ?_
    refine va_listS ?_
    refine pad_nil ?_
    refine ⟨lo, ks, _, rfl, .inl rfl, h1, h12, by omega, fun z => absurd (hks.symm.trans z) hw3, fun _ => ⟨_, .inl ⟨_, _, rfl, rfl, rfl, rfl⟩, ?_⟩⟩
    rw [hks]
    (refine pad_nil ?_; refine vm_append wu_same (small1000 (by simp)) ?_; rw [wu_wu])
    (refine pssd_cons (psd_expr ?_); refine pd_bm PySem.F.plainAttrs_list PySem.F.slot_list_append PySem.F.type_list_append mt_append ?_; refine pd_var (i := 8) rfl rfl ?_; refine ⟨⟨rfl, _, wu_same⟩, ?_⟩; refine pad_cons ?_; refine pd_told (k := 7) hm er tOk LM (hr.mono (by decide)) (lamS_by rfl) (fun _ _ _ _ _ _ _ hr' => ?_))
    refine pd_hasm c.cl hM (hr'.mono (by decide)) passL2 ?_
    refine pd_var (i := 1) rfl rfl ?_
    refine ⟨ins_spl (by decide), ?_⟩
    refine pad_cons ?_
    refine pd_var (i := 3) rfl rfl ?_
    refine pad_cons ?_
    refine pd_var (i := 5) rfl rfl ?_
    refine pad_nil ?_
    refine ⟨lo, far, near, rfl, hlow, h1, h12, fun i j z1 z2 z3 z4 => absurd ⟨by omega, by omega⟩ nfar, fun _ => ⟨f2, _, .inr (.inl ⟨_, rfl, rfl, rfl, rfl⟩), ?_⟩, fun z => absurd z nfar⟩
    (refine pad_nil ?_; refine vm_append wu_same (small1000 (by simp)) ?_; rw [wu_wu])
    (refine pssd_cons (psd_expr ?_); refine pd_bm PySem.F.plainAttrs_list PySem.F.slot_list_append PySem.F.type_list_append mt_append ?_; refine pd_var (i := 8) rfl rfl ?_; refine ⟨⟨rfl, _, wu_same⟩, ?_⟩; refine pad_cons ?_; refine pd_told (k := 7) hm er tOk LM (hr.mono (by decide)) (lamS_by rfl) (fun _ _ _ _ _ _ _ hr' => ?_))
    refine pd_hasm c.cl hM (hr'.mono (by decide)) passL2 ?_
    refine pd_var (i := 1) rfl rfl ?_
    refine ⟨ins_spl (by decide), ?_⟩
    refine pad_cons ?_
    refine pd_var (i := 5) rfl rfl ?_
    refine pad_cons ?_
    refine pd_var (i := 3) rfl rfl ?_
    refine pad_nil ?_
    refine ⟨lo, near, far, rfl, hlow, h1, h12, fun i j z1 z2 z3 z4 => absurd ⟨by omega, by omega⟩ nfar, fun z => absurd inear z, fun _ _ => ⟨f2, _, .inr (.inl ⟨_, rfl, rfl, rfl, rfl⟩), ?_⟩⟩
    (refine pad_nil ?_; refine vm_append wu_same (small1000 (by simp)) ?_; rw [wu_wu])
    (refine pssd_cons (psd_expr ?_); refine pd_bm PySem.F.plainAttrs_list PySem.F.slot_list_append PySem.F.type_list_append mt_append ?_; refine pd_var (i := 8) rfl rfl ?_; refine ⟨⟨rfl, _, wu_same⟩, ?_⟩; refine pad_cons ?_; refine pd_told (k := 7) hm er tOk LM (hr.mono (by decide)) (lamS_by rfl) (fun _ _ _ _ _ _ _ hr' => ?_))
    refine pd_hasm c.cl hM (hr'.mono (by decide)) passL2 ?_
    refine pd_var (i := 1) rfl rfl ?_
    refine ⟨ins_spl (by decide), ?_⟩
    refine pad_cons ?_
    refine pd_var (i := 3) rfl rfl ?_
    refine pad_cons ?_
    refine pd_var (i := 4) rfl rfl ?_
    refine pad_nil ?_
    refine ⟨lo, far, bey, rfl, hlow, h1, h12, fun i j z1 z2 z3 z4 => absurd ⟨by omega, by omega⟩ nfar, fun _ => ⟨f2, _, .inr (.inl ⟨_, rfl, rfl, rfl, rfl⟩), ?_⟩, fun z => absurd z nfar⟩
    (refine pad_nil ?_; refine vm_append wu_same (small1000 (by simp)) ?_; rw [wu_wu])
    (refine pssd_cons (psd_expr ?_); refine pd_bm PySem.F.plainAttrs_list PySem.F.slot_list_append PySem.F.type_list_append mt_append ?_; refine pd_var (i := 8) rfl rfl ?_; refine ⟨⟨rfl, _, wu_same⟩, ?_⟩; refine pad_cons ?_; refine pd_told (k := 7) hm er tOk LM (hr.mono (by decide)) (lamS_by rfl) (fun _ _ _ _ _ _ _ hr' => ?_))
    refine pd_hasm c.cl hM (hr'.mono (by decide)) passL2 ?_
    refine pd_var (i := 1) rfl rfl ?_
    refine ⟨ins_spl (by decide), ?_⟩
    refine pad_cons ?_
    refine pd_var (i := 5) rfl rfl ?_
    refine pad_cons ?_
    refine pd_var (i := 5) rfl rfl ?_
    refine pad_nil ?_
    refine ⟨lo, near, near, rfl, hlow, h1, h12, fun i j z1 z2 z3 z4 => ?_, fun z => absurd inear z, fun _ z => absurd inear z⟩
    (refine pad_nil ?_; refine vm_append wu_same (small1000 (by simp)) ?_; rw [wu_wu])
    -- due
    refine pssd_cons (psd_set (i := 9) nd rfl ?_)
    refine pd_lst ?_
    refine pad_cons ?_
    refine pd_lst ?_
    refine pad_cons (pd_str ?_)
    refine pad_cons ?_
    refine pd_var (i := 2) rfl rfl ?_
    refine pad_cons ?_
    refine pd_var (i := 6) rfl rfl ?_
    refine pad_cons (pd_bl ?_)
    refine pad_cons (pd_bl ?_)
    refine pad_nil ⟨by show 5 ≤ sizeLine; decide, ?_⟩
    refine pad_nil ⟨by show 1 ≤ sizeLine; decide, ?_⟩
    refine pssd_cons (psd_set (i := 9) nd rfl ?_)
    refine pd_op op_cat ?_
    refine pd_op op_cat ?_
    refine pd_var (i := 9) rfl rfl ?_
    refine pd_op op_rep ?_
    refine pd_lst ?_
    refine pad_cons ?_
    refine pd_lst ?_
    refine pad_cons (pd_str ?_)
    refine pad_cons ?_
    refine pd_var (i := 3) rfl rfl ?_
    refine pad_cons (pd_bl ?_)
    refine pad_cons (pd_bl ?_)
    refine pad_nil ⟨by show 4 ≤ sizeLine; decide, ?_⟩
    refine pad_nil ⟨by show 1 ≤ sizeLine; decide, ?_⟩
    refine pd_int ?_
    refine vr_rep (n := 3) (by decide) (by show 1 * 3 ≤ sizeLine; decide) ?_
    refine vr_cat (by show 1 + 3 ≤ sizeLine; decide) ?_
    refine pd_lst ?_
    refine pad_cons ?_
    refine pd_lst ?_
    refine pad_cons (pd_str ?_)
    refine pad_nil ⟨by show 1 ≤ sizeLine; decide, ?_⟩
    refine pad_nil ⟨by show 1 ≤ sizeLine; decide, ?_⟩
    refine vr_cat (by show 4 + 1 ≤ sizeLine; decide) ?_
    refine pssd_one (psd_ret ?_)
    refine pd_drop ?_
    refine pd_has hS (hr.mono (by decide)) (fun _ => pass0At) ?_
    refine pad_cons ?_
    refine pd_var (i := 8) rfl rfl ?_
    refine pad_cons ?_
    refine pd_var (i := 9) rfl rfl ?_
    refine pad_nil ?_
    refine ⟨_, _, rfl, .inr ⟨q, _, rfl, wu_same, ?_⟩, ⟨q, ?_⟩⟩
    · show Sm 3 (.lst [errM (I (lo.length : Int)) (I (wr : Int)), errU (I far), errU (I far), errU (I far), errN]) (.lst [errM (I (lo.length : Int)) (I (wr : Int)), errU (I far), errU (I far), errU (I far), errN])
      have ll : ∀ n, n ≤ 10 → n ≤ sizeLine := fun n h => le_line (by omega)
      exact Sm.cons sm_errM (Sm.cons sm_errU (Sm.cons sm_errU (Sm.cons sm_errU (Sm.cons sm_errN Sm.nil (ll _ (by simp))) (ll _ (by simp))) (ll _ (by simp))) (ll _ (by simp))) (ll _ (by simp))
    · rw [wd_wu hq]
      exact k b5
  refine pssd_cons (psd_set (i := 7) nd rfl ?_)
  refine pd_ix ix_list ?_
  refine pd_lst ?_
  refine pad_cons ?_
  refine pd_op op_rep ?_
  refine pd_lst ?_
  refine pad_cons (pd_str ?_)
  refine pad_nil ⟨by show 1 ≤ sizeLine; decide, ?_⟩
  refine pd_var (i := 6) rfl rfl ?_
  refine vr_rep (n := wr) (by omega) (by show 1 * wr ≤ sizeLine; rw [Nat.one_mul]; exact Nat.le_of_lt (small1000 (by omega))) ?_
  refine pad_cons ?_
  refine pd_listRg rfl hm.list hm.range ?_
  refine pd_var (i := 6) rfl rfl ?_
  refine ⟨wr, rfl, by omega, ?_⟩
  refine pad_nil ⟨by show 2 ≤ sizeLine; decide, ?_⟩
  refine pd_take hT (hr.mono (by decide)) (i := 0) rfl rfl (hB b4) ?_
  refine pd_int ?_
  refine ⟨rfl, _, rfl, by decide, by decide, fun way b5 y0 y1 => ?_⟩
  rw [pp]
  have hway : way = ((0 : Nat) : Int) ∨ way = ((1 : Nat) : Int) := by omega
  rcases hway with rfl | rfl
  · refine vr_ixL (i := 0) rfl ?_
    have e : (List.replicate wr [DL.T "yes"]).flatten = (List.replicate wr (Sum.inr ("yes" : Str) : Key)).map kD := by
      rw [List.flatten_replicate_singleton, List.map_replicate]
      rfl
    rw [e]
    exact rest _ (List.length_replicate ..) b5
  · refine vr_ixL (i := 1) rfl ?_
    have e : ups wr = ((List.range wr).map fun (k : Nat) => (Sum.inl (k : Int) : Key)).map kD := by
      rw [List.map_map]
      rfl
    rw [e]
    exact rest _ (by rw [List.length_map, List.length_range]) b5
end
end Tw

set_option Elab.async false
set_option linter.all false
set_option maxRecDepth 100000
set_option maxHeartbeats 2000000
namespace Tw
open PySem PySem.Spec PyProof.Rows L2 LamX DL Mth
abbrev sShn : Stmt := top 31
def spShn (C : Addr) : SpD := fun ds w κ χ => ∃ lo, ds = [spl C lo, nats lo] ∧ IsLow lo ∧ 1 ≤ lo.length ∧ lo.length ≤ 12 ∧ κ (B true) w
theorem nm_chr : ∀ n, n < 12 → ∀ k ∈ (nm n).cps.toList, k < 200 := by decide +kernel
theorem okc_tx {lo : List Nat} (h : IsLow lo) (h1 : 1 ≤ lo.length) (hz : lo.length ≤ 12) : Okc (tx lo) := by
  refine ⟨Nat.le_trans (tx_len hz) (by decide), fun k hk => ?_⟩
  rcases mem_join (c := 124) hk with rfl | ⟨p, hp, hk⟩
  · decide
  obtain ⟨r, hr, rfl⟩ := List.mem_map.mp hp
  rcases mem_join (c := 44) hk with rfl | ⟨y, hy, hk⟩
  · decide
  obtain ⟨n, hn, rfl⟩ := List.mem_map.mp hy
  exact nm_chr n (cell_lt hz r hr n hn) k hk
theorem bt_repr : bootBuiltins "repr" = some (.builtin "repr") := by decide +kernel
section
variable {P : Program} {w : PySem.World} {K : PySem.W.Frag} {mg : Str → Option Value} {base : Heap} {T : List (Addr × Str)} {C CM CU CE CT : Addr}
/-- Split.read stands -/
def HasRead (P : Program) (w : PySem.World) (K : PySem.W.Frag) (mg : Str → Option Value) (base : Heap) (T : List (Addr × Str)) (C CE : Addr) : Prop :=
  ∃ mc p g fd, ClX.CRead K C mc ∧ SMet K C mc "read" p g ∧ FnOk P w K mg base (L2.CX P w) 9 g fd ["text"] (spOf K T (spRead C CE)) ∧ L2.Binds K fd ["text"] []
theorem scShn : FnScope ["split", "low", "text", "back"] ["split", "low"] (defScope sShn) := ⟨rfl, rfl, rfl, by decide +kernel, rfl, by decide +kernel, by decide +kernel⟩
theorem ok_shn {f : Addr} {fd : FuncData} (G : Fun K "_law_shown" "_law_shown" sShn f fd) (hm : Nm2 mg) (hrp : mg "repr" = none) (c : SplC K C) (q : SplQ K C) (hSp : mg "Split" = some (.ref C))
    (hS : ∀ n, HasF P w K mg base T CX0 "_law_same" (n + 1) ["actual", "due"] (spSame n)) (hL : HasF P w K mg base T CX0 "_law_text" 1 ["low"] spLTx) (hMa : HasM P w K mg base T CX0 C "marks" 1 ["self"] (spMarks C))
    (hE : HasM P w K mg base T CX0 C "__eq__" 1 ["self", "other"] (spEq C)) (hRd : HasRead P w K mg base T C CE)
    (hStr : ∃ f fd, FnOk P w K mg base CX0 6 f fd ["self"] (spOf K T (spStr C)) ∧ PySem.W.findIn K (.ref C) "__str__" = some (some (.ref f)) ∧ PySem.W.isFn K (.ref f) = true ∧ L2.Binds K fd ["self"] [])
    (hRep : ∃ f fd, FnG P w K mg base CX0 1 f fd ["self"] (spOf K T (spRepr C)) ∧ PySem.W.findIn K (.ref C) "__repr__" = some (some (.ref f)) ∧ PySem.W.isFn K (.ref f) = true ∧ L2.Binds K fd ["self"] []) :
    FnG P w K mg base CX0 10 f fd ["split", "low"] (spOf K T (spShn C)) := by
  refine fnGD G scShn (fun ds w κ χ h => ?_) (fun cdv A outer s H E ds w0 κ χ hA hr h => ?_)
  · obtain ⟨lo, rfl, _⟩ := h
    rfl
  obtain ⟨lo, rfl, hlow, h1, h12, k⟩ := h
  have nd := scShn.nd
  have hl0 := isLow0 hlow h1
  have hu : (A.deeper (envOfC "_law_shown" (defScope sShn) s.heap.objs.size f cdv)).units + 65 < cLine := by
    have := hr.un
    omega
  refine pssd_cons (psd_set (i := 2) nd rfl ?_)
  refine pd_has hL (hr.mono (by decide)) (fun _ => pass0At) ?_
  refine pad_cons ?_
  refine pd_var (i := 1) rfl rfl ?_
  refine pad_nil ?_
  refine ⟨lo, rfl, h12, ?_⟩
  refine pssd_cons (psd_if ?_)
  refine pwd_pt ?_
  refine pwd_or ?_
  refine ptd_not ?_
  refine ptd_val ?_
  refine pd_callB call_isi rfl hm.isinstance PyProof.Rows.boot_isinstance ?_
  refine pad_cons ?_
  refine pd_var (i := 0) rfl rfl ?_
  refine pad_cons ?_
  refine pd_glob (v := .ref C) hSp rfl ?_
  refine pad_nil ?_
  refine va_isC (t := .ref C) (b := true) (.inr ⟨C, _, _, rfl, q.ci, rfl⟩) q.kC ?_
  refine ⟨_, rfl, ?_⟩
  refine iteF ?_
  refine pwd_or1 ?_
  refine ptd_not ?_
  refine ptd_val ?_
  refine pd_has (hS 1) (hr.mono (by decide)) (fun _ => pass0At) ?_
  refine pad_cons ?_
  refine pd_frz ?_
  refine pd_hasm0 c.cl hMa (hr.mono (by decide)) (fun _ => pass0At) ?_
  refine pd_var (i := 0) rfl rfl ?_
  refine ⟨ins_spl (by decide), lo, rfl, fun a ha => ?_⟩
  refine ⟨a, _, rfl, wu_same, ?_⟩
  rw [wd_wu ha]
  refine pad_cons ?_
  refine pd_var (i := 1) rfl rfl ?_
  refine pad_nil ?_
  refine ⟨_, _, rfl, .inl (sm_nats (by omega)), ?_⟩
  refine ⟨_, rfl, ?_⟩
  refine iteF ?_
  refine pssd_nil ?_
  obtain ⟨fs, fds, gs, fs2, fs3, fs4⟩ := hStr
  obtain ⟨fr, fdr, gr, fr2, fr3, fr4⟩ := hRep
  refine pssd_cons (psd_if ?_)
  refine ptd_not ?_
  refine ptd_val ?_
  refine pd_has (hS 1) (hr.mono (by decide)) (fun _ => pass0At) ?_
  refine pad_cons ?_
  refine pd_lst ?_
  refine pad_cons ?_
  refine pd_callTy (call_strOwn gs (hr.mono (by decide)) fs2 fs3 fs4) rfl hm.str bt_str ?_
  refine pad_cons ?_
  refine pd_var (i := 0) rfl rfl ?_
  refine pad_nil ?_
  refine va_own1 ⟨_, _, rfl⟩ ?_
  refine ⟨lo, rfl, hl0, h12, ?_⟩
  refine ⟨_, rfl, ?_⟩
  refine pad_cons ?_
  refine pd_callB (call_reprOwn gr hA (hr.mono (by decide)) fr2 fr3 fr4) rfl hrp bt_repr ?_
  refine pad_cons ?_
  refine pd_var (i := 0) rfl rfl ?_
  refine pad_nil ?_
  refine va_own1 ⟨_, _, rfl⟩ ?_
  refine ⟨lo, rfl, hlow, h1, h12, ?_⟩
  refine ⟨_, rfl, ?_⟩
  refine pad_nil ⟨by show 2 ≤ sizeLine; decide, ?_⟩
  have ll := lText_len h12 (low_lt12 hlow h12)
  have ln1 : ("Split(" : Str).length = 6 := by decide +kernel
  have ln2 : (")" : Str).length = 1 := by decide +kernel
  refine pad_cons ?_
  refine pd_lst ?_
  refine pad_cons ?_
  refine pd_var (i := 2) rfl rfl ?_
  refine pad_cons ?_
  refine pd_op op_add_str ?_
  refine pd_op op_add_str ?_
  refine pd_str ?_
  refine pd_callTy (call_strL hA hu) rfl hm.str bt_str ?_
  refine pad_cons ?_
  refine pd_var (i := 1) rfl rfl ?_
  refine pad_nil ?_
  rw [nats_casts]
  refine va_strL (casts_ne h1) (casts_log hlow h12) (by rw [sizeLine_eq]; omega) ?_
  refine vr_addS (by rw [ln1, sizeLine_eq]; omega) ?_
  refine pd_str ?_
  refine vr_addS (by rw [Str.length_append, ln1, ln2, sizeLine_eq]; omega) ?_
  refine pad_nil ⟨by show 2 ≤ sizeLine; decide, ?_⟩
  refine pad_nil ?_
  refine ⟨_, _, rfl, .inl (Sm.cons (.str _) (Sm.cons (.str _) Sm.nil (by decide)) (by show 2 ≤ sizeLine; decide)), ?_⟩
  refine ⟨_, rfl, ?_⟩
  refine iteF ?_
  refine pssd_nil ?_
  obtain ⟨mc, rp, rg, rfd, r1, r2, r3, r4⟩ := hRd
  have hgood : Good (tx lo) lo := ⟨hlow, h1, h12, rfl⟩
  refine pssd_cons (psd_set (i := 3) nd rfl ?_)
  refine pd_smet r1 r2 r3 (hr.mono (by decide)) r4 (fun _ => passLf) ?_
  refine pd_glob (v := .ref C) hSp rfl ?_
  refine ⟨rfl, ?_⟩
  refine pad_cons ?_
  refine pd_var (i := 2) rfl rfl ?_
  refine pad_nil ?_
  refine ⟨tx lo, rfl, okc_tx hlow h1 h12, fun lo2 g2 => ?_, fun z => absurd hgood (z lo)⟩
  have e2 := good_one g2 hgood
  subst e2
  refine pssd_one (psd_ret ?_)
  refine pd_and ?_
  refine pd_callB call_isi rfl hm.isinstance PyProof.Rows.boot_isinstance ?_
  refine pad_cons ?_
  refine pd_var (i := 3) rfl rfl ?_
  refine pad_cons ?_
  refine pd_glob (v := .ref C) hSp rfl ?_
  refine pad_nil ?_
  refine va_isC (t := .ref C) (b := true) (.inr ⟨C, _, _, rfl, q.ci, rfl⟩) q.kC ?_
  refine ⟨_, rfl, ?_⟩
  rw [if_pos rfl]
  refine pd_and ?_
  refine pd_has (hS 1) (hr.mono (by decide)) (fun _ => pass0At) ?_
  refine pad_cons ?_
  refine pd_frz ?_
  refine pd_hasm0 c.cl hMa (hr.mono (by decide)) (fun _ => pass0At) ?_
  refine pd_var (i := 3) rfl rfl ?_
  refine ⟨ins_spl (by decide), _, rfl, fun a ha => ?_⟩
  refine ⟨a, _, rfl, wu_same, ?_⟩
  rw [wd_wu ha]
  refine pad_cons ?_
  refine pd_var (i := 1) rfl rfl ?_
  refine pad_nil ?_
  refine ⟨_, _, rfl, .inl (by rw [← nats_casts]; exact sm_nats (l := lo2) (by omega)), ?_⟩
  refine ⟨_, rfl, ?_⟩
  rw [if_pos rfl]
  refine pd_one ?_
  refine pd_has (hS 0) (hr.mono (by decide)) (fun _ => pass0At) ?_
  obtain ⟨fE, fdE, g1, g3, g4⟩ := hE
  refine pad_cons ?_
  refine pd_cmp (op_own (op := .Eq) (fun _ _ => rfl) g1 (hr.mono (by decide)) g3.at_ g3.fn g4) ?_
  refine pd_var (i := 3) rfl rfl ?_
  refine pd_var (i := 0) rfl rfl ?_
  refine vr_own (t := .ref C) ⟨_, _, rfl⟩ (.inr ⟨C, _, _, rfl, q.ci, rfl⟩) q.nfC ?_
  refine ⟨_, _, rfl, .inl ⟨_, rfl, _, rfl, ?_⟩⟩
  rw [decide_eq_true rfl]
  refine pad_cons (pd_bl ?_)
  refine pad_nil ?_
  exact ⟨_, _, rfl, .inl (.bl _), k⟩
end
end Tw

set_option Elab.async false
set_option linter.all false
set_option maxRecDepth 100000
namespace Tw
open PySem PySem.Spec PyProof.Rows L2 LamX DL Mth
def longT (c n : Nat) : Str := Str.join ⟨#[c]⟩ ((List.range n).map nm)
theorem long_ok : ∀ n < 8, (13 ≤ sizeOf' (longT 44 (13 + n)) ∧ 13 ≤ sizeOf' (longT 124 (13 + n))) ∧ (longT 44 (13 + n)).length ≤ 1000 ∧ (longT 124 (13 + n)).length ≤ 1000 ∧ (longT 44 (13 + n)).cps.toList.all (fun c => decide (c < 200)) = true ∧ (longT 124 (13 + n)).cps.toList.all (fun c => decide (c < 200)) = true := by decide +kernel
theorem nm_len20 : ∀ n < 8, (((List.range (13 + n)).map nm).map (·.length)).sum ≤ 100 := by decide +kernel
end Tw

set_option Elab.async false
set_option linter.all false
set_option maxRecDepth 100000
set_option maxHeartbeats 2000000
namespace DL
open PySem PySem.Spec PyProof.Rows L2 LamX
section
variable {P : Program} {w : PySem.World} {K : PySem.W.Frag} {mg : Str → Option Value} {base : Heap} {T : List (Addr × Str)}
/-- as fnGD, its code object known -/
theorem fnGDc {x qual : Str} {st : Stmt} {f : Addr} {fd : FuncData} {N ps : List Str} {k : Nat} {sp : SpD} {cdv : Value} (G : FunC K x qual st f fd cdv) (S : FnScope N ps (defScope st)) (len : ∀ ds w κ χ, sp ds w κ χ → ds.length = ps.length)
    (body : ∀ (A : Around) (outer : List Env) (s : Shared) (H : Hp) (E : XK) (ds : List D) (w0 : Wp) (κ : D → Wp → Prop) (χ : XD), A.guards = some [] → Room k (A.deeper (envOfC qual (defScope st) s.heap.objs.size f cdv)) → sp ds w0 κ χ →
      PSsD (cxOf CX0 P w K mg base N qual (defScope st) f cdv A outer s H E).nox T Wf noX (defBody st) (startD N ds) w0 { nx := fun _ w' => κ DL.N w', rt := κ }) : FnG P w K mg base CX0 (k + 1) f fd ps (spOf K T sp) := by
  obtain ⟨oc, od, kV, doc, pm, an, ct, osl, rfl, lk, hcd⟩ := G.ex
  have len' : ∀ vs H Q E, spOf K T sp vs H Q E → vs.length = ps.length := fun vs H Q E h => by
    obtain ⟨ds, w0, F, S0, κ, χ, h1, h2, _⟩ := h
    rw [h2.length]
    exact len _ _ _ _ h1
  refine ⟨len', fun A hA outer s H args us vs Q E hr e0 hb r hsp => ?_⟩
  refine StX.run_bnd lk hcd S hr e0 (G := fun zs H2 => zs = vs ∧ H2 = H ∧ True) (fun A' Ex Q' hq => hb _ _ _ _ ?_) fun s2 H2 zs z hr2 => ?_
  · exact hq s H vs us e0 Un.refl rfl (fun _ _ z => z) r (len' _ _ _ _ hsp) ⟨rfl, rfl, True.intro⟩
  · obtain ⟨rfl, rfl, _⟩ := z
    obtain ⟨ds, w0, F, S0, κ, χ, h1, h2, h3, h4, h5⟩ := hsp
    refine ⟨_, (pss_wp _).nox, ?_⟩
    exact body A outer s2 H2 E ds w0 κ χ hA hr2 h1 F _ S0 H2 _ (env_start h2) h3 exsf ⟨fun δ' w' σ' S' H' k s1 hE W1 => h4 _ w' _ S' H' k s1 W1 rfl, h4, fun _ _ _ _ _ z => z.elim, fun _ _ _ _ _ z => z.elim⟩
end
end DL
namespace Tw
open PySem PySem.Spec PyProof.Rows L2 LamX DL Mth
abbrev sTxs : Stmt := top 32
def spTxs (C : Addr) : SpD := fun ds w κ χ => ∃ (a r : Addr) (b : Bag) (lo : List Nat), ds = [R a, nats lo] ∧ BagAt w a r b ∧ IsLow lo ∧ 1 ≤ lo.length ∧ lo.length ≤ 12 ∧ ∀ b', κ (B true) (bagPut w a r b')
theorem long_of {n c : Nat} (hn : n < 8) (hc : c = 44 ∨ c = 124) : Okc (longT c (13 + n)) ∧ ∀ lo, ¬ Good (longT c (13 + n)) lo := by
  obtain ⟨⟨a1, a2⟩, b1, b2, c1, c2⟩ := long_ok n hn
  have no : ∀ {t : Str}, 13 ≤ sizeOf' t → ∀ lo, ¬ Good t lo := fun h lo g => by
    have := good_size g
    have := g.2.2.1
    omega
  rcases hc with rfl | rfl
  · exact ⟨⟨b1, fun k hk => by simpa using (List.all_eq_true.mp c1) k hk⟩, no a1⟩
  · exact ⟨⟨b2, fun k hk => by simpa using (List.all_eq_true.mp c2) k hk⟩, no a2⟩
/-- f stands for callers without a guard -/
def HasG (P : Program) (w : PySem.World) (K : PySem.W.Frag) (mg : Str → Option Value) (base : Heap) (T : List (Addr × Str)) (CX : CXT) (x : Str) (k : Nat) (ps : List Str) (sp : SpD) : Prop :=
  ∃ f fd, FnG P w K mg base CX k f fd ps (spOf K T sp) ∧ mg x = some (.ref f) ∧ PySem.W.keepIn K (.ref f) = true ∧ L2.Binds K fd ps []
section
variable {P : Program} {w : PySem.World} {K : PySem.W.Frag} {mg : Str → Option Value} {base : Heap} {T : List (Addr × Str)} {C CM CU CE CT : Addr}
theorem scTxs : FnScope ["bag", "low", "text", "turn", "due", "wide", "sign", "long", "back", "case"] ["bag", "low"] (defScope sTxs) := ⟨rfl, rfl, rfl, by decide +kernel, rfl, by decide +kernel, by decide +kernel⟩
theorem ok_txs {f : Addr} {fd : FuncData} {cdv : Value} (G : FunC K "_law_texts" "_law_texts" sTxs f fd cdv) (hm : Nm2 mg) (c : SplC K C) (hSp : mg "Split" = some (.ref C)) (er : ErrT K mg CM CU CE CT) (tOk : ToldOk K mg)
    (lam : ∃ cc Pt, TabB base mg cc Pt ∧ cdv = .ref cc ∧ (Pt, (("_law_texts" : Str) ++ ".<locals>.") ++ "<lambda>") ∈ T ∧ ∀ p ∈ T, p.1 = Pt → p.2 = (("_law_texts" : Str) ++ ".<locals>.") ++ "<lambda>")
    (hT : HasF P w K mg base T CX0 "_law_take" 1 ["bag", "many"] spTake) (hS : ∀ n, HasF P w K mg base T CX0 "_law_same" (n + 1) ["actual", "due"] (spSame n)) (hL : HasF P w K mg base T CX0 "_law_text" 1 ["low"] spLTx)
    (hBn : HasF P w K mg base T CX0 "_law_bent" 2 ["bag", "text"] spBnt) (hLR : HasF P w K mg base T CX0 "_law_read" 1 ["text"] spLRd) (hRd : HasRead P w K mg base T C CE)
    (hShn : HasG P w K mg base T CX0 "_law_shown" 10 ["split", "low"] (spShn C))
    (hStr : ∃ f fd, FnOk P w K mg base CX0 6 f fd ["self"] (spOf K T (spStr C)) ∧ PySem.W.findIn K (.ref C) "__str__" = some (some (.ref f)) ∧ PySem.W.isFn K (.ref f) = true ∧ L2.Binds K fd ["self"] []) :
    FnG P w K mg base CX0 13 f fd ["bag", "low"] (spOf K T (spTxs C)) := by
  refine fnGDc G scTxs (fun ds w κ χ h => ?_) (fun A outer s H E ds w0 κ χ hA hr h => ?_)
  · obtain ⟨a, r, b, lo, rfl, _⟩ := h
    rfl
  obtain ⟨a, r, b, lo, rfl, hb, hlow, h1, h12, k⟩ := h
  have nd := scTxs.nd
  have pp : ∀ b b', bagPut (bagPut w0 a r b) a r b' = bagPut w0 a r b' := fun b b' => bag_put2 hb.ne
  have hB : ∀ b, BagAt (bagPut w0 a r b) a r b := fun b => bag_put hb.ne
  have LM : LamM (cxOf CX0 P w K mg base ["bag", "low", "text", "turn", "due", "wide", "sign", "long", "back", "case"] "_law_texts" (defScope sTxs) f cdv A outer s H E).nox T := by
    obtain ⟨cc, Pt, h1, h2, h3, h4⟩ := lam
    exact ⟨cc, Pt, h1, h2, h3, h4⟩
  obtain ⟨mc, rp, rg, rfd, r1, r2, r3, r4⟩ := hRd
  obtain ⟨fs, fds, gs, fs2, fs3, fs4⟩ := hStr
  obtain ⟨fh, fdh, gh, gh2, gh3, gh4⟩ := hShn
  have t0 := okc_tx hlow h1 h12
  have tl := tx_len (lo := lo) h12
  -- from due on
  have rest : ∀ (t : Str) (x : Option D) (dd : D), (∀ (xs : D) (sg : D) (lg : D) (b' : Bag), PSsD (cxOf CX0 P w K mg base ["bag", "low", "text", "turn", "due", "wide", "sign", "long", "back", "case"] "_law_texts" (defScope sTxs) f cdv A outer s H E).nox T Wf noX ((defBody sTxs).drop 7)
        [some (R a), some (nats lo), some (DL.T t), x, some dd, some xs, some sg, some lg, none, none] (bagPut w0 a r b') { nx := fun _ w' => κ DL.N w', rt := κ }) →
      ∀ b', PSsD (cxOf CX0 P w K mg base ["bag", "low", "text", "turn", "due", "wide", "sign", "long", "back", "case"] "_law_texts" (defScope sTxs) f cdv A outer s H E).nox T Wf noX ((defBody sTxs).drop 3)
        [some (R a), some (nats lo), some (DL.T t), x, some dd, none, none, none, none, none] (bagPut w0 a r b') { nx := fun _ w' => κ DL.N w', rt := κ } := by
    intro t x dd fin b'
    refine pssd_cons (psd_set (i := 5) nd rfl ?_)
    refine pd_op op_add ?_
    refine pd_int ?_
    refine pd_take hT (hr.mono (by decide)) (i := 0) rfl rfl (hB b') ?_
    refine pd_int ?_
    refine ⟨rfl, _, rfl, by decide, by decide, fun v b2 v0 v1 => ?_⟩
    rw [pp]
    refine vr_I ?_
    obtain ⟨v, rfl⟩ := Int.eq_ofNat_of_zero_le v0
    have hv : v < 8 := by omega
    show PSsD _ _ _ _ _ [some (R a), some (nats lo), some (DL.T t), x, some dd, some (I (((13 + v : Nat)) : Int)), none, none, none, none] _ _
    refine pssd_cons (psd_set (i := 6) nd rfl ?_)
    refine pd_ix ix_list ?_
    refine pd_lst ?_
    refine pad_cons (pd_str ?_)
    refine pad_cons (pd_str ?_)
    refine pad_nil ⟨by show 2 ≤ sizeLine; decide, ?_⟩
    refine pd_take hT (hr.mono (by decide)) (i := 0) rfl rfl (hB b2) ?_
    refine pd_int ?_
    refine ⟨rfl, _, rfl, by decide, by decide, fun way b3 y0 y1 => ?_⟩
    rw [pp]
    have rest2 : ∀ cc : Nat, (cc = 44 ∨ cc = 124) → PSsD (cxOf CX0 P w K mg base ["bag", "low", "text", "turn", "due", "wide", "sign", "long", "back", "case"] "_law_texts" (defScope sTxs) f cdv A outer s H E).nox T Wf noX ((defBody sTxs).drop 5)
        [some (R a), some (nats lo), some (DL.T t), x, some dd, some (I (((13 + v : Nat)) : Int)), some (DL.T ⟨#[cc]⟩), none, none, none] (bagPut w0 a r b3) { nx := fun _ w' => κ DL.N w', rt := κ } := by
      intro cc hcc
      obtain ⟨lOk, lNo⟩ := long_of hv hcc
      refine pssd_cons (psd_set (i := 7) nd rfl ?_)
      refine pd_bm PySem.F.plainAttrs_str PySem.F.slot_str_join PySem.F.type_str_join mt_join ?_
      refine pd_var (i := 6) rfl rfl ?_
      refine ⟨rfl, ?_⟩
      refine pad_cons ?_
      refine pd_lc (own := [("case", 9)]) (is := [9]) rfl nd (blkOk_by rfl) (by decide) ?_
      refine it_range hm.range ?_
      refine pd_var (i := 5) rfl rfl ?_
      refine ⟨13 + v, rfl, by omega, ?_⟩
      refine lcd_map (xs := List.range (13 + v)) (fun k => DL.T (nm k)) (by rw [List.length_range]; exact small1000 (by omega)) (fun k hk s H0 C1 cl1 fp1 => ?_) ?_
      · have hk := List.mem_range.mp hk
        refine pgl_name nd rfl ?_
        intro s H0 C1 cl1 fp1
        refine ptsd_nil ?_
        intro s H0 C1 cl1 fp1
        refine pd_callTy call_str_int rfl hm.str bt_str ?_
        refine pad_cons ?_
        refine pd_var (i := 9) rfl rfl ?_
        refine pad_nil ?_
        refine va_strI (log_small (by omega)) ?_
        exact ⟨rfl, rfl, rfl⟩
      have en : (List.range (13 + v)).map (fun k => DL.T (nm k)) = ((List.range (13 + v)).map nm).map DL.T := by
        rw [List.map_map]
        rfl
      rw [en]
      refine pad_nil ?_
      refine vm_join (by
        have := nm_len20 v hv
        rw [List.length_map, List.length_range]
        have e1 : (⟨#[cc]⟩ : Str).length = 1 := rfl
        rw [e1]
        omega) ?_
      rw [txt_join]
      show PSsD _ _ _ _ _ [some (R a), some (nats lo), some (DL.T t), x, some dd, some (I (((13 + v : Nat)) : Int)), some (DL.T ⟨#[cc]⟩), some (DL.T (longT cc (13 + v))), none, none] _ _
      refine pssd_cons (psd_if ?_)
      refine ptd_not ?_
      refine ptd_val ?_
      refine pd_has (hS 2) (hr.mono (by decide)) (fun _ => pass0At) ?_
      refine pad_cons ?_
      refine pd_told (k := 10) hm er tOk LM (hr.mono (by decide)) (lamS_by rfl) (fun _ _ _ _ _ _ _ hr' => ?_)
      refine pd_smet r1 r2 r3 (hr'.mono (by decide)) r4 passL2 ?_
      refine pd_glob (v := .ref C) hSp rfl ?_
      refine ⟨rfl, ?_⟩
      refine pad_cons ?_
      refine pd_var (i := 7) rfl rfl ?_
      refine pad_nil ?_
      refine ⟨longT cc (13 + v), rfl, lOk, fun lo2 g2 => absurd g2 (lNo lo2), fun _ => ⟨_, .inr (.inr ⟨_, rfl, rfl, rfl, rfl⟩), ?_⟩⟩
      refine pad_cons ?_
      refine pd_lst ?_
      refine pad_cons (pd_str ?_)
      refine pad_cons ?_
      refine pd_var (i := 7) rfl rfl ?_
      refine pad_cons (pd_bl ?_)
      refine pad_cons (pd_bl ?_)
      refine pad_nil ⟨by show 4 ≤ sizeLine; decide, ?_⟩
      refine pad_nil ?_
      refine ⟨_, _, rfl, .inl sm_errE, ?_⟩
      refine ⟨_, rfl, ?_⟩
      refine iteF ?_
      refine pssd_nil ?_
      exact fin _ _ _ b3
    have hway : way = ((0 : Nat) : Int) ∨ way = ((1 : Nat) : Int) := by omega
    rcases hway with rfl | rfl
    · refine vr_ixL (i := 0) rfl ?_
      rw [pass_cm]
      exact rest2 44 (.inl rfl)
    · refine vr_ixL (i := 1) rfl ?_
      rw [pass_br]
      exact rest2 124 (.inr rfl)
  refine pssd_cons (psd_set (i := 2) nd rfl ?_)
  refine pd_has hL (hr.mono (by decide)) (fun _ => pass0At) ?_
  refine pad_cons ?_
  refine pd_var (i := 1) rfl rfl ?_
  refine pad_nil ?_
  refine ⟨lo, rfl, h12, ?_⟩
  refine pssd_cons (psd_for PassesOwn.never rfl ?_)
  refine it_range hm.range ?_
  refine pd_take hT (hr.mono (by decide)) (i := 0) rfl rfl hb ?_
  refine pd_int ?_
  refine ⟨rfl, _, rfl, by decide, by decide, fun v b2 v0 v1 => ?_⟩
  obtain ⟨v, rfl⟩ := Int.eq_ofNat_of_zero_le v0
  refine ⟨v, rfl, by omega, ?_⟩
  refine ⟨fun i δ' w' => ∃ (t : Str) (x : Option D) (b' : Bag), δ' = [some (R a), some (nats lo), some (DL.T t), x, none, none, none, none, none, none] ∧ w' = bagPut w0 a r b' ∧ t.length ≤ 444 + 2 * i ∧ ∀ k ∈ t.cps.toList, k < 200, ⟨tx lo, none, b2, rfl, rfl, by omega, t0.2⟩, ?_, ?_⟩
  · rintro i d δ' w' hd ⟨t, x, b', rfl, rfl, hz, hc⟩
    obtain ⟨hi, rfl⟩ := ups_at hd
    refine pgd_name (i := 3) nd rfl ?_
    refine pssd_one (psd_set (i := 2) nd rfl ?_)
    refine pd_has hBn (hr.mono (by decide)) (fun _ => pass0At) ?_
    refine pad_cons ?_
    refine pd_var (i := 0) rfl rfl ?_
    refine pad_cons ?_
    refine pd_var (i := 2) rfl rfl ?_
    refine pad_nil ?_
    refine ⟨a, r, b', t, rfl, hB b', by omega, hc, fun t' b3 hbt => ?_⟩
    rw [pp]
    exact ⟨t', _, b3, rfl, rfl, by have := hbt.1; omega, hbt.2⟩
  rintro δ' w' ⟨t, x, b3, rfl, rfl, hz, hc⟩
  rw [ups_len] at hz
  have hO : Okc t := ⟨by omega, hc⟩
  refine pssd_cons (psd_set (i := 4) nd rfl ?_)
  refine pd_has hLR (hr.mono (by decide)) (fun _ => pass0At) ?_
  refine pad_cons ?_
  refine pd_var (i := 2) rfl rfl ?_
  refine pad_nil ?_
  refine ⟨t, rfl, hO, fun m fnd hL => ?_, fun hno => ?_⟩
  · have hg := good_lr hL
    refine rest t x (nats m) (fun xs sg lg b' => ?_) b3
    refine pssd_cons (psd_if ?_)
    refine ptd_cmp op_isN ?_
    refine pd_var (i := 4) rfl rfl ?_
    refine pd_non ?_
    refine vr_isN ?_
    refine ⟨_, rfl, ?_⟩
    refine iteF ?_
    refine pssd_nil ?_
    refine pssd_cons (psd_set (i := 8) nd rfl ?_)
    refine pd_smet r1 r2 r3 (hr.mono (by decide)) r4 (fun _ => passLf) ?_
    refine pd_glob (v := .ref C) hSp rfl ?_
    refine ⟨rfl, ?_⟩
    refine pad_cons ?_
    refine pd_var (i := 2) rfl rfl ?_
    refine pad_nil ?_
    refine ⟨t, rfl, hO, fun lo2 g2 => ?_, fun z => absurd hg (z m)⟩
    have e2 := good_one g2 hg
    subst e2
    refine pssd_one (psd_ret ?_)
    refine pd_and ?_
    refine pd_callG gh hA (hr.mono (by decide)) gh2 gh3 gh4 (fun _ => pass0At) ?_
    refine pad_cons ?_
    refine pd_var (i := 8) rfl rfl ?_
    refine pad_cons ?_
    refine pd_var (i := 4) rfl rfl ?_
    refine pad_nil ?_
    refine ⟨_, rfl, hg.1, hg.2.1, hg.2.2.1, ?_⟩
    refine ⟨_, rfl, ?_⟩
    rw [if_pos rfl]
    refine pd_one ?_
    refine pd_cmp op_eq ?_
    refine pd_callTy (call_strOwn gs (hr.mono (by decide)) fs2 fs3 fs4) rfl hm.str bt_str ?_
    refine pad_cons ?_
    refine pd_var (i := 8) rfl rfl ?_
    refine pad_nil ?_
    refine va_own1 ⟨_, _, rfl⟩ ?_
    refine ⟨_, rfl, isLow0 hg.1 hg.2.1, hg.2.2.1, ?_⟩
    refine ⟨_, rfl, ?_⟩
    refine pd_var (i := 2) rfl rfl ?_
    refine vr_eq rfl ?_
    rw [str_eq_dec, decide_eq_true hg.2.2.2]
    exact k b'
  · have hn : ∀ lo2, ¬ Good t lo2 := fun lo2 g => by
      obtain ⟨g1, g2, g3, rfl⟩ := g
      exact hno _ _ (lr_tx g1 g2 g3)
    refine rest t x DL.N (fun xs sg lg b' => ?_) b3
    refine pssd_cons (psd_if ?_)
    refine ptd_cmp op_isN ?_
    refine pd_var (i := 4) rfl rfl ?_
    refine pd_non ?_
    refine vr_isN ?_
    refine ⟨_, rfl, ?_⟩
    refine ite2 (fun _ => ?_) (fun z => absurd rfl z)
    refine pssd_one (psd_ret ?_)
    refine pd_has (hS 2) (hr.mono (by decide)) (fun _ => pass0At) ?_
    refine pad_cons ?_
    refine pd_told (k := 10) hm er tOk LM (hr.mono (by decide)) (lamS_by rfl) (fun _ _ _ _ _ _ _ hr' => ?_)
    refine pd_smet r1 r2 r3 (hr'.mono (by decide)) r4 passL2 ?_
    refine pd_glob (v := .ref C) hSp rfl ?_
    refine ⟨rfl, ?_⟩
    refine pad_cons ?_
    refine pd_var (i := 2) rfl rfl ?_
    refine pad_nil ?_
    refine ⟨t, rfl, hO, fun lo2 g2 => absurd g2 (hn lo2), fun _ => ⟨_, .inr (.inr ⟨_, rfl, rfl, rfl, rfl⟩), ?_⟩⟩
    refine pad_cons ?_
    refine pd_lst ?_
    refine pad_cons (pd_str ?_)
    refine pad_cons ?_
    refine pd_var (i := 2) rfl rfl ?_
    refine pad_cons (pd_bl ?_)
    refine pad_cons (pd_bl ?_)
    refine pad_nil ⟨by show 4 ≤ sizeLine; decide, ?_⟩
    refine pad_nil ?_
    exact ⟨_, _, rfl, .inl sm_errE, k b'⟩
end
end Tw

set_option Elab.async false
set_option linter.all false
set_option maxRecDepth 100000
set_option maxHeartbeats 4000000
namespace DL
open PySem PySem.Spec PyProof.Rows L2 LamX
section
variable {X : Cx} {T : List (Addr × Str)} {W : WX} {χ : XD} {δ : Dn} {w : Wp} {pos : Pos}
/-- xs[::-1] -/
theorem pd_revL {e : Expr} {j : Nat} {p1 p2 p3 : Pos} {κ : D → Wp → Prop} (h : PD X T W χ e δ w fun d w1 => ∃ ds, LstD d ds ∧ κ (.lst ds.reverse) w1) : PD X T W χ (.Subscript e (.Slice none none (some (.UnaryOp .USub (.Constant (.int 1) j p1) p2)) p3) pos) δ w κ := fun F σ S H Q hE hW hX hK =>
  wp_pe (pe_revL (pe_wp e)) (by
    refine h F σ S H _ hE hW hX fun d w1 v S1 H1 k s1 W1 r => ?_
    obtain ⟨ds, hl, k⟩ := k
    obtain ⟨a, xs, rfl, h1, h2⟩ := hl.at_ W1 r
    refine ⟨a, xs, rfl, h1, fun p hp => ?_⟩
    have s2 : Same S1 (upd S1 p (.lst xs.reverse)) := same_upd (W1.free hp).1
    exact hK _ w1 _ _ _ k (s1.trans s2) (W1.laid hp fun _ z => by cases z) ⟨p, _, rfl, upd_same, h2.rev.mono s2⟩)
theorem pssd_as {sts : List Stmt} {F : DL.Fin} (δ' : Dn) (e : δ = δ') (h : PSsD X T W χ sts δ' w F) : PSsD X T W χ sts δ w F := e ▸ h
end
end DL
namespace Tw
open PySem PySem.Spec PyProof.Rows L2 LamX DL Mth
abbrev sLaw : Stmt := top 34
abbrev NL : List Str := ["script", "bag", "many", "kinds", "marks", "low", "words", "one", "two", "split", "held", "parted", "merged", "both", "again", "rows", "three", "splits", "k"]
def spLaw : SpD := fun ds w κ χ => ∃ ns : List Int, ds = [.rd (ns.map I)] ∧ (∃ a r, w a = none ∧ w r = none ∧ a ≠ r) ∧ ∀ w', κ (B true) w'
theorem sm_kDs {ks : List Key} (h : ks.length ≤ 1000) : Sm 1 (.lst (ks.map kD)) (.lst (ks.map kD)) := Sm.map (le_line h) fun k _ => by
  cases k with
  | inl i => exact .int i
  | inr s => exact .str s
section
variable {X : Cx} {T : List (Addr × Str)} {δ : Dn} {w : Wp} {pos : Pos} {C CB : Addr}
theorem pd_mkS {e : Expr} {p : Pos} {κ : D → Wp → Prop} (G : HasMk X.prog X.w X.K X.mg X.base T (L2.CX X.prog X.w) "Split" C 4 ["self", "marks"] (spInit C CB)) (hr : Room 5 X.A)
    (h : PD X T Wf noX e δ w fun d w1 => ∃ ms : List Int, d = .lst (ms.map I) ∧ 1 ≤ ms.length ∧ ms.length ≤ 12 ∧ κ (spl C (lowN ms)) w1)
    (hg : Gl X "Split" := by rfl) (he : starEach (e :: []) X.env = (false, eval e X.env) :: starEach [] X.env := by rfl) (hpl : (backTo pos (starEach [] X.env)).any (·.1) = false := by rfl) : PD X T Wf noX (.Call (.Name "Split" p) [e] [] pos) δ w κ := by
  refine pd_hasmk G hr (fun _ => passLf) ?_ hg (by decide) he hpl
  refine pad_cons (h.imp ?_) he
  rintro d w1 ⟨ms, rfl, h1, h12, k⟩
  refine pad_nil ?_
  intro a dx ha
  refine ⟨a, dx, _, ms, rfl, wu_same, .inl rfl, by omega, fun _ => ⟨rfl, _, _, wu_same, ?_⟩, fun z => absurd ⟨h1, h12⟩ z⟩
  rw [wu_wu, wd_wu ha, eo_spl]
  exact k
end
section
variable {P : Program} {w : PySem.World} {K : PySem.W.Frag} {mg : Str → Option Value} {base : Heap} {T : List (Addr × Str)} {C CM CU CE CT CB : Addr}
theorem scLaw : FnScope NL ["script"] (defScope sLaw) := ⟨rfl, rfl, rfl, by decide +kernel, rfl, by decide +kernel, by decide +kernel⟩
theorem ok_law {f : Addr} {fd : FuncData} (G : Fun K "law" "law" sLaw f fd) (hm : Nm2 mg) (c : SplC K C)
    (hSt : HasF P w K mg base T CX0 "_law_start" 1 ["script"] spStart) (hT : HasF P w K mg base T CX0 "_law_take" 1 ["bag", "many"] spTake) (hL : HasF P w K mg base T CX0 "_law_low" 1 ["marks"] spLow)
    (hW : HasF P w K mg base T CX0 "_law_words" 2 ["bag", "many"] spWds) (hS : ∀ n, HasF P w K mg base T CX0 "_law_same" (n + 1) ["actual", "due"] (spSame n))
    (hLP : HasF P w K mg base T CX0 "_law_parted" 2 ["low", "words"] spLPa) (hLM : HasF P w K mg base T CX0 "_law_merged" 1 ["low", "one", "two"] spLMe)
    (hSh : HasG P w K mg base T CX0 "_law_shown" 10 ["split", "low"] (spShn C)) (hTx : HasG P w K mg base T CX0 "_law_texts" 13 ["bag", "low"] (spTxs C)) (hRe : HasF P w K mg base T CX0 "_law_refused" 10 ["bag", "split", "many"] (spRfd C))
    (hP : HasM P w K mg base T (L2.CX P w) C "parted" 6 ["self", "words"] (spParted C CM)) (hM : HasM P w K mg base T (L2.CX P w) C "merged" 6 ["self", "first", "second"] (spMrg C CU))
    (hMk : HasMk P w K mg base T (L2.CX P w) "Split" C 4 ["self", "marks"] (spInit C CB)) :
    FnG P w K mg base CX0 15 f fd ["script"] (spOf K T spLaw) := by
  refine fnGD G scLaw (fun ds w κ χ h => ?_) (fun cdv A outer s H E ds w0 κ χ hA hr h => ?_)
  · obtain ⟨ns, rfl, _⟩ := h
    rfl
  obtain ⟨ns, rfl, _, k⟩ := h
  have nd := scLaw.nd
  obtain ⟨fh, fdh, gh, gh2, gh3, gh4⟩ := hSh
  obtain ⟨ft, fdt, gt, gt2, gt3, gt4⟩ := hTx
  refine pssd_cons (psd_set (i := 1) nd rfl ?_)
  refine pd_has hSt (hr.mono (by decide)) (fun _ => pass0At) ?_
  refine pad_cons ?_
  (refine pd_var (i := 0) rfl rfl ?_)
  refine pad_nil ?_
  refine ⟨ns, rfl, fun a r ha hra ne => ?_⟩
  have hB : ∀ b, BagAt (bagPut w0 a r b) a r b := fun b => bag_put ne
  have pp : ∀ b b', bagPut (bagPut w0 a r b) a r b' = bagPut w0 a r b' := fun b b' => bag_put2 ne
  refine pssd_cons (psd_set (i := 2) nd rfl ?_)
  refine pd_op op_add ?_
  refine pd_int ?_
  refine pd_take hT (hr.mono (by decide)) (i := 1) rfl rfl (hB _) ?_
  refine pd_int ?_
  refine ⟨rfl, _, rfl, by decide, by decide, fun m0 b1 g0 g1 => ?_⟩
  rw [pp]
  refine vr_I ?_
  have rest : ∀ (n : Nat) (b : Bag), 1 ≤ n → n ≤ 12 → PSsD (cxOf CX0 P w K mg base NL "law" (defScope sLaw) f cdv A outer s H E).nox T Wf noX ((defBody sLaw).drop 3) [some (.rd (ns.map I)), some (R a), some (I (n : Int)), none, none, none, none, none, none, none, none, none, none, none, none, none, none, none, none] (bagPut w0 a r b) { nx := fun _ w' => κ DL.N w', rt := κ } := by
    intro n b hn1 hn2
    have hlg : ((n : Int)).natAbs.log2 < 9000 := Nat.lt_trans (log_of (Nat.lt_of_lt_of_le (by omega : _ < 2000) (by decide))) (by decide)
    refine pssd_cons (psd_set (i := 3) nd rfl ?_)
    refine pd_op op_add ?_
    refine pd_int ?_
    refine pd_take hT (hr.mono (by decide)) (i := 1) rfl rfl (hB _) ?_
    (refine pd_var (i := 2) rfl rfl ?_)
    refine ⟨rfl, _, rfl, by omega, hlg, fun kd b2 k0 k1 => ?_⟩
    rw [pp]
    refine vr_I ?_
    refine pssd_cons ?_
    refine psd_setLc (i := 4) (own := [("k", 18)]) (is := [18]) rfl nd rfl rfl (sw_true rfl rfl rfl (by decide +kernel)) (blkOk_by rfl) (by decide) ?_
    refine it_range hm.range ?_
    (refine pd_var (i := 2) rfl rfl ?_)
    refine ⟨n, rfl, by omega, ?_⟩
    refine ⟨by rw [ups_len]; exact small1000 (by omega), fun i acc w' => ∃ (b' : Bag) (ms : List Int), w' = bagPut w0 a r b' ∧ acc = ms.map I ∧ ms.length = i, ⟨b2, [], rfl, rfl, rfl⟩, ?_, ?_⟩
    · rintro i d acc w' hd ⟨b', ms, rfl, rfl, hl2⟩ s H0 C1 cl1 fp1
      obtain ⟨hi, rfl⟩ := ups_at hd
      refine pgl_name nd rfl ?_
      intro s H0 C1 cl1 fp1
      refine ptsd_nil ?_
      intro s H0 C1 cl1 fp1
      refine pd_take hT (hr.mono (by decide)) (i := 1) rfl rfl (hB b') ?_
      (refine pd_var (i := 3) rfl rfl ?_)
      refine ⟨rfl, _, rfl, by omega, Nat.lt_trans (log_of (Nat.lt_of_lt_of_le (by omega : _ < 2000) (by decide))) (by decide), fun y b3 g2 g3 => ?_⟩
      rw [pp]
      exact ⟨b3, ms ++ [y], rfl, by rw [List.map_append]; rfl, by rw [List.length_append, hl2]; rfl⟩
    rintro acc w' ⟨b3, ms, rfl, rfl, hms⟩
    rw [ups_len] at hms
    refine pssd_cons (psd_set (i := 5) nd rfl ?_)
    refine pd_has hL (hr.mono (by decide)) (fun _ => pass0At) ?_
    refine pad_cons ?_
    (refine pd_var (i := 4) rfl rfl ?_)
    refine pad_nil ?_
    refine ⟨ms, rfl, by omega, ?_⟩
    have hlow : IsLow (lowN ms) := by
      rw [lowN_G]
      exact low_isLow _
    have hll : (lowN ms).length = n := (low_len ms).trans hms
    generalize hlo : lowN ms = lo at hlow hll
    refine pssd_cons (psd_set (i := 6) nd rfl ?_)
    refine pd_has hW (hr.mono (by decide)) (fun _ => pass0At) ?_
    refine pad_cons ?_
    (refine pd_var (i := 1) rfl rfl ?_)
    refine pad_cons ?_
    (refine pd_var (i := 2) rfl rfl ?_)
    refine pad_nil ?_
    refine ⟨a, r, b3, n, rfl, hB b3, hn2, fun ks b4 hks hok => ?_⟩
    rw [pp]
    refine pssd_cons (psd_set (i := 7) nd rfl ?_)
    refine pd_take hT (hr.mono (by decide)) (i := 1) rfl rfl (hB _) ?_
    (refine pd_var (i := 2) rfl rfl ?_)
    refine ⟨rfl, _, rfl, by omega, hlg, fun one b5 o0 o1 => ?_⟩
    rw [pp]
    obtain ⟨one, rfl⟩ := Int.eq_ofNat_of_zero_le o0
    refine pssd_cons (psd_set (i := 8) nd rfl ?_)
    refine pd_take hT (hr.mono (by decide)) (i := 1) rfl rfl (hB _) ?_
    (refine pd_var (i := 2) rfl rfl ?_)
    refine ⟨rfl, _, rfl, by omega, hlg, fun two b6 t0 t1 => ?_⟩
    rw [pp]
    obtain ⟨two, rfl⟩ := Int.eq_ofNat_of_zero_le t0
    have hi : one < lo.length := by omega
    have hj : two < lo.length := by omega
    refine pssd_cons (psd_set (i := 9) nd rfl ?_)
    refine pd_mkS hMk (hr.mono (by decide)) ?_
    refine pd_callTy call_list_of rfl hm.list bt_list ?_
    refine pad_cons ?_
    (refine pd_var (i := 4) rfl rfl ?_)
    refine pad_nil ?_
    refine va_listS ?_
    refine ⟨ms, rfl, by omega, by omega, ?_⟩
    rw [hlo]
    refine pssd_as [some (.rd (ns.map I)), some (R a), some (I (n : Int)), some (I (1 + kd)), some (.lst (ms.map I)), some (nats lo), some (.lst (ks.map kD)), some (I (one : Int)), some (I (two : Int)), some (spl C lo), none, none, none, none, none, none, none, none, none] rfl ?_
    refine pssd_cons (psd_set (i := 10) nd rfl ?_)
    refine pd_callTy call_list_of rfl hm.list bt_list ?_
    refine pad_cons ?_
    (refine pd_var (i := 6) rfl rfl ?_)
    refine pad_nil ?_
    refine va_listO fun q hq => ?_
    have hkl : ks.length = lo.length := by omega
    have hpl : (lowK (pairK lo ks)).length = lo.length := by rw [lowK_len, pair_len hkl]
    have hpI := lowK_low (pairK lo ks)
    have hmI := merge_low hlow hi hj
    have hml : (mergeN lo one two).length = lo.length := merge_len lo one two
    refine pssd_cons (psd_set (i := 11) nd rfl ?_)
    refine pd_hasm c.cl hP (hr.mono (by decide)) (fun _ => passLf) ?_
    (refine pd_var (i := 9) rfl rfl ?_)
    refine ⟨ins_spl (by decide), ?_⟩
    refine pad_cons ?_
    (refine pd_var (i := 10) rfl rfl ?_)
    refine pad_nil ?_
    refine ⟨lo, ks, _, rfl, .inr ⟨q, rfl, wu_same⟩, by omega, by omega, by omega, fun _ => ?_, fun z => absurd hkl z⟩
    refine pssd_cons (psd_if ?_)
    refine ptd_not ?_
    refine ptd_val ?_
    refine pd_has (hS 1) (hr.mono (by decide)) (fun _ => pass0At) ?_
    refine pad_cons ?_
    (refine pd_var (i := 10) rfl rfl ?_)
    refine pad_cons ?_
    (refine pd_var (i := 6) rfl rfl ?_)
    refine pad_nil ?_
    refine ⟨_, _, rfl, .inr ⟨q, _, rfl, wu_same, sm_kDs (by omega)⟩, ?_⟩
    refine ⟨_, rfl, ?_⟩
    refine iteF ?_
    refine pssd_nil ?_
    refine pssd_cons (psd_expr ?_)
    refine pd_bm0 PySem.F.plainAttrs_list PySem.F.slot_list_reverse PySem.F.type_list_reverse mt_reverse ?_
    (refine pd_var (i := 10) rfl rfl ?_)
    refine ⟨⟨rfl, _, wu_same⟩, ?_⟩
    refine vm_reverse wu_same ?_
    rw [wu_wu]
    obtain ⟨y1, g1⟩ := at_lt (show n - 1 < ks.length by omega)
    refine pssd_cons (psd_sub set_list ?_)
    refine pd_ix ix_list ?_
    (refine pd_var (i := 6) rfl rfl ?_)
    refine pd_op op_sub ?_
    (refine pd_var (i := 2) rfl rfl ?_)
    refine pd_int ?_
    refine vr_I ?_
    rw [show (n : Int) - 1 = ((n - 1 : Nat) : Int) by omega]
    refine vr_ixL (i := n - 1) (kD_at g1) ?_
    (refine pd_var (i := 10) rfl rfl ?_)
    refine pd_int ?_
    refine vr_setO (i := 0) wu_same (by rw [List.length_reverse, List.length_map]; omega) ?_
    rw [wu_wu]
    refine pssd_drop q ?_
    rw [wd_wu hq]
    refine pssd_cons (psd_set (i := 12) nd rfl ?_)
    refine pd_hasm c.cl hM (hr.mono (by decide)) (fun _ => passLf) ?_
    (refine pd_var (i := 9) rfl rfl ?_)
    refine ⟨ins_spl (by decide), ?_⟩
    refine pad_cons ?_
    (refine pd_var (i := 7) rfl rfl ?_)
    refine pad_cons ?_
    (refine pd_var (i := 8) rfl rfl ?_)
    refine pad_nil ?_
    refine ⟨lo, _, _, rfl, hlow, by omega, by omega, fun i' j' e1 e2 h1 h2 => ?_, fun z => absurd ⟨by omega, by omega⟩ z, fun _ z => absurd ⟨by omega, by omega⟩ z⟩
    obtain rfl : one = i' := by omega
    obtain rfl : two = j' := by omega
    refine pssd_cons (psd_set (i := 13) nd rfl ?_)
    refine pd_hasm c.cl hM (hr.mono (by decide)) (fun _ => passLf) ?_
    (refine pd_var (i := 11) rfl rfl ?_)
    refine ⟨ins_spl (by decide), ?_⟩
    refine pad_cons ?_
    (refine pd_var (i := 7) rfl rfl ?_)
    refine pad_cons ?_
    (refine pd_var (i := 8) rfl rfl ?_)
    refine pad_nil ?_
    refine ⟨lowK (pairK lo ks), _, _, rfl, hpI, by omega, by omega, fun i' j' e1 e2 h1 h2 => ?_, fun z => absurd ⟨by omega, by omega⟩ z, fun _ z => absurd ⟨by omega, by omega⟩ z⟩
    obtain rfl : one = i' := by omega
    obtain rfl : two = j' := by omega
    refine pssd_cons (psd_set (i := 14) nd rfl ?_)
    refine pd_hasm c.cl hP (hr.mono (by decide)) (fun _ => passLf) ?_
    (refine pd_var (i := 12) rfl rfl ?_)
    refine ⟨ins_spl (by decide), ?_⟩
    refine pad_cons ?_
    refine pd_callTy call_list_of rfl hm.list bt_list ?_
    refine pad_cons ?_
    (refine pd_var (i := 6) rfl rfl ?_)
    refine pad_nil ?_
    refine va_listS ?_
    refine pad_nil ?_
    refine ⟨mergeN lo one two, ks, _, rfl, .inl rfl, by omega, by omega, by omega, fun _ => ?_, fun z => absurd (by omega) z⟩
    refine pssd_as [some (.rd (ns.map I)), some (R a), some (I (n : Int)), some (I (1 + kd)), some (.lst (ms.map I)), some (nats lo), some (.lst (ks.map kD)), some (I (one : Int)), some (I (two : Int)), some (spl C lo), some (R q), some (spl C (lowK (pairK lo ks))), some (spl C (mergeN lo one two)), some (spl C (mergeN (lowK (pairK lo ks)) one two)), some (spl C (lowK (pairK (mergeN lo one two) ks))), none, none, none, none] rfl ?_
    have hBn : ∀ b', BagAt (bagPut w0 a r b') a r b' := hB
    -- rows
    refine pssd_cons (psd_set (i := 15) nd rfl ?_)
    refine pd_lst ?_
    refine pad_cons ?_
    refine pd_has hLP (hr.mono (by decide)) (fun _ => pass0At) ?_
    refine pad_cons ?_
    (refine pd_var (i := 5) rfl rfl ?_)
    refine pad_cons ?_
    (refine pd_var (i := 6) rfl rfl ?_)
    refine pad_nil ?_
    refine ⟨lo, ks, rfl, by omega, hkl, hok, ?_⟩
    refine pad_cons ?_
    refine pd_has hLM (hr.mono (by decide)) (fun _ => pass0At) ?_
    refine pad_cons ?_
    (refine pd_var (i := 5) rfl rfl ?_)
    refine pad_cons ?_
    (refine pd_var (i := 7) rfl rfl ?_)
    refine pad_cons ?_
    (refine pd_var (i := 8) rfl rfl ?_)
    refine pad_nil ?_
    refine ⟨lo, one, two, rfl, by omega, hi, hj, ?_⟩
    refine pad_nil ⟨by show 2 ≤ sizeLine; decide, ?_⟩
    refine pssd_cons (psd_set (i := 15) nd rfl ?_)
    refine pd_op op_cat ?_
    (refine pd_var (i := 15) rfl rfl ?_)
    refine pd_lst ?_
    refine pad_cons ?_
    refine pd_has hLM (hr.mono (by decide)) (fun _ => pass0At) ?_
    refine pad_cons ?_
    refine pd_ix ix_list ?_
    (refine pd_var (i := 15) rfl rfl ?_)
    refine pd_int ?_
    refine vr_ixL (i := 0) rfl ?_
    refine pad_cons ?_
    (refine pd_var (i := 7) rfl rfl ?_)
    refine pad_cons ?_
    (refine pd_var (i := 8) rfl rfl ?_)
    refine pad_nil ?_
    refine ⟨_, one, two, rfl, by omega, by omega, by omega, ?_⟩
    refine pad_cons ?_
    refine pd_has hLP (hr.mono (by decide)) (fun _ => pass0At) ?_
    refine pad_cons ?_
    refine pd_ix ix_list ?_
    (refine pd_var (i := 15) rfl rfl ?_)
    refine pd_int ?_
    refine vr_ixL (i := 1) rfl ?_
    refine pad_cons ?_
    (refine pd_var (i := 6) rfl rfl ?_)
    refine pad_nil ?_
    refine ⟨_, ks, rfl, by omega, by omega, hok, ?_⟩
    refine pad_cons ?_
    (refine pd_var (i := 5) rfl rfl ?_)
    refine pad_nil ⟨by show 3 ≤ sizeLine; decide, ?_⟩
    refine vr_cat (by show 2 + 3 ≤ sizeLine; decide) ?_
    refine pssd_cons (psd_set (i := 16) nd rfl ?_)
    refine pd_take hT (hr.mono (by decide)) (i := 1) rfl rfl (hB _) ?_
    (refine pd_var (i := 2) rfl rfl ?_)
    refine ⟨rfl, _, rfl, by omega, hlg, fun thr b7 t2 t3 => ?_⟩
    rw [pp]
    obtain ⟨thr, rfl⟩ := Int.eq_ofNat_of_zero_le t2
    have hk3 : thr < lo.length := by omega
    have hrl : ks.reverse.length = lo.length := by rw [List.length_reverse]; exact hkl
    have er : (ks.map kD).reverse = ks.reverse.map kD := List.map_reverse.symm
    have hm2 := merge_low hlow hj hk3
    refine pssd_cons (psd_set (i := 15) nd rfl ?_)
    refine pd_op op_cat ?_
    (refine pd_var (i := 15) rfl rfl ?_)
    refine pd_lst ?_
    refine pad_cons ?_
    refine pd_has hLP (hr.mono (by decide)) (fun _ => pass0At) ?_
    refine pad_cons ?_
    (refine pd_var (i := 5) rfl rfl ?_)
    refine pad_cons ?_
    refine pd_revL ?_
    (refine pd_var (i := 6) rfl rfl ?_)
    refine ⟨_, .inl rfl, ?_⟩
    rw [er]
    refine pad_nil ?_
    refine ⟨lo, ks.reverse, rfl, by omega, hrl, fun y hy => hok y (List.mem_reverse.mp hy), ?_⟩
    refine pad_cons ?_
    refine pd_has hLM (hr.mono (by decide)) (fun _ => pass0At) ?_
    refine pad_cons ?_
    (refine pd_var (i := 5) rfl rfl ?_)
    refine pad_cons ?_
    (refine pd_var (i := 8) rfl rfl ?_)
    refine pad_cons ?_
    (refine pd_var (i := 16) rfl rfl ?_)
    refine pad_nil ?_
    refine ⟨lo, two, thr, rfl, by omega, hj, hk3, ?_⟩
    refine pad_nil ⟨by show 2 ≤ sizeLine; decide, ?_⟩
    refine vr_cat (by show 5 + 2 ≤ sizeLine; decide) ?_
    refine pssd_cons (psd_set (i := 17) nd rfl ?_)
    refine pd_lst ?_
    refine pad_cons ?_
    (refine pd_var (i := 11) rfl rfl ?_)
    refine pad_cons ?_
    (refine pd_var (i := 12) rfl rfl ?_)
    refine pad_cons ?_
    (refine pd_var (i := 13) rfl rfl ?_)
    refine pad_cons ?_
    (refine pd_var (i := 14) rfl rfl ?_)
    refine pad_cons ?_
    (refine pd_var (i := 9) rfl rfl ?_)
    refine pad_cons ?_
    refine pd_hasm c.cl hP (hr.mono (by decide)) (fun _ => passLf) ?_
    (refine pd_var (i := 9) rfl rfl ?_)
    refine ⟨ins_spl (by decide), ?_⟩
    refine pad_cons ?_
    refine pd_revL ?_
    (refine pd_var (i := 6) rfl rfl ?_)
    refine ⟨_, .inl rfl, ?_⟩
    rw [er]
    refine pad_nil ?_
    refine ⟨lo, ks.reverse, _, rfl, .inl rfl, by omega, by omega, by omega, fun _ => ?_, fun z => absurd hrl z⟩
    refine pad_cons ?_
    refine pd_hasm c.cl hM (hr.mono (by decide)) (fun _ => passLf) ?_
    (refine pd_var (i := 9) rfl rfl ?_)
    refine ⟨ins_spl (by decide), ?_⟩
    refine pad_cons ?_
    (refine pd_var (i := 8) rfl rfl ?_)
    refine pad_cons ?_
    (refine pd_var (i := 16) rfl rfl ?_)
    refine pad_nil ?_
    refine ⟨lo, _, _, rfl, hlow, by omega, by omega, fun i' j' e1 e2 h1 h2 => ?_, fun z => absurd ⟨by omega, by omega⟩ z, fun _ z => absurd ⟨by omega, by omega⟩ z⟩
    obtain rfl : two = i' := by omega
    obtain rfl : thr = j' := by omega
    refine pad_nil ⟨by show 7 ≤ sizeLine; decide, ?_⟩
    -- the loops
    obtain ⟨los, hlos⟩ : ∃ los : List (List Nat), los = [lowK (pairK lo ks), mergeN lo one two, mergeN (lowK (pairK lo ks)) one two, lowK (pairK (mergeN lo one two) ks), lo, lowK (pairK lo ks.reverse), mergeN lo two thr] := ⟨_, rfl⟩
    have hall : ∀ l ∈ los, IsLow l ∧ l.length = lo.length := by
      rw [hlos]
      intro l hl
      simp only [List.mem_cons, List.not_mem_nil, or_false] at hl
      rcases hl with rfl | rfl | rfl | rfl | rfl | rfl | rfl
      · exact ⟨hpI, hpl⟩
      · exact ⟨hmI, hml⟩
      · exact ⟨merge_low hpI (by omega) (by omega), (merge_len _ _ _).trans hpl⟩
      · exact ⟨lowK_low _, by rw [lowK_len, pair_len (by omega)]; exact hml⟩
      · exact ⟨hlow, rfl⟩
      · exact ⟨lowK_low _, by rw [lowK_len, pair_len hrl]⟩
      · exact ⟨hm2, merge_len _ _ _⟩
    have h7 : los.length = 7 := by rw [hlos]; rfl
    refine pssd_as [some (.rd (ns.map I)), some (R a), some (I (n : Int)), some (I (1 + kd)), some (.lst (ms.map I)), some (nats lo), some (.lst (ks.map kD)), some (I (one : Int)), some (I (two : Int)), some (spl C lo), some (R q), some (spl C (lowK (pairK lo ks))), some (spl C (mergeN lo one two)), some (spl C (mergeN (lowK (pairK lo ks)) one two)), some (spl C (lowK (pairK (mergeN lo one two) ks))), some (.lst (los.map nats)), some (I (thr : Int)), some (.lst (los.map (spl C))), none] (by rw [hlos]; rfl) ?_
    clear hlos
    refine pssd_cons (psd_for PassesOwn.never rfl ?_)
    refine it_range hm.range ?_
    refine pd_int ?_
    refine ⟨7, rfl, by decide, ?_⟩
    refine ⟨fun i δ' w' => (∃ x, δ' = [some (.rd (ns.map I)), some (R a), some (I (n : Int)), some (I (1 + kd)), some (.lst (ms.map I)), some (nats lo), some (.lst (ks.map kD)), some (I (one : Int)), some (I (two : Int)), some (spl C lo), some (R q), some (spl C (lowK (pairK lo ks))), some (spl C (mergeN lo one two)), some (spl C (mergeN (lowK (pairK lo ks)) one two)), some (spl C (lowK (pairK (mergeN lo one two) ks))), some (.lst (los.map nats)), some (I (thr : Int)), some (.lst (los.map (spl C))), x]) ∧ w' = _, ⟨⟨_, rfl⟩, rfl⟩, ?_, ?_⟩
    · rintro i d δ' w' hd ⟨⟨x, rfl⟩, rfl⟩
      obtain ⟨hi7, rfl⟩ := ups_at hd
      obtain ⟨l, hl⟩ := at_lt (show i < los.length by omega)
      have e1 : (los.map (spl C))[i]? = some (spl C l) := by rw [List.getElem?_map, hl]; rfl
      have e2 : (los.map nats)[i]? = some (nats l) := by rw [List.getElem?_map, hl]; rfl
      obtain ⟨l1, l2⟩ := hall l (List.mem_of_getElem? hl)
      refine pgd_name (i := 18) nd rfl ?_
      refine pssd_one (psd_if ?_)
      refine ptd_not ?_
      refine ptd_val ?_
      refine pd_callG gh hA (hr.mono (by decide)) gh2 gh3 gh4 (fun _ => pass0At) ?_
      refine pad_cons ?_
      refine pd_ix ix_list ?_
      refine pd_var (i := 17) rfl rfl ?_
      refine pd_var (i := 18) rfl rfl ?_
      refine vr_ixL e1 ?_
      refine pad_cons ?_
      refine pd_ix ix_list ?_
      refine pd_var (i := 15) rfl rfl ?_
      refine pd_var (i := 18) rfl rfl ?_
      refine vr_ixL e2 ?_
      refine pad_nil ?_
      refine ⟨l, rfl, l1, by omega, by omega, ?_⟩
      refine ⟨_, rfl, ?_⟩
      refine iteF ?_
      exact pssd_nil ⟨⟨_, rfl⟩, rfl⟩
    rintro δ' w' ⟨⟨x, rfl⟩, rfl⟩
    refine pssd_cons (psd_if ?_)
    refine pwd_pt ?_
    refine pwd_or ?_
    refine ptd_not ?_
    refine ptd_val ?_
    refine pd_callG gt hA (hr.mono (by decide)) gt2 gt3 gt4 (fun _ => pass0At) ?_
    refine pad_cons ?_
    (refine pd_var (i := 1) rfl rfl ?_)
    refine pad_cons ?_
    (refine pd_var (i := 5) rfl rfl ?_)
    refine pad_nil ?_
    refine ⟨a, r, _, lo, rfl, hB _, hlow, by omega, by omega, fun b8 => ?_⟩
    rw [pp]
    refine ⟨_, rfl, ?_⟩
    refine iteF ?_
    refine pwd_or1 ?_
    refine ptd_not ?_
    refine ptd_val ?_
    refine pd_has hRe (hr.mono (by decide)) (fun _ => pass0At) ?_
    refine pad_cons ?_
    (refine pd_var (i := 1) rfl rfl ?_)
    refine pad_cons ?_
    (refine pd_var (i := 9) rfl rfl ?_)
    refine pad_cons ?_
    (refine pd_var (i := 2) rfl rfl ?_)
    refine pad_nil ?_
    refine ⟨a, r, _, lo, by rw [hll], hB _, hlow, by omega, by omega, fun b9 => ?_⟩
    rw [pp]
    refine ⟨_, rfl, ?_⟩
    refine iteF ?_
    refine pssd_nil ?_
    refine pssd_cons (psd_for PassesOwn.never rfl ?_)
    refine it_range hm.range ?_
    refine pd_int ?_
    refine ⟨7, rfl, by decide, ?_⟩
    refine ⟨fun i δ' w' => (∃ x, δ' = [some (.rd (ns.map I)), some (R a), some (I (n : Int)), some (I (1 + kd)), some (.lst (ms.map I)), some (nats lo), some (.lst (ks.map kD)), some (I (one : Int)), some (I (two : Int)), some (spl C lo), some (R q), some (spl C (lowK (pairK lo ks))), some (spl C (mergeN lo one two)), some (spl C (mergeN (lowK (pairK lo ks)) one two)), some (spl C (lowK (pairK (mergeN lo one two) ks))), some (.lst (los.map nats)), some (I (thr : Int)), some (.lst (los.map (spl C))), x]) ∧ w' = _, ⟨⟨_, rfl⟩, rfl⟩, ?_, ?_⟩
    · rintro i d δ' w' hd ⟨⟨x, rfl⟩, rfl⟩
      obtain ⟨hi7, rfl⟩ := ups_at hd
      obtain ⟨l, hl⟩ := at_lt (show i < los.length by omega)
      have e1 : (los.map (spl C))[i]? = some (spl C l) := by rw [List.getElem?_map, hl]; rfl
      have e2 : (los.map nats)[i]? = some (nats l) := by rw [List.getElem?_map, hl]; rfl
      obtain ⟨l1, l2⟩ := hall l (List.mem_of_getElem? hl)
      refine pgd_name (i := 18) nd rfl ?_
      refine pssd_one (psd_if ?_)
      refine ptd_not ?_
      refine ptd_val ?_
      refine pd_callG gh hA (hr.mono (by decide)) gh2 gh3 gh4 (fun _ => pass0At) ?_
      refine pad_cons ?_
      refine pd_ix ix_list ?_
      refine pd_var (i := 17) rfl rfl ?_
      refine pd_var (i := 18) rfl rfl ?_
      refine vr_ixL e1 ?_
      refine pad_cons ?_
      refine pd_ix ix_list ?_
      refine pd_var (i := 15) rfl rfl ?_
      refine pd_var (i := 18) rfl rfl ?_
      refine vr_ixL e2 ?_
      refine pad_nil ?_
      refine ⟨l, rfl, l1, by omega, by omega, ?_⟩
      refine ⟨_, rfl, ?_⟩
      refine iteF ?_
      exact pssd_nil ⟨⟨_, rfl⟩, rfl⟩
    rintro δ' w' ⟨⟨x, rfl⟩, rfl⟩
    refine pssd_one (psd_ret ?_)
    exact pd_bl (k _)
  refine pssd_cons (psd_if ?_)
  refine ptd_cmp op_eq ?_
  refine pd_take hT (hr.mono (by decide)) (i := 1) rfl rfl (hB _) ?_
  refine pd_int ?_
  refine ⟨rfl, _, rfl, by decide, by decide, fun m1 b2 _ _ => ?_⟩
  rw [pp]
  refine pd_int ?_
  refine vr_eq rfl ?_
  refine ⟨_, rfl, ?_⟩
  refine ite2 (fun cc => ?_) (fun cc => ?_)
  · refine pssd_one (psd_set (i := 2) nd rfl ?_)
    refine pd_int ?_
    exact rest 12 b2 (by decide) (by decide)
  · refine pssd_nil ?_
    obtain ⟨n, hn⟩ : ∃ n : Nat, 1 + m0 = (n : Int) := ⟨(1 + m0).toNat, by omega⟩
    rw [hn]
    exact rest n b2 (by omega) (by omega)
end
end Tw

set_option Elab.async false
set_option linter.all false
set_option maxRecDepth 100000
set_option maxHeartbeats 2000000
namespace Tw
open PySem PySem.Spec PyProof.Rows L2 LamX DL
/-- a def of the top -/
def TopDef (K : PySem.W.Frag) (x : Str) (st : Stmt) : Prop := ∃ f fd, PySem.W.nsIn K mainGlobals x = some (some (.ref f)) ∧ Fun K x x st f fd
def MethDef (K : PySem.W.Frag) (C : Addr) (m qual : Str) (st : Stmt) : Prop := ∃ f fd, Meth K C m f ∧ Fun K m qual st f fd
def ErrDef (P : Program) (K : PySem.W.Frag) (C : Addr) (qual f : Str) (st : Stmt) : Prop := ∃ fI cc cda fd, SupTxt P K (fun _ => none) C fI cc cda qual st fd ∧ OexC K C ∧ PySem.W.findIn K (.ref C) f = some none ∧ PySem.W.findIn K (.ref C) "__init__" = some (some (.ref fI)) ∧ PySem.W.typeIn K (.ref fI) = some (.type "function")
abbrev free (K : PySem.W.Frag) (x : Str) : Prop := PySem.W.nsIn K mainGlobals x = some none
abbrev glob (K : PySem.W.Frag) (x : Str) (C : Addr) : Prop := PySem.W.nsIn K mainGlobals x = some (some (.ref C))
section
variable {P : Program} {w : PySem.World} {K : PySem.W.Frag} {mg : Str → Option Value} {base : Heap} {T : List (Addr × Str)} {C CB CU CT CM cc Pt : Addr} {h : Heap}
/-- of a def of the top -/
theorem has_of {CX : CXT} {x : Str} {st : Stmt} {k : Nat} {ps : List Str} {sp : SpD} (X : K.In h) (G : h.Ns mainGlobals mg) (d : TopDef K x st)
    (hb : ∀ (kV doc pm : Value) (an : Option Addr) (cdv ct : Value) (us : List Value), us.length = ps.length → bindArgs (PySem.W.fnOf x x (defArgs st) (defBody st) (defScope st) .none kV doc pm an cdv ct) ⟨us, []⟩ = pure (ps.zip us))
    (ok : ∀ f fd, Fun K x x st f fd → mg x = some (.ref f) → L2.Binds K fd ps [] → FnOk P w K mg base CX k f fd ps (spOf K T sp)) : HasF P w K mg base T CX x k ps sp := by
  obtain ⟨f, fd, h1, h2⟩ := d
  have hb' := h2.binds (ps := ps) hb
  exact ⟨f, fd, ok f fd h2 (PySem.W.mg_of X G h1) hb', PySem.W.mg_of X G h1, h2.kp, hb'⟩
theorem hasm_of {CX : CXT} {m qual : Str} {st : Stmt} {k : Nat} {ps : List Str} {sp : SpD} (d : MethDef K C m qual st)
    (hb : ∀ (kV doc pm : Value) (an : Option Addr) (cdv ct : Value) (us : List Value), us.length = ps.length → bindArgs (PySem.W.fnOf m qual (defArgs st) (defBody st) (defScope st) .none kV doc pm an cdv ct) ⟨us, []⟩ = pure (ps.zip us))
    (ok : ∀ f fd, Fun K m qual st f fd → FnOk P w K mg base CX k f fd ps (spOf K T sp)) : HasM P w K mg base T CX C m k ps sp := by
  obtain ⟨f, fd, h1, h2⟩ := d
  exact ⟨f, fd, ok f fd h2, h1, h2.binds (ps := ps) hb⟩
theorem hase_of {x qual f : Str} {st : Stmt} (X : K.In h) (G : h.Ns mainGlobals mg) (gx : glob K x C) (ns : free K "super") (d : ErrDef P K C qual f st)
    (hb : ∀ (cl : List (Str × Addr)) (kV doc pm : Value) (an : Option Addr) (cdv ct : Value) (us : List Value), us.length = 2 → bindArgs (PySem.W.fnX "__init__" qual (defArgs st) (defBody st) (defScope st) cl .none kV doc pm an cdv ct) ⟨us, []⟩ = pure ((["self", f] : List Str).zip us))
    (ok : ∀ fI cc cda fd, SupTxt P K mg C fI cc cda qual st fd → OexC K C → PySem.W.findIn K (.ref C) f = some none → FnOk P w K mg base CX0 1 fI fd ["self", f] (spX1 C f intFits)) : HasE P w K mg base x C 1 f := by
  obtain ⟨fI, cc, cda, fd, h1, h2, h3, h4, h5⟩ := d
  have h1' : SupTxt P K mg C fI cc cda qual st fd := ⟨h1.ex, h1.code, h1.cell, h1.along, h1.opq, h1.sub, h1.selfc, PySem.W.mg_none_of X G ns, h1.top⟩
  refine ⟨fI, fd, ok fI cc cda fd h1' h2 h3, PySem.W.mg_of X G gx, h2, h4, h5, ?_⟩
  obtain ⟨oc, od, kV, doc, pm, an, ct, osl, rfl, _, _⟩ := h1.ex
  exact .all (hb _ kV doc pm an _ ct)
abbrev qRef : Str := (("_law_refused" : Str) ++ ".<locals>.") ++ "<lambda>"
end
end Tw

set_option Elab.async false
set_option linter.all false
set_option maxRecDepth 100000
set_option maxHeartbeats 2000000
namespace Tw
open PySem PySem.Spec PyProof.Rows L2 LamX DL
def ErrDef2 (P : Program) (K : PySem.W.Frag) (C : Addr) (qual f g : Str) (st : Stmt) : Prop := ∃ fI cc cda fd, SupTxt P K (fun _ => none) C fI cc cda qual st fd ∧ OexC K C ∧ PySem.W.findIn K (.ref C) f = some none ∧ PySem.W.findIn K (.ref C) g = some none ∧ PySem.W.findIn K (.ref C) "__init__" = some (some (.ref fI)) ∧ PySem.W.typeIn K (.ref fI) = some (.type "function")
structure KF (P : Program) (K : PySem.W.Frag) (C CB CU CT CM CE cc Pt cc2 Pt2 : Addr) : Prop where
  gC : glob K "Split" C
  gB : glob K "BadSize" CB
  gU : glob K "UnknownCase" CU
  gT : glob K "ThinwallError" CT
  gM : glob K "SizeMismatch" CM
  gE : glob K "BadText" CE
  n_int : free K "int"
  n_str : free K "str"
  n_bool : free K "bool"
  n_list : free K "list"
  n_tuple : free K "tuple"
  n_len : free K "len"
  n_range : free K "range"
  n_enumerate : free K "enumerate"
  n_isinstance : free K "isinstance"
  n_super : free K "super"
  n_ValueError : free K "ValueError"
  n_reversed : free K "reversed"
  n_min : free K "min"
  n_max : free K "max"
  n_sorted : free K "sorted"
  n_zip : free K "zip"
  n_sum : free K "sum"
  n_repr : free K "repr"
  d1 : TopDef K "check_case" sCheck
  d2 : TopDef K "check_size" sSize
  d3 : TopDef K "first_places" sPlaces
  d4 : TopDef K "_place_of_word" sPlace
  d5 : TopDef K "_merged_marks" sMerged
  d6 : TopDef K "_law_start" sStart
  d7 : TopDef K "_law_take" sTake
  d8 : TopDef K "_law_same" sSame
  d9 : TopDef K "_law_low" sLow
  d10 : TopDef K "_law_text" sLTx
  d11 : TopDef K "_law_read" sLRd
  d12 : TopDef K "_law_swapped" sSwp
  d13 : TopDef K "_law_less" sLes
  d14 : TopDef K "_law_bent" sBnt
  d15 : TopDef K "_law_far" sFar
  d16 : TopDef K "_law_words" sWds
  d17 : TopDef K "_law_parted" sLPa
  d18 : TopDef K "_law_merged" sLMe
  d19 : TopDef K "_law_told" sTold
  d20 : TopDef K "_law_shown" sShn
  d21 : TopDef K "law" sLaw
  dRefused : ∃ f fd, PySem.W.nsIn K mainGlobals "_law_refused" = some (some (.ref f)) ∧ FunC K "_law_refused" "_law_refused" sRfd f fd (.ref cc)
  dTexts : ∃ f fd, PySem.W.nsIn K mainGlobals "_law_texts" = some (some (.ref f)) ∧ FunC K "_law_texts" "_law_texts" sTxs f fd (.ref cc2)
  m1 : MethDef K C "__init__" "Split.__init__" sInit
  m2 : MethDef K C "marks" "Split.marks" sMarks
  m3 : MethDef K C "cell" "Split.cell" sCell
  m4 : MethDef K C "cells" "Split.cells" sCells
  m5 : MethDef K C "parted" "Split.parted" sParted
  m6 : MethDef K C "merged" "Split.merged" sMrg
  m7 : MethDef K C "__eq__" "Split.__eq__" sEq
  m8 : MethDef K C "__str__" "Split.__str__" sStr
  m9 : MethDef K C "__repr__" "Split.__repr__" sRepr
  dRead : ∃ mc p g fd, ClX.CRead K C mc ∧ SMet K C mc "read" p g ∧ Fun K "read" "Split.read" sRead g fd
  makes : PySem.W.makesIn K C = true
  kpC : PySem.W.keepIn K (.ref C) = true
  splC : SplC K C
  splQ : SplQ K C
  most : ∃ mc u, ClX.CRead K C mc ∧ ClX.CVal K C mc "MOST" (.int 12) u
  eB : ErrDef P K CB "BadSize.__init__" "size" sBadSize
  eU : ErrDef P K CU "UnknownCase.__init__" "case" sUnkCase
  eM : ErrDef2 P K CM "SizeMismatch.__init__" "first" "second" sSizeMis
  eE : ErrDef P K CE "BadText.__init__" "text" sBadText
  xmm : PySem.W.exmOne K (.ref CM) (.ref CM) = some true
  xum : PySem.W.exmOne K (.ref CU) (.ref CM) = some false
  xuu : PySem.W.exmOne K (.ref CU) (.ref CU) = some true
  xem : PySem.W.exmOne K (.ref CE) (.ref CM) = some false
  xeu : PySem.W.exmOne K (.ref CE) (.ref CU) = some false
  xee : PySem.W.exmOne K (.ref CE) (.ref CE) = some true
  ecCM : L2.ExcC K CM
  ecCU : L2.ExcC K CU
  ecCE : L2.ExcC K CE
  xfCM : XfC K CM
  xfCU : XfC K CU
  xfCE : XfC K CE
  kMV : PySem.W.kitOne K (.ref CM) (.type "ValueError") = some true
  kME : PySem.W.kitOne K (.ref CM) (.ref CE) = some false
  kUV : PySem.W.kitOne K (.ref CU) (.type "ValueError") = some true
  kUE : PySem.W.kitOne K (.ref CU) (.ref CE) = some false
  kEV : PySem.W.kitOne K (.ref CE) (.type "ValueError") = some true
  kEU : PySem.W.kitOne K (.ref CE) (.ref CU) = some false
  neP : Pt ≠ Pt2
section
variable {P : Program} {w : PySem.World} {K : PySem.W.Frag} {mg : Str → Option Value} {base : Heap} {T : List (Addr × Str)} {C CB CU CT CM CE cc Pt cc2 Pt2 : Addr} {h : Heap}
theorem hase2_of {x qual f g : Str} {st : Stmt} (X : K.In h) (G : h.Ns mainGlobals mg) (gx : glob K x C) (ns : free K "super") (d : ErrDef2 P K C qual f g st)
    (hb : ∀ (cl : List (Str × Addr)) (kV doc pm : Value) (an : Option Addr) (cdv ct : Value) (us : List Value), us.length = 3 → bindArgs (PySem.W.fnX "__init__" qual (defArgs st) (defBody st) (defScope st) cl .none kV doc pm an cdv ct) ⟨us, []⟩ = pure ((["self", f, g] : List Str).zip us))
    (ok : ∀ fI cc cda fd, SupTxt P K mg C fI cc cda qual st fd → OexC K C → PySem.W.findIn K (.ref C) f = some none → PySem.W.findIn K (.ref C) g = some none → FnOk P w K mg base CX0 1 fI fd ["self", f, g] (spX2 C f g intFits)) : HasE2 P w K mg base x C 1 f g := by
  obtain ⟨fI, cc, cda, fd, h1, h2, h3, h3', h4, h5⟩ := d
  have h1' : SupTxt P K mg C fI cc cda qual st fd := ⟨h1.ex, h1.code, h1.cell, h1.along, h1.opq, h1.sub, h1.selfc, PySem.W.mg_none_of X G ns, h1.top⟩
  refine ⟨fI, fd, ok fI cc cda fd h1' h2 h3 h3', PySem.W.mg_of X G gx, h2, h4, h5, ?_⟩
  obtain ⟨oc, od, kV, doc, pm, an, ct, osl, rfl, _, _⟩ := h1.ex
  exact .all (hb _ kV doc pm an _ ct)
theorem haset_of {x qual f : Str} {st : Stmt} (X : K.In h) (G : h.Ns mainGlobals mg) (gx : glob K x C) (ns : free K "super") (d : ErrDef P K C qual f st)
    (hb : ∀ (cl : List (Str × Addr)) (kV doc pm : Value) (an : Option Addr) (cdv ct : Value) (us : List Value), us.length = 2 → bindArgs (PySem.W.fnX "__init__" qual (defArgs st) (defBody st) (defScope st) cl .none kV doc pm an cdv ct) ⟨us, []⟩ = pure ((["self", f] : List Str).zip us))
    (ok : ∀ fI cc cda fd, SupTxt P K mg C fI cc cda qual st fd → OexC K C → PySem.W.findIn K (.ref C) f = some none → FnOk P w K mg base CX0 1 fI fd ["self", f] (spX1 C f strFits)) : HasET P w K mg base x C 1 f := by
  obtain ⟨fI, cc, cda, fd, h1, h2, h3, h4, h5⟩ := d
  have h1' : SupTxt P K mg C fI cc cda qual st fd := ⟨h1.ex, h1.code, h1.cell, h1.along, h1.opq, h1.sub, h1.selfc, PySem.W.mg_none_of X G ns, h1.top⟩
  refine ⟨fI, fd, ok fI cc cda fd h1' h2 h3, PySem.W.mg_of X G gx, h2, h4, h5, ?_⟩
  obtain ⟨oc, od, kV, doc, pm, an, ct, osl, rfl, _, _⟩ := h1.ex
  exact .all (hb _ kV doc pm an _ ct)
abbrev qTex : Str := (("_law_texts" : Str) ++ ".<locals>.") ++ "<lambda>"
theorem all_mk {fa : Addr} (X : K.In h) (G : h.Ns mainGlobals mg) (F : KF P K C CB CU CT CM CE cc Pt cc2 Pt2) (hfa : mg "law" = some (.ref fa)) :
    ∃ fd : FuncData, (∀ (s : Shared) (us : List Value), us.length = (["script"] : List Str).length → BindsTo s fd ⟨us, []⟩ ((["script"] : List Str).zip us)) ∧
      ∀ base : Heap, TabB base mg cc Pt → TabB base mg cc2 Pt2 → FnG P w K mg base CX0 15 fa fd ["script"] (spOf K [(Pt, qRef), (Pt2, qTex)] spLaw) := by
  obtain ⟨fL, fdL, l1, l2⟩ := F.d21
  have e := hfa.symm.trans (PySem.W.mg_of X G l1)
  cases e
  have nn : ∀ {x : Str}, free K x → mg x = none := fun z => PySem.W.mg_none_of X G z
  have hm : Nm2 mg := ⟨nn F.n_int, nn F.n_str, nn F.n_bool, nn F.n_list, nn F.n_tuple, nn F.n_len, nn F.n_range, nn F.n_enumerate, nn F.n_isinstance⟩
  refine ⟨fdL, fun s us hu => ?_, fun base TB TB2 => ?_⟩
  · obtain ⟨oc, od, kV, doc, pm, an, cdv, ct, osl, rfl, _, _⟩ := l2.ex
    exact match us, hu with | [_], _ => .of_eq rfl
  generalize hT : [(Pt, qRef), (Pt2, qTex)] = T
  have mS := PySem.W.mg_of X G F.gC
  obtain ⟨mc, u, rC, vC⟩ := F.most
  have er : ErrT K mg CM CU CE CT := by
    obtain ⟨_, _, _, _, _, _, nf, ns, _, _⟩ := F.eM
    obtain ⟨_, _, _, _, _, _, nu, _, _⟩ := F.eU
    obtain ⟨_, _, _, _, _, _, ne, _, _⟩ := F.eE
    exact ⟨PySem.W.mg_of X G F.gM, PySem.W.mg_of X G F.gU, PySem.W.mg_of X G F.gE, PySem.W.mg_of X G F.gT, nn F.n_ValueError, F.xmm, F.xum, F.xuu, F.xem, F.xeu, F.xee, F.ecCM, F.ecCU, F.ecCE, F.xfCM, F.xfCU, F.xfCE, nf, ns, nu, ne, F.kMV, F.kME, F.kUV, F.kUE, F.kEV, F.kEU⟩
  have hEB : HasE P w K mg base "BadSize" CB 1 "size" := hase_of X G F.gB F.n_super F.eB (fun _ _ _ _ _ _ _ us hl => match us, hl with | [_, _], _ => rfl) fun _ _ _ _ a b c => ok_bs a b c
  have hEU : HasE P w K mg base "UnknownCase" CU 1 "case" := hase_of X G F.gU F.n_super F.eU (fun _ _ _ _ _ _ _ us hl => match us, hl with | [_, _], _ => rfl) fun _ _ _ _ a b c => ok_uc a b c
  have hEM : HasE2 P w K mg base "SizeMismatch" CM 1 "first" "second" := hase2_of X G F.gM F.n_super F.eM (fun _ _ _ _ _ _ _ us hl => match us, hl with | [_, _, _], _ => rfl) fun _ _ _ _ a b c d => ok_sm a b c d
  have hET : HasET P w K mg base "BadText" CE 1 "text" := haset_of X G F.gE F.n_super F.eE (fun _ _ _ _ _ _ _ us hl => match us, hl with | [_, _], _ => rfl) fun _ _ _ _ a b c => ok_bt a b c
  have hCk : HasF P w K mg base T (L2.CX P w) "check_case" 3 ["case", "size"] (spCheck CU) := has_of X G F.d1 (fun _ _ _ _ _ _ us hl => match us, hl with | [_, _], _ => rfl) fun _ _ g _ _ => ok_check g hEU
  have hSz : HasF P w K mg base T (L2.CX P w) "check_size" 3 ["size"] (spSize CB) := has_of X G F.d2 (fun _ _ _ _ _ _ us hl => match us, hl with | [_], _ => rfl) fun _ _ g _ _ => ok_size g hEB mS rC vC
  have hPl : HasF P w K mg base T CX0 "first_places" 3 ["items"] spPlaces := has_of X G F.d3 (fun _ _ _ _ _ _ us hl => match us, hl with | [_], _ => rfl) fun _ _ g _ _ => ok_places2 g hm (nn F.n_reversed)
  have hPT : HasF P w K mg base T CX0 "first_places" 3 ["items"] spPlacesT := has_of X G F.d3 (fun _ _ _ _ _ _ us hl => match us, hl with | [_], _ => rfl) fun _ _ g _ _ => ok_placesT g hm (nn F.n_reversed)
  have hPw : HasF P w K mg base T CX0 "_place_of_word" 1 ["cells", "word"] spPlace := has_of X G F.d4 (fun _ _ _ _ _ _ us hl => match us, hl with | [_, _], _ => rfl) fun _ _ g _ _ => ok_place g hm
  have hMg : HasF P w K mg base T CX0 "_merged_marks" 1 ["marks", "first", "second"] spMerged := has_of X G F.d5 (fun _ _ _ _ _ _ us hl => match us, hl with | [_, _, _], _ => rfl) fun _ _ g _ _ => ok_merged g (nn F.n_min) (nn F.n_max)
  have hSt : HasF P w K mg base T CX0 "_law_start" 1 ["script"] spStart := has_of X G F.d6 (fun _ _ _ _ _ _ us hl => match us, hl with | [_], _ => rfl) fun _ _ g _ _ => ok_start g hm.nm
  have hTk : HasF P w K mg base T CX0 "_law_take" 1 ["bag", "many"] spTake := has_of X G F.d7 (fun _ _ _ _ _ _ us hl => match us, hl with | [_, _], _ => rfl) fun _ _ g _ _ => ok_take g hm.nm
  have hSm : ∀ n, HasF P w K mg base T CX0 "_law_same" (n + 1) ["actual", "due"] (spSame n) := fun n => has_of X G F.d8 (fun _ _ _ _ _ _ us hl => match us, hl with | [_, _], _ => rfl) fun _ _ g m b => ok_same g hm m b n
  have hLo : HasF P w K mg base T CX0 "_law_low" 1 ["marks"] spLow := has_of X G F.d9 (fun _ _ _ _ _ _ us hl => match us, hl with | [_], _ => rfl) fun _ _ g _ _ => ok_low g
  have hLT : HasF P w K mg base T CX0 "_law_text" 1 ["low"] spLTx := has_of X G F.d10 (fun _ _ _ _ _ _ us hl => match us, hl with | [_], _ => rfl) fun _ _ g _ _ => ok_ltx g hm hm.str
  have hLR : HasF P w K mg base T CX0 "_law_read" 1 ["text"] spLRd := has_of X G F.d11 (fun _ _ _ _ _ _ us hl => match us, hl with | [_], _ => rfl) fun _ _ g _ _ => ok_lread g hm (nn F.n_sorted)
  have hSw : HasF P w K mg base T CX0 "_law_swapped" 1 ["text", "sign", "place"] spSwp := has_of X G F.d12 (fun _ _ _ _ _ _ us hl => match us, hl with | [_, _, _], _ => rfl) fun _ _ g _ _ => ok_swp g hm
  have hLe : HasF P w K mg base T CX0 "_law_less" 1 ["text", "sign", "place"] spSwp := has_of X G F.d13 (fun _ _ _ _ _ _ us hl => match us, hl with | [_, _, _], _ => rfl) fun _ _ g _ _ => ok_les g hm
  have hBn : HasF P w K mg base T CX0 "_law_bent" 2 ["bag", "text"] spBnt := has_of X G F.d14 (fun _ _ _ _ _ _ us hl => match us, hl with | [_, _], _ => rfl) fun _ _ g _ _ => ok_bnt g hm hTk hSw hLe
  have hFa : HasF P w K mg base T CX0 "_law_far" 2 ["bag", "many"] spFar := has_of X G F.d15 (fun _ _ _ _ _ _ us hl => match us, hl with | [_, _], _ => rfl) fun _ _ g _ _ => ok_far g hm hTk
  have hWd : HasF P w K mg base T CX0 "_law_words" 2 ["bag", "many"] spWds := has_of X G F.d16 (fun _ _ _ _ _ _ us hl => match us, hl with | [_, _], _ => rfl) fun _ _ g _ _ => ok_wds g hm hTk
  have hLP : HasF P w K mg base T CX0 "_law_parted" 2 ["low", "words"] spLPa := has_of X G F.d17 (fun _ _ _ _ _ _ us hl => match us, hl with | [_, _], _ => rfl) fun _ _ g _ _ => ok_lpa g hm
  have hLM : HasF P w K mg base T CX0 "_law_merged" 1 ["low", "one", "two"] spLMe := has_of X G F.d18 (fun _ _ _ _ _ _ us hl => match us, hl with | [_, _, _], _ => rfl) fun _ _ g _ _ => ok_lme g (nn F.n_min)
  have hMm : HasM P w K mg base T CX0 C "marks" 1 ["self"] (spMarks C) := hasm_of F.m2 (fun _ _ _ _ _ _ us hl => match us, hl with | [_], _ => rfl) fun _ _ g => ok_marks g hm F.splC
  have hCe : HasM P w K mg base T (L2.CX P w) C "cell" 4 ["self", "case"] (spCell C CU) := hasm_of F.m3 (fun _ _ _ _ _ _ us hl => match us, hl with | [_, _], _ => rfl) fun _ _ g => ok_cell g hm F.splC hCk
  have hCs : HasM P w K mg base T CX0 C "cells" 5 ["self"] (spCells C) := hasm_of F.m4 (fun _ _ _ _ _ _ us hl => match us, hl with | [_], _ => rfl) fun _ _ g => ok_cells g hm F.splC hCe
  have hEq : HasM P w K mg base T CX0 C "__eq__" 1 ["self", "other"] (spEq C) := hasm_of F.m7 (fun _ _ _ _ _ _ us hl => match us, hl with | [_, _], _ => rfl) fun _ _ g => ok_eq g hm F.splC F.splQ mS
  have hMk : HasMk P w K mg base T (L2.CX P w) "Split" C 4 ["self", "marks"] (spInit C CB) := by
    obtain ⟨f, fd, h1, h2⟩ := F.m1
    exact ⟨f, fd, ok_init h2 hm F.splC hSz hPl, mS, ⟨F.makes, h1.at_, h1.fn, F.kpC⟩, h2.binds (ps := ["self", "marks"]) fun _ _ _ _ _ _ us hl => match us, hl with | [_, _], _ => rfl⟩
  have hPa : HasM P w K mg base T (L2.CX P w) C "parted" 6 ["self", "words"] (spParted C CM) := hasm_of F.m5 (fun _ _ _ _ _ _ us hl => match us, hl with | [_, _], _ => rfl) fun _ _ g => ok_parted g hm (nn F.n_zip) F.splC hEM hPT hMk
  have hMr : HasM P w K mg base T (L2.CX P w) C "merged" 6 ["self", "first", "second"] (spMrg C CU) := hasm_of F.m6 (fun _ _ _ _ _ _ us hl => match us, hl with | [_, _, _], _ => rfl) fun _ _ g => ok_mrg g hm F.splC hCk hMg hMk
  have hStr : ∃ f fd, FnOk P w K mg base CX0 6 f fd ["self"] (spOf K T (spStr C)) ∧ PySem.W.findIn K (.ref C) "__str__" = some (some (.ref f)) ∧ PySem.W.isFn K (.ref f) = true ∧ L2.Binds K fd ["self"] [] := by
    obtain ⟨f, fd, h1, h2⟩ := F.m8
    exact ⟨f, fd, ok_str h2 hm.str F.splC hCs, h1.at_, h1.fn, h2.binds (ps := ["self"]) fun _ _ _ _ _ _ us hl => match us, hl with | [_], _ => rfl⟩
  have hRep : ∃ f fd, FnG P w K mg base CX0 1 f fd ["self"] (spOf K T (spRepr C)) ∧ PySem.W.findIn K (.ref C) "__repr__" = some (some (.ref f)) ∧ PySem.W.isFn K (.ref f) = true ∧ L2.Binds K fd ["self"] [] := by
    obtain ⟨f, fd, h1, h2⟩ := F.m9
    exact ⟨f, fd, ok_repr h2 F.splC, h1.at_, h1.fn, h2.binds (ps := ["self"]) fun _ _ _ _ _ _ us hl => match us, hl with | [_], _ => rfl⟩
  have hRd : HasRead P w K mg base T C CE := by
    obtain ⟨mc2, p, g, fd, h1, h2, h3⟩ := F.dRead
    exact ⟨mc2, p, g, fd, h1, h2, ok_read h3 hm hm.str (nn F.n_sum) mS rC vC hPw hET hMk hStr, h3.binds (ps := ["text"]) fun _ _ _ _ _ _ us hl => match us, hl with | [_], _ => rfl⟩
  have tOk : ToldOk K mg := by
    obtain ⟨g, fd, h1, h2⟩ := F.d19
    exact ⟨g, fd, h2, PySem.W.mg_of X G h1, h2.binds (ps := ["action"]) fun _ _ _ _ _ _ us hl => match us, hl with | [_], _ => rfl⟩
  have hRe : HasF P w K mg base T CX0 "_law_refused" 10 ["bag", "split", "many"] (spRfd C) := by
    obtain ⟨f, fd, h1, h2⟩ := F.dRefused
    have hb := h2.fun.binds (ps := ["bag", "split", "many"]) fun _ _ _ _ _ _ us hl => match us, hl with | [_, _, _], _ => rfl
    refine ⟨f, fd, ok_rfd h2 hm F.splC er tOk ⟨cc, Pt, TB, rfl, ?_, ?_⟩ hTk hFa (hSm 3) hPa hMr, PySem.W.mg_of X G h1, h2.kp, hb⟩
    · rw [← hT]
      exact List.mem_cons_self ..
    · intro p hp e
      rw [← hT] at hp
      rcases List.mem_cons.mp hp with rfl | hp
      · rfl
      · rw [List.mem_singleton.mp hp] at e
        exact absurd e.symm F.neP
  have hShn : HasG P w K mg base T CX0 "_law_shown" 10 ["split", "low"] (spShn C) := by
    obtain ⟨f, fd, h1, h2⟩ := F.d20
    exact ⟨f, fd, ok_shn h2 hm (nn F.n_repr) F.splC F.splQ mS hSm hLT hMm hEq hRd hStr hRep, PySem.W.mg_of X G h1, h2.kp, h2.binds (ps := ["split", "low"]) fun _ _ _ _ _ _ us hl => match us, hl with | [_, _], _ => rfl⟩
  have hTx : HasG P w K mg base T CX0 "_law_texts" 13 ["bag", "low"] (spTxs C) := by
    obtain ⟨f, fd, h1, h2⟩ := F.dTexts
    have hb := h2.fun.binds (ps := ["bag", "low"]) fun _ _ _ _ _ _ us hl => match us, hl with | [_, _], _ => rfl
    refine ⟨f, fd, ok_txs h2 hm F.splC mS er tOk ⟨cc2, Pt2, TB2, rfl, ?_, ?_⟩ hTk hSm hLT hBn hLR hRd hShn hStr, PySem.W.mg_of X G h1, h2.kp, hb⟩
    · rw [← hT]
      exact List.mem_cons_of_mem _ (List.mem_singleton.mpr rfl)
    · intro p hp e
      rw [← hT] at hp
      rcases List.mem_cons.mp hp with rfl | hp
      · exact absurd e F.neP
      · rw [List.mem_singleton.mp hp]
  exact ok_law l2 hm F.splC hSt hTk hLo hWd hSm hLP hLM hShn hTx hRe hPa hMr hMk
end
end Tw

set_option Elab.async false
set_option linter.all false
set_option maxRecDepth 100000
set_option maxHeartbeats 2000000
namespace Tw
open PySem PySem.Spec PyProof.Rows L2 LamX DL
theorem law_at {l : PySem.W.OpenLaw} {w : PySem.World} {K : PySem.W.Frag} {mg : Str → Option Value} {h : Heap} {fa C CB CU CT CM CE cc Pt cc2 Pt2 : Addr} {n : Nat} (X : K.In h) (G : h.Ns mainGlobals mg) (hfa : mg "law" = some (.ref fa)) (F : KF l.prog K C CB CU CT CM CE cc Pt cc2 Pt2)
    (hT : h.get? Pt = some { cls := .none, data := .fields #[] }) (hT2 : h.get? Pt2 = some { cls := .none, data := .fields #[] }) (nT : K.lookup Pt = none) (nT2 : K.lookup Pt2 = none) (hc : PySem.W.codeHdIn K cc Pt = true) (hc2 : PySem.W.codeHdIn K cc2 Pt2 = true) : LawAtG l w K CX0 15 n "script" mg fa h := by
  obtain ⟨fd, h1, h2⟩ := all_mk (P := l.prog) (w := w) X G F hfa
  refine ⟨fd, [(cc, Pt), (cc2, Pt2)], _, ⟨?_, ?_, ?_⟩, fun s u => h1 s [u] rfl, ?_, fun base _ _ TB => h2 base (TB _ (List.mem_cons_self ..)) (TB _ (List.mem_cons_of_mem _ (List.mem_singleton.mpr rfl)))⟩
  · intro p hp
    rcases List.mem_cons.mp hp with rfl | hp
    · exact hT
    · rw [List.mem_singleton.mp hp]
      exact hT2
  · intro p hp
    rcases List.mem_cons.mp hp with rfl | hp
    · exact nT
    · rw [List.mem_singleton.mp hp]
      exact nT2
  · intro p hp
    rcases List.mem_cons.mp hp with rfl | hp
    · exact PySem.W.codeHd_of_K X hc
    · rw [List.mem_singleton.mp hp]
      exact PySem.W.codeHd_of_K X hc2
  · intro H a ns _ hH hS
    have hPt : H Pt = some (.tbl #[]) := hH _ (List.mem_cons_self ..)
    have hPt2 : H Pt2 = some (.tbl #[]) := hH _ (List.mem_cons_of_mem _ (List.mem_singleton.mpr rfl))
    obtain ⟨S, hq, hs, hn⟩ : ∃ S : Hp, SqL K S a (ns.map V.int) ∧ Same S H ∧ ∀ b ps, S b ≠ some (.tbl ps) := by
      rcases hS with hr | hk
      · refine ⟨fun b => if b = a then H a else none, .inl ?_, fun b x q => ?_, fun b ps q => ?_⟩
        · rcases hr with e | ⟨ob, e⟩
          · exact .inl ((if_pos rfl).trans e)
          · exact .inr ⟨ob, (if_pos rfl).trans e⟩
        · have q' : (if b = a then H a else none) = some x := q
          by_cases e : b = a
          · rw [if_pos e] at q'
            rw [e]
            exact q'
          · rw [if_neg e] at q'
            cases q'
        · have q' : (if b = a then H a else none) = some (.tbl ps) := q
          by_cases e : b = a
          · rw [if_pos e] at q'
            rcases hr with e | ⟨ob, e⟩
            · rw [e] at q'
              cases q'
            · rw [e] at q'
              cases q'
          · rw [if_neg e] at q'
            cases q'
      · exact ⟨fun _ => none, .inr hk, (fun b x q => by cases q), fun b ps q => by cases q⟩
    have rl : ∀ l : List Int, RepL K S (l.map I) (l.map V.int) := by
      intro l
      induction l with
      | nil => rfl
      | cons x l ih => exact ⟨V.int x, _, rfl, rfl, ih⟩
    refine ⟨[.rd (ns.map I)], fun _ => none, fun _ => none, S, fun d _ => d = B true, noX, ⟨ns, rfl, ⟨0, 1, rfl, rfl, by decide⟩, fun _ => rfl⟩, ?_, ?_, ?_, fun _ _ _ _ _ _ _ z => z.elim⟩
    · exact ⟨.ref a, [], rfl, ⟨a, ns.map V.int, rfl, hq, rl ns⟩, rfl⟩
    · refine ⟨hs, hn, (fun b k q => by cases q), (fun b x q => by cases q), ?_, fun b ps q => by cases q⟩
      intro p hp
      rcases List.mem_cons.mp hp with rfl | hp
      · exact TabS.nil hPt
      · rw [List.mem_singleton.mp hp]
        exact TabS.nil hPt2
    · rintro d w' v S' H' rfl s1 W1 r
      exact r
end Tw

set_option Elab.async false
set_option linter.all false
open PySem PySem.W PyProof.Rows
set_option maxRecDepth 100000 in
set_option maxHeartbeats 0 in
theorem PySem.Challenge.cw_thinwall_k02_parted_merged_and_texts_holds : PySem.Challenge.rw_thinwall_k02_parted_merged_and_texts.Holds := by
  w_on; o_law; k_head; (case hw => w_witness2)
  k_fill
  refine DL.walk_ofG (l := PySem.Challenge.rw_thinwall_k02_parted_merged_and_texts) (n := 63) (k := 15) (CX := fun _ => L2.CX0) (x := "script") rfl (by decide) rfl ⟨rfl, by decide, by decide⟩ (fun w h Y => PySem.W.km_in_of Y) ?FF (fun _ _ _ _ _ z => z)
  intro w mg fa h Y X G hfa
  refine' Tw.law_at X G hfa ⟨?gC, ?gB, ?gU, ?gT, ?gM, ?gE, ?n_int, ?n_str, ?n_bool, ?n_list, ?n_tuple, ?n_len, ?n_range, ?n_enumerate, ?n_isinstance, ?n_super, ?n_ValueError, ?n_reversed, ?n_min, ?n_max, ?n_sorted, ?n_zip, ?n_sum, ?n_repr, ?d1, ?d2, ?d3, ?d4, ?d5, ?d6, ?d7, ?d8, ?d9, ?d10, ?d11, ?d12, ?d13, ?d14, ?d15, ?d16, ?d17, ?d18, ?d19, ?d20, ?d21, ?dRefused, ?dTexts, ?m1, ?m2, ?m3, ?m4, ?m5, ?m6, ?m7, ?m8, ?m9, ?dRead, ?makes, ?kpC, ?splC, ?splQ, ?most, ?eB, ?eU, ?eM, ?eE, ?xmm, ?xum, ?xuu, ?xem, ?xeu, ?xee, ?ecCM, ?ecCU, ?ecCE, ?xfCM, ?xfCU, ?xfCE, ?kMV, ?kME, ?kUV, ?kUE, ?kEV, ?kEU, ?neP⟩ (PySem.W.km_tabs_of Y 395 (by decide)) (PySem.W.km_tabs_of Y 390 (by decide)) ?nT ?nT2 ?hcd ?hcd2
  (case gC => (first | k_is | kit_is | ks_is | rfl | decide +kernel))
  (case gB => (first | k_is | kit_is | ks_is | rfl | decide +kernel))
  (case gU => (first | k_is | kit_is | ks_is | rfl | decide +kernel))
  (case gT => (first | k_is | kit_is | ks_is | rfl | decide +kernel))
  (case gM => (first | k_is | kit_is | ks_is | rfl | decide +kernel))
  (case gE => (first | k_is | kit_is | ks_is | rfl | decide +kernel))
  (case n_int => (first | k_is | kit_is | ks_is | rfl | decide +kernel))
  (case n_str => (first | k_is | kit_is | ks_is | rfl | decide +kernel))
  (case n_bool => (first | k_is | kit_is | ks_is | rfl | decide +kernel))
  (case n_list => (first | k_is | kit_is | ks_is | rfl | decide +kernel))
  (case n_tuple => (first | k_is | kit_is | ks_is | rfl | decide +kernel))
  (case n_len => (first | k_is | kit_is | ks_is | rfl | decide +kernel))
  (case n_range => (first | k_is | kit_is | ks_is | rfl | decide +kernel))
  (case n_enumerate => (first | k_is | kit_is | ks_is | rfl | decide +kernel))
  (case n_isinstance => (first | k_is | kit_is | ks_is | rfl | decide +kernel))
  (case n_super => (first | k_is | kit_is | ks_is | rfl | decide +kernel))
  (case n_ValueError => (first | k_is | kit_is | ks_is | rfl | decide +kernel))
  (case n_reversed => (first | k_is | kit_is | ks_is | rfl | decide +kernel))
  (case n_min => (first | k_is | kit_is | ks_is | rfl | decide +kernel))
  (case n_max => (first | k_is | kit_is | ks_is | rfl | decide +kernel))
  (case n_sorted => (first | k_is | kit_is | ks_is | rfl | decide +kernel))
  (case n_zip => (first | k_is | kit_is | ks_is | rfl | decide +kernel))
  (case n_sum => (first | k_is | kit_is | ks_is | rfl | decide +kernel))
  (case n_repr => (first | k_is | kit_is | ks_is | rfl | decide +kernel))
  (case d1 => (refine' ⟨_, _, ?a_1, L2.fun_mk ?l_1 ?c_1 ?k_1⟩; (case a_1 => (first | k_is | kit_is | ks_is | rfl | decide +kernel)); (case l_1 => (first | k_is | kit_is | ks_is | rfl | decide +kernel)); (case c_1 => (first | k_is | kit_is | ks_is | rfl | decide +kernel)); (case k_1 => (first | k_is | kit_is | ks_is | rfl | decide +kernel))))
  (case d2 => (refine' ⟨_, _, ?a_2, L2.fun_mk ?l_2 ?c_2 ?k_2⟩; (case a_2 => (first | k_is | kit_is | ks_is | rfl | decide +kernel)); (case l_2 => (first | k_is | kit_is | ks_is | rfl | decide +kernel)); (case c_2 => (first | k_is | kit_is | ks_is | rfl | decide +kernel)); (case k_2 => (first | k_is | kit_is | ks_is | rfl | decide +kernel))))
  (case d3 => (refine' ⟨_, _, ?a_3, L2.fun_mk ?l_3 ?c_3 ?k_3⟩; (case a_3 => (first | k_is | kit_is | ks_is | rfl | decide +kernel)); (case l_3 => (first | k_is | kit_is | ks_is | rfl | decide +kernel)); (case c_3 => (first | k_is | kit_is | ks_is | rfl | decide +kernel)); (case k_3 => (first | k_is | kit_is | ks_is | rfl | decide +kernel))))
  (case d4 => (refine' ⟨_, _, ?a_4, L2.fun_mk ?l_4 ?c_4 ?k_4⟩; (case a_4 => (first | k_is | kit_is | ks_is | rfl | decide +kernel)); (case l_4 => (first | k_is | kit_is | ks_is | rfl | decide +kernel)); (case c_4 => (first | k_is | kit_is | ks_is | rfl | decide +kernel)); (case k_4 => (first | k_is | kit_is | ks_is | rfl | decide +kernel))))
  (case d5 => (refine' ⟨_, _, ?a_5, L2.fun_mk ?l_5 ?c_5 ?k_5⟩; (case a_5 => (first | k_is | kit_is | ks_is | rfl | decide +kernel)); (case l_5 => (first | k_is | kit_is | ks_is | rfl | decide +kernel)); (case c_5 => (first | k_is | kit_is | ks_is | rfl | decide +kernel)); (case k_5 => (first | k_is | kit_is | ks_is | rfl | decide +kernel))))
  (case d6 => (refine' ⟨_, _, ?a_6, L2.fun_mk ?l_6 ?c_6 ?k_6⟩; (case a_6 => (first | k_is | kit_is | ks_is | rfl | decide +kernel)); (case l_6 => (first | k_is | kit_is | ks_is | rfl | decide +kernel)); (case c_6 => (first | k_is | kit_is | ks_is | rfl | decide +kernel)); (case k_6 => (first | k_is | kit_is | ks_is | rfl | decide +kernel))))
  (case d7 => (refine' ⟨_, _, ?a_7, L2.fun_mk ?l_7 ?c_7 ?k_7⟩; (case a_7 => (first | k_is | kit_is | ks_is | rfl | decide +kernel)); (case l_7 => (first | k_is | kit_is | ks_is | rfl | decide +kernel)); (case c_7 => (first | k_is | kit_is | ks_is | rfl | decide +kernel)); (case k_7 => (first | k_is | kit_is | ks_is | rfl | decide +kernel))))
  (case d8 => (refine' ⟨_, _, ?a_8, L2.fun_mk ?l_8 ?c_8 ?k_8⟩; (case a_8 => (first | k_is | kit_is | ks_is | rfl | decide +kernel)); (case l_8 => (first | k_is | kit_is | ks_is | rfl | decide +kernel)); (case c_8 => (first | k_is | kit_is | ks_is | rfl | decide +kernel)); (case k_8 => (first | k_is | kit_is | ks_is | rfl | decide +kernel))))
  (case d9 => (refine' ⟨_, _, ?a_9, L2.fun_mk ?l_9 ?c_9 ?k_9⟩; (case a_9 => (first | k_is | kit_is | ks_is | rfl | decide +kernel)); (case l_9 => (first | k_is | kit_is | ks_is | rfl | decide +kernel)); (case c_9 => (first | k_is | kit_is | ks_is | rfl | decide +kernel)); (case k_9 => (first | k_is | kit_is | ks_is | rfl | decide +kernel))))
  (case d10 => (refine' ⟨_, _, ?a_10, L2.fun_mk ?l_10 ?c_10 ?k_10⟩; (case a_10 => (first | k_is | kit_is | ks_is | rfl | decide +kernel)); (case l_10 => (first | k_is | kit_is | ks_is | rfl | decide +kernel)); (case c_10 => (first | k_is | kit_is | ks_is | rfl | decide +kernel)); (case k_10 => (first | k_is | kit_is | ks_is | rfl | decide +kernel))))
  (case d11 => (refine' ⟨_, _, ?a_11, L2.fun_mk ?l_11 ?c_11 ?k_11⟩; (case a_11 => (first | k_is | kit_is | ks_is | rfl | decide +kernel)); (case l_11 => (first | k_is | kit_is | ks_is | rfl | decide +kernel)); (case c_11 => (first | k_is | kit_is | ks_is | rfl | decide +kernel)); (case k_11 => (first | k_is | kit_is | ks_is | rfl | decide +kernel))))
  (case d12 => (refine' ⟨_, _, ?a_12, L2.fun_mk ?l_12 ?c_12 ?k_12⟩; (case a_12 => (first | k_is | kit_is | ks_is | rfl | decide +kernel)); (case l_12 => (first | k_is | kit_is | ks_is | rfl | decide +kernel)); (case c_12 => (first | k_is | kit_is | ks_is | rfl | decide +kernel)); (case k_12 => (first | k_is | kit_is | ks_is | rfl | decide +kernel))))
  (case d13 => (refine' ⟨_, _, ?a_13, L2.fun_mk ?l_13 ?c_13 ?k_13⟩; (case a_13 => (first | k_is | kit_is | ks_is | rfl | decide +kernel)); (case l_13 => (first | k_is | kit_is | ks_is | rfl | decide +kernel)); (case c_13 => (first | k_is | kit_is | ks_is | rfl | decide +kernel)); (case k_13 => (first | k_is | kit_is | ks_is | rfl | decide +kernel))))
  (case d14 => (refine' ⟨_, _, ?a_14, L2.fun_mk ?l_14 ?c_14 ?k_14⟩; (case a_14 => (first | k_is | kit_is | ks_is | rfl | decide +kernel)); (case l_14 => (first | k_is | kit_is | ks_is | rfl | decide +kernel)); (case c_14 => (first | k_is | kit_is | ks_is | rfl | decide +kernel)); (case k_14 => (first | k_is | kit_is | ks_is | rfl | decide +kernel))))
  (case d15 => (refine' ⟨_, _, ?a_15, L2.fun_mk ?l_15 ?c_15 ?k_15⟩; (case a_15 => (first | k_is | kit_is | ks_is | rfl | decide +kernel)); (case l_15 => (first | k_is | kit_is | ks_is | rfl | decide +kernel)); (case c_15 => (first | k_is | kit_is | ks_is | rfl | decide +kernel)); (case k_15 => (first | k_is | kit_is | ks_is | rfl | decide +kernel))))
  (case d16 => (refine' ⟨_, _, ?a_16, L2.fun_mk ?l_16 ?c_16 ?k_16⟩; (case a_16 => (first | k_is | kit_is | ks_is | rfl | decide +kernel)); (case l_16 => (first | k_is | kit_is | ks_is | rfl | decide +kernel)); (case c_16 => (first | k_is | kit_is | ks_is | rfl | decide +kernel)); (case k_16 => (first | k_is | kit_is | ks_is | rfl | decide +kernel))))
  (case d17 => (refine' ⟨_, _, ?a_17, L2.fun_mk ?l_17 ?c_17 ?k_17⟩; (case a_17 => (first | k_is | kit_is | ks_is | rfl | decide +kernel)); (case l_17 => (first | k_is | kit_is | ks_is | rfl | decide +kernel)); (case c_17 => (first | k_is | kit_is | ks_is | rfl | decide +kernel)); (case k_17 => (first | k_is | kit_is | ks_is | rfl | decide +kernel))))
  (case d18 => (refine' ⟨_, _, ?a_18, L2.fun_mk ?l_18 ?c_18 ?k_18⟩; (case a_18 => (first | k_is | kit_is | ks_is | rfl | decide +kernel)); (case l_18 => (first | k_is | kit_is | ks_is | rfl | decide +kernel)); (case c_18 => (first | k_is | kit_is | ks_is | rfl | decide +kernel)); (case k_18 => (first | k_is | kit_is | ks_is | rfl | decide +kernel))))
  (case d19 => (refine' ⟨_, _, ?a_19, L2.fun_mk ?l_19 ?c_19 ?k_19⟩; (case a_19 => (first | k_is | kit_is | ks_is | rfl | decide +kernel)); (case l_19 => (first | k_is | kit_is | ks_is | rfl | decide +kernel)); (case c_19 => (first | k_is | kit_is | ks_is | rfl | decide +kernel)); (case k_19 => (first | k_is | kit_is | ks_is | rfl | decide +kernel))))
  (case d20 => (refine' ⟨_, _, ?a_20, L2.fun_mk ?l_20 ?c_20 ?k_20⟩; (case a_20 => (first | k_is | kit_is | ks_is | rfl | decide +kernel)); (case l_20 => (first | k_is | kit_is | ks_is | rfl | decide +kernel)); (case c_20 => (first | k_is | kit_is | ks_is | rfl | decide +kernel)); (case k_20 => (first | k_is | kit_is | ks_is | rfl | decide +kernel))))
  (case d21 => (refine' ⟨_, _, ?a_21, L2.fun_mk ?l_21 ?c_21 ?k_21⟩; (case a_21 => (first | k_is | kit_is | ks_is | rfl | decide +kernel)); (case l_21 => (first | k_is | kit_is | ks_is | rfl | decide +kernel)); (case c_21 => (first | k_is | kit_is | ks_is | rfl | decide +kernel)); (case k_21 => (first | k_is | kit_is | ks_is | rfl | decide +kernel))))
  (case dRefused => refine' ⟨_, _, ?a, ⟨⟨_, _, _, _, _, _, _, _, rfl, ?l, ?c⟩, ?k⟩⟩; (case a => (first | k_is | kit_is | ks_is | rfl | decide +kernel)); (case l => (first | k_is | kit_is | ks_is | rfl | decide +kernel)); (case c => (first | k_is | kit_is | ks_is | rfl | decide +kernel)); (case k => (first | k_is | kit_is | ks_is | rfl | decide +kernel)))
  (case dTexts => refine' ⟨_, _, ?a, ⟨⟨_, _, _, _, _, _, _, _, rfl, ?l, ?c⟩, ?k⟩⟩; (case a => (first | k_is | kit_is | ks_is | rfl | decide +kernel)); (case l => (first | k_is | kit_is | ks_is | rfl | decide +kernel)); (case c => (first | k_is | kit_is | ks_is | rfl | decide +kernel)); (case k => (first | k_is | kit_is | ks_is | rfl | decide +kernel)))
  (case m1 => (refine' ⟨_, _, ⟨?a_22, ?b_22, ?e_22⟩, L2.fun_mk ?l_22 ?c_22 ?k_22⟩; (case a_22 => (first | k_is | kit_is | ks_is | rfl | decide +kernel)); (case b_22 => (first | k_is | kit_is | ks_is | rfl | decide +kernel)); (case e_22 => (first | k_is | kit_is | ks_is | rfl | decide +kernel)); (case l_22 => (first | k_is | kit_is | ks_is | rfl | decide +kernel)); (case c_22 => (first | k_is | kit_is | ks_is | rfl | decide +kernel)); (case k_22 => (first | k_is | kit_is | ks_is | rfl | decide +kernel))))
  (case m2 => (refine' ⟨_, _, ⟨?a_23, ?b_23, ?e_23⟩, L2.fun_mk ?l_23 ?c_23 ?k_23⟩; (case a_23 => (first | k_is | kit_is | ks_is | rfl | decide +kernel)); (case b_23 => (first | k_is | kit_is | ks_is | rfl | decide +kernel)); (case e_23 => (first | k_is | kit_is | ks_is | rfl | decide +kernel)); (case l_23 => (first | k_is | kit_is | ks_is | rfl | decide +kernel)); (case c_23 => (first | k_is | kit_is | ks_is | rfl | decide +kernel)); (case k_23 => (first | k_is | kit_is | ks_is | rfl | decide +kernel))))
  (case m3 => (refine' ⟨_, _, ⟨?a_24, ?b_24, ?e_24⟩, L2.fun_mk ?l_24 ?c_24 ?k_24⟩; (case a_24 => (first | k_is | kit_is | ks_is | rfl | decide +kernel)); (case b_24 => (first | k_is | kit_is | ks_is | rfl | decide +kernel)); (case e_24 => (first | k_is | kit_is | ks_is | rfl | decide +kernel)); (case l_24 => (first | k_is | kit_is | ks_is | rfl | decide +kernel)); (case c_24 => (first | k_is | kit_is | ks_is | rfl | decide +kernel)); (case k_24 => (first | k_is | kit_is | ks_is | rfl | decide +kernel))))
  (case m4 => (refine' ⟨_, _, ⟨?a_25, ?b_25, ?e_25⟩, L2.fun_mk ?l_25 ?c_25 ?k_25⟩; (case a_25 => (first | k_is | kit_is | ks_is | rfl | decide +kernel)); (case b_25 => (first | k_is | kit_is | ks_is | rfl | decide +kernel)); (case e_25 => (first | k_is | kit_is | ks_is | rfl | decide +kernel)); (case l_25 => (first | k_is | kit_is | ks_is | rfl | decide +kernel)); (case c_25 => (first | k_is | kit_is | ks_is | rfl | decide +kernel)); (case k_25 => (first | k_is | kit_is | ks_is | rfl | decide +kernel))))
  (case m5 => (refine' ⟨_, _, ⟨?a_26, ?b_26, ?e_26⟩, L2.fun_mk ?l_26 ?c_26 ?k_26⟩; (case a_26 => (first | k_is | kit_is | ks_is | rfl | decide +kernel)); (case b_26 => (first | k_is | kit_is | ks_is | rfl | decide +kernel)); (case e_26 => (first | k_is | kit_is | ks_is | rfl | decide +kernel)); (case l_26 => (first | k_is | kit_is | ks_is | rfl | decide +kernel)); (case c_26 => (first | k_is | kit_is | ks_is | rfl | decide +kernel)); (case k_26 => (first | k_is | kit_is | ks_is | rfl | decide +kernel))))
  (case m6 => (refine' ⟨_, _, ⟨?a_27, ?b_27, ?e_27⟩, L2.fun_mk ?l_27 ?c_27 ?k_27⟩; (case a_27 => (first | k_is | kit_is | ks_is | rfl | decide +kernel)); (case b_27 => (first | k_is | kit_is | ks_is | rfl | decide +kernel)); (case e_27 => (first | k_is | kit_is | ks_is | rfl | decide +kernel)); (case l_27 => (first | k_is | kit_is | ks_is | rfl | decide +kernel)); (case c_27 => (first | k_is | kit_is | ks_is | rfl | decide +kernel)); (case k_27 => (first | k_is | kit_is | ks_is | rfl | decide +kernel))))
  (case m7 => (refine' ⟨_, _, ⟨?a_28, ?b_28, ?e_28⟩, L2.fun_mk ?l_28 ?c_28 ?k_28⟩; (case a_28 => (first | k_is | kit_is | ks_is | rfl | decide +kernel)); (case b_28 => (first | k_is | kit_is | ks_is | rfl | decide +kernel)); (case e_28 => (first | k_is | kit_is | ks_is | rfl | decide +kernel)); (case l_28 => (first | k_is | kit_is | ks_is | rfl | decide +kernel)); (case c_28 => (first | k_is | kit_is | ks_is | rfl | decide +kernel)); (case k_28 => (first | k_is | kit_is | ks_is | rfl | decide +kernel))))
  (case m8 => (refine' ⟨_, _, ⟨?a_29, ?b_29, ?e_29⟩, L2.fun_mk ?l_29 ?c_29 ?k_29⟩; (case a_29 => (first | k_is | kit_is | ks_is | rfl | decide +kernel)); (case b_29 => (first | k_is | kit_is | ks_is | rfl | decide +kernel)); (case e_29 => (first | k_is | kit_is | ks_is | rfl | decide +kernel)); (case l_29 => (first | k_is | kit_is | ks_is | rfl | decide +kernel)); (case c_29 => (first | k_is | kit_is | ks_is | rfl | decide +kernel)); (case k_29 => (first | k_is | kit_is | ks_is | rfl | decide +kernel))))
  (case m9 => (refine' ⟨_, _, ⟨?a_30, ?b_30, ?e_30⟩, L2.fun_mk ?l_30 ?c_30 ?k_30⟩; (case a_30 => (first | k_is | kit_is | ks_is | rfl | decide +kernel)); (case b_30 => (first | k_is | kit_is | ks_is | rfl | decide +kernel)); (case e_30 => (first | k_is | kit_is | ks_is | rfl | decide +kernel)); (case l_30 => (first | k_is | kit_is | ks_is | rfl | decide +kernel)); (case c_30 => (first | k_is | kit_is | ks_is | rfl | decide +kernel)); (case k_30 => (first | k_is | kit_is | ks_is | rfl | decide +kernel))))
  (case dRead => refine' ⟨.type "type", _, _, _, ⟨?a, ?b⟩, ⟨?c, ⟨_, ?d⟩, ?e⟩, L2.fun_mk ?l ?cc ?k⟩; (case a => (first | k_is | kit_is | ks_is | rfl | decide +kernel)); (case b => (first | k_is | kit_is | ks_is | rfl | decide +kernel)); (case c => (first | k_is | kit_is | ks_is | rfl | decide +kernel)); (case d => (first | k_is | kit_is | ks_is | rfl | decide +kernel)); (case e => (first | k_is | kit_is | ks_is | rfl | decide +kernel)); (case l => (first | k_is | kit_is | ks_is | rfl | decide +kernel)); (case cc => (first | k_is | kit_is | ks_is | rfl | decide +kernel)); (case k => (first | k_is | kit_is | ks_is | rfl | decide +kernel)))
  (case makes => (first | k_is | kit_is | ks_is | rfl | decide +kernel))
  (case kpC => (first | k_is | kit_is | ks_is | rfl | decide +kernel))
  (case splC => refine' ⟨?a, ?e, ?f⟩; (case a => (refine' ⟨?a_31, ?b_31, ?c_31, ?d_31⟩; (case a_31 => (first | k_is | kit_is | ks_is | rfl | decide +kernel)); (case b_31 => (first | k_is | kit_is | ks_is | rfl | decide +kernel)); (case c_31 => (first | k_is | kit_is | ks_is | rfl | decide +kernel)); (case d_31 => (first | k_is | kit_is | ks_is | rfl | decide +kernel)))); (case e => (unfold L2.NoAttr; (first | k_is | kit_is | ks_is | rfl | decide +kernel))); (case f => (unfold L2.NoAttr; (first | k_is | kit_is | ks_is | rfl | decide +kernel))))
  (case splQ => refine' ⟨⟨?a, ?b, ?c, ?d, ?e⟩, ?f, ?g, ?h, ?i⟩; (case a => (refine' ⟨?a_32, ?b_32, ?c_32, ?d_32⟩; (case a_32 => (first | k_is | kit_is | ks_is | rfl | decide +kernel)); (case b_32 => (first | k_is | kit_is | ks_is | rfl | decide +kernel)); (case c_32 => (first | k_is | kit_is | ks_is | rfl | decide +kernel)); (case d_32 => (first | k_is | kit_is | ks_is | rfl | decide +kernel)))); (case b => (first | k_is | kit_is | ks_is | rfl | decide +kernel)); (case c => (first | k_is | kit_is | ks_is | rfl | decide +kernel)); (case d => (first | k_is | kit_is | ks_is | rfl | decide +kernel)); (case e => (first | k_is | kit_is | ks_is | rfl | decide +kernel)); (case f => (first | k_is | kit_is | ks_is | rfl | decide +kernel)); (case g => (first | k_is | kit_is | ks_is | rfl | decide +kernel)); (case h => rintro n (rfl | rfl | rfl | rfl) <;> (first | k_is | kit_is | ks_is | rfl | decide +kernel)); (case i => rintro n (rfl | rfl | rfl | rfl) <;> (first | k_is | kit_is | ks_is | rfl | decide +kernel)))
  (case most => refine' ⟨.type "type", _, ⟨?a, ?b⟩, ⟨?c, ?d⟩⟩; (case c => (first | k_is | kit_is | ks_is | rfl | decide +kernel)); (case a => (first | k_is | kit_is | ks_is | rfl | decide +kernel)); (case b => (first | k_is | kit_is | ks_is | rfl | decide +kernel)); (case d => exact ⟨_, rfl⟩))
  (case eB => (refine' ⟨_, _, _, _, ⟨⟨_, _, _, _, _, _, _, _, rfl, ?l_33, ?c_33⟩, ⟨_, _, _, _, _, _, ?cl_33, ?v2_33, ?fl_33⟩, ⟨_, _, _, ?ce_33⟩, ?al_33, ?op_33, ?su_33, ?se_33, rfl, ?tp_33⟩, ⟨⟨_, _, _, _, _, _, _, _, _, _, _, _, _, _, _, ?kc_33, ?rv_33⟩, ?sa_33, ?ex_33, ?ty_33, ?kp_33⟩, ?no_33, ?ini_33, ?tf_33⟩; (case ini_33 => (first | k_is | kit_is | ks_is | rfl | decide +kernel)); (case l_33 => (first | k_is | kit_is | ks_is | rfl | decide +kernel)); (case c_33 => (first | k_is | kit_is | ks_is | rfl | decide +kernel)); (case cl_33 => (first | k_is | kit_is | ks_is | rfl | decide +kernel)); (case v2_33 => (first | k_is | kit_is | ks_is | rfl | decide +kernel)); (case fl_33 => (first | k_is | kit_is | ks_is | rfl | decide +kernel)); (case ce_33 => (first | k_is | kit_is | ks_is | rfl | decide +kernel)); (case al_33 => (first | k_is | kit_is | ks_is | rfl | decide +kernel)); (case op_33 => (first | k_is | kit_is | ks_is | rfl | decide +kernel)); (case su_33 => (first | k_is | kit_is | ks_is | rfl | decide +kernel)); (case se_33 => (first | k_is | kit_is | ks_is | rfl | decide +kernel)); (case tp_33 => (first | k_is | kit_is | ks_is | rfl | decide +kernel)); (case kc_33 => (first | k_is | kit_is | ks_is | rfl | decide +kernel)); (case rv_33 => (first | k_is | kit_is | ks_is | rfl | decide +kernel)); (case sa_33 => (first | k_is | kit_is | ks_is | rfl | decide +kernel)); (case ex_33 => (first | k_is | kit_is | ks_is | rfl | decide +kernel)); (case ty_33 => (first | k_is | kit_is | ks_is | rfl | decide +kernel)); (case kp_33 => (first | k_is | kit_is | ks_is | rfl | decide +kernel)); (case no_33 => (first | k_is | kit_is | ks_is | rfl | decide +kernel)); (case tf_33 => (first | k_is | kit_is | ks_is | rfl | decide +kernel))))
  (case eU => (refine' ⟨_, _, _, _, ⟨⟨_, _, _, _, _, _, _, _, rfl, ?l_34, ?c_34⟩, ⟨_, _, _, _, _, _, ?cl_34, ?v2_34, ?fl_34⟩, ⟨_, _, _, ?ce_34⟩, ?al_34, ?op_34, ?su_34, ?se_34, rfl, ?tp_34⟩, ⟨⟨_, _, _, _, _, _, _, _, _, _, _, _, _, _, _, ?kc_34, ?rv_34⟩, ?sa_34, ?ex_34, ?ty_34, ?kp_34⟩, ?no_34, ?ini_34, ?tf_34⟩; (case ini_34 => (first | k_is | kit_is | ks_is | rfl | decide +kernel)); (case l_34 => (first | k_is | kit_is | ks_is | rfl | decide +kernel)); (case c_34 => (first | k_is | kit_is | ks_is | rfl | decide +kernel)); (case cl_34 => (first | k_is | kit_is | ks_is | rfl | decide +kernel)); (case v2_34 => (first | k_is | kit_is | ks_is | rfl | decide +kernel)); (case fl_34 => (first | k_is | kit_is | ks_is | rfl | decide +kernel)); (case ce_34 => (first | k_is | kit_is | ks_is | rfl | decide +kernel)); (case al_34 => (first | k_is | kit_is | ks_is | rfl | decide +kernel)); (case op_34 => (first | k_is | kit_is | ks_is | rfl | decide +kernel)); (case su_34 => (first | k_is | kit_is | ks_is | rfl | decide +kernel)); (case se_34 => (first | k_is | kit_is | ks_is | rfl | decide +kernel)); (case tp_34 => (first | k_is | kit_is | ks_is | rfl | decide +kernel)); (case kc_34 => (first | k_is | kit_is | ks_is | rfl | decide +kernel)); (case rv_34 => (first | k_is | kit_is | ks_is | rfl | decide +kernel)); (case sa_34 => (first | k_is | kit_is | ks_is | rfl | decide +kernel)); (case ex_34 => (first | k_is | kit_is | ks_is | rfl | decide +kernel)); (case ty_34 => (first | k_is | kit_is | ks_is | rfl | decide +kernel)); (case kp_34 => (first | k_is | kit_is | ks_is | rfl | decide +kernel)); (case no_34 => (first | k_is | kit_is | ks_is | rfl | decide +kernel)); (case tf_34 => (first | k_is | kit_is | ks_is | rfl | decide +kernel))))
  (case eM => (refine' ⟨_, _, _, _, ⟨⟨_, _, _, _, _, _, _, _, rfl, ?l_35, ?c_35⟩, ⟨_, _, _, _, _, _, ?cl_35, ?v2_35, ?fl_35⟩, ⟨_, _, _, ?ce_35⟩, ?al_35, ?op_35, ?su_35, ?se_35, rfl, ?tp_35⟩, ⟨⟨_, _, _, _, _, _, _, _, _, _, _, _, _, _, _, ?kc_35, ?rv_35⟩, ?sa_35, ?ex_35, ?ty_35, ?kp_35⟩, ?no_35, ?no2_35, ?ini_35, ?tf_35⟩; (case ini_35 => (first | k_is | kit_is | ks_is | rfl | decide +kernel)); (case l_35 => (first | k_is | kit_is | ks_is | rfl | decide +kernel)); (case c_35 => (first | k_is | kit_is | ks_is | rfl | decide +kernel)); (case cl_35 => (first | k_is | kit_is | ks_is | rfl | decide +kernel)); (case v2_35 => (first | k_is | kit_is | ks_is | rfl | decide +kernel)); (case fl_35 => (first | k_is | kit_is | ks_is | rfl | decide +kernel)); (case ce_35 => (first | k_is | kit_is | ks_is | rfl | decide +kernel)); (case al_35 => (first | k_is | kit_is | ks_is | rfl | decide +kernel)); (case op_35 => (first | k_is | kit_is | ks_is | rfl | decide +kernel)); (case su_35 => (first | k_is | kit_is | ks_is | rfl | decide +kernel)); (case se_35 => (first | k_is | kit_is | ks_is | rfl | decide +kernel)); (case tp_35 => (first | k_is | kit_is | ks_is | rfl | decide +kernel)); (case kc_35 => (first | k_is | kit_is | ks_is | rfl | decide +kernel)); (case rv_35 => (first | k_is | kit_is | ks_is | rfl | decide +kernel)); (case sa_35 => (first | k_is | kit_is | ks_is | rfl | decide +kernel)); (case ex_35 => (first | k_is | kit_is | ks_is | rfl | decide +kernel)); (case ty_35 => (first | k_is | kit_is | ks_is | rfl | decide +kernel)); (case kp_35 => (first | k_is | kit_is | ks_is | rfl | decide +kernel)); (case no_35 => (first | k_is | kit_is | ks_is | rfl | decide +kernel)); (case no2_35 => (first | k_is | kit_is | ks_is | rfl | decide +kernel)); (case tf_35 => (first | k_is | kit_is | ks_is | rfl | decide +kernel))))
  (case eE => (refine' ⟨_, _, _, _, ⟨⟨_, _, _, _, _, _, _, _, rfl, ?l_36, ?c_36⟩, ⟨_, _, _, _, _, _, ?cl_36, ?v2_36, ?fl_36⟩, ⟨_, _, _, ?ce_36⟩, ?al_36, ?op_36, ?su_36, ?se_36, rfl, ?tp_36⟩, ⟨⟨_, _, _, _, _, _, _, _, _, _, _, _, _, _, _, ?kc_36, ?rv_36⟩, ?sa_36, ?ex_36, ?ty_36, ?kp_36⟩, ?no_36, ?ini_36, ?tf_36⟩; (case ini_36 => (first | k_is | kit_is | ks_is | rfl | decide +kernel)); (case l_36 => (first | k_is | kit_is | ks_is | rfl | decide +kernel)); (case c_36 => (first | k_is | kit_is | ks_is | rfl | decide +kernel)); (case cl_36 => (first | k_is | kit_is | ks_is | rfl | decide +kernel)); (case v2_36 => (first | k_is | kit_is | ks_is | rfl | decide +kernel)); (case fl_36 => (first | k_is | kit_is | ks_is | rfl | decide +kernel)); (case ce_36 => (first | k_is | kit_is | ks_is | rfl | decide +kernel)); (case al_36 => (first | k_is | kit_is | ks_is | rfl | decide +kernel)); (case op_36 => (first | k_is | kit_is | ks_is | rfl | decide +kernel)); (case su_36 => (first | k_is | kit_is | ks_is | rfl | decide +kernel)); (case se_36 => (first | k_is | kit_is | ks_is | rfl | decide +kernel)); (case tp_36 => (first | k_is | kit_is | ks_is | rfl | decide +kernel)); (case kc_36 => (first | k_is | kit_is | ks_is | rfl | decide +kernel)); (case rv_36 => (first | k_is | kit_is | ks_is | rfl | decide +kernel)); (case sa_36 => (first | k_is | kit_is | ks_is | rfl | decide +kernel)); (case ex_36 => (first | k_is | kit_is | ks_is | rfl | decide +kernel)); (case ty_36 => (first | k_is | kit_is | ks_is | rfl | decide +kernel)); (case kp_36 => (first | k_is | kit_is | ks_is | rfl | decide +kernel)); (case no_36 => (first | k_is | kit_is | ks_is | rfl | decide +kernel)); (case tf_36 => (first | k_is | kit_is | ks_is | rfl | decide +kernel))))
  (case xmm => (refine' PySem.W.exm_ref ?a_37 ?b_37 ?c_37 ?d_37; (case a_37 => (first | k_is | kit_is | ks_is | rfl | decide +kernel)); (case b_37 => (first | k_is | kit_is | ks_is | rfl | decide +kernel)); (case c_37 => (first | k_is | kit_is | ks_is | rfl | decide +kernel)); (case d_37 => (first | k_is | kit_is | ks_is | rfl | decide +kernel))))
  (case xum => (refine' PySem.W.exm_ref ?a_38 ?b_38 ?c_38 ?d_38; (case a_38 => (first | k_is | kit_is | ks_is | rfl | decide +kernel)); (case b_38 => (first | k_is | kit_is | ks_is | rfl | decide +kernel)); (case c_38 => (first | k_is | kit_is | ks_is | rfl | decide +kernel)); (case d_38 => (first | k_is | kit_is | ks_is | rfl | decide +kernel))))
  (case xuu => (refine' PySem.W.exm_ref ?a_39 ?b_39 ?c_39 ?d_39; (case a_39 => (first | k_is | kit_is | ks_is | rfl | decide +kernel)); (case b_39 => (first | k_is | kit_is | ks_is | rfl | decide +kernel)); (case c_39 => (first | k_is | kit_is | ks_is | rfl | decide +kernel)); (case d_39 => (first | k_is | kit_is | ks_is | rfl | decide +kernel))))
  (case xem => (refine' PySem.W.exm_ref ?a_40 ?b_40 ?c_40 ?d_40; (case a_40 => (first | k_is | kit_is | ks_is | rfl | decide +kernel)); (case b_40 => (first | k_is | kit_is | ks_is | rfl | decide +kernel)); (case c_40 => (first | k_is | kit_is | ks_is | rfl | decide +kernel)); (case d_40 => (first | k_is | kit_is | ks_is | rfl | decide +kernel))))
  (case xeu => (refine' PySem.W.exm_ref ?a_41 ?b_41 ?c_41 ?d_41; (case a_41 => (first | k_is | kit_is | ks_is | rfl | decide +kernel)); (case b_41 => (first | k_is | kit_is | ks_is | rfl | decide +kernel)); (case c_41 => (first | k_is | kit_is | ks_is | rfl | decide +kernel)); (case d_41 => (first | k_is | kit_is | ks_is | rfl | decide +kernel))))
  (case xee => (refine' PySem.W.exm_ref ?a_42 ?b_42 ?c_42 ?d_42; (case a_42 => (first | k_is | kit_is | ks_is | rfl | decide +kernel)); (case b_42 => (first | k_is | kit_is | ks_is | rfl | decide +kernel)); (case c_42 => (first | k_is | kit_is | ks_is | rfl | decide +kernel)); (case d_42 => (first | k_is | kit_is | ks_is | rfl | decide +kernel))))
  (case ecCM => (refine' ⟨?a_43, ?b_43, ?c_43, ?d_43, ?e_43, ?f_43, ?g_43, ?h_43⟩; (case a_43 => (first | k_is | kit_is | ks_is | rfl | decide +kernel)); (case b_43 => (first | k_is | kit_is | ks_is | rfl | decide +kernel)); (case c_43 => (first | k_is | kit_is | ks_is | rfl | decide +kernel)); (case d_43 => (first | k_is | kit_is | ks_is | rfl | decide +kernel)); (case e_43 => (first | k_is | kit_is | ks_is | rfl | decide +kernel)); (case f_43 => (first | k_is | kit_is | ks_is | rfl | decide +kernel)); (case g_43 => (first | k_is | kit_is | ks_is | rfl | decide +kernel)); (case h_43 => (first | k_is | kit_is | ks_is | rfl | decide +kernel))))
  (case ecCU => (refine' ⟨?a_44, ?b_44, ?c_44, ?d_44, ?e_44, ?f_44, ?g_44, ?h_44⟩; (case a_44 => (first | k_is | kit_is | ks_is | rfl | decide +kernel)); (case b_44 => (first | k_is | kit_is | ks_is | rfl | decide +kernel)); (case c_44 => (first | k_is | kit_is | ks_is | rfl | decide +kernel)); (case d_44 => (first | k_is | kit_is | ks_is | rfl | decide +kernel)); (case e_44 => (first | k_is | kit_is | ks_is | rfl | decide +kernel)); (case f_44 => (first | k_is | kit_is | ks_is | rfl | decide +kernel)); (case g_44 => (first | k_is | kit_is | ks_is | rfl | decide +kernel)); (case h_44 => (first | k_is | kit_is | ks_is | rfl | decide +kernel))))
  (case ecCE => (refine' ⟨?a_45, ?b_45, ?c_45, ?d_45, ?e_45, ?f_45, ?g_45, ?h_45⟩; (case a_45 => (first | k_is | kit_is | ks_is | rfl | decide +kernel)); (case b_45 => (first | k_is | kit_is | ks_is | rfl | decide +kernel)); (case c_45 => (first | k_is | kit_is | ks_is | rfl | decide +kernel)); (case d_45 => (first | k_is | kit_is | ks_is | rfl | decide +kernel)); (case e_45 => (first | k_is | kit_is | ks_is | rfl | decide +kernel)); (case f_45 => (first | k_is | kit_is | ks_is | rfl | decide +kernel)); (case g_45 => (first | k_is | kit_is | ks_is | rfl | decide +kernel)); (case h_45 => (first | k_is | kit_is | ks_is | rfl | decide +kernel))))
  (case xfCM => (refine' ⟨?a_46, ?b_46, ?c_46, ?d_46⟩; (case a_46 => (first | k_is | kit_is | ks_is | rfl | decide +kernel)); (case b_46 => (first | k_is | kit_is | ks_is | rfl | decide +kernel)); (case c_46 => (first | k_is | kit_is | ks_is | rfl | decide +kernel)); (case d_46 => (first | k_is | kit_is | ks_is | rfl | decide +kernel))))
  (case xfCU => (refine' ⟨?a_47, ?b_47, ?c_47, ?d_47⟩; (case a_47 => (first | k_is | kit_is | ks_is | rfl | decide +kernel)); (case b_47 => (first | k_is | kit_is | ks_is | rfl | decide +kernel)); (case c_47 => (first | k_is | kit_is | ks_is | rfl | decide +kernel)); (case d_47 => (first | k_is | kit_is | ks_is | rfl | decide +kernel))))
  (case xfCE => (refine' ⟨?a_48, ?b_48, ?c_48, ?d_48⟩; (case a_48 => (first | k_is | kit_is | ks_is | rfl | decide +kernel)); (case b_48 => (first | k_is | kit_is | ks_is | rfl | decide +kernel)); (case c_48 => (first | k_is | kit_is | ks_is | rfl | decide +kernel)); (case d_48 => (first | k_is | kit_is | ks_is | rfl | decide +kernel))))
  (case kMV => (first | k_is | kit_is | ks_is | rfl | decide +kernel))
  (case kME => (first | k_is | kit_is | ks_is | rfl | decide +kernel))
  (case kUV => (first | k_is | kit_is | ks_is | rfl | decide +kernel))
  (case kUE => (first | k_is | kit_is | ks_is | rfl | decide +kernel))
  (case kEV => (first | k_is | kit_is | ks_is | rfl | decide +kernel))
  (case kEU => (first | k_is | kit_is | ks_is | rfl | decide +kernel))
  (case neP => decide)
  (case nT => (first | k_is | kit_is | ks_is | rfl | decide +kernel)); (case nT2 => (first | k_is | kit_is | ks_is | rfl | decide +kernel)); (case hcd => (first | k_is | kit_is | ks_is | rfl | decide +kernel)); (case hcd2 => (first | k_is | kit_is | ks_is | rfl | decide +kernel))

