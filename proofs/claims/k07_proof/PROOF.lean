import PyProof.Rows.All
import Wide.All
import OpenK.AllK
import Wide.FinOn
import HandS.ForMost
import HandS.Exc
import HandS.ExcOwn
import HandS.WordsExc
import HandS.CallSlots
import HandS.Walk
import HandS.Lambda
import HandS.Wide
import HandS.IsInst
import HandS.Style
import HandS.ClsMeth
import HandS.SetFor
import HandS.Strs
import HandS.More
import KE.GoesSet
import HandS.Comp
import HandS.DictComp
import HandS.RevRange
import HandS.Conv
import HandS.Star
import HandS.MethStar
import PySem.Challenge.RW_thinwall_k07_parts_filled_and_nested
import HandS.EndTab
import HandS.OwnEq
import HandS.FStr
import PyProof.ReprHeads
import PyProof.StrHeap
import PyProof.FactsAll.list_1
import PyProof.FactsAll.list_3
import PyProof.Rows.Range3
import HandS.Text
import PyProof.StrLawsTight
import KE.KFmtOwn
import HandS.RaiseMore
import KE.KExcSuper
import HandS.ExcInit
import KE.KOpsOwn
import HandS.Property
import KE.KExcIs
import HandS.TryMany
import HandS.ExcField
import HandS.ExcIs
import KE.KNestM
set_option Elab.async false
set_option linter.all false
set_option maxRecDepth 100000
set_option maxHeartbeats 1000000
/-! The data layer: values as trees of data, a stable heap S, owned cells w, a frame F; wishes in data. -/
namespace DL
open PySem PySem.Spec PyProof.Rows L2 LamX
/-- data: a value as it is, a list that stands, a tuple, a list that is only read, an instance that stands -/
inductive D where
  | val (v : V)
  | lst (ds : List D)
  | tup (ds : List D)
  | rd (ds : List D)
  | obj (C : Addr) (ns : List Str) (ds : List D)
  | exc (a dd : Addr) (ns : List Str) (ds : List D)
  | dic (kvs : List (Key × V))
  | dct (kvs : List (List Key × V))
  | dcv (ks : List Key) (ds : List D)
  | cod (f c : Addr) (q : Str) (σ : List (Option V)) (js : List Nat) (ds : List D)
abbrev I (i : Int) : D := .val (.int i)
abbrev B (b : Bool) : D := .val (.bl b)
abbrev T (s : Str) : D := .val (.str s)
abbrev N : D := .val .non
abbrev R (a : Addr) : D := .val (.ref a)
mutual
def Rep (K : PySem.W.Frag) (S : Hp) : D → V → Prop
  | .val v, x => x = v
  | .lst ds, x => ∃ a xs, x = .ref a ∧ S a = some (.lst xs) ∧ RepL K S ds xs
  | .tup ds, x => ∃ a xs, x = .ref a ∧ S a = some (.tup xs) ∧ RepL K S ds xs
  | .rd ds, x => ∃ a xs, x = .ref a ∧ SqL K S a xs ∧ RepL K S ds xs
  | .obj C ns ds, x => ∃ a dx ys, x = .ref a ∧ S a = some (.ins C dx ys) ∧ ys.map (·.1) = ns ∧ RepL K S ds (ys.map (·.2))
  | .exc a dd ns ds, x => ∃ ys, x = .ref a ∧ S dd = some (.xd ys) ∧ ys.map (·.1) = ns ∧ RepL K S ds (ys.map (·.2))
  | .dic kvs, x => ∃ a, x = .ref a ∧ S a = some (.dK kvs)
  | .dct kvs, x => ∃ a, x = .ref a ∧ S a = some (.dT kvs)
  | .dcv ks ds, x => ∃ a kvs, x = .ref a ∧ S a = some (.dK kvs) ∧ kvs.map (·.1) = ks ∧ RepL K S ds (kvs.map (·.2))
  | .cod f c q σ js ds, x => x = .ref f ∧ S c = some (CodeO c q) ∧ ∃ vs : List V, js.map (fun i => σ[i]?) = vs.map (fun v => some (some v)) ∧ RepL K S ds vs
def RepL (K : PySem.W.Frag) (S : Hp) : List D → List V → Prop
  | [], xs => xs = []
  | d :: ds, xs => ∃ y ys, xs = y :: ys ∧ Rep K S d y ∧ RepL K S ds ys
end
section
variable {K : PySem.W.Frag} {S S' H H' : Hp}
mutual
theorem Rep.mono (e : Same S S') : ∀ {d : D} {v : V}, Rep K S d v → Rep K S' d v
  | .val v, x, h => h
  | .lst ds, x, h => by
    obtain ⟨a, xs, h1, h2, h3⟩ := h
    exact ⟨a, xs, h1, e _ _ h2, RepL.mono e h3⟩
  | .tup ds, x, h => by
    obtain ⟨a, xs, h1, h2, h3⟩ := h
    exact ⟨a, xs, h1, e _ _ h2, RepL.mono e h3⟩
  | .rd ds, x, h => by
    obtain ⟨a, xs, h1, h2, h3⟩ := h
    exact ⟨a, xs, h1, e.seq h2, RepL.mono e h3⟩
  | .obj C ns ds, x, h => by
    obtain ⟨a, dx, ys, h1, h2, h3, h4⟩ := h
    exact ⟨a, dx, ys, h1, e _ _ h2, h3, RepL.mono e h4⟩
  | .exc a dd ns ds, x, h => by
    obtain ⟨ys, h1, h2, h3, h4⟩ := h
    exact ⟨ys, h1, e _ _ h2, h3, RepL.mono e h4⟩
  | .dic kvs, x, h => by
    obtain ⟨a, h1, h2⟩ := h
    exact ⟨a, h1, e _ _ h2⟩
  | .dct kvs, x, h => by
    obtain ⟨a, h1, h2⟩ := h
    exact ⟨a, h1, e _ _ h2⟩
  | .dcv ks ds, x, h => by
    obtain ⟨a, kvs, h1, h2, h3, h4⟩ := h
    exact ⟨a, kvs, h1, e _ _ h2, h3, RepL.mono e h4⟩
  | .cod f c q σ js ds, x, h => by
    obtain ⟨h1, h2, vs, h3, h4⟩ := h
    exact ⟨h1, e _ _ h2, vs, h3, RepL.mono e h4⟩
theorem RepL.mono (e : Same S S') : ∀ {ds : List D} {xs : List V}, RepL K S ds xs → RepL K S' ds xs
  | [], xs, h => h
  | d :: ds, xs, h => by
    obtain ⟨y, ys, h1, h2, h3⟩ := h
    exact ⟨y, ys, h1, Rep.mono e h2, RepL.mono e h3⟩
end
theorem RepL.length : ∀ {ds : List D} {xs : List V}, RepL K S ds xs → xs.length = ds.length
  | [], xs, h => by
    have h' : xs = [] := h
    rw [h']
    rfl
  | d :: ds, xs, h => by
    obtain ⟨y, ys, rfl, h2, h3⟩ := h
    show ys.length + 1 = ds.length + 1
    rw [RepL.length h3]
theorem RepL.get : ∀ {ds : List D} {xs : List V}, RepL K S ds xs → ∀ {i : Nat} {d : D}, ds[i]? = some d → ∃ x, xs[i]? = some x ∧ Rep K S d x
  | [], _, _, i, d, e => by simp at e
  | d0 :: ds, xs, h, i, d, e => by
    obtain ⟨y, ys, rfl, h2, h3⟩ := h
    cases i with
    | zero =>
      have e' : d0 = d := Option.some.inj e
      subst e'
      exact ⟨y, rfl, h2⟩
    | succ i => exact RepL.get h3 (i := i) e
theorem RepL.app : ∀ {ds es : List D} {xs ys : List V}, RepL K S ds xs → RepL K S es ys → RepL K S (ds ++ es) (xs ++ ys)
  | [], es, xs, ys, h, k => by
    have h' : xs = [] := h
    subst h'
    exact k
  | d :: ds, es, xs, ys, h, k => by
    obtain ⟨y, zs, rfl, h2, h3⟩ := h
    exact ⟨y, zs ++ ys, rfl, h2, RepL.app h3 k⟩
theorem RepL.one {d : D} {x : V} (h : Rep K S d x) : RepL K S [d] [x] := ⟨x, [], rfl, h, rfl⟩
theorem RepL.ints : ∀ {ns : List Int} {xs : List V}, RepL K S (ns.map I) xs → xs = ns.map V.int
  | [], xs, h => h
  | n :: ns, xs, h => by
    obtain ⟨y, ys, rfl, h2, h3⟩ := h
    have h2' : y = V.int n := h2
    rw [h2', RepL.ints h3]
    rfl
theorem RepL.vals : ∀ {vs : List V} {xs : List V}, RepL K S (vs.map D.val) xs → xs = vs
  | [], xs, h => h
  | n :: ns, xs, h => by
    obtain ⟨y, ys, rfl, h2, h3⟩ := h
    have h2' : y = n := h2
    rw [h2', RepL.vals h3]
theorem RepL.of_vals : ∀ {vs : List V}, RepL K S (vs.map D.val) vs
  | [] => rfl
  | n :: ns => ⟨n, ns, rfl, rfl, RepL.of_vals⟩
/-- a part -/
theorem RepL.drop : ∀ {ds : List D} {xs : List V} (n : Nat), RepL K S ds xs → RepL K S (ds.drop n) (xs.drop n)
  | ds, xs, 0, h => h
  | [], xs, n + 1, h => by
    have h' : xs = [] := h
    subst h'
    rfl
  | d :: ds, xs, n + 1, h => by
    obtain ⟨y, ys, rfl, h2, h3⟩ := h
    exact RepL.drop n h3
theorem RepL.take : ∀ {ds : List D} {xs : List V} (n : Nat), RepL K S ds xs → RepL K S (ds.take n) (xs.take n)
  | ds, xs, 0, h => rfl
  | [], xs, n + 1, h => by
    have h' : xs = [] := h
    subst h'
    rfl
  | d :: ds, xs, n + 1, h => by
    obtain ⟨y, ys, rfl, h2, h3⟩ := h
    exact ⟨y, ys.take n, rfl, h2, RepL.take n h3⟩
theorem RepL.set : ∀ {ds : List D} {xs : List V} (n : Nat) {d : D} {x : V}, RepL K S ds xs → Rep K S d x → RepL K S (ds.set n d) (xs.set n x)
  | [], xs, n, d, x, h, k => by
    have h' : xs = [] := h
    subst h'
    rfl
  | d0 :: ds, xs, 0, d, x, h, k => by
    obtain ⟨y, ys, rfl, h2, h3⟩ := h
    exact ⟨x, ys, rfl, k, h3⟩
  | d0 :: ds, xs, n + 1, d, x, h, k => by
    obtain ⟨y, ys, rfl, h2, h3⟩ := h
    exact ⟨y, ys.set n x, rfl, h2, RepL.set n h3 k⟩
theorem RepL.rev : ∀ {ds : List D} {xs : List V}, RepL K S ds xs → RepL K S ds.reverse xs.reverse
  | [], xs, h => by
    have h' : xs = [] := h
    subst h'
    rfl
  | d :: ds, xs, h => by
    obtain ⟨y, ys, rfl, h2, h3⟩ := h
    rw [List.reverse_cons, List.reverse_cons]
    exact RepL.app (RepL.rev h3) (RepL.one h2)
theorem RepL.dropLast : ∀ {ds : List D} {xs : List V}, RepL K S ds xs → RepL K S ds.dropLast xs.dropLast := fun {ds xs} h => by
  rw [List.dropLast_eq_take, List.dropLast_eq_take, RepL.length h]
  exact RepL.take _ h
theorem RepL.eraseIdx : ∀ {ds : List D} {xs : List V} (n : Nat), RepL K S ds xs → RepL K S (ds.eraseIdx n) (xs.eraseIdx n)
  | [], xs, n, h => by
    have h' : xs = [] := h
    subst h'
    rfl
  | d0 :: ds, xs, 0, h => by
    obtain ⟨y, ys, rfl, h2, h3⟩ := h
    exact h3
  | d0 :: ds, xs, n + 1, h => by
    obtain ⟨y, ys, rfl, h2, h3⟩ := h
    exact ⟨y, ys.eraseIdx n, rfl, h2, RepL.eraseIdx n h3⟩
end
/-- an owned cell -/
inductive HD where
  | lst (ds : List D)
  | ins (C dx : Addr) (ns : List Str) (ds : List D)
  | dic (kvs : List (Key × V))
  | dcd (ks : List Key) (ds : List D)
def RepH (K : PySem.W.Frag) (S : Hp) : HD → HO → Prop
  | .lst ds, o => ∃ xs, o = .lst xs ∧ RepL K S ds xs
  | .ins C dx ns ds, o => ∃ ys, o = .ins C dx ys ∧ ys.map (·.1) = ns ∧ RepL K S ds (ys.map (·.2))
  | .dic kvs, o => o = .dK kvs
  | .dcd ks ds, o => ∃ kvs, o = .dK kvs ∧ kvs.map (·.1) = ks ∧ RepL K S ds (kvs.map (·.2))
theorem RepH.mono {K : PySem.W.Frag} {S S' : Hp} (e : Same S S') : ∀ {h : HD} {o : HO}, RepH K S h o → RepH K S' h o
  | .lst ds, o, h => by
    obtain ⟨xs, h1, h2⟩ := h
    exact ⟨xs, h1, h2.mono e⟩
  | .ins C dx ns ds, o, h => by
    obtain ⟨ys, h1, h2, h3⟩ := h
    exact ⟨ys, h1, h2, h3.mono e⟩
  | .dic kvs, o, h => h
  | .dcd ks ds, o, h => by
    obtain ⟨kvs, h1, h2, h3⟩ := h
    exact ⟨kvs, h1, h2, h3.mono e⟩
abbrev Wp := Addr → Option HD
def wu (w : Wp) (a : Addr) (h : HD) : Wp := fun b => if b = a then some h else w b
def wd (w : Wp) (a : Addr) : Wp := fun b => if b = a then none else w b
def w0 : Wp := fun _ => none
theorem wu_same {w : Wp} {a : Addr} {h : HD} : wu w a h a = some h := if_pos rfl
theorem wu_ne {w : Wp} {a b : Addr} {h : HD} (e : b ≠ a) : wu w a h b = w b := if_neg e
theorem wu_wu {w : Wp} {a : Addr} {h k : HD} : wu (wu w a h) a k = wu w a k := by
  funext b
  by_cases e : b = a
  · rw [e, wu_same, wu_same]
  · rw [wu_ne e, wu_ne e, wu_ne e]
theorem wd_wu {w : Wp} {a : Addr} {h : HD} (e : w a = none) : wd (wu w a h) a = w := by
  funext b
  by_cases q : b = a
  · rw [q, e]
    exact if_pos rfl
  · show (if b = a then none else wu w a h b) = w b
    rw [if_neg q, wu_ne q]
/-- no table of code, no code object -/
def NTC (o : HO) : Prop := (∀ ps, o ≠ .tbl ps) ∧ ∀ c q, o ≠ CodeO c q
/-- how the heap H stands: S stands for ever, w is owned, F is somebody else's -/
structure World (K : PySem.W.Frag) (T : List (Addr × Str)) (S : Hp) (w : Wp) (F H : Hp) : Prop where
  same : Same S H
  notbl : ∀ a ps, S a ≠ some (.tbl ps)
  own : ∀ a h, w a = some h → S a = none ∧ F a = none ∧ ∃ o, H a = some o ∧ RepH K S h o
  frm : ∀ a o, F a = some o → S a = none ∧ H a = some o
  tabs : Tabs T H
  nf : ∀ a o, F a = some o → NTC o
section
variable {K : PySem.W.Frag} {T : List (Addr × Str)} {S S' F H H' : Hp} {w : Wp} {a : Addr} {o : HO} {h : HD}
theorem World.free (W : World K T S w F H) (e : H a = none) : S a = none ∧ w a = none ∧ F a = none := by
  refine ⟨W.same.free e, ?_, ?_⟩
  · cases q : w a with
    | none => rfl
    | some h =>
      obtain ⟨_, _, o, q2, _⟩ := W.own a h q
      rw [e] at q2
      cases q2
  · cases q : F a with
    | none => rfl
    | some o =>
      have q2 := (W.frm a o q).2
      rw [e] at q2
      cases q2
theorem same_upd {H : Hp} {p : Addr} {o : HO} (h : H p = none) : Same H (upd H p o) := fun b x e => by
  rw [upd_ne (ne_of_none e h)]
  exact e
/-- a new object that stands -/
theorem World.laid (W : World K T S w F H) (e : H a = none) (hn : ∀ ps, o ≠ .tbl ps) : World K T (upd S a o) w F (upd H a o) := by
  obtain ⟨e1, e2, e3⟩ := W.free e
  have sS : Same S (upd S a o) := same_upd e1
  have sH : Same H (upd H a o) := same_upd e
  refine ⟨fun b x q => ?_, fun b ps q => ?_, fun b h q => ?_, fun b x q => ?_, W.tabs.ext sH, W.nf⟩
  · by_cases hb : b = a
    · subst hb
      rw [upd_same] at q ⊢
      exact q
    · rw [upd_ne hb] at q ⊢
      exact W.same _ _ q
  · by_cases hb : b = a
    · subst hb
      rw [upd_same] at q
      exact hn ps (Option.some.inj q)
    · rw [upd_ne hb] at q
      exact W.notbl _ _ q
  · have hb : b ≠ a := fun z => by
      rw [z, e2] at q
      cases q
    obtain ⟨q1, q2, x, q3, q4⟩ := W.own b h q
    exact ⟨by rw [upd_ne hb]; exact q1, q2, x, sH _ _ q3, q4.mono sS⟩
  · have hb : b ≠ a := fun z => by
      rw [z, e3] at q
      cases q
    obtain ⟨q1, q2⟩ := W.frm b x q
    exact ⟨by rw [upd_ne hb]; exact q1, sH _ _ q2⟩
/-- a new object that nobody looks at -/
theorem World.junk (W : World K T S w F H) (e : H a = none) : World K T S w F (upd H a o) := by
  have sH : Same H (upd H a o) := same_upd e
  refine ⟨W.same.trans sH, W.notbl, fun b h q => ?_, fun b x q => ?_, W.tabs.ext sH, W.nf⟩
  · obtain ⟨q1, q2, x, q3, q4⟩ := W.own b h q
    exact ⟨q1, q2, x, sH _ _ q3, q4⟩
  · obtain ⟨q1, q2⟩ := W.frm b x q
    exact ⟨q1, sH _ _ q2⟩
/-- a new owned cell -/
theorem World.take (W : World K T S w F H) (e : H a = none) (r : RepH K S h o) : World K T S (wu w a h) F (upd H a o) := by
  obtain ⟨e1, e2, e3⟩ := W.free e
  have sH : Same H (upd H a o) := same_upd e
  refine ⟨W.same.trans sH, W.notbl, fun b k q => ?_, fun b x q => ?_, W.tabs.ext sH, W.nf⟩
  · by_cases hb : b = a
    · subst hb
      rw [wu_same] at q
      cases q
      exact ⟨e1, e3, o, upd_same, r⟩
    · rw [wu_ne hb] at q
      obtain ⟨q1, q2, x, q3, q4⟩ := W.own b k q
      exact ⟨q1, q2, x, sH _ _ q3, q4⟩
  · obtain ⟨q1, q2⟩ := W.frm b x q
    exact ⟨q1, sH _ _ q2⟩
theorem nf_upd {F : Hp} {a : Addr} {o : HO} (h : ∀ a o, F a = some o → NTC o) (hn : NTC o) : ∀ b u, upd F a o b = some u → NTC u := fun b u z => by
  by_cases e : b = a
  · rw [e, upd_same] at z
    cases z
    exact hn
  · rw [upd_ne e] at z
    exact h b u z
/-- a new cell of the frame -/
theorem World.takeF (W : World K T S w F H) (e : H a = none) (hn : ∀ ps, o ≠ .tbl ps) (hx : ∀ c q, o ≠ CodeO c q := by intro _ _ z; unfold CodeO at z; cases z) : World K T S w (upd F a o) (upd H a o) := by
  obtain ⟨e1, e2, e3⟩ := W.free e
  have sH : Same H (upd H a o) := same_upd e
  refine ⟨W.same.trans sH, W.notbl, fun b k q => ?_, fun b x q => ?_, W.tabs.ext sH, nf_upd W.nf ⟨hn, hx⟩⟩
  · have hb : b ≠ a := fun z => by
      rw [z, e2] at q
      cases q
    obtain ⟨q1, q2, x, q3, q4⟩ := W.own b k q
    exact ⟨q1, by rw [upd_ne hb]; exact q2, x, sH _ _ q3, q4⟩
  · by_cases hb : b = a
    · subst hb
      rw [upd_same] at q ⊢
      exact ⟨e1, q⟩
    · rw [upd_ne hb] at q
      obtain ⟨q1, q2⟩ := W.frm b x q
      exact ⟨q1, sH _ _ q2⟩
theorem TabS.put {H : Hp} {P a : Addr} {q : Str} {u o : HO} (t : TabS H P q) (e : H a = some u) (h1 : ∀ ps, u ≠ .tbl ps) (h2 : ∀ φ, u ≠ .ext φ) : TabS (upd H a o) P q := by
  obtain ⟨ps, k1, k2, k3⟩ := t
  refine ⟨ps, ?_, k2, fun pos cv hc => ?_⟩
  · rw [upd_ne (ne_of k1 e (fun z => h1 ps z.symm))]
    exact k1
  · obtain ⟨c, e1, e2⟩ := k3 pos cv hc
    refine ⟨c, e1, ?_⟩
    rw [upd_ne (ne_of e2 e (fun z => h2 _ z.symm))]
    exact e2
theorem RepH.notbl {h : HD} {o : HO} (r : RepH K S h o) : (∀ ps, o ≠ .tbl ps) ∧ (∀ φ, o ≠ .ext φ) := by
  cases h with
  | lst ds =>
    obtain ⟨xs, rfl, _⟩ := r
    exact ⟨fun _ z => (by cases z), fun _ z => (by cases z)⟩
  | ins C dx ns ds =>
    obtain ⟨ys, rfl, _⟩ := r
    exact ⟨fun _ z => (by cases z), fun _ z => (by cases z)⟩
  | dic kvs =>
    have r' : o = .dK kvs := r
    subst r'
    exact ⟨fun _ z => (by cases z), fun _ z => (by cases z)⟩
  | dcd ks ds =>
    obtain ⟨kvs, rfl, _⟩ := r
    exact ⟨fun _ z => (by cases z), fun _ z => (by cases z)⟩
/-- an owned cell is written -/
theorem World.put (W : World K T S w F H) {k : HD} (e : w a = some k) (r : RepH K S h o) : World K T S (wu w a h) F (upd H a o) := by
  obtain ⟨e1, e2, u, e3, e4⟩ := W.own a k e
  refine ⟨fun b x q => ?_, W.notbl, fun b k q => ?_, fun b x q => ?_, fun p hp => TabS.put (W.tabs p hp) e3 e4.notbl.1 e4.notbl.2, W.nf⟩
  · rw [upd_ne (ne_of_none q e1)]
    exact W.same _ _ q
  · by_cases hb : b = a
    · subst hb
      rw [wu_same] at q
      cases q
      exact ⟨e1, e2, o, upd_same, r⟩
    · rw [wu_ne hb] at q
      obtain ⟨q1, q2, x, q3, q4⟩ := W.own b k q
      exact ⟨q1, q2, x, by rw [upd_ne hb]; exact q3, q4⟩
  · obtain ⟨q1, q2⟩ := W.frm b x q
    refine ⟨q1, ?_⟩
    rw [upd_ne (fun z => by rw [z, e2] at q; cases q)]
    exact q2
/-- an owned cell stands from now on -/
theorem World.freeze (W : World K T S w F H) (e : w a = some h) : ∃ o, S a = none ∧ RepH K S h o ∧ World K T (upd S a o) (wd w a) F H := by
  obtain ⟨e1, e2, o, e3, e4⟩ := W.own a h e
  have sS : Same S (upd S a o) := same_upd e1
  refine ⟨o, e1, e4, fun b x q => ?_, fun b ps q => ?_, fun b k q => ?_, fun b x q => ?_, W.tabs, W.nf⟩
  · by_cases hb : b = a
    · subst hb
      rw [upd_same] at q
      rw [e3]
      exact q
    · rw [upd_ne hb] at q
      exact W.same _ _ q
  · by_cases hb : b = a
    · subst hb
      rw [upd_same] at q
      exact e4.notbl.1 ps (Option.some.inj q)
    · rw [upd_ne hb] at q
      exact W.notbl _ _ q
  · have hb : b ≠ a := fun z => by
      rw [z] at q
      have q' : (if a = a then none else w a) = some k := q
      rw [if_pos rfl] at q'
      cases q'
    have q' : w b = some k := by
      have q' : (if b = a then none else w b) = some k := q
      rw [if_neg hb] at q'
      exact q'
    obtain ⟨q1, q2, x, q3, q4⟩ := W.own b k q'
    exact ⟨by rw [upd_ne hb]; exact q1, q2, x, q3, q4.mono sS⟩
  · obtain ⟨q1, q2⟩ := W.frm b x q
    refine ⟨?_, q2⟩
    rw [upd_ne (fun z => by rw [z, e2] at q; cases q)]
    exact q1
/-- a cell of the frame is written; is taken out and stands -/
theorem World.putF (W : World K T S w F H) {u : HO} (e : F a = some u) (h1 : ∀ ps, u ≠ .tbl ps) (h2 : ∀ φ, u ≠ .ext φ) (hn : ∀ ps, o ≠ .tbl ps) (hx : ∀ c q, o ≠ CodeO c q := by intro _ _ z; unfold CodeO at z; cases z) : World K T S w (upd F a o) (upd H a o) := by
  obtain ⟨e1, e2⟩ := W.frm a u e
  refine ⟨fun b x q => ?_, W.notbl, fun b k q => ?_, fun b x q => ?_, fun p hp => TabS.put (W.tabs p hp) e2 h1 h2, nf_upd W.nf ⟨hn, hx⟩⟩
  · rw [upd_ne (ne_of_none q e1)]
    exact W.same _ _ q
  · obtain ⟨q1, q2, x, q3, q4⟩ := W.own b k q
    have hb : b ≠ a := fun z => by
      rw [z, e] at q2
      cases q2
    exact ⟨q1, by rw [upd_ne hb]; exact q2, x, by rw [upd_ne hb]; exact q3, q4⟩
  · by_cases hb : b = a
    · subst hb
      rw [upd_same] at q ⊢
      exact ⟨e1, q⟩
    · rw [upd_ne hb] at q
      obtain ⟨q1, q2⟩ := W.frm b x q
      exact ⟨q1, by rw [upd_ne hb]; exact q2⟩
theorem World.freezeF {F0 : Hp} (W : World K T S w (upd F0 a o) H) (e : F0 a = none) (h1 : ∀ ps, o ≠ .tbl ps) : S a = none ∧ World K T (upd S a o) w F0 H := by
  obtain ⟨e1, e2⟩ := W.frm a o upd_same
  have sS : Same S (upd S a o) := same_upd e1
  refine ⟨e1, fun b x q => ?_, fun b ps q => ?_, fun b k q => ?_, fun b x q => ?_, W.tabs, fun b u z => ?_⟩
  · by_cases hb : b = a
    · subst hb
      rw [upd_same] at q
      rw [e2]
      exact q
    · rw [upd_ne hb] at q
      exact W.same _ _ q
  · by_cases hb : b = a
    · subst hb
      rw [upd_same] at q
      exact h1 ps (Option.some.inj q)
    · rw [upd_ne hb] at q
      exact W.notbl _ _ q
  · obtain ⟨q1, q2, x, q3, q4⟩ := W.own b k q
    have hb : b ≠ a := fun z => by
      rw [z, upd_same] at q2
      cases q2
    refine ⟨by rw [upd_ne hb]; exact q1, ?_, x, q3, q4.mono sS⟩
    rw [upd_ne hb] at q2
    exact q2
  · have hb : b ≠ a := fun z => by
      rw [z, e] at q
      cases q
    obtain ⟨q1, q2⟩ := W.frm b x (by rw [upd_ne hb]; exact q)
    exact ⟨by rw [upd_ne hb]; exact q1, q2⟩
  · by_cases hb : b = a
    · rw [hb, e] at z
      cases z
    · exact W.nf b u (by rw [upd_ne hb]; exact z)
/-- a code object stands -/
theorem World.code {c : Addr} {q : Str} (W : World K T S w F H) (e : H c = some (CodeO c q)) : ∃ S', Same S S' ∧ S' c = some (CodeO c q) ∧ World K T S' w F H := by
  cases hS : S c with
  | some o =>
    have e2 := W.same c o hS
    rw [e] at e2
    cases e2
    exact ⟨S, Same.refl _, hS, W⟩
  | none =>
    have sS : Same S (upd S c (CodeO c q)) := same_upd hS
    refine ⟨upd S c (CodeO c q), sS, upd_same, fun b x q' => ?_, fun b ps q' => ?_, fun b k q' => ?_, fun b x q' => ?_, W.tabs, W.nf⟩
    · by_cases hb : b = c
      · subst hb
        rw [upd_same] at q'
        rw [e]
        exact q'
      · rw [upd_ne hb] at q'
        exact W.same _ _ q'
    · by_cases hb : b = c
      · subst hb
        rw [upd_same] at q'
        exact codeO_ne ps (Option.some.inj q')
      · rw [upd_ne hb] at q'
        exact W.notbl _ _ q'
    · obtain ⟨q1, q2, x, q3, q4⟩ := W.own b k q'
      have hb : b ≠ c := fun z => by
        rw [z, e] at q3
        exact q4.notbl.2 _ (Option.some.inj q3).symm
      exact ⟨by rw [upd_ne hb]; exact q1, q2, x, q3, q4.mono sS⟩
    · obtain ⟨q1, q2⟩ := W.frm b x q'
      have hb : b ≠ c := fun z => by
        rw [z] at q2 q'
        rw [e] at q2
        exact (W.nf c x q').2 c q (Option.some.inj q2).symm
      exact ⟨by rw [upd_ne hb]; exact q1, q2⟩
end
/-! ### the frame's slots, in data -/
abbrev Dn := List (Option D)
structure EnvD (K : PySem.W.Frag) (S : Hp) (δ : Dn) (σ : L2.St) : Prop where
  len : δ.length = σ.length
  at_ : ∀ (i : Nat) (d : D), δ[i]? = some (some d) → ∃ v, σ[i]? = some (some v) ∧ Rep K S d v
theorem EnvD.mono {K : PySem.W.Frag} {S S' : Hp} {δ : Dn} {σ : L2.St} (e : Same S S') (h : EnvD K S δ σ) : EnvD K S' δ σ := ⟨h.len, fun i d q => by
  obtain ⟨v, h1, h2⟩ := h.at_ i d q
  exact ⟨v, h1, h2.mono e⟩⟩
theorem EnvD.set {K : PySem.W.Frag} {S : Hp} {δ : Dn} {σ : L2.St} (h : EnvD K S δ σ) (i : Nat) {d : D} {v : V} (r : Rep K S d v) : EnvD K S (δ.set i (some d)) (σ.set i (some v)) := by
  refine ⟨by rw [List.length_set, List.length_set]; exact h.len, fun j d' q => ?_⟩
  by_cases e : i = j
  · subst e
    by_cases hl : i < δ.length
    · rw [List.getElem?_set_self hl] at q
      cases q
      exact ⟨v, by rw [List.getElem?_set_self (by rw [← h.len]; exact hl)], r⟩
    · rw [List.getElem?_eq_none (by simpa using hl)] at q
      cases q
  · rw [List.getElem?_set_ne e] at q
    obtain ⟨v', h1, h2⟩ := h.at_ j d' q
    exact ⟨v', by rw [List.getElem?_set_ne e]; exact h1, h2⟩
theorem EnvD.unset {K : PySem.W.Frag} {S : Hp} {δ : Dn} {σ : L2.St} (h : EnvD K S δ σ) (i : Nat) : EnvD K S (δ.set i none) (σ.set i none) := by
  refine ⟨by rw [List.length_set, List.length_set]; exact h.len, fun j d' q => ?_⟩
  by_cases e : i = j
  · subst e
    by_cases hl : i < δ.length
    · rw [List.getElem?_set_self hl] at q
      cases q
    · rw [List.getElem?_eq_none (by simpa using hl)] at q
      cases q
  · rw [List.getElem?_set_ne e] at q
    obtain ⟨v', h1, h2⟩ := h.at_ j d' q
    exact ⟨v', by rw [List.getElem?_set_ne e]; exact h1, h2⟩
def wipeD (δ : Dn) : List Nat → Dn
  | [] => δ
  | v :: vs => (wipeD δ vs).set v none
theorem EnvD.wipe {K : PySem.W.Frag} {S : Hp} {δ : Dn} {σ : L2.St} (h : EnvD K S δ σ) : ∀ vs : List Nat, EnvD K S (wipeD δ vs) (L2.wipe σ vs)
  | [] => h
  | v :: vs => (EnvD.wipe h vs).unset v
/-- a slot's data is told otherwise -/
theorem EnvD.tell {K : PySem.W.Frag} {S : Hp} {δ : Dn} {σ : L2.St} (h : EnvD K S δ σ) (i : Nat) {d d' : D} (q : δ[i]? = some (some d)) (r : ∀ v, Rep K S d v → Rep K S d' v) : EnvD K S (δ.set i (some d')) σ := by
  refine ⟨by rw [List.length_set]; exact h.len, fun j e q' => ?_⟩
  by_cases z : i = j
  · subst z
    have hl : i < δ.length := (List.getElem?_eq_some_iff.mp q).1
    rw [List.getElem?_set_self hl] at q'
    cases q'
    obtain ⟨v, h1, h2⟩ := h.at_ i d q
    exact ⟨v, h1, r v h2⟩
  · rw [List.getElem?_set_ne z] at q'
    exact h.at_ j e q'
end DL

set_option Elab.async false
set_option linter.all false
set_option maxRecDepth 100000
set_option maxHeartbeats 1000000
/-! The judgements in data: expressions, tests, argument lists, statements. -/
namespace DL
open PySem PySem.Spec PyProof.Rows L2 LamX
/-! ### the weakest readings -/
section
variable (X : Cx)
def wpE (e : Expr) : TE := fun σ H Q => ∀ pins s, Inv X pins σ H s → wpAny (model X.prog X.w) X.A (eval e X.env) (EP X pins σ Q) X.xe s
def wpT (e : Expr) : TT := fun σ H Q => ∀ pins s, Inv X pins σ H s → wpAny (model X.prog X.w) X.A (isTrue e X.env (eval e X.env)) (TP X pins σ Q) X.xe s
def wpA (es : List Expr) : TA := fun σ H Q => ∀ (pos : Pos) pins s, Inv X pins σ H s → wpAny (model X.prog X.w) X.A (spliced (backTo pos (starEach es X.env))) (AP X pins σ Q) X.xe s
def wpS (st : Stmt) : TS := fun D σ H => ∀ pins s, Inv X pins σ H s → wpAny (model X.prog X.w) X.A (exec st X.env) (SP X pins D) X.xe s
def wpSs (st : List Stmt) : TS := fun D σ H => ∀ pins s, Inv X pins σ H s → wpAny (model X.prog X.w) X.A (execs st X.env) (SP X pins D) X.xe s
def wpG (tg : Expr) : TG := fun v σ H Q => ∀ pins s u, Inv X pins σ H s → RelV v u → wpAny (model X.prog X.w) X.A (assign tg X.env u) (fun _ s' => ∃ σ' H', Inv X pins σ' H' s' ∧ Q σ' H') X.xe s
def wpTs (ifs : List Expr) : TT := fun σ H Q => ∀ pins s, Inv X pins σ H s → wpAny (model X.prog X.w) X.A (forIn ifs true fun c r => if r = true then do let ok ← isTrue c X.env (eval c X.env); pure (ForInStep.yield ok) else pure (ForInStep.yield r)) (TP X pins σ Q) X.xe s
end
section
variable {X : Cx}
theorem pe_wp (e : Expr) : PE X e (wpE X e) := ⟨fun pins s _ _ _ I h => h pins s I⟩
theorem pt_wp (e : Expr) : PT X e (wpT X e) := ⟨fun pins s _ _ _ I h => h pins s I⟩
theorem pa_wp (es : List Expr) : PA X es (wpA X es) := ⟨fun pos pins s _ _ _ I h => h pos pins s I⟩
theorem ps_wp (st : Stmt) : PS X st (wpS X st) := ⟨fun pins s _ _ _ I h => h pins s I⟩
theorem pss_wp (st : List Stmt) : PSs X st (wpSs X st) := ⟨fun pins s _ _ _ I h => h pins s I⟩
theorem pg_wp (tg : Expr) : PG X tg (wpG X tg) := ⟨fun pins s _ _ _ u _ I r h => h pins s u I r⟩
theorem pts_wp (ifs : List Expr) : PTs X ifs (wpTs X ifs) := ⟨fun pins s _ _ _ I h => h pins s I⟩
theorem wp_pe {e : Expr} {t : TE} (h : PE X e t) {σ : L2.St} {H : Hp} {Q : VK} (q : t σ H Q) : wpE X e σ H Q := fun pins s I => h.run pins s σ H Q I q
theorem wp_pt {e : Expr} {t : TT} (h : PT X e t) {σ : L2.St} {H : Hp} {Q : Bool → Hp → Prop} (q : t σ H Q) : wpT X e σ H Q := fun pins s I => h.run pins s σ H Q I q
theorem wp_pa {es : List Expr} {t : TA} (h : PA X es t) {σ : L2.St} {H : Hp} {Q : List V → Hp → Prop} (q : t σ H Q) : wpA X es σ H Q := fun pos pins s I => h.run pos pins s σ H Q I q
theorem wp_ps {st : Stmt} {t : TS} (h : PS X st t) {σ : L2.St} {H : Hp} {D : Ends} (q : t D σ H) : wpS X st D σ H := fun pins s I => h.run pins s σ H D I q
theorem wp_pss {st : List Stmt} {t : TS} (h : PSs X st t) {σ : L2.St} {H : Hp} {D : Ends} (q : t D σ H) : wpSs X st D σ H := fun pins s I => h.run pins s σ H D I q
theorem wp_pg {tg : Expr} {t : TG} (h : PG X tg t) {v : V} {σ : L2.St} {H : Hp} {Q : L2.St → Hp → Prop} (q : t v σ H Q) : wpG X tg v σ H Q := fun pins s u I r => h.run pins s σ H v u Q I r q
end
/-! ### wishes in data -/
/-- an exception's wish: class, fields, owned cells -/
abbrev XD := Addr → List Str → List D → Wp → Prop
abbrev noX : XD := fun _ _ _ _ => False
/-- an exception's own dict -/
def XdR (K : PySem.W.Frag) (S : Hp) (d : Addr) (ns : List Str) (ds : List D) : Prop := ∃ ys, S d = some (.xd ys) ∧ ys.map (·.1) = ns ∧ RepL K S ds (ys.map (·.2))
/-- W takes what χ tells -/
def ExD (K : PySem.W.Frag) (T : List (Addr × Str)) (W : WX) (χ : XD) (σ : L2.St) (S F : Hp) : Prop :=
  ∀ C ns ds w' d S' H', χ C ns ds w' → Same S S' → World K T S' w' F H' → XdR K S' d ns ds → W (.ref C) (some d) σ H'
def KD (K : PySem.W.Frag) (T : List (Addr × Str)) (κ : D → Wp → Prop) (S F : Hp) (Q : VK) : Prop :=
  ∀ d w' v S' H', κ d w' → Same S S' → World K T S' w' F H' → Rep K S' d v → Q v H'
def KB (K : PySem.W.Frag) (T : List (Addr × Str)) (κ : Bool → Wp → Prop) (S F : Hp) (Q : Bool → Hp → Prop) : Prop :=
  ∀ b w' S' H', κ b w' → Same S S' → World K T S' w' F H' → Q b H'
def KA (K : PySem.W.Frag) (T : List (Addr × Str)) (κ : List D → Wp → Prop) (S F : Hp) (Q : List V → Hp → Prop) : Prop :=
  ∀ ds w' vs S' H', κ ds w' → Same S S' → World K T S' w' F H' → RepL K S' ds vs → Q vs H'
def KS (K : PySem.W.Frag) (T : List (Addr × Str)) (κ : Dn → Wp → Prop) (S F : Hp) (Q : L2.St → Hp → Prop) : Prop :=
  ∀ δ' w' σ' S' H', κ δ' w' → Same S S' → EnvD K S' δ' σ' → World K T S' w' F H' → Q σ' H'
section
variable {K : PySem.W.Frag} {T : List (Addr × Str)} {W : WX} {χ : XD} {σ : L2.St} {S S' F : Hp}
theorem ExD.mono (e : Same S S') (h : ExD K T W χ σ S F) : ExD K T W χ σ S' F := fun C ns ds w' d S2 H2 x s1 wd r => h C ns ds w' d S2 H2 x (e.trans s1) wd r
theorem KD.mono {κ : D → Wp → Prop} {Q : VK} (e : Same S S') (h : KD K T κ S F Q) : KD K T κ S' F Q := fun d w' v S2 H2 x s1 wd r => h d w' v S2 H2 x (e.trans s1) wd r
theorem KB.mono {κ : Bool → Wp → Prop} {Q : Bool → Hp → Prop} (e : Same S S') (h : KB K T κ S F Q) : KB K T κ S' F Q := fun d w' S2 H2 x s1 wd => h d w' S2 H2 x (e.trans s1) wd
theorem KA.mono {κ : List D → Wp → Prop} {Q : List V → Hp → Prop} (e : Same S S') (h : KA K T κ S F Q) : KA K T κ S' F Q := fun d w' v S2 H2 x s1 wd r => h d w' v S2 H2 x (e.trans s1) wd r
theorem KS.mono {κ : Dn → Wp → Prop} {Q : L2.St → Hp → Prop} (e : Same S S') (h : KS K T κ S F Q) : KS K T κ S' F Q := fun d w' v S2 H2 x s1 en wd => h d w' v S2 H2 x (e.trans s1) en wd
end
/-! ### the judgements -/
section
variable (X : Cx) (T : List (Addr × Str)) (W : WX) (χ : XD)
def PD (e : Expr) (δ : Dn) (w : Wp) (κ : D → Wp → Prop) : Prop :=
  ∀ (F : Hp) (σ : L2.St) (S H : Hp) (Q : VK), EnvD X.K S δ σ → World X.K T S w F H → ExD X.K T W χ σ S F → KD X.K T κ S F Q → wpE X e σ H Q
def PTD (e : Expr) (δ : Dn) (w : Wp) (κ : Bool → Wp → Prop) : Prop :=
  ∀ (F : Hp) (σ : L2.St) (S H : Hp) (Q : Bool → Hp → Prop), EnvD X.K S δ σ → World X.K T S w F H → ExD X.K T W χ σ S F → KB X.K T κ S F Q → wpT X e σ H Q
/-- a test whatever its whole is -/
def PWD (e : Expr) (δ : Dn) (w : Wp) (κ : Bool → Wp → Prop) : Prop :=
  ∀ (F : Hp) (σ : L2.St) (S H : Hp) (Q : Bool → Hp → Prop), EnvD X.K S δ σ → World X.K T S w F H → ExD X.K T W χ σ S F → KB X.K T κ S F Q →
    ∀ (whole : Sem Value) pins s, Inv X pins σ H s → wpAny (model X.prog X.w) X.A (isTrue e X.env whole) (TP X pins σ Q) X.xe s
def PAD (es : List Expr) (δ : Dn) (w : Wp) (κ : List D → Wp → Prop) : Prop :=
  ∀ (F : Hp) (σ : L2.St) (S H : Hp) (Q : List V → Hp → Prop), EnvD X.K S δ σ → World X.K T S w F H → ExD X.K T W χ σ S F → KA X.K T κ S F Q → wpA X es σ H Q
def PGD (tg : Expr) (d : D) (δ : Dn) (w : Wp) (κ : Dn → Wp → Prop) : Prop :=
  ∀ (F : Hp) (v : V) (σ : L2.St) (S H : Hp) (Q : L2.St → Hp → Prop), Rep X.K S d v → EnvD X.K S δ σ → World X.K T S w F H → KS X.K T κ S F Q → wpG X tg v σ H Q
structure Fin where
  nx : Dn → Wp → Prop
  rt : D → Wp → Prop
  bk : Dn → Wp → Prop := fun _ _ => False
  ct : Dn → Wp → Prop := fun _ _ => False
structure KE (C : Fin) (S F : Hp) (E : Ends) : Prop where
  nx : KS X.K T C.nx S F E.nx
  rt : KD X.K T C.rt S F E.rt
  bk : KS X.K T C.bk S F E.bk
  ct : KS X.K T C.ct S F E.ct
def ExS (S F : Hp) : Prop := ∀ σ, ExD X.K T W χ σ S F
def PSD (st : Stmt) (δ : Dn) (w : Wp) (C : Fin) : Prop :=
  ∀ (F : Hp) (σ : L2.St) (S H : Hp) (E : Ends), EnvD X.K S δ σ → World X.K T S w F H → ExS X T W χ S F → KE X T C S F E → wpS X st E σ H
def PSsD (sts : List Stmt) (δ : Dn) (w : Wp) (C : Fin) : Prop :=
  ∀ (F : Hp) (σ : L2.St) (S H : Hp) (E : Ends), EnvD X.K S δ σ → World X.K T S w F H → ExS X T W χ S F → KE X T C S F E → wpSs X sts E σ H
end
section
variable {X : Cx} {T : List (Addr × Str)} {W : WX} {χ : XD} {δ : Dn} {w : Wp} {pos : Pos}
theorem KE.mono {C : Fin} {S S' F : Hp} {E : Ends} (e : Same S S') (h : KE X T C S F E) : KE X T C S' F E := ⟨h.nx.mono e, h.rt.mono e, h.bk.mono e, h.ct.mono e⟩
theorem ExS.mono {S S' F : Hp} (e : Same S S') (h : ExS X T W χ S F) : ExS X T W χ S' F := fun σ => (h σ).mono e
theorem PD.imp {e : Expr} {κ κ' : D → Wp → Prop} (h : PD X T W χ e δ w κ) (i : ∀ d w', κ d w' → κ' d w') : PD X T W χ e δ w κ' :=
  fun F σ S H Q hE hW hX hK => h F σ S H Q hE hW hX fun d w' v S' H' x => hK d w' v S' H' (i d w' x)
theorem PSsD.imp {sts : List Stmt} {C C' : Fin} (h : PSsD X T W χ sts δ w C) (hn : ∀ δ' w', C.nx δ' w' → C'.nx δ' w') (hr : ∀ d w', C.rt d w' → C'.rt d w') (hb : ∀ δ' w', C.bk δ' w' → C'.bk δ' w') (hc : ∀ δ' w', C.ct δ' w' → C'.ct δ' w') : PSsD X T W χ sts δ w C' :=
  fun F σ S H E hE hW hX hK => h F σ S H E hE hW hX ⟨fun δ' w' σ' S' H' x => hK.nx δ' w' σ' S' H' (hn _ _ x), fun d w' v S' H' x => hK.rt d w' v S' H' (hr _ _ x), fun δ' w' σ' S' H' x => hK.bk δ' w' σ' S' H' (hb _ _ x), fun δ' w' σ' S' H' x => hK.ct δ' w' σ' S' H' (hc _ _ x)⟩
/-! ### names and constants -/
theorem pd_var {x : Str} {i : Nat} {d : D} {κ : D → Wp → Prop} (hN : X.N[i]? = some x) (hd : δ[i]? = some (some d)) (k : κ d w)
    (hv : Vis X.env.scope x := by first | exact Or.inl rfl | exact Or.inr (Or.inl rfl) | exact Or.inr (Or.inr rfl)) (h1 : (x == ("__debug__" : Str)) = false := by decide) (h2 : (x == ("__classdict__" : Str)) = false := by decide) :
    PD X T W χ (.Name x pos) δ w κ := fun F σ S H Q hE hW hX hK => by
  obtain ⟨v, e1, r⟩ := hE.at_ i d hd
  exact wp_pe (pe_var hN hv h1 h2) ⟨v, e1, hK d w v S H k (Same.refl _) hW r⟩
theorem pd_int {i : Int} {j : Nat} {κ : D → Wp → Prop} (k : κ (I i) w) : PD X T W χ (.Constant (.int i) j pos) δ w κ := fun F σ S H Q hE hW hX hK => wp_pe pe_int (hK _ w _ S H k (Same.refl _) hW rfl)
theorem pd_bl {b : Bool} {j : Nat} {κ : D → Wp → Prop} (k : κ (B b) w) : PD X T W χ (.Constant (.bool b) j pos) δ w κ := fun F σ S H Q hE hW hX hK => wp_pe pe_bl (hK _ w _ S H k (Same.refl _) hW rfl)
theorem pd_non {j : Nat} {κ : D → Wp → Prop} (k : κ N w) : PD X T W χ (.Constant .none j pos) δ w κ := fun F σ S H Q hE hW hX hK => wp_pe pe_non (hK _ w _ S H k (Same.refl _) hW rfl)
theorem pd_str {x : Str} {j : Nat} {κ : D → Wp → Prop} (k : κ (DL.T x) w) : PD X T W χ (.Constant (.str x) j pos) δ w κ := fun F σ S H Q hE hW hX hK => wp_pe pe_str (hK _ w _ S H k (Same.refl _) hW rfl)
/-! ### argument lists -/
theorem pad_nil {κ : List D → Wp → Prop} (k : κ [] w) : PAD X T W χ [] δ w κ := fun F σ S H Q hE hW hX hK => wp_pa pa_nil (hK _ w _ S H k (Same.refl _) hW rfl)
theorem pad_cons {e : Expr} {es : List Expr} {κ : List D → Wp → Prop} (h : PD X T W χ e δ w fun d w1 => PAD X T W χ es δ w1 fun ds w2 => κ (d :: ds) w2)
    (hs : starEach (e :: es) X.env = (false, eval e X.env) :: starEach es X.env := by rfl) : PAD X T W χ (e :: es) δ w κ := fun F σ S H Q hE hW hX hK => by
  refine wp_pa (pa_cons (pe_wp e) (pa_wp es) hs) ?_
  refine h F σ S H _ hE hW hX fun d w1 v S1 H1 k s1 W1 r => ?_
  refine k F σ S1 H1 _ (hE.mono s1) W1 (hX.mono s1) fun ds w2 vs S2 H2 k2 s2 W2 r2 => ?_
  exact hK _ w2 _ S2 H2 k2 (s1.trans s2) W2 ⟨v, vs, rfl, r.mono s2, r2⟩
/-! ### operators, by values -/
/-- the value rule r, in data -/
def VR1 (K : PySem.W.Frag) (T : List (Addr × Str)) (r : V → Hp → VK → Prop) (d : D) (w : Wp) (κ : D → Wp → Prop) : Prop :=
  ∀ (F S H : Hp) (x : V) (Q : VK), World K T S w F H → Rep K S d x → KD K T κ S F Q → r x H Q
def VR2 (K : PySem.W.Frag) (T : List (Addr × Str)) (r : R2) (d e : D) (w : Wp) (κ : D → Wp → Prop) : Prop :=
  ∀ (F S H : Hp) (x y : V) (Q : VK), World K T S w F H → Rep K S d x → Rep K S e y → KD K T κ S F Q → r x y H Q
def VRA (K : PySem.W.Frag) (T : List (Addr × Str)) (r : List V → Hp → VK → Prop) (ds : List D) (w : Wp) (κ : D → Wp → Prop) : Prop :=
  ∀ (F S H : Hp) (xs : List V) (Q : VK), World K T S w F H → RepL K S ds xs → KD K T κ S F Q → r xs H Q
def VRM (K : PySem.W.Frag) (T : List (Addr × Str)) (r : V → List V → Hp → VK → Prop) (d : D) (ds : List D) (w : Wp) (κ : D → Wp → Prop) : Prop :=
  ∀ (F S H : Hp) (x : V) (xs : List V) (Q : VK), World K T S w F H → Rep K S d x → RepL K S ds xs → KD K T κ S F Q → r x xs H Q
theorem two {a b : Expr} {r : R2} {κ : D → Wp → Prop} (h : PD X T W χ a δ w fun d w1 => PD X T W χ b δ w1 fun e w2 => VR2 X.K T r d e w2 κ) {F : Hp} {σ : L2.St} {S H : Hp} {Q : VK} (hE : EnvD X.K S δ σ) (hW : World X.K T S w F H) (hX : ExD X.K T W χ σ S F) (hK : KD X.K T κ S F Q) :
    tOp r (wpE X a) (wpE X b) σ H Q := by
  refine h F σ S H _ hE hW hX fun d w1 v S1 H1 k s1 W1 r1 => ?_
  refine k F σ S1 H1 _ (hE.mono s1) W1 (hX.mono s1) fun e w2 u S2 H2 k2 s2 W2 r2 => ?_
  exact k2 F S2 H2 v u _ W2 (r1.mono s2) r2 (hK.mono (s1.trans s2))
theorem pd_op {a b : Expr} {op : Operator} {r : R2} {κ : D → Wp → Prop} (ho : OpR X (binaryOp op) r) (h : PD X T W χ a δ w fun d w1 => PD X T W χ b δ w1 fun e w2 => VR2 X.K T r d e w2 κ) : PD X T W χ (.BinOp a op b pos) δ w κ :=
  fun F σ S H Q hE hW hX hK => wp_pe (pe_op ho (pe_wp a) (pe_wp b)) (two h hE hW hX hK)
theorem pd_cmp {a b : Expr} {op : CmpOp} {r : R2} {κ : D → Wp → Prop} (ho : OpR X (compareOp op) r) (h : PD X T W χ a δ w fun d w1 => PD X T W χ b δ w1 fun e w2 => VR2 X.K T r d e w2 κ)
    (hm : behindInMarks op b = false := by first | exact nomark _ | rfl) : PD X T W χ (.Compare a [op] [b] pos) δ w κ :=
  fun F σ S H Q hE hW hX hK => wp_pe (pe_cmpR ho (pe_wp a) (pe_wp b) hm) (two h hE hW hX hK)
theorem pd_un {a : Expr} {op : UnaryOp} {r : V → Hp → VK → Prop} {κ : D → Wp → Prop} (ho : UnR X (unaryOp op) r) (h : PD X T W χ a δ w fun d w1 => VR1 X.K T r d w1 κ) : PD X T W χ (.UnaryOp op a pos) δ w κ :=
  fun F σ S H Q hE hW hX hK => wp_pe (pe_un ho (pe_wp a)) (by
    refine h F σ S H _ hE hW hX fun d w1 v S1 H1 k s1 W1 r1 => ?_
    exact k F S1 H1 v _ W1 r1 (hK.mono s1))
theorem pd_ix {a b : Expr} {r : R2} {κ : D → Wp → Prop} (ho : IxR X r) (h : PD X T W χ a δ w fun d w1 => PD X T W χ b δ w1 fun e w2 => VR2 X.K T r d e w2 κ) (hs : PlainIx b := by exact fun _ _ => rfl) : PD X T W χ (.Subscript a b pos) δ w κ :=
  fun F σ S H Q hE hW hX hK => wp_pe (pe_ix ho (pe_wp a) (pe_wp b) hs) (two h hE hW hX hK)
/-! ### tests -/
/-- an expression whose value is a bool, as a test -/
theorem ptd_val {e : Expr} {κ : Bool → Wp → Prop} (h : PD X T W χ e δ w fun d w' => ∃ b, d = B b ∧ κ b w')
    (he : ∀ whole, isTrue e X.env whole = (do let v ← whole; standAt e.pos; holding [v] (truthy v)) := by intro _; rfl) : PTD X T W χ e δ w κ :=
  fun F σ S H Q hE hW hX hK => wp_pt (pt_val (pe_wp e) he) (by
    refine h F σ S H _ hE hW hX fun d w' v S' H' k s1 W1 r => ?_
    obtain ⟨b, rfl, k⟩ := k
    have rv : v = .bl b := r
    exact ⟨b, rv, hK b w' S' H' k s1 W1⟩)
/-- a comparison, as a test -/
theorem ptd_cmp {a b : Expr} {op : CmpOp} {r : R2} {κ : Bool → Wp → Prop} (ho : OpR X (compareOp op) r) (h : PD X T W χ a δ w fun d w1 => PD X T W χ b δ w1 fun e w2 => VR2 X.K T r d e w2 fun d w' => ∃ b, d = B b ∧ κ b w')
    (hm : behindInMarks op b = false := by first | exact nomark _ | rfl) : PTD X T W χ (.Compare a [op] [b] pos) δ w κ :=
  fun F σ S H Q hE hW hX hK => wp_pt (pt_cmpR ho (pe_wp a) (pe_wp b) hm) (two (κ := fun d w' => ∃ b, d = B b ∧ κ b w') h hE hW hX fun d w' v S' H' k s1 W1 r => by
    obtain ⟨b, rfl, k⟩ := k
    have rv : v = .bl b := r
    exact ⟨b, rv, hK b w' S' H' k s1 W1⟩)
theorem ptd_not {e : Expr} {κ : Bool → Wp → Prop} (h : PTD X T W χ e δ w fun b w' => κ (!b) w') : PTD X T W χ (.UnaryOp .Not e pos) δ w κ :=
  fun F σ S H Q hE hW hX hK => wp_pt (pt_not (pt_wp e)) (by
    refine h F σ S H _ hE hW hX fun b w' S' H' k s1 W1 => ?_
    exact hK _ w' S' H' k s1 W1)
theorem pwd_pt {e : Expr} {κ : Bool → Wp → Prop} (h : PWD X T W χ e δ w κ) : PTD X T W χ e δ w κ := fun F σ S H Q hE hW hX hK pins s I => h F σ S H Q hE hW hX hK _ pins s I
theorem pwd_and1 {a : Expr} {κ : Bool → Wp → Prop} (h : PTD X T W χ a δ w κ) : PWD X T W χ (.BoolOp .And [a] pos) δ w κ := fun F σ S H Q hE hW hX hK whole pins s I =>
  (pw_and1 (pt_wp a)).run whole pins s σ H Q I (h F σ S H Q hE hW hX hK)
theorem pwd_or1 {a : Expr} {κ : Bool → Wp → Prop} (h : PTD X T W χ a δ w κ) : PWD X T W χ (.BoolOp .Or [a] pos) δ w κ := fun F σ S H Q hE hW hX hK whole pins s I =>
  (pw_or1 (pt_wp a)).run whole pins s σ H Q I (h F σ S H Q hE hW hX hK)
def wpW (X : Cx) (e : Expr) : TT := fun σ H Q => ∀ whole pins s, Inv X pins σ H s → wpAny (model X.prog X.w) X.A (isTrue e X.env whole) (TP X pins σ Q) X.xe s
theorem pw_wp (e : Expr) : PW X e (wpW X e) := ⟨fun whole pins s _ _ _ I h => h whole pins s I⟩
theorem pwd_and {a b : Expr} {rest : List Expr} {κ : Bool → Wp → Prop} (h : PTD X T W χ a δ w fun c w1 => if c = true then PWD X T W χ (.BoolOp .And (b :: rest) pos) δ w1 κ else κ false w1) : PWD X T W χ (.BoolOp .And (a :: b :: rest) pos) δ w κ :=
  fun F σ S H Q hE hW hX hK whole pins s I => (pw_and (pt_wp a) (pw_wp _)).run whole pins s σ H Q I (by
    refine h F σ S H _ hE hW hX fun c w1 S1 H1 k s1 W1 => ?_
    cases c with
    | true =>
      rw [if_pos rfl] at k ⊢
      exact fun whole pins s I => k F σ S1 H1 Q (hE.mono s1) W1 (hX.mono s1) (hK.mono s1) whole pins s I
    | false =>
      rw [if_neg Bool.false_ne_true] at k ⊢
      exact hK _ w1 S1 H1 k s1 W1)
theorem pwd_or {a b : Expr} {rest : List Expr} {κ : Bool → Wp → Prop} (h : PTD X T W χ a δ w fun c w1 => if c = true then κ true w1 else PWD X T W χ (.BoolOp .Or (b :: rest) pos) δ w1 κ) : PWD X T W χ (.BoolOp .Or (a :: b :: rest) pos) δ w κ :=
  fun F σ S H Q hE hW hX hK whole pins s I => (pw_or (pt_wp a) (pw_wp _)).run whole pins s σ H Q I (by
    refine h F σ S H _ hE hW hX fun c w1 S1 H1 k s1 W1 => ?_
    cases c with
    | true =>
      rw [if_pos rfl] at k ⊢
      exact hK _ w1 S1 H1 k s1 W1
    | false =>
      rw [if_neg Bool.false_ne_true] at k ⊢
      exact fun whole pins s I => k F σ S1 H1 Q (hE.mono s1) W1 (hX.mono s1) (hK.mono s1) whole pins s I)
/-- and, or as values -/
theorem pd_and {a b : Expr} {rest : List Expr} {κ : D → Wp → Prop} (h : PD X T W χ a δ w fun d w1 => ∃ c, d = B c ∧ if c = true then PD X T W χ (.BoolOp .And (b :: rest) pos) δ w1 κ else κ (B false) w1) : PD X T W χ (.BoolOp .And (a :: b :: rest) pos) δ w κ :=
  fun F σ S H Q hE hW hX hK => wp_pe (pe_and (pe_wp a) (pe_wp _)) (by
    refine h F σ S H _ hE hW hX fun d w1 v S1 H1 k s1 W1 r => ?_
    obtain ⟨c, rfl, k⟩ := k
    have rv : v = .bl c := r
    refine ⟨c, rv, ?_⟩
    cases c with
    | true =>
      rw [if_pos rfl] at k ⊢
      exact k F σ S1 H1 Q (hE.mono s1) W1 (hX.mono s1) (hK.mono s1)
    | false =>
      rw [if_neg Bool.false_ne_true] at k ⊢
      exact hK _ w1 _ S1 H1 k s1 W1 rfl)
theorem pd_or {a b : Expr} {rest : List Expr} {κ : D → Wp → Prop} (h : PD X T W χ a δ w fun d w1 => ∃ c, d = B c ∧ if c = true then κ (B true) w1 else PD X T W χ (.BoolOp .Or (b :: rest) pos) δ w1 κ) : PD X T W χ (.BoolOp .Or (a :: b :: rest) pos) δ w κ :=
  fun F σ S H Q hE hW hX hK => wp_pe (pe_or (pe_wp a) (pe_wp _)) (by
    refine h F σ S H _ hE hW hX fun d w1 v S1 H1 k s1 W1 r => ?_
    obtain ⟨c, rfl, k⟩ := k
    have rv : v = .bl c := r
    refine ⟨c, rv, ?_⟩
    cases c with
    | true =>
      rw [if_pos rfl] at k ⊢
      exact hK _ w1 _ S1 H1 k s1 W1 rfl
    | false =>
      rw [if_neg Bool.false_ne_true] at k ⊢
      exact k F σ S1 H1 Q (hE.mono s1) W1 (hX.mono s1) (hK.mono s1))
theorem pd_one {op : BoolOp} {a : Expr} {κ : D → Wp → Prop} (h : PD X T W χ a δ w κ) : PD X T W χ (.BoolOp op [a] pos) δ w κ := fun F σ S H Q hE hW hX hK => wp_pe (pe_one (pe_wp a)) (h F σ S H Q hE hW hX hK)
theorem pd_not {a : Expr} {κ : D → Wp → Prop} (h : PD X T W χ a δ w fun d w1 => ∃ c, d = B c ∧ κ (B (!c)) w1) : PD X T W χ (.UnaryOp .Not a pos) δ w κ := fun F σ S H Q hE hW hX hK => wp_pe (pe_not (pe_wp a)) (by
  refine h F σ S H _ hE hW hX fun d w1 v S1 H1 k s1 W1 r => ?_
  obtain ⟨c, rfl, k⟩ := k
  have rv : v = .bl c := r
  exact ⟨c, rv, hK _ w1 _ S1 H1 k s1 W1 rfl⟩)
theorem pd_if {c a b : Expr} {κ : D → Wp → Prop} (h : PTD X T W χ c δ w fun k w1 => if k = true then PD X T W χ a δ w1 κ else PD X T W χ b δ w1 κ) : PD X T W χ (.IfExp c a b pos) δ w κ := fun F σ S H Q hE hW hX hK => wp_pe (pe_ifExp (pt_wp c) (pe_wp a) (pe_wp b)) (by
  refine h F σ S H _ hE hW hX fun k w1 S1 H1 q s1 W1 => ?_
  cases k with
  | true =>
    rw [if_pos rfl] at q ⊢
    exact q F σ S1 H1 Q (hE.mono s1) W1 (hX.mono s1) (hK.mono s1)
  | false =>
    rw [if_neg Bool.false_ne_true] at q ⊢
    exact q F σ S1 H1 Q (hE.mono s1) W1 (hX.mono s1) (hK.mono s1))
/-! ### displays -/
theorem pd_lst {es : List Expr} {κ : D → Wp → Prop} (h : PAD X T W χ es δ w fun ds w1 => ds.length ≤ sizeLine ∧ κ (.lst ds) w1) : PD X T W χ (.List es pos) δ w κ := fun F σ S H Q hE hW hX hK => wp_pe (pe_lst (pa_wp es)) (by
  refine h F σ S H _ hE hW hX fun ds w1 vs S1 H1 k s1 W1 r => ?_
  refine ⟨by rw [r.length]; exact k.1, fun p hp => ?_⟩
  have s2 : Same S1 (upd S1 p (.lst vs)) := same_upd (W1.free hp).1
  exact hK _ w1 _ _ _ k.2 (s1.trans s2) (W1.laid hp fun _ z => by cases z) ⟨p, vs, rfl, upd_same, r.mono s2⟩)
/-- an owned list -/
theorem pd_lstO {es : List Expr} {κ : D → Wp → Prop} (h : PAD X T W χ es δ w fun ds w1 => ds.length ≤ sizeLine ∧ ∀ a, w1 a = none → κ (R a) (wu w1 a (.lst ds))) : PD X T W χ (.List es pos) δ w κ := fun F σ S H Q hE hW hX hK => wp_pe (pe_lst (pa_wp es)) (by
  refine h F σ S H _ hE hW hX fun ds w1 vs S1 H1 k s1 W1 r => ?_
  refine ⟨by rw [r.length]; exact k.1, fun p hp => ?_⟩
  exact hK _ _ _ _ _ (k.2 p (W1.free hp).2.1) s1 (W1.take hp ⟨vs, rfl, r⟩) rfl)
theorem pd_tup {es : List Expr} {x1 : Nat} {κ : D → Wp → Prop} (h : PAD X T W χ es δ w fun ds w1 => ds.length ≤ sizeLine ∧ κ (.tup ds) w1) : PD X T W χ (.Tuple es x1 pos) δ w κ := fun F σ S H Q hE hW hX hK => wp_pe (pe_tup (pa_wp es)) (by
  refine h F σ S H _ hE hW hX fun ds w1 vs S1 H1 k s1 W1 r => ?_
  refine ⟨by rw [r.length]; exact k.1, fun p hp => ?_⟩
  have s2 : Same S1 (upd S1 p (.tup vs)) := same_upd (W1.free hp).1
  exact hK _ w1 _ _ _ k.2 (s1.trans s2) (W1.laid hp fun _ z => by cases z) ⟨p, vs, rfl, upd_same, r.mono s2⟩)
/-! ### blocks and small statements -/
theorem pssd_nil {C : Fin} (k : C.nx δ w) : PSsD X T W χ [] δ w C := fun F σ S H E hE hW hX hK => wp_pss pss_nil (hK.nx δ w σ S H k (Same.refl _) hE hW)
theorem pssd_cons {st : Stmt} {rest : List Stmt} {C : Fin} (h : PSD X T W χ st δ w { C with nx := fun δ' w' => PSsD X T W χ rest δ' w' C }) : PSsD X T W χ (st :: rest) δ w C := fun F σ S H E hE hW hX hK => wp_pss (pss_cons (ps_wp st) (pss_wp rest)) (by
  refine h F σ S H _ hE hW hX ⟨fun δ' w' σ' S' H' k s1 hE1 W1 => ?_, hK.rt, hK.bk, hK.ct⟩
  exact k F σ' S' H' E hE1 W1 (hX.mono s1) (hK.mono s1))
theorem pssd_one {st : Stmt} {C : Fin} (h : PSD X T W χ st δ w C) : PSsD X T W χ [st] δ w C := fun F σ S H E hE hW hX hK => wp_pss (pss_one (ps_wp st)) (h F σ S H E hE hW hX hK)
theorem psd_pass {C : Fin} (k : C.nx δ w) : PSD X T W χ (.Pass pos) δ w C := fun F σ S H E hE hW hX hK => wp_ps ps_pass (hK.nx δ w σ S H k (Same.refl _) hE hW)
theorem psd_break {C : Fin} (k : C.bk δ w) : PSD X T W χ (.Break pos) δ w C := fun F σ S H E hE hW hX hK => wp_ps ps_break (hK.bk δ w σ S H k (Same.refl _) hE hW)
theorem psd_cont {C : Fin} (k : C.ct δ w) : PSD X T W χ (.Continue pos) δ w C := fun F σ S H E hE hW hX hK => wp_ps ps_continue (hK.ct δ w σ S H k (Same.refl _) hE hW)
theorem psd_ret {e : Expr} {C : Fin} (h : PD X T W χ e δ w C.rt) : PSD X T W χ (.Return (some e) pos) δ w C := fun F σ S H E hE hW hX hK => wp_ps (ps_ret (pe_wp e)) (h F σ S H _ hE hW (hX σ) hK.rt)
theorem psd_retN {C : Fin} (k : C.rt N w) : PSD X T W χ (.Return none pos) δ w C := fun F σ S H E hE hW hX hK => wp_ps ps_retN (hK.rt N w _ S H k (Same.refl _) hW rfl)
theorem psd_expr {e : Expr} {C : Fin} (h : PD X T W χ e δ w fun _ w' => C.nx δ w') (hs : swapsWith e none pos.line X.env = pure false := by rfl) : PSD X T W χ (.Expr e pos) δ w C := fun F σ S H E hE hW hX hK => wp_ps (ps_expr (pe_wp e) hs) (by
  refine h F σ S H _ hE hW (hX σ) fun d w' v S' H' k s1 W1 r => ?_
  exact hK.nx δ w' σ S' H' k s1 (hE.mono s1) W1)
theorem psd_if {c : Expr} {a b : List Stmt} {C : Fin} (h : PTD X T W χ c δ w fun k w1 => if k = true then PSsD X T W χ a δ w1 C else PSsD X T W χ b δ w1 C) : PSD X T W χ (.If c a b pos) δ w C := fun F σ S H E hE hW hX hK => wp_ps (ps_if (pt_wp c) (pss_wp a) (pss_wp b)) (by
  refine h F σ S H _ hE hW (hX σ) fun k w1 S1 H1 q s1 W1 => ?_
  cases k with
  | true =>
    rw [if_pos rfl] at q ⊢
    exact q F σ S1 H1 E (hE.mono s1) W1 (hX.mono s1) (hK.mono s1)
  | false =>
    rw [if_neg Bool.false_ne_true] at q ⊢
    exact q F σ S1 H1 E (hE.mono s1) W1 (hX.mono s1) (hK.mono s1))
/-! ### targets -/
theorem pgd_name {i : Nat} {x : Str} {d : D} {κ : Dn → Wp → Prop} (hN : X.N.Nodup) (hi : X.N[i]? = some x) (k : κ (δ.set i (some d)) w) (hx : Loc X.env.scope x := by first | exact .inl rfl | exact .inr rfl)
    (hf : X.fn x = true ∨ X.env.scope.names.lookup x = some .local := by first | exact .inl rfl | exact .inr rfl) : PGD X T (.Name x pos) d δ w κ := fun F v σ S H Q r hE hW hK => wp_pg (pg_name hN hi hx hf) (hK _ w _ S H k (Same.refl _) (hE.set i r) hW)
theorem psd_set {i : Nat} {x : Str} {e : Expr} {pos' : Pos} {C : Fin} (hN : X.N.Nodup) (hi : X.N[i]? = some x) (h : PD X T W χ e δ w fun d w' => C.nx (δ.set i (some d)) w') (hx : Loc X.env.scope x := by first | exact .inl rfl | exact .inr rfl)
    (hs : swapsWith e (some (.Name x pos')) pos.line X.env = pure false := by rfl) (hf : X.fn x = true ∨ X.env.scope.names.lookup x = some .local := by first | exact .inl rfl | exact .inr rfl) : PSD X T W χ (.Assign [.Name x pos'] e pos) δ w C :=
  fun F σ S H E hE hW hX hK => wp_ps (ps_set hN hi hx (pe_wp e) hs hf) (by
    refine h F σ S H _ hE hW (hX σ) fun d w' v S' H' k s1 W1 r => ?_
    exact hK.nx _ w' _ S' H' k s1 ((hE.mono s1).set i r) W1)
/-- o[i] = e, an owned list -/
def VRS (K : PySem.W.Frag) (T : List (Addr × Str)) (t : TSet) (o i d : D) (w : Wp) (κ : Wp → Prop) : Prop :=
  ∀ (F S H : Hp) (x y v : V) (Q : Hp → Prop), World K T S w F H → Rep K S o x → Rep K S i y → Rep K S d v → (∀ w' S' H', κ w' → Same S S' → World K T S' w' F H' → Q H') → t x y v H Q
theorem psd_sub {o i e : Expr} {t : TSet} {tp : Pos} {C : Fin} (hs : PSet X t) (h : PD X T W χ e δ w fun d w1 => PD X T W χ o δ w1 fun od w2 => PD X T W χ i δ w2 fun id w3 => VRS X.K T t od id d w3 fun w' => C.nx δ w')
    (h1 : swapsWithSole [.Subscript o i tp] e pos.line X.env = pure false := by rfl) (h2 : swappedStores [.Subscript o i tp] e X.env = pure none := by rfl) (h3 : (assignEach [.Subscript o i tp] X.env).map (·.2) = [assign (.Subscript o i tp) X.env] := by rfl)
    (ha : ∀ v, assign (.Subscript o i tp) X.env v = (do
      let ov ← holding [v] (eval o X.env)
      let iv ← holding [v, ov] (eval i X.env)
      standAt tp
      holding [v, ov, iv] (setItem ov iv v)
      release [v, ov, iv] []) := by intro _; rfl) : PSD X T W χ (.Assign [.Subscript o i tp] e pos) δ w C :=
  fun F σ S H E hE hW hX hK => wp_ps (ps_asg (pe_wp e) (pg_sub (pe_wp o) (pe_wp i) hs ha) h1 h2 h3) (by
    refine h F σ S H _ hE hW (hX σ) fun d w1 v S1 H1 k s1 W1 r => ?_
    refine k F σ S1 H1 _ (hE.mono s1) W1 ((hX σ).mono s1) fun od w2 x S2 H2 k2 s2 W2 r2 => ?_
    refine k2 F σ S2 H2 _ (hE.mono (s1.trans s2)) W2 ((hX σ).mono (s1.trans s2)) fun id w3 y S3 H3 k3 s3 W3 r3 => ?_
    refine k3 F S3 H3 x y v _ W3 (r2.mono s3) r3 (r.mono (s2.trans s3)) fun w' S' H' k' s' W' => ?_
    have ss := s1.trans (s2.trans (s3.trans s'))
    exact hK.nx δ w' σ S' H' k' ss (hE.mono ss) W')
/-! ### ghost steps -/
/-- an owned list stands from now on -/
theorem pssd_freeze {sts : List Stmt} {C : Fin} {a : Addr} {ds : List D} (i : Nat) (hi : δ[i]? = some (some (R a))) (hw : w a = some (.lst ds)) (h : PSsD X T W χ sts (δ.set i (some (.lst ds))) (wd w a) C) : PSsD X T W χ sts δ w C :=
  fun F σ S H E hE hW hX hK => by
    obtain ⟨o, e1, r, W1⟩ := hW.freeze hw
    obtain ⟨xs, rfl, r⟩ := r
    have s1 : Same S (upd S a (.lst xs)) := same_upd e1
    refine h F σ _ H E ((hE.mono s1).tell i hi fun v q => ?_) W1 (hX.mono s1) (hK.mono s1)
    have q' : v = .ref a := q
    exact ⟨a, xs, q', upd_same, r.mono s1⟩
end
end DL

set_option Elab.async false
set_option linter.all false
set_option maxRecDepth 100000
set_option maxHeartbeats 1000000
/-! Value rules in data; calls; loops; comprehensions; defs. -/
namespace DL
open PySem PySem.Spec PyProof.Rows L2 LamX
section
variable {K : PySem.W.Frag} {T : List (Addr × Str)} {w : Wp} {κ : D → Wp → Prop}
/-! ### numbers -/
theorem vr_I {f : Int → Int → V} {i j : Int} (k : κ (.val (f i j)) w) : VR2 K T (rI0 f) (I i) (I j) w κ := fun F S H x y Q hW r1 r2 hK => ⟨i, j, r1, r2, hK _ w _ S H k (Same.refl _) hW rfl⟩
theorem vr_IC {C : Int → Int → Prop} {f : Int → Int → V} {i j : Int} (c : C i j) (k : κ (.val (f i j)) w) : VR2 K T (rI C f) (I i) (I j) w κ := fun F S H x y Q hW r1 r2 hK => ⟨i, j, r1, r2, c, hK _ w _ S H k (Same.refl _) hW rfl⟩
theorem vr_U {f : Int → V} {i : Int} (k : κ (.val (f i)) w) : VR1 K T (rU f) (I i) w κ := fun F S H x Q hW r1 hK => ⟨i, r1, hK _ w _ S H k (Same.refl _) hW rfl⟩
theorem vr_eq {v u : V} (s : scal v u = true) (k : κ (B (decide (v = u))) w) : VR2 K T rEq (.val v) (.val u) w κ := fun F S H x y Q hW r1 r2 hK => by
  have e1 : x = v := r1
  have e2 : y = u := r2
  subst e1 e2
  exact ⟨s, hK _ w _ S H k (Same.refl _) hW rfl⟩
theorem vr_ne {v u : V} (s : scal v u = true) (k : κ (B (!decide (v = u))) w) : VR2 K T rNe (.val v) (.val u) w κ := fun F S H x y Q hW r1 r2 hK => by
  have e1 : x = v := r1
  have e2 : y = u := r2
  subst e1 e2
  exact ⟨s, hK _ w _ S H k (Same.refl _) hW rfl⟩
/-! ### is -/
def isV (d : D) (v : V) : Bool := match d with
  | .val u => decide (u = v)
  | _ => false
theorem Rep.isn {S : Hp} {d : D} {x : V} (r : Rep K S d x) (v : V) (hv : ∀ a, v ≠ .ref a) : decide (x = v) = isV d v := by
  cases d with
  | val u =>
    have e : x = u := r
    rw [e]
    rfl
  | lst ds =>
    obtain ⟨a, xs, rfl, _⟩ := r
    exact decide_eq_false fun z => hv a z.symm
  | tup ds =>
    obtain ⟨a, xs, rfl, _⟩ := r
    exact decide_eq_false fun z => hv a z.symm
  | rd ds =>
    obtain ⟨a, xs, rfl, _⟩ := r
    exact decide_eq_false fun z => hv a z.symm
  | obj C ns ds =>
    obtain ⟨a, dx, xs, rfl, _⟩ := r
    exact decide_eq_false fun z => hv a z.symm
  | exc a dd ns ds =>
    obtain ⟨ys, rfl, _⟩ := r
    exact decide_eq_false fun z => hv a z.symm
  | dic kvs =>
    obtain ⟨a, rfl, _⟩ := r
    exact decide_eq_false fun z => hv a z.symm
  | dct kvs =>
    obtain ⟨a, rfl, _⟩ := r
    exact decide_eq_false fun z => hv a z.symm
  | dcv ks ds =>
    obtain ⟨a, kvs, rfl, _⟩ := r
    exact decide_eq_false fun z => hv a z.symm
  | cod f c q σ js ds =>
    obtain ⟨rfl, _⟩ := r
    exact decide_eq_false fun z => hv f z.symm
theorem vr_isN {d : D} (k : κ (B (isV d .non)) w) : VR2 K T (fun x y H Q => y = .non ∧ Q (.bl (decide (x = .non))) H) d N w κ := fun F S H x y Q hW r1 r2 hK => ⟨r2, by
  rw [r1.isn .non (fun a z => by cases z)]
  exact hK _ w _ S H k (Same.refl _) hW rfl⟩
theorem vr_notN {d : D} (k : κ (B (!isV d .non)) w) : VR2 K T (fun x y H Q => y = .non ∧ Q (.bl (!decide (x = .non))) H) d N w κ := fun F S H x y Q hW r1 r2 hK => ⟨r2, by
  rw [r1.isn .non (fun a z => by cases z)]
  exact hK _ w _ S H k (Same.refl _) hW rfl⟩
def rIsBl : R2 := fun x y H Q => ∃ b : Bool, y = .bl b ∧ Q (.bl (decide (x = .bl b))) H
theorem op_isBl {X : Cx} : OpR X (compareOp .Is) rIsBl := by
  intro pins s σ H x y v u Q I rx ry h
  obtain ⟨b, rfl, q⟩ := h
  cases (show u = Value.bool b from ry)
  have hp : ∀ v : Value, (∀ z, v ≠ .builtin z) → PySem.plainIs v (.bool b) = true := fun v hv => by
    cases v <;> first | rfl | exact absurd rfl (hv _)
  have go : ∀ c : Bool, (v == Value.bool b) = c → decide (x = V.bl b) = c := fun c e => by
    rw [← e]
    by_cases z : x = .bl b
    · subst z
      cases (show v = Value.bool b from rx)
      simp
    · have : v ≠ Value.bool b := fun z2 => by
        subst z2
        cases x <;> first | exact Value.noConfusion (show Value.bool b = _ from rx) | (obtain ⟨t, q⟩ := rx; cases q) | skip
        rename_i c
        have e2 : Value.bool b = Value.bool c := rx
        cases e2
        exact z rfl
      simp [z, this]
  refine PySem.wpAny_is_plain (hp v fun z e => ?_) ?_
  · subst e
    cases x <;> first | exact Value.noConfusion (show Value.builtin z = _ from rx) | (obtain ⟨t, q⟩ := rx; cases q)
  · refine ⟨.bl (decide (x = V.bl b)), H, I, ?_, q⟩
    show Value.bool _ = Value.bool _
    rw [go _ rfl]
theorem vr_isBl {d : D} {b : Bool} (k : κ (B (isV d (.bl b))) w) : VR2 K T rIsBl d (B b) w κ := fun F S H x y Q hW r1 r2 hK => ⟨b, r2, by
  rw [r1.isn (.bl b) (fun a z => by cases z)]
  exact hK _ w _ S H k (Same.refl _) hW rfl⟩
/-! ### lists -/
theorem ix_at {α : Type} {xs : List α} {i : Nat} {v : α} (h : xs[i]? = some v) : atI xs (i : Int) = some v := atI_nat h
theorem vr_ixL {ds : List D} {i : Nat} {d : D} (h : ds[i]? = some d) (k : κ d w) : VR2 K T (rIxL K) (.lst ds) (I (i : Int)) w κ := fun F S H x y Q hW r1 r2 hK => by
  obtain ⟨a, xs, rfl, h1, h2⟩ := r1
  obtain ⟨v, h3, h4⟩ := h2.get h
  exact ⟨a, xs, i, v, rfl, r2, SqL.of (hW.same _ _ h1), ix_at h3, hK d w v S H k (Same.refl _) hW h4⟩
theorem vr_ixT {ds : List D} {i : Nat} {d : D} (h : ds[i]? = some d) (k : κ d w) : VR2 K T (rIxT K) (.tup ds) (I (i : Int)) w κ := fun F S H x y Q hW r1 r2 hK => by
  obtain ⟨a, xs, rfl, h1, h2⟩ := r1
  obtain ⟨v, h3, h4⟩ := h2.get h
  exact ⟨a, xs, i, v, rfl, r2, SqT.of (hW.same _ _ h1), ix_at h3, hK d w v S H k (Same.refl _) hW h4⟩
/-- an item of an owned list -/
theorem vr_ixO {a : Addr} {ds : List D} {i : Nat} {d : D} (hw : w a = some (.lst ds)) (h : ds[i]? = some d) (k : κ d w) : VR2 K T (rIxL K) (R a) (I (i : Int)) w κ := fun F S H x y Q hW r1 r2 hK => by
  obtain ⟨_, _, o, h1, h2⟩ := hW.own a _ hw
  obtain ⟨xs, rfl, h2⟩ := h2
  obtain ⟨v, h3, h4⟩ := h2.get h
  exact ⟨a, xs, i, v, r1, r2, SqL.of h1, ix_at h3, hK d w v S H k (Same.refl _) hW h4⟩
/-- a store into an owned list -/
theorem vr_setO {a : Addr} {ds : List D} {i : Nat} {d : D} {κ : Wp → Prop} (hw : w a = some (.lst ds)) (h : i < ds.length) (k : κ (wu w a (.lst (ds.set i d)))) : VRS K T rSetL (R a) (I (i : Int)) d w κ := fun F S H x y v Q hW r1 r2 r3 hK => by
  obtain ⟨_, _, o, h1, h2⟩ := hW.own a _ hw
  obtain ⟨xs, rfl, h2⟩ := h2
  refine ⟨a, xs, (i : Int), i, r1, r2, h1, ?_, hK _ S _ k (Same.refl _) (hW.put hw ⟨_, rfl, h2.set i r3⟩)⟩
  rw [h2.length]
  unfold ixN
  rw [if_pos (by omega), if_pos (by omega)]
  rfl
theorem vr_cat {ds es : List D} (hz : ds.length + es.length ≤ sizeLine) (k : κ (.lst (ds ++ es)) w) : VR2 K T rCat (.lst ds) (.lst es) w κ := fun F S H x y Q hW r1 r2 hK => by
  obtain ⟨a, xs, rfl, h1, h2⟩ := r1
  obtain ⟨b, ys, rfl, h3, h4⟩ := r2
  refine ⟨a, b, xs, ys, rfl, rfl, hW.same _ _ h1, hW.same _ _ h3, by rw [h2.length, h4.length]; exact hz, fun p hp => ?_⟩
  have s1 : Same S (upd S p (.lst (xs ++ ys))) := same_upd (hW.free hp).1
  exact hK _ w _ _ _ k s1 (hW.laid hp fun _ z => by cases z) ⟨p, _, rfl, upd_same, (h2.app h4).mono s1⟩
theorem RepL.rep {S : Hp} {ds : List D} {xs : List V} (h : RepL K S ds xs) : ∀ n : Nat, RepL K S (List.replicate n ds).flatten (List.replicate n xs).flatten
  | 0 => rfl
  | n + 1 => by
    rw [List.replicate_succ, List.replicate_succ, List.flatten_cons, List.flatten_cons]
    exact h.app (RepL.rep h n)
theorem vr_rep {ds : List D} {n : Nat} (h1 : (n : Int) < 2 ^ 63) (hz : ds.length * n ≤ sizeLine) (k : κ (.lst (List.replicate n ds).flatten) w) : VR2 K T rRep (.lst ds) (I (n : Int)) w κ := fun F S H x y Q hW r1 r2 hK => by
  obtain ⟨a, xs, rfl, h3, h4⟩ := r1
  refine ⟨a, n, xs, rfl, r2, hW.same _ _ h3, by omega, h1, by rw [h4.length]; exact hz, fun p hp => ?_⟩
  have s1 : Same S (upd S p (.lst (List.replicate (n : Int).toNat xs).flatten)) := same_upd (hW.free hp).1
  exact hK _ w _ _ _ k s1 (hW.laid hp fun _ z => by cases z) ⟨p, _, rfl, upd_same, (h4.rep n).mono s1⟩
/-! ### == of data -/
mutual
def pyD : D → Option PyData
  | .val .non => some .none
  | .val (.bl b) => some (.bool b)
  | .val (.int i) => some (.int i)
  | .val (.str x) => some (.str x)
  | .val _ => none
  | .lst ds => (pyDs ds).map PyData.list
  | .tup ds => (pyDs ds).map PyData.tuple
  | .rd ds => (pyDs ds).map PyData.list
  | .obj _ _ _ => none
  | .exc _ _ _ _ => none
  | .dic _ => none
  | .dct _ => none
  | .dcv _ _ => none
  | .cod _ _ _ _ _ _ => none
def pyDs : List D → Option (List PyData)
  | [] => some []
  | d :: ds => (pyD d).bind fun x => (pyDs ds).map fun xs => x :: xs
end
mutual
theorem dp_of {S H : Hp} (e : Same S H) : ∀ {d : D} {p : PyData} {x : V}, pyD d = some p → Rep K S d x → Dp K H x p
  | .val v, p, x, h, r => by
    have r' : x = v := r
    subst r'
    cases x <;> first | (cases h; constructor) | cases h
  | .lst ds, p, x, h, r => by
    obtain ⟨a, xs, rfl, h1, h2⟩ := r
    have h' : (pyDs ds).map PyData.list = some p := h
    cases q : pyDs ds with
    | none =>
      rw [q] at h'
      cases h'
    | some ps =>
      rw [q] at h'
      cases h'
      exact .lst (SqL.of (e _ _ h1)) (dp_all e q h2)
  | .tup ds, p, x, h, r => by
    obtain ⟨a, xs, rfl, h1, h2⟩ := r
    have h' : (pyDs ds).map PyData.tuple = some p := h
    cases q : pyDs ds with
    | none =>
      rw [q] at h'
      cases h'
    | some ps =>
      rw [q] at h'
      cases h'
      exact .tup (SqT.of (e _ _ h1)) (dp_all e q h2)
  | .rd ds, p, x, h, r => by
    obtain ⟨a, xs, rfl, h1, h2⟩ := r
    have h' : (pyDs ds).map PyData.list = some p := h
    cases q : pyDs ds with
    | none =>
      rw [q] at h'
      cases h'
    | some ps =>
      rw [q] at h'
      cases h'
      exact .lst (e.seq h1) (dp_all e q h2)
  | .obj _ _ _, p, x, h, r => by cases h
  | .exc _ _ _ _, p, x, h, r => by cases h
  | .dic _, p, x, h, r => by cases h
  | .dct _, p, x, h, r => by cases h
  | .dcv _ _, p, x, h, r => by cases h
  | .cod _ _ _ _ _ _, p, x, h, r => by cases h
theorem dp_all {S H : Hp} (e : Same S H) : ∀ {ds : List D} {ps : List PyData} {xs : List V}, pyDs ds = some ps → RepL K S ds xs → DpAll K H xs ps
  | [], ps, xs, h, r => by
    have r' : xs = [] := r
    subst r'
    cases h
    exact .nil
  | d :: ds, ps, xs, h, r => by
    obtain ⟨y, ys, rfl, h1, h2⟩ := r
    have h' : ((pyD d).bind fun x => (pyDs ds).map fun xs => x :: xs) = some ps := h
    cases q : pyD d with
    | none =>
      rw [q] at h'
      cases h'
    | some p =>
      cases q2 : pyDs ds with
      | none =>
        rw [q, q2] at h'
        cases h'
      | some qs =>
        rw [q, q2] at h'
        cases h'
        exact .cons (dp_of e q h1) (dp_all e q2 h2)
end
theorem vr_eqD {d e : D} {p q : PyData} (hd : pyD d = some p) (he : pyD e = some q) (s1 : SeqAt.shaped p = true) (s2 : SeqAt.shaped q = true) (k : κ (B (PyData.eqv p q)) w) : VR2 K T (rEqD K) d e w κ := fun F S H x y Q hW r1 r2 hK =>
  ⟨p, q, dp_of hW.same hd r1, dp_of hW.same he r2, s1, s2, hK _ w _ S H k (Same.refl _) hW rfl⟩
theorem vr_neD {d e : D} {p q : PyData} (hd : pyD d = some p) (he : pyD e = some q) (s1 : SeqAt.shaped p = true) (s2 : SeqAt.shaped q = true) (k : κ (B (!PyData.eqv p q)) w) : VR2 K T (rNeD K) d e w κ := fun F S H x y Q hW r1 r2 hK =>
  ⟨p, q, dp_of hW.same hd r1, dp_of hW.same he r2, s1, s2, hK _ w _ S H k (Same.refl _) hW rfl⟩
/-- an owned list against data -/
theorem vr_neDO {a : Addr} {ds : List D} {e : D} {ps : List PyData} {q : PyData} (hw : w a = some (.lst ds)) (hd : pyDs ds = some ps) (he : pyD e = some q) (s1 : SeqAt.shaped (.list ps) = true) (s2 : SeqAt.shaped q = true) (k : κ (B (!PyData.eqv (.list ps) q)) w) : VR2 K T (rNeD K) (R a) e w κ := fun F S H x y Q hW r1 r2 hK => by
  obtain ⟨_, _, o, h1, h2⟩ := hW.own a _ hw
  obtain ⟨xs, rfl, h2⟩ := h2
  have r1' : x = .ref a := r1
  subst r1'
  exact ⟨.list ps, q, .lst (SqL.of h1) (dp_all hW.same hd h2 |> fun z => z), dp_of hW.same he r2, s1, s2, hK _ w _ S H k (Same.refl _) hW rfl⟩
end
section
variable {X : Cx} {T : List (Addr × Str)} {W : WX} {χ : XD} {δ : Dn} {w : Wp} {pos : Pos}
/-! ### built-ins -/
theorem pd_callB {x : Str} {id : String} {r : List V → Hp → VK → Prop} {e : Expr} {es : List Expr} {p : Pos} {κ : D → Wp → Prop} (hc : CallR X (.builtin id) r) (hg : Gl X x) (hm : X.mg x = none) (hv : bootBuiltins x = some (.builtin id))
    (h : PAD X T W χ (e :: es) δ w fun ds w1 => VRA X.K T r ds w1 κ) (hn : x ≠ "__name__" := by decide) (hdb : (x == ("__debug__" : Str)) = false := by decide)
    (he : starEach (e :: es) X.env = (false, eval e X.env) :: starEach es X.env := by rfl) (hpl : (backTo pos (starEach es X.env)).any (·.1) = false := by rfl) : PD X T W χ (.Call (.Name x p) (e :: es) [] pos) δ w κ :=
  fun F σ S H Q hE hW hX hK => wp_pe (pe_callB hc hg hm hv (pa_wp _) hn hdb he hpl) (by
    refine h F σ S H _ hE hW hX fun ds w1 vs S1 H1 k s1 W1 r1 => ?_
    exact k F S1 H1 vs _ W1 r1 (hK.mono s1))
theorem pd_callTy {x : Str} {id : String} {r : List V → Hp → VK → Prop} {e : Expr} {es : List Expr} {p : Pos} {κ : D → Wp → Prop} (hc : CallR X (.type id) r) (hg : Gl X x) (hm : X.mg x = none) (hv : bootBuiltins x = some (.type id))
    (h : PAD X T W χ (e :: es) δ w fun ds w1 => VRA X.K T r ds w1 κ) (hn : x ≠ "__name__" := by decide) (hdb : (x == ("__debug__" : Str)) = false := by decide)
    (he : starEach (e :: es) X.env = (false, eval e X.env) :: starEach es X.env := by rfl) (hpl : (backTo pos (starEach es X.env)).any (·.1) = false := by rfl) : PD X T W χ (.Call (.Name x p) (e :: es) [] pos) δ w κ :=
  fun F σ S H Q hE hW hX hK => wp_pe (pe_callTy hc hg hm hv (pa_wp _) hn hdb he hpl) (by
    refine h F σ S H _ hE hW hX fun ds w1 vs S1 H1 k s1 W1 r1 => ?_
    exact k F S1 H1 vs _ W1 r1 (hK.mono s1))
/-- a type's method -/
def TyD (K : PySem.W.Frag) (TT : String) (d : D) (w : Wp) : Prop := match d with
  | .lst _ => TT = "list"
  | .rd _ => TT = "list"
  | .val (.ref a) => TT = "list" ∧ ∃ ds, w a = some (.lst ds)
  | .val (.str _) => TT = "str"
  | _ => False
theorem TyD.is {K : PySem.W.Frag} {TT : String} {d : D} {w : Wp} {S F H : Hp} {x : V} (t : TyD K TT d w) (hW : World K T S w F H) (r : Rep K S d x) : tyV K TT x H := by
  cases d with
  | val v =>
    have e : x = v := r
    subst e
    cases x with
    | ref a =>
      obtain ⟨t, ds, hw⟩ := t
      obtain ⟨_, _, o, h1, h2⟩ := hW.own a _ hw
      obtain ⟨xs, rfl, h2⟩ := h2
      exact .inl ⟨t, xs, SqL.of h1⟩
    | str z => exact t
    | _ => exact t.elim
  | lst ds =>
    obtain ⟨a, xs, rfl, h1, h2⟩ := r
    exact .inl ⟨t, xs, SqL.of (hW.same _ _ h1)⟩
  | rd ds =>
    obtain ⟨a, xs, rfl, h1, h2⟩ := r
    exact .inl ⟨t, xs, hW.same.seq h1⟩
  | tup ds => exact t.elim
  | obj C ns ds => exact t.elim
  | exc a dd ns ds => exact t.elim
  | dic kvs => exact t.elim
  | dct kvs => exact t.elim
  | dcv ks ds => exact t.elim
  | cod f c q σ js ds => exact t.elim
theorem pd_bm0 {TT id : String} {r : V → List V → Hp → VK → Prop} {o : Expr} {name : Str} {apos cpos : Pos} {κ : D → Wp → Prop} (pa : PlainAttrs TT) (slot : Slot TT name id) (hty : typeOf (.builtin id) = pure (.type "method_descriptor")) (hm : MtR X id r)
    (h : PD X T W χ o δ w fun d w1 => TyD X.K TT d w1 ∧ VRM X.K T r d [] w1 κ)
    (hbase : attributeBase o name X.env (eval o X.env) = eval o X.env := by rfl) (hline : (apos.endLine == cpos.line) = true := by rfl) : PD X T W χ (.Call (.Attribute o name apos) [] [] cpos) δ w κ :=
  fun F σ S H Q hE hW hX hK => wp_pe (pe_bm0 pa slot hty hm (pe_wp o) hbase hline) (by
    refine h F σ S H _ hE hW hX fun d w1 v S1 H1 k s1 W1 r1 => ?_
    exact ⟨k.1.is W1 r1, k.2 F S1 H1 v [] _ W1 r1 rfl (hK.mono s1)⟩)
theorem pd_bm {TT id : String} {r : V → List V → Hp → VK → Prop} {o e : Expr} {es : List Expr} {name : Str} {apos cpos : Pos} {κ : D → Wp → Prop} (pa : PlainAttrs TT) (slot : Slot TT name id) (hty : typeOf (.builtin id) = pure (.type "method_descriptor")) (hm : MtR X id r)
    (h : PD X T W χ o δ w fun d w1 => TyD X.K TT d w1 ∧ PAD X T W χ (e :: es) δ w1 fun ds w2 => VRM X.K T r d ds w2 κ)
    (hbase : attributeBase o name X.env (eval o X.env) = eval o X.env := by rfl)
    (hfew : ((backTo cpos (starEach (e :: es) X.env)).all (fun x => !x.1) && (backToKw cpos (keywordEach [] X.env)).all (fun x => x.1.isSome)
      && decide ((e :: es).length + ([] : List Keyword).length + (if ([] : List Keyword).isEmpty then 0 else 1) < 30)) = true := by rfl)
    (hline : (apos.endLine == cpos.line) = true := by rfl) (hs : starEach (e :: es) X.env = (false, eval e X.env) :: starEach es X.env := by rfl) (hplain : (backTo cpos (starEach es X.env)).any (·.1) = false := by rfl) : PD X T W χ (.Call (.Attribute o name apos) (e :: es) [] cpos) δ w κ :=
  fun F σ S H Q hE hW hX hK => wp_pe (pe_bm pa slot hty hm (pe_wp o) (pa_wp _) hbase hfew hline hs hplain) (by
    refine h F σ S H _ hE hW hX fun d w1 v S1 H1 k s1 W1 r1 => ?_
    refine ⟨k.1.is W1 r1, ?_⟩
    refine k.2 F σ S1 H1 _ (hE.mono s1) W1 (hX.mono s1) fun ds w2 vs S2 H2 k2 s2 W2 r2 => ?_
    exact k2 F S2 H2 v vs _ W2 (r1.mono s2) r2 (hK.mono (s1.trans s2)))
end
section
variable {K : PySem.W.Frag} {T : List (Addr × Str)} {w : Wp} {κ : D → Wp → Prop}
theorem va_int {i : Int} (k : κ (I i) w) : VRA K T (fun xs H Q => (∃ i, xs = [.int i] ∧ Q (.int i) H) ∨ ∃ k, xs = [.bl k] ∧ Q (.int (if k then 1 else 0)) H) [I i] w κ := fun F S H xs Q hW r hK => by
  obtain ⟨y, ys, rfl, h1, h2⟩ := r
  have h1' : y = .int i := h1
  have h2' : ys = [] := h2
  subst h1' h2'
  exact .inl ⟨i, rfl, hK _ w _ S H k (Same.refl _) hW rfl⟩
theorem va_len {ds : List D} (k : κ (I (ds.length : Int)) w) : VRA K T (fun xs H Q => ∃ p ys, xs = [.ref p] ∧ (SqL K H p ys ∨ SqT K H p ys) ∧ Q (.int ys.length) H) [.lst ds] w κ := fun F S H xs Q hW r hK => by
  obtain ⟨y, ys, rfl, h1, h2⟩ := r
  obtain ⟨a, zs, rfl, h3, h4⟩ := h1
  have h2' : ys = [] := h2
  subst h2'
  refine ⟨a, zs, rfl, .inl (SqL.of (hW.same _ _ h3)), ?_⟩
  rw [h4.length]
  exact hK _ w _ S H k (Same.refl _) hW rfl
theorem va_lenT {ds : List D} (k : κ (I (ds.length : Int)) w) : VRA K T (fun xs H Q => ∃ p ys, xs = [.ref p] ∧ (SqL K H p ys ∨ SqT K H p ys) ∧ Q (.int ys.length) H) [.tup ds] w κ := fun F S H xs Q hW r hK => by
  obtain ⟨y, ys, rfl, h1, h2⟩ := r
  obtain ⟨a, zs, rfl, h3, h4⟩ := h1
  have h2' : ys = [] := h2
  subst h2'
  refine ⟨a, zs, rfl, .inr (SqT.of (hW.same _ _ h3)), ?_⟩
  rw [h4.length]
  exact hK _ w _ S H k (Same.refl _) hW rfl
abbrev rListOf (K : PySem.W.Frag) : List V → Hp → VK → Prop := fun xs H Q => ∃ p ys, xs = [.ref p] ∧ (SqL K H p ys ∨ SqT K H p ys) ∧ ∀ l, H l = none → Q (.ref l) (upd H l (.lst ys))
theorem va_listS {ds : List D} (k : κ (.lst ds) w) : VRA K T (rListOf K) [.lst ds] w κ := fun F S H xs Q hW r hK => by
  obtain ⟨y, ys, rfl, h1, h2⟩ := r
  obtain ⟨a, zs, rfl, h3, h4⟩ := h1
  have h2' : ys = [] := h2
  subst h2'
  refine ⟨a, zs, rfl, .inl (SqL.of (hW.same _ _ h3)), fun p hp => ?_⟩
  have s1 : Same S (upd S p (.lst zs)) := same_upd (hW.free hp).1
  exact hK _ w _ _ _ k s1 (hW.laid hp fun _ z => by cases z) ⟨p, _, rfl, upd_same, h4.mono s1⟩
/-- list(xs), owned -/
theorem va_listO {ds : List D} (k : ∀ a, w a = none → κ (R a) (wu w a (.lst ds))) : VRA K T (rListOf K) [.lst ds] w κ := fun F S H xs Q hW r hK => by
  obtain ⟨y, ys, rfl, h1, h2⟩ := r
  obtain ⟨a, zs, rfl, h3, h4⟩ := h1
  have h2' : ys = [] := h2
  subst h2'
  refine ⟨a, zs, rfl, .inl (SqL.of (hW.same _ _ h3)), fun p hp => ?_⟩
  exact hK _ _ _ _ _ (k p (hW.free hp).2.1) (Same.refl _) (hW.take hp ⟨zs, rfl, h4⟩) rfl
abbrev rTupleOf (K : PySem.W.Frag) : List V → Hp → VK → Prop := fun xs H Q => ∃ p ys, xs = [.ref p] ∧ ((SqL K H p ys ∧ ∀ l, H l = none → Q (.ref l) (upd H l (.tup ys))) ∨ (SqT K H p ys ∧ Q (.ref p) H))
theorem va_tuple {ds : List D} (k : κ (.tup ds) w) : VRA K T (rTupleOf K) [.lst ds] w κ := fun F S H xs Q hW r hK => by
  obtain ⟨y, ys, rfl, h1, h2⟩ := r
  obtain ⟨a, zs, rfl, h3, h4⟩ := h1
  have h2' : ys = [] := h2
  subst h2'
  refine ⟨a, zs, rfl, .inl ⟨SqL.of (hW.same _ _ h3), fun p hp => ?_⟩⟩
  have s1 : Same S (upd S p (.tup zs)) := same_upd (hW.free hp).1
  exact hK _ w _ _ _ k s1 (hW.laid hp fun _ z => by cases z) ⟨p, _, rfl, upd_same, h4.mono s1⟩
/-! ### methods of lists -/
theorem vm_append {a : Addr} {ds : List D} {d : D} (hw : w a = some (.lst ds)) (hz : ds.length < sizeLine) (k : κ N (wu w a (.lst (ds ++ [d])))) : VRM K T rAppend (R a) [d] w κ := fun F S H x xs Q hW r1 r2 hK => by
  obtain ⟨_, _, o, h1, h2⟩ := hW.own a _ hw
  obtain ⟨zs, rfl, h2⟩ := h2
  obtain ⟨y, ys, rfl, h3, h4⟩ := r2
  have h4' : ys = [] := h4
  subst h4'
  refine ⟨a, zs, y, r1, rfl, h1, by rw [h2.length]; exact hz, ?_⟩
  exact hK _ _ _ S _ k (Same.refl _) (hW.put hw ⟨_, rfl, h2.app (RepL.one h3)⟩) rfl
theorem vm_pop0 {a : Addr} {d : D} {ds : List D} (hw : w a = some (.lst (d :: ds))) (k : κ d (wu w a (.lst ds))) : VRM K T rPopAt (R a) [I 0] w κ := fun F S H x xs Q hW r1 r2 hK => by
  obtain ⟨_, _, o, h1, h2⟩ := hW.own a _ hw
  obtain ⟨zs, rfl, h2⟩ := h2
  obtain ⟨y, ys, rfl, h3, h4⟩ := r2
  have h4' : ys = [] := h4
  have h3' : y = .int 0 := h3
  subst h4' h3'
  obtain ⟨v, vs, rfl, h5, h6⟩ := h2
  refine ⟨a, v :: vs, 0, 0, v, r1, rfl, h1, by omega, by omega, ?_, rfl, ?_⟩
  · unfold seqIndex?
    simp
  · exact hK _ _ _ S _ k (Same.refl _) (hW.put hw ⟨_, rfl, h6⟩) h5
theorem vm_pop {a : Addr} {d : D} {ds : List D} (hw : w a = some (.lst ds)) (hd : ds[ds.length - 1]? = some d) (k : κ d (wu w a (.lst ds.dropLast))) : VRM K T rPop (R a) [] w κ := fun F S H x xs Q hW r1 r2 hK => by
  obtain ⟨_, _, o, h1, h2⟩ := hW.own a _ hw
  obtain ⟨zs, rfl, h2⟩ := h2
  have r2' : xs = [] := r2
  subst r2'
  obtain ⟨v, h5, h6⟩ := h2.get hd
  rw [← h2.length] at h5
  exact ⟨a, zs, v, r1, rfl, h1, h5, hK _ _ _ S _ k (Same.refl _) (hW.put hw ⟨_, rfl, h2.dropLast⟩) h6⟩
theorem vm_reverse {a : Addr} {ds : List D} (hw : w a = some (.lst ds)) (k : κ N (wu w a (.lst ds.reverse))) : VRM K T rReverse (R a) [] w κ := fun F S H x xs Q hW r1 r2 hK => by
  obtain ⟨_, _, o, h1, h2⟩ := hW.own a _ hw
  obtain ⟨zs, rfl, h2⟩ := h2
  have r2' : xs = [] := r2
  subst r2'
  exact ⟨a, zs, r1, rfl, h1, hK _ _ _ S _ k (Same.refl _) (hW.put hw ⟨_, rfl, h2.rev⟩) rfl⟩
theorem vm_clear {a : Addr} {ds : List D} (hw : w a = some (.lst ds)) (k : κ N (wu w a (.lst []))) : VRM K T rClear (R a) [] w κ := fun F S H x xs Q hW r1 r2 hK => by
  obtain ⟨_, _, o, h1, h2⟩ := hW.own a _ hw
  obtain ⟨zs, rfl, h2⟩ := h2
  have r2' : xs = [] := r2
  subst r2'
  exact ⟨a, zs, r1, rfl, h1, hK _ _ _ S _ k (Same.refl _) (hW.put hw ⟨_, rfl, rfl⟩) rfl⟩
end
end DL

set_option Elab.async false
set_option linter.all false
set_option maxRecDepth 100000
set_option maxHeartbeats 1000000
/-! Loops, comprehensions, calls, fields, defs. -/
namespace DL
open PySem PySem.Spec PyProof.Rows L2 LamX
/-! ### iteration -/
section
variable (X : Cx) (T : List (Addr × Str)) (W : WX) (χ : XD)
def IterD (tg iter : Expr) (δ : Dn) (w : Wp) (κ : List D → Wp → Prop) : Prop :=
  ∃ wi, PI X tg iter wi ∧ ∀ (F : Hp) (σ : L2.St) (S H : Hp) (R : It → Hp → Prop), EnvD X.K S δ σ → World X.K T S w F H → ExD X.K T W χ σ S F →
    (∀ (ds : List D) (w1 : Wp) (S1 H1 : Hp) (J : It) (G : Hp → Prop) (Y : Nat → Hp → V → Hp → Prop), κ ds w1 → Same S S1 → World X.K T S1 w1 F H1 → Walk J ds.length G Y →
      (∀ S2 w2 F2 H2, Same S1 S2 → World X.K T S2 w2 F2 H2 → G H2) →
      (∀ (i : Nat) (d : D) S2 w2 F2 H2 x H3, ds[i]? = some d → Same S1 S2 → World X.K T S2 w2 F2 H2 → Y i H2 x H3 → ∃ S3, Same S2 S3 ∧ World X.K T S3 w2 F2 H3 ∧ Rep X.K S3 d x) → R J H1) → wi σ H R
end
section
variable {X : Cx} {T : List (Addr × Str)} {W : WX} {χ : XD} {δ : Dn} {w : Wp} {pos : Pos}
theorem it_list {tg e : Expr} {κ : List D → Wp → Prop} (h : PD X T W χ e δ w fun d w1 => ∃ ds, d = .lst ds ∧ κ ds w1) : IterD X T W χ tg e δ w κ :=
  ⟨_, pi_list (pe_wp e), fun F σ S H R hE hW hX hK => by
    refine h F σ S H _ hE hW hX fun d w1 v S1 H1 k s1 W1 r => ?_
    obtain ⟨ds, rfl, k⟩ := k
    obtain ⟨a, xs, rfl, h1, h2⟩ := r
    refine ⟨a, rfl, ⟨xs, SqL.of (W1.same _ _ h1)⟩, ?_⟩
    have ww := walk_list (K := X.K) (a := a) (xs := xs)
    rw [h2.length] at ww
    refine hK ds w1 S1 H1 _ _ _ k s1 W1 ww (fun S2 w2 F2 H2 s2 W2 => SqL.of (W2.same _ _ (s2 _ _ h1))) fun i d S2 w2 F2 H2 x H3 hd s2 W2 y => ?_
    obtain ⟨rfl, hx⟩ := y
    obtain ⟨v, h3, h4⟩ := h2.get hd
    rw [hx] at h3
    cases h3
    exact ⟨S2, Same.refl _, W2, h4.mono s2⟩⟩
theorem it_rd {tg e : Expr} {κ : List D → Wp → Prop} (h : PD X T W χ e δ w fun d w1 => ∃ ds, d = .rd ds ∧ κ ds w1) : IterD X T W χ tg e δ w κ :=
  ⟨_, pi_list (pe_wp e), fun F σ S H R hE hW hX hK => by
    refine h F σ S H _ hE hW hX fun d w1 v S1 H1 k s1 W1 r => ?_
    obtain ⟨ds, rfl, k⟩ := k
    obtain ⟨a, xs, rfl, h1, h2⟩ := r
    refine ⟨a, rfl, ⟨xs, W1.same.seq h1⟩, ?_⟩
    have ww := walk_list (K := X.K) (a := a) (xs := xs)
    rw [h2.length] at ww
    refine hK ds w1 S1 H1 _ _ _ k s1 W1 ww (fun S2 w2 F2 H2 s2 W2 => W2.same.seq (s2.seq h1)) fun i d S2 w2 F2 H2 x H3 hd s2 W2 y => ?_
    obtain ⟨rfl, hx⟩ := y
    obtain ⟨v, h3, h4⟩ := h2.get hd
    rw [hx] at h3
    cases h3
    exact ⟨S2, Same.refl _, W2, h4.mono s2⟩⟩
theorem it_tup {tg e : Expr} {κ : List D → Wp → Prop} (h : PD X T W χ e δ w fun d w1 => ∃ ds, d = .tup ds ∧ κ ds w1) : IterD X T W χ tg e δ w κ :=
  ⟨_, pi_tup (pe_wp e), fun F σ S H R hE hW hX hK => by
    refine h F σ S H _ hE hW hX fun d w1 v S1 H1 k s1 W1 r => ?_
    obtain ⟨ds, rfl, k⟩ := k
    obtain ⟨a, xs, rfl, h1, h2⟩ := r
    refine ⟨a, rfl, ⟨xs, SqT.of (W1.same _ _ h1)⟩, ?_⟩
    have ww := walk_tup (K := X.K) (a := a) (xs := xs)
    rw [h2.length] at ww
    refine hK ds w1 S1 H1 _ _ _ k s1 W1 ww (fun S2 w2 F2 H2 s2 W2 => SqT.of (W2.same _ _ (s2 _ _ h1))) fun i d S2 w2 F2 H2 x H3 hd s2 W2 y => ?_
    obtain ⟨rfl, hx⟩ := y
    obtain ⟨v, h3, h4⟩ := h2.get hd
    rw [hx] at h3
    cases h3
    exact ⟨S2, Same.refl _, W2, h4.mono s2⟩⟩
def ups (n : Nat) : List D := (List.range n).map fun (k : Nat) => I (k : Int)
theorem ups_len (n : Nat) : (ups n).length = n := by unfold ups; rw [List.length_map, List.length_range]
theorem ups_at {n i : Nat} {d : D} (h : (ups n)[i]? = some d) : i < n ∧ d = I (i : Int) := by
  unfold ups at h
  rw [List.getElem?_map] at h
  by_cases hi : i < n
  · rw [List.getElem?_range hi] at h
    exact ⟨hi, (Option.some.inj h).symm⟩
  · rw [List.getElem?_eq_none (by simpa using hi)] at h
    cases h
/-- range(n), n known not to be below 0 -/
theorem it_range {tg e : Expr} {p : Pos} {κ : List D → Wp → Prop} (hm : X.mg "range" = none) (h : PD X T W χ e δ w fun d w1 => ∃ n : Nat, d = I (n : Int) ∧ (n : Int) < 2 ^ 62 ∧ κ (ups n) w1)
    (hg : Gl X "range" := by rfl) (he : starEach [e] X.env = [(false, eval e X.env)] := by rfl) : IterD X T W χ tg (.Call (.Name "range" p) [e] [] pos) δ w κ :=
  ⟨_, pi_range1 hg hm (pa_wp [e]) he, fun F σ S H R hE hW hX hK => by
    have ha : PAD X T W χ [e] δ w fun ds w1 => ∃ n : Nat, ds = [I (n : Int)] ∧ (n : Int) < 2 ^ 62 ∧ κ (ups n) w1 := pad_cons (h.imp fun d w1 ⟨n, e1, h1, k⟩ => pad_nil ⟨n, by rw [e1], h1, k⟩) he
    refine ha F σ S H _ hE hW hX fun ds w1 vs S1 H1 k s1 W1 r => ?_
    obtain ⟨n, rfl, hn, k⟩ := k
    obtain ⟨y, ys, rfl, h1, h2⟩ := r
    have h1' : y = .int n := h1
    have h2' : ys = [] := h2
    subst h1' h2'
    refine ⟨n, rfl, by omega, by omega, ?_⟩
    have ww := walk_range (lo := 0) (n := n)
    have en : ((n : Int)).toNat = n := Int.toNat_natCast n
    rw [en]
    refine hK (ups n) w1 S1 H1 _ (fun _ => True) (YFn fun i => .int (0 + i)) k s1 W1 (by rw [ups_len]; exact ww) (fun S2 w2 F2 H2 s2 W2 => True.intro) fun i d S2 w2 F2 H2 x H3 hd s2 W2 y => ?_
    obtain ⟨rfl, hx⟩ := y
    obtain ⟨_, rfl⟩ := ups_at hd
    refine ⟨S2, Same.refl _, W2, ?_⟩
    show x = .int (i : Int)
    rw [hx]
    show V.int (0 + (i : Int)) = _
    rw [Int.zero_add]⟩
def pairs (ds : List D) : List D := (List.range ds.length).zipWith (fun (k : Nat) d => .tup [I (k : Int), d]) ds
theorem pairs_len (ds : List D) : (pairs ds).length = ds.length := by unfold pairs; rw [List.length_zipWith, List.length_range, Nat.min_self]
theorem pairs_at {ds : List D} {i : Nat} {d : D} (h : (pairs ds)[i]? = some d) : ∃ e, ds[i]? = some e ∧ d = .tup [I (i : Int), e] := by
  have hi : i < ds.length := by
    have := (List.getElem?_eq_some_iff.mp h).1
    rwa [pairs_len] at this
  refine ⟨ds[i], List.getElem?_eq_getElem hi, ?_⟩
  unfold pairs at h
  rw [List.getElem?_zipWith, List.getElem?_range hi, List.getElem?_eq_getElem hi] at h
  exact (Option.some.inj h).symm
/-- enumerate(xs) -/
theorem it_enum {elts : List Expr} {kk : Nat} {tpos : Pos} {e : Expr} {p : Pos} {κ : List D → Wp → Prop} (hm : X.mg "enumerate" = none) (h : PD X T W χ e δ w fun d w1 => ∃ ds, d = .lst ds ∧ κ (pairs ds) w1)
    (hg : Gl X "enumerate" := by rfl) (he : starEach [e] X.env = [(false, eval e X.env)] := by rfl) : IterD X T W χ (.Tuple elts kk tpos) (.Call (.Name "enumerate" p) [e] [] pos) δ w κ :=
  ⟨_, pi_enum hg hm (pa_wp [e]) he, fun F σ S H R hE hW hX hK => by
    have ha : PAD X T W χ [e] δ w fun ds w1 => ∃ es, ds = [.lst es] ∧ κ (pairs es) w1 := pad_cons (h.imp fun d w1 ⟨es, e1, k⟩ => pad_nil ⟨es, by rw [e1], k⟩) he
    refine ha F σ S H _ hE hW hX fun ds w1 vs S1 H1 k s1 W1 r => ?_
    obtain ⟨es, rfl, k⟩ := k
    obtain ⟨y, ys, rfl, h1, h2⟩ := r
    obtain ⟨a, xs, rfl, h3, h4⟩ := h1
    have h2' : ys = [] := h2
    subst h2'
    refine ⟨a, xs, rfl, SqL.of (W1.same _ _ h3), ?_⟩
    have ww := walk_enum (K := X.K) (a := a) (xs := xs)
    rw [h4.length] at ww
    refine hK (pairs es) w1 S1 H1 _ _ _ k s1 W1 (by rw [pairs_len]; exact ww) (fun S2 w2 F2 H2 s2 W2 => SqL.of (W2.same _ _ (s2 _ _ h3))) fun i d S2 w2 F2 H2 x H3 hd s2 W2 y => ?_
    obtain ⟨t, x1, x2, rfl, nt, rfl, f1, f2⟩ := y
    obtain ⟨e, he, rfl⟩ := pairs_at hd
    obtain ⟨v, h5, h6⟩ := h4.get he
    have f2' : xs[i]? = some x2 := f2
    rw [h5] at f2'
    cases f2'
    cases f1
    have s3 : Same S2 (upd S2 t (.tup [.int (i : Int), x2])) := same_upd (W2.free nt).1
    exact ⟨_, s3, W2.laid nt fun _ z => (by cases z), t, _, rfl, upd_same, V.int i, [x2], rfl, rfl, x2, [], rfl, (h6.mono s2).mono s3, rfl⟩⟩
/-! ### for -/
theorem psd_for {tg iter : Expr} {body : List Stmt} {C : Fin} (hp : PassesOwn (model X.prog X.w) X.A X.env X.xe) (hc : X.calm = true)
    (h : IterD X T W χ tg iter δ w (fun ds w1 => ∃ Pv : Nat → Dn → Wp → Prop, Pv 0 δ w1 ∧
      (∀ (i : Nat) (d : D) δ' w', ds[i]? = some d → Pv i δ' w' → PGD X T tg d δ' w' fun δ2 w2 => PSsD X T W χ body δ2 w2 { nx := Pv (i + 1), rt := C.rt, bk := C.nx, ct := Pv (i + 1) }) ∧
      ∀ δ' w', Pv ds.length δ' w' → C.nx δ' w'))
    (hs : ∀ x, foldedSetIterable iter X.env x = pure x := by intro _; rfl) : PSD X T W χ (.For tg iter body [] pos) δ w C := fun F σ S H E hE hW hX hK => by
  obtain ⟨wi, hi, h⟩ := h
  refine wp_ps (ps_for hp hc hi (pg_wp tg) (pss_wp body) hs) ?_
  refine h F σ S H _ hE hW (hX σ) fun ds w1 S1 H1 J G Y k s1 W1 ww hG hY => ?_
  obtain ⟨Pv, p0, turn, done⟩ := k
  refine for_it ww (D := E) (fun i σ' H' => ∃ δ' w' S', Pv i δ' w' ∧ Same S1 S' ∧ EnvD X.K S' δ' σ' ∧ World X.K T S' w' F H') ⟨δ, w1, S1, p0, Same.refl _, hE.mono s1, W1⟩ (fun i σ' H' _ ⟨δ', w', S', _, s2, _, W2⟩ => hG S' w' F H' s2 W2) ?_ ?_
  · rintro i x σ' H' H3 hi ⟨δ', w', S', pv, s2, hE2, W2⟩ y
    obtain ⟨S3, s3, W3, r⟩ := hY i ds[i] S' w' F H' x H3 (List.getElem?_eq_getElem hi) s2 W2 y
    refine turn i ds[i] δ' w' (List.getElem?_eq_getElem hi) pv F x σ' S3 H3 _ r (hE2.mono s3) W3 fun δ2 w2 σ2 S4 H4 k s4 hE4 W4 => ?_
    have ss := s1.trans (s2.trans (s3.trans s4))
    refine k F σ2 S4 H4 _ hE4 W4 (hX.mono ss) ⟨fun δ5 w5 σ5 S5 H5 k5 s5 hE5 W5 => ⟨δ5, w5, S5, k5, s2.trans (s3.trans (s4.trans s5)), hE5, W5⟩, hK.rt.mono ss, hK.nx.mono ss, fun δ5 w5 σ5 S5 H5 k5 s5 hE5 W5 => ⟨δ5, w5, S5, k5, s2.trans (s3.trans (s4.trans s5)), hE5, W5⟩⟩
  · rintro σ' H' ⟨δ', w', S', pv, s2, hE2, W2⟩
    exact hK.nx δ' w' σ' S' H' (done δ' w' pv) (s1.trans s2) hE2 W2
/-! ### targets that touch only some slots -/
def PGL (X : Cx) (T : List (Addr × Str)) (is : List Nat) (tg : Expr) (d : D) (δ : Dn) (w : Wp) (κ : Dn → Wp → Prop) : Prop :=
  ∀ (F : Hp) (v : V) (σ : L2.St) (S H : Hp) (Q : L2.St → Hp → Prop), Rep X.K S d v → EnvD X.K S δ σ → World X.K T S w F H →
    (∀ δ' w' σ' S' H', κ δ' w' → Same S S' → EnvD X.K S' δ' σ' → World X.K T S' w' F H' → (∀ j, j ∉ is → σ'[j]? = σ[j]?) → σ'.length = σ.length → Q σ' H') → wpG X tg v σ H Q
theorem PGL.pgd {is : List Nat} {tg : Expr} {d : D} {κ : Dn → Wp → Prop} (h : PGL X T is tg d δ w κ) : PGD X T tg d δ w κ := fun F v σ S H Q r hE hW hK => h F v σ S H Q r hE hW fun δ' w' σ' S' H' k s e W _ _ => hK δ' w' σ' S' H' k s e W
theorem pgl_name {i : Nat} {x : Str} {d : D} {κ : Dn → Wp → Prop} (hN : X.N.Nodup) (hi : X.N[i]? = some x) (k : κ (δ.set i (some d)) w) (hx : Loc X.env.scope x := by first | exact .inl rfl | exact .inr rfl)
    (hf : X.fn x = true ∨ X.env.scope.names.lookup x = some .local := by first | exact .inl rfl | exact .inr rfl) : PGL X T [i] (.Name x pos) d δ w κ := fun F v σ S H Q r hE hW hK => wp_pg (pg_name hN hi hx hf) (hK _ w _ S H k (Same.refl _) (hE.set i r) hW (fun j hj => by
  rw [List.getElem?_set_ne (fun z => hj (by rw [z]; exact List.mem_singleton.mpr rfl))]) (by rw [List.length_set]))
theorem pgl_two {i j : Nat} {a b : Expr} {k0 : Nat} {d e : D} {κ : Dn → Wp → Prop} (hc : X.calm = true) (h : PGL X T [i] a d δ w fun δ1 w1 => PGL X T [j] b e δ1 w1 κ)
    (hs1 : (assignEach [a, b] X.env).map (·.2) = assign a X.env :: (assignEach [b] X.env).map (·.2) := by rfl) (hs2 : (assignEach [b] X.env).map (·.2) = assign b X.env :: (assignEach [] X.env).map (·.2) := by rfl)
    (hn : (assignEach [a, b] X.env).length = 2 := by rfl) (hst : (assignEach [a, b] X.env).findIdx? (·.1) = none := by rfl) : PGL X T [i, j] (.Tuple [a, b] k0 pos) (.tup [d, e]) δ w κ := fun F v σ S H Q r hE hW hK => by
  refine wp_pg (pg_tup hc (pgs_cons (pg_wp a) (pgs_cons (pg_wp b) pgs_nil hs2) hs1) hn hst) ?_
  obtain ⟨t, xs, rfl, h1, y, ys, rfl, h2, z, zs, rfl, h3, h4⟩ := r
  have h4' : zs = [] := h4
  subst h4'
  refine ⟨t, [y, z], rfl, SqT.of (hW.same _ _ h1), rfl, y, [z], rfl, ?_⟩
  refine h F y σ S H _ h2 hE hW fun δ1 w1 σ1 S1 H1 k1 s1 hE1 W1 o1 l1 => ?_
  refine ⟨z, [], rfl, ?_⟩
  refine k1 F z σ1 S1 H1 _ (h3.mono s1) hE1 W1 fun δ2 w2 σ2 S2 H2 k2 s2 hE2 W2 o2 l2 => ⟨rfl, ?_⟩
  exact hK δ2 w2 σ2 S2 H2 k2 (s1.trans s2) hE2 W2 (fun n hn => by
    rw [o2 n (fun z => hn (by simp at z; simp [z])), o1 n (fun z => hn (by simp at z; simp [z]))]) (l2.trans l1)
theorem wipe_eq {σ1 σ2 : L2.St} {vs : List Nat} (hl : σ2.length = σ1.length) (h : ∀ j, j ∉ vs → σ2[j]? = σ1[j]?) : L2.wipe σ2 vs = L2.wipe σ1 vs := by
  refine List.ext_getElem? fun j => ?_
  have key : ∀ (σ : L2.St) (vs : List Nat), (L2.wipe σ vs)[j]? = if j ∈ vs then (if j < σ.length then some none else none) else σ[j]? := by
    intro σ vs
    induction vs with
    | nil => rfl
    | cons v vs ih =>
      show ((L2.wipe σ vs).set v none)[j]? = _
      by_cases e : v = j
      · subst e
        rw [if_pos (List.mem_cons_self ..)]
        by_cases hj : v < σ.length
        · rw [if_pos hj, List.getElem?_set_self (by rw [L2.wipe_length]; exact hj)]
        · rw [if_neg hj, List.getElem?_eq_none (by rw [List.length_set, L2.wipe_length]; omega)]
      · rw [List.getElem?_set_ne e, ih]
        by_cases hm : j ∈ vs
        · rw [if_pos hm, if_pos (List.mem_cons_of_mem _ hm)]
        · rw [if_neg hm, if_neg (fun z => by cases z with | head => exact e rfl | tail _ z => exact hm z)]
  rw [key, key]
  by_cases hm : j ∈ vs
  · rw [if_pos hm, if_pos hm, hl]
  · rw [if_neg hm, if_neg hm, h j hm]
/-! ### comprehensions -/
/-- the list that a comprehension made: it stands, or is owned -/
theorem fin_stay {K : PySem.W.Frag} {κ : D → Wp → Prop} {S F : Hp} {Q : VK} (hK : KD K T κ S F Q) : ∀ (L : Addr) (acc : List D) w' S' xs H', κ (.lst acc) w' → Same S S' → F L = none → World K T S' w' (upd F L (.lst xs)) H' → RepL K S' acc xs → Q (.ref L) H' := fun L acc w' S' xs H' k s1 fL W2 ra => by
  obtain ⟨e1, W3⟩ := W2.freezeF fL fun _ z => by cases z
  have s3 : Same S' (upd S' L (.lst xs)) := same_upd e1
  exact hK _ w' _ _ H' k (s1.trans s3) W3 ⟨L, xs, rfl, upd_same, ra.mono s3⟩
theorem World.moveF {K : PySem.W.Frag} {S F0 H : Hp} {w : Wp} {a : Addr} {o : HO} {h : HD} (W : World K T S w (upd F0 a o) H) (e : F0 a = none) (r : RepH K S h o) : w a = none ∧ World K T S (wu w a h) F0 H := by
  obtain ⟨e1, e2⟩ := W.frm a o upd_same
  have ew : w a = none := by
    cases q : w a with
    | none => rfl
    | some k =>
      have q2 := (W.own a k q).2.1
      rw [upd_same] at q2
      cases q2
  refine ⟨ew, W.same, W.notbl, fun b k q => ?_, fun b x q => ?_, W.tabs, fun b u z => W.nf b u (by rw [upd_ne (fun q => by rw [q, e] at z; cases z)]; exact z)⟩
  · by_cases hb : b = a
    · subst hb
      rw [wu_same] at q
      cases q
      exact ⟨e1, e, o, e2, r⟩
    · rw [wu_ne hb] at q
      obtain ⟨q1, q2, x, q3, q4⟩ := W.own b k q
      rw [upd_ne hb] at q2
      exact ⟨q1, q2, x, q3, q4⟩
  · have hb : b ≠ a := fun z => by
      rw [z, e] at q
      cases q
    exact W.frm b x (by rw [upd_ne hb]; exact q)
theorem fin_own {K : PySem.W.Frag} {κ : D → Wp → Prop} {S F : Hp} {Q : VK} (hK : KD K T κ S F Q) : ∀ (L : Addr) (acc : List D) w' S' xs H', (∀ a, w' a = none → κ (R a) (wu w' a (.lst acc))) → Same S S' → F L = none → World K T S' w' (upd F L (.lst xs)) H' → RepL K S' acc xs → Q (.ref L) H' := fun L acc w' S' xs H' k s1 fL W2 ra => by
  obtain ⟨e1, W3⟩ := W2.moveF fL (h := .lst acc) ⟨xs, rfl, ra⟩
  exact hK _ _ _ S' H' (k L e1) s1 W3 rfl
def PTsD (X : Cx) (T : List (Addr × Str)) (ifs : List Expr) (δ : Dn) (w : Wp) (κ : Bool → Wp → Prop) : Prop :=
  ∀ (F : Hp) (σ : L2.St) (S H : Hp) (Q : Bool → Hp → Prop), EnvD X.K S δ σ → World X.K T S w F H → KB X.K T κ S F Q → wpTs X ifs σ H Q
abbrev Wf : WX := fun _ _ _ _ => False
theorem ptsd_nil {κ : Bool → Wp → Prop} (k : κ true w) : PTsD X T [] δ w κ := fun F σ S H Q hE hW hK pins s I => (pts_nil).run pins s σ H Q I (hK true w S H k (Same.refl _) hW)
theorem exf {K : PySem.W.Frag} {σ : L2.St} {S F : Hp} {W : WX} : ExD K T W noX σ S F := fun _ _ _ _ _ _ _ z => z.elim
theorem exsf {S F : Hp} {W : WX} : ExS X T W noX S F := fun _ => exf
theorem ptsd_one {c : Expr} {κ : Bool → Wp → Prop} (h : PTD X T Wf noX c δ w κ) : PTsD X T [c] δ w κ := fun F σ S H Q hE hW hK pins s I => (pts_one (pt_wp c)).run pins s σ H Q I (h F σ S H Q hE hW exf hK)
abbrev bx (X : Cx) (s : Shared) (H : Hp) (scope : Scope) (cl : List (Str × Addr)) (C : Addr) (fp : List Addr) : Cx := X.blk s H scope (compEnvC scope cl C X.env) fp
/-- what a comprehension asks -/
def LcD (X : Cx) (T : List (Addr × Str)) (is : List Nat) (tg : Expr) (ifs : List Expr) (elt : Expr) (scope : Scope) (vs : List Nat) (δ : Dn) (κ : List D → Wp → Prop) (ds : List D) (w1 : Wp) : Prop :=
  ds.length < sizeLine ∧ ∃ Pv : Nat → List D → Wp → Prop, Pv 0 [] w1 ∧
    (∀ (i : Nat) (d : D) acc w', ds[i]? = some d → Pv i acc w' → ∀ s H0 C cl fp, PGL (bx X s H0 scope cl C fp) T is tg d (wipeD δ vs) w' fun δ2 w2 => ∀ s H0 C cl fp, PTsD (bx X s H0 scope cl C fp) T ifs δ2 w2 fun b w3 =>
      if b = true then ∀ s H0 C cl fp, PD (bx X s H0 scope cl C fp) T Wf noX elt δ2 w3 fun y w4 => Pv (i + 1) (acc ++ [y]) w4 else Pv (i + 1) acc w3) ∧
    ∀ acc w', Pv ds.length acc w' → κ acc w'
abbrev lcG (X : Cx) (scope : Scope) (tg : Expr) : TG := fun v σ' H' Q' => ∀ s H0 C cl fp, wpG (bx X s H0 scope cl C fp) tg v σ' H' Q'
abbrev lcT (X : Cx) (scope : Scope) (ifs : List Expr) : TT := fun σ' H' Q' => ∀ s H0 C cl fp, wpTs (bx X s H0 scope cl C fp) ifs σ' H' Q'
abbrev lcE (X : Cx) (scope : Scope) (elt : Expr) : TE := fun σ' H' Q' => ∀ s H0 C cl fp, wpE (bx X s H0 scope cl C fp) elt σ' H' Q'
theorem lc_read {tg elt : Expr} {ifs : List Expr} {scope : Scope} {vs is : List Nat} {κ : List D → Wp → Prop} {wi : TI} {F : Hp} {σ : L2.St} {S H : Hp} {Q : VK} (hsub : ∀ i ∈ is, i ∈ vs) (hE : EnvD X.K S δ σ) (hW : World X.K T S w F H)
    (h : ∀ (R : It → Hp → Prop), (∀ (ds : List D) (w1 : Wp) (S1 H1 : Hp) (J : It) (G : Hp → Prop) (Y : Nat → Hp → V → Hp → Prop), LcD X T is tg ifs elt scope vs δ κ ds w1 → Same S S1 → World X.K T S1 w1 F H1 → Walk J ds.length G Y →
      (∀ S2 w2 F2 H2, Same S1 S2 → World X.K T S2 w2 F2 H2 → G H2) →
      (∀ (i : Nat) (d : D) S2 w2 F2 H2 x H3, ds[i]? = some d → Same S1 S2 → World X.K T S2 w2 F2 H2 → Y i H2 x H3 → ∃ S3, Same S2 S3 ∧ World X.K T S3 w2 F2 H3 ∧ Rep X.K S3 d x) → R J H1) → wi σ H R)
    (hK : ∀ (L : Addr) acc w' S' xs H', κ acc w' → Same S S' → F L = none → World X.K T S' w' (upd F L (.lst xs)) H' → RepL X.K S' acc xs → Q (.ref L) H') :
    tLc wi (lcG X scope tg) (lcT X scope ifs) (lcE X scope elt) vs σ H Q := by
  refine h _ fun ds w1 S1 H1 J G Y k s1 W1 ww hG hY L nL => ?_
  obtain ⟨hz, Pv, p0, turn, done⟩ := k
  have fL : F L = none := (W1.free nL).2.2
  refine lc_it ww (g := lcG X scope tg) (tt := lcT X scope ifs) (te := lcE X scope elt) (vs := vs) (σ := σ) (H1 := H1) (D := L) (Qd := fun H => Q (.ref L) H) (fun i H' => ∃ acc w' S' xs, Pv i acc w' ∧ acc.length ≤ i ∧ Same S1 S' ∧ World X.K T S' w' (upd F L (.lst xs)) H' ∧ RepL X.K S' acc xs) ?_ (fun i H' _ ⟨acc, w', S', xs, _, _, s2, W2, _⟩ => hG S' w' _ H' s2 W2) ?_ ?_
  · exact ⟨[], w1, S1, [], p0, Nat.le_refl _, Same.refl _, W1.takeF nL (fun _ z => by cases z), rfl⟩
  · rintro i x H' H3 hi ⟨acc, w', S', xs, pv, hacc, s2, W2, ra⟩ y
    obtain ⟨S3, s3, W3, r⟩ := hY i ds[i] S' w' _ H' x H3 (List.getElem?_eq_getElem hi) s2 W2 y
    intro s H0 C cl fp
    refine turn i ds[i] acc w' (List.getElem?_eq_getElem hi) pv s H0 C cl fp (upd F L (.lst xs)) x (L2.wipe σ vs) S3 H3 _ r ((hE.mono (s1.trans (s2.trans s3))).wipe vs) W3 fun δ2 w2 σ2 S4 H4 k s4 hE4 W4 o4 l4 => ?_
    refine ⟨?_, ?_⟩
    · rw [wipe_eq (σ1 := L2.wipe σ vs) (σ2 := σ2) l4 fun j hj => o4 j fun z => hj (hsub j z)]
      exact wipe_eq (L2.wipe_length σ vs) fun j hj => L2.wipe_out hj
    · intro s H0 C cl fp
      refine k s H0 C cl fp (upd F L (.lst xs)) σ2 S4 H4 _ hE4 W4 fun b w5 S5 H5 k5 s5 W5 => ?_
      cases b with
      | false =>
        rw [if_neg Bool.false_ne_true] at k5 ⊢
        exact ⟨acc, w5, S5, xs, k5, Nat.le_succ_of_le hacc, s2.trans (s3.trans (s4.trans s5)), W5, ra.mono (s3.trans (s4.trans s5))⟩
      | true =>
        rw [if_pos rfl] at k5 ⊢
        intro s H0 C cl fp
        refine k5 s H0 C cl fp (upd F L (.lst xs)) σ2 S5 H5 _ (hE4.mono s5) W5 exf fun d6 w6 v6 S6 H6 k6 s6 W6 r6 => ?_
        have ra6 := ra.mono (s3.trans (s4.trans (s5.trans s6)))
        refine ⟨xs, (W6.frm L _ upd_same).2, by rw [ra6.length]; omega, acc ++ [d6], w6, S6, xs ++ [v6], k6, ?_, s2.trans (s3.trans (s4.trans (s5.trans s6))), ?_, ra6.app (RepL.one r6)⟩
        · rw [List.length_append]
          show acc.length + 1 ≤ i + 1
          omega
        · have W7 := W6.putF (o := .lst (xs ++ [v6])) upd_same (fun _ z => by cases z) (fun _ z => by cases z) (fun _ z => by cases z)
          rw [upd_upd] at W7
          exact W7
  · rintro H' ⟨acc, w', S', xs, pv, hacc, s2, W2, ra⟩
    exact hK L acc w' S' xs H' (done acc w' pv) (s1.trans s2) fL W2 ra
end
end DL

set_option Elab.async false
set_option linter.all false
set_option maxRecDepth 100000
set_option maxHeartbeats 1000000
/-! Comprehensions as expressions and stored; calls of own defs, methods, classes; fields; the rule for a def. -/
namespace DL
open PySem PySem.Spec PyProof.Rows L2 LamX
section
variable {X : Cx} {T : List (Addr × Str)} {W : WX} {χ : XD} {δ : Dn} {w : Wp} {pos : Pos}
theorem pg_bx {scope : Scope} {tg : Expr} (s : Shared) (H : Hp) (C : Addr) (cl : List (Str × Addr)) (fp : List Addr) : PG (X.blk s H scope (compEnvC scope cl C X.env) fp) tg (lcG X scope tg) := ⟨fun pins s1 σ H1 v u Q I r h => h s H C cl fp pins s1 u I r⟩
theorem pt_bx {scope : Scope} {ifs : List Expr} (s : Shared) (H : Hp) (C : Addr) (cl : List (Str × Addr)) (fp : List Addr) : PTs (X.blk s H scope (compEnvC scope cl C X.env) fp) ifs (lcT X scope ifs) := ⟨fun pins s1 σ H1 Q I h => h s H C cl fp pins s1 I⟩
theorem pe_bx {scope : Scope} {e : Expr} (s : Shared) (H : Hp) (C : Addr) (cl : List (Str × Addr)) (fp : List Addr) : PE (X.blk s H scope (compEnvC scope cl C X.env) fp) e (lcE X scope e) := ⟨fun pins s1 σ H1 Q I h => h s H C cl fp pins s1 I⟩
theorem pd_lc {elt tg iter : Expr} {ifs : List Expr} {scope : Scope} (own : List (Str × Nat)) (is : List Nat) {κ : D → Wp → Prop} (hc : X.calm = true) (hN : X.N.Nodup) (ok : BlkOk X.N X.env.scope scope own) (hsub : ∀ i ∈ is, i ∈ own.map (·.2))
    (h : IterD X T W χ tg iter δ w (LcD X T is tg ifs elt scope (own.map (·.2)) δ (fun acc w' => κ (.lst acc) w'))) (hs : ∀ x, foldedSetIterable iter X.env x = pure x := by intro _; rfl) : PD X T W χ (.ListComp elt [⟨tg, iter, ifs, 0⟩] scope pos) δ w κ := fun F σ S H Q hE hW hX hK => by
  obtain ⟨wi, hi, h⟩ := h
  exact wp_pe (pe_lc hc hN hi ok pg_bx pt_bx pe_bx hs) (lc_read hsub hE hW (fun R hR => h F σ S H R hE hW hX hR) (fin_stay hK))
theorem psd_setLc {i : Nat} {y : Str} {py spos : Pos} {elt tg iter : Expr} {ifs : List Expr} {scope : Scope} {C : Fin} (own : List (Str × Nat)) (is : List Nat) (hc : X.calm = true) (hN : X.N.Nodup) (hy : X.N[i]? = some y) (hyl : X.env.scope.names.lookup y = some .local)
    (hsw : swapsWith (.ListComp elt [⟨tg, iter, ifs, 0⟩] scope pos) (some (.Name y py)) spos.line X.env = pure true) (ok : BlkOk X.N X.env.scope scope own) (hsub : ∀ i ∈ is, i ∈ own.map (·.2))
    (h : IterD X T W χ tg iter δ w (LcD X T is tg ifs elt scope (own.map (·.2)) δ (fun acc w' => (fun d w' => C.nx (δ.set i (some d)) w') (.lst acc) w'))) (hs : ∀ x, foldedSetIterable iter X.env x = pure x := by intro _; rfl) : PSD X T W χ (.Assign [.Name y py] (.ListComp elt [⟨tg, iter, ifs, 0⟩] scope pos) spos) δ w C := fun F σ S H E hE hW hX hK => by
  obtain ⟨wi, hi, h⟩ := h
  refine wp_ps (ps_setLc hc hN hy hyl hsw hi ok pg_bx pt_bx pe_bx hs) ?_
  have q := lc_read (Q := fun v H' => gName i v σ H' E.nx) hsub hE hW (fun R hR => h F σ S H R hE hW (hX σ) hR) (fin_stay (κ := fun d w' => C.nx (δ.set i (some d)) w') fun d w' v S' H' k s1 W1 r => hK.nx _ w' _ S' H' k s1 ((hE.mono s1).set i r) W1)
  exact q
theorem pd_lcO {elt tg iter : Expr} {ifs : List Expr} {scope : Scope} (own : List (Str × Nat)) (is : List Nat) {κ : D → Wp → Prop} (hc : X.calm = true) (hN : X.N.Nodup) (ok : BlkOk X.N X.env.scope scope own) (hsub : ∀ i ∈ is, i ∈ own.map (·.2))
    (h : IterD X T W χ tg iter δ w (LcD X T is tg ifs elt scope (own.map (·.2)) δ (fun acc w' => ∀ a, w' a = none → κ (R a) (wu w' a (.lst acc))))) (hs : ∀ x, foldedSetIterable iter X.env x = pure x := by intro _; rfl) : PD X T W χ (.ListComp elt [⟨tg, iter, ifs, 0⟩] scope pos) δ w κ := fun F σ S H Q hE hW hX hK => by
  obtain ⟨wi, hi, h⟩ := h
  exact wp_pe (pe_lc hc hN hi ok pg_bx pt_bx pe_bx hs) (lc_read hsub hE hW (fun R hR => h F σ S H R hE hW hX hR) (fin_own hK))
theorem psd_setLcO {i : Nat} {y : Str} {py spos : Pos} {elt tg iter : Expr} {ifs : List Expr} {scope : Scope} {C : Fin} (own : List (Str × Nat)) (is : List Nat) (hc : X.calm = true) (hN : X.N.Nodup) (hy : X.N[i]? = some y) (hyl : X.env.scope.names.lookup y = some .local)
    (hsw : swapsWith (.ListComp elt [⟨tg, iter, ifs, 0⟩] scope pos) (some (.Name y py)) spos.line X.env = pure true) (ok : BlkOk X.N X.env.scope scope own) (hsub : ∀ i ∈ is, i ∈ own.map (·.2))
    (h : IterD X T W χ tg iter δ w (LcD X T is tg ifs elt scope (own.map (·.2)) δ (fun acc w' => ∀ a, w' a = none → (fun d w' => C.nx (δ.set i (some d)) w') (R a) (wu w' a (.lst acc))))) (hs : ∀ x, foldedSetIterable iter X.env x = pure x := by intro _; rfl) : PSD X T W χ (.Assign [.Name y py] (.ListComp elt [⟨tg, iter, ifs, 0⟩] scope pos) spos) δ w C := fun F σ S H E hE hW hX hK => by
  obtain ⟨wi, hi, h⟩ := h
  refine wp_ps (ps_setLc hc hN hy hyl hsw hi ok pg_bx pt_bx pe_bx hs) ?_
  have q := lc_read (Q := fun v H' => gName i v σ H' E.nx) hsub hE hW (fun R hR => h F σ S H R hE hW (hX σ) hR) (fin_own (κ := fun d w' => C.nx (δ.set i (some d)) w') fun d w' v S' H' k s1 W1 r => hK.nx _ w' _ S' H' k s1 ((hE.mono s1).set i r) W1)
  exact q
/-! ### specs in data -/
abbrev SpD := List D → Wp → (D → Wp → Prop) → XD → Prop
def spOf (K : PySem.W.Frag) (T : List (Addr × Str)) (sp : SpD) : Sp := fun vs H Q E => ∃ ds w F S κ χ, sp ds w κ χ ∧ RepL K S ds vs ∧ World K T S w F H ∧ KD K T κ S F Q ∧
  (∀ C ns fs w' d S' H', χ C ns fs w' → Same S S' → World K T S' w' F H' → XdR K S' d ns fs → E (.ref C) (some d) H')
theorem pass0At {X : Cx} {σ : L2.St} {E : XK} : PassesAt CX0 X σ E := fun _ _ _ _ _ _ h => h.elim
theorem pd_call {CX : CXT} {k : Nat} {f : Addr} {fd : FuncData} {ps : List Str} {sp : SpD} {x : Str} {p : Pos} {e : Expr} {es : List Expr} {κ : D → Wp → Prop} (G : FnOk X.prog X.w X.K X.mg X.base CX k f fd ps (spOf X.K T sp)) (hr : Room k X.A) (hm : X.mg x = some (.ref f))
    (hk : PySem.W.keepIn X.K (.ref f) = true) (hb : Binds X.K fd ps []) (hx : ∀ σ, PassesAt CX X σ (WE W σ)) (h : PAD X T W χ (e :: es) δ w fun ds w1 => sp ds w1 κ χ) (hg : Gl X x := by rfl) (hdb : (x == ("__debug__" : Str)) = false := by decide)
    (he : starEach (e :: es) X.env = (false, eval e X.env) :: starEach es X.env := by rfl) (hpl : (backTo pos (starEach es X.env)).any (·.1) = false := by rfl) : PD X T W χ (.Call (.Name x p) (e :: es) [] pos) δ w κ := fun F σ S H Q hE hW hX hK =>
  wp_pe (pe_callSD G hr hg hm hk hb .nil hx (pa_wp _) hdb he hpl) (by
    refine h F σ S H _ hE hW hX fun ds w1 vs S1 H1 k s1 W1 r => ?_
    show spOf X.K T sp (vs ++ []) H1 Q (WE W σ)
    rw [List.append_nil]
    exact ⟨ds, w1, F, S1, κ, χ, k, r, W1, hK.mono s1, fun C ns fs w' d S' H' x s2 W2 xr => hX C ns fs w' d S' H' x (s1.trans s2) W2 xr⟩)
/-- a receiver: an instance of the class at C that has no field m -/
def InsD (C : Addr) (m : Str) (d : D) (w : Wp) : Prop := match d with
  | .obj C' ns _ => C' = C ∧ m ∉ ns
  | .val (.ref a) => ∃ dx ns ds, w a = some (.ins C dx ns ds) ∧ m ∉ ns
  | _ => False
theorem lookup_no {ys : List (Str × V)} {m : Str} (h : m ∉ ys.map (·.1)) : ys.lookup m = none := by
  induction ys with
  | nil => rfl
  | cons p ys ih =>
    obtain ⟨g, x⟩ := p
    have h1 : ¬ m = g := fun z => h (by rw [z]; exact List.mem_cons_self ..)
    have hb : (m == g) = false := beq_eq_false_iff_ne.mpr h1
    simp only [List.lookup, hb]
    exact ih fun z => h (List.mem_cons_of_mem _ z)
theorem InsD.is {K : PySem.W.Frag} {C : Addr} {m : Str} {d : D} {w : Wp} {S F H : Hp} {x : V} (i : InsD C m d w) (hW : World K T S w F H) (r : Rep K S d x) : ∃ a dx fs, x = .ref a ∧ H a = some (.ins C dx fs) ∧ fs.lookup m = none := by
  cases d with
  | obj C' ns ds =>
    obtain ⟨rfl, hm⟩ := i
    obtain ⟨a, dx, ys, rfl, h1, rfl, _⟩ := r
    exact ⟨a, dx, ys, rfl, hW.same _ _ h1, lookup_no hm⟩
  | val v =>
    have e : x = v := r
    subst e
    cases x with
    | ref a =>
      obtain ⟨dx, ns, ds, hw, hm⟩ := i
      obtain ⟨_, _, o, h1, h2⟩ := hW.own a _ hw
      obtain ⟨ys, rfl, rfl, h3⟩ := h2
      exact ⟨a, dx, ys, rfl, h1, lookup_no hm⟩
    | _ => exact i.elim
  | _ => exact i.elim
def tMethSD (C : Addr) (m : Str) (sp : Sp) (E : L2.St → XK) (ta : TE) (t : TA) : TE := fun σ H Q => ta σ H fun x H1 => ∃ a dx fs, x = .ref a ∧ H1 a = some (.ins C dx fs) ∧ fs.lookup m = none ∧
  t σ H1 fun vs H2 => sp (x :: vs) H2 Q (E σ)
theorem pe_methSD {CX : CXT} {k : Nat} {f C : Addr} {fd : FuncData} {ps : List Str} {sp : Sp} {E : L2.St → XK} {m : Str} {apos : Pos} {e o : Expr} {es : List Expr} {ta : TE} {t : TA} {pl : Sem Bool} (he : PE X o ta) (c : Cls X.K C) (hm : Meth X.K C m f) (G : FnOk X.prog X.w X.K X.mg X.base CX k f fd ps sp) (hr : Room k X.A) (hb : Binds X.K fd ps [])
    (hx : ∀ σ, PassesAt CX X σ (E σ)) (ha : PA X (e :: es) t)
    (hst : starEach (e :: es) X.env = (false, eval e X.env) :: starEach es X.env := by rfl) (hpl : (backTo pos (starEach es X.env)).any (·.1) = false := by rfl)
    (ht : eval (.Call (.Attribute o m apos) (e :: es) [] pos) X.env = (do
      let ov ← eval o X.env
      standAt apos.atName
      let (f, first) ← holding [ov] (getMethod ov m pl)
      callWith pos f first (backTo pos (starEach (e :: es) X.env)) (backToKw pos (keywordEach [] X.env))) := by rfl) : PE X (.Call (.Attribute o m apos) (e :: es) [] pos) (tMethSD C m sp E ta t) := by
  refine ⟨fun pins s σ H Q I h => ?_⟩
  refine PySem.W.methodCall_KW (pl := pl) (thn (he.run pins s σ H _ I h) fun u s1 ⟨x, H1, I1, rx, a, dx, fs, ex, ea, l, q⟩ => ?_) ht
  subst ex
  obtain rfl : u = Value.ref a := rx
  refine getmeth_ok I1 ea c hm l ?_
  refine PySem.W.callWith_K (first := [.ref a]) (h₀ := X.base) I.ok.mod.kin hm.kp (thn (ha.run pos pins s1 σ H1 _ I1 q) fun us s2 ⟨vs, H2, I2, r, q2⟩ => ⟨I2.kIn, ?_⟩) hst hpl
  exact run_fnSD (us := .ref a :: us) (vs := .ref a :: vs) (dvs := []) (ds := []) G hr hb .nil (hx σ) I2 (.cons rfl r) (by rw [List.append_nil]; exact q2)
theorem pe_meth0SD {CX : CXT} {k : Nat} {f C : Addr} {fd : FuncData} {ps : List Str} {sp : Sp} {E : L2.St → XK} {m : Str} {apos : Pos} {o : Expr} {ta : TE} {pl : Sem Bool} (he : PE X o ta) (c : Cls X.K C) (hm : Meth X.K C m f) (G : FnOk X.prog X.w X.K X.mg X.base CX k f fd ps sp) (hr : Room k X.A) (hb : Binds X.K fd ps [])
    (hx : ∀ σ, PassesAt CX X σ (E σ))
    (ht : eval (.Call (.Attribute o m apos) [] [] pos) X.env = (do
      let ov ← eval o X.env
      standAt apos.atName
      let (f, first) ← holding [ov] (getMethod ov m pl)
      callWith pos f first (backTo pos (starEach [] X.env)) (backToKw pos (keywordEach [] X.env))) := by rfl) : PE X (.Call (.Attribute o m apos) [] [] pos) (tMethSD C m sp E ta tNil) := by
  refine ⟨fun pins s σ H Q I h => ?_⟩
  refine PySem.W.methodCall_KW (pl := pl) (thn (he.run pins s σ H _ I h) fun u s1 ⟨x, H1, I1, rx, a, dx, fs, ex, ea, l, q⟩ => ?_) ht
  subst ex
  obtain rfl : u = Value.ref a := rx
  refine getmeth_ok I1 ea c hm l ?_
  exact PySem.W.callWith_K0 (first := [.ref a]) I1.kIn hm.kp (run_fnSD (us := [.ref a]) (vs := [.ref a]) (dvs := []) (ds := []) G hr hb .nil (hx σ) I1 (.cons rfl .nil) q)
theorem pd_meth {CX : CXT} {k : Nat} {f C : Addr} {fd : FuncData} {ps : List Str} {sp : SpD} {m : Str} {apos : Pos} {e o : Expr} {es : List Expr} {κ : D → Wp → Prop} {pl : Sem Bool} (c : Cls X.K C) (hm : Meth X.K C m f) (G : FnOk X.prog X.w X.K X.mg X.base CX k f fd ps (spOf X.K T sp)) (hr : Room k X.A) (hb : Binds X.K fd ps [])
    (hx : ∀ σ, PassesAt CX X σ (WE W σ)) (h : PD X T W χ o δ w fun d w1 => InsD C m d w1 ∧ PAD X T W χ (e :: es) δ w1 fun ds w2 => sp (d :: ds) w2 κ χ)
    (hst : starEach (e :: es) X.env = (false, eval e X.env) :: starEach es X.env := by rfl) (hpl : (backTo pos (starEach es X.env)).any (·.1) = false := by rfl)
    (ht : eval (.Call (.Attribute o m apos) (e :: es) [] pos) X.env = (do
      let ov ← eval o X.env
      standAt apos.atName
      let (f, first) ← holding [ov] (getMethod ov m pl)
      callWith pos f first (backTo pos (starEach (e :: es) X.env)) (backToKw pos (keywordEach [] X.env))) := by rfl) : PD X T W χ (.Call (.Attribute o m apos) (e :: es) [] pos) δ w κ := fun F σ S H Q hE hW hX hK =>
  wp_pe (pe_methSD (pe_wp o) c hm G hr hb hx (pa_wp _) hst hpl ht) (by
    refine h F σ S H _ hE hW hX fun d w1 v S1 H1 k s1 W1 r => ?_
    obtain ⟨a, dx, fs, rfl, h1, h2⟩ := k.1.is W1 r
    refine ⟨a, dx, fs, rfl, h1, h2, ?_⟩
    refine k.2 F σ S1 H1 _ (hE.mono s1) W1 (hX.mono s1) fun ds w2 vs S2 H2 k2 s2 W2 r2 => ?_
    exact ⟨d :: ds, w2, F, S2, κ, χ, k2, ⟨_, vs, rfl, r.mono s2, r2⟩, W2, hK.mono (s1.trans s2), fun C ns fs w' d S' H' x s3 W3 xr => hX C ns fs w' d S' H' x (s1.trans (s2.trans s3)) W3 xr⟩)
theorem pd_meth0 {CX : CXT} {k : Nat} {f C : Addr} {fd : FuncData} {ps : List Str} {sp : SpD} {m : Str} {apos : Pos} {o : Expr} {κ : D → Wp → Prop} {pl : Sem Bool} (c : Cls X.K C) (hm : Meth X.K C m f) (G : FnOk X.prog X.w X.K X.mg X.base CX k f fd ps (spOf X.K T sp)) (hr : Room k X.A) (hb : Binds X.K fd ps [])
    (hx : ∀ σ, PassesAt CX X σ (WE W σ)) (h : PD X T W χ o δ w fun d w1 => InsD C m d w1 ∧ sp [d] w1 κ χ)
    (ht : eval (.Call (.Attribute o m apos) [] [] pos) X.env = (do
      let ov ← eval o X.env
      standAt apos.atName
      let (f, first) ← holding [ov] (getMethod ov m pl)
      callWith pos f first (backTo pos (starEach [] X.env)) (backToKw pos (keywordEach [] X.env))) := by rfl) : PD X T W χ (.Call (.Attribute o m apos) [] [] pos) δ w κ := fun F σ S H Q hE hW hX hK =>
  wp_pe (pe_meth0SD (pe_wp o) c hm G hr hb hx ht) (by
    refine h F σ S H _ hE hW hX fun d w1 v S1 H1 k s1 W1 r => ?_
    obtain ⟨a, dx, fs, rfl, h1, h2⟩ := k.1.is W1 r
    refine ⟨a, dx, fs, rfl, h1, h2, ?_⟩
    exact ⟨[d], w1, F, S1, κ, χ, k.2, ⟨_, [], rfl, r, rfl⟩, W1, hK.mono s1, fun C ns fs w' d S' H' x s3 W3 xr => hX C ns fs w' d S' H' x (s1.trans s3) W3 xr⟩)
/-- C(e, ..) -/
theorem run_makeSD {CX : CXT} {k : Nat} {f C : Addr} {fd : FuncData} {ps : List Str} {sp : Sp} {E : XK} {pins : List (Addr × Obj)} {σ : L2.St} {H : Hp} {s : Shared} {Q : VK} {us : List Value} {vs : List V} (M : Mk X.K C f) (G : FnOk X.prog X.w X.K X.mg X.base CX k f fd ps sp) (hr : Room (k + 1) X.A) (hb : Binds X.K fd ps [])
    (hx : PassesAt CX X σ E) (I : Inv X pins σ H s) (r : Vals vs us)
    (h : ∀ x dx, H x = none → H dx = none → dx ≠ x → sp (.ref x :: vs) (upd (upd H dx (.own x)) x (.ins C dx [])) (fun v H2 => v = .non ∧ Q (.ref x) H2) E) :
    wpAny (model X.prog X.w) X.A (call (.ref C) us) (EP X pins σ Q) X.xe s := by
  have hq := h (s.heap.objs.size + 1) s.heap.objs.size (I.hok.fresh (Nat.le_succ _)) (I.hok.fresh (Nat.le_refl _)) (Nat.ne_of_lt (Nat.lt_succ_self _))
  have I2 := Inv.made (C := C) I
  have r2 : Vals (V.ref (s.heap.objs.size + 1) :: vs) (Value.ref (s.heap.objs.size + 1) :: us) := .cons rfl r
  have hl : ((Value.ref (s.heap.objs.size + 1) :: us) ++ []).length = ps.length := by
    have e := r2.length
    rw [F_len G hq] at e
    rw [List.append_nil]
    exact e.symm
  have bb := hb _ (Value.ref (s.heap.objs.size + 1) :: us) I2.kIn hl
  rw [List.append_nil] at bb
  refine wpAny_call (make_map (f := f) I.kIn M.makes M.init (beq_iff_eq.mp M.fn) (codeAny_mono (G.run _ X.stack _ _ ⟨Value.ref (s.heap.objs.size + 1) :: us, []⟩ (Value.ref (s.heap.objs.size + 1) :: us) _ _ E (hr.make C us [])
    (I2.env0.make C us []) bb r2 hq) fun r s' hq' => ?_))
  cases r with
  | error e => exact hx pins _ _ e s' I2 hq'
  | ok fl =>
    cases fl with
    | ret u =>
      obtain ⟨v, H', I3, rv, ev, q3⟩ := I2.after hq'
      subst ev
      exact ⟨rv, ⟨V.ref (s.heap.objs.size + 1), H', I3, rfl, q3⟩⟩
    | next => exact False.elim hq'
    | brk => exact False.elim hq'
    | cont => exact False.elim hq'
where F_len {CX : CXT} {k : Nat} {f : Addr} {fd : FuncData} {ps : List Str} {sp : Sp} {E : XK} {Q : VK} {H : Hp} {vs : List V} (G : FnOk X.prog X.w X.K X.mg X.base CX k f fd ps sp) (h : sp vs H Q E) : vs.length = ps.length := G.len _ _ _ _ h
def tMakeSD (C : Addr) (sp : Sp) (E : L2.St → XK) (t : TA) : TE := fun σ H Q => t σ H fun vs H1 => ∀ x dx, H1 x = none → H1 dx = none → dx ≠ x →
  sp (.ref x :: vs) (upd (upd H1 dx (.own x)) x (.ins C dx [])) (fun v H2 => v = .non ∧ Q (.ref x) H2) (E σ)
theorem pe_makeSD {CX : CXT} {k : Nat} {f C : Addr} {fd : FuncData} {ps : List Str} {sp : Sp} {E : L2.St → XK} {x : Str} {p : Pos} {e : Expr} {es : List Expr} {t : TA} (M : Mk X.K C f) (G : FnOk X.prog X.w X.K X.mg X.base CX k f fd ps sp) (hr : Room (k + 1) X.A) (hg : Gl X x) (hm : X.mg x = some (.ref C)) (hb : Binds X.K fd ps []) (hx : ∀ σ, PassesAt CX X σ (E σ))
    (ha : PA X (e :: es) t) (hdb : (x == ("__debug__" : Str)) = false := by decide) (he : starEach (e :: es) X.env = (false, eval e X.env) :: starEach es X.env := by rfl) (hpl : (backTo pos (starEach es X.env)).any (·.1) = false := by rfl) :
    PE X (.Call (.Name x p) (e :: es) [] pos) (tMakeSD C sp E t) := by
  refine ⟨fun pins s σ H Q I h => ?_⟩
  refine wpAny_Call_Name_kw (ld_glob I hg hm ?_ hdb)
  refine PySem.W.callWith_K (h₀ := X.base) I.ok.mod.kin M.kp (thn (ha.run pos pins s σ H _ I h) fun us s1 ⟨vs, H1, I1, r, q⟩ => ⟨I1.kIn, ?_⟩) he hpl
  exact run_makeSD M G hr hb (hx σ) I1 r q
theorem pd_make {CX : CXT} {k : Nat} {f C : Addr} {fd : FuncData} {ps : List Str} {sp : SpD} {x : Str} {p : Pos} {e : Expr} {es : List Expr} {κ : D → Wp → Prop} (M : Mk X.K C f) (G : FnOk X.prog X.w X.K X.mg X.base CX k f fd ps (spOf X.K T sp)) (hr : Room (k + 1) X.A) (hm : X.mg x = some (.ref C)) (hb : Binds X.K fd ps []) (hx : ∀ σ, PassesAt CX X σ (WE W σ))
    (h : PAD X T W χ (e :: es) δ w fun ds w1 => ∀ a dx, w1 a = none → sp (R a :: ds) (wu w1 a (.ins C dx [] [])) (fun d w2 => d = N ∧ ∃ ns es, w2 a = some (.ins C dx ns es) ∧ κ (.obj C ns es) (wd w2 a)) χ)
    (hg : Gl X x := by rfl) (hdb : (x == ("__debug__" : Str)) = false := by decide) (he : starEach (e :: es) X.env = (false, eval e X.env) :: starEach es X.env := by rfl) (hpl : (backTo pos (starEach es X.env)).any (·.1) = false := by rfl) :
    PD X T W χ (.Call (.Name x p) (e :: es) [] pos) δ w κ := fun F σ S H Q hE hW hX hK => wp_pe (pe_makeSD M G hr hg hm hb hx (pa_wp _) hdb he hpl) (by
  refine h F σ S H _ hE hW hX fun ds w1 vs S1 H1 k s1 W1 r => ?_
  intro a dx na ndx nad
  have W2 := (W1.junk (o := .own a) ndx).take (a := a) (h := .ins C dx [] []) (o := .ins C dx []) (by rw [upd_ne (Ne.symm nad)]; exact na) ⟨[], rfl, rfl, rfl⟩
  refine ⟨R a :: ds, _, F, S1, _, χ, k a dx (W1.free na).2.1, ⟨_, vs, rfl, rfl, r⟩, W2, ?_, fun C ns fs w' d S' H' x s3 W3 xr => hX C ns fs w' d S' H' x (s1.trans s3) W3 xr⟩
  rintro d w' v S' H' ⟨rfl, ns, es, ew, kk⟩ s2 W3 rv
  refine ⟨rv, ?_⟩
  obtain ⟨o, e1, r3, W4⟩ := W3.freeze ew
  obtain ⟨ys, rfl, hys, r4⟩ := r3
  have s3 : Same S' (upd S' a (.ins C dx ys)) := same_upd e1
  exact hK _ _ _ _ _ kk (s1.trans (s2.trans s3)) W4 ⟨a, dx, ys, rfl, upd_same, hys, r4.mono s3⟩)
/-! ### fields -/
def look2 : List Str → List D → Str → Option D
  | n :: ns, d :: ds, f => if f = n then some d else look2 ns ds f
  | _, _, _ => none
theorem look2_at {K : PySem.W.Frag} {S : Hp} : ∀ {ys : List (Str × V)} {ds : List D} {f : Str} {d : D}, RepL K S ds (ys.map (·.2)) → look2 (ys.map (·.1)) ds f = some d → ∃ v, ys.lookup f = some v ∧ Rep K S d v
  | [], ds, f, d, r, h => by cases h
  | (g, x) :: ys, [], f, d, r, h => by cases h
  | (g, x) :: ys, d0 :: ds, f, d, r, h => by
    obtain ⟨y, zs, e, r1, r2⟩ := r
    have e' : x :: ys.map (·.2) = y :: zs := e
    cases e'
    have h' : (if f = g then some d0 else look2 (ys.map (·.1)) ds f) = some d := h
    by_cases q : f = g
    · rw [if_pos q] at h'
      cases h'
      subst q
      exact ⟨x, by simp [List.lookup], r1⟩
    · rw [if_neg q] at h'
      obtain ⟨v, h1, h2⟩ := look2_at r2 h'
      have hb : (f == g) = false := beq_eq_false_iff_ne.mpr q
      exact ⟨v, by simp only [List.lookup, hb]; exact h1, h2⟩
/-- the instance d of the class at C has at f the data u -/
def FldD (C : Addr) (f : Str) (d : D) (w : Wp) (u : D) : Prop := match d with
  | .obj C' ns ds => C' = C ∧ look2 ns ds f = some u
  | .val (.ref a) => ∃ dx ns ds, w a = some (.ins C dx ns ds) ∧ look2 ns ds f = some u
  | _ => False
theorem pd_fld {e : Expr} {f : Str} {C : Addr} {κ : D → Wp → Prop} (c : Cls X.K C) (n : NoAttr X.K C f) (h : PD X T W χ e δ w fun d w1 => ∃ u, FldD C f d w1 u ∧ κ u w1)
    (hb : attributeBase e f X.env (eval e X.env) = eval e X.env := by rfl) : PD X T W χ (.Attribute e f pos) δ w κ := fun F σ S H Q hE hW hX hK => wp_pe (pe_fld (pe_wp e) hb) (by
  refine h F σ S H _ hE hW hX fun d w1 v S1 H1 k s1 W1 r => ?_
  obtain ⟨u, hf, k⟩ := k
  cases d with
  | obj C' ns ds =>
    obtain ⟨rfl, hl⟩ := hf
    obtain ⟨a, dx, ys, rfl, h1, rfl, h3⟩ := r
    obtain ⟨v, h4, h5⟩ := look2_at h3 hl
    exact ⟨a, _, dx, ys, v, rfl, W1.same _ _ h1, c, n, h4, hK u w1 v S1 H1 k s1 W1 h5⟩
  | val v' =>
    have e' : v = v' := r
    subst e'
    cases v with
    | ref a =>
      obtain ⟨dx, ns, ds, hw, hl⟩ := hf
      obtain ⟨_, _, o, h1, h2⟩ := W1.own a _ hw
      obtain ⟨ys, rfl, rfl, h3⟩ := h2
      obtain ⟨v, h4, h5⟩ := look2_at h3 hl
      exact ⟨a, _, dx, ys, v, rfl, h1, c, n, h4, hK u w1 v S1 H1 k s1 W1 h5⟩
    | _ => exact hf.elim
  | _ => exact hf.elim)
theorem putF_new {f : Str} {v : V} : ∀ {ys : List (Str × V)}, f ∉ ys.map (·.1) → putF f v ys = ys ++ [(f, v)]
  | [], _ => rfl
  | (g, x) :: ys, h => by
    show (if g = f then (g, v) :: ys else (g, x) :: putF f v ys) = _
    rw [if_neg (fun z => h (by rw [← z]; exact List.mem_cons_self ..)), putF_new fun z => h (List.mem_cons_of_mem _ z)]
    rfl
/-- self.f = e, f new -/
theorem psd_fldNew {o e : Expr} {f : Str} {fp : Pos} {C : Addr} {Fi : Fin} (c : Cls X.K C) (n : NoAttr X.K C f) (h : PD X T W χ e δ w fun d w1 => PD X T W χ o δ w1 fun od w2 => ∃ a dx ns ds, od = R a ∧ w2 a = some (.ins C dx ns ds) ∧ f ∉ ns ∧ ns.length < 1000 ∧ Fi.nx δ (wu w2 a (.ins C dx (ns ++ [f]) (ds ++ [d]))))
    (hs : swapsWith e (some (.Attribute o f fp)) pos.line X.env = pure false := by rfl) : PSD X T W χ (.Assign [.Attribute o f fp] e pos) δ w Fi := fun F σ S H E hE hW hX hK => wp_ps (ps_fld (pe_wp o) (pe_wp e) hs) (by
  refine h F σ S H _ hE hW (hX σ) fun d w1 v S1 H1 k s1 W1 r => ?_
  refine k F σ S1 H1 _ (hE.mono s1) W1 ((hX σ).mono s1) fun od w2 x S2 H2 k2 s2 W2 r2 => ?_
  obtain ⟨a, dx, ns, ds, rfl, hw, hn, hl, k2⟩ := k2
  have r2' : x = .ref a := r2
  subst r2'
  obtain ⟨_, _, ob, h1, h2⟩ := W2.own a _ hw
  obtain ⟨ys, rfl, rfl, h3⟩ := h2
  refine ⟨a, C, dx, ys, rfl, h1, c, n, by rw [List.length_map] at hl; exact hl, ?_⟩
  rw [putF_new hn]
  refine hK.nx δ _ σ S2 _ k2 (s1.trans s2) (hE.mono (s1.trans s2)) (W2.put hw ⟨_, rfl, by rw [List.map_append]; rfl, ?_⟩)
  rw [List.map_append]
  exact h3.app (RepL.one (r.mono s2)))
/-- a class's constant -/
theorem pd_cval {e : Expr} {f : Str} {mc : Value} {C : Addr} {v : V} {u : Value} {κ : D → Wp → Prop} (r : ClX.CRead X.K C mc) (k : ClX.CVal X.K C mc f v u) (h : PD X T W χ e δ w fun d w1 => d = R C ∧ κ (.val v) w1)
    (hb : attributeBase e f X.env (eval e X.env) = eval e X.env := by rfl) : PD X T W χ (.Attribute e f pos) δ w κ := fun F σ S H Q hE hW hX hK => wp_pe (ClX.pe_cval (pe_wp e) hb) (by
  refine h F σ S H _ hE hW hX fun d w1 x S1 H1 q s1 W1 r1 => ?_
  obtain ⟨rfl, q⟩ := q
  exact ⟨C, mc, v, u, r1, r, k, hK _ w1 _ S1 H1 q s1 W1 rfl⟩)
theorem pd_glob {x : Str} {v : V} {u : Value} {κ : D → Wp → Prop} (hm : X.mg x = some u) (r : RelV v u) (k : κ (.val v) w) (hg : Gl X x := by rfl) (hd : (x == ("__debug__" : Str)) = false := by decide) : PD X T W χ (.Name x pos) δ w κ :=
  fun F σ S H Q hE hW hX hK => wp_pe (pe_glob hg hm r hd) (hK _ w _ S H k (Same.refl _) hW rfl)
theorem pd_bltn {x : Str} {v : V} {u : Value} {κ : D → Wp → Prop} (hm : X.mg x = none) (hv : bootBuiltins x = some u) (r : RelV v u) (k : κ (.val v) w) (hg : Gl X x := by rfl) (hn : x ≠ "__name__" := by decide) (hd : (x == ("__debug__" : Str)) = false := by decide) : PD X T W χ (.Name x pos) δ w κ :=
  fun F σ S H Q hE hW hX hK => wp_pe (pe_bltn hg hm hv r hn hd) (hK _ w _ S H k (Same.refl _) hW rfl)
end
/-! ### defs -/
def startD (N : List Str) (ds : List D) : Dn := ds.map some ++ List.replicate (N.length - ds.length) none
theorem env_start {K : PySem.W.Frag} {S : Hp} {N : List Str} {ds : List D} {vs : List V} (r : RepL K S ds vs) : EnvD K S (startD N ds) (L2.start N vs) := by
  have hl := r.length
  refine ⟨by unfold startD L2.start; rw [List.length_append, List.length_append, List.length_map, List.length_map, List.length_replicate, List.length_replicate, hl], fun i d h => ?_⟩
  unfold startD at h
  by_cases hi : i < ds.length
  · rw [List.getElem?_append_left (by rw [List.length_map]; exact hi), List.getElem?_map] at h
    cases e : ds[i]? with
    | none =>
      rw [e] at h
      cases h
    | some d' =>
      rw [e] at h
      cases h
      obtain ⟨v, h1, h2⟩ := r.get e
      refine ⟨v, ?_, h2⟩
      unfold L2.start
      rw [List.getElem?_append_left (by rw [List.length_map, hl]; exact hi), List.getElem?_map, h1]
      rfl
  · rw [List.getElem?_append_right (by rw [List.length_map]; omega), List.getElem?_replicate] at h
    split at h <;> cases h
section
variable {P : Program} {w : PySem.World} {K : PySem.W.Frag} {mg : Str → Option Value} {base : Heap} {T : List (Addr × Str)}
/-- a def that lets no error out -/
theorem fnD {x qual : Str} {st : Stmt} {f : Addr} {fd : FuncData} {N ps : List Str} {k : Nat} {sp : SpD} (G : Fun K x qual st f fd) (S : FnScope N ps (defScope st)) (len : ∀ ds w κ χ, sp ds w κ χ → ds.length = ps.length)
    (body : ∀ (cdv : Value) (A : Around) (outer : List Env) (s : Shared) (H : Hp) (E : XK) (ds : List D) (w0 : Wp) (κ : D → Wp → Prop) (χ : XD), Room k (A.deeper (envOfC qual (defScope st) s.heap.objs.size f cdv)) → sp ds w0 κ χ →
      PSsD (cxOf CX0 P w K mg base N qual (defScope st) f cdv A outer s H E).nox T Wf noX (defBody st) (startD N ds) w0 { nx := fun _ w' => κ DL.N w', rt := κ }) : FnOk P w K mg base CX0 (k + 1) f fd ps (spOf K T sp) := by
  refine G.ok S (fun vs H Q E h => ?_) (fun cdv A outer s H vs Q E hr h => ?_)
  · obtain ⟨ds, w0, F, S0, κ, χ, h1, h2, _⟩ := h
    rw [h2.length]
    exact len _ _ _ _ h1
  · obtain ⟨ds, w0, F, S0, κ, χ, h1, h2, h3, h4, h5⟩ := h
    refine ⟨_, pss_wp _, ?_⟩
    exact body cdv A outer s H E ds w0 κ χ hr h1 F _ S0 H _ (env_start h2) h3 exsf ⟨fun δ' w' σ' S' H' k s1 hE W1 => h4 _ w' _ S' H' k s1 W1 rfl, h4, fun _ _ _ _ _ z => z.elim, fun _ _ _ _ _ z => z.elim⟩
/-- a def that may raise -/
theorem fnX {x qual : Str} {st : Stmt} {f : Addr} {fd : FuncData} {N ps : List Str} {k : Nat} {sp : SpD} (G : Fun K x qual st f fd) (S : FnScope N ps (defScope st)) (len : ∀ ds w κ χ, sp ds w κ χ → ds.length = ps.length)
    (body : ∀ (cdv : Value) (A : Around) (outer : List Env) (s : Shared) (H : Hp) (E : XK) (ds : List D) (w0 : Wp) (κ : D → Wp → Prop) (χ : XD), Room k (A.deeper (envOfC qual (defScope st) s.heap.objs.size f cdv)) → sp ds w0 κ χ →
      PSsD (cxOf (L2.CX P w) P w K mg base N qual (defScope st) f cdv A outer s H E) T (fun cls d _ H => E cls d H) χ (defBody st) (startD N ds) w0 { nx := fun _ w' => κ DL.N w', rt := κ }) : FnOk P w K mg base (L2.CX P w) (k + 1) f fd ps (spOf K T sp) := by
  refine G.okX S (fun vs H Q E h => ?_) (fun cdv A outer s H vs Q E hr h => ?_)
  · obtain ⟨ds, w0, F, S0, κ, χ, h1, h2, _⟩ := h
    rw [h2.length]
    exact len _ _ _ _ h1
  · obtain ⟨ds, w0, F, S0, κ, χ, h1, h2, h3, h4, h5⟩ := h
    refine ⟨_, pss_wp _, ?_⟩
    exact body cdv A outer s H E ds w0 κ χ hr h1 F _ S0 H _ (env_start h2) h3 (fun σ C ns fs w' d S' H' x s1 W1 xr => h5 C ns fs w' d S' H' x s1 W1 xr) ⟨fun δ' w' σ' S' H' k s1 hE W1 => h4 _ w' _ S' H' k s1 W1 rfl, h4, fun _ _ _ _ _ z => z.elim, fun _ _ _ _ _ z => z.elim⟩
end
end DL

set_option Elab.async false
set_option linter.all false
set_option maxRecDepth 100000
set_option maxHeartbeats 1000000
/-! Slices, index, isinstance. -/
namespace DL
open PySem PySem.Spec PyProof.Rows L2 LamX
theorem cut_to (xs : List V) (n : Nat) : cutV xs none (some (n : Int)) = xs.take n := by
  unfold cutV
  rw [HT.sIx_none, HT.sIx_nat, List.drop_zero, Nat.sub_zero]
  by_cases h : n ≤ xs.length
  · rw [Nat.min_eq_left h]
  · rw [Nat.min_eq_right (by omega), List.take_of_length_le (Nat.le_refl _), List.take_of_length_le (by omega)]
theorem cut_from (xs : List V) (n : Nat) : cutV xs (some (n : Int)) none = xs.drop n := by
  unfold cutV
  rw [HT.sIx_none, HT.sIx_nat]
  by_cases h : n ≤ xs.length
  · rw [Nat.min_eq_left h, List.take_of_length_le (by rw [List.length_drop]; omega)]
  · rw [Nat.min_eq_right (by omega), List.drop_eq_nil_of_le (Nat.le_refl _), List.drop_eq_nil_of_le (by omega), List.take_nil]
section
variable {X : Cx} {T : List (Addr × Str)} {W : WX} {χ : XD} {δ : Dn} {w : Wp} {pos : Pos}
/-- what may be read as a list -/
def LstD (d : D) (ds : List D) : Prop := d = .lst ds ∨ d = .rd ds
theorem LstD.at_ {K : PySem.W.Frag} {S F H : Hp} {w : Wp} {d : D} {ds : List D} {x : V} (l : LstD d ds) (hW : World K T S w F H) (r : Rep K S d x) : ∃ a xs, x = .ref a ∧ SqL K H a xs ∧ RepL K S ds xs := by
  rcases l with rfl | rfl
  · obtain ⟨a, xs, rfl, h1, h2⟩ := r
    exact ⟨a, xs, rfl, SqL.of (hW.same _ _ h1), h2⟩
  · obtain ⟨a, xs, rfl, h1, h2⟩ := r
    exact ⟨a, xs, rfl, hW.same.seq h1, h2⟩
/-- xs[:n] -/
theorem pd_slTo {e : Expr} {n : Nat} {j : Nat} {p1 p2 : Pos} {κ : D → Wp → Prop} (h : PD X T W χ e δ w fun d w1 => ∃ ds, LstD d ds ∧ κ (.lst (ds.take n)) w1) : PD X T W χ (.Subscript e (.Slice none (some (.Constant (.int (n : Int)) j p1)) none p2) pos) δ w κ := fun F σ S H Q hE hW hX hK =>
  wp_pe (pe_slice sl_list (pe_wp e) po_none (po_some pe_int)) (by
    refine h F σ S H _ hE hW hX fun d w1 v S1 H1 k s1 W1 r => ?_
    obtain ⟨ds, hl, k⟩ := k
    obtain ⟨a, xs, rfl, h1, h2⟩ := hl.at_ W1 r
    refine ⟨n, rfl, a, xs, rfl, h1, fun p hp => ?_⟩
    rw [cut_to]
    have s2 : Same S1 (upd S1 p (.lst (xs.take n))) := same_upd (W1.free hp).1
    exact hK _ w1 _ _ _ k (s1.trans s2) (W1.laid hp fun _ z => by cases z) ⟨p, _, rfl, upd_same, (h2.take n).mono s2⟩)
/-- xs[n:] -/
theorem pd_slFrom {e : Expr} {n : Nat} {j : Nat} {p1 p2 : Pos} {κ : D → Wp → Prop} (h : PD X T W χ e δ w fun d w1 => ∃ ds, LstD d ds ∧ κ (.lst (ds.drop n)) w1) : PD X T W χ (.Subscript e (.Slice (some (.Constant (.int (n : Int)) j p1)) none none p2) pos) δ w κ := fun F σ S H Q hE hW hX hK =>
  wp_pe (pe_slice sl_list (pe_wp e) (po_some pe_int) po_none) (by
    refine h F σ S H _ hE hW hX fun d w1 v S1 H1 k s1 W1 r => ?_
    obtain ⟨ds, hl, k⟩ := k
    obtain ⟨a, xs, rfl, h1, h2⟩ := hl.at_ W1 r
    refine ⟨n, rfl, a, xs, rfl, h1, fun p hp => ?_⟩
    rw [cut_from]
    have s2 : Same S1 (upd S1 p (.lst (xs.drop n))) := same_upd (W1.free hp).1
    exact hK _ w1 _ _ _ k (s1.trans s2) (W1.laid hp fun _ z => by cases z) ⟨p, _, rfl, upd_same, (h2.drop n).mono s2⟩)
end
section
variable {K : PySem.W.Frag} {T : List (Addr × Str)} {w : Wp} {κ : D → Wp → Prop}
theorem before_ix : ∀ {ns : List Int} {m : Nat} {n : Int}, m < ns.idxOf n → ns[m]? ≠ some n
  | [], m, n, h => by simp at h
  | a :: ns, m, n, h => by
    rw [List.idxOf_cons] at h
    by_cases e : a = n
    · have e' : (a == n) = true := beq_iff_eq.mpr e
      rw [e'] at h
      exact absurd h (Nat.not_lt_zero _)
    · have e' : (a == n) = false := beq_eq_false_iff_ne.mpr e
      rw [e'] at h
      have h' : m < ns.idxOf n + 1 := h
      cases m with
      | zero => exact fun z => e (Option.some.inj z)
      | succ m => exact before_ix (ns := ns) (m := m) (by omega)
/-- xs.index(x), ints -/
theorem vm_index {ns : List Int} {n : Int} (hm : n ∈ ns) (k : κ (I ((ns.idxOf n : Nat) : Int)) w) : VRM K T (rIndex K) (.lst (ns.map I)) [I n] w κ := fun F S H x xs Q hW r1 r2 hK => by
  obtain ⟨a, ys, rfl, h1, h2⟩ := r1
  obtain ⟨y, zs, rfl, h3, h4⟩ := r2
  have h3' : y = .int n := h3
  have h4' : zs = [] := h4
  have h2' := h2.ints
  subst h3' h4' h2'
  have hi : ns.idxOf n < ns.length := List.idxOf_lt_length_of_mem hm
  refine ⟨a, ns.map V.int, .int n, ns.idxOf n, .int n, rfl, rfl, SqL.of (hW.same _ _ h1), rfl, ?_, ?_, ?_, ?_, hK _ w _ S H k (Same.refl _) hW rfl⟩
  · rw [List.all_eq_true]
    intro v hv
    obtain ⟨m, _, rfl⟩ := List.mem_map.mp hv
    rfl
  · rw [List.getElem?_map, List.getElem?_eq_getElem hi, List.getElem_idxOf hi]
    rfl
  · show (n == n) = true
    exact beq_self_eq_true n
  · intro m z' hlt hz
    rw [List.getElem?_map] at hz
    cases e : ns[m]? with
    | none =>
      rw [e] at hz
      cases hz
    | some z =>
      rw [e] at hz
      cases hz
      show (z == n) = false
      have hne : z ≠ n := fun q => by
        subst q
        exact before_ix hlt e
      exact beq_eq_false_iff_ne.mpr hne
/-- a datum's built-in type -/
def tyD : D → Option String
  | .val .non => some "NoneType"
  | .val (.bl _) => some "bool"
  | .val (.int _) => some "int"
  | .val (.str _) => some "str"
  | .val _ => none
  | .lst _ => some "list"
  | .rd _ => none
  | .tup _ => some "tuple"
  | .obj _ _ _ => none
  | .exc _ _ _ _ => none
  | .dic _ => none
  | .dct _ => none
  | .dcv _ _ => none
  | .cod _ _ _ _ _ _ => none
theorem tyx {S F H : Hp} {d : D} {x : V} {t : String} (hW : World K T S w F H) (h : tyD d = some t) (r : Rep K S d x) : TyX K H x (.type t) := by
  cases d with
  | val v =>
    have e : x = v := r
    subst e
    cases x <;> first | (cases h; exact .base (by constructor)) | cases h
  | lst ds =>
    obtain ⟨a, xs, rfl, h1, h2⟩ := r
    cases h
    exact .base (.lst (hW.same _ _ h1))
  | tup ds =>
    obtain ⟨a, xs, rfl, h1, h2⟩ := r
    cases h
    exact .base (.tup (hW.same _ _ h1))
  | _ => cases h
/-- isinstance(x, T), both built-in -/
theorem va_isi {d : D} {t n : String} {b : Bool} (ht : tyD d = some t) (hk : kitB t n = some b) (k : κ (B b) w) : VRA K T (rIsi K) [d, .val (.ty n)] w κ := fun F S H xs Q hW r hK => by
  obtain ⟨x, ys, rfl, h1, y, zs, rfl, h2, h3⟩ := r
  have h2' : y = .ty n := h2
  have h3' : zs = [] := h3
  subst h2' h3'
  exact ⟨x, .ty n, .type t, .type n, b, rfl, .ty n, tyx hW ht h1, kit_ty hk, hK _ w _ S H k (Same.refl _) hW rfl⟩
end
end DL

set_option Elab.async false
set_option linter.all false
set_option maxRecDepth 100000
set_option maxHeartbeats 1000000
/-! Usual comprehensions. -/
namespace DL
open PySem PySem.Spec PyProof.Rows L2 LamX
section
variable {X : Cx} {T : List (Addr × Str)} {δ : Dn} {w : Wp} {is vs : List Nat} {tg elt : Expr} {ifs : List Expr} {scope : Scope} {κ : List D → Wp → Prop}
/-- one turn: the item d, the test's answer b, the element y; w stays -/
def TurnD (X : Cx) (T : List (Addr × Str)) (is : List Nat) (tg : Expr) (ifs : List Expr) (elt : Expr) (scope : Scope) (δ : Dn) (w : Wp) (d : D) (b : Bool) (y : D) : Prop :=
  ∀ s H0 C cl fp, PGL (bx X s H0 scope cl C fp) T is tg d δ w fun δ2 w2 => ∀ s H0 C cl fp, PTsD (bx X s H0 scope cl C fp) T ifs δ2 w2 fun b' w3 =>
    if b' = true then ∀ s H0 C cl fp, PD (bx X s H0 scope cl C fp) T Wf noX elt δ2 w3 fun y' w4 => b = true ∧ y' = y ∧ w4 = w else b = false ∧ w3 = w
theorem lcd_ix {ds : List D} (p : Nat → Bool) (f : Nat → D) (hz : ds.length < sizeLine) (turn : ∀ i d, ds[i]? = some d → TurnD X T is tg ifs elt scope (wipeD δ vs) w d (p i) (f i))
    (k : κ (((List.range ds.length).filter p).map f) w) : LcD X T is tg ifs elt scope vs δ κ ds w := by
  refine ⟨hz, fun i acc w' => acc = ((List.range i).filter p).map f ∧ w' = w, ⟨rfl, rfl⟩, ?_, fun acc w' ⟨e1, e2⟩ => by rw [e1, e2]; exact k⟩
  rintro i d acc w' hd ⟨rfl, rfl⟩ s H0 C cl fp
  intro F v σ S H Q r hE hW hK
  refine turn i d hd s H0 C cl fp F v σ S H Q r hE hW fun δ' w' σ' S' H' k' s1 hE1 W1 o1 l1 => ?_
  refine hK δ' w' σ' S' H' (fun s H0 C cl fp => ?_) s1 hE1 W1 o1 l1
  intro F2 σ2 S2 H2 Q2 hE2 W2 hK2
  refine k' s H0 C cl fp F2 σ2 S2 H2 Q2 hE2 W2 fun b w3 S3 H3 k3 s3 W3 => ?_
  refine hK2 b w3 S3 H3 ?_ s3 W3
  try dsimp only at k3 ⊢
  cases b with
  | true =>
    rw [if_pos rfl] at k3 ⊢
    intro s H0 C cl fp
    refine (k3 s H0 C cl fp).imp fun y w4 ⟨e1, e2, e3⟩ => ⟨?_, e3⟩
    rw [e2, List.range_succ, List.filter_append, List.map_append, List.filter_cons, if_pos e1]
    rfl
  | false =>
    rw [if_neg Bool.false_ne_true] at k3 ⊢
    refine ⟨?_, k3.2⟩
    rw [List.range_succ, List.filter_append, List.map_append, List.filter_cons, if_neg (by rw [k3.1]; exact Bool.false_ne_true)]
    show _ = _ ++ []
    rw [List.append_nil]
theorem range_map {α β : Type} (xs : List α) (f : α → β) (g : Nat → β) (h : ∀ i x, xs[i]? = some x → g i = f x) : (List.range xs.length).map g = xs.map f := by
  refine List.ext_getElem (by simp) fun i h1 h2 => ?_
  rw [List.getElem_map, List.getElem_map, List.getElem_range]
  exact h i _ (List.getElem?_eq_getElem (by simpa using h2))
/-- over a list, all items -/
theorem lcd_map {α : Type} {xs : List α} {g : α → D} (f : α → D) (hz : xs.length < sizeLine) (turn : ∀ x ∈ xs, TurnD X T is tg ifs elt scope (wipeD δ vs) w (g x) true (f x)) (k : κ (xs.map f) w) : LcD X T is tg ifs elt scope vs δ κ (xs.map g) w := by
  refine ⟨by rw [List.length_map]; exact hz, fun i acc w' => acc = (xs.take i).map f ∧ w' = w, ⟨rfl, rfl⟩, ?_, fun acc w' ⟨e1, e2⟩ => by rw [e1, e2, List.length_map, List.take_length]; exact k⟩
  rintro i d acc w' hd ⟨rfl, rfl⟩ s H0 C cl fp
  rw [List.getElem?_map] at hd
  cases e : xs[i]? with
  | none =>
    rw [e] at hd
    cases hd
  | some x =>
    rw [e] at hd
    cases hd
    intro F v σ S H Q r hE hW hK
    refine turn x (List.mem_of_getElem? e) s H0 C cl fp F v σ S H Q r hE hW fun δ' w' σ' S' H' k' s1 hE1 W1 o1 l1 => ?_
    refine hK δ' w' σ' S' H' (fun s H0 C cl fp => ?_) s1 hE1 W1 o1 l1
    intro F2 σ2 S2 H2 Q2 hE2 W2 hK2
    refine k' s H0 C cl fp F2 σ2 S2 H2 Q2 hE2 W2 fun b w3 S3 H3 k3 s3 W3 => ?_
    refine hK2 b w3 S3 H3 ?_ s3 W3
    try dsimp only at k3 ⊢
    cases b with
    | true =>
      rw [if_pos rfl] at k3 ⊢
      intro s H0 C cl fp
      refine (k3 s H0 C cl fp).imp fun y w4 ⟨e1, e2, e3⟩ => ⟨?_, e3⟩
      rw [e2, List.take_add_one, e, List.map_append]
      rfl
    | false =>
      rw [if_neg Bool.false_ne_true] at k3
      exact absurd k3.1 (by simp)
/-- over a list, with a test -/
theorem lcd_filter {α : Type} {xs : List α} {g : α → D} (p : α → Bool) (f : α → D) (hz : xs.length < sizeLine) (turn : ∀ x ∈ xs, TurnD X T is tg ifs elt scope (wipeD δ vs) w (g x) (p x) (f x)) (k : κ ((xs.filter p).map f) w) : LcD X T is tg ifs elt scope vs δ κ (xs.map g) w := by
  refine ⟨by rw [List.length_map]; exact hz, fun i acc w' => acc = ((xs.take i).filter p).map f ∧ w' = w, ⟨rfl, rfl⟩, ?_, fun acc w' ⟨e1, e2⟩ => by rw [e1, e2, List.length_map, List.take_length]; exact k⟩
  rintro i d acc w' hd ⟨rfl, rfl⟩ s H0 C cl fp
  rw [List.getElem?_map] at hd
  cases e : xs[i]? with
  | none =>
    rw [e] at hd
    cases hd
  | some x =>
    rw [e] at hd
    cases hd
    intro F v σ S H Q r hE hW hK
    refine turn x (List.mem_of_getElem? e) s H0 C cl fp F v σ S H Q r hE hW fun δ' w' σ' S' H' k' s1 hE1 W1 o1 l1 => ?_
    refine hK δ' w' σ' S' H' (fun s H0 C cl fp => ?_) s1 hE1 W1 o1 l1
    intro F2 σ2 S2 H2 Q2 hE2 W2 hK2
    refine k' s H0 C cl fp F2 σ2 S2 H2 Q2 hE2 W2 fun b w3 S3 H3 k3 s3 W3 => ?_
    refine hK2 b w3 S3 H3 ?_ s3 W3
    have tk : xs.take (i + 1) = xs.take i ++ [x] := by rw [List.take_add_one, e]; rfl
    try dsimp only at k3 ⊢
    cases b with
    | true =>
      rw [if_pos rfl] at k3 ⊢
      intro s H0 C cl fp
      refine (k3 s H0 C cl fp).imp fun y w4 ⟨e1, e2, e3⟩ => ⟨?_, e3⟩
      rw [e2, tk, List.filter_append, List.map_append, List.filter_cons, if_pos e1]
      rfl
    | false =>
      rw [if_neg Bool.false_ne_true] at k3 ⊢
      refine ⟨?_, k3.2⟩
      rw [tk, List.filter_append, List.map_append, List.filter_cons, if_neg (by rw [k3.1]; exact Bool.false_ne_true)]
      show _ = _ ++ []
      rw [List.append_nil]
end
end DL

set_option Elab.async false
set_option linter.all false
set_option maxRecDepth 100000
set_option maxHeartbeats 1000000
/-! Lists that stand or are owned, read alike. -/
namespace DL
open PySem PySem.Spec PyProof.Rows L2 LamX
/-- a list that stands or is owned -/
def Lk (w : Wp) (d : D) (ds : List D) : Prop := d = .lst ds ∨ ∃ a, d = R a ∧ w a = some (.lst ds)
section
variable {K : PySem.W.Frag} {T : List (Addr × Str)} {w : Wp} {κ : D → Wp → Prop}
theorem Lk.at_ {S F H : Hp} {d : D} {ds : List D} {x : V} (l : Lk w d ds) (hW : World K T S w F H) (r : Rep K S d x) : ∃ a xs, x = .ref a ∧ H a = some (.lst xs) ∧ RepL K S ds xs := by
  rcases l with rfl | ⟨a, rfl, hw⟩
  · obtain ⟨a, xs, rfl, h1, h2⟩ := r
    exact ⟨a, xs, rfl, hW.same _ _ h1, h2⟩
  · obtain ⟨_, _, o, h1, h2⟩ := hW.own a _ hw
    obtain ⟨xs, rfl, h2⟩ := h2
    have r' : x = .ref a := r
    exact ⟨a, xs, r', h1, h2⟩
theorem vr_ixK {d : D} {ds : List D} {i : Nat} {e : D} (l : Lk w d ds) (h : ds[i]? = some e) (k : κ e w) : VR2 K T (rIxL K) d (I (i : Int)) w κ := fun F S H x y Q hW r1 r2 hK => by
  obtain ⟨a, xs, rfl, h1, h2⟩ := l.at_ hW r1
  obtain ⟨v, h3, h4⟩ := h2.get h
  exact ⟨a, xs, i, v, rfl, r2, SqL.of h1, ix_at h3, hK e w v S H k (Same.refl _) hW h4⟩
theorem va_lenK {d : D} {ds : List D} (l : Lk w d ds) (k : κ (I (ds.length : Int)) w) : VRA K T (fun xs H Q => ∃ p ys, xs = [.ref p] ∧ (SqL K H p ys ∨ SqT K H p ys) ∧ Q (.int ys.length) H) [d] w κ := fun F S H xs Q hW r hK => by
  obtain ⟨y, ys, rfl, h1, h2⟩ := r
  obtain ⟨a, zs, rfl, h3, h4⟩ := l.at_ hW h1
  have h2' : ys = [] := h2
  subst h2'
  refine ⟨a, zs, rfl, .inl (SqL.of h3), ?_⟩
  rw [h4.length]
  exact hK _ w _ S H k (Same.refl _) hW rfl
theorem va_isiK {d : D} {ds : List D} {n : String} {b : Bool} (l : Lk w d ds) (hk : kitB "list" n = some b) (k : κ (B b) w) : VRA K T (rIsi K) [d, .val (.ty n)] w κ := fun F S H xs Q hW r hK => by
  obtain ⟨x, ys, rfl, h1, y, zs, rfl, h2, h3⟩ := r
  have h2' : y = .ty n := h2
  have h3' : zs = [] := h3
  subst h2' h3'
  obtain ⟨a, xs, rfl, h4, h5⟩ := l.at_ hW h1
  exact ⟨_, .ty n, .type "list", .type n, b, rfl, .ty n, .base (.lst h4), kit_ty hk, hK _ w _ S H k (Same.refl _) hW rfl⟩
end
/-- the same data, n deep -/
inductive Sm : Nat → D → D → Prop
  | non {n : Nat} : Sm n N N
  | bl {n : Nat} (b : Bool) : Sm n (B b) (B b)
  | int {n : Nat} (i : Int) : Sm n (I i) (I i)
  | str {n : Nat} (x : Str) : Sm n (DL.T x) (DL.T x)
  | lst {n : Nat} {ds es : List D} (hl : ds.length = es.length) (hz : es.length ≤ sizeLine) (h : ∀ (i : Nat) (x y : D), ds[i]? = some x → es[i]? = some y → Sm n x y) : Sm (n + 1) (.lst ds) (.lst es)
  | tup {n : Nat} {ds es : List D} (hl : ds.length = es.length) (hz : es.length ≤ sizeLine) (h : ∀ (i : Nat) (x y : D), ds[i]? = some x → es[i]? = some y → Sm n x y) : Sm (n + 1) (.tup ds) (.tup es)
theorem Sm.map {α : Type} {n : Nat} {xs : List α} {f g : α → D} (hz : xs.length ≤ sizeLine) (h : ∀ x ∈ xs, Sm n (f x) (g x)) : Sm (n + 1) (.lst (xs.map f)) (.lst (xs.map g)) := by
  refine .lst (by rw [List.length_map, List.length_map]) (by rw [List.length_map]; exact hz) fun i x y h1 h2 => ?_
  rw [List.getElem?_map] at h1 h2
  cases e : xs[i]? with
  | none =>
    rw [e] at h1
    cases h1
  | some z =>
    rw [e] at h1 h2
    cases h1
    cases h2
    exact h z (List.mem_of_getElem? e)
theorem Sm.nil {n : Nat} : Sm (n + 1) (.lst []) (.lst []) := .lst rfl (Nat.zero_le _) fun i x y h _ => by simp at h
theorem Sm.cons {n : Nat} {d e : D} {ds es : List D} (h : Sm n d e) (k : Sm (n + 1) (.lst ds) (.lst es)) (hz : es.length + 1 ≤ sizeLine) : Sm (n + 1) (.lst (d :: ds)) (.lst (e :: es)) := by
  cases k with
  | lst hl hz' h' =>
    refine .lst (by simp [hl]) (by simpa using hz) fun i x y h1 h2 => ?_
    cases i with
    | zero =>
      cases h1
      cases h2
      exact h
    | succ i => exact h' i x y h1 h2
end DL

set_option Elab.async false
set_option linter.all false
set_option maxRecDepth 100000
set_option maxHeartbeats 4000000
/-! Sets of texts: made, added to, sorted. -/
namespace DL
open PySem PySem.Spec PyProof.Rows L2 LamX
def wordOf (e : Int × Value) : Str := match e.2 with | .str z _ => z | _ => Str.empty
def IsWd (w : PySem.World) (e : Int × Value) : Prop := ∃ z tk, e.2 = Value.str z tk ∧ e.1 = hashStr w z
/-- the set at a holds the texts zs -/
def TSet (w : PySem.World) (h : Heap) (a : Addr) (zs : List Str) : Prop :=
  ∃ o es ep t, h.get? a = some o ∧ o.ExactSet ∧ o.data = .set es ep t ∧ (∀ e ∈ es.toList, IsWd w e) ∧ (es.toList.map wordOf).Perm zs ∧ zs.Nodup ∧ zs.length < scanBound ∧ t.fits es.size = true ∧ Ris t.place.toList ∧ (w.params.followText "set-order" = true ∨ t.led = true)
section
variable {P : Program} {w : PySem.World} {A : Around} {E : Value → Shared → Prop} {s : Shared} {a : Addr} {zs : List Str} {h h' : Heap}
theorem TSet.keep (R : TSet w h a zs) (k : ∀ o, h.get? a = some o → h'.get? a = some o) : TSet w h' a zs := by
  obtain ⟨o, es, ep, t, ho, r⟩ := R
  exact ⟨o, es, ep, t, k o ho, r⟩
theorem wds_ok {l : List (Int × Value)} (g : ∀ e ∈ l, IsWd w e) : ElemsOf (PySem.strKind P w) l := fun e he => by
  obtain ⟨z, tk, h1, h2⟩ := g e he
  exact ⟨⟨z, by rw [h1]; exact PySem.strKind_is P w z tk, h2⟩, by rw [h1] <;> rfl⟩
theorem wd_is {e : Int × Value} (g : IsWd w e) (z : Str) : (PySem.strKind P w).is z e.2 = true ↔ wordOf e = z := by
  obtain ⟨y, tk, h1, _⟩ := g
  unfold wordOf
  rw [h1]
  constructor
  · intro q
    have q2 : Value.isStrOf z (Value.str y tk) = true := q
    obtain ⟨u, hu⟩ := Value.isStrOf_shape q2
    cases hu
    rfl
  · intro q
    subst q
    exact PySem.strKind_is P w _ tk
theorem wd_mem {l : List (Int × Value)} (g : ∀ e ∈ l, IsWd w e) (z : Str) : z ∈ l.map wordOf ↔ ∃ e ∈ l, (PySem.strKind P w).is z e.2 = true := by
  rw [List.mem_map]
  exact ⟨fun ⟨e, he, q⟩ => ⟨e, he, (wd_is (g e he) z).2 q⟩, fun ⟨e, he, q⟩ => ⟨e, he, (wd_is (g e he) z).1 q⟩⟩
theorem TSet.typ {s : Shared} (R : TSet w s.heap a zs) : s.TypeIs (.ref a) "set" := by
  obtain ⟨o, es, ep, t, ho, hex, _⟩ := R
  exact ⟨o, ho, hex.1⟩
theorem lay_end {gw : Bool → Sem Unit} (hgw : ∀ (b : Bool) (s₁ : Shared) (Z : Unit → Shared → Prop), Z () s₁ → wpAny (model P w) A (gw b) Z E s₁)
    {o : Obj} {es : Array (Int × Value)} {ep : Nat} {t : SetTable} (ho : s.heap.get? a = some o) (hex : o.ExactSet) (hd : o.data = .set es ep t)
    {fs : Array (Int × Value)} {u : SetTable} {ys : List Str} (g1 : ∀ e ∈ fs.toList, IsWd w e) (pm : (fs.toList.map wordOf).Perm ys) (nd : ys.Nodup) (few : ys.length < scanBound) (hf : u.fits fs.size = true) (hr : Ris u.place.toList)
    (hl : w.params.followText "set-order" = true ∨ u.led = true) {dummy : Bool} {R : Option Bool → Shared → Prop}
    (hR : ∀ h', Heap.SameBut a s.heap h' → TSet w h' a ys → R (some true) { s with heap := h' }) :
    wpAny (model P w) A (storeSet a fs u >>= fun _ => if (!dummy && u.tooFull) = true then (gw (relayAll u fs (SetTable.grown fs.size)).2.2 >>= fun _ => storeSet a (relayAll u fs (SetTable.grown fs.size)).1 (relayAll u fs (SetTable.grown fs.size)).2.1 >>= fun _ => pure (some true)) else pure (some true)) R E s := by
  have sz : fs.size = ys.length := by
    have q := pm.length_eq
    rw [List.length_map, Array.length_toList] at q
    exact q
  have fl : fs.size ≤ sizeLine := fits_of_scanBound (by rw [sz]; exact few)
  refine wpAny_bind (wpAny_storeSet_of ho hd ?_ fl)
  have o1 := store_at (es' := fs) (t' := u) ho hd
  have sb := Heap.SameBut.update s.heap a (Obj.putSet fs u)
  split
  · have q1 := relayAll_perm u fs (SetTable.grown fs.size)
    have q2 := relayAll_fits u fs (SetTable.grown fs.size)
    have q3 := relayAll_ris u fs (SetTable.grown fs.size)
    have q4 := relayAll_led u fs (SetTable.grown fs.size)
    generalize relayAll u fs (SetTable.grown fs.size) = Y at q1 q2 q3 q4 ⊢
    obtain ⟨gs, v, ok⟩ := Y
    dsimp only at q1 q2 q3 q4 ⊢
    have sz2 : gs.size = fs.size := by rw [← Array.length_toList, q1.length_eq, Array.length_toList]
    refine wpAny_bind (hgw _ _ _ ?_)
    refine wpAny_bind (wpAny_storeSet_of o1 rfl ?_ (by rw [sz2]; exact fl))
    have o2 := store_at (es' := gs) (t' := v) o1 rfl
    refine wpAny_pure (hR _ (sb.trans (Heap.SameBut.update _ a _)) ?_)
    exact ⟨_, gs, _, v, o2, hex, rfl, fun e he => g1 e (q1.mem_iff.mp he), (q1.map wordOf).trans pm, nd, few, q2, q3, hl.imp id fun z => q4.trans z⟩
  · exact wpAny_pure (hR _ sb ⟨_, fs, _, u, o1, hex, rfl, g1, pm, nd, few, hf, hr, hl⟩)
/-- the texts with one more -/
def withT (zs : List Str) (z : Str) : List Str := if z ∈ zs then zs else z :: zs
theorem withT_mem {zs : List Str} {z y : Str} : y ∈ withT zs z ↔ y = z ∨ y ∈ zs := by
  unfold withT
  split
  · rename_i h
    exact ⟨.inr, fun q => q.elim (fun e => e ▸ h) id⟩
  · exact List.mem_cons
theorem withT_len {zs : List Str} {z : Str} : (withT zs z).length ≤ zs.length + 1 := by
  unfold withT
  split
  · exact Nat.le_succ _
  · exact Nat.le_refl _
theorem tset_add {z : Str} {tk : Tok} {Q : Bool → Shared → Prop} (R : TSet w s.heap a zs) (room : zs.length + 1 < scanBound)
    (hQ : ∀ b h', Heap.SameBut a s.heap h' → TSet w h' a (withT zs z) → Q b { s with heap := h' }) :
    wpAny (model P w) A (setAddHashed a (.str z tk) ((PySem.strKind P w).hash z)) Q E s := by
  obtain ⟨o, es, ep, t, ho, hex, hd, g, pm, nd, few, hf, hr, hl⟩ := R
  have kz : (PySem.strKind P w).is z (.str z tk) = true := PySem.strKind_is P w z tk
  have sc : (Value.str z tk).scannable = true := rfl
  have el : ElemsOf (PySem.strKind P w) es.toList := wds_ok g
  have sz : es.size = zs.length := by
    have q := pm.length_eq
    rw [List.length_map, Array.length_toList] at q
    exact q
  have hb : es.size < scanBound := by rw [sz]; exact few
  unfold setAddHashed
  unfold setAddHashedIn
  refine wpAny_holding (wpAny_bind (wpAny_setState_of ho hd hf (?_)))
  dsimp only
  rw [byScan_of sc hb el]
  simp only [↓reduceIte]
  unfold setAddByScan
  refine wpAny_bind (?_)
  refine wpAny_bind (wpAny_rule (?_))
  refine wpAny_bind (wpAny_setScan_of kz ho hd hf el ?_)
  cases hfi : List.findIdx? (fun e => (PySem.strKind P w).is z e.2) es.toList with
  | some j =>
    dsimp only
    obtain ⟨hj, pj, _⟩ := List.findIdx?_eq_some_iff_getElem.mp hfi
    have zin : z ∈ zs := pm.mem_iff.mp ((wd_mem (P := P) g z).2 ⟨es.toList[j], List.getElem_mem hj, pj⟩)
    refine wpAny_pure (wpAny_pure (hQ _ s.heap (Heap.SameBut.refl a s.heap) ?_))
    unfold withT
    rw [if_pos zin]
    exact ⟨o, es, ep, t, ho, hex, hd, g, pm, nd, few, hf, hr, hl⟩
  | none =>
    dsimp only
    have zout : z ∉ zs := fun q => by
      obtain ⟨e, he, q⟩ := (wd_mem (P := P) g z).1 (pm.mem_iff.mpr q)
      have c := List.findIdx?_eq_none_iff.mp hfi e he
      rw [q] at c
      cases c
    have hgw : ∀ (b : Bool) {s₁ : Shared} {Z : Unit → Shared → Prop}, Z () s₁ → wpAny (model P w) A (match b with | true => rule "set.scan.the-table-gave-way" | false => pure ()) Z E s₁ :=
      fun b s₁ Z q => by cases b <;> first | exact wpAny_pure q | exact wpAny_rule q
    have p1 := layNew_perm t es ((PySem.strKind P w).hash z) (.str z tk)
    have f1 := layNew_fits t es ((PySem.strKind P w).hash z) (.str z tk)
    have r1 := layNew_ris t es ((PySem.strKind P w).hash z) (.str z tk) hr
    have l1 := layNew_led t es ((PySem.strKind P w).hash z) (.str z tk)
    generalize layNew t es ((PySem.strKind P w).hash z) (.str z tk) = Y at p1 f1 r1 l1 ⊢
    obtain ⟨fs, u, dummy, gave⟩ := Y
    dsimp only at p1 f1 r1 l1 ⊢
    rw [Array.toList_push] at p1
    have pc : fs.toList.Perm (((PySem.strKind P w).hash z, Value.str z tk) :: es.toList) := p1.trans (List.perm_append_singleton _ _)
    have pk : (fs.toList.map wordOf).Perm (z :: zs) := (pc.map wordOf).trans (pm.cons z)
    have g1 : ∀ e ∈ fs.toList, IsWd w e := fun e he => by
      rcases List.mem_cons.mp (pc.mem_iff.mp he) with q | q
      · rw [q]
        exact ⟨z, tk, rfl, rfl⟩
      · exact g e q
    have ew : withT zs z = z :: zs := if_neg zout
    have led1 : w.params.followText "set-order" = true ∨ u.led = true := hl.imp id fun q => l1.trans q
    have nd1 : (z :: zs).Nodup := List.nodup_cons.mpr ⟨zout, nd⟩
    have fin : ∀ b h', Heap.SameBut a s.heap h' → TSet w h' a (z :: zs) → Q b { s with heap := h' } := fun b h' sb r => hQ b h' sb (by rw [ew]; exact r)
    refine wpAny_bind (hgw _ ?_)
    split
    · refine wpAny_bind (?_)
      rw [hashByValue_scannable 8 sc]
      refine wpAny_pure (?_)
      refine lay_end (ys := z :: zs) ?_ ho hex hd g1 pk nd1 room ?_ ?_ ?_ ?_
      · intro b s₁ Z q; cases b <;> first | exact wpAny_pure q | exact wpAny_rule q
      · first | (split <;> first | exact f1 | exact SetTable.fits_plain_off f1) | exact f1
      · first | (split <;> exact r1) | exact r1
      · first | (split <;> exact led1) | exact led1
      · intro h' sb r; dsimp only; exact wpAny_pure (fin _ h' sb r)
    · refine wpAny_bind (wpAny_pure (?_))
      simp only [↓reduceIte]
      refine lay_end (ys := z :: zs) ?_ ho hex hd g1 pk nd1 room f1 r1 led1 ?_
      · intro b s₁ Z q; cases b <;> first | exact wpAny_pure q | exact wpAny_rule q
      · intro h' sb r; dsimp only; exact wpAny_pure (fin _ h' sb r)
/-- xs.add(z) -/
theorem tset_call {z : Str} {tk : Tok} {Q : Value → Shared → Prop} (R : TSet w s.heap a zs) (room : zs.length + 1 < scanBound)
    (hQ : ∀ h', Heap.SameBut a s.heap h' → TSet w h' a (withT zs z) → Q .none { s with heap := h', toks := s.toks + 1 }) :
    wpAny (model P w) A (call (.builtin "set.add") [.ref a, .str z tk]) Q E s := by
  refine wpAny_call_entry F.slot_set_add R.typ F.entry_set_add ?_ (F.args_set_add_2 _ _)
  unfold Builtin.«set.add»
  unfold Builtin.Frozenset.oneOther
  simp only [List.isEmpty_nil, bind_assoc]
  unfold Builtin.Frozenset.addrOf
  unfold setAdd
  refine wpAny_bind (wpAny_pure (?_))
  try dsimp only
  refine wpAny_bind (wpAny_pure (?_))
  try dsimp only
  refine wpAny_bind (?_)
  refine wpAny_holding ?_
  refine wpAny_bind ((PySem.strKind P w).pyHash (PySem.strKind_is P w z tk) ?_)
  refine tset_add (s := { s with toks := s.toks + 1 }) R room fun b h' sb r => ?_
  show wpAny _ _ (ret Value.none) _ _ _
  exact wpAny_pure ⟨_, rfl, hQ h' sb r⟩
theorem tset_new {h : Heap} {a : Addr} (ho : h.get? a = some { cls := .type "set", dict := none, data := .set #[] 0 (.fresh 0 0 (!w.params.followText "set-order")) }) : TSet w h a [] :=
  ⟨_, #[], 0, _, ho, ⟨rfl, rfl, rfl⟩, rfl, (fun e he => by simp at he), (by simp), List.nodup_nil, (by decide), (by rfl), List.Pairwise.nil, by
    show _ ∨ (!w.params.followText "set-order") = true
    cases w.params.followText "set-order"
    · exact .inr rfl
    · exact .inl rfl⟩
/-- sorted(xs), few texts -/
theorem tset_sorted {Q : Value → Shared → Prop} (R : TSet w s.heap a zs) (hh : A.handled = none) (h64 : zs.length < 64)
    (hQ : ∀ s' p (out : Array Value) (c : Nat) (ys : List Str), (∀ b o, s.heap.get? b = some o → s'.heap.get? b = some o) → s'.gens = s.gens → s'.os = s.os → s.heap.objs.size ≤ p →
      s'.heap.get? p = some (seqObj "list" out c) → StrsAre out.toList ys → ys.Perm zs → sortedS ys = true → Q (.ref p) s') :
    wpAny (model P w) A (call (.builtin "sorted") [.ref a]) Q E s := by
  obtain ⟨o, es, ep, t, ho, hex, hd, g, pm, nd, few, hf, hr, hl⟩ := R
  have sz : es.size = zs.length := by
    have q := pm.length_eq
    rw [List.length_map, Array.length_toList] at q
    exact q
  refine Calls.call_function_entry kind_sorted plain_sorted entry_sorted (args_sorted1 _) ?_
  unfold Builtin.«sorted»
  refine wpAny_bind (m := checkCount "sorted" 1 1 _) (wpAny_pure (?_))
  refine wpAny_bind (collect_set (A := A.in1) hh ⟨o, ho, hex.1, hd⟩ hf (by rw [sz]; exact few) hr hl fun s1 vs k1 hz g1 o1 p1 => ?_)
  have vl : vs.length = zs.length := by rw [p1.length_eq, List.length_map, Array.length_toList, sz]
  have all : ∀ l : List Value, (∀ v ∈ l, ∃ z tk, v = Value.str z tk) → StrsAre l (l.map fun v => match v with | .str z _ => z | _ => Str.empty) := by
    intro l
    induction l with
    | nil => intro _; exact .nil
    | cons v l ih =>
      intro hv
      obtain ⟨z, tk, rfl⟩ := hv v (List.mem_cons_self ..)
      exact .cons z tk (ih fun u hu => hv u (List.mem_cons_of_mem _ hu))
  have hS := all vs fun v hv => by
    obtain ⟨e, he, q⟩ := List.mem_map.mp (p1.mem_iff.mp hv)
    obtain ⟨z, tk, h1, _⟩ := g e he
    exact ⟨z, tk, by rw [← q]; exact h1⟩
  have pk := p1.map fun v => (match v with | .str z _ => z | _ => Str.empty : Str)
  rw [List.map_map] at pk
  generalize (vs.map fun v => (match v with | .str z _ => z | _ => Str.empty : Str)) = us at hS pk
  have pz : us.Perm zs := pk.trans pm
  refine wpAny_bind (wpAny_newList ?_ (by rw [vl, sizeLine_eq]; omega))
  have oL : (s1.heap.push (seqObj "list" vs.toArray 0)).get? s1.heap.objs.size = some (seqObj "list" vs.toArray 0) := Heap.get?_push_size _ rfl
  refine wpAny_bind (wpAny_holding (wpAny_call_entry PyProof.Rows.slot_list_sort ⟨_, oL, rfl⟩ PyProof.Rows.entry_list_sort
    (list_sort_treeK strKind_oneLt oL hS.keysOf (fun v₁ v₂ rest e => keyKind_strs (by rw [← e]; exact hS)) (by rw [vl]; exact h64) fun st' hp hs => ⟨_, rfl, ?_⟩) (PyProof.Rows.args_list_sort _)))
  obtain ⟨ys, y1, y2, y3⟩ := sorted_out_str hS hp hs
  obtain ⟨c, hc⟩ := PyProof.Rows.sortedHeap_at (vs := vs) (out := (arrOf st').map (·.2)) oL
  refine wpAny_pure ⟨_, rfl, hQ _ s1.heap.objs.size _ c ys (fun b u e => ?_) g1 o1 hz hc y1 (y2.trans pz) y3⟩
  have q := k1 b u e
  have lt := Heap.lt_size q
  show (sortedHeap (s1.heap.push (seqObj "list" vs.toArray 0)) s1.heap.objs.size vs _).get? b = some u
  rw [PyProof.Rows.sortedHeap_old (Nat.ne_of_lt lt) (by rw [size_push']; exact Nat.lt_succ_of_lt lt)]
  exact Heap.get?_push_of_some _ q
end
end DL

set_option Elab.async false
set_option linter.all false
set_option maxRecDepth 100000
set_option maxHeartbeats 4000000
/-! set(a text), set(a list of texts), sorted of them. -/
namespace DL
open PySem PySem.Spec PyProof.Rows L2 LamX
def gather (zs : List Str) : List Str → List Str
  | [] => zs
  | y :: ys => gather (withT zs y) ys
theorem gather_mem {y : Str} : ∀ (us zs : List Str), y ∈ gather zs us ↔ y ∈ zs ∨ y ∈ us
  | [], zs => by simp [gather]
  | u :: us, zs => by
    show y ∈ gather (withT zs u) us ↔ _
    rw [gather_mem us, withT_mem, List.mem_cons]
    constructor
    · rintro ((h | h) | h)
      · exact .inr (.inl h)
      · exact .inl h
      · exact .inr (.inr h)
    · rintro (h | h | h)
      · exact .inl (.inr h)
      · exact .inl (.inl h)
      · exact .inr h
theorem gather_len : ∀ (us zs : List Str), (gather zs us).length ≤ zs.length + us.length
  | [], zs => Nat.le_refl _
  | u :: us, zs => by
    have h1 := gather_len us (withT zs u)
    have h2 := withT_len (zs := zs) (z := u)
    show (gather (withT zs u) us).length ≤ zs.length + (us.length + 1)
    omega
theorem gather_snoc (u : Str) : ∀ (us zs : List Str), gather zs (us ++ [u]) = withT (gather zs us) u
  | [], zs => rfl
  | y :: us, zs => gather_snoc u us (withT zs y)
section
variable {P : Program} {w : PySem.World} {A : Around} {E : Value → Shared → Prop} {s : Shared}
theorem fill_texts {I : Addr} {fp wr : List Addr} {G : Array GenState → Array GenState → Prop} {n : Nat} {Pv : Nat → Value → Prop} {St : Nat → Shared → Prop} {R : Result → Shared → Prop}
    (W : WalksS P w A.in1 I fp wr G n Pv St) (D : Addr) (notD : D ∉ fp) (us : List Str) (hn : n = us.length) (few : us.length + 1 < scanBound) (each : ∀ i v, Pv i v → ∃ z t, us[i]? = some z ∧ v = .str z t) :
    ∀ (m i : Nat) (s : Shared), n - i = m → i ≤ n → St i s → TSet w s.heap D (gather [] (us.take i)) →
      (∀ s', Moved (D :: wr) G s s' → TSet w s'.heap D (gather [] us) → R (.ok (.ret .none)) s') →
      codeAny (model P w) A (.builtin "set.update.loop" ⟨[.ref D, .ref I], []⟩) R s := by
  have notW : D ∉ wr := fun h => notD (W.sub _ h)
  have into : ∀ b ∈ wr, b ∈ D :: wr := fun b hb => List.mem_cons_of_mem _ hb
  intro m
  induction m with
  | zero =>
    intro i s em hi st hS hR
    obtain rfl : i = n := by omega
    refine codeAny_builtin F.entry_set_update_loop (?_)
    rw [Around.under_plainId F.plain_set_update_loop _]
    show wpAny _ A.in1 (pyNext (.ref I) >>= _) _ _ s
    refine wpAny_bind (W.done s _ _ st fun s' mv => ?_)
    show wpAny _ A.in1 (ret Value.none) _ _ s'
    rw [List.take_of_length_le (by omega)] at hS
    exact wpAny_pure (hR s' (mv.mono into) (hS.keep fun o e => mv.heap D o notW e))
  | succ m ih =>
    intro i s em hi st hS hR
    have lt : i < n := by omega
    refine codeAny_builtin F.entry_set_update_loop (?_)
    rw [Around.under_plainId F.plain_set_update_loop _]
    show wpAny _ A.in1 (pyNext (.ref I) >>= _) _ _ s
    refine wpAny_bind (W.item i s _ _ lt st fun v s' pv st' mv => ?_)
    obtain ⟨z, t, hz, rfl⟩ := each i v pv
    have hS' : TSet w s'.heap D (gather [] (us.take i)) := hS.keep fun o e => mv.heap D o notW e
    show wpAny _ A.in1 (holding [Value.str z t] (setAdd D (.str z t)) >>= _) _ _ s'
    refine wpAny_bind (wpAny_holding (?_))
    unfold setAdd
    refine wpAny_holding (?_)
    refine wpAny_bind ((PySem.strKind P w).pyHash (k := z) (PySem.strKind_is _ _ _ _) ?_)
    have gl := gather_len (us.take i) []
    rw [List.length_take] at gl
    refine tset_add (s := { s' with toks := s'.toks + 1 }) hS' (by simp only [List.length_nil] at gl; omega) fun b h' sb hS2 => ?_
    have hS3 : TSet w h' D (gather [] (us.take (i + 1))) := by
      rw [List.take_add_one, hz]
      show TSet w h' D (gather [] (us.take i ++ [z]))
      rw [gather_snoc]
      exact hS2
    refine wpAny_pure ⟨plainId_quiet F.plain_set_update_loop _, ih (i + 1) _ (by omega) lt (W.frame _ s' _ _ st' (Nat.le_succ _) fun b hb o e => ?_) hS3 fun s'' mv2 hS4 => ?_⟩
    · rw [sb.2 b (fun q : b = D => notD (by rw [← q]; exact hb))]
      exact e
    · refine hR s'' (Moved.trans W.gtrans ((mv.mono into).then_heap (Nat.le_succ _) fun b o hb e => ?_) mv2) hS4
      rw [sb.2 b (fun q : b = D => hb (by rw [q]; exact List.mem_cons_self))]
      exact e

theorem strs_len : ∀ {vs : List Value} {us : List Str}, StrsAre vs us → vs.length = us.length
  | _, _, .nil => rfl
  | _, _, .cons z t h => congrArg (· + 1) (strs_len h)
theorem strs_get : ∀ {vs : List Value} {us : List Str}, StrsAre vs us → ∀ (i : Nat) (v : Value), vs[i]? = some v → ∃ z t, us[i]? = some z ∧ v = .str z t
  | _, _, .nil, i, v, e => by simp at e
  | _, _, .cons z t h, 0, v, e => ⟨z, t, rfl, (Option.some.inj e).symm⟩
  | _, _, .cons z t h, i + 1, v, e => strs_get h i v e
set_option maxRecDepth 100000 in

theorem set_of_text {x : Str} {t : Tok} {us : List Str} {Q : Value → Shared → Prop} (calm0 : A.handled = none) (eu : us = x.cps.toList.map fun c => ⟨#[c]⟩) (few : us.length + 1 < scanBound)
    (h : ∀ (h' : Heap) (tk : Nat), TSet w h' s.heap.objs.size (gather [] us) → (∀ b o, s.heap.get? b = some o → h'.get? b = some o) → Q (.ref s.heap.objs.size) { s with heap := h', toks := tk }) :
    wpAny (model P w) A (call (.type "set") [.str x t]) Q E s := by
  obtain ⟨c, tl, mroE⟩ := F.called_set.mro
  have mdE := F.called_set.made
  have sbE := F.called_set.sub
  refine wpAny_call (codeAny_of_tree (?_))
  show wpAny _ _ (callAny (.type "set") _) _ _ _
  refine wpAny_pure ⟨Code.quiet_builtin _ (by decide +kernel), codeAny_builtin F.entry_type_call (?_)⟩
  rw [Around.under_plain (weight_type_call_type "set" [.str x t] []) rfl]
  have n1 := F.called_set.notType
  have n2 := F.called_set.canCreate
  have tcE := F.typeCall_set_1 (.str x t)
  repeat (any_goals (first | (assumption) | wp_step))
  refine codeAny_mono (code_set_led1 (.str x t) (E := E) (Q₁ := fun ob s₁ => ob = .ref s.heap.objs.size ∧ s₁ = { s with heap := s.heap.push { cls := .type "set", dict := none, data := .set #[] 0 (.fresh 0 0 (!w.params.followText "set-order")) } }) ⟨rfl, rfl⟩) fun r s₁ rE => ?_
  cases r with
  | error e => exact rE
  | ok fl =>
    cases fl with
    | ret ob =>
      obtain ⟨rfl, rfl⟩ := rE
      have atS : (s.heap.push { cls := .type "set", dict := none, data := .set #[] 0 (.fresh 0 0 (!w.params.followText "set-order")) }).get? s.heap.objs.size = some { cls := .type "set", dict := none, data := .set #[] 0 (.fresh 0 0 (!w.params.followText "set-order")) } := Heap.get?_push_size _ rfl
      have tyS : Shared.TypeIs { s with heap := s.heap.push { cls := .type "set", dict := none, data := .set #[] 0 (.fresh 0 0 (!w.params.followText "set-order")) } } (.ref s.heap.objs.size) "set" := ⟨_, atS, rfl⟩
      have liE := F.called_set.init.lookup
      have biE := F.called_set.init.bind (.ref s.heap.objs.size)
      repeat (any_goals (first | (assumption) | wp_step))
      refine codeAny_mono (codeAny_call_builtin (R := wants (fun r s₂ => r = .none ∧ ∃ h' tk, s₂ = { s with heap := h', toks := tk } ∧ TSet w h' s.heap.objs.size (gather [] us) ∧
          (∀ b o, s.heap.get? b = some o → h'.get? b = some o)) E) F.called_set.init.plain F.entry_set_init (check_set_init_1 tyS ?_)) fun r₂ s₂ rE2 => ?_
      · have sl1 := F.sub_str_set
        have sl2 := F.sub_str_frozenset
        have neD : (Value.type "str" == Value.type "dict") = false := by decide
        unfold Builtin.«set.__init__»
        unfold noKeywords
        unfold Builtin.Frozenset.updateFrom
        generalize hPI : pyIter = PI
        wp_walk
        subst hPI
        refine wpAny_pyIter_str fun ob St W0 st0 => ?_
        refine wpAny_bind (wpAny_runValue ?_)
        have calm3 : A.in1.in1.in1.handled = none := by simp [calm0]
        have sz1 : (s.heap.push { cls := .type "set", dict := none, data := .set #[] 0 (.fresh 0 0 (!w.params.followText "set-order")) }).objs.size = s.heap.objs.size + 1 := Heap.size_push ..
        have notS : s.heap.objs.size ∉ [(s.heap.push { cls := .type "set", dict := none, data := .set #[] 0 (.fresh 0 0 (!w.params.followText "set-order")) }).objs.size] := by
          rw [Heap.size_push]
          simp
        have valE : ∀ (i : Nat) (v : Value), SignAt x i v → ∃ z t, us[i]? = some z ∧ v = .str z t := fun i v hv => by
          obtain ⟨c, u, hc, rfl⟩ := hv
          exact ⟨_, u, by rw [eu, List.getElem?_map, Array.getElem?_toList, hc] <;> rfl, rfl⟩
        have lenE : x.cps.size = us.length := by rw [eu, List.length_map, Array.length_toList]
        refine fill_texts (W0 _ calm3).toS s.heap.objs.size notS us lenE few valE (x.cps.size - 0) 0 _ (by omega) (Nat.zero_le _) st0 ?hS0 ?hR
        case hS0 =>
          exact tset_new (Heap.get?_push_of_some _ atS)
        case hR =>
          intro s' mv hS'
          obtain ⟨h', g2, d', tk', os'⟩ := s'
          have eg : g2 = s.gens := mv.gens
          have ed : d' = s.drawn := mv.drawn
          have eo : os' = s.os := mv.os
          subst eg
          subst ed
          subst eo
          show wpAny _ _ _ _ _ _
          refine wpAny_pure (?_)
          show wpAny _ _ (ret Value.none) _ _ _
          refine wpAny_pure ⟨rfl, h', tk', rfl, hS', fun b o e => ?_⟩
          have b0 : b < s.heap.objs.size := Heap.lt_size e
          have b1 : b ≠ s.heap.objs.size := Nat.ne_of_lt b0
          have b2 : b ≠ (s.heap.push { cls := .type "set", dict := none, data := .set #[] 0 (.fresh 0 0 (!w.params.followText "set-order")) }).objs.size := by
            rw [Heap.size_push]
            exact Nat.ne_of_lt (Nat.lt_succ_of_lt b0)
          exact mv.heap b o (by simp only [List.mem_cons, List.mem_singleton, List.not_mem_nil, or_false, not_or]; exact ⟨b1, b2⟩) (Heap.get?_push_of_some _ (Heap.get?_push_of_some _ e))
      · cases r₂ with
        | error e => exact rE2
        | ok fl₂ =>
          cases fl₂ with
          | ret r =>
            obtain ⟨rfl, h', tk, rfl, hS', hk'⟩ := rE2
            repeat (any_goals (first | (assumption) | wp_step))
            exact h _ _ hS' hk'
          | _ => exact rE2.elim
    | _ => exact rE.elim
set_option maxRecDepth 100000 in

theorem set_of_texts {l : Addr} {vals : Array Value} {us : List Str} {Q : Value → Shared → Prop} (calm0 : A.handled = none) (lh : s.heap.IsList l vals) (allS : StrsAre vals.toList us) (few : us.length + 1 < scanBound)
    (h : ∀ (h' : Heap) (tk : Nat), TSet w h' s.heap.objs.size (gather [] us) → (∀ b o, s.heap.get? b = some o → h'.get? b = some o) → Q (.ref s.heap.objs.size) { s with heap := h', toks := tk }) :
    wpAny (model P w) A (call (.type "set") [.ref l]) Q E s := by
  obtain ⟨c, tl, mroE⟩ := F.called_set.mro
  have mdE := F.called_set.made
  have sbE := F.called_set.sub
  refine wpAny_call (codeAny_of_tree (?_))
  show wpAny _ _ (callAny (.type "set") _) _ _ _
  refine wpAny_pure ⟨Code.quiet_builtin _ (by decide +kernel), codeAny_builtin F.entry_type_call (?_)⟩
  rw [Around.under_plain (weight_type_call_type "set" [.ref l] []) rfl]
  have n1 := F.called_set.notType
  have n2 := F.called_set.canCreate
  have tcE := F.typeCall_set_1 (.ref l)
  repeat (any_goals (first | (assumption) | wp_step))
  refine codeAny_mono (code_set_led1 (.ref l) (E := E) (Q₁ := fun ob s₁ => ob = .ref s.heap.objs.size ∧ s₁ = { s with heap := s.heap.push { cls := .type "set", dict := none, data := .set #[] 0 (.fresh 0 0 (!w.params.followText "set-order")) } }) ⟨rfl, rfl⟩) fun r s₁ rE => ?_
  cases r with
  | error e => exact rE
  | ok fl =>
    cases fl with
    | ret ob =>
      obtain ⟨rfl, rfl⟩ := rE
      have atS : (s.heap.push { cls := .type "set", dict := none, data := .set #[] 0 (.fresh 0 0 (!w.params.followText "set-order")) }).get? s.heap.objs.size = some { cls := .type "set", dict := none, data := .set #[] 0 (.fresh 0 0 (!w.params.followText "set-order")) } := Heap.get?_push_size _ rfl
      have tyS : Shared.TypeIs { s with heap := s.heap.push { cls := .type "set", dict := none, data := .set #[] 0 (.fresh 0 0 (!w.params.followText "set-order")) } } (.ref s.heap.objs.size) "set" := ⟨_, atS, rfl⟩
      have liE := F.called_set.init.lookup
      have biE := F.called_set.init.bind (.ref s.heap.objs.size)
      repeat (any_goals (first | (assumption) | wp_step))
      refine codeAny_mono (codeAny_call_builtin (R := wants (fun r s₂ => r = .none ∧ ∃ h' tk, s₂ = { s with heap := h', toks := tk } ∧ TSet w h' s.heap.objs.size (gather [] us) ∧
          (∀ b o, s.heap.get? b = some o → h'.get? b = some o)) E) F.called_set.init.plain F.entry_set_init (check_set_init_1 tyS ?_)) fun r₂ s₂ rE2 => ?_
      · obtain ⟨ob0, obL, clL, n0, dtL⟩ := lh
        obtain ⟨ocls, odict, odata, oslots⟩ := ob0
        simp only at clL dtL
        subst clL
        subst dtL
        have obL2 : (s.heap.push { cls := .type "set", dict := none, data := .set #[] 0 (.fresh 0 0 (!w.params.followText "set-order")) }).get? l = some { cls := .type "list", dict := odict, data := .seq vals n0, slots := oslots } := Heap.get?_push_of_some _ obL
        have sl1 := F.sub_list_set
        have sl2 := F.sub_list_frozenset
        have neD : (Value.type "list" == Value.type "dict") = false := by decide
        have lh1 : (s.heap.push { cls := .type "set", dict := none, data := .set #[] 0 (.fresh 0 0 (!w.params.followText "set-order")) }).IsList l vals := ⟨_, obL2, rfl, n0, rfl⟩
        unfold Builtin.«set.__init__»
        unfold noKeywords
        unfold Builtin.Frozenset.updateFrom
        generalize hPI : pyIter = PI
        wp_walk
        subst hPI
        refine wpAny_pyIter_list lh1 ?_
        refine wpAny_bind (wpAny_runValue ?_)
        have calm3 : A.in1.in1.in1.handled = none := by simp [calm0]
        have sz1 : (s.heap.push { cls := .type "set", dict := none, data := .set #[] 0 (.fresh 0 0 (!w.params.followText "set-order")) }).objs.size = s.heap.objs.size + 1 := Heap.size_push ..
        have ltS : l < s.heap.objs.size := Heap.lt_size obL
        have neI : l ≠ (s.heap.push { cls := .type "set", dict := none, data := .set #[] 0 (.fresh 0 0 (!w.params.followText "set-order")) }).objs.size := by
          rw [Heap.size_push]
          exact Nat.ne_of_lt (Nat.lt_succ_of_lt ltS)
        have notS : s.heap.objs.size ∉ [(s.heap.push { cls := .type "set", dict := none, data := .set #[] 0 (.fresh 0 0 (!w.params.followText "set-order")) }).objs.size, l] := by
          rw [Heap.size_push]
          simp only [List.mem_cons, List.mem_singleton, List.not_mem_nil, or_false, not_or]
          exact ⟨Nat.ne_of_lt (Nat.lt_succ_self _), Nat.ne_of_gt ltS⟩
        have valE : ∀ (i : Nat) (v : Value), vals[i]? = some v → ∃ z t, us[i]? = some z ∧ v = .str z t := fun i v hv => strs_get allS i v (by rw [Array.getElem?_toList]; exact hv)
        have lenE : vals.size = us.length := by
          rw [← Array.length_toList]
          exact strs_len allS
        refine fill_texts (Walks.list calm3 _ l neI vals).toS s.heap.objs.size notS us lenE few valE (vals.size - 0) 0 _ (by omega) (Nat.zero_le _)
          ⟨⟨_, Heap.get?_push_size _ rfl, rfl, rfl⟩, (lh1.push _)⟩ ?hS0 ?hR
        case hS0 =>
          exact tset_new (Heap.get?_push_of_some _ atS)
        case hR =>
          intro s' mv hS'
          obtain ⟨h', g2, d', tk', os'⟩ := s'
          have eg : g2 = s.gens := mv.gens
          have ed : d' = s.drawn := mv.drawn
          have eo : os' = s.os := mv.os
          subst eg
          subst ed
          subst eo
          show wpAny _ _ _ _ _ _
          refine wpAny_pure (?_)
          show wpAny _ _ (ret Value.none) _ _ _
          refine wpAny_pure ⟨rfl, h', tk', rfl, hS', fun b o e => ?_⟩
          have b0 : b < s.heap.objs.size := Heap.lt_size e
          have b1 : b ≠ s.heap.objs.size := Nat.ne_of_lt b0
          have b2 : b ≠ (s.heap.push { cls := .type "set", dict := none, data := .set #[] 0 (.fresh 0 0 (!w.params.followText "set-order")) }).objs.size := by
            rw [Heap.size_push]
            exact Nat.ne_of_lt (Nat.lt_succ_of_lt b0)
          exact mv.heap b o (by simp only [List.mem_cons, List.mem_singleton, List.not_mem_nil, or_false, not_or]; exact ⟨b1, b2⟩) (Heap.get?_push_of_some _ (Heap.get?_push_of_some _ e))
      · cases r₂ with
        | error e => exact rE2
        | ok fl₂ =>
          cases fl₂ with
          | ret r =>
            obtain ⟨rfl, h', tk, rfl, hS', hk'⟩ := rE2
            repeat (any_goals (first | (assumption) | wp_step))
            exact h _ _ hS' hk'
          | _ => exact rE2.elim
    | _ => exact rE.elim

end
/-! ### the rules -/
def SetTO (w : PySem.World) (a : Addr) (zs : List Str) : HO := .ext fun h => TSet w h a zs
section
variable {X : Cx}
theorem tsetO_new {w : PySem.World} {P : Program} {H : Hp} {h : Heap} {a : Addr} {zs : List Str} (R : TSet w h a zs) : ObjOk P w H h a (SetTO w a zs) := by
  have ⟨o, _, _, _, ho, _⟩ := R
  exact ⟨R, ⟨o, ho⟩, fun h1 h2 p k => TSet.keep p k⟩
theorem tsetO_get {pins : List (Addr × Obj)} {σ : L2.St} {H : Hp} {s : Shared} {a : Addr} {zs : List Str} (I : Inv X pins σ H s) (ha : H a = some (SetTO X.w a zs)) : TSet X.w s.heap a zs := (I.hok a _ ha).1
/-- set(z), set(zs) -/
def rSetT (K : PySem.W.Frag) (w : PySem.World) : List V → Hp → VK → Prop := fun xs H Q => ∃ us : List Str, ((∃ x : Str, xs = [V.str x] ∧ us = x.cps.toList.map fun c => ⟨#[c]⟩) ∨ ∃ l : Addr, xs = [V.ref l] ∧ SqL K H l (us.map V.str)) ∧ us.length ≤ 1000 ∧
  ∀ q : Addr, H q = none → Q (.ref q) (upd H q (SetTO w q (gather [] us)))
theorem cr_setT (hc : X.calm = true) : CallR X (.type "set") (rSetT X.K X.w) := by
  intro pins s σ H xs us Q I r h
  obtain ⟨ys, hx, hz, q⟩ := h
  have new : H s.heap.objs.size = none := I.hok.fresh (Nat.le_refl _)
  have few : ys.length + 1 < scanBound := by unfold scanBound; omega
  rcases hx with ⟨x, rfl, ex⟩ | ⟨l, rfl, hs⟩
  · obtain ⟨u, rfl, ru⟩ := r.one
    obtain ⟨t, rfl⟩ := ru
    refine set_of_text (I.ok.hd hc) ex few fun h' tk R kp => ?_
    exact ⟨.ref _, upd H s.heap.objs.size (SetTO X.w s.heap.objs.size (gather [] ys)), I.laid (t' := tk) kp (Nat.le_refl _) (tsetO_new R), rfl, q _ new⟩
  · rw [Vals.ref1 r]
    obtain ⟨its, rv, pl, _⟩ := I.list hs
    have al : StrsAre its.toArray.toList ys := rv.strs
    obtain ⟨o, ho, hcl, n, hd⟩ := pl.isList
    refine set_of_texts (I.ok.hd hc) ⟨o, ho, hcl, n, hd⟩ al few fun h' tk R kp => ?_
    exact ⟨.ref _, upd H s.heap.objs.size (SetTO X.w s.heap.objs.size (gather [] ys)), I.laid (t' := tk) kp (Nat.le_refl _) (tsetO_new R), rfl, q _ new⟩
/-- sorted(found) -/
def rSortT (w : PySem.World) : List V → Hp → VK → Prop := fun vs H Q => ∃ (a : Addr) (zs : List Str), vs = [V.ref a] ∧ H a = some (SetTO w a zs) ∧ zs.length < 64 ∧
  ∀ (ys : List Str) (p : Addr), ys.Perm zs → sortedS ys = true → H p = none → Q (.ref p) (upd H p (.lst (ys.map V.str)))
theorem cr_sortT (hc : X.calm = true) : CallR X (.builtin "sorted") (rSortT X.w) := by
  intro pins s σ H vs us Q I r h
  obtain ⟨a, zs, rfl, ha, h64, q⟩ := h
  have R := tsetO_get I ha
  rw [Vals.ref1 r]
  refine tset_sorted R (I.ok.hd hc) h64 fun s' p out c ys k g o hp hg hi hpm hs => ?_
  have zl : (ys.map V.str).length ≤ sizeLine := by
    rw [List.length_map, hpm.length_eq, sizeLine_eq]
    omega
  have pn : H p = none := I.hok.fresh hp
  have J : Inv X pins σ (upd H p (.lst (ys.map V.str))) { s with heap := s'.heap, gens := s'.gens, drawn := s'.drawn, toks := s'.toks } :=
    I.call (ch := []) (Un.laid k hp pn) (I.hok.laid k hp ⟨zl, out.toList, c, vals_of_strs hi, hg⟩) (by rw [g]; exact I.bare) (fun _ z => nomatch z)
  have es : s' = { s with heap := s'.heap, gens := s'.gens, drawn := s'.drawn, toks := s'.toks } := by
    cases s'
    cases s
    cases o
    rfl
  rw [es]
  exact ⟨.ref p, _, J, rfl, q ys p hpm hs pn⟩
end
end DL

set_option Elab.async false
set_option linter.all false
set_option maxRecDepth 100000
set_option maxHeartbeats 1000000
/-! Dicts that stand: made by a comprehension, read by a key; ranges from their end. -/
namespace DL
open PySem PySem.Spec PyProof.Rows L2 LamX
section
variable {X : Cx} {T : List (Addr × Str)} {W : WX} {χ : XD} {δ : Dn} {w : Wp} {pos : Pos}
def downs (n : Nat) : List D := (List.range n).map fun (k : Nat) => I (((n - 1 - k : Nat)) : Int)
theorem downs_len (n : Nat) : (downs n).length = n := by unfold downs; rw [List.length_map, List.length_range]
theorem downs_at {n i : Nat} {d : D} (h : (downs n)[i]? = some d) : i < n ∧ d = I (((n - 1 - i : Nat)) : Int) := by
  unfold downs at h
  rw [List.getElem?_map] at h
  by_cases hi : i < n
  · rw [List.getElem?_range hi] at h
    exact ⟨hi, (Option.some.inj h).symm⟩
  · rw [List.getElem?_eq_none (by simpa using hi)] at h
    cases h
/-- reversed(range(n)) -/
theorem it_revR {tg e : Expr} {p p2 pos2 : Pos} {κ : List D → Wp → Prop} (hm : X.mg "reversed" = none) (hm2 : X.mg "range" = none) (h : PD X T W χ e δ w fun d w1 => ∃ n : Nat, d = I (n : Int) ∧ (n : Int) < 2 ^ 62 ∧ κ (downs n) w1)
    (hg : Gl X "reversed" := by rfl) (hg2 : Gl X "range" := by rfl) (he : starEach [e] X.env = (false, eval e X.env) :: starEach [] X.env := by rfl)
    (he2 : starEach [.Call (.Name "range" p2) [e] [] pos2] X.env = (false, eval (.Call (.Name "range" p2) [e] [] pos2) X.env) :: starEach [] X.env := by rfl) :
    IterD X T W χ tg (.Call (.Name "reversed" p) [.Call (.Name "range" p2) [e] [] pos2] [] pos) δ w κ :=
  ⟨_, pi_revR hg hm (prg_1 hg2 hm2 (pe_wp e) he) he2, fun F σ S H R hE hW hX hK => by
    refine h F σ S H _ hE hW hX fun d w1 v S1 H1 k s1 W1 r => ?_
    obtain ⟨n, rfl, hn, k⟩ := k
    have r' : v = .int (n : Int) := r
    refine ⟨n, r', by decide, by decide, by omega, hn, ?_⟩
    have en : (((n : Int)) - 0).toNat = n := by omega
    rw [en]
    have ww := walk_rangeC (lo := (0 : Int) + ((n : Nat) : Int) - 1) (c := -1) (n := n)
    refine hK (downs n) w1 S1 H1 _ _ _ k s1 W1 (by rw [downs_len]; exact ww) (fun S2 w2 F2 H2 s2 W2 => True.intro) fun i d S2 w2 F2 H2 x H3 hd s2 W2 y => ?_
    obtain ⟨rfl, hx⟩ := y
    obtain ⟨hi, rfl⟩ := downs_at hd
    refine ⟨S2, Same.refl _, W2, ?_⟩
    show x = .int ((n - 1 - i : Nat) : Int)
    rw [hx]
    show V.int (0 + (n : Int) - 1 + (i : Int) * (-1)) = _
    congr 1
    omega⟩
/-- d[k] -/
theorem pd_dget {o i : Expr} {κ : D → Wp → Prop} (hu : X.A.units + 1 < cLine) (h : PD X T W χ o δ w fun d w1 => PD X T W χ i δ w1 fun e w2 => ∃ kvs k v, d = .dic kvs ∧ e = .val (kV k) ∧ valV kvs k = some v ∧ κ (.val v) w2)
    (hs : NoSl i := by exact fun _ _ => rfl) : PD X T W χ (.Subscript o i pos) δ w κ := fun F σ S H Q hE hW hX hK =>
  wp_pe (pe_dget hu (pe_wp o) (pe_wp i) hs) (by
    refine h F σ S H _ hE hW hX fun d w1 x S1 H1 k s1 W1 r1 => ?_
    refine k F σ S1 H1 _ (hE.mono s1) W1 (hX.mono s1) fun e w2 y S2 H2 k2 s2 W2 r2 => ?_
    obtain ⟨kvs, ky, v, rfl, rfl, hv, k2⟩ := k2
    obtain ⟨a, rfl, ha⟩ := r1
    have r2' : y = kV ky := r2
    subst r2'
    refine ⟨a, v, rfl, .inl ⟨kvs, ky, .inl (W2.same _ _ (s2 _ _ ha)), rfl, hv.symm⟩, ?_⟩
    exact hK _ w2 _ S2 H2 k2 (s1.trans s2) W2 rfl)
/-- the turns of a dict's comprehension over what is walked -/
theorem dc_turns {J : It} {n : Nat} {G : Hp → Prop} {Y : Nat → Hp → V → Hp → Prop} (w : Walk J n G Y) {g : TG} {tt : TT} {tk tv : TE} {vs : List Nat} {σ : L2.St} {H1 : Hp} {L : Addr} {Qd : Hp → Prop} (Pv : Nat → Hp → Prop)
    (h0 : Pv 0 (upd H1 L (.dK []))) (hG : ∀ i H, i ≤ n → Pv i H → G H)
    (hs : ∀ i x H H', i < n → Pv i H → Y i H x H' → g x (L2.wipe σ vs) H' fun σ2 H2 => L2.wipe σ2 vs = L2.wipe σ vs ∧ tt σ2 H2 fun b H3 =>
      if b = true then tk σ2 H3 fun y H4 => tv σ2 H4 fun z H5 => ∃ kvs k, y = kV k ∧ H5 L = some (.dK kvs) ∧ kvs.length < sizeLine ∧ Pv (i + 1) (upd H5 L (.dK (putK kvs k z))) else Pv (i + 1) H3)
    (hd : ∀ H, Pv n H → Qd H) : ∃ W : Nat → Nat → Hp → Prop, (∃ m, W 0 m (upd H1 L (.dK []))) ∧ ∀ i m H, W i m H →
      (J.stop i H ∧ Qd H) ∨ (J.go i H ∧ ∃ Nx : Hp → Prop, (∀ H', Nx H' → ∃ m', m' < m ∧ W (i + 1) m' H') ∧ ∀ x H', J.yld i H x H' → g x (L2.wipe σ vs) H' fun σ2 H2 => L2.wipe σ2 vs = L2.wipe σ vs ∧ tt σ2 H2 fun b H3 =>
        if b = true then tk σ2 H3 fun y H4 => tv σ2 H4 fun z H5 => ∃ kvs k, y = kV k ∧ H5 L = some (.dK kvs) ∧ kvs.length < sizeLine ∧ Nx (upd H5 L (.dK (putK kvs k z))) else Nx H3) :=
  ⟨fun i m H => m = n - i ∧ i ≤ n ∧ Pv i H, ⟨n, rfl, Nat.zero_le _, h0⟩, by
    intro i m H h
    obtain ⟨hm, hi, p⟩ := h
    have gg := hG i H hi p
    cases Nat.lt_or_ge i n with
    | inl hlt =>
      exact Or.inr ⟨w.goes i H hlt gg, Pv (i + 1), (fun H' p' => ⟨n - (i + 1), (by omega), rfl, hlt, p'⟩), fun x H' y => hs i x H H' hlt p (w.yields i H x H' hlt gg y)⟩
    | inr hge =>
      obtain rfl : i = n := Nat.le_antisymm hi hge
      exact Or.inl ⟨w.stops H gg, hd H p⟩⟩
/-- what a dict's comprehension (without a test) asks -/
def DcD (X : Cx) (T : List (Addr × Str)) (is : List Nat) (tg kx vx : Expr) (scope : Scope) (vs : List Nat) (δ : Dn) (κ : List (Key × V) → Wp → Prop) (ds : List D) (w1 : Wp) : Prop :=
  ds.length < sizeLine ∧ ∃ Pv : Nat → List (Key × V) → Wp → Prop, Pv 0 [] w1 ∧
    (∀ (i : Nat) (d : D) acc w', ds[i]? = some d → Pv i acc w' → ∀ s H0 C cl fp, PGL (bx X s H0 scope cl C fp) T is tg d (wipeD δ vs) w' fun δ2 w2 => ∀ s H0 C cl fp, PD (bx X s H0 scope cl C fp) T Wf noX kx δ2 w2 fun kd w3 =>
      ∀ s H0 C cl fp, PD (bx X s H0 scope cl C fp) T Wf noX vx δ2 w3 fun vd w4 => ∃ k v, kd = .val (kV k) ∧ vd = .val v ∧ Pv (i + 1) (putK acc k v) w4) ∧
    ∀ acc w', Pv ds.length acc w' → κ acc w'
theorem ptsx_nil {scope : Scope} (s : Shared) (H : Hp) (C : Addr) (cl : List (Str × Addr)) (fp : List Addr) : PTs (X.blk s H scope (compEnvC scope cl C X.env) fp) [] (fun σ H Q => Q true H) := pts_nil
theorem pd_dc {kx vx tg iter : Expr} {scope : Scope} (own : List (Str × Nat)) (is : List Nat) {κ : D → Wp → Prop} (hc : X.calm = true) (hN : X.N.Nodup) (ok : BlkOk X.N X.env.scope scope own) (hsub : ∀ i ∈ is, i ∈ own.map (·.2))
    (h : IterD X T W χ tg iter δ w (DcD X T is tg kx vx scope (own.map (·.2)) δ (fun acc w' => κ (.dic acc) w'))) (hs : ∀ x, foldedSetIterable iter X.env x = pure x := by intro _; rfl) : PD X T W χ (.DictComp kx vx [⟨tg, iter, [], 0⟩] scope pos) δ w κ := fun F σ S H Q hE hW hX hK => by
  obtain ⟨wi, hi, h⟩ := h
  refine wp_pe (pe_dc hc hN hi ok pg_bx ptsx_nil pe_bx pe_bx hs) ?_
  refine h F σ S H _ hE hW hX fun ds w1 S1 H1 J G Y k s1 W1 ww hG hY L nL => ?_
  obtain ⟨hz, Pv, p0, turn, done⟩ := k
  have fL : F L = none := (W1.free nL).2.2
  refine dc_turns ww (g := lcG X scope tg) (tt := fun σ H Q => Q true H) (tk := lcE X scope kx) (tv := lcE X scope vx) (vs := own.map (·.2)) (σ := σ) (H1 := H1) (L := L) (Qd := fun H => Q (.ref L) H) (fun i H' => ∃ acc w' S', Pv i acc w' ∧ acc.length ≤ i ∧ Same S1 S' ∧ World X.K T S' w' (upd F L (.dK acc)) H') ?_ (fun i H' _ ⟨acc, w', S', _, _, s2, W2⟩ => hG S' w' _ H' s2 W2) ?_ ?_
  · exact ⟨[], w1, S1, p0, Nat.le_refl _, Same.refl _, W1.takeF nL (fun _ z => by cases z)⟩
  · rintro i x H' H3 hi ⟨acc, w', S', pv, hacc, s2, W2⟩ y
    obtain ⟨S3, s3, W3, r⟩ := hY i ds[i] S' w' _ H' x H3 (List.getElem?_eq_getElem hi) s2 W2 y
    intro s H0 C cl fp
    refine turn i ds[i] acc w' (List.getElem?_eq_getElem hi) pv s H0 C cl fp (upd F L (.dK acc)) x (L2.wipe σ (own.map (·.2))) S3 H3 _ r ((hE.mono (s1.trans (s2.trans s3))).wipe _) W3 fun δ2 w2 σ2 S4 H4 k s4 hE4 W4 o4 l4 => ?_
    refine ⟨?_, ?_⟩
    · rw [wipe_eq (σ1 := L2.wipe σ (own.map (·.2))) (σ2 := σ2) l4 fun j hj => o4 j fun z => hj (hsub j z)]
      exact wipe_eq (L2.wipe_length σ _) fun j hj => L2.wipe_out hj
    · show (if true = true then _ else _)
      rw [if_pos rfl]
      intro s H0 C cl fp
      refine k s H0 C cl fp (upd F L (.dK acc)) σ2 S4 H4 _ hE4 W4 exf fun kd w5 y5 S5 H5 k5 s5 W5 r5 => ?_
      intro s H0 C cl fp
      refine k5 s H0 C cl fp (upd F L (.dK acc)) σ2 S5 H5 _ (hE4.mono s5) W5 exf fun vd w6 z6 S6 H6 k6 s6 W6 r6 => ?_
      obtain ⟨ky, v, rfl, rfl, k6⟩ := k6
      have r5' : y5 = kV ky := r5
      have r6' : z6 = v := r6
      subst r5' r6'
      refine ⟨acc, ky, rfl, (W6.frm L _ upd_same).2, by omega, putK acc ky z6, w6, S6, k6, ?_, s2.trans (s3.trans (s4.trans (s5.trans s6))), ?_⟩
      · have := length_putK acc ky z6
        omega
      · have W7 := W6.putF (o := .dK (putK acc ky z6)) upd_same (fun _ z => by cases z) (fun _ z => by cases z) (fun _ z => by cases z)
        rw [upd_upd] at W7
        exact W7
  · rintro H' ⟨acc, w', S', pv, hacc, s2, W2⟩
    obtain ⟨e1, W3⟩ := W2.freezeF fL fun _ z => by cases z
    have s3 : Same S' (upd S' L (.dK acc)) := same_upd e1
    exact hK _ w' _ _ H' (done acc w' pv) (s1.trans (s2.trans s3)) W3 ⟨L, rfl, upd_same⟩
end
end DL

set_option Elab.async false
set_option linter.all false
set_option maxRecDepth 100000
set_option maxHeartbeats 4000000
/-! {e for x in xs if t}: texts; sorted of it, in data. -/
namespace DL
open PySem PySem.Spec PyProof.Rows L2 LamX
section
variable {X : Cx}
/-- what a set's comprehension asks: D the new set -/
def tSc (w : PySem.World) (wi : TI) (g : TG) (tt : TT) (te : TE) (vs : List Nat) : TE := fun σ H Q => wi σ H fun J H1 => ∀ D, H1 D = none → ∃ V : Nat → Nat → Hp → Prop, (∃ m, V 0 m (upd H1 D (SetTO w D []))) ∧ ∀ i m H, V i m H →
  (J.stop i H ∧ Q (.ref D) H) ∨ (J.go i H ∧ ∃ Nx : Hp → Prop, (∀ H', Nx H' → ∃ m', m' < m ∧ V (i + 1) m' H') ∧ ∀ x H', J.yld i H x H' → g x (L2.wipe σ vs) H' fun σ2 H2 => L2.wipe σ2 vs = L2.wipe σ vs ∧ tt σ2 H2 fun b H3 =>
    if b = true then te σ2 H3 fun y H4 => ∃ zs z, y = .str z ∧ H4 D = some (SetTO w D zs) ∧ zs.length + 1 < scanBound ∧ Nx (upd H4 D (SetTO w D (withT zs z))) else Nx H3)
theorem tadd_at {pins : List (Addr × Obj)} {σ : L2.St} {H : Hp} {s : Shared} {E : Value → Shared → Prop} {D : Addr} {zs : List Str} {z : Str} {u : Value} {Q : Value → Shared → Prop} (I : Inv X pins σ H s) (hD : H D = some (SetTO X.w D zs)) (room : zs.length + 1 < scanBound) (ru : RelV (.str z) u)
    (h : ∀ s', Inv X pins σ (upd H D (SetTO X.w D (withT zs z))) s' → Q .none s') : wpAny (model X.prog X.w) X.A (call (.builtin "set.add") [.ref D, u]) Q E s := by
  obtain ⟨tk, rfl⟩ := ru
  have R := tsetO_get I hD
  refine tset_call R room fun h' sb new => h _ ?_
  have he : ∃ u, h'.get? D = some u := by
    have ⟨o, _, _, _, ho, _⟩ := new
    exact ⟨o, ho⟩
  exact I.write (e := D) (t' := s.toks + 1) (by rw [hD]; trivial) (.inl rfl) (fun b u hb hu => (sb.2 b hb).trans hu) he (tsetO_new new)
theorem pe_sc {elt tg iter : Expr} {ifs : List Expr} {scope : Scope} {own : List (Str × Nat)} {pos : Pos} {wi : TI} {g : TG} {tt : TT} {te : TE} (hc : X.calm = true) (nd : X.N.Nodup) (hi : PI X tg iter wi) (ok : BlkOk X.N X.env.scope scope own)
    (hg : ∀ (s : Shared) (H : Hp) (C : Addr) (cl : List (Str × Addr)) (fp : List Addr), PG (X.blk s H scope (compEnvC scope cl C X.env) fp) tg g)
    (ht : ∀ (s : Shared) (H : Hp) (C : Addr) (cl : List (Str × Addr)) (fp : List Addr), PTs (X.blk s H scope (compEnvC scope cl C X.env) fp) ifs tt)
    (he : ∀ (s : Shared) (H : Hp) (C : Addr) (cl : List (Str × Addr)) (fp : List Addr), PE (X.blk s H scope (compEnvC scope cl C X.env) fp) elt te) (hs : ∀ x, foldedSetIterable iter X.env x = pure x := by intro _; rfl) :
    PE X (.SetComp elt [⟨tg, iter, ifs, 0⟩] scope pos) (tSc X.w wi g tt te (own.map (·.2))) := by
  refine ⟨fun pins s σ H Q I h => ?_⟩
  rw [arm_eval_SetComp]
  have free_at : ∀ y ∈ scope.names, y.2 = .free → ∃ c, X.env.cells.lookup y.1 = some c := fun y hy e => by
    rcases ok.free y hy e with k | k
    · exact I.ok.has _ (.inl k)
    · exact I.ok.has _ (.inr k)
  refine wpAny_comprehension_free (use := none) rfl hs (closure_ok free_at) ok.kind (fun y hy e => by rw [ok.uniq y hy, e]) (thn (hi.run pins s σ H _ I h) fun xv s1 hx => thn hx fun itv s2 h2 => ?_)
  obtain ⟨it, fp, tn, J, H2, rfl, I2, Tu, st2, f2, q⟩ := h2
  refine wpAny_newSet_raw fun led hled => newEnv_comp ?_
  subst hled
  generalize eD : s2.heap.objs.size = D
  have newD : H2 D = none := I2.hok.fresh (Nat.le_of_eq eD)
  obtain ⟨V, ⟨m0, v0⟩, turn⟩ := q D newD
  generalize es3 : ({ s2 with heap := s2.heap.push { cls := .type "set", dict := none, data := .set #[] 0 (.fresh 0 0 (!(X.w.params.followText "set-order"))) } } : Shared) = s3
  have atD : s3.heap.get? D = some { cls := .type "set", dict := none, data := .set #[] 0 (.fresh 0 0 (!(X.w.params.followText "set-order"))) } := by
    rw [← es3, ← eD]
    exact Heap.get?_push_size _ rfl
  have I3 : Inv X pins σ (upd H2 D (SetTO X.w D [])) s3 := by
    have ob : ObjOk X.prog X.w H2 s3.heap D (SetTO X.w D []) := tsetO_new (tset_new atD)
    rw [← es3] at ob ⊢
    exact I2.laid (t' := s2.toks) (fun b o e => Heap.get?_push_of_some _ e) (Nat.le_of_eq eD) ob
  have h3 : s3.heap = s2.heap.push { cls := .type "set", dict := none, data := .set #[] 0 (.fresh 0 0 (!(X.w.params.followText "set-order"))) } := by rw [← es3]
  have small : ∀ b ∈ fp, b < s2.heap.objs.size := fun b hb => by
    obtain ⟨o, e, _⟩ := Tu.obj _ _ st2 b hb
    exact Heap.lt_size e
  have f3 : ∀ b ∈ fp, FpOk X pins (upd H2 D (SetTO X.w D [])) b ∧ b < s3.heap.objs.size := fun b hb => by
    have lt := small b hb
    refine ⟨⟨?_, (f2 b hb).2⟩, by rw [h3, Heap.size_push]; exact Nat.lt_succ_of_lt lt⟩
    rw [upd_ne (by rw [← eD]; exact Nat.ne_of_lt lt)]
    exact (f2 b hb).1
  have st3 : tn 0 s3.heap := Tu.keep _ _ _ st2 fun b _ o e => by rw [h3]; exact Heap.get?_push_of_some _ e
  have I4 := block_start I3 ok nd f3
  have pg := hg s3 (upd H2 D (SetTO X.w D [])) s3.heap.objs.size (cellsFrom (s3.heap.objs.size + 1) scope.names (cloFrom X.env.cells scope.names [])) fp
  have pt := ht s3 (upd H2 D (SetTO X.w D [])) s3.heap.objs.size (cellsFrom (s3.heap.objs.size + 1) scope.names (cloFrom X.env.cells scope.names [])) fp
  have pe := he s3 (upd H2 D (SetTO X.w D [])) s3.heap.objs.size (cellsFrom (s3.heap.objs.size + 1) scope.names (cloFrom X.env.cells scope.names [])) fp
  show codeAny _ _ (.compStart (.SetComp elt [⟨tg, iter, ifs, 0⟩] scope pos) 0 (.ref it) (.ref D) (compEnvC scope (cellsFrom (s3.heap.objs.size + 1) scope.names (cloFrom X.env.cells scope.names [])) s3.heap.objs.size X.env)) (compPost (model X.prog X.w) X.A X.xe none _ (.ref D) s3.heap.objs.size) { s3 with heap := pushCells (s3.heap.push { cls := .type "dict", data := .dict #[] }) scope.names }
  have freeF : ∀ b ∈ fp, (upd H2 D (SetTO X.w D [])) b = none := fun b hb => (f3 b hb).1.1
  generalize ece : compEnvC scope (cellsFrom (s3.heap.objs.size + 1) scope.names (cloFrom X.env.cells scope.names [])) s3.heap.objs.size X.env = ce at I4 pg pt pe ⊢
  have locC : ce.locals = s3.heap.objs.size := by subst ece; rfl
  generalize eH3 : upd H2 D (SetTO X.w D []) = H3 at I3 I4 pg pt pe v0 freeF f3
  generalize es4 : ({ s3 with heap := pushCells (s3.heap.push { cls := .type "dict", data := .dict #[] }) scope.names } : Shared) = s4 at I4 ⊢
  have st4 : tn 0 s4.heap := Tu.keep _ _ _ st3 fun b _ o e => by rw [← es4]; exact pushCells_keeps _ _ _ _ (Heap.get?_push_of_some _ e)
  have stat : ∀ {σ' : L2.St} {H' : Hp} {s' : Shared}, Inv (X.blk s3 H3 scope ce fp) [] σ' H' s' → (∀ b ∈ fp, H' b = none) → ∀ b ∈ fp, FpOk (X.blk s3 H3 scope ce fp) [] H' b := fun {σ' H' s'} I' hn b hb =>
    ⟨hn b hb, (I'.ok.exf b hb).1, I'.ok.exfs b hb, .inl hb, fun x c e => (I'.ok.exf b hb).2 x c e, fun p hp => absurd (show p ∈ ([] : List (Addr × Obj)) ++ [] from hp) (by simp)⟩
  have loop : codeAny (model X.prog X.w) X.A (.compLoop (.SetComp elt [⟨tg, iter, ifs, 0⟩] scope pos) 0 (.ref it) (.ref D) ce) (compPost (model X.prog X.w) X.A X.xe none (EP X pins σ Q) (.ref D) s3.heap.objs.size) s4 := by
    refine compLoop_set_any (fun n s' => ∃ i H', Inv (X.blk s3 H3 scope ce fp) [] (L2.wipe σ (own.map (·.2))) H' s' ∧ tn i s'.heap ∧ (∀ b ∈ fp, H' b = none) ∧ V i n H') ?_ m0 ⟨0, H3, I4, st4, freeF, v0⟩
    rintro n s5 ⟨i, H5, I5, st5, n5, v5⟩
    rcases turn i n H5 v5 with ⟨stop, qq⟩ | ⟨go, Nx, hNx, step⟩
    · have td := Tu.done (X.blk s3 H3 scope ce fp) rfl rfl rfl hc i [] s5 _ H5 (fun _ _ => False) I5 (stat I5 n5) st5 stop
      refine thnF td fun r s6 ⟨hr, I6⟩ => ?_
      subst hr
      have I7 : Inv X pins σ H5 s6 := I3.call' (ch := fp) I6.os I6.base I6.hok I6.bare fun b hb => ⟨(f3 b hb).1.2.2.2.1, (f3 b hb).1.2.1, (f3 b hb).1.2.2.2.2.1, (f3 b hb).1.2.2.2.2.2⟩
      have nC : H5 s3.heap.objs.size = none := by
        have z : H5 ce.locals = none := I6.free
        rw [locC] at z
        exact z
      obtain ⟨m, hn, _⟩ := I6.loc
      have hn : s6.heap.Ns ce.locals m := hn
      rw [locC] at hn
      refine ⟨m, hn, fun h'' sb => ?_⟩
      obtain ⟨g0, g1, g2, g3, g4, g5⟩ := I3.fpOk (Nat.le_refl _) nC
      exact ⟨.ref D, H5, I7.turned (t' := s6.toks) (fun b o hb e => (sb.2 b hb).trans e) g0 g1 g3 g4 g5, rfl, qq⟩
    · have ti := Tu.item (X.blk s3 H3 scope ce fp) rfl rfl rfl hc i [] s5 _ H5 (fun _ _ => False) I5 (stat I5 n5) st5 go
      refine thnF ti fun r s6 ⟨u, hr, h6⟩ => ?_
      subst hr
      refine thnF h6 fun _ s7 ⟨x, H7, I7, r7, y7, st7, n7⟩ => ?_
      have I7' := I7.pinned (stat I7 n7) (Tu.obj _ _ st7)
      refine thnF (pg.run _ s7 _ H7 x u _ I7' r7 (step x H7 y7)) fun _ s8 ⟨σ8, H8, I8, hw8, q8⟩ => ?_
      refine thnF (pt.run _ s8 σ8 H8 _ I8 q8) fun b s9 ⟨H9, I9, q9⟩ => ?_
      have fin : ∀ {s' : Shared} {H' : Hp}, Inv (X.blk s3 H3 scope ce fp) ([] ++ pinsAt fp s7.heap) σ8 H' s' → Nx H' → ∃ m, m < n ∧ ∃ i H', Inv (X.blk s3 H3 scope ce fp) [] (L2.wipe σ (own.map (·.2))) H' s' ∧ tn i s'.heap ∧ (∀ b ∈ fp, H' b = none) ∧ V i m H' := fun {s' H'} I' nx => by
        obtain ⟨m', hm, v'⟩ := hNx H' nx
        have pin' : ∀ b ∈ fp, ∀ o, s7.heap.get? b = some o → s'.heap.get? b = some o ∧ H' b = none := fun b hb o e =>
          have z := I'.pin (b, o) (List.mem_append_right _ (List.mem_append_right _ (mem_pinsAt hb e)))
          ⟨z.1, z.2.1⟩
        have hl : (L2.wipe σ (own.map (·.2))).length = σ8.length := by rw [← hw8, wipe_length]
        refine ⟨m', hm, i + 1, H', (I'.unpinned (pins := [])).weak hl (fun j v e => ?_), Tu.keep _ _ _ st7 fun b hb o e => (pin' b hb o e).1, fun b hb => ?_, v'⟩
        · rw [← hw8] at e
          exact (wipe_some e).1
        · obtain ⟨o, e, _⟩ := Tu.obj _ _ st7 b hb
          exact (pin' b hb o e).2
      cases b with
      | false =>
        simp only [Bool.false_eq_true, if_false] at q9 ⊢
        exact fin I9 q9
      | true =>
        simp only [if_true] at q9 ⊢
        refine thnF (pe.run _ s9 σ8 H9 _ I9 q9) fun z s10 ⟨y, H10, I10, r10, zs, zt, ey, atD10, room, nx⟩ => ?_
        subst ey
        exact tadd_at (X := X.blk s3 H3 scope ce fp) I10 atD10 room r10 fun s12 I12 => fin I12 nx
  exact codeAny_compStart_set loop (Tu.self X.A 0 _ _ _ st4 loop)
end
/-! ### in data -/
theorem code_ne {w : PySem.World} {a c : Addr} {q : Str} {zs : List Str} : SetTO w a zs ≠ CodeO c q := fun z => by
  unfold SetTO CodeO at z
  have e := HO.ext.inj z
  have k := congrFun e (Heap.push ⟨Array.replicate c default, {}⟩ { cls := .none, data := .fields #[.none, .str q 0] })
  have sz : (⟨Array.replicate c default, {}⟩ : Heap).objs.size = c := Array.size_replicate
  have at_ := Heap.get?_push_size (⟨Array.replicate c default, {}⟩ : Heap) (o := ({ cls := .none, data := .fields #[.none, .str q 0] } : Obj)) rfl
  rw [sz] at at_
  have k2 := Eq.mpr k ⟨_, _, 0, at_, rfl, rfl⟩
  obtain ⟨o, es, ep, t, ho, _, hd, _⟩ := k2
  by_cases e : a = c
  · subst e
    rw [at_] at ho
    cases ho
    cases hd
  · have h0 := (Heap.get?_some_iff.mp ho).1
    have h1 : ((Array.replicate c (default : Obj)).push { cls := .none, data := .fields #[.none, .str q 0] })[a]? = some o := h0
    rw [Array.getElem?_push] at h1
    rw [if_neg (by rw [Array.size_replicate]; exact e), Array.getElem?_replicate] at h1
    split at h1
    · cases h1
      cases hd
    · cases h1
section
variable {K : PySem.W.Frag} {T : List (Addr × Str)} {S F H : Hp} {w : Wp} {a : Addr} {o u : HO}
theorem World.putFX (W : World K T S w F H) (e : F a = some u) (h1 : ∀ ps, u ≠ .tbl ps) (h2 : ∀ q, u ≠ CodeO a q) (hn : ∀ ps, o ≠ .tbl ps) (hx : ∀ c q, o ≠ CodeO c q) : World K T S w (upd F a o) (upd H a o) := by
  obtain ⟨e1, e2⟩ := W.frm a u e
  refine ⟨fun b x q => ?_, W.notbl, fun b k q => ?_, fun b x q => ?_, fun p hp => ?_, nf_upd W.nf ⟨hn, hx⟩⟩
  · rw [upd_ne (ne_of_none q e1)]
    exact W.same _ _ q
  · obtain ⟨q1, q2, x, q3, q4⟩ := W.own b k q
    have hb : b ≠ a := fun z => by
      rw [z, e] at q2
      cases q2
    exact ⟨q1, by rw [upd_ne hb]; exact q2, x, by rw [upd_ne hb]; exact q3, q4⟩
  · by_cases hb : b = a
    · subst hb
      rw [upd_same] at q ⊢
      exact ⟨e1, q⟩
    · rw [upd_ne hb] at q
      obtain ⟨q1, q2⟩ := W.frm b x q
      exact ⟨q1, by rw [upd_ne hb]; exact q2⟩
  · obtain ⟨ps, k1, k2, k3⟩ := W.tabs p hp
    refine ⟨ps, ?_, k2, fun pos cv hc => ?_⟩
    · rw [upd_ne (ne_of k1 e2 (fun z => h1 ps z.symm))]
      exact k1
    · obtain ⟨c, c1, c2⟩ := k3 pos cv hc
      refine ⟨c, c1, ?_⟩
      rw [upd_ne]
      · exact c2
      · intro z
        subst z
        rw [e2] at c2
        exact h2 _ (Option.some.inj c2)
theorem World.leaveF (W : World K T S w (upd F a o) H) (e : F a = none) : World K T S w F H := by
  refine ⟨W.same, W.notbl, fun b k q => ?_, fun b x q => ?_, W.tabs, fun b u z => ?_⟩
  · obtain ⟨q1, q2, r⟩ := W.own b k q
    refine ⟨q1, ?_, r⟩
    by_cases hb : b = a
    · rw [hb]
      exact e
    · rw [upd_ne hb] at q2
      exact q2
  · have hb : b ≠ a := fun z => by
      rw [z, e] at q
      cases q
    exact W.frm b x (by rw [upd_ne hb]; exact q)
  · have hb : b ≠ a := fun z' => by
      rw [z', e] at z
      cases z
    exact W.nf b u (by rw [upd_ne hb]; exact z)
end
section
variable {X : Cx} {T : List (Addr × Str)} {W : WX} {χ : XD} {δ : Dn} {w : Wp} {pos : Pos}
theorem sc_turns {J : It} {n : Nat} {G : Hp → Prop} {Y : Nat → Hp → V → Hp → Prop} (ww : Walk J n G Y) {w : PySem.World} {g : TG} {tt : TT} {te : TE} {vs : List Nat} {σ : L2.St} {H1 : Hp} {L : Addr} {Qd : Hp → Prop} (Pv : Nat → Hp → Prop)
    (h0 : Pv 0 (upd H1 L (SetTO w L []))) (hG : ∀ i H, i ≤ n → Pv i H → G H)
    (hs : ∀ i x H H', i < n → Pv i H → Y i H x H' → g x (L2.wipe σ vs) H' fun σ2 H2 => L2.wipe σ2 vs = L2.wipe σ vs ∧ tt σ2 H2 fun b H3 =>
      if b = true then te σ2 H3 fun y H4 => ∃ zs z, y = .str z ∧ H4 L = some (SetTO w L zs) ∧ zs.length + 1 < scanBound ∧ Pv (i + 1) (upd H4 L (SetTO w L (withT zs z))) else Pv (i + 1) H3)
    (hd : ∀ H, Pv n H → Qd H) : ∃ V : Nat → Nat → Hp → Prop, (∃ m, V 0 m (upd H1 L (SetTO w L []))) ∧ ∀ i m H, V i m H →
      (J.stop i H ∧ Qd H) ∨ (J.go i H ∧ ∃ Nx : Hp → Prop, (∀ H', Nx H' → ∃ m', m' < m ∧ V (i + 1) m' H') ∧ ∀ x H', J.yld i H x H' → g x (L2.wipe σ vs) H' fun σ2 H2 => L2.wipe σ2 vs = L2.wipe σ vs ∧ tt σ2 H2 fun b H3 =>
        if b = true then te σ2 H3 fun y H4 => ∃ zs z, y = .str z ∧ H4 L = some (SetTO w L zs) ∧ zs.length + 1 < scanBound ∧ Nx (upd H4 L (SetTO w L (withT zs z))) else Nx H3) :=
  ⟨fun i m H => m = n - i ∧ i ≤ n ∧ Pv i H, ⟨n, rfl, Nat.zero_le _, h0⟩, by
    rintro i m H ⟨hm, hi, p⟩
    have gg := hG i H hi p
    cases Nat.lt_or_ge i n with
    | inl hlt => exact Or.inr ⟨ww.goes i H hlt gg, Pv (i + 1), (fun H' p' => ⟨n - (i + 1), (by omega), rfl, hlt, p'⟩), fun x H' y => hs i x H H' hlt p (ww.yields i H x H' hlt gg y)⟩
    | inr hge =>
      obtain rfl : i = n := Nat.le_antisymm hi hge
      exact Or.inl ⟨ww.stops H gg, hd H p⟩⟩
/-- sorted({e for x in xs if t}), texts; the list is owned -/
def ScD (X : Cx) (T : List (Addr × Str)) (is : List Nat) (tg : Expr) (ifs : List Expr) (elt : Expr) (scope : Scope) (vs : List Nat) (δ : Dn) (κ : List Str → Wp → Prop) (ds : List D) (w1 : Wp) : Prop :=
  ds.length < 1000 ∧ ∃ Pv : Nat → List Str → Wp → Prop, Pv 0 [] w1 ∧
    (∀ (i : Nat) (d : D) acc w', ds[i]? = some d → Pv i acc w' → ∀ s H0 C cl fp, PGL (bx X s H0 scope cl C fp) T is tg d (wipeD δ vs) w' fun δ2 w2 => ∀ s H0 C cl fp, PTsD (bx X s H0 scope cl C fp) T ifs δ2 w2 fun b w3 =>
      if b = true then ∀ s H0 C cl fp, PD (bx X s H0 scope cl C fp) T Wf noX elt δ2 w3 fun y w4 => ∃ z, y = DL.T z ∧ Pv (i + 1) (withT acc z) w4 else Pv (i + 1) acc w3) ∧
    ∀ acc w', Pv ds.length acc w' → acc.length < 64 ∧ ∀ ys : List Str, ys.Perm acc → sortedS ys = true → κ ys w'
theorem bt_set : bootBuiltins "set" = some (.type "set") := by decide +kernel
theorem bt_sorted : bootBuiltins "sorted" = some (.builtin "sorted") := by decide +kernel
theorem rep_txts {K : PySem.W.Frag} {S : Hp} : ∀ us : List Str, RepL K S (us.map DL.T) (us.map V.str)
  | [] => rfl
  | u :: us => ⟨V.str u, us.map V.str, rfl, rfl, rep_txts us⟩
theorem pd_sortSc {elt tg iter : Expr} {ifs : List Expr} {scope : Scope} {p p2 : Pos} (own : List (Str × Nat)) (is : List Nat) {κ : D → Wp → Prop} (hc : X.calm = true) (hmS : X.mg "sorted" = none) (hN : X.N.Nodup) (ok : BlkOk X.N X.env.scope scope own) (hsub : ∀ i ∈ is, i ∈ own.map (·.2))
    (h : IterD X T W χ tg iter δ w (ScD X T is tg ifs elt scope (own.map (·.2)) δ (fun ys w' => ∀ a, w' a = none → κ (R a) (wu w' a (.lst (ys.map DL.T))))))
    (hg1 : Gl X "sorted" := by rfl) (nb : starEach [.SetComp elt [⟨tg, iter, ifs, 0⟩] scope p2] X.env = (false, eval (.SetComp elt [⟨tg, iter, ifs, 0⟩] scope p2) X.env) :: starEach [] X.env := by rfl)
    (hs : ∀ x, foldedSetIterable iter X.env x = pure x := by intro _; rfl) : PD X T W χ (.Call (.Name "sorted" p) [.SetComp elt [⟨tg, iter, ifs, 0⟩] scope p2] [] pos) δ w κ := fun F σ S H Q hE hW hX hK => by
  obtain ⟨wi, hi, h⟩ := h
  refine wp_pe (pe_callB (cr_sortT hc) hg1 hmS bt_sorted (pa_cons (pe_sc hc hN hi ok pg_bx pt_bx pe_bx hs) pa_nil nb) (by decide) (by decide) nb) ?_
  refine h F σ S H _ hE hW hX fun ds w1 S1 H1 J G Y k s1 W1 ww hG hY L nL => ?_
  obtain ⟨hz, Pv, p0, turn, done⟩ := k
  have fL : F L = none := (W1.free nL).2.2
  refine sc_turns ww (w := X.w) (g := lcG X scope tg) (tt := lcT X scope ifs) (te := lcE X scope elt) (vs := own.map (·.2)) (σ := σ) (H1 := H1) (L := L) (fun i H' => ∃ acc w' S', Pv i acc w' ∧ acc.length ≤ i ∧ Same S1 S' ∧ World X.K T S' w' (upd F L (SetTO X.w L acc)) H') ?_ (fun i H' _ ⟨acc, w', S', _, _, s2, W2⟩ => hG S' w' _ H' s2 W2) ?_ ?_
  · exact ⟨[], w1, S1, p0, Nat.le_refl _, Same.refl _, W1.takeF nL (fun _ z => by cases z) (fun _ _ => code_ne)⟩
  · rintro i x H' H3 hi ⟨acc, w', S', pv, hacc, s2, W2⟩ y
    obtain ⟨S3, s3, W3, r⟩ := hY i ds[i] S' w' _ H' x H3 (List.getElem?_eq_getElem hi) s2 W2 y
    intro s H0 C cl fp
    refine turn i ds[i] acc w' (List.getElem?_eq_getElem hi) pv s H0 C cl fp (upd F L (SetTO X.w L acc)) x (L2.wipe σ (own.map (·.2))) S3 H3 _ r ((hE.mono (s1.trans (s2.trans s3))).wipe _) W3 fun δ2 w2 σ2 S4 H4 k s4 hE4 W4 o4 l4 => ?_
    refine ⟨?_, ?_⟩
    · rw [wipe_eq (σ1 := L2.wipe σ (own.map (·.2))) (σ2 := σ2) l4 fun j hj => o4 j fun z => hj (hsub j z)]
      exact wipe_eq (L2.wipe_length σ _) fun j hj => L2.wipe_out hj
    intro s H0 C cl fp
    refine k s H0 C cl fp (upd F L (SetTO X.w L acc)) σ2 S4 H4 _ hE4 W4 fun b w5 S5 H5 k5 s5 W5 => ?_
    cases b with
    | false =>
      rw [if_neg Bool.false_ne_true] at k5 ⊢
      exact ⟨acc, w5, S5, k5, by omega, s2.trans (s3.trans (s4.trans s5)), W5⟩
    | true =>
      rw [if_pos rfl] at k5 ⊢
      intro s H0 C cl fp
      refine k5 s H0 C cl fp (upd F L (SetTO X.w L acc)) σ2 S5 H5 _ (hE4.mono s5) W5 exf fun d6 w6 v6 S6 H6 k6 s6 W6 r6 => ?_
      obtain ⟨z, rfl, k6⟩ := k6
      have wl := withT_len (zs := acc) (z := z)
      refine ⟨acc, z, r6, (W6.frm L _ upd_same).2, by unfold scanBound; omega, withT acc z, w6, S6, k6, by omega, s2.trans (s3.trans (s4.trans (s5.trans s6))), ?_⟩
      have W7 := World.putFX (o := SetTO X.w L (withT acc z)) W6 upd_same (fun _ z => by cases z) (fun _ => code_ne) (fun _ z => by cases z) (fun _ _ => code_ne)
      rw [upd_upd] at W7
      exact W7
  · rintro H' ⟨acc, w', S', pv, hacc, s2, W2⟩
    obtain ⟨h64, k⟩ := done acc w' pv
    refine ⟨L, acc, rfl, (W2.frm L _ upd_same).2, h64, fun ys p hp hs np => ?_⟩
    have W3 := W2.leaveF fL
    exact hK _ _ _ _ _ (k ys hp hs p (W3.free np).2.1) (s1.trans s2) (W3.take np ⟨_, rfl, rep_txts ys⟩) rfl
end
end DL
namespace DL
open PySem PySem.Spec PyProof.Rows L2 LamX
theorem withT_nodup {zs : List Str} {z : Str} (h : zs.Nodup) : (withT zs z).Nodup := by
  unfold withT
  split
  · exact h
  · rename_i q
    exact List.nodup_cons.mpr ⟨q, h⟩
theorem gather_nodup : ∀ (us zs : List Str), zs.Nodup → (gather zs us).Nodup
  | [], zs, h => h
  | u :: us, zs, h => gather_nodup us (withT zs u) (withT_nodup h)
def chars (x : Str) : List Str := x.cps.toList.map fun c => ⟨#[c]⟩
section
variable {X : Cx} {T : List (Addr × Str)} {W : WX} {χ : XD} {δ : Dn} {w : Wp} {pos : Pos}
/-- sorted(set(e)): a text, or a list of texts -/
theorem pd_sortSetT {e : Expr} {p p2 pos2 : Pos} {κ : D → Wp → Prop} (hc : X.calm = true) (hmS : X.mg "sorted" = none) (hmT : X.mg "set" = none)
    (h : PD X T W χ e δ w fun d w1 => ∃ us : List Str, ((∃ x, d = DL.T x ∧ us = chars x) ∨ Lk w1 d (us.map DL.T)) ∧ us.length ≤ 1000 ∧ (gather [] us).length < 64 ∧ ∀ ys : List Str, ys.Perm (gather [] us) → sortedS ys = true → κ (.lst (ys.map DL.T)) w1)
    (hg1 : Gl X "sorted" := by rfl) (hg2 : Gl X "set" := by rfl) (na : starEach [e] X.env = (false, eval e X.env) :: starEach [] X.env := by rfl)
    (nb : starEach [.Call (.Name "set" p2) [e] [] pos2] X.env = (false, eval (.Call (.Name "set" p2) [e] [] pos2) X.env) :: starEach [] X.env := by rfl) :
    PD X T W χ (.Call (.Name "sorted" p) [.Call (.Name "set" p2) [e] [] pos2] [] pos) δ w κ := fun F σ S H Q hE hW hX hK => by
  refine wp_pe (pe_callB (cr_sortT hc) hg1 hmS bt_sorted (pa_cons (pe_callTy (cr_setT hc) hg2 hmT bt_set (pa_cons (pe_wp e) pa_nil na) (by decide) (by decide) na) pa_nil nb) (by decide) (by decide) nb) ?_
  refine h F σ S H _ hE hW hX fun d w1 v S1 H1 k s1 W1 r => ?_
  obtain ⟨us, hd, hz, h64, k⟩ := k
  have fin : ∀ q, H1 q = none → ∃ (a : Addr) (zs : List Str), [V.ref q] = [V.ref a] ∧ (upd H1 q (SetTO X.w q (gather [] us))) a = some (SetTO X.w a zs) ∧ zs.length < 64 ∧ ∀ (ys : List Str) (p : Addr), ys.Perm zs → sortedS ys = true → (upd H1 q (SetTO X.w q (gather [] us))) p = none → Q (.ref p) (upd (upd H1 q (SetTO X.w q (gather [] us))) p (.lst (ys.map V.str))) := fun q hq => by
    have W2 : World X.K T S1 w1 F (upd H1 q (SetTO X.w q (gather [] us))) := W1.junk hq
    refine ⟨q, gather [] us, rfl, upd_same, h64, fun ys p hp hs np => ?_⟩
    have s2 : Same S1 (upd S1 p (.lst (ys.map V.str))) := same_upd (W2.free np).1
    exact hK _ w1 _ _ _ (k ys hp hs) (s1.trans s2) (W2.laid np fun _ z => by cases z) ⟨p, _, rfl, upd_same, rep_txts ys⟩
  rcases hd with ⟨x, rfl, ex⟩ | lk
  · have r' : v = .str x := r
    subst r'
    exact ⟨us, .inl ⟨x, rfl, ex⟩, hz, fun q hq => fin q hq⟩
  · obtain ⟨a, xs, rfl, h1, h2⟩ := lk.at_ W1 r
    have e2 : us.map DL.T = (us.map V.str).map D.val := by
      rw [List.map_map]
      rfl
    rw [e2] at h2
    have e3 := h2.vals
    subst e3
    exact ⟨us, .inr ⟨a, rfl, SqL.of h1⟩, hz, fun q hq => fin q hq⟩
end
end DL

set_option Elab.async false
set_option linter.all false
set_option maxRecDepth 100000
set_option maxHeartbeats 2000000
/-! def f(a, .., **d), and its calls with keywords. -/
namespace DL
open PySem PySem.Spec PyProof.Rows L2 LamX
/-- the dict at a holds these names in this order -/
def KwD (P : Program) (w : PySem.World) (h : Heap) (a : Addr) (kvs : List (Str × Value)) : Prop :=
  ∃ o es ep, h.get? a = some o ∧ o.ExactDict ∧ o.data = .dict es ep ∧ KeysOf (mixKind P w) es ∧ Pairs (mixKind P w) es.toList (kvs.map fun p => (Sum.inr p.1, p.2)) ∧ (kvs.map (·.1)).Nodup
section
variable {P : Program} {w : PySem.World} {A : Around} {E : Value → Shared → Prop} {s : Shared} {a : Addr} {kvs : List (Str × Value)}
theorem pairs_str : ∀ {es : List DictEntry} {kvs : List (Str × Value)}, Pairs (mixKind P w) es (kvs.map fun p => (Sum.inr p.1, p.2)) → ∀ e ∈ es, ∃ z t, e.key = .str z t ∧ z ∈ kvs.map (·.1)
  | [], [], _, e, he => by cases he
  | e0 :: es, (k, v) :: kvs, h, e, he => by
    cases h with
    | cons h1 h2 h3 =>
      rcases List.mem_cons.mp he with q | q
      · subst q
        have h1' : Value.isStrOf k e.key = true := h1
        obtain ⟨t, ht⟩ := Value.isStrOf_shape h1'
        exact ⟨k, t, ht, List.mem_cons_self⟩
      · obtain ⟨z, t, e1, e2⟩ := pairs_str h3 e q
        exact ⟨z, t, e1, List.mem_cons_of_mem _ e2⟩
theorem pairs_snoc {K : Type} [DecidableEq K] {knd : KeyKind P w K} {es : List DictEntry} {kvs : List (K × Value)} {e : DictEntry} {k : K} {v : Value} (h : Pairs knd es kvs) (h1 : knd.is k e.key = true) (h2 : e.val = v) : Pairs knd (es ++ [e]) (kvs ++ [(k, v)]) := by
  induction h with
  | nil => exact .cons h1 h2 .nil
  | cons q1 q2 _ ih => exact .cons q1 q2 ih
theorem kwd_set {name : Str} {v : Value} {Q : Unit → Shared → Prop} (R : KwD P w s.heap a kvs) (hn : name ∉ kvs.map (·.1))
    (hQ : ∀ h', Heap.SameBut a s.heap h' → KwD P w h' a (kvs ++ [(name, v)]) → Q () { s with heap := h', toks := s.toks + 1 }) : wpAny (model P w) A (nsSet a name v) Q E s := fun Γ p _ => by
  obtain ⟨o, es, ep, ho, hx, hd, hk, hp, nd⟩ := R
  simp only [nsSet, strHash, Sem.wp_bind', Sem.wp_cmd_ask, Sem.wp_pure', Sem.wp_cmd_mkText]
  rw [Sem.wp_loadPart_of _ Γ _ p { s with toks := s.toks + 1 } (o := o) _ ho]
  have keys := pairs_str hp
  have hany : es.any (·.refKey) = false := by
    rw [Array.any_eq_false']
    intro e he
    obtain ⟨z, t, e1, _⟩ := keys e (by simpa using he)
    simp [DictEntry.refKey, e1]
  simp only [hd, aRefKeyMayBeTheName_eq, aRefKeyMayBeTheNameByArray, hany, Bool.and_false, Bool.false_eq_true, if_false, Sem.wp_cmd_updatePart]
  refine ⟨by rw [ho]; rfl, hQ _ (Heap.SameBut.update ..) ?_⟩
  obtain ⟨c, d, dt, sl⟩ := o
  subst hd
  have hi : es.findIdx? (·.key.isStr name) = none := by
    rw [Array.findIdx?_eq_none_iff]
    intro e he
    obtain ⟨z, t, e1, e2⟩ := keys e (by simpa using he)
    rw [e1]
    show (z == name) = false
    exact beq_eq_false_iff_ne.mpr fun q => hn (q ▸ e2)
  have at_ : (Obj.putName name (if name.cps.isEmpty = true then 0 else reduceHash ((model P w).w.params.strHash name.cps)) (.str name s.toks) v ⟨c, d, .dict es ep, sl⟩) = ⟨c, d, .dict (es.push ⟨if name.cps.isEmpty = true then 0 else reduceHash ((model P w).w.params.strHash name.cps), .str name s.toks, v⟩) (ep + 1), sl⟩ := by
    simp only [Obj.putName_eq, Obj.putNameByArray, hi]
  refine ⟨Obj.putName name _ (.str name s.toks) v ⟨c, d, .dict es ep, sl⟩, es.push ⟨if name.cps.isEmpty = true then 0 else reduceHash ((model P w).w.params.strHash name.cps), .str name s.toks, v⟩, ep + 1, Heap.get?_update_self _ ho (by rw [at_]; rfl), ?_, ?_, ?_, ?_, ?_⟩
  · rw [at_]
    exact hx
  · rw [at_]
  · intro e he
    rcases Array.mem_push.mp he with q | q
    · exact hk e q
    · subst q
      exact ⟨Sum.inr name, PySem.strKind_is P w name s.toks, rfl⟩
  · rw [Array.toList_push, List.map_append]
    exact pairs_snoc hp (PySem.strKind_is P w name s.toks) rfl
  · rw [List.map_append]
    exact List.nodup_append.mpr ⟨nd, by simp, fun x hx y hy => by
      rw [List.mem_singleton.mp hy]
      exact fun q => hn (by rw [← (show x = name from q)]; exact hx)⟩
theorem fm_congr {α β : Type} {f g : α → Option β} : ∀ {l : List α}, (∀ x ∈ l, f x = g x) → l.filterMap f = l.filterMap g
  | [], _ => rfl
  | a :: l, h => by
    rw [List.filterMap_cons, List.filterMap_cons, h a List.mem_cons_self, fm_congr fun x hx => h x (List.mem_cons_of_mem _ hx)]
theorem lookup_zip : ∀ {ps : List Str} {us : List Value}, ps.Nodup → us.length = ps.length → (ps.filterMap fun n => ((ps.zip us).lookup n).map (n, ·)) = ps.zip us ∧ (ps.filter fun n => ((ps.zip us).lookup n).isNone) = []
  | [], _, _, _ => ⟨by cases ‹List Value› <;> rfl, rfl⟩
  | p :: ps, [], _, h => by cases h
  | p :: ps, u :: us, nd, h => by
    obtain ⟨n1, n2⟩ := List.nodup_cons.mp nd
    obtain ⟨i1, i2⟩ := lookup_zip (ps := ps) (us := us) n2 (Nat.succ.inj h)
    have e : ∀ n ∈ ps, ((p :: ps).zip (u :: us)).lookup n = (ps.zip us).lookup n := fun n hn => by
      show List.lookup n ((p, u) :: ps.zip us) = _
      have hb : (n == p) = false := beq_eq_false_iff_ne.mpr fun q => n1 (q ▸ hn)
      simp only [List.lookup, hb]
    have e0 : ((p :: ps).zip (u :: us)).lookup p = some u := by
      show List.lookup p ((p, u) :: ps.zip us) = _
      simp [List.lookup]
    constructor
    · rw [List.filterMap_cons, e0]
      show (p, u) :: _ = (p, u) :: ps.zip us
      congr 1
      rw [← i1]
      exact fm_congr fun n hn => by rw [e n hn]
    · rw [List.filter_cons, e0]
      show (if false = true then _ else _) = _
      rw [if_neg Bool.false_ne_true, ← i2]
      exact List.filter_congr fun n hn => by rw [e n hn]
theorem kwd_new {s : Shared} : KwD P w (s.heap.push ({ cls := .type "dict", data := .dict #[] } : Obj)) s.heap.objs.size [] :=
  ⟨_, #[], 0, Heap.get?_push_size _ rfl, ⟨rfl, rfl, rfl⟩, rfl, (fun e he => by simp at he), .nil, List.nodup_nil⟩
theorem kwd_fill : ∀ (l : List (Str × Value)) (kvs : List (Str × Value)) (s : Shared) (Q : PUnit → Shared → Prop), KwD P w s.heap a kvs → (kvs.map (·.1) ++ l.map (·.1)).Nodup →
    (∀ h', Heap.SameBut a s.heap h' → KwD P w h' a (kvs ++ l) → Q ⟨⟩ { s with heap := h', toks := s.toks + l.length }) → ∀ f : Str × Value → PUnit → Sem (ForInStep PUnit), (∀ x u, f x u = (nsSet a x.1 x.2 >>= fun _ => pure (.yield ⟨⟩))) → wpAny (model P w) A (forIn l ⟨⟩ f) Q E s
  | [], kvs, s, Q, R, nd, hQ, f, hf => by
    rw [List.forIn_nil]
    refine wpAny_pure ?_
    have q := hQ s.heap (Heap.SameBut.refl ..) (by rw [List.append_nil]; exact R)
    exact q
  | (k, v) :: l, kvs, s, Q, R, nd, hQ, f, hf => by
    rw [List.forIn_cons, hf]
    have nk : k ∉ kvs.map (·.1) := fun q => (List.nodup_append.mp nd).2.2 k q k List.mem_cons_self rfl
    refine wpAny_bind (wpAny_bind (kwd_set R nk fun h1 sb R1 => wpAny_pure ?_))
    refine kwd_fill l (kvs ++ [(k, v)]) _ Q R1 ?_ (fun h2 sb2 R2 => ?_) f hf
    · rw [List.map_append, List.append_assoc]
      exact nd
    · have q := hQ h2 (sb.trans sb2) (by rw [List.append_assoc] at R2; exact R2)
      have e : s.toks + (l.length + 1) = s.toks + 1 + l.length := by omega
      rw [List.length_cons, e] at q
      exact q
theorem bind_kw {name qual nv : Str} {ps : List Str} {params : Arguments} {body : List Stmt} {scope : Scope} {kV doc pm cdv ct : Value} {an : Option Addr} {us ws : List Value} {ks : List Str} {Q : List (Str × Value) → Shared → Prop}
    (h1 : params.posonlyargs = []) (h2 : params.args.map (·.arg) = ps) (h3 : params.kwonlyargs = []) (h4 : params.vararg = none) (h5 : params.kwarg.map (·.arg) = some nv) (hl : us.length = ps.length) (np : ps.Nodup) (lw : ws.length = ks.length) (nk : ks.Nodup) (few : ks.length ≤ 1000) (out : ∀ k ∈ ks, k ∉ ps)
    (hQ : ∀ h' tk, Heap.SameBut s.heap.objs.size (s.heap.push ({ cls := .type "dict", data := .dict #[] } : Obj)) h' → KwD P w h' s.heap.objs.size (ks.zip ws) → Q (ps.zip us ++ [(nv, .ref s.heap.objs.size)]) { s with heap := h', toks := tk }) :
    wpAny (model P w) A (bindArgs (PySem.W.fnOf name qual params body scope .none kV doc pm an cdv ct) ⟨us, ks.zip ws⟩) Q E s := by
  unfold bindArgs PySem.W.fnOf
  dsimp only
  rw [h1, h2, h3, h4]
  simp only [List.map_nil, List.nil_append]
  have mk : (ks.zip ws).map (·.1) = ks := by
    rw [List.map_fst_zip (by omega)]
  have hk : params.kwarg.isSome = true := by
    cases e : params.kwarg with
    | none =>
      rw [e] at h5
      cases h5
    | some x => rfl
  refine wpAny_bind (wpAny_forIn_list _ (fun rest b s' => s' = s ∧ b.1 = ps.zip us ∧ b.2 ++ rest = ks.zip ws) _ (fun x rest b s' h => ?_) (fun b s' h => ?_) _ _ ⟨rfl, rfl, rfl⟩)
  · obtain ⟨rfl, e1, e2⟩ := h
    have xin : x.1 ∈ ks := by
      rw [← mk, ← e2]
      simp
    have c1 : (ps.contains x.fst || ([] : List Str).contains x.fst) = false := by
      simp [out _ xin]
    rw [if_neg (by rw [c1]; exact Bool.false_ne_true), if_pos hk]
    refine wpAny_pure ⟨rfl, e1, ?_⟩
    show (b.2 ++ [(x.1, x.2)]) ++ rest = _
    rw [List.append_assoc]
    exact e2
  · obtain ⟨rfl, e1, e2⟩ := h
    rw [List.append_nil] at e2
    obtain ⟨l1, l2⟩ := lookup_zip (us := us) np hl
    refine wpAny_bind (wpAny_pure ?_)
    have n1 : ¬ ((decide (us.length > ps.length) && (none : Option Arg).isNone) = true) := by
      rw [decide_eq_false (by omega)]
      exact Bool.false_ne_true
    simp only [Option.getD_none, List.length_nil, Nat.sub_zero, Nat.zero_sub, List.drop_nil, List.take_length, List.drop_length]
    rw [if_neg n1]
    cases hkw : params.kwarg with
    | none =>
      rw [hkw] at h5
      cases h5
    | some a0 =>
      rw [hkw] at h5
      have ea : a0.arg = nv := Option.some.inj h5
      rw [e1, l2]
      simp only [List.isEmpty_nil, Bool.not_true, Bool.false_eq_true, if_false, List.zip_nil_left, List.forIn_nil, pure_bind, List.append_nil]
      rw [l1, e2]
      have few2 : ¬ ((ks.zip ws).length > sizeLine + 1) := by
        rw [List.length_zip, sizeLine_eq]
        omega
      rw [if_neg few2]
      refine wpAny_bind (wpAny_alloc ?_)
      refine wpAny_bind (kwd_fill (ks.zip ws) [] _ _ kwd_new (by rw [mk]; exact nk) (fun h2 sb R => ?_) _ fun x u => rfl)
      refine wpAny_pure ?_
      rw [ea]
      exact hQ h2 _ sb R
end
/-! ### the def -/
/-- as Fun, its code object named -/
structure FuncC (K : PySem.W.Frag) (x qual : Str) (st : Stmt) (f : Addr) (fd : FuncData) (cdv : Value) : Prop where
  ex : ∃ (oc : Value) (od : Option Addr) (kV doc pm : Value) (an : Option Addr) (ct : Value) (osl : Array (Option Value)),
    fd = PySem.W.fnOf x qual (defArgs st) (defBody st) (defScope st) .none kV doc pm an cdv ct ∧ K.lookup f = some ⟨oc, od, .func fd, osl⟩ ∧ PySem.W.codeIn K cdv qual = true
  kp : PySem.W.keepIn K (.ref f) = true
theorem FuncC.fun {K : PySem.W.Frag} {x qual : Str} {st : Stmt} {f : Addr} {fd : FuncData} {cdv : Value} (G : FuncC K x qual st f fd cdv) : Fun K x qual st f fd := by
  obtain ⟨oc, od, kV, doc, pm, an, ct, osl, h1, h2, h3⟩ := G.ex
  exact ⟨⟨oc, od, kV, doc, pm, an, cdv, ct, osl, h1, h2, h3⟩, G.kp⟩
abbrev SpKw := List V → List Str → List V → Hp → VK → XK → Prop
def FnKw (P : Program) (w : PySem.World) (K : PySem.W.Frag) (mg : Str → Option Value) (base : Heap) (CX : CXT) (k : Nat) (f : Addr) (ps : List Str) (sp : SpKw) : Prop :=
  ∀ (A : Around) (outer : List Env) (s : Shared) (H : Hp) (us ws : List Value) (ks : List Str) (vs zs : List V) (Q : VK) (E : XK), Room k A → Env0 P w K mg base A outer s H → Vals vs us → Vals zs ws → vs.length = ps.length → zs.length = ks.length → ks.Nodup → ks.length ≤ 1000 → (∀ k ∈ ks, k ∉ ps) → sp vs ks zs H Q E →
    codeAny (model P w) A (.call (.ref f) ⟨us, ks.zip ws⟩) (CR CX outer P w H s Q E) s
theorem nodup_inr : ∀ {l : List Str}, l.Nodup → (l.map fun z : Str => (Sum.inr z : Key)).Nodup
  | [], _ => List.nodup_nil
  | a :: l, h => by
    obtain ⟨h1, h2⟩ := List.nodup_cons.mp h
    rw [List.map_cons]
    refine List.nodup_cons.mpr ⟨fun q => ?_, nodup_inr h2⟩
    obtain ⟨b, hb, e⟩ := List.mem_map.mp q
    exact h1 (Sum.inr.inj e ▸ hb)
abbrev skeys (ks : List Str) : List Key := ks.map Sum.inr
theorem kv_zip : ∀ {ks : List Str} {zs : List V} {ws : List Value}, Vals zs ws → KV ((skeys ks).zip zs) ((ks.zip ws).map fun p => ((Sum.inr p.1 : Key), p.2))
  | [], zs, ws, _ => .nil
  | k :: ks, [], _, .nil => .nil
  | k :: ks, z :: zs, _, .cons a r => .cons ⟨rfl, a⟩ (kv_zip r)
section
variable {CX : CXT} {P : Program} {w : PySem.World} {K : PySem.W.Frag} {mg : Str → Option Value} {base : Heap} {k : Nat} {f : Addr} {N ps : List Str} {sp : Sp} {x qual nv : Str} {st : Stmt} {fd : FuncData}
theorem fn_kw {cdv : Value} (G : FuncC K x qual st f fd cdv) (S : FnScope N (ps ++ [nv]) (defScope st)) (hCX : StX.CXUp CX)
    (h1 : (defArgs st).posonlyargs = []) (h2 : (defArgs st).args.map (·.arg) = ps) (h3 : (defArgs st).kwonlyargs = []) (h4 : (defArgs st).vararg = none) (h5 : (defArgs st).kwarg.map (·.arg) = some nv) (np : ps.Nodup)
    (body : ∀ (A : Around) (outer : List Env) (s : Shared) (H : Hp) (vs : List V) (Q : VK) (E : XK), Room k (A.deeper (envOfC qual (defScope st) s.heap.objs.size f cdv)) → sp vs H Q E →
      ∃ t, PSs (cxOf CX P w K mg base N qual (defScope st) f cdv A outer s H E) (defBody st) t ∧ t { nx := fun _ H' => Q .non H', rt := Q } (start N vs) H) :
    FnKw P w K mg base CX (k + 1) f ps (fun vs ks zs H Q E => ∀ p, H p = Option.none → sp (vs ++ [V.ref p]) (upd H p (.dK ((skeys ks).zip zs))) Q E) := by
  intro A outer s H us ws ks vs zs Q E hr e0 r rz lv lz nk few out hq
  obtain ⟨oc, od, kV, doc, pm, an, ct, osl, rfl, lk, hcd⟩ := G.ex
  have new0 : H s.heap.objs.size = Option.none := e0.hok.fresh (Nat.le_refl _)
  have lu : us.length = ps.length := by rw [← r.length]; exact lv
  have lw : ws.length = ks.length := by rw [← rz.length]; exact lz
  refine StX.run_bnd lk hcd S hr e0 (G := fun xs H2 => ∃ p, H p = Option.none ∧ xs = vs ++ [V.ref p] ∧ H2 = upd H p (.dK ((skeys ks).zip zs))) (fun A' Ex Q' h => ?_) fun s2 H2 xs ⟨p, hp, ex, eH⟩ hr' => ?_
  · refine bind_kw h1 h2 h3 h4 h5 lu np lw nk few out fun h' tk sb R => ?_
    have kp : ∀ b o, s.heap.get? b = some o → h'.get? b = some o := fun b o e => (sb.2 b (Nat.ne_of_lt (Heap.lt_size e))).trans (Heap.get?_push_of_some _ e)
    have ob : ObjOk P w (upd H s.heap.objs.size (.dK ((skeys ks).zip zs))) h' s.heap.objs.size (.dK ((skeys ks).zip zs)) := by
      obtain ⟨o, es, ep, a1, a2, a3, a4, a5, a6⟩ := R
      refine ⟨?_, beq_eq_false_iff_ne.mpr (Nat.ne_of_gt (StX.env0_big e0)), _, kv_zip rz, o, es, ep, a1, a2, a3, a4, a5, ?_⟩
      · rw [List.length_zip, List.length_map, sizeLine_eq]
        omega
      · rw [List.map_map]
        have e : ((fun p : Key × Value => p.1) ∘ fun p : Str × Value => ((Sum.inr p.1 : Key), p.2)) = (fun z : Str => (Sum.inr z : Key)) ∘ fun p : Str × Value => p.1 := rfl
        rw [e, ← List.map_map]
        exact nodup_inr a6
    have sz : s.heap.objs.size ≤ h'.objs.size := Nat.le_of_lt (by
      obtain ⟨o, es, ep, a1, _⟩ := R
      exact Heap.lt_size a1)
    have un : Un (frs outer) [] H (upd H s.heap.objs.size (.dK ((skeys ks).zip zs))) s.heap h' := Un.laid kp (Nat.le_refl _) new0
    have e2 : Env0 P w K mg base A outer { s with heap := h', toks := tk } (upd H s.heap.objs.size (.dK ((skeys ks).zip zs))) := by
      refine ⟨e0.frames, e0.mod, fun b x e => ⟨kp b x (e0.bs b x e).1, ?_⟩, Nat.le_trans e0.bsz sz, Heap.FunFrames.of_keeps (fun b x e _ => ⟨x, kp b x e, rfl⟩) e0.funs, fun b hb => ?_, e0.hok.laid kp (Nat.le_refl _) ob, e0.bare⟩
      · rw [upd_ne (Nat.ne_of_lt (Heap.lt_size (e0.bs b x e).1))]
        exact (e0.bs b x e).2
      · obtain ⟨_, x, hx, _⟩ := e0.funs.mem hb
        rw [upd_ne (Nat.ne_of_lt (Heap.lt_size hx))]
        exact e0.frf b hb
    have z := h { s with heap := h', toks := tk } _ (vs ++ [V.ref s.heap.objs.size]) (us ++ [Value.ref s.heap.objs.size]) e2 un rfl (fun e s' => hCX outer s H _ _ E e s' un kp rfl) (r.append (.cons rfl .nil)) (by rw [List.length_append, List.length_append, lv] <;> rfl) ⟨_, new0, rfl, rfl⟩
    rw [List.zip_append lu.symm] at z
    exact z
  · subst ex eH
    exact body A outer s2 _ _ Q E hr' (hq p hp)
end
/-! ### in data -/
abbrev SpDK := List D → List Str → List D → Wp → (D → Wp → Prop) → XD → Prop
/-- the promise sp of a def f(.., **d), told of the data in front and of the dict's -/
def spKw (K : PySem.W.Frag) (T : List (Addr × Str)) (sp : SpD) : SpKw := fun vs ks zs H Q E => ∀ p, H p = Option.none → spOf K T sp (vs ++ [V.ref p]) (upd H p (.dK ((skeys ks).zip zs))) Q E
theorem zip_fst {α β : Type} : ∀ {xs : List α} {ys : List β}, ys.length = xs.length → (xs.zip ys).map (·.1) = xs
  | [], _, _ => rfl
  | x :: xs, [], h => by cases h
  | x :: xs, y :: ys, h => by
    show x :: (xs.zip ys).map (·.1) = _
    rw [zip_fst (Nat.succ.inj h)]
theorem zip_snd {α β : Type} : ∀ {xs : List α} {ys : List β}, ys.length = xs.length → (xs.zip ys).map (·.2) = ys
  | [], [], _ => rfl
  | [], y :: ys, h => by cases h
  | x :: xs, [], h => by cases h
  | x :: xs, y :: ys, h => by
    show y :: (xs.zip ys).map (·.2) = _
    rw [zip_snd (Nat.succ.inj h)]
section
variable {P : Program} {w : PySem.World} {K : PySem.W.Frag} {mg : Str → Option Value} {base : Heap} {T : List (Addr × Str)}
theorem fnKX {x qual nv : Str} {st : Stmt} {f : Addr} {fd : FuncData} {N ps : List Str} {k : Nat} {sp : SpD} {cdv : Value} (G : FuncC K x qual st f fd cdv) (S : FnScope N (ps ++ [nv]) (defScope st))
    (h1 : (defArgs st).posonlyargs = []) (h2 : (defArgs st).args.map (·.arg) = ps) (h3 : (defArgs st).kwonlyargs = []) (h4 : (defArgs st).vararg = none) (h5 : (defArgs st).kwarg.map (·.arg) = some nv) (np : ps.Nodup)
    (body : ∀ (A : Around) (outer : List Env) (s : Shared) (H : Hp) (E : XK) (ds : List D) (w0 : Wp) (κ : D → Wp → Prop) (χ : XD), Room k (A.deeper (envOfC qual (defScope st) s.heap.objs.size f cdv)) → sp ds w0 κ χ →
      PSsD (cxOf (L2.CX P w) P w K mg base N qual (defScope st) f cdv A outer s H E) T (fun cls d _ H => E cls d H) χ (defBody st) (startD N ds) w0 { nx := fun _ w' => κ DL.N w', rt := κ }) : FnKw P w K mg base (L2.CX P w) (k + 1) f ps (spKw K T sp) := by
  refine fn_kw (sp := spOf K T sp) G S StX.cxUp h1 h2 h3 h4 h5 np fun A outer s H vs Q E hr h => ?_
  obtain ⟨ds, w0, F, S0, κ, χ, q1, q2, q3, q4, q5⟩ := h
  refine ⟨_, pss_wp _, ?_⟩
  exact body A outer s H E ds w0 κ χ hr q1 F _ S0 H _ (env_start q2) q3 (fun σ C ns fs w' d S' H' x s1 W1 xr => q5 C ns fs w' d S' H' x s1 W1 xr) ⟨fun δ' w' σ' S' H' k s1 hE W1 => q4 _ w' _ S' H' k s1 W1 rfl, q4, fun _ _ _ _ _ z => z.elim, fun _ _ _ _ _ z => z.elim⟩
end
/-- the values of keywords, in data -/
def PKD (X : Cx) (T : List (Addr × Str)) (W : WX) (χ : XD) : List Keyword → Dn → Wp → (List D → Wp → Prop) → Prop
  | [], δ, w, κ => κ [] w
  | ⟨_, e, _⟩ :: ks, δ, w, κ => PD X T W χ e δ w fun d w1 => PKD X T W χ ks δ w1 fun ds w2 => κ (d :: ds) w2
def wpK (X : Cx) : List Keyword → TA
  | [] => tNil
  | ⟨_, e, _⟩ :: ks => tCons (wpE X e) (wpK X ks)
theorem pk_wp {X : Cx} : ∀ ks : List Keyword, PK X ks (wpK X ks)
  | [] => pk_nil
  | ⟨_, e, _⟩ :: ks => pk_cons (pe_wp e) (pk_wp ks)
theorem pkd_wp {X : Cx} {T : List (Addr × Str)} {W : WX} {χ : XD} {δ : Dn} : ∀ {ks : List Keyword} {w : Wp} {κ : List D → Wp → Prop}, PKD X T W χ ks δ w κ → ∀ (F : Hp) (σ : L2.St) (S H : Hp) (Q : List V → Hp → Prop), EnvD X.K S δ σ → World X.K T S w F H → ExD X.K T W χ σ S F → KA X.K T κ S F Q → wpK X ks σ H Q
  | [], w, κ, h, F, σ, S, H, Q, hE, hW, hX, hK => hK [] w [] S H h (Same.refl _) hW rfl
  | ⟨_, e, _⟩ :: ks, w, κ, h, F, σ, S, H, Q, hE, hW, hX, hK => by
    refine h F σ S H _ hE hW hX fun d w1 v S1 H1 k s1 W1 r => ?_
    refine pkd_wp k F σ S1 H1 _ (hE.mono s1) W1 (hX.mono s1) fun ds w2 vs S2 H2 k2 s2 W2 r2 => ?_
    exact hK (d :: ds) w2 (v :: vs) S2 H2 k2 (s1.trans s2) W2 ⟨v, vs, rfl, r.mono s2, r2⟩
section
variable {X : Cx} {T : List (Addr × Str)} {W : WX} {χ : XD} {δ : Dn} {w : Wp} {pos : Pos}
theorem run_kw {CX : CXT} {k : Nat} {f : Addr} {ps ks : List Str} {sp : SpKw} {E : XK} {pins : List (Addr × Obj)} {σ : L2.St} {H : Hp} {s : Shared} {Q : VK} {us ws : List Value} {vs zs : List V} (G : FnKw X.prog X.w X.K X.mg X.base CX k f ps sp) (hr : Room k X.A)
    (hx : PassesAt CX X σ E) (I : Inv X pins σ H s) (r : Vals vs us) (rz : Vals zs ws) (lv : vs.length = ps.length) (lz : zs.length = ks.length) (nk : ks.Nodup) (few : ks.length ≤ 1000) (out : ∀ k ∈ ks, k ∉ ps) (h : sp vs ks zs H Q E) : wpAny (model X.prog X.w) X.A (call (.ref f) us (ks.zip ws)) (EP X pins σ Q) X.xe s := by
  refine wpAny_call (codeAny_mono (G X.A X.stack s H us ws ks vs zs Q E hr I.env0 r rz lv lz nk few out h) fun r s' hq => ?_)
  cases r with
  | error e => exact hx pins H s e s' I hq
  | ok fl =>
    cases fl with
    | ret u => exact I.after hq
    | next => exact False.elim hq
    | brk => exact False.elim hq
    | cont => exact False.elim hq
/-- o.m(k = e, ..) -/
theorem pd_methKw {CX : CXT} {k : Nat} {C f : Addr} {m : Str} {ks : List Str} {sp : SpD} {o : Expr} {kws : List Keyword} {apos : Pos} {pl : Sem Bool} {κ : D → Wp → Prop} (c : Cls X.K C) (hm : Meth X.K C m f) (G : FnKw X.prog X.w X.K X.mg X.base CX k f (["self"] : List Str) (spKw X.K T sp)) (hr : Room k X.A) (hx : ∀ σ, PassesAt CX X σ (WE W σ))
    (h : PD X T W χ o δ w fun d w1 => InsD C m d w1 ∧ PKD X T W χ kws δ w1 fun ds w2 => ds.length = ks.length ∧ sp [d, .dcv (skeys ks) ds] w2 κ χ) (nk : ks.Nodup := by decide +kernel) (few : ks.length ≤ 1000 := by decide) (out : ∀ k ∈ ks, k ∉ (["self"] : List Str) := by decide +kernel)
    (hall : (backToKw pos (keywordEach kws X.env)).all (·.1.isSome) = true := by rfl) (hks : (backToKw pos (keywordEach kws X.env)).filterMap (·.1) = ks := by rfl)
    (hpl : ((backTo pos (starEach [] X.env)).any (·.1) || (backToKw pos (keywordEach kws X.env)).any (·.1.isNone)) = false := by rfl)
    (ht : eval (.Call (.Attribute o m apos) [] kws pos) X.env = (do
      let ov ← eval o X.env
      standAt apos.atName
      let (f, first) ← holding [ov] (getMethod ov m pl)
      callWith pos f first (backTo pos (starEach [] X.env)) (backToKw pos (keywordEach kws X.env))) := by rfl) :
    PD X T W χ (.Call (.Attribute o m apos) [] kws pos) δ w κ := fun F σ S H Q hE hW hX hK => by
  intro pins s I
  refine PySem.W.methodCall_KW (pl := pl) (thn ((pe_wp o).run pins s σ H (fun x H1 => ∃ d w1 S1, InsD C m d w1 ∧ (PKD X T W χ kws δ w1 fun ds w2 => ds.length = ks.length ∧ sp [d, .dcv (skeys ks) ds] w2 κ χ) ∧ Same S S1 ∧ World X.K T S1 w1 F H1 ∧ Rep X.K S1 d x) I (h F σ S H _ hE hW hX fun d w1 v S1 H1 k s1 W1 r => ⟨d, w1, S1, k.1, k.2, s1, W1, r⟩)) fun u s1 ⟨x, H1, I1, rx, d, w1, S1, ki, kk, sm1, W1, r1⟩ => ?_) ht
  obtain ⟨a, dx, fs, rfl, ea, el⟩ := ki.is W1 r1
  obtain rfl : u = Value.ref a := rx
  refine getmeth_ok I1 ea c hm el ?_
  refine PySem.W.callWith_KW0 (h₀ := X.base) I1.ok.mod.kin hm.kp hall (thn ((pk_wp kws).run pos pins s1 σ H1 (fun zs H2 => ∃ ds w2 S2, (ds.length = ks.length ∧ sp [d, .dcv (skeys ks) ds] w2 κ χ) ∧ Same S1 S2 ∧ World X.K T S2 w2 F H2 ∧ RepL X.K S2 ds zs) I1 (pkd_wp kk F σ S1 H1 _ (hE.mono sm1) W1 (hX.mono sm1) fun ds w2 vs S2 H2 k2 s2 W2 r2 => ⟨ds, w2, S2, k2, s2, W2, r2⟩)) fun ws s2 ⟨zs, H2, I2, rz, ds, w2, S2, ⟨ld, hsp⟩, sm2, W2, r2⟩ => ⟨I2.kIn, ?_⟩) hpl
  rw [hks]
  have lz : zs.length = ks.length := by rw [r2.length]; exact ld
  refine run_kw (us := [Value.ref a]) (vs := [V.ref a]) G hr (hx σ) I2 (.cons rfl .nil) rz rfl lz nk few out fun p np => ?_
  have e1 := W2.free np
  have sS : Same S2 (upd S2 p (.dK ((skeys ks).zip zs))) := same_upd e1.1
  have lz2 : zs.length = (skeys ks).length := by rw [List.length_map]; exact lz
  refine ⟨[d, .dcv (skeys ks) ds], w2, F, _, κ, χ, hsp, ⟨.ref a, [.ref p], rfl, (r1.mono sm2).mono sS, .ref p, [], rfl, ⟨p, _, rfl, upd_same, zip_fst lz2, ?_⟩, rfl⟩, W2.laid np fun _ z => (by cases z), hK.mono (sm1.trans (sm2.trans sS)), fun C ns fs w' d S' H' x s3 W3 xr => hX C ns fs w' d S' H' x (sm1.trans (sm2.trans (sS.trans s3))) W3 xr⟩
  rw [zip_snd lz2]
  exact r2.mono sS
end
end DL

set_option Elab.async false
set_option linter.all false
set_option maxRecDepth 100000
set_option maxHeartbeats 1000000
/-! the draws -/
namespace Tw
open PySem PySem.Spec PyProof.Rows L2 LamX DL
def top (i : Nat) : Stmt := PySem.Challenge.pw_thinwall_k07_parts_filled_and_nested.main.body.getD i (.Pass ⟨0, 0, 0, 0⟩)
abbrev sTake : Stmt := top 28
structure Bag where
  row : List Int
  seed : Int
  cnt : Int
def take (b : Bag) (m : Int) : Int × Bag :=
  match b.row with
  | x :: rest => (x % m, { b with row := if x / m = 0 then rest else x / m :: rest })
  | [] => ((((b.seed * 48271 + (b.cnt + 1) * 69621 + 7) % 2147483647 * 16807 + (b.seed * 48271 + (b.cnt + 1) * 69621 + 7) % 2147483647 / 4099 + (b.cnt + 1) * 40692) % 2147483629) / 127 % m,
    ⟨[], (b.seed * 48271 + (b.cnt + 1) * 69621 + 7) % 2147483647, b.cnt + 1⟩)
def bagPut (w : Wp) (a r : Addr) (b : Bag) : Wp := wu (wu w a (.lst [R r, I b.seed, I b.cnt])) r (.lst (b.row.map I))
structure BagAt (w : Wp) (a r : Addr) (b : Bag) : Prop where
  at_ : w a = some (.lst [R r, I b.seed, I b.cnt])
  row : w r = some (.lst (b.row.map I))
  ne : a ≠ r
theorem bag_put {w : Wp} {a r : Addr} {b : Bag} (h : a ≠ r) : BagAt (bagPut w a r b) a r b := ⟨by unfold bagPut; rw [wu_ne h, wu_same], by unfold bagPut; rw [wu_same], h⟩
theorem wu_comm {w : Wp} {a r : Addr} {h k : HD} (e : a ≠ r) : wu (wu w a h) r k = wu (wu w r k) a h := by
  funext b
  by_cases h1 : b = r
  · subst h1
    rw [wu_same, wu_ne (fun z => e z.symm), wu_same]
  · rw [wu_ne h1]
    by_cases h2 : b = a
    · subst h2
      rw [wu_same, wu_same]
    · rw [wu_ne h2, wu_ne h2, wu_ne h1]
theorem bag_put2 {w : Wp} {a r : Addr} {b b' : Bag} (h : a ≠ r) : bagPut (bagPut w a r b) a r b' = bagPut w a r b' := by
  unfold bagPut
  rw [wu_comm (w := wu (wu w a _) r _) h, wu_wu, wu_comm (w := wu w a _) h.symm, wu_wu, wu_comm h]
theorem wu_id {w : Wp} {a : Addr} {h : HD} (e : w a = some h) : wu w a h = w := by
  funext b
  by_cases z : b = a
  · rw [z, wu_same, e]
  · rw [wu_ne z]
theorem BagAt.put {w : Wp} {a r : Addr} {b : Bag} (h : BagAt w a r b) : bagPut w a r b = w := by
  unfold bagPut
  rw [wu_id h.at_, wu_id h.row]
def spTake : SpD := fun ds w κ χ => ∃ a r b m, ds = [R a, I m] ∧ BagAt w a r b ∧ (0 < m ∧ m.natAbs.log2 < 9000) ∧ κ (I (take b m).1) (bagPut w a r (take b m).2)
theorem py_ints : ∀ ns : List Int, pyDs (ns.map I) = some (ns.map PyData.int)
  | [] => rfl
  | n :: ns => by
    show ((pyD (I n)).bind fun x => (pyDs (ns.map I)).map fun xs => x :: xs) = _
    rw [py_ints ns]
    rfl
theorem lay_ints : ∀ ns : List Int, PyData.canLayAll0 (ns.map PyData.int) = true
  | [] => rfl
  | n :: ns => by
    show (PyData.canLay0 (.int n) && PyData.canLayAll0 (ns.map PyData.int)) = true
    rw [lay_ints ns]
    rfl
theorem dep_ints : ∀ ns : List Int, PyData.depthAll (ns.map PyData.int) = 0
  | [] => rfl
  | n :: ns => by
    show max (PyData.depth (.int n)) (PyData.depthAll (ns.map PyData.int)) = 0
    rw [dep_ints ns]
    rfl
theorem shaped_ints (ns : List Int) : SeqAt.shaped (.list (ns.map PyData.int)) = true := by
  show (PyData.canLayAll0 (ns.map PyData.int) && decide (PyData.depthAll (ns.map PyData.int) + 1 ≤ 64)) = true
  rw [lay_ints, dep_ints]
  rfl
theorem eqv_nil (ps : List PyData) : PyData.eqv (.list ps) (.list []) = ps.isEmpty := by
  cases ps <;> simp [PyData.eqv, PyData.eqvAll]
structure Nm (mg : Str → Option Value) : Prop where
  int : mg "int" = none
section
variable {P : Program} {w : PySem.World} {K : PySem.W.Frag} {mg : Str → Option Value} {base : Heap} {T : List (Addr × Str)}
theorem scTake : FnScope ["bag", "many", "row", "digit", "mixed"] ["bag", "many"] (defScope sTake) := ⟨rfl, rfl, rfl, by decide +kernel, rfl, by decide +kernel, by decide +kernel⟩
theorem ok_take {f : Addr} {fd : FuncData} (G : Fun K "_law_take" "_law_take" sTake f fd) (hm : Nm mg) : FnOk P w K mg base CX0 1 f fd ["bag", "many"] (spOf K T spTake) := by
  refine fnD G scTake (fun ds w κ χ h => ?_) (fun cdv A outer s H E ds w0 κ χ hr h => ?_)
  · obtain ⟨a, r, b, m, rfl, _⟩ := h
    rfl
  · obtain ⟨a, r, b, m, rfl, hb, hm0, k⟩ := h
    have hu := hr.units
    have nd := scTake.nd
    -- row = bag[0]
    refine pssd_cons (psd_set (i := 2) nd rfl ?_)
    refine pd_ix ix_list ?_
    refine pd_var (i := 0) rfl rfl ?_
    refine pd_int ?_
    refine vr_ixO (i := 0) hb.at_ rfl ?_
    -- if row != []
    refine pssd_cons (psd_if ?_)
    refine ptd_cmp (op_neD hu) ?_
    refine pd_var (i := 2) rfl rfl ?_
    refine pd_lst ?_
    refine pad_nil ?_
    refine ⟨Nat.zero_le _, ?_⟩
    refine vr_neDO hb.row (py_ints _) rfl (shaped_ints _) rfl ?_
    refine ⟨_, rfl, ?_⟩
    rw [eqv_nil]
    cases b with
    | mk row seed cnt =>
      cases row with
      | cons x rest =>
        refine iteT ?_
        have hr0 : w0 r = some (.lst (I x :: rest.map I)) := hb.row
        -- digit = int(row[0]) % many
        refine pssd_cons (psd_set (i := 3) nd rfl ?_)
        refine pd_op op_mod ?_
        refine pd_callTy call_int1 rfl hm.int PyProof.Rows.boot_int ?_
        refine pad_cons ?_
        refine pd_ix ix_list ?_
        refine pd_var (i := 2) rfl rfl ?_
        refine pd_int ?_
        refine vr_ixO (i := 0) hr0 rfl ?_
        refine pad_nil ?_
        refine va_int ?_
        refine pd_var (i := 1) rfl rfl ?_
        refine vr_IC hm0.1 ?_
        -- row[0] = int(row[0]) // many
        refine pssd_cons (psd_sub set_list ?_)
        refine pd_op op_fdivW ?_
        refine pd_callTy call_int1 rfl hm.int PyProof.Rows.boot_int ?_
        refine pad_cons ?_
        refine pd_ix ix_list ?_
        refine pd_var (i := 2) rfl rfl ?_
        refine pd_int ?_
        refine vr_ixO (i := 0) hr0 rfl ?_
        refine pad_nil ?_
        refine va_int ?_
        refine pd_var (i := 1) rfl rfl ?_
        refine vr_IC hm0 ?_
        refine pd_var (i := 2) rfl rfl ?_
        refine pd_int ?_
        refine vr_setO (i := 0) hr0 (Nat.succ_pos _) ?_
        generalize hw1 : wu w0 r (.lst ((I x :: rest.map I).set 0 (D.val (V.int (x / m))))) = w1
        have e1 : w1 r = some (.lst (I (x / m) :: rest.map I)) := by
          rw [← hw1]
          exact wu_same
        -- if row[0] == 0: row.pop(0)
        refine pssd_cons (psd_if ?_)
        refine ptd_cmp op_eq ?_
        refine pd_ix ix_list ?_
        refine pd_var (i := 2) rfl rfl ?_
        refine pd_int ?_
        refine vr_ixO (i := 0) e1 rfl ?_
        refine pd_int ?_
        refine vr_eq rfl ⟨_, rfl, ?_⟩
        refine ite2 (fun c => ?_) (fun c => ?_)
        · have c' : x / m = 0 := V.int.inj (of_decide_eq_true c)
          refine pssd_one (psd_expr ?_)
          refine pd_bm PySem.F.plainAttrs_list PySem.F.slot_list_pop PySem.F.type_list_pop mt_popAt ?_
          refine pd_var (i := 2) rfl rfl ?_
          refine ⟨⟨rfl, _, e1⟩, ?_⟩
          refine pad_cons ?_
          refine pd_int ?_
          refine pad_nil ?_
          refine vm_pop0 e1 ?_
          refine pssd_one (psd_ret ?_)
          refine pd_var (i := 3) rfl rfl ?_
          have e2 : take ⟨x :: rest, seed, cnt⟩ m = (x % m, ⟨rest, seed, cnt⟩) := by
            unfold take
            simp only [c', if_pos]
          rw [e2] at k
          have e3 : wu w1 r (.lst (rest.map I)) = bagPut w0 a r ⟨rest, seed, cnt⟩ := by
            unfold bagPut
            rw [← hw1, wu_wu, wu_id hb.at_]
          rw [e3]
          exact k
        · have c' : ¬ x / m = 0 := fun z => c (decide_eq_true (congrArg V.int z))
          refine pssd_nil ?_
          refine pssd_one (psd_ret ?_)
          refine pd_var (i := 3) rfl rfl ?_
          have e2 : take ⟨x :: rest, seed, cnt⟩ m = (x % m, ⟨x / m :: rest, seed, cnt⟩) := by
            unfold take
            simp only [c', if_neg, not_false_eq_true]
          rw [e2] at k
          have e3 : w1 = bagPut w0 a r ⟨x / m :: rest, seed, cnt⟩ := by
            unfold bagPut
            rw [← hw1, wu_id hb.at_]
            rfl
          rw [e3]
          exact k
      | nil =>
        refine iteF ?_
        refine pssd_nil ?_
        have ha0 : w0 a = some (.lst [R r, I seed, I cnt]) := hb.at_
        -- bag[2] = bag[2] + 1
        refine pssd_cons (psd_sub set_list ?_)
        refine pd_op op_add ?_
        refine pd_ix ix_list ?_
        refine pd_var (i := 0) rfl rfl ?_
        refine pd_int ?_
        refine vr_ixO (i := 2) ha0 rfl ?_
        refine pd_int ?_
        refine vr_I ?_
        refine pd_var (i := 0) rfl rfl ?_
        refine pd_int ?_
        refine vr_setO (i := 2) ha0 (by simp) ?_
        generalize hw1 : wu w0 a (.lst ([R r, I seed, I cnt].set 2 (D.val (V.int (cnt + 1))))) = w1
        have e1 : w1 a = some (.lst [R r, I seed, I (cnt + 1)]) := by
          rw [← hw1]
          exact wu_same
        -- bag[1] = ..
        refine pssd_cons (psd_sub set_list ?_)
        refine pd_op op_mod ?_
        refine pd_callTy call_int1 rfl hm.int PyProof.Rows.boot_int ?_
        refine pad_cons ?_
        refine pd_op op_add ?_
        refine pd_op op_add ?_
        refine pd_op op_mul ?_
        refine pd_ix ix_list ?_
        refine pd_var (i := 0) rfl rfl ?_
        refine pd_int ?_
        refine vr_ixO (i := 1) e1 rfl ?_
        refine pd_int ?_
        refine vr_IC (.inr ⟨by decide, by decide⟩) ?_
        refine pd_op op_mul ?_
        refine pd_ix ix_list ?_
        refine pd_var (i := 0) rfl rfl ?_
        refine pd_int ?_
        refine vr_ixO (i := 2) e1 rfl ?_
        refine pd_int ?_
        refine vr_IC (.inr ⟨by decide, by decide⟩) ?_
        refine vr_I ?_
        refine pd_int ?_
        refine vr_I ?_
        refine pad_nil ?_
        refine va_int ?_
        refine pd_int ?_
        refine vr_IC (by decide) ?_
        refine pd_var (i := 0) rfl rfl ?_
        refine pd_int ?_
        refine vr_setO (i := 1) e1 (by simp) ?_
        generalize hs : (seed * 48271 + (cnt + 1) * 69621 + 7) % 2147483647 = sd
        generalize hw2 : wu w1 a (.lst ([R r, I seed, I (cnt + 1)].set 1 (D.val (V.int sd)))) = w2
        have e2 : w2 a = some (.lst [R r, I sd, I (cnt + 1)]) := by
          rw [← hw2]
          exact wu_same
        -- mixed = ..
        refine pssd_cons (psd_set (i := 4) nd rfl ?_)
        refine pd_op op_mod ?_
        refine pd_callTy call_int1 rfl hm.int PyProof.Rows.boot_int ?_
        refine pad_cons ?_
        refine pd_op op_add ?_
        refine pd_op op_add ?_
        refine pd_op op_mul ?_
        refine pd_ix ix_list ?_
        refine pd_var (i := 0) rfl rfl ?_
        refine pd_int ?_
        refine vr_ixO (i := 1) e2 rfl ?_
        refine pd_int ?_
        refine vr_IC (.inr ⟨by decide, by decide⟩) ?_
        refine pd_op op_fdiv ?_
        refine pd_ix ix_list ?_
        refine pd_var (i := 0) rfl rfl ?_
        refine pd_int ?_
        refine vr_ixO (i := 1) e2 rfl ?_
        refine pd_int ?_
        refine vr_IC ⟨by decide, by decide⟩ ?_
        refine vr_I ?_
        refine pd_op op_mul ?_
        refine pd_ix ix_list ?_
        refine pd_var (i := 0) rfl rfl ?_
        refine pd_int ?_
        refine vr_ixO (i := 2) e2 rfl ?_
        refine pd_int ?_
        refine vr_IC (.inr ⟨by decide, by decide⟩) ?_
        refine vr_I ?_
        refine pad_nil ?_
        refine va_int ?_
        refine pd_int ?_
        refine vr_IC (by decide) ?_
        -- return mixed // 127 % many
        refine pssd_one (psd_ret ?_)
        refine pd_op op_mod ?_
        refine pd_op op_fdiv ?_
        refine pd_var (i := 4) rfl rfl ?_
        refine pd_int ?_
        refine vr_IC ⟨by decide, by decide⟩ ?_
        refine pd_var (i := 1) rfl rfl ?_
        refine vr_IC hm0.1 ?_
        have e4 : take ⟨[], seed, cnt⟩ m = (((sd * 16807 + sd / 4099 + (cnt + 1) * 40692) % 2147483629) / 127 % m, ⟨[], sd, cnt + 1⟩) := by
          rw [← hs]
          rfl
        rw [e4] at k
        have e3 : w2 = bagPut w0 a r ⟨[], sd, cnt + 1⟩ := by
          unfold bagPut
          have hr0 : (wu w0 a (.lst [R r, I sd, I (cnt + 1)])) r = some (.lst (List.map I [])) := by
            rw [wu_ne hb.ne.symm]
            exact hb.row
          rw [wu_id hr0, ← hw2, ← hw1, wu_wu]
          rfl
        rw [e3]
        exact k
end
/-! ### _law_start -/
abbrev sStart : Stmt := top 27
def pos0 (n : Int) : Int := if n ≥ 0 then n else -1 - n
def seeds (ns : List Int) : Int := ns.foldl (fun s c => (s * 48271 + c % 1000003 + 11) % 2147483647) 763268
def start (ns : List Int) : Bag :=
  ⟨((ns.take 63).map pos0).filter (fun c => decide (c ≥ 10 ^ 18)), seeds ((ns.take 63).map pos0), 0⟩
def spStart : SpD := fun ds w κ χ => ∃ ns : List Int, ds = [.rd (ns.map I)] ∧ ∀ a r, w a = none → w r = none → a ≠ r → κ (R a) (bagPut w a r (start ns))
theorem lt_line {n : Nat} (h : n ≤ 1000) : n < sizeLine := small1000 h
section
variable {P : Program} {w : PySem.World} {K : PySem.W.Frag} {mg : Str → Option Value} {base : Heap} {T : List (Addr × Str)}
theorem scStart : FnScope ["script", "cells", "seed", "cell"] ["script"] (defScope sStart) := ⟨rfl, rfl, rfl, by decide +kernel, rfl, by decide +kernel, by decide +kernel⟩
theorem ok_start {f : Addr} {fd : FuncData} (G : Fun K "_law_start" "_law_start" sStart f fd) (hm : Nm mg) : FnOk P w K mg base CX0 1 f fd ["script"] (spOf K T spStart) := by
  refine fnD G scStart (fun ds w κ χ h => ?_) (fun cdv A outer s H E ds w0 κ χ hr h => ?_)
  · obtain ⟨ns, rfl, _⟩ := h
    rfl
  · obtain ⟨ns, rfl, k⟩ := h
    have hu := hr.units
    have nd := scStart.nd
    have hz : (ns.take 63).length ≤ 63 := by
      rw [List.length_take]
      exact Nat.min_le_left _ _
    -- cells = [int(cell) if cell >= 0 else -1 - int(cell) for cell in script[:63]]
    refine pssd_cons ?_
    refine psd_setLc (i := 1) (own := [("cell", 3)]) (is := [3]) rfl nd rfl rfl (sw_true rfl rfl rfl (by decide +kernel)) (blkOk_by (N := ["script", "cells", "seed", "cell"]) (sc := defScope sStart) (by decide +kernel)) (by decide) ?_
    refine it_list ?_
    refine pd_slTo (n := 63) ?_
    refine pd_var (i := 0) rfl rfl ?_
    refine ⟨_, .inr rfl, ?_⟩
    rw [← List.map_take]
    refine ⟨_, rfl, ?_⟩
    refine lcd_map (fun n => I (pos0 n)) (lt_line (by omega)) (fun n hn s H0 C cl fp => ?_) ?_
    · refine pgl_name nd rfl ?_
      intro s H0 C cl fp
      refine ptsd_nil ?_
      refine iteT fun s H0 C cl fp => ?_
      refine pd_if ?_
      refine ptd_cmp op_ge ?_
      refine pd_var (i := 3) rfl rfl ?_
      refine pd_int ?_
      refine vr_I ?_
      refine ⟨_, rfl, ?_⟩
      refine ite2 (fun c => ?_) (fun c => ?_)
      · refine pd_callTy call_int1 rfl hm.int PyProof.Rows.boot_int ?_
        refine pad_cons ?_
        refine pd_var (i := 3) rfl rfl ?_
        refine pad_nil ?_
        refine va_int ?_
        refine ⟨rfl, ?_, rfl⟩
        unfold pos0
        rw [if_pos (of_decide_eq_true c)]
      · refine pd_op op_sub ?_
        refine pd_un un_neg ?_
        refine pd_int ?_
        refine vr_U ?_
        refine pd_callTy call_int1 rfl hm.int PyProof.Rows.boot_int ?_
        refine pad_cons ?_
        refine pd_var (i := 3) rfl rfl ?_
        refine pad_nil ?_
        refine va_int ?_
        refine vr_I ?_
        refine ⟨rfl, ?_, rfl⟩
        unfold pos0
        rw [if_neg (fun z => c (decide_eq_true z))]
    have em : (List.map (fun n => I (pos0 n)) (ns.take 63)) = ((ns.take 63).map pos0).map I := by rw [List.map_map]; rfl
    rw [em]
    have hz2 : ((ns.take 63).map pos0).length ≤ 63 := by rw [List.length_map]; exact hz
    have k2 : ∀ a r, w0 a = none → w0 r = none → a ≠ r → κ (R a) (bagPut w0 a r ⟨((ns.take 63).map pos0).filter (fun c => decide (c ≥ 10 ^ 18)), seeds ((ns.take 63).map pos0), 0⟩) := k
    revert k2 hz2
    generalize (ns.take 63).map pos0 = cs
    intro hz2 k2
    -- seed = 4959
    refine pssd_cons (psd_set (i := 2) nd rfl ?_)
    refine pd_int ?_
    -- for cell in cells
    refine pssd_cons (psd_for PassesOwn.never rfl ?_)
    refine it_list ?_
    refine pd_var (i := 1) rfl rfl ?_
    refine ⟨_, rfl, ?_⟩
    refine ⟨fun i δ' w' => w' = w0 ∧ ∃ y3, δ' = [some (.rd (ns.map I)), some (.lst (cs.map I)), some (I (seeds (cs.take i))), y3], ⟨rfl, none, rfl⟩, ?_, ?_⟩
    · rintro i d δ' w' hd ⟨rfl, y3, rfl⟩
      rw [List.getElem?_map] at hd
      cases e : cs[i]? with
      | none =>
        rw [e] at hd
        cases hd
      | some c =>
        rw [e] at hd
        cases hd
        refine pgd_name (i := 3) nd rfl ?_
        refine pssd_one (psd_set (i := 2) nd rfl ?_)
        refine pd_op op_mod ?_
        refine pd_callTy call_int1 rfl hm.int PyProof.Rows.boot_int ?_
        refine pad_cons ?_
        refine pd_op op_add ?_
        refine pd_op op_add ?_
        refine pd_op op_mul ?_
        refine pd_var (i := 2) rfl rfl ?_
        refine pd_int ?_
        refine vr_IC (.inr ⟨by decide, by decide⟩) ?_
        refine pd_op op_mod ?_
        refine pd_var (i := 3) rfl rfl ?_
        refine pd_int ?_
        refine vr_IC (by decide) ?_
        refine vr_I ?_
        refine pd_int ?_
        refine vr_I ?_
        refine pad_nil ?_
        refine va_int ?_
        refine pd_int ?_
        refine vr_IC (by decide) ?_
        refine ⟨rfl, some (I c), ?_⟩
        have es : seeds (cs.take (i + 1)) = (seeds (cs.take i) * 48271 + c % 1000003 + 11) % 2147483647 := by
          unfold seeds
          rw [List.take_add_one, e, List.foldl_append]
          rfl
        rw [es]
        rfl
    rintro δ' w' ⟨rfl, y3, rfl⟩
    rw [List.length_map, List.take_length]
    -- return [[cell for cell in cells if cell >= 10 ** 18], seed, 0]
    refine pssd_one (psd_ret ?_)
    refine pd_lstO ?_
    refine pad_cons ?_
    refine pd_lcO (own := [("cell", 3)]) (is := [3]) rfl nd (blkOk_by (N := ["script", "cells", "seed", "cell"]) (sc := defScope sStart) (by decide +kernel)) (by decide) ?_
    refine it_list ?_
    refine pd_var (i := 1) rfl rfl ?_
    refine ⟨_, rfl, ?_⟩
    refine lcd_filter (fun c => decide (c ≥ 10 ^ 18)) I (lt_line (by omega)) (fun c hc s H0 C cl fp => ?_) ?_
    · refine pgl_name nd rfl ?_
      intro s H0 C cl fp
      refine ptsd_one ?_
      refine ptd_cmp op_ge ?_
      refine pd_var (i := 3) rfl rfl ?_
      refine pd_op op_pow ?_
      refine pd_int ?_
      refine pd_int ?_
      refine vr_IC ⟨by decide, by decide, by decide⟩ ?_
      refine vr_I ?_
      refine ⟨_, rfl, ?_⟩
      refine ite2 (fun c1 => fun s H0 C cl fp => ?_) (fun c1 => ⟨by simpa using c1, rfl⟩)
      refine pd_var (i := 3) rfl rfl ?_
      exact ⟨c1, rfl, rfl⟩
    intro r hr0
    refine pad_cons ?_
    refine pd_var (i := 2) rfl rfl ?_
    refine pad_cons ?_
    refine pd_int ?_
    refine pad_nil ?_
    refine ⟨by show 3 ≤ sizeLine; decide, fun a ha => ?_⟩
    have ne : a ≠ r := fun z => by
      rw [z, wu_same] at ha
      cases ha
    rw [wu_ne ne] at ha
    have kk := k2 a r ha hr0 ne
    unfold bagPut at kk
    rw [wu_comm ne] at kk
    exact kk
end
end Tw

set_option Elab.async false
set_option linter.all false
set_option maxRecDepth 100000
set_option maxHeartbeats 1000000
namespace Tw
open PySem PySem.Spec PyProof.Rows L2 LamX DL
abbrev sSame : Stmt := top 29
/-- the names that no module binds -/
structure Nm2 (mg : Str → Option Value) : Prop where
  int : mg "int" = none
  str : mg "str" = none
  bool : mg "bool" = none
  list : mg "list" = none
  tuple : mg "tuple" = none
  len : mg "len" = none
  range : mg "range" = none
  enumerate : mg "enumerate" = none
  isinstance : mg "isinstance" = none
theorem Nm2.nm {mg : Str → Option Value} (h : Nm2 mg) : Nm mg := ⟨h.int⟩
theorem bt_int : bootBuiltins "int" = some (.type "int") := by decide +kernel
theorem bt_str : bootBuiltins "str" = some (.type "str") := by decide +kernel
theorem bt_bool : bootBuiltins "bool" = some (.type "bool") := by decide +kernel
theorem bt_list : bootBuiltins "list" = some (.type "list") := by decide +kernel
theorem bt_tuple : bootBuiltins "tuple" = some (.type "tuple") := by decide +kernel
theorem kb_ii : kitB "int" "int" = some true := by decide +kernel
theorem kb_ib : kitB "int" "bool" = some false := by decide +kernel
theorem kb_si : kitB "str" "int" = some false := by decide +kernel
theorem kb_ss : kitB "str" "str" = some true := by decide +kernel
theorem kb_li : kitB "list" "int" = some false := by decide +kernel
theorem kb_ls : kitB "list" "str" = some false := by decide +kernel
theorem kb_ll : kitB "list" "list" = some true := by decide +kernel
theorem kb_lt : kitB "list" "tuple" = some false := by decide +kernel
theorem kb_ti : kitB "tuple" "int" = some false := by decide +kernel
theorem kb_ts : kitB "tuple" "str" = some false := by decide +kernel
theorem kb_tl : kitB "tuple" "list" = some false := by decide +kernel
theorem kb_tt : kitB "tuple" "tuple" = some true := by decide +kernel
/-- the same data; what stands for it may be owned -/
def SmO (w : Wp) (n : Nat) (d e : D) : Prop := Sm n d e ∨ ∃ a xs, d = R a ∧ w a = some (.lst xs) ∧ Sm n (.lst xs) e
def spSame (n : Nat) : SpD := fun ds w κ χ => ∃ d e, ds = [d, e] ∧ (SmO w n d e ∨ ∃ m xs es, n = m + 1 ∧ e = .lst es ∧ Lk w d xs ∧ xs.length = es.length ∧ es.length ≤ sizeLine ∧ ∀ (i : Nat) (x y : D), xs[i]? = some x → es[i]? = some y → SmO w m x y) ∧ κ (B true) w
theorem lt62 {n : Nat} (h : n ≤ sizeLine) : (n : Int) < 2 ^ 62 := by
  have e := sizeLine_eq
  omega
section
variable {P : Program} {w : PySem.World} {K : PySem.W.Frag} {mg : Str → Option Value} {base : Heap} {T : List (Addr × Str)}
theorem scSame : FnScope ["actual", "due", "k"] ["actual", "due"] (defScope sSame) := ⟨rfl, rfl, rfl, by decide +kernel, rfl, by decide +kernel, by decide +kernel⟩
theorem same_step {f : Addr} {fd : FuncData} (G : Fun K "_law_same" "_law_same" sSame f fd) (hm : Nm2 mg) (hf : mg "_law_same" = some (.ref f)) (hb : Binds K fd ["actual", "due"] []) (n : Nat)
    (ih : ∀ m, n = m + 1 → FnOk P w K mg base CX0 n f fd ["actual", "due"] (spOf K T (spSame m))) : FnOk P w K mg base CX0 (n + 1) f fd ["actual", "due"] (spOf K T (spSame n)) := by
  refine fnD G scSame (fun ds w κ χ h => ?_) (fun cdv A outer s H E ds w0 κ χ hr h => ?_)
  · obtain ⟨d, e, rfl, _⟩ := h
    rfl
  obtain ⟨d, e, rfl, h, k⟩ := h
  have hu := hr.units
  have nd := scSame.nd
  have key : ∀ (m : Nat) (xs es : List D), n = m + 1 → e = .lst es → Lk w0 d xs → xs.length = es.length → es.length ≤ sizeLine → (∀ (i : Nat) (x y : D), xs[i]? = some x → es[i]? = some y → SmO w0 m x y) →
      PSsD (cxOf CX0 P w K mg base ["actual", "due", "k"] "_law_same" (defScope sSame) f cdv A outer s H E).nox T Wf noX (defBody sSame) (startD ["actual", "due", "k"] [d, e]) w0 { nx := fun _ w' => κ DL.N w', rt := κ } := by
    intro m xs es en ee hk hl hz it
    subst en ee
    refine pssd_cons (psd_if ?_)
    refine ptd_cmp op_isN ?_
    refine pd_var (i := 1) rfl rfl ?_
    refine pd_non ?_
    refine vr_isN ?_
    refine ⟨_, rfl, ?_⟩
    refine iteF ?_
    refine pssd_nil ?_
    refine pssd_cons (psd_if ?_)
    refine ptd_cmp DL.op_isBl ?_
    refine pd_var (i := 1) rfl rfl ?_
    refine pd_bl ?_
    refine vr_isBl ?_
    refine ⟨_, rfl, ?_⟩
    refine iteF ?_
    refine pssd_nil ?_
    refine pssd_cons (psd_if ?_)
    refine ptd_cmp DL.op_isBl ?_
    refine pd_var (i := 1) rfl rfl ?_
    refine pd_bl ?_
    refine vr_isBl ?_
    refine ⟨_, rfl, ?_⟩
    refine iteF ?_
    refine pssd_nil ?_
    refine pssd_cons (psd_if ?_)
    refine ptd_val ?_
    (refine pd_callB call_isi rfl hm.isinstance PyProof.Rows.boot_isinstance ?_; refine pad_cons ?_; refine pd_var (i := 1) rfl rfl ?_; refine pad_cons ?_; refine pd_bltn (v := .ty "int") hm.int bt_int rfl ?_; refine pad_nil ?_)
    refine va_isi rfl kb_li ?_
    refine ⟨_, rfl, ?_⟩
    refine iteF ?_
    refine pssd_nil ?_
    refine pssd_cons (psd_if ?_)
    refine ptd_val ?_
    (refine pd_callB call_isi rfl hm.isinstance PyProof.Rows.boot_isinstance ?_; refine pad_cons ?_; refine pd_var (i := 1) rfl rfl ?_; refine pad_cons ?_; refine pd_bltn (v := .ty "str") hm.str bt_str rfl ?_; refine pad_nil ?_)
    refine va_isi rfl kb_ls ?_
    refine ⟨_, rfl, ?_⟩
    refine iteF ?_
    refine pssd_nil ?_
    refine pssd_cons (psd_if ?_)
    refine pwd_pt ?_
    refine pwd_and ?_
    refine ptd_val ?_
    (refine pd_callB call_isi rfl hm.isinstance PyProof.Rows.boot_isinstance ?_; refine pad_cons ?_; refine pd_var (i := 1) rfl rfl ?_; refine pad_cons ?_; refine pd_bltn (v := .ty "list") hm.list bt_list rfl ?_; refine pad_nil ?_)
    refine va_isi rfl kb_ll ?_
    refine ⟨_, rfl, ?_⟩
    refine iteT ?_
    refine pwd_and1 ?_
    refine ptd_not ?_
    refine ptd_val ?_
    (refine pd_callB call_isi rfl hm.isinstance PyProof.Rows.boot_isinstance ?_; refine pad_cons ?_; refine pd_var (i := 0) rfl rfl ?_; refine pad_cons ?_; refine pd_bltn (v := .ty "list") hm.list bt_list rfl ?_; refine pad_nil ?_)
    refine va_isiK hk kb_ll ?_
    refine ⟨_, rfl, ?_⟩
    refine iteF ?_
    refine pssd_nil ?_
    refine pssd_cons (psd_if ?_)
    refine pwd_pt ?_
    refine pwd_and ?_
    refine ptd_val ?_
    (refine pd_callB call_isi rfl hm.isinstance PyProof.Rows.boot_isinstance ?_; refine pad_cons ?_; refine pd_var (i := 1) rfl rfl ?_; refine pad_cons ?_; refine pd_bltn (v := .ty "tuple") hm.tuple bt_tuple rfl ?_; refine pad_nil ?_)
    refine va_isi rfl kb_lt ?_
    refine ⟨_, rfl, ?_⟩
    refine iteF ?_
    refine iteF ?_
    refine pssd_nil ?_
    refine pssd_cons (psd_if ?_)
    refine ptd_cmp op_ne ?_
    refine pd_callB call_len_seq rfl hm.len PySem.boot_len ?_
    refine pad_cons ?_
    refine pd_var (i := 0) rfl rfl ?_
    refine pad_nil ?_
    refine va_lenK hk ?_
    refine pd_callB call_len_seq rfl hm.len PySem.boot_len ?_
    refine pad_cons ?_
    refine pd_var (i := 1) rfl rfl ?_
    refine pad_nil ?_
    refine va_len ?_
    refine vr_ne rfl ?_
    refine ⟨_, rfl, ?_⟩
    rw [hl, decide_eq_true rfl]
    refine iteF ?_
    refine pssd_nil ?_
    refine pssd_cons (psd_for PassesOwn.never rfl ?_)
    refine it_range hm.range ?_
    refine pd_callB call_len_seq rfl hm.len PySem.boot_len ?_
    refine pad_cons ?_
    refine pd_var (i := 1) rfl rfl ?_
    refine pad_nil ?_
    refine va_len ?_
    refine ⟨es.length, rfl, lt62 hz, ?_⟩
    refine ⟨fun i δ' w' => w' = w0 ∧ δ'[0]? = some (some (d)) ∧ δ'[1]? = some (some (.lst es)) ∧ δ'.length = 3, ⟨rfl, rfl, rfl, rfl⟩, ?_, ?_⟩
    · rintro i dk δ' w' hd ⟨rfl, h0, h1, h3⟩
      obtain ⟨hi, rfl⟩ := ups_at hd
      have e2 : es[i]? = some es[i] := List.getElem?_eq_getElem hi
      have e1 : xs[i]? = some (xs[i]'(by omega)) := List.getElem?_eq_getElem (by omega)
      have sm := it i _ _ e1 e2
      refine pgd_name (i := 2) nd rfl ?_
      have g0 : (δ'.set 2 (some (I (i : Int))))[0]? = some (some (d)) := by
        rw [List.getElem?_set_ne (by decide)]
        exact h0
      have g1 : (δ'.set 2 (some (I (i : Int))))[1]? = some (some (.lst es)) := by
        rw [List.getElem?_set_ne (by decide)]
        exact h1
      have g2 : (δ'.set 2 (some (I (i : Int))))[2]? = some (some (I (i : Int))) := List.getElem?_set_self (by omega)
      refine pssd_one (psd_if ?_)
      refine ptd_not ?_
      refine ptd_val ?_
      refine pd_call (ih m rfl) hr hf G.kp hb (fun _ => pass0At) ?_
      refine pad_cons ?_
      refine pd_ix ix_list ?_
      refine pd_var (i := 0) rfl g0 ?_
      refine pd_var (i := 2) rfl g2 ?_
      refine vr_ixK hk e1 ?_
      refine pad_cons ?_
      refine pd_ix ix_list ?_
      refine pd_var (i := 1) rfl g1 ?_
      refine pd_var (i := 2) rfl g2 ?_
      refine vr_ixL e2 ?_
      refine pad_nil ?_
      refine ⟨_, _, rfl, .inl sm, ?_⟩
      refine ⟨_, rfl, ?_⟩
      refine iteF ?_
      exact pssd_nil ⟨rfl, g0, g1, by rw [List.length_set]; exact h3⟩
    · rintro δ' w' ⟨rfl, _, _, _⟩
      refine pssd_one (psd_ret ?_)
      refine pd_bl ?_
      exact k
  rcases h with h | h
  case inr =>
    obtain ⟨m, xs, es, en, ee, hk, hl, hz, it⟩ := h
    exact key m xs es en ee hk hl hz it
  rcases h with h | ⟨a, xs, rfl, hw, h⟩
  case inr =>
    cases h with
    | lst hl hz it => exact key _ _ _ rfl rfl (.inr ⟨a, rfl, hw⟩) hl hz fun i x y h1 h2 => .inl (it i x y h1 h2)
  cases h with
  | lst hl hz it => exact key _ _ _ rfl rfl (.inl rfl) hl hz fun i x y h1 h2 => .inl (it i x y h1 h2)
  | non =>
    refine pssd_cons (psd_if ?_)
    refine ptd_cmp op_isN ?_
    refine pd_var (i := 1) rfl rfl ?_
    refine pd_non ?_
    refine vr_isN ?_
    refine ⟨_, rfl, ?_⟩
    refine iteT ?_
    refine pssd_one (psd_ret ?_)
    refine pd_cmp op_isN ?_
    refine pd_var (i := 0) rfl rfl ?_
    refine pd_non ?_
    refine vr_isN ?_
    exact k
  | bl b =>
    cases b
    case true =>
      refine pssd_cons (psd_if ?_)
      refine ptd_cmp op_isN ?_
      refine pd_var (i := 1) rfl rfl ?_
      refine pd_non ?_
      refine vr_isN ?_
      refine ⟨_, rfl, ?_⟩
      refine iteF ?_
      refine pssd_nil ?_
      refine pssd_cons (psd_if ?_)
      refine ptd_cmp DL.op_isBl ?_
      refine pd_var (i := 1) rfl rfl ?_
      refine pd_bl ?_
      refine vr_isBl ?_
      refine ⟨_, rfl, ?_⟩
      refine iteT ?_
      refine pssd_one (psd_ret ?_)
      refine pd_cmp DL.op_isBl ?_
      refine pd_var (i := 0) rfl rfl ?_
      refine pd_bl ?_
      refine vr_isBl ?_
      exact k
    case false =>
      refine pssd_cons (psd_if ?_)
      refine ptd_cmp op_isN ?_
      refine pd_var (i := 1) rfl rfl ?_
      refine pd_non ?_
      refine vr_isN ?_
      refine ⟨_, rfl, ?_⟩
      refine iteF ?_
      refine pssd_nil ?_
      refine pssd_cons (psd_if ?_)
      refine ptd_cmp DL.op_isBl ?_
      refine pd_var (i := 1) rfl rfl ?_
      refine pd_bl ?_
      refine vr_isBl ?_
      refine ⟨_, rfl, ?_⟩
      refine iteF ?_
      refine pssd_nil ?_
      refine pssd_cons (psd_if ?_)
      refine ptd_cmp DL.op_isBl ?_
      refine pd_var (i := 1) rfl rfl ?_
      refine pd_bl ?_
      refine vr_isBl ?_
      refine ⟨_, rfl, ?_⟩
      refine iteT ?_
      refine pssd_one (psd_ret ?_)
      refine pd_cmp DL.op_isBl ?_
      refine pd_var (i := 0) rfl rfl ?_
      refine pd_bl ?_
      refine vr_isBl ?_
      exact k
  | int i =>
    refine pssd_cons (psd_if ?_)
    refine ptd_cmp op_isN ?_
    refine pd_var (i := 1) rfl rfl ?_
    refine pd_non ?_
    refine vr_isN ?_
    refine ⟨_, rfl, ?_⟩
    refine iteF ?_
    refine pssd_nil ?_
    refine pssd_cons (psd_if ?_)
    refine ptd_cmp DL.op_isBl ?_
    refine pd_var (i := 1) rfl rfl ?_
    refine pd_bl ?_
    refine vr_isBl ?_
    refine ⟨_, rfl, ?_⟩
    refine iteF ?_
    refine pssd_nil ?_
    refine pssd_cons (psd_if ?_)
    refine ptd_cmp DL.op_isBl ?_
    refine pd_var (i := 1) rfl rfl ?_
    refine pd_bl ?_
    refine vr_isBl ?_
    refine ⟨_, rfl, ?_⟩
    refine iteF ?_
    refine pssd_nil ?_
    refine pssd_cons (psd_if ?_)
    refine ptd_val ?_
    (refine pd_callB call_isi rfl hm.isinstance PyProof.Rows.boot_isinstance ?_; refine pad_cons ?_; refine pd_var (i := 1) rfl rfl ?_; refine pad_cons ?_; refine pd_bltn (v := .ty "int") hm.int bt_int rfl ?_; refine pad_nil ?_)
    refine va_isi rfl kb_ii ?_
    refine ⟨_, rfl, ?_⟩
    refine iteT ?_
    refine pssd_one (psd_ret ?_)
    refine pd_and ?_
    (refine pd_callB call_isi rfl hm.isinstance PyProof.Rows.boot_isinstance ?_; refine pad_cons ?_; refine pd_var (i := 0) rfl rfl ?_; refine pad_cons ?_; refine pd_bltn (v := .ty "int") hm.int bt_int rfl ?_; refine pad_nil ?_)
    refine va_isi rfl kb_ii ?_
    refine ⟨_, rfl, ?_⟩
    refine iteT ?_
    refine pd_and ?_
    refine pd_not ?_
    (refine pd_callB call_isi rfl hm.isinstance PyProof.Rows.boot_isinstance ?_; refine pad_cons ?_; refine pd_var (i := 0) rfl rfl ?_; refine pad_cons ?_; refine pd_bltn (v := .ty "bool") hm.bool bt_bool rfl ?_; refine pad_nil ?_)
    refine va_isi rfl kb_ib ?_
    refine ⟨_, rfl, ?_⟩
    refine ⟨_, rfl, ?_⟩
    refine iteT ?_
    refine pd_one ?_
    refine pd_cmp op_eq ?_
    refine pd_var (i := 0) rfl rfl ?_
    refine pd_var (i := 1) rfl rfl ?_
    refine vr_eq rfl ?_
    rw [decide_eq_true rfl]
    exact k
  | str x =>
    refine pssd_cons (psd_if ?_)
    refine ptd_cmp op_isN ?_
    refine pd_var (i := 1) rfl rfl ?_
    refine pd_non ?_
    refine vr_isN ?_
    refine ⟨_, rfl, ?_⟩
    refine iteF ?_
    refine pssd_nil ?_
    refine pssd_cons (psd_if ?_)
    refine ptd_cmp DL.op_isBl ?_
    refine pd_var (i := 1) rfl rfl ?_
    refine pd_bl ?_
    refine vr_isBl ?_
    refine ⟨_, rfl, ?_⟩
    refine iteF ?_
    refine pssd_nil ?_
    refine pssd_cons (psd_if ?_)
    refine ptd_cmp DL.op_isBl ?_
    refine pd_var (i := 1) rfl rfl ?_
    refine pd_bl ?_
    refine vr_isBl ?_
    refine ⟨_, rfl, ?_⟩
    refine iteF ?_
    refine pssd_nil ?_
    refine pssd_cons (psd_if ?_)
    refine ptd_val ?_
    (refine pd_callB call_isi rfl hm.isinstance PyProof.Rows.boot_isinstance ?_; refine pad_cons ?_; refine pd_var (i := 1) rfl rfl ?_; refine pad_cons ?_; refine pd_bltn (v := .ty "int") hm.int bt_int rfl ?_; refine pad_nil ?_)
    refine va_isi rfl kb_si ?_
    refine ⟨_, rfl, ?_⟩
    refine iteF ?_
    refine pssd_nil ?_
    refine pssd_cons (psd_if ?_)
    refine ptd_val ?_
    (refine pd_callB call_isi rfl hm.isinstance PyProof.Rows.boot_isinstance ?_; refine pad_cons ?_; refine pd_var (i := 1) rfl rfl ?_; refine pad_cons ?_; refine pd_bltn (v := .ty "str") hm.str bt_str rfl ?_; refine pad_nil ?_)
    refine va_isi rfl kb_ss ?_
    refine ⟨_, rfl, ?_⟩
    refine iteT ?_
    refine pssd_one (psd_ret ?_)
    refine pd_and ?_
    (refine pd_callB call_isi rfl hm.isinstance PyProof.Rows.boot_isinstance ?_; refine pad_cons ?_; refine pd_var (i := 0) rfl rfl ?_; refine pad_cons ?_; refine pd_bltn (v := .ty "str") hm.str bt_str rfl ?_; refine pad_nil ?_)
    refine va_isi rfl kb_ss ?_
    refine ⟨_, rfl, ?_⟩
    refine iteT ?_
    refine pd_one ?_
    refine pd_cmp op_eq ?_
    refine pd_var (i := 0) rfl rfl ?_
    refine pd_var (i := 1) rfl rfl ?_
    refine vr_eq rfl ?_
    rw [decide_eq_true rfl]
    exact k
  | @tup m xs es hl hz it =>
    refine pssd_cons (psd_if ?_)
    refine ptd_cmp op_isN ?_
    refine pd_var (i := 1) rfl rfl ?_
    refine pd_non ?_
    refine vr_isN ?_
    refine ⟨_, rfl, ?_⟩
    refine iteF ?_
    refine pssd_nil ?_
    refine pssd_cons (psd_if ?_)
    refine ptd_cmp DL.op_isBl ?_
    refine pd_var (i := 1) rfl rfl ?_
    refine pd_bl ?_
    refine vr_isBl ?_
    refine ⟨_, rfl, ?_⟩
    refine iteF ?_
    refine pssd_nil ?_
    refine pssd_cons (psd_if ?_)
    refine ptd_cmp DL.op_isBl ?_
    refine pd_var (i := 1) rfl rfl ?_
    refine pd_bl ?_
    refine vr_isBl ?_
    refine ⟨_, rfl, ?_⟩
    refine iteF ?_
    refine pssd_nil ?_
    refine pssd_cons (psd_if ?_)
    refine ptd_val ?_
    (refine pd_callB call_isi rfl hm.isinstance PyProof.Rows.boot_isinstance ?_; refine pad_cons ?_; refine pd_var (i := 1) rfl rfl ?_; refine pad_cons ?_; refine pd_bltn (v := .ty "int") hm.int bt_int rfl ?_; refine pad_nil ?_)
    refine va_isi rfl kb_ti ?_
    refine ⟨_, rfl, ?_⟩
    refine iteF ?_
    refine pssd_nil ?_
    refine pssd_cons (psd_if ?_)
    refine ptd_val ?_
    (refine pd_callB call_isi rfl hm.isinstance PyProof.Rows.boot_isinstance ?_; refine pad_cons ?_; refine pd_var (i := 1) rfl rfl ?_; refine pad_cons ?_; refine pd_bltn (v := .ty "str") hm.str bt_str rfl ?_; refine pad_nil ?_)
    refine va_isi rfl kb_ts ?_
    refine ⟨_, rfl, ?_⟩
    refine iteF ?_
    refine pssd_nil ?_
    refine pssd_cons (psd_if ?_)
    refine pwd_pt ?_
    refine pwd_and ?_
    refine ptd_val ?_
    (refine pd_callB call_isi rfl hm.isinstance PyProof.Rows.boot_isinstance ?_; refine pad_cons ?_; refine pd_var (i := 1) rfl rfl ?_; refine pad_cons ?_; refine pd_bltn (v := .ty "list") hm.list bt_list rfl ?_; refine pad_nil ?_)
    refine va_isi rfl kb_tl ?_
    refine ⟨_, rfl, ?_⟩
    refine iteF ?_
    refine iteF ?_
    refine pssd_nil ?_
    refine pssd_cons (psd_if ?_)
    refine pwd_pt ?_
    refine pwd_and ?_
    refine ptd_val ?_
    (refine pd_callB call_isi rfl hm.isinstance PyProof.Rows.boot_isinstance ?_; refine pad_cons ?_; refine pd_var (i := 1) rfl rfl ?_; refine pad_cons ?_; refine pd_bltn (v := .ty "tuple") hm.tuple bt_tuple rfl ?_; refine pad_nil ?_)
    refine va_isi rfl kb_tt ?_
    refine ⟨_, rfl, ?_⟩
    refine iteT ?_
    refine pwd_and1 ?_
    refine ptd_not ?_
    refine ptd_val ?_
    (refine pd_callB call_isi rfl hm.isinstance PyProof.Rows.boot_isinstance ?_; refine pad_cons ?_; refine pd_var (i := 0) rfl rfl ?_; refine pad_cons ?_; refine pd_bltn (v := .ty "tuple") hm.tuple bt_tuple rfl ?_; refine pad_nil ?_)
    refine va_isi rfl kb_tt ?_
    refine ⟨_, rfl, ?_⟩
    refine iteF ?_
    refine pssd_nil ?_
    refine pssd_cons (psd_if ?_)
    refine ptd_cmp op_ne ?_
    refine pd_callB call_len_seq rfl hm.len PySem.boot_len ?_
    refine pad_cons ?_
    refine pd_var (i := 0) rfl rfl ?_
    refine pad_nil ?_
    refine va_lenT ?_
    refine pd_callB call_len_seq rfl hm.len PySem.boot_len ?_
    refine pad_cons ?_
    refine pd_var (i := 1) rfl rfl ?_
    refine pad_nil ?_
    refine va_lenT ?_
    refine vr_ne rfl ?_
    refine ⟨_, rfl, ?_⟩
    rw [hl, decide_eq_true rfl]
    refine iteF ?_
    refine pssd_nil ?_
    refine pssd_cons (psd_for PassesOwn.never rfl ?_)
    refine it_range hm.range ?_
    refine pd_callB call_len_seq rfl hm.len PySem.boot_len ?_
    refine pad_cons ?_
    refine pd_var (i := 1) rfl rfl ?_
    refine pad_nil ?_
    refine va_lenT ?_
    refine ⟨es.length, rfl, lt62 hz, ?_⟩
    refine ⟨fun i δ' w' => w' = w0 ∧ δ'[0]? = some (some (.tup xs)) ∧ δ'[1]? = some (some (.tup es)) ∧ δ'.length = 3, ⟨rfl, rfl, rfl, rfl⟩, ?_, ?_⟩
    · rintro i dk δ' w' hd ⟨rfl, h0, h1, h3⟩
      obtain ⟨hi, rfl⟩ := ups_at hd
      have e2 : es[i]? = some es[i] := List.getElem?_eq_getElem hi
      have e1 : xs[i]? = some (xs[i]'(by omega)) := List.getElem?_eq_getElem (by omega)
      have sm := it i _ _ e1 e2
      refine pgd_name (i := 2) nd rfl ?_
      have g0 : (δ'.set 2 (some (I (i : Int))))[0]? = some (some (.tup xs)) := by
        rw [List.getElem?_set_ne (by decide)]
        exact h0
      have g1 : (δ'.set 2 (some (I (i : Int))))[1]? = some (some (.tup es)) := by
        rw [List.getElem?_set_ne (by decide)]
        exact h1
      have g2 : (δ'.set 2 (some (I (i : Int))))[2]? = some (some (I (i : Int))) := List.getElem?_set_self (by omega)
      refine pssd_one (psd_if ?_)
      refine ptd_not ?_
      refine ptd_val ?_
      refine pd_call (ih m rfl) hr hf G.kp hb (fun _ => pass0At) ?_
      refine pad_cons ?_
      refine pd_ix ix_tup ?_
      refine pd_var (i := 0) rfl g0 ?_
      refine pd_var (i := 2) rfl g2 ?_
      refine vr_ixT e1 ?_
      refine pad_cons ?_
      refine pd_ix ix_tup ?_
      refine pd_var (i := 1) rfl g1 ?_
      refine pd_var (i := 2) rfl g2 ?_
      refine vr_ixT e2 ?_
      refine pad_nil ?_
      refine ⟨_, _, rfl, .inl (.inl sm), ?_⟩
      refine ⟨_, rfl, ?_⟩
      refine iteF ?_
      exact pssd_nil ⟨rfl, g0, g1, by rw [List.length_set]; exact h3⟩
    · rintro δ' w' ⟨rfl, _, _, _⟩
      refine pssd_one (psd_ret ?_)
      refine pd_bl ?_
      exact k
theorem ok_same {f : Addr} {fd : FuncData} (G : Fun K "_law_same" "_law_same" sSame f fd) (hm : Nm2 mg) (hf : mg "_law_same" = some (.ref f)) (hb : Binds K fd ["actual", "due"] []) : ∀ n : Nat, FnOk P w K mg base CX0 (n + 1) f fd ["actual", "due"] (spOf K T (spSame n))
  | 0 => same_step G hm hf hb 0 fun m h => by cases h
  | n + 1 => same_step G hm hf hb (n + 1) fun m h => by
    cases h
    exact ok_same G hm hf hb n
end
end Tw

set_option Elab.async false
set_option linter.all false
set_option maxRecDepth 100000
set_option maxHeartbeats 1000000
namespace Tw
open PySem PySem.Spec PyProof.Rows L2 LamX DL
/-- the global x is a def that keeps sp -/
def HasF (P : Program) (w : PySem.World) (K : PySem.W.Frag) (mg : Str → Option Value) (base : Heap) (T : List (Addr × Str)) (CX : CXT) (x : Str) (k : Nat) (ps : List Str) (sp : SpD) : Prop :=
  ∃ f fd, FnOk P w K mg base CX k f fd ps (spOf K T sp) ∧ mg x = some (.ref f) ∧ PySem.W.keepIn K (.ref f) = true ∧ Binds K fd ps []
section
variable {X : Cx} {T : List (Addr × Str)} {W : WX} {χ : XD} {δ : Dn} {w : Wp} {pos : Pos}
theorem pd_has {CX : CXT} {k : Nat} {ps : List Str} {sp : SpD} {x : Str} {p : Pos} {e : Expr} {es : List Expr} {κ : D → Wp → Prop} (G : HasF X.prog X.w X.K X.mg X.base T CX x k ps sp) (hr : Room k X.A)
    (hx : ∀ σ, PassesAt CX X σ (WE W σ)) (h : PAD X T W χ (e :: es) δ w fun ds w1 => sp ds w1 κ χ) (hg : Gl X x := by rfl) (hdb : (x == ("__debug__" : Str)) = false := by decide)
    (he : starEach (e :: es) X.env = (false, eval e X.env) :: starEach es X.env := by rfl) (hpl : (backTo pos (starEach es X.env)).any (·.1) = false := by rfl) : PD X T W χ (.Call (.Name x p) (e :: es) [] pos) δ w κ := by
  obtain ⟨f, fd, h1, h2, h3, h4⟩ := G
  exact pd_call h1 hr h2 h3 h4 hx h hg hdb he hpl
theorem take_lt {b : Bag} {m : Int} (h : 0 < m) : 0 ≤ (take b m).1 ∧ (take b m).1 < m := by
  unfold take
  split
  · exact ⟨Int.emod_nonneg _ (by omega), Int.emod_lt_of_pos _ h⟩
  · exact ⟨Int.emod_nonneg _ (by omega), Int.emod_lt_of_pos _ h⟩
/-- _law_take(bag, e) -/
theorem pd_take {x y : Str} {k i : Nat} {p p1 : Pos} {e : Expr} {a r : Addr} {b : Bag} {κ : D → Wp → Prop} (G : HasF X.prog X.w X.K X.mg X.base T CX0 x k ["bag", "many"] spTake) (hr : Room k X.A)
    (hN : X.N[i]? = some y) (hd : δ[i]? = some (some (R a))) (hb : BagAt w a r b) (h : PD X T W χ e δ w fun d w1 => w1 = w ∧ ∃ m, d = I m ∧ 0 < m ∧ m.natAbs.log2 < 9000 ∧ ∀ v b', 0 ≤ v → v < m → κ (I v) (bagPut w a r b'))
    (hg : Gl X x := by rfl) (hdb : (x == ("__debug__" : Str)) = false := by decide)
    (he : starEach [.Name y p1, e] X.env = (false, eval (.Name y p1) X.env) :: starEach [e] X.env := by rfl) (he2 : starEach [e] X.env = (false, eval e X.env) :: starEach [] X.env := by rfl) (hpl : (backTo pos (starEach [e] X.env)).any (·.1) = false := by rfl)
    (hv : Vis X.env.scope y := by first | exact Or.inl rfl | exact Or.inr (Or.inl rfl) | exact Or.inr (Or.inr rfl)) (h1 : (y == ("__debug__" : Str)) = false := by decide) (h2 : (y == ("__classdict__" : Str)) = false := by decide) : PD X T W χ (.Call (.Name x p) [.Name y p1, e] [] pos) δ w κ := by
  refine pd_has G hr (fun _ => pass0At) ?_ hg hdb he hpl
  refine pad_cons (pd_var hN hd ?_ hv h1 h2) he
  refine pad_cons (h.imp ?_) he2
  rintro d w1 ⟨rfl, m, rfl, h3, h4, k⟩
  refine pad_nil ⟨a, r, b, m, rfl, hb, ⟨h3, h4⟩, ?_⟩
  exact k _ _ (take_lt h3).1 (take_lt h3).2
end
theorem log_of {x : Int} (h : x.natAbs < 2 ^ 1000) : x.natAbs.log2 < 1920 := by
  by_cases z : x.natAbs = 0
  · rw [z]
    decide
  · exact Nat.lt_trans ((Nat.log2_lt z).mpr h) (by decide)
end Tw

set_option Elab.async false
set_option linter.all false
set_option maxRecDepth 100000
set_option maxHeartbeats 2000000
/-! Defs whose caller is known to have no guard under way (repr of a list tells its items then); the law's end for such a def. -/
namespace DL
open PySem PySem.Spec PyProof.Rows L2 LamX
/-- as FnOk, but for callers without a guard -/
structure FnG (P : Program) (w : PySem.World) (K : PySem.W.Frag) (mg : Str → Option Value) (base : Heap) (CX : CXT) (k : Nat) (f : Addr) (fd : FuncData) (ps : List Str) (sp : Sp) : Prop where
  len : ∀ vs H Q E, sp vs H Q E → vs.length = ps.length
  go : ∀ (A : Around), A.guards = some [] → ∀ (outer : List Env) (s : Shared) (H : Hp) (args : Args) (us : List Value) (vs : List V) (Q : VK) (E : XK), Room k A → Env0 P w K mg base A outer s H →
    BindsTo s fd args (ps.zip us) → Vals vs us → sp vs H Q E → codeAny (model P w) A (.call (.ref f) args) (CR CX outer P w H s Q E) s
theorem FnG.of {P : Program} {w : PySem.World} {K : PySem.W.Frag} {mg : Str → Option Value} {base : Heap} {CX : CXT} {k : Nat} {f : Addr} {fd : FuncData} {ps : List Str} {sp : Sp} (G : FnOk P w K mg base CX k f fd ps sp) : FnG P w K mg base CX k f fd ps sp :=
  ⟨G.len, fun A _ => G.run A⟩
section
variable {P : Program} {w : PySem.World} {K : PySem.W.Frag} {mg : Str → Option Value} {base : Heap} {T : List (Addr × Str)}
/-- the rule for such a def -/
theorem fnG_of {CX : CXT} {x qual : Str} {st : Stmt} {f : Addr} {fd : FuncData} {N ps : List Str} {k : Nat} {sp : Sp} (D : Fun K x qual st f fd) (S : FnScope N ps (defScope st)) (len : ∀ vs H Q E, sp vs H Q E → vs.length = ps.length)
    (body : ∀ (cdv : Value) (A : Around) (outer : List Env) (s : Shared) (H : Hp) (vs : List V) (Q : VK) (E : XK), A.guards = some [] → Room k (A.deeper (envOfC qual (defScope st) s.heap.objs.size f cdv)) → sp vs H Q E →
      ∃ t, PSs (cxOf CX P w K mg base N qual (defScope st) f cdv A outer s H E) (defBody st) t ∧ t { nx := fun _ H' => Q .non H', rt := Q } (start N vs) H) : FnG P w K mg base CX (k + 1) f fd ps sp := by
  obtain ⟨oc, od, kV, doc, pm, an, cdv, ct, osl, rfl, lk, hcd⟩ := D.ex
  refine ⟨len, fun A hA outer s H args us vs Q E hr e0 hb r hsp => ?_⟩
  refine StX.run_bnd lk hcd S hr e0 (G := fun zs H2 => zs = vs ∧ H2 = H ∧ True) (fun A' Ex Q' hq => hb _ _ _ _ ?_) fun s2 H2 zs z hr2 => ?_
  · exact hq s H vs us e0 Un.refl rfl (fun _ _ z => z) r (len _ _ _ _ hsp) ⟨rfl, rfl, True.intro⟩
  · obtain ⟨rfl, rfl, _⟩ := z
    exact body cdv A outer s2 H2 zs Q E hA hr2 hsp
end

/-! ### the law's end for such a law -/
section
variable {P : Program} {w : PySem.World} {K : PySem.W.Frag} {h : Heap} {Hh : Hp} {a : Addr} {ts : List Addr} {vs : List Value}
/-- the script's list at a and the tables at ts are all that Hh may tell of -/
structure Hid (K : PySem.W.Frag) (h : Heap) (Hh : Hp) (a : Addr) (ts : List Addr) (vs : List Value) : Prop where
  lst : h.get? a = some { cls := .type "list", data := .seq vs.toArray }
  tab : ∀ b ∈ ts, h.get? b = some { cls := .none, data := .fields #[] }
  kin : K.In h
  noK : ∀ b ∈ ts, K.lookup b = none
  two : ∀ b, Hh b ≠ none → (b = a ∧ K.lookup a = none) ∨ b ∈ ts
theorem Hid.out (D : Hid K h Hh a ts vs) {b : Addr} {o : Obj} (e : h.get? b = some o) (n1 : ∀ us m, o.data ≠ .seq us m) (n2 : o.data ≠ .fields #[]) : Hh b = none := by
  refine Classical.byContradiction fun z => ?_
  rcases D.two b z with ⟨rfl, _⟩ | m
  · have q := D.lst.symm.trans e
    exact n1 vs.toArray _ (congrArg Obj.data (Option.some.inj q)).symm
  · have q := (D.tab b m).symm.trans e
    exact n2 (congrArg Obj.data (Option.some.inj q)).symm
theorem Hid.there (D : Hid K h Hh a ts vs) {b : Addr} {o : Obj} (e : h.get? b = some o) (n1 : ∀ us m, o.data ≠ .seq us m) (n2 : o.data ≠ .fields #[]) : (hidT h Hh).get? b = some o := hidT_get e (D.out e n1 n2)
theorem Hid.ns (D : Hid K h Hh a ts vs) {b : Addr} {m : Str → Option Value} (q : h.Ns b m) : (hidT h Hh).Ns b m := by
  obtain ⟨o, es, ep, e, d, r⟩ := q
  refine ⟨o, es, ep, D.there e (fun us m z => ?_) (fun z => ?_), d, r⟩ <;> (rw [d] at z; cases z)
theorem Hid.inK (D : Hid K h Hh a ts vs) : K.In (hidT h Hh) := fun b o e => by
  refine hidT_get (D.kin b o e) (Classical.byContradiction fun z => ?_)
  rcases D.two b z with ⟨rfl, n⟩ | m
  · rw [n] at e
    cases e
  · rw [D.noK b m] at e
    cases e
theorem Hid.tabB (D : Hid K h Hh a ts vs) {mg : Str → Option Value} {c p : Addr} (hp : p ∈ ts) (G : h.Ns mainGlobals mg) (C : PySem.W.CodeHd h c p)
    (B : ∃ (bm : Addr) (ob : Obj), mg "__builtins__" = some (.ref bm) ∧ bm ≠ builtinsNs ∧ h.get? bm = some ob ∧ ob.cls = .type "module" ∧ ob.dict = some builtinsNs ∧ ob.data = .plain) : TabB (hidT h Hh) mg c p := by
  have tp := D.tab p hp
  refine ⟨?_, ?_, ?_⟩
  · obtain ⟨o, us, fi, tf, fl, tg, iF, tx, tt, c1, q1, q2, q3, q4, q5, q6, q7, q8, q9⟩ := C
    refine ⟨o, us, fi, tf, fl, tg, iF, tx, tt, D.there c1 (fun ys m z => ?_) (fun z => ?_), q1, q2, q3, q4, q5, q6, q7, q8, q9⟩
    · rw [q2] at z
      cases z
    · rw [q2] at z
      cases z
      simp at q3
  · obtain ⟨bm, ob, d1, d2, d3, d4, d5, d6⟩ := B
    refine ⟨bm, ob, d1, d2, fun z => ?_, fun z => ?_, D.there d3 (fun ys m y => ?_) (fun y => ?_), d4, d5, d6⟩
    · obtain ⟨o, es, ep, e, dd, _⟩ := G
      rw [z] at d3
      rw [Option.some.inj (d3.symm.trans e)] at d6
      rw [dd] at d6
      cases d6
    · rw [z] at d3
      rw [← Option.some.inj (tp.symm.trans d3)] at d6
      cases d6
    · rw [d6] at y
      cases y
    · rw [d6] at y
      cases y
  · intro z
    obtain ⟨o, es, ep, e, dd, _⟩ := G
    rw [z] at e
    rw [← Option.some.inj (tp.symm.trans e)] at dd
    cases dd
end

open Classical in
/-- what is tracked at the law's start: the script (where K does not tell of it) and the empty tables -/
noncomputable def trk0 (K : PySem.W.Frag) (a : Addr) (ts : List Addr) (vs : List Value) (ns : List Int) : Hp := fun b =>
  if b ∈ ts then some (.tbl #[]) else if b = a ∧ K.lookup a = none then some (.frz { cls := .type "list", data := .seq vs.toArray } (.lst (ns.map V.int))) else none
section
variable {P : Program} {w : PySem.World} {K : PySem.W.Frag} {h : Heap} {a : Addr} {ts : List Addr} {vs : List Value} {ns : List Int}
theorem trk0_tab {b : Addr} (m : b ∈ ts) : trk0 K a ts vs ns b = some (.tbl #[]) := by
  unfold trk0
  rw [if_pos m]
theorem trk0_cases {b : Addr} {u : HO} (e : trk0 K a ts vs ns b = some u) : (b ∈ ts ∧ u = .tbl #[]) ∨ (b = a ∧ K.lookup a = none ∧ u = .frz { cls := .type "list", data := .seq vs.toArray } (.lst (ns.map V.int))) := by
  unfold trk0 at e
  split at e
  · rename_i m
    exact .inl ⟨m, (Option.some.inj e).symm⟩
  · split at e
    · rename_i m
      exact .inr ⟨m.1, m.2, (Option.some.inj e).symm⟩
    · cases e
/-- the end: a law that keeps its promise where no guard is under way -/
theorem law_callG {mg mb : Str → Option Value} {CX : CXT} {k : Nat} {fa : Addr} {cs : List (Addr × Addr)} {fd : FuncData} {x : Str} {sp : Sp} {s₁ : Shared}
    (kin : K.In s₁.heap) (G : s₁.heap.Ns mainGlobals mg) (nb : s₁.heap.Ns builtinsNs mb) (bb : ∀ y : Str, y ≠ "__name__" → mb y = bootBuiltins y) (nl : s₁.heap.NoLimit) (gs : s₁.gens = #[])
    (tb : ∀ p ∈ cs, s₁.heap.get? p.2 = some { cls := .none, data := .fields #[] }) (nk : ∀ p ∈ cs, K.lookup p.2 = none) (cd : ∀ p ∈ cs, PySem.W.CodeHd s₁.heap p.1 p.2)
    (B : ∃ (bm : Addr) (ob : Obj), mg "__builtins__" = some (.ref bm) ∧ bm ≠ builtinsNs ∧ s₁.heap.get? bm = some ob ∧ ob.cls = .type "module" ∧ ob.dict = some builtinsNs ∧ ob.data = .plain)
    (la : s₁.heap.get? a = some { cls := .type "list", data := .seq vs.toArray }) (it : IntsAre vs ns) (sz : ns.length ≤ sizeLine) (room : Room k callerA)
    (F : ∀ base : Heap, K.In base → base.Ns mainGlobals mg → (∀ p ∈ cs, TabB base mg p.1 p.2) → FnG P w K mg base CX k fa fd [x] sp) (bd : ∀ (s : Shared) (u : Value), BindsTo s fd ⟨[u], []⟩ [(x, u)])
    (start : ∀ H : Hp, (∀ p ∈ cs, H p.2 = some (.tbl #[])) → SqL K H a (ns.map V.int) → sp [.ref a] H (fun v _ => v = .bl true) fun _ _ _ => False)
    (noX : ∀ H e s', CX [] H s₁ (fun _ _ _ => False) e s' → False) :
    codeAny (model P w) callerA (.call (.ref fa) ⟨[.ref a], []⟩) (fun r s' => r = .ok (.ret (.bool true)) ∧ OldK s₁.heap s'.heap ∧ s'.os = s₁.os ∧ AllBare s'.gens) s₁ := by
  have rel := vals_ints it
  have many : vs.length = ns.length := it.length
  let ts := cs.map (·.2)
  have inT : ∀ p ∈ cs, p.2 ∈ ts := fun p hp => List.mem_map_of_mem hp
  have tbl : ∀ b ∈ ts, s₁.heap.get? b = some { cls := .none, data := .fields #[] } := fun b hb => by
    obtain ⟨p, hp, rfl⟩ := List.mem_map.mp hb
    exact tb p hp
  have D : Hid K s₁.heap (trk0 K a ts vs ns) a ts vs := ⟨la, tbl, kin, fun b hb => by
    obtain ⟨p, hp, rfl⟩ := List.mem_map.mp hb
    exact nk p hp, fun b hb => by
    cases q : trk0 K a ts vs ns b with
    | none => exact absurd q hb
    | some u =>
      rcases trk0_cases q with ⟨m, _⟩ | ⟨e, m, _⟩
      · exact .inr m
      · exact .inl ⟨e, m⟩⟩
  have nota : a ∉ ts := fun m => by
    have q := la.symm.trans (tbl a m)
    have q2 := congrArg Obj.data (Option.some.inj q)
    cases q2
  have ok : HOk P w (trk0 K a ts vs ns) s₁.heap := fun b u q => by
    rcases trk0_cases q with ⟨m, rfl⟩ | ⟨rfl, _, rfl⟩
    · exact tbl b m
    · exact ⟨la, by rw [List.length_map]; exact sz, vs, _, rel, la⟩
  have sq : SqL K (trk0 K a ts vs ns) a (ns.map V.int) := by
    cases q : K.lookup a with
    | none =>
      refine .inl (.inr ⟨{ cls := .type "list", data := .seq vs.toArray }, ?_⟩)
      unfold trk0
      rw [if_neg nota, if_pos ⟨rfl, q⟩]
    | some o =>
      have e := Option.some.inj (la.symm.trans (kin a o q))
      subst e
      refine .inr ⟨_, vs.toArray, _, q, rfl, rfl, rfl, ?_, ?_⟩
      · rw [List.size_toArray, many]
        exact sz
      · simpa using rel
  obtain ⟨mc, l1, l2⟩ := nl
  have M : L2.Mod K mg (hidT s₁.heap (trk0 K a ts vs ns)) := ⟨D.inK, D.ns G, ⟨mb, D.ns nb, bb⟩, mc, D.ns l1, l2⟩
  have e0 : Env0 P w K mg (hidT s₁.heap (trk0 K a ts vs ns)) callerA [] s₁ (trk0 K a ts vs ns) :=
    { frames := rfl, mod := M, bs := fun b o e => of_hidT e, bsz := Nat.le_of_eq (hidT_size _ _), funs := True.intro, frf := fun b hb => (List.not_mem_nil (show b ∈ ([] : List Addr) from hb)).elim, hok := ok, bare := .of_eq gs }
  have run := (F _ D.inK (D.ns G) fun p hp => D.tabB (inT p hp) G (cd p hp) B).go callerA rfl [] s₁ _ ⟨[.ref a], []⟩ [.ref a] [.ref a] (fun v _ => v = .bl true) (fun _ _ _ => False) room e0 (bd s₁ (.ref a)) (.cons rfl .nil) (start _ (fun p hp => trk0_tab (inT p hp)) sq)
  refine codeAny_mono run fun r s' z => ?_
  match r, z with
  | .error e, z => exact (noX _ e s' z).elim
  | .ok .next, z => exact (show False from z).elim
  | .ok .brk, z => exact (show False from z).elim
  | .ok .cont, z => exact (show False from z).elim
  | .ok (.ret u), z =>
    obtain ⟨v, H', os, bare, un, ok', rv, rfl⟩ := z
    have eu : u = Value.bool true := rv
    subst eu
    have kept : ∀ b o, b ∉ ts → s₁.heap.get? b = some o → s'.heap.get? b = some o := fun b o nm e => by
      cases q : trk0 K a ts vs ns b with
      | none => exact un.keep b o e q List.not_mem_nil List.not_mem_nil
      | some u =>
        rcases trk0_cases q with ⟨m, _⟩ | ⟨rfl, _, rfl⟩
        · exact absurd m nm
        · have g1 := (ok b _ q).1
          have g2 := (ok' b _ (un.frzs b _ _ q)).1
          rw [e] at g1
          rw [g2, ← Option.some.inj g1]
    have more : ∀ b ∈ ts, ∃ ms : Array Value, s'.heap.get? b = some { cls := .none, data := .fields ms } := fun b hb => by
      obtain ⟨ms, q⟩ := un.tbls b #[] (trk0_tab hb)
      exact ⟨_, ok' b _ q⟩
    refine ⟨rfl, ⟨fun b o e => ?_, fun b o e => ?_⟩, os, bare⟩
    · by_cases m : b ∈ ts
      · obtain ⟨ms, q⟩ := more b m
        have eo := Option.some.inj ((tbl b m).symm.trans e)
        subst eo
        obtain ⟨p, hp, rfl⟩ := List.mem_map.mp m
        exact .inr (.inl ⟨((cd p hp).tab (tb p hp)).isCodeTable, rfl, #[], ms, rfl, by rw [Array.empty_append]; exact q⟩)
      · exact .inl (kept b o m e)
    · by_cases m : b ∈ ts
      · obtain ⟨ms, q⟩ := more b m
        exact ⟨_, q⟩
      · exact ⟨o, kept b o m e⟩
/-- what is known of such a law's promise at the head's heap -/
def LawAtG (l : PySem.W.OpenLaw) (w : PySem.World) (K : PySem.W.Frag) (CX : CXT) (k n : Nat) (x : Str) (mg : Str → Option Value) (fa : Addr) (h : Heap) : Prop :=
  ∃ (fd : FuncData) (cs : List (Addr × Addr)) (sp : Sp), ((∀ p ∈ cs, h.get? p.2 = some { cls := .none, data := .fields #[] }) ∧ (∀ p ∈ cs, K.lookup p.2 = none) ∧ ∀ p ∈ cs, PySem.W.CodeHd h p.1 p.2) ∧ (∀ (s : Shared) (u : Value), BindsTo s fd ⟨[u], []⟩ [(x, u)]) ∧
    (∀ (H : Hp) (a : Addr) (ns : List Int), ns.length ≤ n → (∀ p ∈ cs, H p.2 = some (.tbl #[])) → SqL K H a (ns.map V.int) → sp [.ref a] H (fun v _ => v = .bl true) fun _ _ _ => False) ∧
    ∀ base : Heap, K.In base → base.Ns mainGlobals mg → (∀ p ∈ cs, TabB base mg p.1 p.2) → FnG l.prog w K mg base CX k fa fd [x] sp
theorem walk_ofG {l : PySem.W.OpenLaw} {n k : Nat} {q : Program} {loose : List Str} {XP : (Str → Option Value) → Heap → Prop} {YP : PySem.World → Heap → Prop} {d : DefRec} {KK : Params → PySem.W.Frag} {CX : PySem.World → CXT} {x : Str}
    (m1 : l.most = some n) (m2 : n ≤ sizeLine) (nd : d.params.defaults = []) (room : Room k callerA) (inY : ∀ (w : PySem.World) (h : Heap), YP w h → (KK w.params).In h)
    (F : ∀ (w : PySem.World) (mg : Str → Option Value) (fa : Addr) (h : Heap), YP w h → (KK w.params).In h → h.Ns mainGlobals mg → mg d.name = some (.ref fa) → LawAtG l w (KK w.params) (CX w) k n x mg fa h)
    (noX : ∀ (w : PySem.World) (H : Hp) (s : Shared) (e : Value) (s' : Shared), CX w [] H s (fun _ _ _ => False) e s' → False) : PySem.W.WalkO q loose XP YP l.row.toRowW d [] (fun f vs => PySem.call f vs) := by
  refine Att.attach_callB m1 nd fun w s₀ s₁ mg mb fa o pm cd doc a vs ns G Y _ _ _ hmg la it many _ gs => ?_
  have kin := inY w _ Y
  obtain ⟨fd, cs, sp, ⟨tb, nk, cdh⟩, bd, st, hF⟩ := F w mg fa _ Y kin G.T.g hmg
  exact law_callG kin G.T.g G.T.b G.T.builtins G.T.nolimit gs tb nk cdh G.T.bmain la it (Nat.le_trans many m2) room hF bd (fun H hH hS => st H a ns many hH hS) fun H e s' => noX w H s₁ e s'
end
end DL

set_option Elab.async false
set_option linter.all false
set_option maxRecDepth 100000
set_option maxHeartbeats 1000000
/-! == and != by an own method, len by an own method, isinstance of an own class, freezing within an expression. -/
namespace DL
open PySem PySem.Spec PyProof.Rows L2 LamX
/-- an own class as isinstance and type(..) see it -/
structure ClsI (K : PySem.W.Frag) (C : Addr) : Prop where
  cl : Cls K C
  cc : PySem.W.findIn K (.ref C) "__class__" = some (some (.builtin "object.__class__"))
  cg : PySem.W.specialIn K (.builtin "object.__class__") "__get__" = some (some (.builtin "getset_descriptor.__get__"))
  ct : PySem.W.takesIn K (.builtin "object.__class__") = some true
  mo : PySem.W.mroIn K C (.type "object") = some true
/-- the type of a datum, own classes too -/
def TyDD (K : PySem.W.Frag) (d : D) (t : Value) : Prop := (∃ n, tyD d = some n ∧ t = .type n) ∨ ∃ C ns ds, d = .obj C ns ds ∧ ClsI K C ∧ t = .ref C
theorem TyDD.tyx {K : PySem.W.Frag} {T : List (Addr × Str)} {w : Wp} {S F H : Hp} {d : D} {t : Value} {x : V} (h : TyDD K d t) (hW : World K T S w F H) (r : Rep K S d x) : TyX K H x t := by
  rcases h with ⟨n, h1, rfl⟩ | ⟨C, ns, ds, rfl, c, rfl⟩
  · exact DL.tyx hW h1 r
  · obtain ⟨a, dx, ys, rfl, h1, _, _⟩ := r
    exact .base (.ins (hW.same _ _ h1) c.cl c.cc c.cg c.ct c.mo)
section
variable {X : Cx}
def rOwn (C : Addr) (sp : Sp) : R2 := fun x y H Q => ∃ a dx fs t, x = .ref a ∧ H a = some (.ins C dx fs) ∧ TyX X.K H y t ∧ PySem.W.notFirst X.K C t = true ∧ sp [x, y] H (fun v H' => ∃ b, v = .bl b ∧ Q v H') E0
theorem op_own {op : CmpOp} {C f : Addr} {fd : FuncData} {ps : List Str} {k : Nat} {sp : Sp} (hop : ∀ a b, compareOp op a b = richCompare op a b) (G : FnOk X.prog X.w X.K X.mg X.base CX0 k f fd ps sp) (hr : Room k X.A) (hs : PySem.W.findIn X.K (.ref C) (cmpInfo op).2.1 = some (some (.ref f))) (hf : PySem.W.isFn X.K (.ref f) = true) (hb : Binds X.K fd ps []) :
    OpR X (compareOp op) (rOwn (X := X) C sp) := by
  intro pins s σ H x y v u Q I rx ry h
  obtain ⟨a, dx, fs, t, rfl, ha, ty, nf, hsp⟩ := h
  cases rx
  obtain ⟨mA, J, _⟩ := ins_get I.hok ha
  obtain ⟨od, J, _⟩ := J.look
  obtain ⟨m, hF⟩ := I.fr
  obtain ⟨Pz, Z, p, _⟩ := kit_of I ry ty
  show wpAny (model X.prog X.w) X.A (compareOp op (.ref a) u) (EP X pins σ Q) X.xe s
  rw [hop]
  refine PySem.W.cmp_K (op := op) (tb := t) hr.units0 hF I.ok.mod.kin J (Z.ty _ _ I.kIn p) nf hs hf ?_
  have r2 : Vals [V.ref a, y] [Value.ref a, u] := .cons rfl (.cons ry .nil)
  have q := run_fnSD (σ := σ) (E := fun _ => E0) (dvs := []) (ds := []) G hr hb .nil pass0At I r2 (by rw [List.append_nil]; exact hsp)
  refine thn q fun r s' z => ?_
  obtain ⟨v', H', I', rv, ⟨b, rfl, q⟩⟩ := z
  cases rv
  exact ⟨.bl b, H', I', rfl, q⟩
/-- len(x), x an instance with an own __len__ -/
theorem call_lenOwn {C f : Addr} {fd : FuncData} {ps : List Str} {k : Nat} {sp : Sp} (G : FnOk X.prog X.w X.K X.mg X.base CX0 k f fd ps sp) (hr : Room (k + 1) X.A) (hs : PySem.W.findIn X.K (.ref C) "__len__" = some (some (.ref f))) (hf : PySem.W.isFn X.K (.ref f) = true) (hb : Binds X.K fd ps []) :
    CallR X (.builtin "len") (fun xs H Q => ∃ a dx fs, xs = [.ref a] ∧ H a = some (.ins C dx fs) ∧ sp [.ref a] H (fun v H' => ∃ n : Int, v = .int n ∧ 0 ≤ n ∧ n < 2 ^ 63 ∧ Q v H') E0) := by
  intro pins s σ H xs us Q I r h
  obtain ⟨a, dx, fs, rfl, ha, hsp⟩ := h
  obtain ⟨u, rfl, rx⟩ := vals1 r
  cases (show u = Value.ref a from rx)
  obtain ⟨mA, J, _⟩ := ins_get I.hok ha
  obtain ⟨od, J, _⟩ := J.look
  obtain ⟨m, hF⟩ := I.fr
  refine PySem.W.len_K hF I.ok.mod.kin J hs hf ?_
  have r2 : Vals [V.ref a] [Value.ref a] := .cons rfl .nil
  have hl : ([Value.ref a] ++ []).length = ps.length := by
    have e := r2.length
    rw [G.len _ _ _ _ hsp] at e
    rw [List.append_nil]
    exact e.symm
  have bb := hb s [Value.ref a] I.kIn hl
  rw [List.append_nil] at bb
  refine wpAny_call (codeAny_mono (G.run X.A.in1 X.stack s H ⟨[.ref a], []⟩ [.ref a] [.ref a] _ E0 hr.in1 I.env0.in1 bb r2 hsp) fun r s' hq => ?_)
  cases r with
  | error e => exact hq.elim
  | ok fl =>
    cases fl with
    | ret u =>
      obtain ⟨v', H', I', rv, n, rfl, h0, h1, q⟩ := I.after hq
      obtain ⟨t, rfl⟩ := rv
      exact ⟨⟨h0, h1⟩, .int n, H', I'.tok _, ⟨_, rfl⟩, q⟩
    | next => exact False.elim hq
    | brk => exact False.elim hq
    | cont => exact False.elim hq
end
section
variable {X : Cx} {T : List (Addr × Str)} {W : WX} {χ : XD} {δ : Dn} {w : Wp} {pos : Pos}
/-- == by the own method, in data -/
theorem vr_own {C : Addr} {sp : SpD} {d e : D} {t : Value} {κ : D → Wp → Prop} (hd : ∃ ns ds, d = .obj C ns ds) (he : TyDD X.K e t) (nf : PySem.W.notFirst X.K C t = true) (h : sp [d, e] w (fun d' w' => ∃ b, d' = B b ∧ κ d' w') noX) :
    VR2 X.K T (rOwn (X := X) C (spOf X.K T sp)) d e w κ := fun F S H x y Q hW r1 r2 hK => by
  obtain ⟨ns, ds, rfl⟩ := hd
  obtain ⟨a, dx, ys, rfl, h1, h2, h3⟩ := id r1
  refine ⟨a, dx, ys, t, rfl, hW.same _ _ h1, he.tyx hW r2, nf, [.obj C ns ds, e], w, F, S, _, noX, h, ⟨_, _, rfl, r1, _, _, rfl, r2, rfl⟩, hW, ?_, fun _ _ _ _ _ _ _ z => z.elim⟩
  rintro d' w' v S' H' ⟨b, rfl, k⟩ s1 W1 r
  have r' : v = .bl b := r
  exact ⟨b, r', hK _ w' v S' H' k s1 W1 r⟩
theorem va_lenOwn {C : Addr} {sp : SpD} {d : D} {κ : D → Wp → Prop} (hd : ∃ ns ds, d = .obj C ns ds) (h : sp [d] w (fun d' w' => ∃ n : Int, d' = I n ∧ 0 ≤ n ∧ n < 2 ^ 63 ∧ κ d' w') noX) :
    VRA X.K T (fun xs H Q => ∃ a dx fs, xs = [.ref a] ∧ H a = some (.ins C dx fs) ∧ spOf X.K T sp [.ref a] H (fun v H' => ∃ n : Int, v = .int n ∧ 0 ≤ n ∧ n < 2 ^ 63 ∧ Q v H') E0) [d] w κ := fun F S H xs Q hW r1 hK => by
  obtain ⟨ns, ds, rfl⟩ := hd
  obtain ⟨y, zs, rfl, r2, r3⟩ := r1
  have r3' : zs = [] := r3
  subst r3'
  obtain ⟨a, dx, ys, rfl, h1, h2, h3⟩ := id r2
  refine ⟨a, dx, ys, rfl, hW.same _ _ h1, [.obj C ns ds], w, F, S, _, noX, h, ⟨_, _, rfl, r2, rfl⟩, hW, ?_, fun _ _ _ _ _ _ _ z => z.elim⟩
  rintro d' w' v S' H' ⟨n, rfl, h0, h1, k⟩ s1 W1 r
  have r' : v = .int n := r
  exact ⟨n, r', h0, h1, hK _ w' v S' H' k s1 W1 r⟩
/-- isinstance(x, C), C an own class -/
theorem va_isC {C : Addr} {d : D} {t : Value} {b : Bool} {κ : D → Wp → Prop} (ht : TyDD X.K d t) (hk : PySem.W.kitOne X.K t (.ref C) = some b) (k : κ (B b) w) : VRA X.K T (rIsi X.K) [d, R C] w κ := fun F S H xs Q hW r hK => by
  obtain ⟨x, ys, rfl, h1, y, zs, rfl, h2, h3⟩ := r
  have h2' : y = .ref C := h2
  have h3' : zs = [] := h3
  subst h2' h3'
  exact ⟨x, .ref C, t, .ref C, b, rfl, .own C, ht.tyx hW h1, hk, hK _ w _ S H k (Same.refl _) hW rfl⟩
/-- an owned list stands from now on, within an expression -/
theorem pd_frz {e : Expr} {κ : D → Wp → Prop} (h : PD X T W χ e δ w fun d w1 => ∃ a ds, d = R a ∧ w1 a = some (.lst ds) ∧ κ (.lst ds) (wd w1 a)) : PD X T W χ e δ w κ := fun F σ S H Q hE hW hX hK =>
  h F σ S H Q hE hW hX fun d w1 v S1 H1 k s1 W1 r => by
    obtain ⟨a, ds, rfl, hw, k⟩ := k
    obtain ⟨o, e1, r1, W2⟩ := W1.freeze hw
    obtain ⟨xs, rfl, r1⟩ := r1
    have s2 : Same S1 (upd S1 a (.lst xs)) := same_upd e1
    have r' : v = .ref a := r
    exact hK _ _ v _ H1 k (s1.trans s2) W2 ⟨a, xs, r', upd_same, r1.mono s2⟩
end
end DL

set_option Elab.async false
set_option linter.all false
set_option maxRecDepth 100000
set_option maxHeartbeats 2000000
/-! The text of a list of ints (by repr, str, an f-string) where no guard is under way; str(x), repr(x) by own methods. -/
namespace DL
open PySem PySem.Spec PyProof.Rows L2 LamX
def lText (ns : List Int) : Str := listText (ns.map fun i => (toString i : Str))
section
variable {X : Cx} {pins : List (Addr × Obj)} {σ : L2.St} {H : Hp} {s : Shared}
/-- list.__repr__ of ints -/
theorem rep_ints {A : Around} {E : Value → Shared → Prop} {a : Addr} {ns : List Int} {Q : Value → Shared → Prop} (hg : A.guards = some []) (I : Inv X pins σ H s) (h : SqL X.K H a (ns.map V.int)) (h0 : ns ≠ []) (hb : ∀ n ∈ ns, n.natAbs.log2 < 1920) (hz : (lText ns).length ≤ sizeLine)
    (q : ∀ u h' tk, Inv X pins σ H { s with heap := h', toks := tk } → Q (.str (lText ns) u) { s with heap := h', toks := tk }) : wpAny (model X.prog X.w) A (call (.builtin "list.__repr__") [.ref a]) Q E s := by
  obtain ⟨its, r, ⟨o, n, ho, hc, hd0, hd⟩, _⟩ := I.list h
  have hl := r.length
  rw [List.length_map] at hl
  cases its with
  | nil => exact absurd (List.eq_nil_of_length_eq_zero hl) h0
  | cons x l =>
    refine call_list_repr (oa := o) (x := x) (l := l) (na := n) (ts := ns.map fun i => (toString i : Str)) ⟨o, ho, hc⟩ hg (fun v rest kw m => absurd m List.not_mem_nil) ho hd ?_ (fun i y e => ?_) (fun h' u tk k => q u h' tk (I.kept k)) hz
    · rw [List.length_map, List.size_toArray]
      exact hl
    · rw [List.getElem?_toArray] at e
      have hi : i < ns.length := by
        rw [hl]
        exact (List.getElem?_eq_some_iff.mp e).1
      refine ⟨(toString ns[i] : Str), by rw [List.getElem?_map, List.getElem?_eq_getElem hi]; rfl, ?_⟩
      obtain ⟨u, hu, ru⟩ := r.get (show (ns.map V.int)[i]? = some (V.int ns[i]) by rw [List.getElem?_map, List.getElem?_eq_getElem hi]; rfl)
      rw [hu] at e
      cases e
      obtain ⟨t, rfl⟩ := ru
      exact ReprIs.int t (hb _ (List.getElem_mem hi))

/-- str(v), v no text -/
theorem str_via {prog : Program} {w : PySem.World} {A : Around} {E : Value → Shared → Prop} {v : Value} {Q : Value → Shared → Prop} {s : Shared}
    (h : wpAny (model prog w) A.in1.in1 (Builtin.Str.strOf v) (fun r s1 => s1.TypeIs r "str" ∧ Q r s1) E s) : wpAny (model prog w) A (call (.type "str") [v]) Q E s := by
  have m : MeetsIn prog w (Builtin.«str.__new__» ⟨[.type "str", v], []⟩) (fun A R s => wpAny (model prog w) A.in1 (Builtin.Str.strOf v) (fun r s' => R (.ok (.ret r)) s') (fun e s' => R (.error e) s') s) := .of_wp fun A R s h => by
    rw [str_new_tree v]
    refine wpAny_bind (wpAny_pure ?_)
    refine wpAny_bind (wpAny_of_eq isSubtype_str_str ?_)
    exact wpAny_bind (wpAny_mono h (fun r s' h' => wpAny_pure ⟨_, rfl, h'⟩) fun _ _ e => e)
  exact callType_newIn PySem.F.called_str (by decide) (PySem.F.typeCall_str_1 _) (PySem.F.newCall_str_1 _) (fun obj => PySem.F.args_object_init_2 obj _) PySem.F.entry_str_new m h
abbrev rStrL (K : PySem.W.Frag) : List V → Hp → VK → Prop := fun xs H Q => ∃ a ns, xs = [.ref a] ∧ SqL K H a (ns.map V.int) ∧ ns ≠ [] ∧ (∀ n ∈ ns, n.natAbs.log2 < 1920) ∧ (lText ns).length ≤ sizeLine ∧ Q (.str (lText ns)) H
/-- str(xs), xs a list of ints -/
theorem call_strL (hg : X.A.guards = some []) (hu : X.A.units + 65 < cLine) : CallR X (.type "str") (rStrL X.K) := by
  intro pins s σ H xs us Q I r h
  obtain ⟨a, ns, rfl, hs, h0, hb, hz, q⟩ := h
  obtain rfl := Vals.ref1 r
  have ty : s.TypeIs (.ref a) "list" := by
    obtain ⟨its, rv, ⟨o, n, ho, hc, _, _⟩, _⟩ := I.list hs
    exact ⟨o, ho, hc⟩
  refine str_via (wpAny_strOf_slot (T := "list") rfl (by show X.A.units + 1 + 1 + 1 < cLine; omega) ty PySem.F.slot_list_str PySem.F.slot_list_repr.toG ?_)
  refine rep_ints hg I hs h0 hb hz fun u h' tk I1 => ⟨_, _, rfl, ?_, ?_⟩
  · exact typeIs_str _ _ _
  · exact ⟨.str (lText ns), H, I1, ⟨_, rfl⟩, q⟩
/-- {xs} in an f-string -/
def tFmtL (K : PySem.W.Frag) (te : TE) : TE := fun σ H Q => te σ H fun x H1 => ∃ a ns, x = .ref a ∧ SqL K H1 a (ns.map V.int) ∧ ns ≠ [] ∧ (∀ n ∈ ns, n.natAbs.log2 < 1920) ∧ (lText ns).length ≤ sizeLine ∧ Q (.str (lText ns)) H1
theorem pe_fmtL {e : Expr} {te : TE} {pos : Pos} (hg : X.A.guards = some []) (hu : X.A.units + 65 < cLine) (he : PE X e te) : PE X (.FormattedValue e (-1) none pos) (tFmtL X.K te) := by
  refine ⟨fun pins s σ H Q I h => ?_⟩
  refine wpAny_FormattedValue_plain (thn (he.run pins s σ H _ I h) fun v s1 hv => ?_)
  obtain ⟨x, H1, I1, rx, a, ns, rfl, hs, h0, hb, hz, q⟩ := hv
  cases rx
  have ty : s1.TypeIs (.ref a) "list" := by
    obtain ⟨its, rv, ⟨o, n, ho, hc, _, _⟩, _⟩ := I1.list hs
    exact ⟨o, ho, hc⟩
  refine wpAny_formatField_slot (T := "list") (fun _ _ => nofun) (by omega) ty PySem.F.slot_list_format PySem.F.slot_list_str PySem.F.slot_list_repr.toG ?_
  refine rep_ints (s := { s1 with toks := s1.toks + 1 }) hg (I1.tok _) hs h0 hb hz fun u h' tk I2 => ⟨_, _, rfl, ?_⟩
  exact ⟨.str (lText ns), H1, I2, ⟨_, rfl⟩, q⟩
/-- str(x), x an instance with an own __str__ -/
theorem call_strOwn {C f : Addr} {fd : FuncData} {ps : List Str} {k : Nat} {sp : Sp} (G : FnOk X.prog X.w X.K X.mg X.base CX0 k f fd ps sp) (hr : Room (k + 2) X.A) (hs : PySem.W.findIn X.K (.ref C) "__str__" = some (some (.ref f))) (hf : PySem.W.isFn X.K (.ref f) = true) (hb : Binds X.K fd ps []) :
    CallR X (.type "str") (fun xs H Q => ∃ a dx fs, xs = [.ref a] ∧ H a = some (.ins C dx fs) ∧ sp [.ref a] H (fun v H' => ∃ z : Str, v = .str z ∧ Q v H') E0) := by
  intro pins s σ H xs us Q I r h
  obtain ⟨a, dx, fs, rfl, ha, hsp⟩ := h
  obtain ⟨u, rfl, rx⟩ := vals1 r
  cases (show u = Value.ref a from rx)
  obtain ⟨mA, J, _⟩ := ins_get I.hok ha
  obtain ⟨od, J, _⟩ := J.look
  have hu := hr.units
  refine str_via ?_
  unfold Builtin.Str.strOf
  refine wpAny_bind (m := cRoomFor _ _) (wpAny_cRoomFor (by show X.A.units + 1 + 1 < cLine; omega) ?_)
  refine wpAny_bind (m := callSpecial? (.ref a) (Str.ofString "__str__")) (PySem.W.special_fn I.kIn J hs (beq_iff_eq.mp hf) ?_)
  have r2 : Vals [V.ref a] [Value.ref a] := .cons rfl .nil
  have hl : ([Value.ref a] ++ []).length = ps.length := by
    have e := r2.length
    rw [G.len _ _ _ _ hsp] at e
    rw [List.append_nil]
    exact e.symm
  have bb := hb s [Value.ref a] I.kIn hl
  rw [List.append_nil] at bb
  refine wpAny_call (codeAny_mono (G.run X.A.in1.in1 X.stack s H ⟨[.ref a], []⟩ [.ref a] [.ref a] _ E0 hr.in1.in1 I.env0.in1.in1 bb r2 hsp) fun r s' hq => ?_)
  cases r with
  | error e => exact hq.elim
  | ok fl =>
    cases fl with
    | ret u =>
      obtain ⟨v', H', I', rv, z, rfl, q⟩ := I.after hq
      obtain ⟨t, rfl⟩ := rv
      refine wpAny_bind (wpAny_pure ?_)
      exact wpAny_pure ⟨typeIs_str _ _ _, .str z, H', I', ⟨_, rfl⟩, q⟩
    | next => exact False.elim hq
    | brk => exact False.elim hq
    | cont => exact False.elim hq
/-- repr(x), x an instance with an own __repr__ that wants no guard -/
theorem call_reprOwn {C f : Addr} {fd : FuncData} {ps : List Str} {k : Nat} {sp : Sp} (G : FnG X.prog X.w X.K X.mg X.base CX0 k f fd ps sp) (hg : X.A.guards = some []) (hr : Room (k + 1) X.A) (hs : PySem.W.findIn X.K (.ref C) "__repr__" = some (some (.ref f))) (hf : PySem.W.isFn X.K (.ref f) = true) (hb : Binds X.K fd ps []) :
    CallR X (.builtin "repr") (fun xs H Q => ∃ a dx fs, xs = [.ref a] ∧ H a = some (.ins C dx fs) ∧ sp [.ref a] H (fun v H' => ∃ z : Str, v = .str z ∧ Q v H') E0) := by
  intro pins s σ H xs us Q I r h
  obtain ⟨a, dx, fs, rfl, ha, hsp⟩ := h
  obtain ⟨u, rfl, rx⟩ := vals1 r
  cases (show u = Value.ref a from rx)
  obtain ⟨mA, J, _⟩ := ins_get I.hok ha
  obtain ⟨od, J, _⟩ := J.look
  obtain ⟨m, hF⟩ := I.fr
  have hu := hr.units
  refine PySem.W.repr_K (by show X.A.units + 1 < cLine; omega) hF I.ok.mod.kin J hs hf ?_
  have r2 : Vals [V.ref a] [Value.ref a] := .cons rfl .nil
  have hl : ([Value.ref a] ++ []).length = ps.length := by
    have e := r2.length
    rw [G.len _ _ _ _ hsp] at e
    rw [List.append_nil]
    exact e.symm
  have bb := hb s [Value.ref a] I.kIn hl
  rw [List.append_nil] at bb
  refine wpAny_call (codeAny_mono (G.go X.A.in1 hg X.stack s H ⟨[.ref a], []⟩ [.ref a] [.ref a] _ E0 hr.in1 I.env0.in1 bb r2 hsp) fun r s' hq => ?_)
  cases r with
  | error e => exact hq.elim
  | ok fl =>
    cases fl with
    | ret u =>
      obtain ⟨v', H', I', rv, z, rfl, q⟩ := I.after hq
      obtain ⟨t, rfl⟩ := rv
      exact ⟨.str z, H', I', ⟨_, rfl⟩, q⟩
    | next => exact False.elim hq
    | brk => exact False.elim hq
    | cont => exact False.elim hq
/-- f(e, ..), f a def that wants no guard -/
theorem pe_callG {CX : CXT} {k : Nat} {f : Addr} {fd : FuncData} {ps : List Str} {sp : Sp} {E : L2.St → XK} {x : Str} {p pos : Pos} {e : Expr} {es : List Expr} {t : TA} (G : FnG X.prog X.w X.K X.mg X.base CX k f fd ps sp) (hg0 : X.A.guards = some []) (hr : Room k X.A) (hg : Gl X x) (hm : X.mg x = some (.ref f)) (hk : PySem.W.keepIn X.K (.ref f) = true) (hb : Binds X.K fd ps []) (hx : ∀ σ, PassesAt CX X σ (E σ))
    (ha : PA X (e :: es) t) (hdb : (x == ("__debug__" : Str)) = false := by decide) (he : starEach (e :: es) X.env = (false, eval e X.env) :: starEach es X.env := by rfl) (hpl : (backTo pos (starEach es X.env)).any (·.1) = false := by rfl) :
    PE X (.Call (.Name x p) (e :: es) [] pos) (fun σ H Q => t σ H fun vs H1 => sp vs H1 Q (E σ)) := by
  refine ⟨fun pins s σ H Q I h => ?_⟩
  refine wpAny_Call_Name_kw (ld_glob I hg hm ?_ hdb)
  refine PySem.W.callWith_K (h₀ := X.base) I.ok.mod.kin hk (thn (ha.run pos pins s σ H _ I h) fun us s1 ⟨vs, H1, I1, r, q⟩ => ⟨I1.kIn, ?_⟩) he hpl
  have hl : (us ++ []).length = ps.length := by
    have e := r.length
    rw [G.len _ _ _ _ q] at e
    rw [List.append_nil]
    exact e.symm
  have bb := hb s1 us I1.kIn hl
  rw [List.append_nil] at bb
  refine wpAny_call (codeAny_mono (G.go X.A hg0 X.stack s1 H1 ⟨us, []⟩ us vs Q (E σ) hr I1.env0 bb r q) fun r s' hq => ?_)
  cases r with
  | error e => exact hx σ _ H1 s1 e s' I1 hq
  | ok fl =>
    cases fl with
    | ret u => exact I1.after hq
    | next => exact False.elim hq
    | brk => exact False.elim hq
    | cont => exact False.elim hq
end
end DL

set_option Elab.async false
set_option linter.all false
set_option maxRecDepth 100000
set_option maxHeartbeats 1000000
/-! while, in data. -/
namespace DL
open PySem PySem.Spec PyProof.Rows L2 LamX
section
variable {X : Cx} {T : List (Addr × Str)} {W : WX} {χ : XD} {δ : Dn} {w : Wp} {pos : Pos}
theorem psd_while {c : Expr} {body : List Stmt} {C : Fin} (hp : PassesOwn (model X.prog X.w) X.A X.env X.xe) (Pv : Nat → Dn → Wp → Prop) (h0 : ∃ m, Pv m δ w)
    (turn : ∀ m δ' w', Pv m δ' w' → PTD X T W χ c δ' w' fun b w1 => if b = true then PSsD X T W χ body δ' w1 { nx := fun δ2 w2 => ∃ m', m' < m ∧ Pv m' δ2 w2, rt := C.rt, bk := C.nx, ct := fun δ2 w2 => ∃ m', m' < m ∧ Pv m' δ2 w2 } else C.nx δ' w1) :
    PSD X T W χ (.While c body [] pos) δ w C := fun F σ S H E hE hW hX hK => by
  refine wp_ps (ps_while hp (pt_wp c) (pss_wp body)) ?_
  obtain ⟨m0, p0⟩ := h0
  refine ⟨fun m σ' H' => ∃ δ' w' S', Pv m δ' w' ∧ Same S S' ∧ EnvD X.K S' δ' σ' ∧ World X.K T S' w' F H', ⟨m0, δ, w, S, p0, Same.refl _, hE, hW⟩, ?_⟩
  rintro m σ' H' ⟨δ', w', S', pv, s1, hE1, W1⟩
  refine turn m δ' w' pv F σ' S' H' _ hE1 W1 ((hX σ').mono s1) fun b w1 S1 H1 k s2 W2 => ?_
  have ss := s1.trans s2
  cases b with
  | false =>
    rw [if_neg Bool.false_ne_true] at k ⊢
    exact hK.nx δ' w1 σ' S1 H1 k ss (hE1.mono s2) W2
  | true =>
    rw [if_pos rfl] at k ⊢
    refine ⟨fun σ2 H2 => ∃ m', m' < m ∧ ∃ δ2 w2 S2, Pv m' δ2 w2 ∧ Same S S2 ∧ EnvD X.K S2 δ2 σ2 ∧ World X.K T S2 w2 F H2, fun σ2 H2 z => z, ?_⟩
    refine k F σ' S1 H1 _ (hE1.mono s2) W2 (hX.mono ss) ⟨?_, hK.rt.mono ss, hK.nx.mono ss, ?_⟩
    · rintro δ2 w2 σ2 S2 H2 ⟨m', l, pv2⟩ s3 hE3 W3
      exact ⟨m', l, δ2, w2, S2, pv2, ss.trans s3, hE3, W3⟩
    · rintro δ2 w2 σ2 S2 H2 ⟨m', l, pv2⟩ s3 hE3 W3
      exact ⟨m', l, δ2, w2, S2, pv2, ss.trans s3, hE3, W3⟩
end
end DL

set_option Elab.async false
set_option linter.all false
set_option maxRecDepth 100000
set_option maxHeartbeats 2000000
/-! Texts in data: +, parts, signs, join, split; str of ints, lists, own instances; items of lists of texts. -/
namespace DL
open PySem PySem.Spec PyProof.Rows L2 LamX
section
variable {K : PySem.W.Frag} {T : List (Addr × Str)} {w : Wp} {κ : D → Wp → Prop}
theorem vr_addS {a b : Str} (hz : a.length + b.length ≤ sizeLine) (k : κ (DL.T (a ++ b)) w) : VR2 K T (fun x y H Q => ∃ i j, x = .str i ∧ y = .str j ∧ i.length + j.length ≤ sizeLine ∧ Q (.str (i ++ j)) H) (DL.T a) (DL.T b) w κ := fun F S H x y Q hW r1 r2 hK => ⟨a, b, r1, r2, hz, hK _ w _ S H k (Same.refl _) hW rfl⟩
theorem vr_ixS {z : Str} {i : Nat} (hz : z.length ≤ sizeLine) (hi : i < z.length) (k : ∀ c, c ∈ z.cps.toList → κ (DL.T ⟨#[c]⟩) w) : VR2 K T rIxS (DL.T z) (I (i : Int)) w κ := fun F S H x y Q hW r1 r2 hK => by
  have hl : i < z.cps.toList.length := by
    rw [Array.length_toList]
    exact hi
  exact ⟨z, i, z.cps.toList[i], r1, r2, hz, atI_nat (List.getElem?_eq_getElem hl), hK _ w _ S H (k _ (List.getElem_mem hl)) (Same.refl _) hW rfl⟩
theorem va_strI {i : Int} (hz : i.natAbs.log2 < 1920) (k : κ (DL.T (toString i)) w) : VRA K T (fun xs H Q => ∃ i : Int, xs = [.int i] ∧ i.natAbs.log2 < 1920 ∧ Q (.str (toString i)) H) [I i] w κ := fun F S H xs Q hW r hK => by
  obtain ⟨y, ys, rfl, h1, h2⟩ := r
  have h1' : y = .int i := h1
  have h2' : ys = [] := h2
  subst h1' h2'
  exact ⟨i, rfl, hz, hK _ w _ S H k (Same.refl _) hW rfl⟩
theorem va_strL {ns : List Int} (h0 : ns ≠ []) (hb : ∀ n ∈ ns, n.natAbs.log2 < 1920) (hz : (lText ns).length ≤ sizeLine) (k : κ (DL.T (lText ns)) w) : VRA K T (rStrL K) [.lst (ns.map I)] w κ := fun F S H xs Q hW r hK => by
  obtain ⟨y, ys, rfl, h1, h2⟩ := r
  obtain ⟨a, zs, rfl, h3, h4⟩ := h1
  have h2' : ys = [] := h2
  have e := h4.ints
  subst h2' e
  exact ⟨a, ns, rfl, SqL.of (hW.same _ _ h3), h0, hb, hz, hK _ w _ S H k (Same.refl _) hW rfl⟩
theorem va_lenS {z : Str} (hz : z.length ≤ sizeLine) (k : κ (I (z.length : Int)) w) : VRA K T (fun xs H Q => ∃ x n, xs = [x] ∧ LenV K x H n ∧ Q (.int n) H) [DL.T z] w κ := fun F S H xs Q hW r hK => by
  obtain ⟨y, ys, rfl, h1, h2⟩ := r
  have h1' : y = .str z := h1
  have h2' : ys = [] := h2
  subst h1' h2'
  exact ⟨_, z.length, rfl, ⟨hz, rfl⟩, hK _ w _ S H k (Same.refl _) hW rfl⟩
/-- own str and repr, in data -/
theorem va_own1 {C : Addr} {sp : SpD} {d : D} (hd : ∃ ns ds, d = .obj C ns ds) (h : sp [d] w (fun d' w' => ∃ z : Str, d' = DL.T z ∧ κ d' w') noX) :
    VRA K T (fun xs H Q => ∃ a dx fs, xs = [.ref a] ∧ H a = some (.ins C dx fs) ∧ spOf K T sp [.ref a] H (fun v H' => ∃ z : Str, v = .str z ∧ Q v H') E0) [d] w κ := fun F S H xs Q hW r1 hK => by
  obtain ⟨ns, ds, rfl⟩ := hd
  obtain ⟨y, zs, rfl, r2, r3⟩ := r1
  have r3' : zs = [] := r3
  subst r3'
  obtain ⟨a, dx, ys, rfl, h1, h2, h3⟩ := id r2
  refine ⟨a, dx, ys, rfl, hW.same _ _ h1, [.obj C ns ds], w, F, S, _, noX, h, ⟨_, _, rfl, r2, rfl⟩, hW, ?_, fun _ _ _ _ _ _ _ z => z.elim⟩
  rintro d' w' v S' H' ⟨z, rfl, k⟩ s1 W1 r
  have r' : v = .str z := r
  exact ⟨z, r', hK _ w' v S' H' k s1 W1 r⟩
/-- data of a list of texts -/
theorem RepL.txts {S : Hp} : ∀ {ns : List Str} {xs : List V}, RepL K S (ns.map DL.T) xs → xs = ns.map V.str
  | [], xs, h => h
  | n :: ns, xs, h => by
    obtain ⟨y, ys, rfl, h2, h3⟩ := h
    have h2' : y = V.str n := h2
    rw [h2', RepL.txts h3]
    rfl
theorem RepL.of_txts {S : Hp} : ∀ {ns : List Str}, RepL K S (ns.map DL.T) (ns.map V.str)
  | [] => rfl
  | n :: ns => ⟨V.str n, ns.map V.str, rfl, rfl, RepL.of_txts⟩
abbrev rJoin (K : PySem.W.Frag) : V → List V → Hp → VK → Prop := fun x xs H Q => ∃ a p, ∃ ys : List Str, x = .str a ∧ xs = [.ref p] ∧ (SqL K H p (ys.map V.str) ∨ SqT K H p (ys.map V.str)) ∧
    (ys.map (·.length)).sum + ys.length * a.length ≤ 16777216 ∧ Q (.str (Txt.join a ys)) H
theorem vm_join {a : Str} {ys : List Str} (hz : (ys.map (·.length)).sum + ys.length * a.length ≤ 16777216) (k : κ (DL.T (Txt.join a ys)) w) : VRM K T (rJoin K) (DL.T a) [.lst (ys.map DL.T)] w κ := fun F S H x xs Q hW r1 r2 hK => by
  obtain ⟨y, zs, rfl, h3, h4⟩ := r2
  obtain ⟨p, us, rfl, h5, h6⟩ := h3
  have h4' : zs = [] := h4
  have e := h6.txts
  subst h4' e
  exact ⟨a, p, ys, r1, rfl, .inl (SqL.of (hW.same _ _ h5)), hz, hK _ w _ S H k (Same.refl _) hW rfl⟩
theorem vm_joinO {a : Str} {l : Addr} {ys : List Str} (hw : w l = some (.lst (ys.map DL.T))) (hz : (ys.map (·.length)).sum + ys.length * a.length ≤ 16777216) (k : κ (DL.T (Txt.join a ys)) w) : VRM K T (rJoin K) (DL.T a) [R l] w κ := fun F S H x xs Q hW r1 r2 hK => by
  obtain ⟨y, zs, rfl, h3, h4⟩ := r2
  have h3' : y = .ref l := h3
  have h4' : zs = [] := h4
  subst h3' h4'
  obtain ⟨_, _, o, h1, h2⟩ := hW.own l _ hw
  obtain ⟨us, rfl, h6⟩ := h2
  have e := h6.txts
  subst e
  exact ⟨a, l, ys, r1, rfl, .inl (SqL.of h1), hz, hK _ w _ S H k (Same.refl _) hW rfl⟩
abbrev rSplit : V → List V → Hp → VK → Prop := fun x xs H Q => ∃ a b, x = .str a ∧ xs = [.str b] ∧ (b.length == 0) = false ∧ a.length + 2 ≤ sizeLine ∧ rNewStrs (Txt.split a b) H Q
theorem vm_split {a b : Str} (hb : (b.length == 0) = false) (hz : a.length + 2 ≤ sizeLine) (k : κ (.lst ((Txt.split a b).map DL.T)) w) : VRM K T rSplit (DL.T a) [DL.T b] w κ := fun F S H x xs Q hW r1 r2 hK => by
  obtain ⟨y, zs, rfl, h3, h4⟩ := r2
  have h3' : y = .str b := h3
  have h4' : zs = [] := h4
  subst h3' h4'
  refine ⟨a, b, r1, rfl, hb, hz, fun p hp => ?_⟩
  have s1 : Same S (upd S p (.lst ((Txt.split a b).map V.str))) := same_upd (hW.free hp).1
  exact hK _ w _ _ _ k s1 (hW.laid hp fun _ z => by cases z) ⟨p, _, rfl, upd_same, RepL.of_txts⟩
theorem vm_splitO {a b : Str} (hb : (b.length == 0) = false) (hz : a.length + 2 ≤ sizeLine) (k : ∀ l, w l = none → κ (R l) (wu w l (.lst ((Txt.split a b).map DL.T)))) : VRM K T rSplit (DL.T a) [DL.T b] w κ := fun F S H x xs Q hW r1 r2 hK => by
  obtain ⟨y, zs, rfl, h3, h4⟩ := r2
  have h3' : y = .str b := h3
  have h4' : zs = [] := h4
  subst h3' h4'
  refine ⟨a, b, r1, rfl, hb, hz, fun p hp => ?_⟩
  exact hK _ _ _ S _ (k p (hW.free hp).2.1) (Same.refl _) (hW.take hp ⟨_, rfl, RepL.of_txts⟩) rfl
theorem flat_strs : ∀ ys : List Str, (ys.map V.str).all flatV = true
  | [] => rfl
  | y :: ys => by
    rw [List.map_cons, List.all_cons, flat_strs ys]
    rfl
theorem inV_strs (y : Str) : ∀ ys : List Str, inV (.str y) (ys.map V.str) = decide (y ∈ ys)
  | [] => rfl
  | z :: zs => by
    have ih := inV_strs y zs
    unfold inV at ih ⊢
    rw [List.map_cons, List.any_cons, ih]
    have e : eqV (.str z) (.str y) = decide (z = y) := by
      show (z == y) = _
      by_cases h : z = y
      · rw [decide_eq_true h, h]
        exact beq_self_eq_true y
      · rw [decide_eq_false h]
        exact beq_eq_false_iff_ne.mpr h
    rw [e]
    by_cases h : z = y
    · rw [decide_eq_true h, decide_eq_true (p := y ∈ z :: zs) (by rw [h]; exact List.mem_cons_self ..)]
      rfl
    · rw [decide_eq_false h, Bool.false_or]
      refine decide_eq_decide.mpr ⟨fun q => List.mem_cons_of_mem _ q, fun q => ?_⟩
      cases q with
      | head => exact absurd rfl h
      | tail _ q => exact q
/-- a text among the items -/
theorem vr_inS {y : Str} {ys : List Str} (k : κ (B (decide (y ∈ ys))) w) : VR2 K T (rIn K false) (DL.T y) (.lst (ys.map DL.T)) w κ := fun F S H x z Q hW r1 r2 hK => by
  obtain ⟨p, us, rfl, h1, h2⟩ := r2
  have e := h2.txts
  have r1' : x = .str y := r1
  subst e r1'
  refine ⟨p, _, rfl, .inl (SqL.of (hW.same _ _ h1)), rfl, flat_strs ys, ?_⟩
  refine hK _ w _ S H k (Same.refl _) hW ?_
  show V.bl (inV (.str y) (ys.map V.str)) = .bl _
  rw [inV_strs]
theorem vr_ninS {y : Str} {ys : List Str} (k : κ (B (!decide (y ∈ ys))) w) : VR2 K T (rIn K true) (DL.T y) (.lst (ys.map DL.T)) w κ := fun F S H x z Q hW r1 r2 hK => by
  obtain ⟨p, us, rfl, h1, h2⟩ := r2
  have e := h2.txts
  have r1' : x = .str y := r1
  subst e r1'
  refine ⟨p, _, rfl, .inl (SqL.of (hW.same _ _ h1)), rfl, flat_strs ys, ?_⟩
  refine hK _ w _ S H k (Same.refl _) hW ?_
  show V.bl (!inV (.str y) (ys.map V.str)) = .bl _
  rw [inV_strs]
/-- an int among the items -/
theorem flat_ints : ∀ ys : List Int, (ys.map V.int).all flatV = true
  | [] => rfl
  | y :: ys => by
    rw [List.map_cons, List.all_cons, flat_ints ys]
    rfl
theorem inV_ints (y : Int) : ∀ ys : List Int, inV (.int y) (ys.map V.int) = decide (y ∈ ys)
  | [] => rfl
  | z :: zs => by
    have ih := inV_ints y zs
    unfold inV at ih ⊢
    rw [List.map_cons, List.any_cons, ih]
    have e : eqV (.int z) (.int y) = decide (z = y) := by
      show (z == y) = _
      by_cases h : z = y
      · rw [decide_eq_true h, h]
        exact beq_self_eq_true y
      · rw [decide_eq_false h]
        exact beq_eq_false_iff_ne.mpr h
    rw [e]
    by_cases h : z = y
    · rw [decide_eq_true h, decide_eq_true (p := y ∈ z :: zs) (by rw [h]; exact List.mem_cons_self ..)]
      rfl
    · rw [decide_eq_false h, Bool.false_or]
      refine decide_eq_decide.mpr ⟨fun q => List.mem_cons_of_mem _ q, fun q => ?_⟩
      cases q with
      | head => exact absurd rfl h
      | tail _ q => exact q
theorem vr_inI {y : Int} {ys : List Int} (k : κ (B (decide (y ∈ ys))) w) : VR2 K T (rIn K false) (I y) (.lst (ys.map I)) w κ := fun F S H x z Q hW r1 r2 hK => by
  obtain ⟨p, us, rfl, h1, h2⟩ := r2
  have e := h2.ints
  have r1' : x = .int y := r1
  subst e r1'
  refine ⟨p, _, rfl, .inl (SqL.of (hW.same _ _ h1)), rfl, flat_ints ys, ?_⟩
  refine hK _ w _ S H k (Same.refl _) hW ?_
  show V.bl (inV (.int y) (ys.map V.int)) = .bl _
  rw [inV_ints]
theorem idx_leS {x : Str} : ∀ {l : List Str} {m : Nat}, l[m]? = some x → l.idxOf x ≤ m
  | [], m, h => by simp at h
  | y :: l, 0, h => by
    have e : y = x := Option.some.inj h
    rw [e, List.idxOf_cons_self]
    exact Nat.le_refl _
  | y :: l, m + 1, h => by
    have ih := idx_leS (l := l) (m := m) h
    rw [List.idxOf_cons]
    cases (y == x) with
    | true => exact Nat.zero_le _
    | false => exact Nat.succ_le_succ ih
/-- names.index(word) -/
theorem vm_indexS {ns : List Str} {n : Str} (hm : n ∈ ns) (k : κ (I ((ns.idxOf n : Nat) : Int)) w) : VRM K T (rIndex K) (.lst (ns.map DL.T)) [DL.T n] w κ := fun F S H x xs Q hW r1 r2 hK => by
  obtain ⟨a, us, rfl, h1, h2⟩ := r1
  obtain ⟨y, zs, rfl, h3, h4⟩ := r2
  have h3' : y = .str n := h3
  have h4' : zs = [] := h4
  have e := h2.txts
  subst h3' h4' e
  have hi : ns.idxOf n < ns.length := List.idxOf_lt_length_of_mem hm
  refine ⟨a, _, .str n, ns.idxOf n, .str n, rfl, rfl, SqL.of (hW.same _ _ h1), rfl, flat_strs ns, ?_, ?_, ?_, hK _ w _ S H k (Same.refl _) hW rfl⟩
  · rw [List.getElem?_map, List.getElem?_eq_getElem hi, List.getElem_idxOf hi]
    rfl
  · exact beq_self_eq_true n
  · intro m z hlt hz
    rw [List.getElem?_map] at hz
    cases q : ns[m]? with
    | none =>
      rw [q] at hz
      cases hz
    | some u =>
      rw [q] at hz
      cases hz
      show (u == n) = false
      refine beq_eq_false_iff_ne.mpr fun z => ?_
      obtain ⟨hm2, em⟩ := List.getElem?_eq_some_iff.mp q
      have := idx_leS (l := ns) (m := m) (x := n) (by rw [q, z])
      omega
/-- sum(xs) -/
theorem va_sum {ns : List Int} (k : κ (I ns.sum) w) : VRA K T (rSum K) [.lst (ns.map I)] w κ := fun F S H xs Q hW r hK => by
  obtain ⟨y, ys, rfl, h1, h2⟩ := r
  obtain ⟨a, zs, rfl, h3, h4⟩ := h1
  have h2' : ys = [] := h2
  have e := h4.ints
  subst h2' e
  exact ⟨a, ns, rfl, SqL.of (hW.same _ _ h3), hK _ w _ S H k (Same.refl _) hW rfl⟩
end
section
variable {X : Cx} {T : List (Addr × Str)} {W : WX} {χ : XD} {δ : Dn} {w : Wp} {pos : Pos}
theorem cutS_len {z : Str} {lo hi : Option Int} : (cutS z lo hi).length = min (HT.sIx z.length z.length hi - HT.sIx z.length 0 lo) (z.length - HT.sIx z.length 0 lo) := by
  have e : z.cps.toList.length = z.length := Array.length_toList
  unfold cutS
  show (List.toArray _).size = _
  rw [List.size_toArray, List.length_take, List.length_drop, e]
theorem cutS_sub {z : Str} {lo hi : Option Int} : ∀ c ∈ (cutS z lo hi).cps.toList, c ∈ z.cps.toList := fun c h => by
  unfold cutS at h
  exact List.mem_of_mem_drop (List.mem_of_mem_take h)
theorem pd_slSTo {e hi : Expr} {p2 : Pos} {κ : D → Wp → Prop} (h : PD X T W χ e δ w fun d w1 => PD X T W χ hi δ w1 fun u w2 => ∃ (z : Str) (n : Nat), d = DL.T z ∧ u = I (n : Int) ∧ z.length ≤ sizeLine ∧ ∀ y : Str, y.length = min n z.length → (∀ c ∈ y.cps.toList, c ∈ z.cps.toList) → κ (DL.T y) w2) : PD X T W χ (.Subscript e (.Slice none (some hi) none p2) pos) δ w κ := fun F σ S H Q hE hW hX hK =>
  wp_pe (pe_slice sl_str (pe_wp e) po_none (po_some (pe_wp hi))) (by
    refine h F σ S H _ hE hW hX fun d w1 v S1 H1 k s1 W1 r => ?_
    refine k F σ S1 H1 _ (hE.mono s1) W1 (hX.mono s1) fun u w2 y S2 H2 k2 s2 W2 r2 => ?_
    obtain ⟨z, n, rfl, rfl, hz, k2⟩ := k2
    have r' : v = .str z := r
    have r2' : y = .int (n : Int) := r2
    subst r' r2'
    refine ⟨n, rfl, z, rfl, hz, hK _ w2 _ S2 H2 (k2 _ ?_ cutS_sub) (s1.trans s2) W2 rfl⟩
    rw [cutS_len, HT.sIx_nat, HT.sIx_none]
    omega)
theorem pd_slSFrom {e lo : Expr} {p2 : Pos} {κ : D → Wp → Prop} (h : PD X T W χ e δ w fun d w1 => PD X T W χ lo δ w1 fun u w2 => ∃ (z : Str) (n : Nat), d = DL.T z ∧ u = I (n : Int) ∧ z.length ≤ sizeLine ∧ ∀ y : Str, y.length = z.length - n → (∀ c ∈ y.cps.toList, c ∈ z.cps.toList) → κ (DL.T y) w2) : PD X T W χ (.Subscript e (.Slice (some lo) none none p2) pos) δ w κ := fun F σ S H Q hE hW hX hK =>
  wp_pe (pe_slice sl_str (pe_wp e) (po_some (pe_wp lo)) po_none) (by
    refine h F σ S H _ hE hW hX fun d w1 v S1 H1 k s1 W1 r => ?_
    refine k F σ S1 H1 _ (hE.mono s1) W1 (hX.mono s1) fun u w2 y S2 H2 k2 s2 W2 r2 => ?_
    obtain ⟨z, n, rfl, rfl, hz, k2⟩ := k2
    have r' : v = .str z := r
    have r2' : y = .int (n : Int) := r2
    subst r' r2'
    refine ⟨n, rfl, z, rfl, hz, hK _ w2 _ S2 H2 (k2 _ ?_ cutS_sub) (s1.trans s2) W2 rfl⟩
    rw [cutS_len, HT.sIx_nat, HT.sIx_none]
    omega)
theorem pd_slSMid {e lo hi : Expr} {p2 : Pos} {κ : D → Wp → Prop} (h : PD X T W χ e δ w fun d w1 => PD X T W χ lo δ w1 fun u w2 => ∃ m : Nat, u = I (m : Int) ∧ PD X T W χ hi δ w2 fun t w3 => ∃ (z : Str) (n : Nat), d = DL.T z ∧ t = I (n : Int) ∧ z.length ≤ sizeLine ∧ ∀ y : Str, y.length = min n z.length - min m z.length → (∀ c ∈ y.cps.toList, c ∈ z.cps.toList) → κ (DL.T y) w3) : PD X T W χ (.Subscript e (.Slice (some lo) (some hi) none p2) pos) δ w κ := fun F σ S H Q hE hW hX hK =>
  wp_pe (pe_slice sl_str (pe_wp e) (po_some (pe_wp lo)) (po_some (pe_wp hi))) (by
    refine h F σ S H _ hE hW hX fun d w1 v S1 H1 k s1 W1 r => ?_
    refine k F σ S1 H1 _ (hE.mono s1) W1 (hX.mono s1) fun u w2 y S2 H2 k2 s2 W2 r2 => ?_
    obtain ⟨m, rfl, k2⟩ := k2
    have r2' : y = .int (m : Int) := r2
    refine ⟨m, r2', ?_⟩
    refine k2 F σ S2 H2 _ (hE.mono (s1.trans s2)) W2 (hX.mono (s1.trans s2)) fun t w3 x S3 H3 k3 s3 W3 r3 => ?_
    obtain ⟨z, n, rfl, rfl, hz, k3⟩ := k3
    have r' : v = .str z := r
    have r3' : x = .int (n : Int) := r3
    subst r' r3'
    refine ⟨n, rfl, z, rfl, hz, hK _ w3 _ S3 H3 (k3 _ ?_ cutS_sub) (s1.trans (s2.trans s3)) W3 rfl⟩
    rw [cutS_len, HT.sIx_nat, HT.sIx_nat]
    omega)
end
end DL

set_option Elab.async false
set_option linter.all false
set_option maxRecDepth 100000
set_option maxHeartbeats 1000000
/-! a op b by an own method, both of one class. -/
namespace DL
open PySem PySem.Spec PyProof.Rows L2 LamX
section
variable {X : Cx}
def rBin (C : Addr) (sp : Sp) (E : XK) : R2 := fun x y H Q => ∃ a dx fs b dy gs, x = .ref a ∧ H a = some (.ins C dx fs) ∧ y = .ref b ∧ H b = some (.ins C dy gs) ∧ sp [x, y] H (fun v H' => ∃ p, v = .ref p ∧ Q v H') E
theorem op_bin {op : Operator} {C f : Addr} {fd : FuncData} {ps : List Str} {k : Nat} {sp : Sp} {CX : CXT} {E : XK} (G : FnOk X.prog X.w X.K X.mg X.base CX k f fd ps sp) (hr : Room k X.A) (hs : PySem.W.findIn X.K (.ref C) (PySem.dunder op.info.2) = some (some (.ref f))) (hf : PySem.W.isFn X.K (.ref f) = true) (hc : PySem.W.selfFirst X.K C = true) (hb : Binds X.K fd ps [])
    (hx : ∀ σ, PassesAt CX X σ E) : OpR X (binaryOp op) (rBin C sp E) := by
  intro pins s σ H x y v u Q I rx ry h
  obtain ⟨a, dx, fs, b, dy, gs, rfl, ha, rfl, hbb, hsp⟩ := h
  cases rx
  cases ry
  obtain ⟨mA, J, _⟩ := ins_get I.hok ha
  obtain ⟨od, J, _⟩ := J.look
  obtain ⟨mB, J2, _⟩ := ins_get I.hok hbb
  obtain ⟨od2, J2, _⟩ := J2.look
  obtain ⟨m, hF⟩ := I.fr
  show wpAny (model X.prog X.w) X.A (binaryOp op (.ref a) (.ref b)) (EP X pins σ Q) X.xe s
  refine PySem.W.binop_K hF I.ok.mod.kin J J2.type hc hs hf ?_
  have r2 : Vals [V.ref a, V.ref b] [Value.ref a, Value.ref b] := .cons rfl (.cons rfl .nil)
  have q := run_fnSD (σ := σ) (E := fun _ => E) (dvs := []) (ds := []) G hr hb .nil (hx σ) I r2 (by rw [List.append_nil]; exact hsp)
  refine thn q fun r s' z => ?_
  obtain ⟨v', H', I', rv, ⟨p, rfl, q⟩⟩ := z
  cases rv
  exact ⟨.ref p, H', I', rfl, q⟩
variable {T : List (Addr × Str)} {χ : XD} {δ : Dn} {w : Wp} {pos : Pos}
theorem pd_bin {a b : Expr} {op : Operator} {C f : Addr} {fd : FuncData} {ps : List Str} {k : Nat} {sp : SpD} {CX : CXT} {E : XK} {κ : D → Wp → Prop} (G : FnOk X.prog X.w X.K X.mg X.base CX k f fd ps (spOf X.K T sp)) (hr : Room k X.A) (hs : PySem.W.findIn X.K (.ref C) (PySem.dunder op.info.2) = some (some (.ref f))) (hf : PySem.W.isFn X.K (.ref f) = true) (hc : PySem.W.selfFirst X.K C = true) (hb : Binds X.K fd ps [])
    (hx : ∀ σ, PassesAt CX X σ E) (h : PD X T (fun cls d _ H => E cls d H) χ a δ w fun d w1 => PD X T (fun cls d _ H => E cls d H) χ b δ w1 fun e w2 => (∃ ns ds, d = .obj C ns ds) ∧ (∃ ns ds, e = .obj C ns ds) ∧ sp [d, e] w2 (fun d' w' => (∃ C' ns ds, d' = .obj C' ns ds) ∧ κ d' w') χ) :
    PD X T (fun cls d _ H => E cls d H) χ (.BinOp a op b pos) δ w κ := fun F σ S H Q hE hW hX hK => wp_pe (pe_op (op_bin G hr hs hf hc hb hx) (pe_wp a) (pe_wp b)) (by
  refine h F σ S H _ hE hW hX fun d w1 v S1 H1 k s1 W1 r1 => ?_
  refine k F σ S1 H1 _ (hE.mono s1) W1 (hX.mono s1) fun e w2 u S2 H2 k2 s2 W2 r2 => ?_
  obtain ⟨⟨ns, ds, rfl⟩, ⟨ms, es, rfl⟩, k2⟩ := k2
  have r1 := r1.mono s2
  have r1' := r1
  have r2' := r2
  obtain ⟨p, dx, ys, rfl, h1, _, _⟩ := r1'
  obtain ⟨q, dy, zs, rfl, h2, _, _⟩ := r2'
  refine ⟨p, dx, ys, q, dy, zs, rfl, W2.same _ _ h1, rfl, W2.same _ _ h2, ?_⟩
  refine ⟨[_, _], w2, F, S2, _, χ, k2, ⟨_, _, rfl, r1, _, [], rfl, r2, rfl⟩, W2, fun d' w' v' S' H' kk s' W' r' => ?_, fun C ns fs w' d S' H' x s3 W3 xr => hX C ns fs w' d S' H' x (s1.trans (s2.trans s3)) W3 xr⟩
  obtain ⟨⟨C', ns', ds', rfl⟩, kk⟩ := kk
  have r3 := r'
  obtain ⟨p', _, _, rfl, _⟩ := r3
  exact ⟨p', rfl, hK _ w' _ S' H' kk (s1.trans (s2.trans s')) W' r'⟩)
end
end DL

set_option Elab.async false
set_option linter.all false
set_option maxRecDepth 100000
set_option maxHeartbeats 1000000
/-! Dicts whose keys are tuples: made by a comprehension without a test, read by a key. -/
namespace DL
open PySem PySem.Spec PyProof.Rows L2 LamX
section
variable {X : Cx}
/-- the store of one pair, the key a tuple -/
theorem store_tk {pins : List (Addr × Obj)} {σ : L2.St} {H : Hp} {s : Shared} {E : Value → Shared → Prop} {L b : Addr} {kvs : List (List Key × V)} {ks : List Key} {z : V} {r : Value} {Q : Unit → Shared → Prop} (room : X.A.units < cLine) (I : Inv X pins σ H s)
    (atL : H L = some (.dT kvs)) (atb : H b = some (.tup (ks.map kV))) (few : kvs.length < sizeLine) (rz : RelV z r) (go : ∀ s', Inv X pins σ (upd H L (.dT (putK kvs ks z))) s' → Q () s') : wpAny (model X.prog X.w) X.A (dictSet L (.ref b) r) Q E s := by
  obtain ⟨c1, c2, xs, rel, dd⟩ := dt_of I.hok atL
  have c3 : xs.length ≤ sizeLine := (Paired.length rel).symm ▸ c1
  have c4 := length_putK kvs ks z
  refine wpAny_dictSet_heap (hsz := c3) (show (tupleKind (mixKind X.prog X.w)).room X.A from room) (key_of I.hok atb) dd (fun h' dd' sb => go _ ?_)
  obtain ⟨ob, es, ep, g1, g2, g3, g4, _, g5⟩ := dd'
  refine d_write I (by rw [atL]; exact True.intro) sb ⟨ob, g1⟩ ⟨by omega, c2, _, (rel.put ks atb rz).keeps (fun c ys ec => ?_), ob, es, ep, g1, g2, g3, g4, g5⟩
  rw [upd_ne (ne_of ec atL (fun q => nomatch q))]
  exact ec
def tDcT (wi : TI) (g : TG) (tk tv : TE) (vs : List Nat) : TE := fun σ H Q => wi σ H fun J H1 => ∀ L, H1 L = none → ∃ Wt : Nat → Nat → Hp → Prop, (∃ m, Wt 0 m (upd H1 L (.dT []))) ∧ ∀ i m Hi, Wt i m Hi →
  (J.stop i Hi ∧ Q (.ref L) Hi) ∨ (J.go i Hi ∧ ∃ Nx : Hp → Prop, (∀ Hn, Nx Hn → ∃ m', m' < m ∧ Wt (i + 1) m' Hn) ∧ ∀ x Hy, J.yld i Hi x Hy → g x (L2.wipe σ vs) Hy fun σ2 H2 => L2.wipe σ2 vs = L2.wipe σ vs ∧
    tk σ2 H2 fun y H4 => tv σ2 H4 fun z H5 => ∃ kvs ks b, y = .ref b ∧ H5 b = some (.tup (ks.map kV)) ∧ H5 L = some (.dT kvs) ∧ kvs.length < sizeLine ∧ Nx (upd H5 L (.dT (putK kvs ks z))))
theorem pe_dcT {kx vx tg iter : Expr} {scope : Scope} {own : List (Str × Nat)} {pos : Pos} {wi : TI} {g : TG} {tk tv : TE} (room : X.A.units < cLine) (hc : X.calm = true) (hN : X.N.Nodup) (hi : PI X tg iter wi) (ok : BlkOk X.N X.env.scope scope own)
    (pg0 : ∀ (s : Shared) (H : Hp) (C : Addr) (cl : List (Str × Addr)) (fp : List Addr), PG (X.blk s H scope (compEnvC scope cl C X.env) fp) tg g)
    (pk0 : ∀ (s : Shared) (H : Hp) (C : Addr) (cl : List (Str × Addr)) (fp : List Addr), PE (X.blk s H scope (compEnvC scope cl C X.env) fp) kx tk)
    (pv0 : ∀ (s : Shared) (H : Hp) (C : Addr) (cl : List (Str × Addr)) (fp : List Addr), PE (X.blk s H scope (compEnvC scope cl C X.env) fp) vx tv) (hs : ∀ x, foldedSetIterable iter X.env x = pure x := by intro _; rfl) :
    PE X (.DictComp kx vx [⟨tg, iter, [], 0⟩] scope pos) (tDcT wi g tk tv (own.map (·.2))) := ⟨fun pins s σ H Q I q0 => by
  rw [arm_eval_DictComp]
  have closes : ∀ y ∈ scope.names, y.2 = .free → ∃ c, X.env.cells.lookup y.1 = some c := by
    intro y hy e
    cases ok.free y hy e with
    | inl k => exact I.ok.has _ (Or.inl k)
    | inr k => exact I.ok.has _ (Or.inr k)
  refine wpAny_comprehension_free (use := none) rfl hs (closure_ok closes) ok.kind (fun y hy e => (ok.uniq y hy).trans (congrArg some e)) ?_
  refine thn (hi.run pins s σ H _ I q0) (fun xv sa hx => thn hx (fun itv sb hb => ?_))
  obtain ⟨it, fp, tn, J, Hb, rfl, Ib, Tr, at0, fpb, q1⟩ := hb
  refine wpAny_newObj_type (newEnv_comp ?_)
  generalize eL : sb.heap.objs.size = L
  have freeL : Hb L = none := Ib.hok.fresh (Nat.le_of_eq eL)
  obtain ⟨Wt, ⟨m0, w0⟩, turns⟩ := q1 L freeL
  generalize esc : ({ sb with heap := sb.heap.push { cls := .type "dict", data := .dict #[] } } : Shared) = sc
  have hsc : sc.heap = sb.heap.push { cls := .type "dict", data := .dict #[] } := esc ▸ rfl
  have Ic : Inv X pins σ (upd Hb L (.dT [])) sc := by
    subst esc
    subst eL
    exact Ib.laid (t' := sb.toks) (fun b o e => Heap.get?_push_of_some _ e) (Nat.le_refl _) (dt_empty sb.heap Ib.big)
  have below : ∀ b ∈ fp, b < sb.heap.objs.size := by
    intro b hb
    obtain ⟨o, e, _⟩ := Tr.obj _ _ at0 b hb
    exact Heap.lt_size e
  have fpc : ∀ b ∈ fp, FpOk X pins (upd Hb L (.dT [])) b ∧ b < sc.heap.objs.size := by
    intro b hb
    have lt := below b hb
    refine ⟨⟨?_, (fpb b hb).2⟩, ?_⟩
    · rw [upd_ne (eL ▸ Nat.ne_of_lt lt)]
      exact (fpb b hb).1
    · rw [hsc, Heap.size_push]
      exact Nat.lt_succ_of_lt lt
  have at1 : tn 0 sc.heap := Tr.keep _ _ _ at0 (fun b _ o e => hsc ▸ Heap.get?_push_of_some _ e)
  have Id := block_start Ic ok hN fpc
  generalize ecl : cellsFrom (sc.heap.objs.size + 1) scope.names (cloFrom X.env.cells scope.names []) = cl at Id
  have pg := pg0 sc (upd Hb L (.dT [])) sc.heap.objs.size cl fp
  have pk := pk0 sc (upd Hb L (.dT [])) sc.heap.objs.size cl fp
  have pv := pv0 sc (upd Hb L (.dT [])) sc.heap.objs.size cl fp
  have nfp : ∀ b ∈ fp, (upd Hb L (.dT [])) b = none := fun b hb => (fpc b hb).1.1
  have goal : codeAny (model X.prog X.w) X.A (.compStart (.DictComp kx vx [⟨tg, iter, [], 0⟩] scope pos) 0 (.ref it) (.ref L) (compEnvC scope cl sc.heap.objs.size X.env)) (compPost (model X.prog X.w) X.A X.xe none (EP X pins σ Q) (.ref L) sc.heap.objs.size) { sc with heap := pushCells (sc.heap.push { cls := .type "dict", data := .dict #[] }) scope.names } := by
    generalize ece : compEnvC scope cl sc.heap.objs.size X.env = ce at Id pg pk pv ⊢
    have ceL : ce.locals = sc.heap.objs.size := ece ▸ rfl
    generalize eH : upd Hb L (.dT []) = Hc at Ic Id pg pk pv w0 nfp fpc
    generalize esd : ({ sc with heap := pushCells (sc.heap.push { cls := .type "dict", data := .dict #[] }) scope.names } : Shared) = sd at Id ⊢
    have at2 : tn 0 sd.heap := Tr.keep _ _ _ at1 (fun b _ o e => esd ▸ pushCells_keeps _ _ _ _ (Heap.get?_push_of_some _ e))
    have calmB : (X.blk sc Hc scope ce fp).calm = true := hc
    have fpB : ∀ {σ' : L2.St} {H' : Hp} {s' : Shared}, Inv (X.blk sc Hc scope ce fp) [] σ' H' s' → (∀ b ∈ fp, H' b = none) → ∀ b ∈ fp, FpOk (X.blk sc Hc scope ce fp) [] H' b := by
      intro σ' H' s' I' n' b hb
      refine ⟨n' b hb, (I'.ok.exf b hb).1, I'.ok.exfs b hb, .inl hb, (fun x c e => (I'.ok.exf b hb).2 x c e), ?_⟩
      intro p hp
      have hp' : p ∈ ([] : List (Addr × Obj)) ++ [] := hp
      simp at hp'
    refine codeAny_compStart_dict (rest := []) ?loop (Tr.self X.A 0 _ _ _ at2 ?loop)
    case loop =>
    refine compLoop_anyD (fun n s' => ∃ i H', Inv (X.blk sc Hc scope ce fp) [] (L2.wipe σ (own.map (·.2))) H' s' ∧ tn i s'.heap ∧ (∀ b ∈ fp, H' b = none) ∧ Wt i n H') ?_ m0 ⟨0, Hc, Id, at2, nfp, w0⟩
    rintro n se ⟨i, He, Ie, ate, ne, we⟩
    cases turns i n He we with
    | inl st =>
      obtain ⟨stop, qe⟩ := st
      refine thnF (Tr.done (X.blk sc Hc scope ce fp) rfl rfl rfl calmB i [] se _ He (fun _ _ => False) Ie (fpB Ie ne) ate stop) (fun r sf hr => ?_)
      obtain ⟨rfl, If⟩ := hr
      have Ig : Inv X pins σ He sf := by
        refine Ic.call' (ch := fp) If.os If.base If.hok If.bare (fun b hb => ?_)
        obtain ⟨⟨_, y1, y2, y3, y4, y5⟩, _⟩ := fpc b hb
        exact ⟨y3, y1, y4, y5⟩
      have nC : He sc.heap.objs.size = none := by
        have q := If.free
        exact ceL ▸ q
      obtain ⟨m, hn, _⟩ := If.loc
      have hn' : sf.heap.Ns sc.heap.objs.size m := by
        have q : sf.heap.Ns ce.locals m := hn
        exact ceL ▸ q
      refine ⟨m, hn', fun h'' sbb => ?_⟩
      obtain ⟨y0, y1, y2, y3, y4, y5⟩ := Ic.fpOk (Nat.le_refl _) nC
      exact ⟨.ref L, He, Ig.turned (t' := sf.toks) (fun b o hb e => (sbb.2 b hb).trans e) y0 y1 y3 y4 y5, rfl, qe⟩
    | inr gn =>
      obtain ⟨go, Nx, hNx, step⟩ := gn
      refine thnF (Tr.item (X.blk sc Hc scope ce fp) rfl rfl rfl calmB i [] se _ He (fun _ _ => False) Ie (fpB Ie ne) ate go) (fun r sf hr => ?_)
      obtain ⟨u, rfl, hu⟩ := hr
      refine thnF hu (fun _ sg hg => ?_)
      obtain ⟨x, Hg, Ig, rg, yg, atg, ng⟩ := hg
      have Ig' := Ig.pinned (fpB Ig ng) (Tr.obj _ _ atg)
      refine thnF (pg.run _ sg _ Hg x u _ Ig' rg (step x Hg yg)) (fun _ sh hh => ?_)
      obtain ⟨σ8, Hh, Ih, wh, qh⟩ := hh
      show wpAny _ _ (pure true) _ _ _
      refine wpAny_pure ?_
      rw [if_pos rfl]
      refine thnF (pk.run _ sh σ8 Hh _ Ih qh) (fun kv si hk => ?_)
      obtain ⟨yk, Hi, Ii, ri, qi⟩ := hk
      refine thnF (pv.run _ si σ8 Hi _ Ii qi) (fun vv sj hv => ?_)
      obtain ⟨yv, Hj, Ij, rj, kvs, ks, b, rfl, atb, atL, few, nx⟩ := hv
      obtain rfl : kv = Value.ref b := ri
      refine store_tk (X := X.blk sc Hc scope ce fp) room Ij atL atb few rj (fun sk Ik => ?_)
      obtain ⟨m', lt, wn⟩ := hNx _ nx
      have stay : ∀ c ∈ fp, ∀ o, sg.heap.get? c = some o → sk.heap.get? c = some o ∧ (upd Hj L (.dT (putK kvs ks yv))) c = none := by
        intro c hc' o e
        have z := Ik.pin (c, o) (List.mem_append_right _ (List.mem_append_right _ (mem_pinsAt hc' e)))
        exact ⟨z.1, z.2.1⟩
      have len : (L2.wipe σ (own.map (·.2))).length = σ8.length := wh ▸ L2.wipe_length σ8 _
      refine ⟨m', lt, i + 1, _, (Ik.unpinned (pins := [])).weak len (fun j v e => ?_), Tr.keep _ _ _ atg (fun c hc' o e => (stay c hc' o e).1), (fun c hc' => ?_), wn⟩
      · exact (wipe_some (wh ▸ e)).1
      · obtain ⟨o, e, _⟩ := Tr.obj _ _ atg c hc'
        exact (stay c hc' o e).2
  subst ecl
  exact goal⟩
end
section
variable {X : Cx} {T : List (Addr × Str)} {W : WX} {χ : XD} {δ : Dn} {w : Wp} {pos : Pos}
/-- d[k], k a tuple -/
theorem pd_dgetT {o i : Expr} {κ : D → Wp → Prop} (hu : X.A.units + 1 < cLine) (h : PD X T W χ o δ w fun d w1 => PD X T W χ i δ w1 fun e w2 => ∃ kvs ks v, d = .dct kvs ∧ e = .tup (ks.map fun k => .val (kV k)) ∧ valV kvs ks = some v ∧ κ (.val v) w2)
    (hs : NoSl i := by exact fun _ _ => rfl) : PD X T W χ (.Subscript o i pos) δ w κ := fun F σ S H Q hE hW hX hK =>
  wp_pe (pe_dget hu (pe_wp o) (pe_wp i) hs) (by
    refine h F σ S H _ hE hW hX fun d w1 x S1 H1 k s1 W1 r1 => ?_
    refine k F σ S1 H1 _ (hE.mono s1) W1 (hX.mono s1) fun e w2 y S2 H2 k2 s2 W2 r2 => ?_
    obtain ⟨kvs, ks, v, rfl, rfl, hv, k2⟩ := k2
    obtain ⟨a, rfl, ha⟩ := r1
    obtain ⟨b, xs, rfl, hb, hxs⟩ := r2
    have ex : xs = ks.map kV := by
      have e2 : (ks.map fun k => D.val (kV k)) = (ks.map kV).map D.val := by rw [List.map_map]; rfl
      rw [e2] at hxs
      exact hxs.vals
    subst ex
    refine ⟨a, v, rfl, .inr ⟨kvs, ks, b, .inl (W2.same _ _ (s2 _ _ ha)), rfl, W2.same _ _ hb, hv.symm⟩, ?_⟩
    exact hK _ w2 _ S2 H2 k2 (s1.trans s2) W2 rfl)
/-- what a dict's comprehension with tuples as keys asks -/
def DcDT (X : Cx) (T : List (Addr × Str)) (is : List Nat) (tg kx vx : Expr) (scope : Scope) (vs : List Nat) (δ : Dn) (κ : List (List Key × V) → Wp → Prop) (ds : List D) (w1 : Wp) : Prop :=
  ds.length < sizeLine ∧ ∃ Pv : Nat → List (List Key × V) → Wp → Prop, Pv 0 [] w1 ∧
    (∀ (i : Nat) (d : D) acc w', ds[i]? = some d → Pv i acc w' → ∀ s H0 C cl fp, PGL (bx X s H0 scope cl C fp) T is tg d (wipeD δ vs) w' fun δ2 w2 => ∀ s H0 C cl fp, PD (bx X s H0 scope cl C fp) T Wf noX kx δ2 w2 fun kd w3 =>
      ∀ s H0 C cl fp, PD (bx X s H0 scope cl C fp) T Wf noX vx δ2 w3 fun vd w4 => ∃ ks v, kd = .tup (ks.map fun k => .val (kV k)) ∧ vd = .val v ∧ Pv (i + 1) (putK acc ks v) w4) ∧
    ∀ acc w', Pv ds.length acc w' → κ acc w'
theorem pd_dcT {kx vx tg iter : Expr} {scope : Scope} (own : List (Str × Nat)) (is : List Nat) {κ : D → Wp → Prop} (room : X.A.units < cLine) (hc : X.calm = true) (hN : X.N.Nodup) (ok : BlkOk X.N X.env.scope scope own) (hsub : ∀ i ∈ is, i ∈ own.map (·.2))
    (h : IterD X T W χ tg iter δ w (DcDT X T is tg kx vx scope (own.map (·.2)) δ (fun acc w' => κ (.dct acc) w'))) (hs : ∀ x, foldedSetIterable iter X.env x = pure x := by intro _; rfl) : PD X T W χ (.DictComp kx vx [⟨tg, iter, [], 0⟩] scope pos) δ w κ := fun F σ S H Q hE hW hX hK => by
  obtain ⟨wi, hi, h⟩ := h
  refine wp_pe (pe_dcT room hc hN hi ok pg_bx pe_bx pe_bx hs) ?_
  refine h F σ S H _ hE hW hX fun ds w1 S1 H1 J G Y k s1 W1 ww hG hY L nL => ?_
  obtain ⟨hz, Pv, p0, turn, done⟩ := k
  have fL : F L = none := (W1.free nL).2.2
  refine ⟨fun i m Hi => m = ds.length - i ∧ i ≤ ds.length ∧ ∃ acc w' S', Pv i acc w' ∧ acc.length ≤ i ∧ Same S1 S' ∧ World X.K T S' w' (upd F L (.dT acc)) Hi, ⟨_, rfl, Nat.zero_le _, [], w1, S1, p0, Nat.le_refl _, Same.refl _, W1.takeF nL (fun _ z => by cases z)⟩, ?_⟩
  rintro i m H' ⟨rfl, hi, acc, w', S', pv, hacc, s2, W2⟩
  have gg := hG S' w' _ H' s2 W2
  cases Nat.lt_or_ge i ds.length with
  | inr ge =>
    obtain rfl : i = ds.length := Nat.le_antisymm hi ge
    refine .inl ⟨ww.stops H' gg, ?_⟩
    obtain ⟨e1, W3⟩ := W2.freezeF fL fun _ z => by cases z
    have s3 : Same S' (upd S' L (.dT acc)) := same_upd e1
    exact hK _ w' _ _ H' (done acc w' pv) (s1.trans (s2.trans s3)) W3 ⟨L, rfl, upd_same⟩
  | inl hlt =>
    refine .inr ⟨ww.goes i H' hlt gg, fun Hn => ∃ acc w' S', Pv (i + 1) acc w' ∧ acc.length ≤ i + 1 ∧ Same S1 S' ∧ World X.K T S' w' (upd F L (.dT acc)) Hn, fun Hn p => ⟨ds.length - (i + 1), by omega, rfl, hlt, p⟩, fun x H3 y => ?_⟩
    obtain ⟨S3, s3, W3, r⟩ := hY i ds[i] S' w' _ H' x H3 (List.getElem?_eq_getElem hlt) s2 W2 (ww.yields i H' x H3 hlt gg y)
    intro s H0 C cl fp
    refine turn i ds[i] acc w' (List.getElem?_eq_getElem hlt) pv s H0 C cl fp (upd F L (.dT acc)) x (L2.wipe σ (own.map (·.2))) S3 H3 _ r ((hE.mono (s1.trans (s2.trans s3))).wipe _) W3 fun δ2 w2 σ2 S4 H4 k s4 hE4 W4 o4 l4 => ?_
    refine ⟨?_, ?_⟩
    · rw [wipe_eq (σ1 := L2.wipe σ (own.map (·.2))) (σ2 := σ2) l4 fun j hj => o4 j fun z => hj (hsub j z)]
      exact wipe_eq (L2.wipe_length σ _) fun j hj => L2.wipe_out hj
    intro s H0 C cl fp
    refine k s H0 C cl fp (upd F L (.dT acc)) σ2 S4 H4 _ hE4 W4 exf fun kd w5 y5 S5 H5 k5 s5 W5 r5 => ?_
    intro s H0 C cl fp
    refine k5 s H0 C cl fp (upd F L (.dT acc)) σ2 S5 H5 _ (hE4.mono s5) W5 exf fun vd w6 z6 S6 H6 k6 s6 W6 r6 => ?_
    obtain ⟨ks, v, rfl, rfl, k6⟩ := k6
    obtain ⟨b, xs, rfl, hb, hxs⟩ := r5
    have ex : xs = ks.map kV := by
      have e2 : (ks.map fun k => D.val (kV k)) = (ks.map kV).map D.val := by rw [List.map_map]; rfl
      rw [e2] at hxs
      exact hxs.vals
    subst ex
    have r6' : z6 = v := r6
    subst r6'
    refine ⟨acc, ks, b, rfl, W6.same _ _ (s6 _ _ hb), (W6.frm L _ upd_same).2, by omega, putK acc ks z6, w6, S6, k6, ?_, s2.trans (s3.trans (s4.trans (s5.trans s6))), ?_⟩
    · have := length_putK acc ks z6
      omega
    · have W7 := W6.putF (o := .dT (putK acc ks z6)) upd_same (fun _ z => by cases z) (fun _ z => by cases z) (fun _ z => by cases z)
      rw [upd_upd] at W7
      exact W7
end
end DL

set_option Elab.async false
set_option linter.all false
set_option maxRecDepth 100000
set_option maxHeartbeats 2000000
/-! Comprehensions of two sources, the inner one a list. -/
namespace DL
open PySem PySem.Spec PyProof.Rows L2 LamX
section
variable {X : Cx} {T : List (Addr × Str)} {W : WX} {χ : XD} {δ : Dn} {w : Wp} {pos : Pos}
/-- the inner walk, from acc on -/
def InD (X : Cx) (T : List (Addr × Str)) (is1 : List Nat) (tg1 : Expr) (ifs1 : List Expr) (elt : Expr) (scope : Scope) (vs1 : List Nat) (δ2 : Dn) (acc : List D) (κ : List D → Wp → Prop) (es : List D) (w1 : Wp) : Prop :=
  ∃ Pv : Nat → List D → Wp → Prop, Pv 0 acc w1 ∧
    (∀ (j : Nat) (d : D) acc w', es[j]? = some d → Pv j acc w' → ∀ s H0 C cl fp, PGL (bx X s H0 scope cl C fp) T is1 tg1 d (wipeD δ2 vs1) w' fun δ3 w2 => ∀ s H0 C cl fp, PTsD (bx X s H0 scope cl C fp) T ifs1 δ3 w2 fun b w3 =>
      if b = true then acc.length < sizeLine ∧ ∀ s H0 C cl fp, PD (bx X s H0 scope cl C fp) T Wf noX elt δ3 w3 fun y w4 => Pv (j + 1) (acc ++ [y]) w4 else Pv (j + 1) acc w3) ∧
    ∀ acc w', Pv es.length acc w' → κ acc w'
/-- the outer walk -/
def Lc2D (X : Cx) (T : List (Addr × Str)) (is is1 : List Nat) (tg : Expr) (ifs : List Expr) (tg1 iter1 : Expr) (ifs1 : List Expr) (elt : Expr) (scope : Scope) (vs vs1 : List Nat) (δ : Dn) (κ : List D → Wp → Prop) (ds : List D) (w1 : Wp) : Prop :=
  ∃ Pv : Nat → List D → Wp → Prop, Pv 0 [] w1 ∧
    (∀ (i : Nat) (d : D) acc w', ds[i]? = some d → Pv i acc w' → ∀ s H0 C cl fp, PGL (bx X s H0 scope cl C fp) T is tg d (wipeD δ vs) w' fun δ2 w2 => ∀ s H0 C cl fp, PTsD (bx X s H0 scope cl C fp) T ifs δ2 w2 fun b w3 =>
      if b = true then ∀ s H0 C cl fp, PD (bx X s H0 scope cl C fp) T Wf noX iter1 δ2 w3 fun y w4 => ∃ es, y = .lst es ∧ InD X T is1 tg1 ifs1 elt scope vs1 δ2 acc (Pv (i + 1)) es w4 else Pv (i + 1) acc w3) ∧
    ∀ acc w', Pv ds.length acc w' → κ acc w'
theorem pd_lc2 {elt tg iter tg1 iter1 : Expr} {ifs ifs1 : List Expr} {scope : Scope} (own : List (Str × Nat)) (is is1 vs1 : List Nat) {κ : D → Wp → Prop} (hc : X.calm = true) (hN : X.N.Nodup) (ok : BlkOk X.N X.env.scope scope own) (hsub : ∀ i ∈ is, i ∈ own.map (·.2)) (hv : ∀ i ∈ vs1, i ∈ own.map (·.2)) (hsub1 : ∀ i ∈ is1, i ∈ vs1)
    (h : IterD X T W χ tg iter δ w (Lc2D X T is is1 tg ifs tg1 iter1 ifs1 elt scope (own.map (·.2)) vs1 δ (fun acc w' => κ (.lst acc) w'))) (hs : ∀ x, foldedSetIterable iter X.env x = pure x := by intro _; rfl) (hs1 : ∀ env x, foldedSetIterable iter1 env x = pure x := by intro _ _; rfl) : PD X T W χ (.ListComp elt [⟨tg, iter, ifs, 0⟩, ⟨tg1, iter1, ifs1, 0⟩] scope pos) δ w κ := fun F σ S H Q hE hW hX hK => by
  obtain ⟨wi, hi, h⟩ := h
  refine wp_pe (pe_lc2 hc hN hi ok hv pg_bx pt_bx (wi1 := iList X.K (lcE X scope iter1)) (fun s H C cl fp => pi_list (X := X.blk s H scope (compEnvC scope cl C X.env) fp) (pe_bx s H C cl fp)) pg_bx pt_bx pe_bx hs hs1) ?_
  refine h F σ S H _ hE hW hX fun ds w1 S1 H1 J G Y k s1 W1 ww hG hY L nL => ?_
  obtain ⟨Pv, p0, turn, done⟩ := k
  have fL : F L = none := (W1.free nL).2.2
  let P : Nat → Hp → Prop := fun i H' => ∃ acc w' S' xs, Pv i acc w' ∧ Same S1 S' ∧ World X.K T S' w' (upd F L (.lst xs)) H' ∧ RepL X.K S' acc xs
  refine ⟨fun i m H => m = ds.length - i ∧ i ≤ ds.length ∧ P i H, ⟨ds.length, rfl, Nat.zero_le _, [], w1, S1, [], p0, Same.refl _, W1.takeF nL (fun _ z => by cases z), rfl⟩, ?_⟩
  rintro i m H' ⟨hm, hi', acc, w', S', xs, pv, s2, W2, ra⟩
  have gg := hG S' w' _ H' s2 W2
  cases Nat.lt_or_ge i ds.length with
  | inr hge =>
    obtain rfl : i = ds.length := Nat.le_antisymm hi' hge
    exact Or.inl ⟨ww.stops H' gg, fin_stay hK L acc w' S' xs H' (done acc w' pv) (s1.trans s2) fL W2 ra⟩
  | inl hlt =>
    refine Or.inr ⟨ww.goes i H' hlt gg, P (i + 1), fun H2 p2 => ⟨ds.length - (i + 1), by omega, rfl, hlt, p2⟩, fun x H3 y => ?_⟩
    obtain ⟨S3, s3, W3, r⟩ := hY i ds[i] S' w' _ H' x H3 (List.getElem?_eq_getElem hlt) s2 W2 (ww.yields i H' x H3 hlt gg y)
    intro s H0 C cl fp
    refine turn i ds[i] acc w' (List.getElem?_eq_getElem hlt) pv s H0 C cl fp (upd F L (.lst xs)) x (L2.wipe σ (own.map (·.2))) S3 H3 _ r ((hE.mono (s1.trans (s2.trans s3))).wipe _) W3 fun δ2 w2 σ2 S4 H4 k s4 hE4 W4 o4 l4 => ?_
    refine ⟨?_, ?_⟩
    · rw [wipe_eq (σ1 := L2.wipe σ (own.map (·.2))) (σ2 := σ2) l4 fun j hj => o4 j fun z => hj (hsub j z)]
      exact wipe_eq (L2.wipe_length σ _) fun j hj => L2.wipe_out hj
    intro s H0 C cl fp
    refine k s H0 C cl fp (upd F L (.lst xs)) σ2 S4 H4 _ hE4 W4 fun b w5 S5 H5 k5 s5 W5 => ?_
    have s25 : Same S1 S5 := s2.trans (s3.trans (s4.trans s5))
    have ra5 : RepL X.K S5 acc xs := ra.mono (s3.trans (s4.trans s5))
    cases b with
    | false =>
      rw [if_neg Bool.false_ne_true] at k5 ⊢
      exact ⟨acc, w5, S5, xs, k5, s25, W5, ra5⟩
    | true =>
      rw [if_pos rfl] at k5 ⊢
      intro s H0 C cl fp
      refine k5 s H0 C cl fp (upd F L (.lst xs)) σ2 S5 H5 _ (hE4.mono s5) W5 exf fun d6 w6 v6 S6 H6 k6 s6 W6 r6 => ?_
      obtain ⟨es, rfl, Pv1, q0, turn1, done1⟩ := k6
      obtain ⟨a, zs, rfl, h1, h2⟩ := r6
      refine ⟨a, rfl, ⟨zs, SqL.of (W6.same _ _ h1)⟩, ?_⟩
      have w2' := walk_list (K := X.K) (a := a) (xs := zs)
      rw [h2.length] at w2'
      let P1 : Nat → Hp → Prop := fun j H' => ∃ acc w' S' xs, Pv1 j acc w' ∧ Same S6 S' ∧ World X.K T S' w' (upd F L (.lst xs)) H' ∧ RepL X.K S' acc xs
      refine ⟨fun j m H => m = es.length - j ∧ j ≤ es.length ∧ P1 j H, ⟨es.length, rfl, Nat.zero_le _, acc, w6, S6, xs, q0, Same.refl _, W6, ra5.mono s6⟩, ?_⟩
      rintro j m1 H7 ⟨hm1, hj, acc7, w7, S7, xs7, pv7, s7, W7, ra7⟩
      have g7 : SqL X.K H7 a zs := SqL.of (W7.same _ _ (s7 _ _ h1))
      cases Nat.lt_or_ge j es.length with
      | inr hge =>
        obtain rfl : j = es.length := Nat.le_antisymm hj hge
        exact Or.inl ⟨w2'.stops H7 g7, acc7, w7, S7, xs7, done1 acc7 w7 pv7, s25.trans (s6.trans s7), W7, ra7⟩
      | inl hlt1 =>
        refine Or.inr ⟨w2'.goes j H7 hlt1 g7, P1 (j + 1), fun H2 p2 => ⟨es.length - (j + 1), by omega, rfl, hlt1, p2⟩, fun x H8 y => ?_⟩
        obtain ⟨rfl, hx⟩ := w2'.yields j H7 x H8 hlt1 g7 y
        obtain ⟨v, h3, h4⟩ := h2.get (List.getElem?_eq_getElem hlt1)
        rw [hx] at h3
        cases h3
        intro s H0 C cl fp
        refine turn1 j es[j] acc7 w7 (List.getElem?_eq_getElem hlt1) pv7 s H0 C cl fp (upd F L (.lst xs7)) x (L2.wipe σ2 vs1) S7 H8 _ (h4.mono s7) ((hE4.mono (s5.trans (s6.trans s7))).wipe _) W7 fun δ3 w8 σ3 S8 H9 k8 s8 hE8 W8 o8 l8 => ?_
        refine ⟨?_, ?_⟩
        · rw [wipe_eq (σ1 := L2.wipe σ2 vs1) (σ2 := σ3) l8 fun j hj => o8 j fun z => hj (hsub1 j z)]
          exact wipe_eq (L2.wipe_length σ2 _) fun j hj => L2.wipe_out hj
        intro s H0 C cl fp
        refine k8 s H0 C cl fp (upd F L (.lst xs7)) σ3 S8 H9 _ hE8 W8 fun b w9 S9 H10 k9 s9 W9 => ?_
        cases b with
        | false =>
          rw [if_neg Bool.false_ne_true] at k9 ⊢
          exact ⟨acc7, w9, S9, xs7, k9, s7.trans (s8.trans s9), W9, ra7.mono (s8.trans s9)⟩
        | true =>
          rw [if_pos rfl] at k9 ⊢
          obtain ⟨hz, k9⟩ := k9
          intro s H0 C cl fp
          refine k9 s H0 C cl fp (upd F L (.lst xs7)) σ3 S9 H10 _ (hE8.mono s9) W9 exf fun d10 w10 v10 S10 H11 k10 s10 W10 r10 => ?_
          have ra10 := ra7.mono (s8.trans (s9.trans s10))
          refine ⟨xs7, (W10.frm L _ upd_same).2, by rw [ra10.length]; exact hz, acc7 ++ [d10], w10, S10, xs7 ++ [v10], k10, s7.trans (s8.trans (s9.trans s10)), ?_, ra10.app (RepL.one r10)⟩
          have W11 := W10.putF (o := .lst (xs7 ++ [v10])) upd_same (fun _ z => by cases z) (fun _ z => by cases z) (fun _ z => by cases z)
          rw [upd_upd] at W11
          exact W11
end
end DL

set_option Elab.async false
set_option linter.all false
set_option maxRecDepth 100000
set_option maxHeartbeats 2000000
/-! What many laws need: owned cells forgotten, bags beside owned cells, small numbers, texts compared. -/
namespace DL
open PySem PySem.Spec PyProof.Rows L2 LamX
section
variable {X : Cx} {T : List (Addr × Str)} {W : WX} {χ : XD} {δ : Dn} {w : Wp} {pos : Pos}
/-- an owned list whose first item is an owned list: both stand from now on -/
theorem pd_frz2 {e : Expr} {κ : D → Wp → Prop} (h : PD X T W χ e δ w fun d w1 => ∃ a a1 es ds, d = R a ∧ w1 a = some (.lst (R a1 :: ds)) ∧ w1 a1 = some (.lst es) ∧ a ≠ a1 ∧ κ (.lst (.lst es :: ds)) (wd (wd w1 a1) a)) : PD X T W χ e δ w κ := fun F σ S H Q hE hW hX hK =>
  h F σ S H Q hE hW hX fun d w1 v S1 H1 k s1 W1 r => by
    obtain ⟨a, a1, es, ds, rfl, hw, hw1, ne, k⟩ := k
    obtain ⟨o, e1, r1, W2⟩ := W1.freeze hw1
    obtain ⟨ys, rfl, r1⟩ := r1
    have hw2 : (wd w1 a1) a = some (.lst (R a1 :: ds)) := by
      show (if a = a1 then none else w1 a) = _
      rw [if_neg ne]
      exact hw
    obtain ⟨o, e2, r2, W3⟩ := W2.freeze hw2
    obtain ⟨xs, rfl, y, zs, rfl, r2, r3⟩ := r2
    have s2 : Same S1 (upd S1 a1 (.lst ys)) := same_upd e1
    have r2' : y = .ref a1 := r2
    subst r2'
    have s3 : Same (upd S1 a1 (.lst ys)) (upd (upd S1 a1 (.lst ys)) a (.lst (.ref a1 :: zs))) := same_upd e2
    have r' : v = .ref a := r
    exact hK _ _ v _ H1 k (s1.trans (s2.trans s3)) W3 ⟨a, _, r', upd_same, .ref a1, zs, rfl, ⟨a1, ys, rfl, s3 _ _ upd_same, (r1.mono s2).mono s3⟩, r3.mono s3⟩
theorem World.drop {K : PySem.W.Frag} {S F H : Hp} (W : World K T S w F H) (a : Addr) : World K T S (wd w a) F H := by
  refine ⟨W.same, W.notbl, fun b k q => ?_, W.frm, W.tabs, W.nf⟩
  have q' : (if b = a then none else w b) = some k := q
  by_cases e : b = a
  · rw [if_pos e] at q'
    cases q'
  · rw [if_neg e] at q'
    exact W.own b k q'
/-- C(e, ..); what is let out comes without the unfinished instance -/
theorem pd_makeX {CX : CXT} {k : Nat} {f C : Addr} {fd : FuncData} {ps : List Str} {sp : SpD} {x : Str} {p : Pos} {e : Expr} {es : List Expr} {κ : D → Wp → Prop} (M : Mk X.K C f) (G : FnOk X.prog X.w X.K X.mg X.base CX k f fd ps (spOf X.K T sp)) (hr : Room (k + 1) X.A) (hm : X.mg x = some (.ref C)) (hb : Binds X.K fd ps []) (hx : ∀ σ, PassesAt CX X σ (WE W σ))
    (h : PAD X T W χ (e :: es) δ w fun ds w1 => ∀ a dx, w1 a = none → sp (R a :: ds) (wu w1 a (.ins C dx [] [])) (fun d w2 => d = N ∧ ∃ ns es, w2 a = some (.ins C dx ns es) ∧ κ (.obj C ns es) (wd w2 a)) (fun C ns fs w2 => χ C ns fs (wd w2 a)))
    (hg : Gl X x := by rfl) (hdb : (x == ("__debug__" : Str)) = false := by decide) (he : starEach (e :: es) X.env = (false, eval e X.env) :: starEach es X.env := by rfl) (hpl : (backTo pos (starEach es X.env)).any (·.1) = false := by rfl) :
    PD X T W χ (.Call (.Name x p) (e :: es) [] pos) δ w κ := fun F σ S H Q hE hW hX hK => wp_pe (pe_makeSD M G hr hg hm hb hx (pa_wp _) hdb he hpl) (by
  refine h F σ S H _ hE hW hX fun ds w1 vs S1 H1 k s1 W1 r => ?_
  intro a dx na ndx nad
  have W2 := (W1.junk (o := .own a) ndx).take (a := a) (h := .ins C dx [] []) (o := .ins C dx []) (by rw [upd_ne (Ne.symm nad)]; exact na) ⟨[], rfl, rfl, rfl⟩
  refine ⟨R a :: ds, _, F, S1, _, _, k a dx (W1.free na).2.1, ⟨_, vs, rfl, rfl, r⟩, W2, ?_, fun C ns fs w' d S' H' x s3 W3 xr => hX C ns fs _ d S' H' x (s1.trans s3) (W3.drop a) xr⟩
  rintro d w' v S' H' ⟨rfl, ns, es, ew, kk⟩ s2 W3 rv
  refine ⟨rv, ?_⟩
  obtain ⟨o, e1, r3, W4⟩ := W3.freeze ew
  obtain ⟨ys, rfl, hys, r4⟩ := r3
  have s3 : Same S' (upd S' a (.ins C dx ys)) := same_upd e1
  exact hK _ _ _ _ _ kk (s1.trans (s2.trans s3)) W4 ⟨a, dx, ys, rfl, upd_same, hys, r4.mono s3⟩)
/-- an owned cell is forgotten -/
theorem pssd_drop {sts : List Stmt} {C : DL.Fin} (a : Addr) (h : PSsD X T W χ sts δ (wd w a) C) : PSsD X T W χ sts δ w C := fun F σ S H E hE hW hX hK => h F σ S H E hE (hW.drop a) hX hK
theorem pd_drop {e : Expr} {κ : D → Wp → Prop} (h : PD X T W χ e δ w fun d w' => ∃ a, κ d (wd w' a)) : PD X T W χ e δ w κ := fun F σ S H Q hE hW hX hK => h F σ S H Q hE hW hX fun d w' v S' H' ⟨a, k⟩ s1 W1 r => hK d _ v S' H' k s1 (W1.drop a) r
theorem pssd_as {sts : List Stmt} {F : DL.Fin} (δ' : Dn) (e : δ = δ') (h : PSsD X T W χ sts δ' w F) : PSsD X T W χ sts δ w F := e ▸ h
theorem rg_ups {K : PySem.W.Frag} {S : Hp} (n : Nat) : RepL K S (ups n) (rgV 0 n) := by
  have e : rgV 0 (n : Int) = (List.range n).map fun (k : Nat) => V.int (k : Int) := by
    unfold rgV
    rw [Int.sub_zero, Int.toNat_natCast]
    refine List.map_congr_left fun k _ => ?_
    rw [Int.zero_add]
  rw [e]
  have h : ∀ l : List Nat, RepL K S (l.map fun (k : Nat) => I (k : Int)) (l.map fun (k : Nat) => V.int (k : Int)) := by
    intro l
    induction l with
    | nil => rfl
    | cons a l ih => exact ⟨V.int a, _, rfl, rfl, ih⟩
  exact h _
/-- list(range(n)) -/
theorem pd_listRg {e : Expr} {p p2 pos2 : Pos} {κ : D → Wp → Prop} (hc : X.calm = true) (hmL : X.mg "list" = none) (hmR : X.mg "range" = none) (h : PD X T W χ e δ w fun d w1 => ∃ n : Nat, d = I (n : Int) ∧ n ≤ 1000 ∧ κ (.lst (ups n)) w1)
    (hg1 : Gl X "list" := by rfl) (hg2 : Gl X "range" := by rfl) (na : starEach [e] X.env = (false, eval e X.env) :: starEach [] X.env := by rfl)
    (nb : starEach [.Call (.Name "range" p2) [e] [] pos2] X.env = (false, eval (.Call (.Name "range" p2) [e] [] pos2) X.env) :: starEach [] X.env := by rfl) : PD X T W χ (.Call (.Name "list" p) [.Call (.Name "range" p2) [e] [] pos2] [] pos) δ w κ := by
  intro F σ S H Q hE hW hX hK
  refine wp_pe (pe_listRg hc hg1 hmL (prg_1 hg2 hmR (pe_wp e) na) nb) ?_
  refine h F σ S H _ hE hW hX fun d w1 v S1 H1 k s1 W1 r => ?_
  obtain ⟨n, rfl, hn, k⟩ := k
  refine ⟨n, r, RgOk.of_le (by omega) (by omega) (by omega) (by omega), fun q hq => ?_⟩
  have s2 : Same S1 (upd S1 q (.lst (rgV 0 n))) := same_upd (W1.free hq).1
  exact hK _ w1 _ _ _ k (s1.trans s2) (W1.laid hq fun _ z => by cases z) ⟨q, _, rfl, upd_same, rg_ups n⟩
theorem psd_cut {st : Stmt} {C : DL.Fin} (J : Dn → Wp → Prop) (h : PSD X T W χ st δ w { C with nx := J }) (k : ∀ δ' w', J δ' w' → C.nx δ' w') : PSD X T W χ st δ w C := fun F σ S H E hE hW hX hK => h F σ S H E hE hW hX ⟨fun δ' w' σ' S' H' j s1 e W1 => hK.nx δ' w' σ' S' H' (k _ _ j) s1 e W1, hK.rt, hK.bk, hK.ct⟩
end
end DL
namespace Tw
open PySem PySem.Spec PyProof.Rows L2 LamX DL
theorem le_line {n : Nat} (h : n ≤ 1000) : n ≤ sizeLine := Nat.le_of_lt (small1000 h)
theorem BagAt.own {w : Wp} {a r c : Addr} {b : Bag} {h : HD} (k : BagAt w a r b) (n : w c = none) : BagAt (wu w c h) a r b := by
  have n1 : a ≠ c := fun z => by rw [← z, k.at_] at n; cases n
  have n2 : r ≠ c := fun z => by rw [← z, k.row] at n; cases n
  exact ⟨by rw [wu_ne n1]; exact k.at_, by rw [wu_ne n2]; exact k.row, k.ne⟩
theorem bag_comm {w : Wp} {a r c : Addr} {b b' : Bag} {h : HD} (k : BagAt w a r b) (n : w c = none) : bagPut (wu w c h) a r b' = wu (bagPut w a r b') c h := by
  have n1 : a ≠ c := fun z => by rw [← z, k.at_] at n; cases n
  have n2 : r ≠ c := fun z => by rw [← z, k.row] at n; cases n
  unfold bagPut
  rw [wu_comm (Ne.symm n1), wu_comm (Ne.symm n2)]
theorem bag_none {w : Wp} {a r c : Addr} {b b' : Bag} (h : bagPut w a r b c = none) : bagPut w a r b' c = none := by
  unfold bagPut at h ⊢
  by_cases h1 : c = r
  · subst h1
    rw [wu_same] at h
    cases h
  · rw [wu_ne h1] at h ⊢
    by_cases h2 : c = a
    · subst h2
      rw [wu_same] at h
      cases h
    · rw [wu_ne h2] at h ⊢
      exact h
/-- the global x is the class at C, its __init__ keeps sp -/
def HasMk (P : Program) (w : PySem.World) (K : PySem.W.Frag) (mg : Str → Option Value) (base : Heap) (T : List (Addr × Str)) (CX : CXT) (x : Str) (C : Addr) (k : Nat) (ps : List Str) (sp : SpD) : Prop :=
  ∃ f fd, FnOk P w K mg base CX k f fd ps (spOf K T sp) ∧ mg x = some (.ref C) ∧ Mk K C f ∧ Binds K fd ps []
section
variable {X : Cx} {T : List (Addr × Str)} {W : WX} {χ : XD} {δ : Dn} {w : Wp} {pos : Pos}
theorem pd_hasmk {CX : CXT} {k : Nat} {C : Addr} {ps : List Str} {sp : SpD} {x : Str} {p : Pos} {e : Expr} {es : List Expr} {κ : D → Wp → Prop} (G : HasMk X.prog X.w X.K X.mg X.base T CX x C k ps sp) (hr : Room (k + 1) X.A) (hx : ∀ σ, PassesAt CX X σ (WE W σ))
    (h : PAD X T W χ (e :: es) δ w fun ds w1 => ∀ a dx, w1 a = none → sp (R a :: ds) (wu w1 a (.ins C dx [] [])) (fun d w2 => d = N ∧ ∃ ns es, w2 a = some (.ins C dx ns es) ∧ κ (.obj C ns es) (wd w2 a)) (fun C ns fs w2 => χ C ns fs (wd w2 a)))
    (hg : Gl X x := by rfl) (hdb : (x == ("__debug__" : Str)) = false := by decide) (he : starEach (e :: es) X.env = (false, eval e X.env) :: starEach es X.env := by rfl) (hpl : (backTo pos (starEach es X.env)).any (·.1) = false := by rfl) :
    PD X T W χ (.Call (.Name x p) (e :: es) [] pos) δ w κ := by
  obtain ⟨f, fd, h1, h2, h3, h4⟩ := G
  exact pd_makeX h3 h1 hr h2 h4 hx h hg hdb he hpl
end
theorem lg9' {z : Int} (h1 : 0 ≤ z) (h2 : z ≤ 1000) : z.natAbs.log2 < 9000 := Nat.lt_trans (log_of (Nat.lt_of_lt_of_le (by omega : _ < 2000) (by decide))) (by decide)
theorem sm_ints {n : Nat} {ns : List Int} (h : ns.length ≤ 1000) : Sm (n + 1) (.lst (ns.map I)) (.lst (ns.map I)) := Sm.map (le_line h) fun x _ => .int x
theorem sm_txts {n : Nat} {ns : List Str} (h : ns.length ≤ 1000) : Sm (n + 1) (.lst (ns.map DL.T)) (.lst (ns.map DL.T)) := Sm.map (le_line h) fun x _ => .str x
theorem int_eq_dec {a b : Nat} : decide (V.int (a : Int) = V.int (b : Int)) = decide (a = b) := by
  refine decide_eq_decide.mpr ⟨fun z => ?_, fun z => ?_⟩
  · have z2 := V.int.inj z
    omega
  · rw [z]
theorem str_eq_dec {a b : Str} : decide (V.str a = V.str b) = decide (a = b) := decide_eq_decide.mpr ⟨fun z => V.str.inj z, fun z => by rw [z]⟩
/-- two texts compared, the answer known -/
theorem vr_eqT {K : PySem.W.Frag} {T : List (Addr × Str)} {w : Wp} {κ : D → Wp → Prop} {a b : Str} (v : Bool) (e : decide (a = b) = v) (k : κ (B v) w) : VR2 K T rEq (DL.T a) (DL.T b) w κ := by
  refine vr_eq rfl ?_
  rw [str_eq_dec, e]
  exact k
theorem vr_neT {K : PySem.W.Frag} {T : List (Addr × Str)} {w : Wp} {κ : D → Wp → Prop} {a b : Str} (v : Bool) (e : decide (a = b) = v) (k : κ (B (!v)) w) : VR2 K T rNe (DL.T a) (DL.T b) w κ := by
  refine vr_ne rfl ?_
  rw [str_eq_dec, e]
  exact k
end Tw

set_option Elab.async false
set_option linter.all false
set_option maxRecDepth 100000
set_option maxHeartbeats 2000000
/-! f-strings of texts and of own instances, in data. -/
namespace DL
open PySem PySem.Spec PyProof.Rows L2 LamX
section
variable {X : Cx}
/-- {x}, x an instance with an own __str__ -/
def tFmtO (X : Cx) (C : Addr) (sp : Sp) (te : TE) : TE := fun σ H Q => te σ H fun x H1 => ∃ a dx fs, x = .ref a ∧ H1 a = some (.ins C dx fs) ∧ sp [.ref a] H1 (fun v H' => ∃ z : Str, v = .str z ∧ Q v H') E0
theorem pe_fmtO {C f : Addr} {fd : FuncData} {ps : List Str} {k : Nat} {sp : Sp} {e : Expr} {te : TE} {pos : Pos} (G : FnOk X.prog X.w X.K X.mg X.base CX0 k f fd ps sp) (hr : Room (k + 1) X.A) (hs : PySem.W.findIn X.K (.ref C) "__str__" = some (some (.ref f))) (hf : PySem.W.isFn X.K (.ref f) = true) (hb : Binds X.K fd ps [])
    (hfm : PySem.W.findIn X.K (.ref C) "__format__" = some (some (.builtin "object.__format__"))) (hm : PySem.W.mroIn X.K C (.type "object") = some true) (he : PE X e te) : PE X (.FormattedValue e (-1) none pos) (tFmtO X C sp te) := by
  refine ⟨fun pins s σ H Q I h => ?_⟩
  refine wpAny_FormattedValue_plain (thn (he.run pins s σ H _ I h) fun v s1 hv => ?_)
  obtain ⟨x, H1, I1, rx, a, dx, fs, rfl, ha, hsp⟩ := hv
  cases rx
  obtain ⟨mA, J, _⟩ := ins_get I1.hok ha
  obtain ⟨od, J, _⟩ := J.look
  have hu := hr.units
  refine PySem.W.kfo_fieldS (by show X.A.units + 1 < cLine; omega) I1.kIn J hfm hm hs hf ?_
  have I2 := I1.tok (s1.toks + 1)
  have r2 : Vals [V.ref a] [Value.ref a] := .cons rfl .nil
  have hl : ([Value.ref a] ++ []).length = ps.length := by
    have e := r2.length
    rw [G.len _ _ _ _ hsp] at e
    rw [List.append_nil]
    exact e.symm
  have bb := hb { s1 with toks := s1.toks + 1 } [Value.ref a] I2.kIn hl
  rw [List.append_nil] at bb
  refine wpAny_call (codeAny_mono (G.run X.A.in1 X.stack { s1 with toks := s1.toks + 1 } H1 ⟨[.ref a], []⟩ [.ref a] [.ref a] _ E0 hr.in1 I2.env0.in1 bb r2 hsp) fun r s' hq => ?_)
  cases r with
  | error e => exact hq.elim
  | ok fl =>
    cases fl with
    | ret u =>
      obtain ⟨v', H', I', rv, z, rfl, q⟩ := I2.after hq
      obtain ⟨t, rfl⟩ := rv
      exact ⟨.str z, H', I', ⟨_, rfl⟩, q⟩
    | next => exact False.elim hq
    | brk => exact False.elim hq
    | cont => exact False.elim hq
end
section
variable {X : Cx} {T : List (Addr × Str)} {W : WX} {χ : XD} {δ : Dn} {w : Wp} {pos : Pos}
/-- the parts of an f-string, acc before them -/
def PJD (X : Cx) (T : List (Addr × Str)) (W : WX) (χ : XD) (ts : List TE) (δ : Dn) (w : Wp) (acc : Str) (κ : Str → Wp → Prop) : Prop :=
  ∀ (F : Hp) (σ : L2.St) (S H : Hp) (Q : Str → Hp → Prop), EnvD X.K S δ σ → World X.K T S w F H → ExD X.K T W χ σ S F → (∀ out w' S' H', κ out w' → Same S S' → World X.K T S' w' F H' → Q out H') → tJs ts acc σ H Q
theorem pjd_nil {acc : Str} {κ : Str → Wp → Prop} (k : κ acc w) : PJD X T W χ [] δ w acc κ := fun F σ S H Q hE hW hX hK => hK acc w S H k (Same.refl _) hW
theorem pjd_str {acc a : Str} {ts : List TE} {κ : Str → Wp → Prop} (hz : (acc ++ a).length ≤ sizeLine) (k : PJD X T W χ ts δ w (acc ++ a) κ) : PJD X T W χ (tC (.str a) :: ts) δ w acc κ := fun F σ S H Q hE hW hX hK =>
  ⟨a, rfl, hz, k F σ S H Q hE hW hX hK⟩
theorem pjd_fmt {acc : Str} {e : Expr} {ts : List TE} {κ : Str → Wp → Prop} (h : PD X T W χ e δ w fun d w1 => ∃ y : Str, d = DL.T y ∧ y.length ≤ sizeLine ∧ (acc ++ y).length ≤ sizeLine ∧ PJD X T W χ ts δ w1 (acc ++ y) κ) : PJD X T W χ (tFmt (wpE X e) :: ts) δ w acc κ := fun F σ S H Q hE hW hX hK => by
  refine h F σ S H _ hE hW hX fun d w1 v S1 H1 k s1 W1 r => ?_
  obtain ⟨y, rfl, h1, h2, k⟩ := k
  have r' : v = .str y := r
  subst r'
  exact .inl ⟨y, rfl, h1, y, rfl, h2, k F σ S1 H1 Q (hE.mono s1) W1 (hX.mono s1) fun out w' S' H' kk s2 W2 => hK out w' S' H' kk (s1.trans s2) W2⟩
theorem pjd_own {acc : Str} {e : Expr} {ts : List TE} {C : Addr} {sp : SpD} {κ : Str → Wp → Prop} (h : PD X T W χ e δ w fun d w1 => (∃ ns ds, d = .obj C ns ds) ∧ sp [d] w1 (fun d' w' => ∃ z : Str, d' = DL.T z ∧ (acc ++ z).length ≤ sizeLine ∧ PJD X T W χ ts δ w' (acc ++ z) κ) noX) :
    PJD X T W χ (tFmtO X C (spOf X.K T sp) (wpE X e) :: ts) δ w acc κ := fun F σ S H Q hE hW hX hK => by
  refine h F σ S H _ hE hW hX fun d w1 v S1 H1 k s1 W1 r => ?_
  obtain ⟨⟨ns, ds, rfl⟩, k⟩ := k
  obtain ⟨a, dx, ys, rfl, h1, h2, h3⟩ := id r
  refine ⟨a, dx, ys, rfl, W1.same _ _ h1, [.obj C ns ds], w1, F, S1, _, noX, k, ⟨_, _, rfl, r, rfl⟩, W1, ?_, fun _ _ _ _ _ _ _ z => z.elim⟩
  rintro d' w' v S' H' ⟨z, rfl, hz, kk⟩ s2 W2 r2
  have r' : v = .str z := r2
  subst r'
  exact ⟨z, rfl, z, rfl, hz, kk F σ S' H' Q ((hE.mono s1).mono s2) W2 ((hX.mono s1).mono s2) fun out w3 S3 H3 k3 s3 W3 => hK out w3 S3 H3 k3 (s1.trans (s2.trans s3)) W3⟩
/-- f'..' of two parts or more -/
theorem pd_js {v1 v2 : Expr} {rest : List Expr} {ts : List TE} {κ : D → Wp → Prop} (hj : PJ X (v1 :: v2 :: rest) ts) (h : PJD X T W χ ts δ w Str.empty fun s w' => κ (DL.T s) w') : PD X T W χ (.JoinedStr (v1 :: v2 :: rest) pos) δ w κ := fun F σ S H Q hE hW hX hK =>
  wp_pe (pe_joined hj) (h F σ S H _ hE hW hX fun out w' S' H' k s1 W1 => hK _ w' _ S' H' k s1 W1 rfl)
end
end DL

set_option Elab.async false
set_option linter.all false
set_option maxRecDepth 100000
set_option maxHeartbeats 2000000
/-! Sayings as trees; the law's tuples; the parts. -/
namespace Tw
open PySem PySem.Spec PyProof.Rows L2 LamX DL
inductive Md
  | kn | wh | co
  deriving DecidableEq
inductive Tr
  | tru (b : Bool)
  | fact (n : Str)
  | neg (t : Tr)
  | bin (a : Bool) (l r : Tr)
  | md (k : Md) (g : Str) (t : Tr)
  deriving DecidableEq
def Md.nm : Md → Str
  | .kn => "knows"
  | .wh => "whether"
  | .co => "common"
def binN : Bool → Str
  | true => "and"
  | false => "or"
/-- the law's tuple of a tree -/
def trD : Tr → D
  | .tru b => .tup [DL.T "truth", B b]
  | .fact n => .tup [DL.T "fact", DL.T n]
  | .neg t => .tup [DL.T "not", trD t]
  | .bin a l r => .tup [DL.T (binN a), trD l, trD r]
  | .md k g t => .tup [DL.T k.nm, DL.T g, trD t]
def Tr.parts : Tr → List Tr
  | .tru b => [.tru b]
  | .fact n => [.fact n]
  | .neg t => .neg t :: t.parts
  | .bin a l r => .bin a l r :: (l.parts ++ r.parts)
  | .md k g t => .md k g t :: t.parts
def Tr.size : Tr → Nat
  | .tru _ => 1
  | .fact _ => 1
  | .neg t => t.size + 1
  | .bin _ l r => l.size + r.size + 1
  | .md _ _ t => t.size + 1
theorem parts_len : ∀ t : Tr, t.parts.length = t.size
  | .tru _ => rfl
  | .fact _ => rfl
  | .neg t => by
    show (_ :: t.parts).length = _
    rw [List.length_cons, parts_len t]
    rfl
  | .bin _ l r => by
    show (_ :: (l.parts ++ r.parts)).length = _
    rw [List.length_cons, List.length_append, parts_len l, parts_len r]
    rfl
  | .md _ _ t => by
    show (_ :: t.parts).length = _
    rw [List.length_cons, parts_len t]
    rfl
theorem size_pos : ∀ t : Tr, 1 ≤ t.size
  | .tru _ => Nat.le_refl _
  | .fact _ => Nat.le_refl _
  | .neg t => Nat.succ_le_succ (Nat.zero_le _)
  | .bin _ l r => Nat.succ_le_succ (Nat.zero_le _)
  | .md _ _ t => Nat.succ_le_succ (Nat.zero_le _)
abbrev sPts : Stmt := top 33
def spPts (m : Nat) : SpD := fun ds w κ χ => ∃ t : Tr, ds = [trD t] ∧ t.size ≤ m ∧ t.size ≤ 500 ∧ κ (.lst (t.parts.map trD)) w
section
variable {P : Program} {w : PySem.World} {K : PySem.W.Frag} {mg : Str → Option Value} {base : Heap} {T : List (Addr × Str)}
theorem scPts : FnScope ["tree"] ["tree"] (defScope sPts) := ⟨rfl, rfl, rfl, by decide +kernel, rfl, by decide +kernel, by decide +kernel⟩
theorem pts_step {f : Addr} {fd : FuncData} (G : Fun K "_law_parts" "_law_parts" sPts f fd) (hf : mg "_law_parts" = some (.ref f)) (hb : Binds K fd ["tree"] []) (m : Nat)
    (ih : ∀ j, m = j + 1 → FnOk P w K mg base CX0 m f fd ["tree"] (spOf K T (spPts j))) : FnOk P w K mg base CX0 (m + 1) f fd ["tree"] (spOf K T (spPts m)) := by
  refine fnD G scPts (fun ds w κ χ h => ?_) (fun cdv A outer s H E ds w0 κ χ hr h => ?_)
  · obtain ⟨t, rfl, _⟩ := h
    rfl
  obtain ⟨t, rfl, hsz, h500, k⟩ := h
  have nd := scPts.nd
  cases t with
  | tru b =>
    refine pssd_cons (psd_if ?_)
    refine pwd_pt ?_
    refine pwd_or ?_
    (refine ptd_cmp op_eq ?_; refine pd_ix ix_tup ?_; refine pd_var (i := 0) rfl rfl ?_; refine pd_int ?_; refine vr_ixT (i := 0) rfl ?_; refine pd_str ?_; refine vr_eqT true (by decide +kernel) ⟨_, rfl, ?_⟩)
    refine iteT ?_
    refine iteT ?_
    refine pssd_one (psd_ret ?_)
    (refine pd_lst ?_; (refine pad_cons ?_; refine pd_var (i := 0) rfl rfl ?_); refine pad_nil ⟨by show 1 ≤ sizeLine; decide, ?_⟩)
    exact k
  | fact n =>
    refine pssd_cons (psd_if ?_)
    refine pwd_pt ?_
    refine pwd_or ?_
    (refine ptd_cmp op_eq ?_; refine pd_ix ix_tup ?_; refine pd_var (i := 0) rfl rfl ?_; refine pd_int ?_; refine vr_ixT (i := 0) rfl ?_; refine pd_str ?_; refine vr_eqT false (by decide +kernel) ⟨_, rfl, ?_⟩)
    refine iteF ?_
    refine pwd_or1 ?_
    (refine ptd_cmp op_eq ?_; refine pd_ix ix_tup ?_; refine pd_var (i := 0) rfl rfl ?_; refine pd_int ?_; refine vr_ixT (i := 0) rfl ?_; refine pd_str ?_; refine vr_eqT true (by decide +kernel) ⟨_, rfl, ?_⟩)
    refine iteT ?_
    refine pssd_one (psd_ret ?_)
    (refine pd_lst ?_; (refine pad_cons ?_; refine pd_var (i := 0) rfl rfl ?_); refine pad_nil ⟨by show 1 ≤ sizeLine; decide, ?_⟩)
    exact k
  | neg t =>
    have hp := parts_len t
    have hs : t.size + 1 ≤ m := hsz
    have h5 : t.size + 1 ≤ 500 := h500
    obtain ⟨j, rfl⟩ : ∃ j, m = j + 1 := ⟨m - 1, by omega⟩
    (refine pssd_cons (psd_if ?_); refine pwd_pt ?_; refine pwd_or ?_; (refine ptd_cmp op_eq ?_; refine pd_ix ix_tup ?_; refine pd_var (i := 0) rfl rfl ?_; refine pd_int ?_; refine vr_ixT (i := 0) rfl ?_; refine pd_str ?_; refine vr_eqT false (by decide +kernel) ⟨_, rfl, ?_⟩); refine iteF ?_; refine pwd_or1 ?_; (refine ptd_cmp op_eq ?_; refine pd_ix ix_tup ?_; refine pd_var (i := 0) rfl rfl ?_; refine pd_int ?_; refine vr_ixT (i := 0) rfl ?_; refine pd_str ?_; refine vr_eqT false (by decide +kernel) ⟨_, rfl, ?_⟩); refine iteF ?_; refine pssd_nil ?_)
    refine pssd_cons (psd_if ?_)
    (refine ptd_cmp op_eq ?_; refine pd_ix ix_tup ?_; refine pd_var (i := 0) rfl rfl ?_; refine pd_int ?_; refine vr_ixT (i := 0) rfl ?_; refine pd_str ?_; refine vr_eqT true (by decide +kernel) ⟨_, rfl, ?_⟩)
    refine iteT ?_
    refine pssd_one (psd_ret ?_)
    refine pd_op op_cat ?_
    (refine pd_lst ?_; (refine pad_cons ?_; refine pd_var (i := 0) rfl rfl ?_); refine pad_nil ⟨by show 1 ≤ sizeLine; decide, ?_⟩)
    refine pd_call (ih j rfl) hr hf G.kp hb (fun _ => pass0At) ?_
    (refine pad_cons ?_; refine pd_ix ix_tup ?_; refine pd_var (i := 0) rfl rfl ?_; refine pd_int ?_; refine vr_ixT (i := 1) rfl ?_)
    refine pad_nil ?_
    refine ⟨t, rfl, by omega, by omega, ?_⟩
    refine vr_cat (by rw [List.length_map, sizeLine_eq]; show 1 + _ ≤ _; omega) ?_
    exact k
  | bin a l r =>
    have hp := parts_len l
    have hq := parts_len r
    have hs : l.size + r.size + 1 ≤ m := hsz
    have h5 : l.size + r.size + 1 ≤ 500 := h500
    obtain ⟨j, rfl⟩ : ∃ j, m = j + 1 := ⟨m - 1, by omega⟩
    have fin : ∀ (p1 p2 p3 p4 p5 p6 p7 p8 p9 p10 p11 p12 p13 p14 p15 : Pos) (t1 t2 : Nat) (nx bk ct : Dn → Wp → Prop), PSsD (cxOf CX0 P w K mg base ["tree"] "_law_parts" (defScope sPts) f cdv A outer s H E).nox T Wf noX
        [.Return (some (.BinOp (.BinOp (.List [.Name "tree" p1] p2) .Add (.Call (.Name "_law_parts" p3) [.Subscript (.Name "tree" p4) (.Constant (.int 1) t1 p5) p6] [] p7) p8) .Add (.Call (.Name "_law_parts" p9) [.Subscript (.Name "tree" p10) (.Constant (.int 2) t2 p11) p12] [] p13) p14)) p15]
        [some (trD (.bin a l r))] w0 { nx := nx, rt := κ, bk := bk, ct := ct } := fun p1 p2 p3 p4 p5 p6 p7 p8 p9 p10 p11 p12 p13 p14 p15 t1 t2 nx bk ct => by
      refine pssd_one (psd_ret ?_)
      refine pd_op op_cat ?_
      refine pd_op op_cat ?_
      (refine pd_lst ?_; (refine pad_cons ?_; refine pd_var (i := 0) rfl rfl ?_); refine pad_nil ⟨by show 1 ≤ sizeLine; decide, ?_⟩)
      refine pd_call (ih j rfl) hr hf G.kp hb (fun _ => pass0At) ?_
      (refine pad_cons ?_; refine pd_ix ix_tup ?_; refine pd_var (i := 0) rfl rfl ?_; refine pd_int ?_; refine vr_ixT (i := 1) rfl ?_)
      refine pad_nil ?_
      refine ⟨l, rfl, by omega, by omega, ?_⟩
      refine vr_cat (by rw [List.length_map, sizeLine_eq]; show 1 + _ ≤ _; omega) ?_
      refine pd_call (ih j rfl) hr hf G.kp hb (fun _ => pass0At) ?_
      (refine pad_cons ?_; refine pd_ix ix_tup ?_; refine pd_var (i := 0) rfl rfl ?_; refine pd_int ?_; refine vr_ixT (i := 2) rfl ?_)
      refine pad_nil ?_
      refine ⟨r, rfl, by omega, by omega, ?_⟩
      refine vr_cat (by rw [List.length_append, List.length_map, List.length_map, sizeLine_eq]; show 1 + _ + _ ≤ _; omega) ?_
      have e : [trD (.bin a l r)] ++ l.parts.map trD ++ r.parts.map trD = (Tr.bin a l r).parts.map trD := by
        show _ = (Tr.bin a l r :: (l.parts ++ r.parts)).map trD
        rw [List.map_cons, List.map_append]
        rfl
      rw [e]
      exact k
    cases a with
    | true =>
      (refine pssd_cons (psd_if ?_); refine pwd_pt ?_; refine pwd_or ?_; (refine ptd_cmp op_eq ?_; refine pd_ix ix_tup ?_; refine pd_var (i := 0) rfl rfl ?_; refine pd_int ?_; refine vr_ixT (i := 0) rfl ?_; refine pd_str ?_; refine vr_eqT false (by decide +kernel) ⟨_, rfl, ?_⟩); refine iteF ?_; refine pwd_or1 ?_; (refine ptd_cmp op_eq ?_; refine pd_ix ix_tup ?_; refine pd_var (i := 0) rfl rfl ?_; refine pd_int ?_; refine vr_ixT (i := 0) rfl ?_; refine pd_str ?_; refine vr_eqT false (by decide +kernel) ⟨_, rfl, ?_⟩); refine iteF ?_; refine pssd_nil ?_)
      (refine pssd_cons (psd_if ?_); (refine ptd_cmp op_eq ?_; refine pd_ix ix_tup ?_; refine pd_var (i := 0) rfl rfl ?_; refine pd_int ?_; refine vr_ixT (i := 0) rfl ?_; refine pd_str ?_; refine vr_eqT false (by decide +kernel) ⟨_, rfl, ?_⟩); refine iteF ?_; refine pssd_nil ?_)
      refine pssd_cons (psd_if ?_)
      refine pwd_pt ?_
      refine pwd_or ?_
      (refine ptd_cmp op_eq ?_; refine pd_ix ix_tup ?_; refine pd_var (i := 0) rfl rfl ?_; refine pd_int ?_; refine vr_ixT (i := 0) rfl ?_; refine pd_str ?_; refine vr_eqT true (by decide +kernel) ⟨_, rfl, ?_⟩)
      refine iteT ?_
      refine iteT ?_
      exact fin _ _ _ _ _ _ _ _ _ _ _ _ _ _ _ _ _ _ _ _
    | false =>
      (refine pssd_cons (psd_if ?_); refine pwd_pt ?_; refine pwd_or ?_; (refine ptd_cmp op_eq ?_; refine pd_ix ix_tup ?_; refine pd_var (i := 0) rfl rfl ?_; refine pd_int ?_; refine vr_ixT (i := 0) rfl ?_; refine pd_str ?_; refine vr_eqT false (by decide +kernel) ⟨_, rfl, ?_⟩); refine iteF ?_; refine pwd_or1 ?_; (refine ptd_cmp op_eq ?_; refine pd_ix ix_tup ?_; refine pd_var (i := 0) rfl rfl ?_; refine pd_int ?_; refine vr_ixT (i := 0) rfl ?_; refine pd_str ?_; refine vr_eqT false (by decide +kernel) ⟨_, rfl, ?_⟩); refine iteF ?_; refine pssd_nil ?_)
      (refine pssd_cons (psd_if ?_); (refine ptd_cmp op_eq ?_; refine pd_ix ix_tup ?_; refine pd_var (i := 0) rfl rfl ?_; refine pd_int ?_; refine vr_ixT (i := 0) rfl ?_; refine pd_str ?_; refine vr_eqT false (by decide +kernel) ⟨_, rfl, ?_⟩); refine iteF ?_; refine pssd_nil ?_)
      refine pssd_cons (psd_if ?_)
      refine pwd_pt ?_
      refine pwd_or ?_
      (refine ptd_cmp op_eq ?_; refine pd_ix ix_tup ?_; refine pd_var (i := 0) rfl rfl ?_; refine pd_int ?_; refine vr_ixT (i := 0) rfl ?_; refine pd_str ?_; refine vr_eqT false (by decide +kernel) ⟨_, rfl, ?_⟩)
      refine iteF ?_
      refine pwd_or1 ?_
      (refine ptd_cmp op_eq ?_; refine pd_ix ix_tup ?_; refine pd_var (i := 0) rfl rfl ?_; refine pd_int ?_; refine vr_ixT (i := 0) rfl ?_; refine pd_str ?_; refine vr_eqT true (by decide +kernel) ⟨_, rfl, ?_⟩)
      refine iteT ?_
      exact fin _ _ _ _ _ _ _ _ _ _ _ _ _ _ _ _ _ _ _ _
  | md q g t =>
    have hp := parts_len t
    have hs : t.size + 1 ≤ m := hsz
    have h5 : t.size + 1 ≤ 500 := h500
    obtain ⟨j, rfl⟩ : ∃ j, m = j + 1 := ⟨m - 1, by omega⟩
    have fin : PSsD (cxOf CX0 P w K mg base ["tree"] "_law_parts" (defScope sPts) f cdv A outer s H E).nox T Wf noX ((defBody sPts).drop 3) [some (trD (.md q g t))] w0 { nx := fun _ w' => κ DL.N w', rt := κ } := by
      refine pssd_one (psd_ret ?_)
      refine pd_op op_cat ?_
      (refine pd_lst ?_; (refine pad_cons ?_; refine pd_var (i := 0) rfl rfl ?_); refine pad_nil ⟨by show 1 ≤ sizeLine; decide, ?_⟩)
      refine pd_call (ih j rfl) hr hf G.kp hb (fun _ => pass0At) ?_
      (refine pad_cons ?_; refine pd_ix ix_tup ?_; refine pd_var (i := 0) rfl rfl ?_; refine pd_int ?_; refine vr_ixT (i := 2) rfl ?_)
      refine pad_nil ?_
      refine ⟨t, rfl, by omega, by omega, ?_⟩
      refine vr_cat (by rw [List.length_map, sizeLine_eq]; show 1 + _ ≤ _; omega) ?_
      exact k
    cases q with
    | kn =>
      (refine pssd_cons (psd_if ?_); refine pwd_pt ?_; refine pwd_or ?_; (refine ptd_cmp op_eq ?_; refine pd_ix ix_tup ?_; refine pd_var (i := 0) rfl rfl ?_; refine pd_int ?_; refine vr_ixT (i := 0) rfl ?_; refine pd_str ?_; refine vr_eqT false (by decide +kernel) ⟨_, rfl, ?_⟩); refine iteF ?_; refine pwd_or1 ?_; (refine ptd_cmp op_eq ?_; refine pd_ix ix_tup ?_; refine pd_var (i := 0) rfl rfl ?_; refine pd_int ?_; refine vr_ixT (i := 0) rfl ?_; refine pd_str ?_; refine vr_eqT false (by decide +kernel) ⟨_, rfl, ?_⟩); refine iteF ?_; refine pssd_nil ?_)
      (refine pssd_cons (psd_if ?_); (refine ptd_cmp op_eq ?_; refine pd_ix ix_tup ?_; refine pd_var (i := 0) rfl rfl ?_; refine pd_int ?_; refine vr_ixT (i := 0) rfl ?_; refine pd_str ?_; refine vr_eqT false (by decide +kernel) ⟨_, rfl, ?_⟩); refine iteF ?_; refine pssd_nil ?_)
      (refine pssd_cons (psd_if ?_); refine pwd_pt ?_; refine pwd_or ?_; (refine ptd_cmp op_eq ?_; refine pd_ix ix_tup ?_; refine pd_var (i := 0) rfl rfl ?_; refine pd_int ?_; refine vr_ixT (i := 0) rfl ?_; refine pd_str ?_; refine vr_eqT false (by decide +kernel) ⟨_, rfl, ?_⟩); refine iteF ?_; refine pwd_or1 ?_; (refine ptd_cmp op_eq ?_; refine pd_ix ix_tup ?_; refine pd_var (i := 0) rfl rfl ?_; refine pd_int ?_; refine vr_ixT (i := 0) rfl ?_; refine pd_str ?_; refine vr_eqT false (by decide +kernel) ⟨_, rfl, ?_⟩); refine iteF ?_; refine pssd_nil ?_)
      exact fin
    | wh =>
      (refine pssd_cons (psd_if ?_); refine pwd_pt ?_; refine pwd_or ?_; (refine ptd_cmp op_eq ?_; refine pd_ix ix_tup ?_; refine pd_var (i := 0) rfl rfl ?_; refine pd_int ?_; refine vr_ixT (i := 0) rfl ?_; refine pd_str ?_; refine vr_eqT false (by decide +kernel) ⟨_, rfl, ?_⟩); refine iteF ?_; refine pwd_or1 ?_; (refine ptd_cmp op_eq ?_; refine pd_ix ix_tup ?_; refine pd_var (i := 0) rfl rfl ?_; refine pd_int ?_; refine vr_ixT (i := 0) rfl ?_; refine pd_str ?_; refine vr_eqT false (by decide +kernel) ⟨_, rfl, ?_⟩); refine iteF ?_; refine pssd_nil ?_)
      (refine pssd_cons (psd_if ?_); (refine ptd_cmp op_eq ?_; refine pd_ix ix_tup ?_; refine pd_var (i := 0) rfl rfl ?_; refine pd_int ?_; refine vr_ixT (i := 0) rfl ?_; refine pd_str ?_; refine vr_eqT false (by decide +kernel) ⟨_, rfl, ?_⟩); refine iteF ?_; refine pssd_nil ?_)
      (refine pssd_cons (psd_if ?_); refine pwd_pt ?_; refine pwd_or ?_; (refine ptd_cmp op_eq ?_; refine pd_ix ix_tup ?_; refine pd_var (i := 0) rfl rfl ?_; refine pd_int ?_; refine vr_ixT (i := 0) rfl ?_; refine pd_str ?_; refine vr_eqT false (by decide +kernel) ⟨_, rfl, ?_⟩); refine iteF ?_; refine pwd_or1 ?_; (refine ptd_cmp op_eq ?_; refine pd_ix ix_tup ?_; refine pd_var (i := 0) rfl rfl ?_; refine pd_int ?_; refine vr_ixT (i := 0) rfl ?_; refine pd_str ?_; refine vr_eqT false (by decide +kernel) ⟨_, rfl, ?_⟩); refine iteF ?_; refine pssd_nil ?_)
      exact fin
    | co =>
      (refine pssd_cons (psd_if ?_); refine pwd_pt ?_; refine pwd_or ?_; (refine ptd_cmp op_eq ?_; refine pd_ix ix_tup ?_; refine pd_var (i := 0) rfl rfl ?_; refine pd_int ?_; refine vr_ixT (i := 0) rfl ?_; refine pd_str ?_; refine vr_eqT false (by decide +kernel) ⟨_, rfl, ?_⟩); refine iteF ?_; refine pwd_or1 ?_; (refine ptd_cmp op_eq ?_; refine pd_ix ix_tup ?_; refine pd_var (i := 0) rfl rfl ?_; refine pd_int ?_; refine vr_ixT (i := 0) rfl ?_; refine pd_str ?_; refine vr_eqT false (by decide +kernel) ⟨_, rfl, ?_⟩); refine iteF ?_; refine pssd_nil ?_)
      (refine pssd_cons (psd_if ?_); (refine ptd_cmp op_eq ?_; refine pd_ix ix_tup ?_; refine pd_var (i := 0) rfl rfl ?_; refine pd_int ?_; refine vr_ixT (i := 0) rfl ?_; refine pd_str ?_; refine vr_eqT false (by decide +kernel) ⟨_, rfl, ?_⟩); refine iteF ?_; refine pssd_nil ?_)
      (refine pssd_cons (psd_if ?_); refine pwd_pt ?_; refine pwd_or ?_; (refine ptd_cmp op_eq ?_; refine pd_ix ix_tup ?_; refine pd_var (i := 0) rfl rfl ?_; refine pd_int ?_; refine vr_ixT (i := 0) rfl ?_; refine pd_str ?_; refine vr_eqT false (by decide +kernel) ⟨_, rfl, ?_⟩); refine iteF ?_; refine pwd_or1 ?_; (refine ptd_cmp op_eq ?_; refine pd_ix ix_tup ?_; refine pd_var (i := 0) rfl rfl ?_; refine pd_int ?_; refine vr_ixT (i := 0) rfl ?_; refine pd_str ?_; refine vr_eqT false (by decide +kernel) ⟨_, rfl, ?_⟩); refine iteF ?_; refine pssd_nil ?_)
      exact fin
theorem ok_pts {f : Addr} {fd : FuncData} (G : Fun K "_law_parts" "_law_parts" sPts f fd) (hf : mg "_law_parts" = some (.ref f)) (hb : Binds K fd ["tree"] []) : ∀ m : Nat, FnOk P w K mg base CX0 (m + 1) f fd ["tree"] (spOf K T (spPts m))
  | 0 => pts_step G hf hb 0 fun j h => by cases h
  | m + 1 => pts_step G hf hb (m + 1) fun j h => by
    cases h
    exact ok_pts G hf hb m
end
end Tw

set_option Elab.async false
set_option linter.all false
set_option maxRecDepth 100000
set_option maxHeartbeats 2000000
/-! Letters, names, groups: the draws. -/
namespace DL
open PySem PySem.Spec PyProof.Rows L2 LamX
theorem vr_ixSx {K : PySem.W.Frag} {T : List (Addr × Str)} {w : Wp} {κ : D → Wp → Prop} {z : Str} {i c : Nat} (hz : z.length ≤ sizeLine) (hi : z.cps.toList[i]? = some c) (k : κ (DL.T ⟨#[c]⟩) w) : VR2 K T rIxS (DL.T z) (I (i : Int)) w κ := fun F S H x y Q hW r1 r2 hK =>
  ⟨z, i, c, r1, r2, hz, atI_nat hi, hK _ w _ S H k (Same.refl _) hW rfl⟩
end DL
namespace Tw
open PySem PySem.Spec PyProof.Rows L2 LamX DL
abbrev cl (s : Str) : List Nat := s.cps.toList
theorem cl_ext {a b : Str} (h : cl a = cl b) : a = b := Str.ext' (Array.toList_inj.mp h)
theorem cl_len (s : Str) : (cl s).length = s.length := Array.length_toList
theorem cl_cat (a b : Str) : cl (a ++ b) = cl a ++ cl b := by
  show (a ++ b).cps.toList = _
  rw [Str.cps_append, Array.toList_append]
theorem join0_two (x y : Str) (r : List Str) : Str.join Str.empty (x :: y :: r) = x ++ Str.empty ++ Str.join Str.empty (y :: r) := rfl
theorem cl_join0 : ∀ ys : List Str, cl (Str.join Str.empty ys) = ys.flatMap cl
  | [] => rfl
  | [x] => by
    show cl x = cl x ++ []
    rw [List.append_nil]
  | x :: y :: r => by
    rw [join0_two, cl_cat, cl_cat, cl_join0 (y :: r)]
    show cl x ++ [] ++ _ = _
    rw [List.append_nil]
    rfl
theorem txt_join0 (ys : List Str) : cl (Txt.join ("" : Str) ys) = ys.flatMap cl := by
  have e : ("" : Str) = Str.empty := by decide +kernel
  have e2 : Txt.join Str.empty ys = Str.join Str.empty ys := StrLaws.glued_eq_join _ _
  rw [e, e2, cl_join0]
def letS (c : Nat) : Str := ⟨#[c]⟩
theorem flat_let (cs : List Nat) : (cs.map letS).flatMap cl = cs := by
  induction cs with
  | nil => rfl
  | cons c cs ih =>
    rw [List.map_cons, List.flatMap_cons, ih]
    rfl
theorem txt_let (cs : List Nat) : Txt.join ("" : Str) (cs.map letS) = ⟨cs.toArray⟩ := cl_ext (by
  rw [txt_join0, flat_let])
theorem sum_let : ∀ cs : List Nat, ((cs.map letS).map (·.length)).sum = cs.length
  | [] => rfl
  | c :: cs => by
    rw [List.map_cons, List.map_cons, List.sum_cons, sum_let cs, List.length_cons, Nat.add_comm]
    rfl
/-- small letters only -/
def Low (s : Str) : Prop := ∀ c ∈ cl s, 97 ≤ c ∧ c ≤ 122
theorem Low.cat {a b : Str} (h : Low a) (k : Low b) : Low (a ++ b) := fun c hc => by
  rw [cl_cat] at hc
  rcases List.mem_append.mp hc with z | z
  · exact h c z
  · exact k c z
def abcT : Str := "abcdefghijklmnopqrstuvwxyz"
theorem abc_len : abcT.length = 26 := by decide +kernel
theorem abc_low : Low abcT := by
  unfold Low
  decide +kernel
structure NameOk (s : Str) : Prop where
  l1 : 1 ≤ s.length
  l8 : s.length ≤ 8
  low : Low s
  nt : s ≠ ("true" : Str)
  nf : s ≠ ("false" : Str)
abbrev sLet : Stmt := top 30
abbrev sNam : Stmt := top 31
abbrev sGrp : Stmt := top 32
def spLet : SpD := fun ds w κ χ => ∃ (a r : Addr) (b : Bag) (t : Str) (m : Nat), ds = [R a, DL.T t, I (m : Int)] ∧ BagAt w a r b ∧ t.length + m ≤ 500 ∧ ∀ (u : Str) (b' : Bag), u.length = m → Low u → κ (DL.T (t ++ u)) (bagPut w a r b')
def spNam : SpD := fun ds w κ χ => ∃ (a r : Addr) (b : Bag), ds = [R a] ∧ BagAt w a r b ∧ ∀ (s : Str) (b' : Bag), NameOk s → κ (DL.T s) (bagPut w a r b')
/-- the letters of a number's bits -/
def grpL (b : Nat) : List Nat := ((List.range 8).filter fun k => decide (b / 2 ^ k % 2 = 1)).map (97 + ·)
def grp (b : Nat) : Str := ⟨(grpL b).toArray⟩
def GroupOk (g : Str) : Prop := ∃ b, 1 ≤ b ∧ b ≤ 255 ∧ g = grp b
def spGrp : SpD := fun ds w κ χ => ∃ (a r : Addr) (b : Bag), ds = [R a] ∧ BagAt w a r b ∧ ∀ (g : Str) (b' : Bag), GroupOk g → κ (DL.T g) (bagPut w a r b')
section
variable {P : Program} {w : PySem.World} {K : PySem.W.Frag} {mg : Str → Option Value} {base : Heap} {T : List (Addr × Str)}
theorem scLet : FnScope ["bag", "text", "many", "letters", "k"] ["bag", "text", "many"] (defScope sLet) := ⟨rfl, rfl, rfl, by decide +kernel, rfl, by decide +kernel, by decide +kernel⟩
theorem ok_let {f : Addr} {fd : FuncData} (G : Fun K "_law_letters" "_law_letters" sLet f fd) (hm : Nm2 mg) (hT : HasF P w K mg base T CX0 "_law_take" 1 ["bag", "many"] spTake) : FnOk P w K mg base CX0 2 f fd ["bag", "text", "many"] (spOf K T spLet) := by
  refine fnD G scLet (fun ds w κ χ h => ?_) (fun cdv A outer s H E ds w0 κ χ hr h => ?_)
  · obtain ⟨a, r, b, t, m, rfl, _⟩ := h
    rfl
  obtain ⟨a, r, b, t, m, rfl, hb, hz, k⟩ := h
  have nd := scLet.nd
  have ne := hb.ne
  have hB : ∀ b, BagAt (bagPut w0 a r b) a r b := fun b => bag_put ne
  have pp : ∀ b b', bagPut (bagPut w0 a r b) a r b' = bagPut w0 a r b' := fun b b' => bag_put2 ne
  refine pssd_cons (psd_set (i := 3) nd rfl ?_)
  refine pd_str ?_
  refine pssd_cons (psd_for PassesOwn.never rfl ?_)
  refine it_range hm.range ?_
  refine pd_var (i := 2) rfl rfl ?_
  refine ⟨m, rfl, by omega, ?_⟩
  refine ⟨fun i δ' w' => ∃ (u : Str) (b' : Bag) (x4 : Option D), δ' = [some (R a), some (DL.T (t ++ u)), some (I (m : Int)), some (DL.T abcT), x4] ∧ w' = bagPut w0 a r b' ∧ u.length = i ∧ Low u, ⟨Str.empty, b, none, ?_, hb.put.symm, rfl, fun c h => by cases h⟩, ?_, ?_⟩
  · have e : t ++ Str.empty = t := cl_ext (by rw [cl_cat]; exact List.append_nil _)
    rw [e]
    rfl
  · rintro i d δ' w' hd ⟨u, b', x4, rfl, rfl, hu, hlo⟩
    obtain ⟨hi, rfl⟩ := ups_at hd
    refine pgd_name (i := 4) nd rfl ?_
    refine pssd_one (psd_set (i := 1) nd rfl ?_)
    refine pd_op op_add_str ?_
    refine pd_var (i := 1) rfl rfl ?_
    refine pd_ix ix_str ?_
    refine pd_var (i := 3) rfl rfl ?_
    (refine pd_take hT (hr.mono (by decide)) (i := 0) rfl rfl (hB b') ?_)
    refine pd_int ?_
    refine ⟨rfl, _, rfl, by decide, by decide, fun x b2 g0 g1 => ?_⟩
    rw [pp]
    obtain ⟨j, rfl⟩ := Int.eq_ofNat_of_zero_le g0
    refine vr_ixS (z := abcT) (by rw [abc_len, sizeLine_eq]; decide) (by rw [abc_len]; omega) fun ch hc => ?_
    have l1 : (⟨#[ch]⟩ : Str).length = 1 := rfl
    refine vr_addS (by rw [Str.length_append, l1, hu, sizeLine_eq]; omega) ?_
    have lc : Low (⟨#[ch]⟩ : Str) := fun c h => by
      have h' : c = ch := by simpa [cl] using h
      rw [h']
      exact abc_low ch hc
    refine ⟨u ++ ⟨#[ch]⟩, b2, some (I (i : Int)), ?_, rfl, by rw [Str.length_append, hu, l1], hlo.cat lc⟩
    rw [← Str.append_assoc]
    rfl
  · rintro δ' w' ⟨u, b', x4, rfl, rfl, hu, hlo⟩
    rw [ups_len] at hu
    refine pssd_one (psd_ret ?_)
    refine pd_var (i := 1) rfl rfl ?_
    exact k u b' hu hlo

theorem scGrp : FnScope ["bag", "number", "bits", "k"] ["bag"] (defScope sGrp) := ⟨rfl, rfl, rfl, by decide +kernel, rfl, by decide +kernel, by decide +kernel⟩
def bitsL : List Int := [1, 2, 4, 8, 16, 32, 64, 128]
theorem bits_at : ∀ k, k < 8 → bitsL[k]? = some ((2 ^ k : Nat) : Int) := by decide
def ahT : Str := "abcdefgh"
theorem ah_len : ahT.length = 8 := by decide +kernel
theorem ah_at : ∀ k, k < 8 → (cl ahT)[k]? = some (97 + k) := by decide +kernel
theorem ok_grp {f : Addr} {fd : FuncData} (G : Fun K "_law_group" "_law_group" sGrp f fd) (hm : Nm2 mg) (hT : HasF P w K mg base T CX0 "_law_take" 1 ["bag", "many"] spTake) : FnOk P w K mg base CX0 2 f fd ["bag"] (spOf K T spGrp) := by
  refine fnD G scGrp (fun ds w κ χ h => ?_) (fun cdv A outer s H E ds w0 κ χ hr h => ?_)
  · obtain ⟨a, r, b, rfl, _⟩ := h
    rfl
  obtain ⟨a, r, b, rfl, hb, k⟩ := h
  have nd := scGrp.nd
  refine pssd_cons (psd_set (i := 1) nd rfl ?_)
  refine pd_op op_add ?_
  refine pd_int ?_
  (refine pd_take hT (hr.mono (by decide)) (i := 0) rfl rfl hb ?_)
  refine pd_int ?_
  refine ⟨rfl, _, rfl, by decide, by decide, fun x b1 g0 g1 => ?_⟩
  refine vr_I ?_
  obtain ⟨n, rfl⟩ := Int.eq_ofNat_of_zero_le g0
  have en : (1 : Int) + (n : Int) = ((1 + n : Nat) : Int) := by omega
  rw [en]
  refine pssd_cons (psd_set (i := 2) nd rfl ?_)
  refine pd_lst ?_
  refine pad_cons (pd_int ?_)
  refine pad_cons (pd_int ?_)
  refine pad_cons (pd_int ?_)
  refine pad_cons (pd_int ?_)
  refine pad_cons (pd_int ?_)
  refine pad_cons (pd_int ?_)
  refine pad_cons (pd_int ?_)
  refine pad_cons (pd_int ?_)
  refine pad_nil ⟨by show 8 ≤ sizeLine; decide, ?_⟩
  refine pssd_as [some (R a), some (I ((1 + n : Nat) : Int)), some (.lst (bitsL.map I)), none] rfl ?_
  refine pssd_one (psd_ret ?_)
  refine pd_bm PySem.F.plainAttrs_str PySem.F.slot_str_join PySem.F.type_str_join mt_join ?_
  refine pd_str ?_
  refine ⟨rfl, ?_⟩
  refine pad_cons ?_
  refine pd_lc (own := [("k", 3)]) (is := [3]) rfl nd (blkOk_by rfl) (by decide) ?_
  refine it_range hm.range ?_
  refine pd_int ?_
  refine ⟨8, rfl, by decide, ?_⟩
  refine lcd_ix (fun i => decide ((1 + n) / 2 ^ i % 2 = 1)) (fun i => DL.T (letS (97 + i))) (by rw [ups_len]; exact small1000 (by decide)) (fun i d hd => ?_) ?_
  · obtain ⟨hi, rfl⟩ := ups_at hd
    intro s H0 C1 cl1 fp1
    refine pgl_name (i := 3) nd rfl ?_
    intro s H0 C1 cl1 fp1
    refine ptsd_one ?_
    refine ptd_cmp op_eq ?_
    refine pd_op op_mod ?_
    refine pd_op op_fdiv ?_
    refine pd_var (i := 1) rfl rfl ?_
    refine pd_ix ix_list ?_
    refine pd_var (i := 2) rfl rfl ?_
    refine pd_var (i := 3) rfl rfl ?_
    refine vr_ixL (i := i) (d := I ((2 ^ i : Nat) : Int)) (by rw [List.getElem?_map, bits_at i hi]; rfl) ?_
    have p2 : 0 < 2 ^ i := Nat.two_pow_pos i
    have p7 : 2 ^ i ≤ 2 ^ 7 := Nat.pow_le_pow_right (by decide) (by omega)
    refine vr_IC ⟨by exact_mod_cast p2, by show ((2 ^ i : Nat) : Int) < 1073741824; omega⟩ ?_
    refine pd_int ?_
    refine vr_IC (by decide) ?_
    refine pd_int ?_
    refine vr_eq rfl ⟨_, rfl, ?_⟩
    have e : decide (V.int ((((1 + n : Nat) : Int) / ((2 ^ i : Nat) : Int)) % 2) = V.int 1) = decide ((1 + n) / 2 ^ i % 2 = 1) := by
      refine decide_eq_decide.mpr ⟨fun z => ?_, fun z => ?_⟩
      · have z2 := V.int.inj z
        exact_mod_cast z2
      · have : (((1 + n : Nat) : Int) / ((2 ^ i : Nat) : Int)) % 2 = 1 := by exact_mod_cast z
        rw [this]
    rw [e]
    cases q : decide ((1 + n) / 2 ^ i % 2 = 1) with
    | false => exact iteF ⟨rfl, rfl⟩
    | true =>
      refine iteT ?_
      intro s H0 C1 cl1 fp1
      refine pd_ix ix_str ?_
      refine pd_str ?_
      refine pd_var (i := 3) rfl rfl ?_
      refine vr_ixSx (z := ahT) (by rw [ah_len, sizeLine_eq]; decide) (ah_at i hi) ?_
      exact ⟨rfl, rfl, rfl⟩
  rw [ups_len]
  have el : (((List.range 8).filter fun i => decide ((1 + n) / 2 ^ i % 2 = 1)).map fun i => DL.T (letS (97 + i))) = ((grpL (1 + n)).map letS).map DL.T := by
    unfold grpL
    rw [List.map_map, List.map_map]
    rfl
  rw [el]
  refine pad_nil ?_
  have lg : (grpL (1 + n)).length ≤ 8 := by
    unfold grpL
    rw [List.length_map]
    exact Nat.le_trans (List.length_filter_le _ _) (by rw [List.length_range]; exact Nat.le_refl _)
  refine vm_join (by rw [sum_let, List.length_map]; show _ + _ * 0 ≤ _; omega) ?_
  rw [txt_let]
  exact k (grp (1 + n)) b1 ⟨1 + n, by omega, by omega, rfl⟩
end
end Tw

set_option Elab.async false
set_option linter.all false
set_option maxRecDepth 100000
set_option maxHeartbeats 2000000
/-! A drawn name. -/
namespace Tw
open PySem PySem.Spec PyProof.Rows L2 LamX DL
def menuN : List Str := ["p", "q", "abcdefgh", "truep", "zz", "inner", "pp", "name"]
theorem menuN_ok : ∀ s ∈ menuN, 1 ≤ s.length ∧ s.length ≤ 8 ∧ (∀ c ∈ cl s, 97 ≤ c ∧ c ≤ 122) ∧ s ≠ ("true" : Str) ∧ s ≠ ("false" : Str) := by decide +kernel
theorem true_cl : cl ("true" : Str) = [116, 114, 117, 101] := by decide +kernel
theorem false_cl : cl ("false" : Str) = [102, 97, 108, 115, 101] := by decide +kernel
theorem true_len : ("true" : Str).length = 4 := by decide +kernel
theorem false_len : ("false" : Str).length = 5 := by decide +kernel
def pqrT : Str := "pqr"
def abT : Str := "ab"
theorem pqr_ok : ∀ c ∈ cl pqrT, 97 ≤ c ∧ c ≤ 122 := by decide +kernel
theorem ab_ok : ∀ c ∈ cl abT, c = 97 ∨ c = 98 := by decide +kernel
theorem low_true : Low ("true" : Str) := by
  unfold Low
  decide +kernel
theorem low_false : Low ("false" : Str) := by
  unfold Low
  decide +kernel
theorem name_true {u : Str} (h1 : 1 ≤ u.length) (h3 : u.length ≤ 3) (hl : Low u) : NameOk (("true" : Str) ++ u) := by
  have l : (("true" : Str) ++ u).length = 4 + u.length := by rw [Str.length_append, true_len]
  refine ⟨by omega, by omega, low_true.cat hl, fun z => ?_, fun z => ?_⟩
  · have := congrArg Str.length z
    rw [l, true_len] at this
    omega
  · have := congrArg cl z
    rw [cl_cat, true_cl, false_cl] at this
    exact absurd (List.cons.inj this).1 (by decide)
theorem name_false {u : Str} (h1 : 1 ≤ u.length) (h3 : u.length ≤ 3) (hl : Low u) : NameOk (("false" : Str) ++ u) := by
  have l : (("false" : Str) ++ u).length = 5 + u.length := by rw [Str.length_append, false_len]
  refine ⟨by omega, by omega, low_false.cat hl, fun z => ?_, fun z => ?_⟩
  · have := congrArg cl z
    rw [cl_cat, true_cl, false_cl] at this
    exact absurd (List.cons.inj this).1 (by decide)
  · have := congrArg Str.length z
    rw [l, false_len] at this
    omega
theorem name_ab {cs : List Nat} (h1 : 1 ≤ cs.length) (h8 : cs.length ≤ 8) (h : ∀ c ∈ cs, c = 97 ∨ c = 98) : NameOk (⟨cs.toArray⟩ : Str) := by
  have e : cl (⟨cs.toArray⟩ : Str) = cs := rfl
  have l : (⟨cs.toArray⟩ : Str).length = cs.length := rfl
  refine ⟨by omega, by omega, fun c hc => ?_, fun z => ?_, fun z => ?_⟩
  · rcases h c hc with rfl | rfl
    · decide
    · decide
  · have t := congrArg cl z
    rw [e, true_cl] at t
    have := h 116 (by rw [t]; decide)
    omega
  · have t := congrArg cl z
    rw [e, false_cl] at t
    have := h 102 (by rw [t]; decide)
    omega
theorem nameX {s : Str} (h : s = ("true" : Str) ∨ s = ("false" : Str)) : NameOk (s ++ ("x" : Str)) := by
  have lx : Low ("x" : Str) := by
    unfold Low
    decide +kernel
  have l1 : ("x" : Str).length = 1 := by decide +kernel
  rcases h with rfl | rfl
  · exact name_true (by omega) (by omega) lx
  · exact name_false (by omega) (by omega) lx
section
variable {P : Program} {w : PySem.World} {K : PySem.W.Frag} {mg : Str → Option Value} {base : Heap} {T : List (Addr × Str)}
theorem scNam : FnScope ["bag", "way", "text", "k"] ["bag"] (defScope sNam) := ⟨rfl, rfl, rfl, by decide +kernel, rfl, by decide +kernel, by decide +kernel⟩
theorem ok_nam {f : Addr} {fd : FuncData} (G : Fun K "_law_name" "_law_name" sNam f fd) (hm : Nm2 mg) (hT : HasF P w K mg base T CX0 "_law_take" 1 ["bag", "many"] spTake) (hL : HasF P w K mg base T CX0 "_law_letters" 2 ["bag", "text", "many"] spLet) :
    FnOk P w K mg base CX0 3 f fd ["bag"] (spOf K T spNam) := by
  refine fnD G scNam (fun ds w κ χ h => ?_) (fun cdv A outer s H E ds w0 κ χ hr h => ?_)
  · obtain ⟨a, r, b, rfl, _⟩ := h
    rfl
  obtain ⟨a, r, b, rfl, hb, k⟩ := h
  have nd := scNam.nd
  have ne := hb.ne
  have hB : ∀ b, BagAt (bagPut w0 a r b) a r b := fun b => bag_put ne
  have pp : ∀ b b', bagPut (bagPut w0 a r b) a r b' = bagPut w0 a r b' := fun b b' => bag_put2 ne
  refine pssd_cons (psd_if ?_)
  refine ptd_cmp op_eq ?_
  (refine pd_take hT (hr.mono (by decide)) (i := 0) rfl rfl hb ?_)
  refine pd_int ?_
  refine ⟨rfl, _, rfl, by decide, by decide, fun x0 b1 _ _ => ?_⟩
  refine pd_int ?_
  refine vr_eq rfl ⟨_, rfl, ?_⟩
  refine ite2 (fun c0 => ?_) (fun c0 => ?_)
  · refine pssd_one (psd_ret ?_)
    refine pd_ix ix_list ?_
    refine pd_lst ?_
    refine pad_cons (pd_str ?_)
    refine pad_cons (pd_str ?_)
    refine pad_cons (pd_str ?_)
    refine pad_cons (pd_str ?_)
    refine pad_cons (pd_str ?_)
    refine pad_cons (pd_str ?_)
    refine pad_cons (pd_str ?_)
    refine pad_cons (pd_str ?_)
    refine pad_nil ⟨by show 8 ≤ sizeLine; decide, ?_⟩
    (refine pd_take hT (hr.mono (by decide)) (i := 0) rfl rfl (hB b1) ?_)
    refine pd_int ?_
    refine ⟨rfl, _, rfl, by decide, by decide, fun x b2 g0 g1 => ?_⟩
    rw [pp]
    obtain ⟨j, rfl⟩ := Int.eq_ofNat_of_zero_le g0
    have hj : j < menuN.length := by
      show j < 8
      omega
    have em : menuN[j]? = some menuN[j] := List.getElem?_eq_getElem hj
    refine vr_ixL (i := j) (d := DL.T menuN[j]) (by show (menuN.map DL.T)[j]? = _; rw [List.getElem?_map, em]; rfl) ?_
    obtain ⟨q1, q2, q3, q4, q5⟩ := menuN_ok _ (List.getElem_mem hj)
    exact k _ b2 ⟨q1, q2, q3, q4, q5⟩
  refine pssd_nil ?_
  refine pssd_cons (psd_set (i := 1) nd rfl ?_)
  (refine pd_take hT (hr.mono (by decide)) (i := 0) rfl rfl (hB b1) ?_)
  refine pd_int ?_
  refine ⟨rfl, _, rfl, by decide, by decide, fun way b2 _ _ => ?_⟩
  rw [pp]
  (refine pssd_cons (psd_if ?_); refine ptd_cmp op_eq ?_; refine pd_var (i := 1) rfl rfl ?_; refine pd_int ?_; refine vr_eq rfl ⟨_, rfl, ?_⟩; refine ite2 (fun c1 => ?_) (fun c1 => ?_))
  · refine pssd_one (psd_ret ?_)
    refine pd_ix ix_str ?_
    refine pd_str ?_
    (refine pd_take hT (hr.mono (by decide)) (i := 0) rfl rfl (hB b2) ?_)
    refine pd_int ?_
    refine ⟨rfl, _, rfl, by decide, by decide, fun x b3 g0 g1 => ?_⟩
    rw [pp]
    obtain ⟨j, rfl⟩ := Int.eq_ofNat_of_zero_le g0
    have lp : pqrT.length = 3 := by decide +kernel
    refine vr_ixS (z := pqrT) (by rw [lp, sizeLine_eq]; decide) (by rw [lp]; omega) fun ch hc => ?_
    have l1 : (⟨#[ch]⟩ : Str).length = 1 := rfl
    have q := pqr_ok ch hc
    refine k _ b3 ⟨by omega, by omega, fun c h => ?_, fun z => ?_, fun z => ?_⟩
    · have h' : c = ch := by simpa [cl] using h
      rw [h']
      exact q
    · have := congrArg Str.length z
      rw [l1, true_len] at this
      omega
    · have := congrArg Str.length z
      rw [l1, false_len] at this
      omega
  refine pssd_nil ?_
  (refine pssd_cons (psd_if ?_); refine ptd_cmp op_eq ?_; refine pd_var (i := 1) rfl rfl ?_; refine pd_int ?_; refine vr_eq rfl ⟨_, rfl, ?_⟩; refine ite2 (fun c2 => ?_) (fun c2 => ?_))
  · refine pssd_one (psd_ret ?_)
    refine pd_bm PySem.F.plainAttrs_str PySem.F.slot_str_join PySem.F.type_str_join mt_join ?_
    refine pd_str ?_
    refine ⟨rfl, ?_⟩
    refine pad_cons ?_
    refine pd_lc (own := [("k", 3)]) (is := [3]) rfl nd (blkOk_by rfl) (by decide) ?_
    refine it_range hm.range ?_
    refine pd_op op_add ?_
    refine pd_int ?_
    (refine pd_take hT (hr.mono (by decide)) (i := 0) rfl rfl (hB b2) ?_)
    refine pd_int ?_
    refine ⟨rfl, _, rfl, by decide, by decide, fun x b3 g0 g1 => ?_⟩
    rw [pp]
    refine vr_I ?_
    obtain ⟨n, rfl⟩ := Int.eq_ofNat_of_zero_le g0
    refine ⟨1 + n, rfl, by omega, ?_⟩
    refine ⟨by rw [ups_len]; exact small1000 (by omega), fun i acc w' => ∃ (b' : Bag) (cs : List Nat), w' = bagPut w0 a r b' ∧ acc = (cs.map letS).map DL.T ∧ cs.length = i ∧ ∀ c ∈ cs, c = 97 ∨ c = 98, ⟨b3, [], rfl, rfl, rfl, fun x h => by cases h⟩, ?_, ?_⟩
    · rintro i d acc w' hd ⟨b', cs, rfl, rfl, hl, hp⟩ s H0 C1 cl1 fp1
      obtain ⟨hi, rfl⟩ := ups_at hd
      refine pgl_name (i := 3) nd rfl ?_
      intro s H0 C1 cl1 fp1
      refine ptsd_nil ?_
      intro s H0 C1 cl1 fp1
      refine pd_ix ix_str ?_
      refine pd_str ?_
      (refine pd_take hT (hr.mono (by decide)) (i := 0) rfl rfl (hB b') ?_)
      refine pd_int ?_
      refine ⟨rfl, _, rfl, by decide, by decide, fun y b4 g2 g3 => ?_⟩
      rw [pp]
      obtain ⟨j, rfl⟩ := Int.eq_ofNat_of_zero_le g2
      have lp : abT.length = 2 := by decide +kernel
      refine vr_ixS (z := abT) (by rw [lp, sizeLine_eq]; decide) (by rw [lp]; omega) fun ch hc => ?_
      refine ⟨b4, cs ++ [ch], rfl, by rw [List.map_append, List.map_append]; rfl, by rw [List.length_append, hl]; rfl, fun c hc' => ?_⟩
      rcases List.mem_append.mp hc' with h | h
      · exact hp c h
      · rw [List.mem_singleton.mp h]
        exact ab_ok ch hc
    · rintro acc w' ⟨b', cs, rfl, rfl, hl, hp⟩
      rw [ups_len] at hl
      refine pad_nil ?_
      refine vm_join (by rw [sum_let, List.length_map]; show _ + _ * 0 ≤ _; omega) ?_
      rw [txt_let]
      exact k _ b' (name_ab (by omega) (by omega) hp)
  refine pssd_nil ?_
  (refine pssd_cons (psd_if ?_); refine ptd_cmp op_eq ?_; refine pd_var (i := 1) rfl rfl ?_; refine pd_int ?_; refine vr_eq rfl ⟨_, rfl, ?_⟩; refine ite2 (fun c3 => ?_) (fun c3 => ?_))
  · refine pssd_cons (psd_set (i := 2) nd rfl ?_)
    refine pd_ix ix_list ?_
    refine pd_lst ?_
    refine pad_cons (pd_str ?_)
    refine pad_cons (pd_str ?_)
    refine pad_nil ⟨by show 2 ≤ sizeLine; decide, ?_⟩
    (refine pd_take hT (hr.mono (by decide)) (i := 0) rfl rfl (hB b2) ?_)
    refine pd_int ?_
    refine ⟨rfl, _, rfl, by decide, by decide, fun x b3 g0 g1 => ?_⟩
    rw [pp]
    obtain ⟨j, rfl⟩ := Int.eq_ofNat_of_zero_le g0
    have fin : ∀ t : Str, t.length ≤ 8 → (∀ u : Str, 1 ≤ u.length → u.length ≤ 3 → Low u → NameOk (t ++ u)) → ∀ (p1 p2 p3 p4 p5 p6 p7 p8 p9 p10 p11 : Pos) (t1 t2 : Nat) (nx bk ct : Dn → Wp → Prop), PSsD (cxOf CX0 P w K mg base ["bag", "way", "text", "k"] "_law_name" (defScope sNam) f cdv A outer s H E).nox T Wf noX
        [.Return (some (.Call (.Name "_law_letters" p1) [.Name "bag" p2, .Name "text" p3, .BinOp (.Constant (.int 1) t1 p4) .Add (.Call (.Name "_law_take" p5) [.Name "bag" p6, .Constant (.int 3) t2 p7] [] p8) p9] [] p10)) p11] [some (R a), some (I way), some (DL.T t), none] (bagPut w0 a r b3) { nx := nx, rt := κ, bk := bk, ct := ct } := fun t ht hn p1 p2 p3 p4 p5 p6 p7 p8 p9 p10 p11 t1 t2 nx bk ct => by
      refine pssd_one (psd_ret ?_)
      refine pd_has hL (hr.mono (by decide)) (fun _ => pass0At) ?_
      (refine pad_cons ?_; refine pd_var (i := 0) rfl rfl ?_)
      (refine pad_cons ?_; refine pd_var (i := 2) rfl rfl ?_)
      refine pad_cons ?_
      refine pd_op op_add ?_
      refine pd_int ?_
      (refine pd_take hT (hr.mono (by decide)) (i := 0) rfl rfl (hB b3) ?_)
      refine pd_int ?_
      refine ⟨rfl, _, rfl, by decide, by decide, fun y b4 g2 g3 => ?_⟩
      rw [pp]
      refine vr_I ?_
      obtain ⟨m, rfl⟩ := Int.eq_ofNat_of_zero_le g2
      refine pad_nil ?_
      refine ⟨a, r, b4, t, 1 + m, rfl, hB b4, by omega, fun u b5 hu hlo => ?_⟩
      rw [pp]
      exact k _ b5 (hn u (by omega) (by omega) hlo)
    match j, g1 with
    | 0, _ =>
      refine vr_ixL (i := 0) (d := DL.T "true") rfl ?_
      exact fin _ (by rw [true_len]; decide) (fun u h1 h3 hl => name_true h1 h3 hl) _ _ _ _ _ _ _ _ _ _ _ _ _ _ _ _
    | 1, _ =>
      refine vr_ixL (i := 1) (d := DL.T "false") rfl ?_
      exact fin _ (by rw [false_len]; decide) (fun u h1 h3 hl => name_false h1 h3 hl) _ _ _ _ _ _ _ _ _ _ _ _ _ _ _ _
    | j + 2, g => exact absurd g (by omega)
  refine pssd_nil ?_
  refine pssd_cons (psd_set (i := 2) nd rfl ?_)
  refine pd_has hL (hr.mono (by decide)) (fun _ => pass0At) ?_
  (refine pad_cons ?_; refine pd_var (i := 0) rfl rfl ?_)
  refine pad_cons (pd_str ?_)
  refine pad_cons ?_
  refine pd_op op_add ?_
  refine pd_int ?_
  (refine pd_take hT (hr.mono (by decide)) (i := 0) rfl rfl (hB b2) ?_)
  refine pd_int ?_
  refine ⟨rfl, _, rfl, by decide, by decide, fun y b4 g2 g3 => ?_⟩
  rw [pp]
  refine vr_I ?_
  obtain ⟨m, rfl⟩ := Int.eq_ofNat_of_zero_le g2
  refine pad_nil ?_
  have l0 : ("" : Str).length = 0 := by decide +kernel
  refine ⟨a, r, b4, "", 1 + m, rfl, hB b4, by rw [l0]; omega, fun u b5 hu hlo => ?_⟩
  rw [pp]
  have e0 : ("" : Str) ++ u = u := cl_ext (by
    rw [cl_cat]
    have : cl ("" : Str) = [] := by decide +kernel
    rw [this]
    rfl)
  rw [e0]
  refine pssd_cons (psd_if ?_)
  refine pwd_pt ?_
  refine pwd_or ?_
  refine ptd_cmp op_eq ?_
  refine pd_var (i := 2) rfl rfl ?_
  refine pd_str ?_
  refine vr_eqT _ rfl ⟨_, rfl, ?_⟩
  have finx : (u = ("true" : Str) ∨ u = ("false" : Str)) → ∀ (p1 p2 p3 p4 : Pos) (t1 : Nat) (nx bk ct : Dn → Wp → Prop), PSsD (cxOf CX0 P w K mg base ["bag", "way", "text", "k"] "_law_name" (defScope sNam) f cdv A outer s H E).nox T Wf noX
        [.Return (some (.BinOp (.Name "text" p1) .Add (.Constant (.str "x") t1 p2) p3)) p4] [some (R a), some (I way), some (DL.T u), none] (bagPut w0 a r b5) { nx := nx, rt := κ, bk := bk, ct := ct } := fun hu2 p1 p2 p3 p4 t1 nx bk ct => by
    refine pssd_one (psd_ret ?_)
    refine pd_op op_add_str ?_
    refine pd_var (i := 2) rfl rfl ?_
    refine pd_str ?_
    have l1 : ("x" : Str).length = 1 := by decide +kernel
    refine vr_addS (by rw [l1, sizeLine_eq]; omega) ?_
    exact k _ b5 (nameX hu2)
  cases q1 : decide (u = ("true" : Str)) with
  | true =>
    refine iteT ?_
    refine iteT ?_
    exact finx (.inl (of_decide_eq_true q1)) _ _ _ _ _ _ _ _
  | false =>
    refine iteF ?_
    refine pwd_or1 ?_
    refine ptd_cmp op_eq ?_
    refine pd_var (i := 2) rfl rfl ?_
    refine pd_str ?_
    refine vr_eqT _ rfl ⟨_, rfl, ?_⟩
    cases q2 : decide (u = ("false" : Str)) with
    | true =>
      refine iteT ?_
      exact finx (.inr (of_decide_eq_true q2)) _ _ _ _ _ _ _ _
    | false =>
      refine iteF ?_
      refine pssd_nil ?_
      refine pssd_one (psd_ret ?_)
      refine pd_var (i := 2) rfl rfl ?_
      exact k u b5 ⟨by omega, by omega, hlo, of_decide_eq_false q1, of_decide_eq_false q2⟩
end
end Tw

set_option Elab.async false
set_option linter.all false
set_option maxRecDepth 100000
set_option maxHeartbeats 2000000
/-! Sayings as objects: their texts, BOND, str, _bound. -/
namespace DL
open PySem PySem.Spec PyProof.Rows L2 LamX
theorem lookup_out {f : Str} : ∀ {ys : List (Str × V)}, f ∉ ys.map (·.1) → ys.lookup f = none
  | [], _ => rfl
  | (g, x) :: ys, h => by
    have hb : (f == g) = false := beq_eq_false_iff_ne.mpr fun z => h (by rw [z]; exact List.mem_cons_self ..)
    simp only [List.lookup, hb]
    exact lookup_out fun z => h (List.mem_cons_of_mem _ z)
section
variable {X : Cx} {T : List (Addr × Str)} {W : WX} {χ : XD} {δ : Dn} {w : Wp} {pos : Pos}
/-- e.f, a constant of e's class -/
theorem pd_con {e : Expr} {f : Str} {C : Addr} {v : V} {u : Value} {κ : D → Wp → Prop} (c : Cls X.K C) (k : Con X.K C f v u) (h : PD X T W χ e δ w fun d w1 => ∃ ns ds, d = .obj C ns ds ∧ f ∉ ns ∧ κ (.val v) w1)
    (hb : attributeBase e f X.env (eval e X.env) = eval e X.env := by rfl) : PD X T W χ (.Attribute e f pos) δ w κ := fun F σ S H Q hE hW hX hK => wp_pe (pe_con (pe_wp e) hb) (by
  refine h F σ S H _ hE hW hX fun d w1 x S1 H1 kk s1 W1 r => ?_
  obtain ⟨ns, ds, rfl, hn, kk⟩ := kk
  obtain ⟨a, dx, ys, rfl, h1, rfl, h3⟩ := r
  exact ⟨a, C, dx, ys, v, u, rfl, W1.same _ _ h1, c, k, lookup_out hn, hK _ w1 v S1 H1 kk s1 W1 rfl⟩)
theorem va_strS {K : PySem.W.Frag} {z : Str} {κ : D → Wp → Prop} (k : κ (DL.T z) w) : VRA K T (fun xs H Q => ∃ a, xs = [.str a] ∧ Q (.str a) H) [DL.T z] w κ := fun F S H xs Q hW r hK => by
  obtain ⟨y, ys, rfl, h1, h2⟩ := r
  have h1' : y = .str z := h1
  have h2' : ys = [] := h2
  subst h1' h2'
  exact ⟨z, rfl, hK _ w _ S H k (Same.refl _) hW rfl⟩
end
end DL
namespace Tw
open PySem PySem.Spec PyProof.Rows L2 LamX DL
/-- the classes of sayings -/
structure SC where
  cT : Addr
  cF : Addr
  cN : Addr
  cA : Addr
  cO : Addr
  cK : Addr
  cW : Addr
  cC : Addr
def SC.md (c : SC) : Md → Addr
  | .kn => c.cK
  | .wh => c.cW
  | .co => c.cC
def SC.bi (c : SC) : Bool → Addr
  | true => c.cA
  | false => c.cO
def SC.of (c : SC) : Tr → Addr
  | .tru _ => c.cT
  | .fact _ => c.cF
  | .neg _ => c.cN
  | .bin a _ _ => c.bi a
  | .md k _ _ => c.md k
def bond : Tr → Nat
  | .bin a _ _ => if a then 2 else 1
  | _ => 3
def par (b k : Nat) (s : Str) : Str := if b < k then ("(" : Str) ++ s ++ (")" : Str) else s
def mdm : Md → Str
  | .kn => "]"
  | .wh => "?]"
  | .co => "*]"
def txt : Tr → Str
  | .tru b => if b then "true" else "false"
  | .fact n => n
  | .neg t => ("~" : Str) ++ par (bond t) 3 (txt t)
  | .bin true l r => par (bond l) 2 (txt l) ++ (" & " : Str) ++ par (bond r) 3 (txt r)
  | .bin false l r => par (bond l) 1 (txt l) ++ (" | " : Str) ++ par (bond r) 2 (txt r)
  | .md k g t => ("[" : Str) ++ g ++ mdm k ++ par (bond t) 3 (txt t)
/-- names and groups of at most eight signs -/
def Sh : Tr → Prop
  | .tru _ => True
  | .fact n => n.length ≤ 8
  | .neg t => Sh t
  | .bin _ l r => Sh l ∧ Sh r
  | .md _ g t => g.length ≤ 8 ∧ Sh t
theorem par_len (b k : Nat) (s : Str) : (par b k s).length ≤ s.length + 2 := by
  unfold par
  have l1 : ("(" : Str).length = 1 := by decide +kernel
  have l2 : (")" : Str).length = 1 := by decide +kernel
  by_cases h : b < k
  · rw [if_pos h, Str.length_append, Str.length_append, l1, l2]
    omega
  · rw [if_neg h]
    omega
theorem mdm_len (k : Md) : (mdm k).length ≤ 2 := by
  cases k <;> decide +kernel
theorem txt_len : ∀ t : Tr, Sh t → (txt t).length + 2 ≤ 16 * t.size
  | .tru b, _ => by
    cases b with
    | true => show ("true" : Str).length + 2 ≤ 16; rw [true_len]; decide
    | false => show ("false" : Str).length + 2 ≤ 16; rw [false_len]; decide
  | .fact n, h => by
    have h' : n.length ≤ 8 := h
    show n.length + 2 ≤ 16 * 1
    omega
  | .neg t, h => by
    have ih := txt_len t h
    have p := par_len (bond t) 3 (txt t)
    have l1 : ("~" : Str).length = 1 := by decide +kernel
    show (("~" : Str) ++ par (bond t) 3 (txt t)).length + 2 ≤ 16 * (t.size + 1)
    rw [Str.length_append, l1]
    omega
  | .bin true l r, h => by
    have ih := txt_len l h.1
    have ih2 := txt_len r h.2
    have p := par_len (bond l) 2 (txt l)
    have p2 := par_len (bond r) 3 (txt r)
    have l1 : (" & " : Str).length = 3 := by decide +kernel
    show (par (bond l) 2 (txt l) ++ (" & " : Str) ++ par (bond r) 3 (txt r)).length + 2 ≤ 16 * (l.size + r.size + 1)
    rw [Str.length_append, Str.length_append, l1]
    omega
  | .bin false l r, h => by
    have ih := txt_len l h.1
    have ih2 := txt_len r h.2
    have p := par_len (bond l) 1 (txt l)
    have p2 := par_len (bond r) 2 (txt r)
    have l1 : (" | " : Str).length = 3 := by decide +kernel
    show (par (bond l) 1 (txt l) ++ (" | " : Str) ++ par (bond r) 2 (txt r)).length + 2 ≤ 16 * (l.size + r.size + 1)
    rw [Str.length_append, Str.length_append, l1]
    omega
  | .md k g t, h => by
    have ih := txt_len t h.2
    have hg : g.length ≤ 8 := h.1
    have p := par_len (bond t) 3 (txt t)
    have q := mdm_len k
    have l1 : ("[" : Str).length = 1 := by decide +kernel
    show (("[" : Str) ++ g ++ mdm k ++ par (bond t) 3 (txt t)).length + 2 ≤ 16 * (t.size + 1)
    rw [Str.length_append, Str.length_append, Str.length_append, l1]
    omega
def fnU : List Str := ["inner", "_below", "_text"]
/-- a saying as an object -/
def sayD (c : SC) : Tr → D
  | .tru b => .obj c.cT ["value", "_below", "_text"] [B b, .lst [], DL.T (txt (.tru b))]
  | .fact n => .obj c.cF ["name", "_below", "_text"] [DL.T n, .lst [], DL.T n]
  | .neg t => .obj c.cN ["inner", "_below", "_text"] [sayD c t, .lst [sayD c t], DL.T (txt (.neg t))]
  | .bin a l r => .obj (c.bi a) ["first", "second", "_below", "_text"] [sayD c l, sayD c r, .lst [sayD c l, sayD c r], DL.T (txt (.bin a l r))]
  | .md k g t => .obj (c.md k) ["group", "inner", "_below", "_text"] [DL.T g, sayD c t, .lst [sayD c t], DL.T (txt (.md k g t))]
theorem say_obj (c : SC) (t : Tr) : ∃ ns ds, sayD c t = .obj (c.of t) ns ds ∧ ("BOND" : Str) ∉ ns := by
  cases t <;> exact ⟨_, _, rfl, by decide⟩
theorem say_txt {c : SC} {t : Tr} {w : Wp} : FldD (c.of t) "_text" (sayD c t) w (DL.T (txt t)) := by
  cases t <;> exact ⟨rfl, rfl⟩
/-- what every class of sayings has -/
structure SayK (K : PySem.W.Frag) (fS : Addr) (C : Addr) (b : Nat) : Prop where
  cl : Cls K C
  nT : NoAttr K C "_text"
  nB : NoAttr K C "_below"
  bo : ∃ u, Con K C "BOND" (.int b) u
  st : PySem.W.findIn K (.ref C) "__str__" = some (some (.ref fS))
  fm : PySem.W.findIn K (.ref C) "__format__" = some (some (.builtin "object.__format__"))
  mr : PySem.W.mroIn K C (.type "object") = some true
def SayAll (K : PySem.W.Frag) (fS : Addr) (c : SC) : Prop := ∀ t : Tr, SayK K fS (c.of t) (bond t)
abbrev sBound : Stmt := top 24
def spSStr (c : SC) : SpD := fun ds w κ χ => ∃ t : Tr, ds = [sayD c t] ∧ κ (DL.T (txt t)) w
def spBound (c : SC) : SpD := fun ds w κ χ => ∃ (t : Tr) (k : Nat), ds = [sayD c t, I (k : Int)] ∧ Sh t ∧ t.size ≤ 500 ∧ κ (DL.T (par (bond t) k (txt t))) w
/-- str of a saying stands -/
structure StrK (P : Program) (w : PySem.World) (K : PySem.W.Frag) (mg : Str → Option Value) (base : Heap) (T : List (Addr × Str)) (c : SC) (fS : Addr) : Prop where
  ok : ∃ fd, FnOk P w K mg base CX0 1 fS fd ["self"] (spOf K T (spSStr c)) ∧ PySem.W.isFn K (.ref fS) = true ∧ Binds K fd ["self"] []
  all : SayAll K fS c
section
variable {P : Program} {w : PySem.World} {K : PySem.W.Frag} {mg : Str → Option Value} {base : Heap} {T : List (Addr × Str)}
theorem scBound : FnScope ["saying", "bond"] ["saying", "bond"] (defScope sBound) := ⟨rfl, rfl, rfl, by decide +kernel, rfl, by decide +kernel, by decide +kernel⟩
theorem ok_bound {c : SC} {fS f : Addr} {fd : FuncData} (G : Fun K "_bound" "_bound" sBound f fd) (hm : Nm2 mg) (S : StrK P w K mg base T c fS) : FnOk P w K mg base CX0 4 f fd ["saying", "bond"] (spOf K T (spBound c)) := by
  refine fnD G scBound (fun ds w κ χ h => ?_) (fun cdv A outer s H E ds w0 κ χ hr h => ?_)
  · obtain ⟨t, k, rfl, _⟩ := h
    rfl
  obtain ⟨t, b, rfl, hsh, hz, k⟩ := h
  have nd := scBound.nd
  obtain ⟨fd1, s1, s2, s3⟩ := S.ok
  obtain ⟨u, hu⟩ := (S.all t).bo
  have tl := txt_len t hsh
  have hz2 : (txt t).length ≤ 8000 := by omega
  have l1 : ("(" : Str).length = 1 := by decide +kernel
  have l2 : (")" : Str).length = 1 := by decide +kernel
  refine pssd_cons (psd_if ?_)
  refine ptd_cmp op_lt ?_
  refine pd_con (S.all t).cl hu ?_
  refine pd_var (i := 0) rfl rfl ?_
  obtain ⟨ns, es, eo, hn⟩ := say_obj c t
  refine ⟨ns, es, eo, hn, ?_⟩
  refine pd_var (i := 1) rfl rfl ?_
  refine vr_I ⟨_, rfl, ?_⟩
  by_cases hb : bond t < b
  · rw [decide_eq_true (by exact_mod_cast hb : ((bond t : Nat) : Int) < (b : Int))]
    refine iteT ?_
    refine pssd_one (psd_ret ?_)
    refine pd_js (.cons pe_str (.cons (pe_fmtO s1 (hr.mono (by decide)) (S.all t).st s2 s3 (S.all t).fm (S.all t).mr (pe_wp _)) (.cons pe_str .nil))) ?_
    refine pjd_str (by rw [Str.empty_append, l1, sizeLine_eq]; decide) ?_
    refine pjd_own ?_
    refine pd_var (i := 0) rfl rfl ?_
    refine ⟨⟨ns, es, eo⟩, t, rfl, txt t, rfl, by rw [Str.empty_append, Str.length_append, l1, sizeLine_eq]; omega, ?_⟩
    refine pjd_str (by rw [Str.empty_append, Str.length_append, Str.length_append, l1, l2, sizeLine_eq]; omega) ?_
    refine pjd_nil ?_
    rw [Str.empty_append]
    unfold par at k
    rw [if_pos hb] at k
    exact k
  · rw [decide_eq_false (by exact_mod_cast hb : ¬ ((bond t : Nat) : Int) < (b : Int))]
    refine iteF ?_
    refine pssd_nil ?_
    refine pssd_one (psd_ret ?_)
    refine pd_callTy (call_strOwn s1 (hr.mono (by decide)) (S.all t).st s2 s3) rfl hm.str bt_str ?_
    (refine pad_cons ?_; refine pd_var (i := 0) rfl rfl ?_)
    refine pad_nil ?_
    refine va_own1 ⟨ns, es, eo⟩ ?_
    refine ⟨t, rfl, txt t, rfl, ?_⟩
    unfold par at k
    rw [if_neg hb] at k
    exact k
end
end Tw

set_option Elab.async false
set_option linter.all false
set_option maxRecDepth 100000
set_option maxHeartbeats 1000000
/-! An own error class whose __init__ begins with super().__init__(e, ..), the base's __init__ that of ValueError: the rule for that def. -/
namespace DL
open PySem PySem.Spec PyProof.Rows L2 LamX
open PySem.W (ksEnv)
structure ScopeS (N ps : List Str) (sc : Scope) : Prop where
  kind : sc.kind = .function
  co : sc.isCoroutine = false
  gen : sc.isGenerator = false
  nd : N.Nodup
  pre : N.take ps.length = ps
  par : ∀ x ∈ ps, sc.names.lookup x = some .local
  nocell : ∀ y ∈ sc.names, y.2 ≠ .cell
  nofree : ∀ x, sc.names.lookup x = some .cell ∨ sc.names.lookup x = some .free → x = "__class__"
  cls : sc.names.lookup ("__class__" : Str) = some .free
  sup : sc.names.lookup ("super" : Str) = some .globalImplicit
/-- what the written part says of the def at f, __init__ of the class at C -/
structure SupTxt (P : Program) (K : PySem.W.Frag) (mg : Str → Option Value) (C f cc cda : Addr) (qual : Str) (st : Stmt) (fd : FuncData) : Prop where
  ex : ∃ (oc : Value) (od : Option Addr) (kV doc pm : Value) (an : Option Addr) (ct : Value) (osl : Array (Option Value)),
    fd = PySem.W.fnX "__init__" qual (defArgs st) (defBody st) (defScope st) [("__class__", cc)] .none kV doc pm an (.ref cda) ct ∧ K.lookup f = some ⟨oc, od, .func fd, osl⟩ ∧ PySem.W.codeIn K (.ref cda) qual = true
  code : ∃ (ccl : Value) (cdd : Option Addr) (ccs : Array (Option Value)) (vs : Array Value) (file : Str) (tf : Tok), K.lookup cda = some ⟨ccl, cdd, .fields vs, ccs⟩ ∧ vs[2]? = some (.str file tf) ∧ ((P.main.file : Str) == file) = true
  cell : ∃ (cl : Value) (cld : Option Addr) (csl : Array (Option Value)), K.lookup cc = some ⟨cl, cld, .cell (some (.ref C)), csl⟩
  along : PySem.W.ks_superIn K C C "__init__" = some (some (.builtin "ValueError.__init__"))
  opq : PySem.W.nsIn K cStatics "thirdparty.any" = some none
  sub : PySem.W.subIn K (.ref C) (.type "ValueError") = some true
  selfc : PySem.W.mroIn K C (.ref C) = some true
  mgs : mg "super" = none
  top : (P.main.scope.names.lookup ("super" : Str)).isSome = false
theorem boot_super : bootBuiltins "super" = some (.type "super") := by decide +kernel
def cxS (CX : CXT) (P : Program) (w : PySem.World) (K : PySem.W.Frag) (mg : Str → Option Value) (base : Heap) (N : List Str) (qual : Str) (scope : Scope) (f : Addr) (cd : Value) (cc : Addr) (A : Around) (outer : List Env) (s : Shared) (H : Hp) (E : XK) : Cx where
  prog := P
  w := w
  K := K
  mg := mg
  base := base
  A := A.deeper (ksEnv qual scope s.heap.objs.size f cd cc)
  N := N
  s_0 := s
  H_0 := H
  env := ksEnv qual scope s.heap.objs.size f cd cc
  outer := outer
  stack := ksEnv qual scope s.heap.objs.size f cd cc :: outer
  ex := []
  calm := true
  fn := fun _ => false
  pn := []
  xe := fun e s' => wpAny (model P w) (A.deeper (ksEnv qual scope s.heap.objs.size f cd cc)) (leaving (ksEnv qual scope s.heap.objs.size f cd cc) e) (fun _ s'' => CX outer H s E e s'') (fun e' s'' => CX outer H s E e' s'') s'
theorem look_app {α β : Type} [BEq α] (x : α) : ∀ (a b : List (α × β)), (a ++ b).lookup x = match a.lookup x with | some v => some v | none => b.lookup x
  | [], b => rfl
  | (k, v) :: a, b => by
    have ih := look_app x a b
    cases hb : x == k with
    | true => simp only [List.cons_append, List.lookup, hb]
    | false =>
      simp only [List.cons_append, List.lookup, hb]
      exact ih
theorem look_rev_none {x : Str} : ∀ {l : List (Str × Value)}, x ∉ l.map (·.1) → l.reverse.lookup x = none
  | [], _ => rfl
  | (k, v) :: l, h => by
    rw [List.reverse_cons, look_app, look_rev_none (l := l) fun z => h (List.mem_cons_of_mem _ z)]
    have hb : (x == k) = false := beq_eq_false_iff_ne.mpr fun z => h (by rw [z]; exact List.mem_cons_self ..)
    simp only [List.lookup, hb]
theorem look_rev {x : Str} {u : Value} : ∀ {ps : List Str} {us : List Value} {i : Nat}, ps.Nodup → ps[i]? = some x → us[i]? = some u → (ps.zip us).reverse.lookup x = some u
  | [], _, _, _, h, _ => by simp at h
  | _ :: _, [], _, _, _, h => by simp at h
  | p :: ps, v :: us, 0, nd, h1, h2 => by
    have e1 : p = x := Option.some.inj h1
    have e2 : v = u := Option.some.inj h2
    subst e1 e2
    show ((p, v) :: ps.zip us).reverse.lookup p = some v
    rw [List.reverse_cons, look_app, look_rev_none]
    · simp [List.lookup]
    · intro z
      obtain ⟨q, hq, e⟩ := List.mem_map.mp z
      obtain ⟨a, b⟩ := q
      have e' : a = p := e
      subst e'
      exact (List.nodup_cons.mp nd).1 (List.of_mem_zip hq).1
  | p :: ps, v :: us, i + 1, nd, h1, h2 => by
    show ((p, v) :: ps.zip us).reverse.lookup x = some u
    rw [List.reverse_cons, look_app, look_rev (i := i) (List.nodup_cons.mp nd).2 h1 h2]
theorem inv_startS {CX : CXT} {P : Program} {w : PySem.World} {K : PySem.W.Frag} {mg : Str → Option Value} {base : Heap} {N ps : List Str} {qual : Str} {scope : Scope} {f cc : Addr} {cd : Value} {A : Around} {outer : List Env} {s : Shared} {H : Hp} {E : XK} {us : List Value} {vs : List V} {h1 : Heap} {tk : Nat}
    (S : ScopeS N ps scope) (hd : A.handled = none) (e0 : Env0 P w K mg base A outer s H) (hl : vs.length = ps.length) (r : Vals vs us) (hcc : ∃ (cl : Value) (cld : Option Addr) (csl : Array (Option Value)) (v : Option Value), K.lookup cc = some ⟨cl, cld, .cell v, csl⟩)
    (hns : h1.Ns s.heap.objs.size (fun x => (ps.zip us).reverse.lookup x)) (hk : ∀ b o, s.heap.get? b = some o → h1.get? b = some o) :
    Inv (cxS CX P w K mg base N qual scope f cd cc A outer s H E) [] (L2.start N vs) H { s with heap := h1, toks := tk } := by
  have hpl : ps.length ≤ N.length := by have := congrArg List.length S.pre; rw [List.length_take] at this; omega
  obtain ⟨cl, cld, csl, cv, hcc⟩ := hcc
  have bcc := e0.mod.kin cc _ hcc
  have lk : ∀ y c, List.lookup y [(("__class__" : Str), cc)] = some c → y = "__class__" ∧ c = cc := fun y c h => by
    by_cases e : y = "__class__"
    · subst e
      have : List.lookup ("__class__" : Str) [(("__class__" : Str), cc)] = some cc := by simp [List.lookup]
      rw [this] at h
      exact ⟨rfl, (Option.some.inj h).symm⟩
    · have hb : (y == ("__class__" : Str)) = false := beq_eq_false_iff_ne.mpr e
      simp only [List.lookup, hb] at h
      cases h
  have noA : ∀ b : Addr, b ∉ (cxS CX P w K mg base N qual scope f cd cc A outer s H E).ex := fun b z => absurd (show b ∈ ([] : List Addr) from z) (by simp)
  refine ⟨⟨e0.mod, S.kind, rfl, rfl, Nat.le_refl _, fun y z c h1 h2 => ?_, fun y hy => ?_, fun y c q h => absurd (show false = true from q) Bool.false_ne_true, fun _ => hd, Around.frames_deeper e0.frames, .inr ⟨rfl, rfl⟩, fun b z => absurd z (noA b), e0.bs, e0.bsz, fun b _ _ => noA b, fun b z => absurd z (noA b), e0.funs, e0.frf⟩,
    rfl, e0.bare, Un.kept hk, ⟨_, hns, fun i y v h1 h2 h3 => ?_⟩, fun y c h => ?_, e0.hok.fresh (Nat.le_refl _), fun y c h => ?_, fun p hp => absurd (show p ∈ ([] : List (Addr × Obj)) from hp) (by simp), e0.hok.kept hk, ?_⟩
  · rw [(lk y c h1).1, (lk z c h2).1]
  · have hy : scope.names.lookup y = some .cell ∨ scope.names.lookup y = some .free := hy
    have e := S.nofree y hy
    subst e
    exact ⟨cc, by show List.lookup ("__class__" : Str) [(("__class__" : Str), cc)] = some cc; simp [List.lookup]⟩
  · have hi : i < vs.length := by
      unfold L2.start at h2
      by_cases hi : i < vs.length
      · exact hi
      · rw [List.getElem?_append_right (by simpa using hi)] at h2
        rw [List.getElem?_replicate] at h2
        split at h2 <;> cases h2
    have ha : vs[i]? = some v := by
      unfold L2.start at h2
      rw [List.getElem?_append_left (by simpa using hi), List.getElem?_map] at h2
      cases e : vs[i]? with
      | none => rw [e] at h2; cases h2
      | some a => rw [e] at h2; cases h2; rfl
    obtain ⟨u, hu, rv⟩ := r.get ha
    have hp : ps[i]? = some y := by
      rw [← S.pre, List.getElem?_take_of_lt (by omega)]; exact h1
    have ndP : ps.Nodup := by rw [← S.pre]; exact S.nd.sublist (List.take_sublist _ _)
    exact ⟨u, rv, .inl ⟨S.par y (List.mem_of_getElem? hp), look_rev ndP hp hu⟩⟩
  · obtain ⟨_, rfl⟩ := lk y c h
    exact ⟨_, ⟨_, hk _ _ (e0.bs _ _ bcc).1, rfl⟩⟩
  · obtain ⟨_, rfl⟩ := lk y c h
    exact (e0.bs _ _ bcc).2
  · unfold L2.start
    show _ = N.length
    rw [List.length_append, List.length_map, List.length_replicate]
    omega
/-- the wrapper called -/
theorem call_mw {prog : Program} {w : PySem.World} {A : Around} {E : Value → Shared → Prop} {h : Heap} {g : Array GenState} {d : Drawn} {t : Nat} {os : OsState} {nm q : Str} {C N : Addr} {bs bm : List Value} {hdct : Bool} {sn : List Str} {sub : List Value} {ab : Bool} {col : Option Bool} {dd : Option Addr} {k0 k1 k2 k3 k5 : Option Value}
    {u e t0 : Addr} {rest : List Value} {Q : Value → Shared → Prop}
    (hC : h.get? C = some (excClassObj nm q C N bs bm hdct sn sub ab col dd k0 k1 k2 k3 k5 "ValueError.__new__")) (he : h.get? e = some (HandSPX.excO C t0)) (hu : h.get? u = some (PySem.W.kxs_mw "ValueError.__init__" e)) (hrest : rest.length ≤ sizeLine)
    (hq : ∀ h' t1, (∀ b o, b ≠ e → h.get? b = some o → h'.get? b = some o) → h'.get? e = some (HandSPX.excO C t1) → Q .none ⟨h', g, d, t, os⟩) :
    wpAny (model prog w) A (call (.ref u) rest) Q E ⟨h, g, d, t, os⟩ := by
  refine wpAny_call (codeAny_of_tree ?_)
  show wpAny _ A.in1 (callAny (.ref u) ⟨rest, []⟩) _ _ _
  simp only [callAny]
  refine wpAny_bind (wpAny_load hu ?_)
  simp only [PySem.W.kxs_mw, show (Value.type "method-wrapper" == Value.type "method" || Value.type "method-wrapper" == Value.type "builtin_function_or_method" || Value.type "method-wrapper" == Value.type "method-wrapper") = true by decide, if_true]
  refine PySem.W.KFB.if_so (by decide) ?_
  refine wpAny_bind (PySem.W.check_bound_init F.excBase_ValueError.toExcCallFacts hC he rfl ?_)
  refine wpAny_bind (wpAny_pure (wpAny_pure ?_))
  refine ⟨plainId_quiet F.excBase_ValueError.init.plain _, codeAny_builtin F.excBase_ValueError.initEntry ?_⟩
  rw [Around.under_plainId F.excBase_ValueError.init.plain _]
  wp_walk
  refine hq _ h.objs.size (fun b o hb ho => ?_) ?_
  · rw [Heap.get?_update_other _ _ (Ne.symm hb)]
    exact Heap.get?_push_of_some _ ho
  · rw [Heap.get?_update_self _ (Heap.get?_push_of_some _ he) rfl]
    rfl
end DL

set_option Elab.async false
set_option linter.all false
set_option maxRecDepth 100000
set_option maxHeartbeats 2000000
namespace DL
open PySem PySem.Spec PyProof.Rows L2 LamX
open PySem.W (ksEnv)
theorem callWith_mw {M : Model} {A : Around} {E : Value → Shared → Prop} {s : Shared} {i : String} {u x : Addr} {pos : Pos} {env : Env} {e : Expr} {rest : List Expr} {Q : Value → Shared → Prop}
    (he : starEach (e :: rest) env = (false, eval e env) :: starEach rest env) (hplain : (backTo pos (starEach rest env)).any (·.1) = false)
    (h : wpAny M A (spliced (backTo pos (starEach (e :: rest) env))) (fun vs s₁ => PySem.W.KxsAt i u x s₁.heap ∧ wpAny M A (call (.ref u) vs) Q E s₁) E s) :
    wpAny M A (callWith pos (.ref u) [] (backTo pos (starEach (e :: rest) env)) []) Q E s := by
  rw [he] at h ⊢
  refine PySem.W.kxs_callWith (i := i) (x := x) (by show (false || (backTo pos (starEach rest env)).any (·.1)) = false; rw [hplain]; rfl) ?_
  exact Calls.evalArgs_plain h
theorem fnSup {P : Program} {w : PySem.World} {K : PySem.W.Frag} {mg : Str → Option Value} {base : Heap} {CX : CXT} {N ps : List Str} {qual : Str} {st : Stmt} {f C cc cda : Addr} {fd : FuncData} {k : Nat} {sp : Sp} {p0 p1 ap cp xp : Pos} {e : Expr} {es : List Expr} {rest : List Stmt} {ar : Arg} {pl : Env → Sem Bool}
    (G : SupTxt P K mg C f cc cda qual st fd) (T : OexC K C) (S : ScopeS N ps (defScope st)) (hbody : defBody st = .Expr (.Call (.Attribute (.Call (.Name "super" p0) [] [] p1) "__init__" ap) (e :: es) [] cp) xp :: rest)
    (hp : ((defArgs st).posonlyargs ++ (defArgs st).args).head? = some ar) (hN0 : N[0]? = some ar.arg) (hpl : ps[0]? = some ar.arg) (len : ∀ vs H Q E, sp vs H Q E → vs.length = ps.length)
    (he : ∀ env, starEach (e :: es) env = (false, eval e env) :: starEach es env) (hpn : ∀ env, (backTo cp (starEach es env)).any (·.1) = false)
    (hev : ∀ env, eval (.Call (.Attribute (.Call (.Name "super" p0) [] [] p1) "__init__" ap) (e :: es) [] cp) env = (do
      let ov ← attributeBase (.Call (.Name "super" p0) [] [] p1) "__init__" env (eval (.Call (.Name "super" p0) [] [] p1) env)
      standAt ap.atName
      let (f, first) ← holding [ov] (getMethod ov "__init__" (pl env))
      callWith cp f first (backTo cp (starEach (e :: es) env)) []))
    (hsw : ∀ env, swapsWith (.Call (.Attribute (.Call (.Name "super" p0) [] [] p1) "__init__" ap) (e :: es) [] cp) none xp.line env = pure false)
    (body : ∀ (A : Around) (outer : List Env) (s : Shared) (H : Hp) (vs : List V) (Q : VK) (E : XK), Room k (A.deeper (ksEnv qual (defScope st) s.heap.objs.size f (.ref cda) cc)) → sp vs H Q E → ∃ ta t a,
      PA (cxS CX P w K mg base N qual (defScope st) f (.ref cda) cc A outer s H E) (e :: es) ta ∧ PSs (cxS CX P w K mg base N qual (defScope st) f (.ref cda) cc A outer s H E) rest t ∧ vs[0]? = some (.ref a) ∧ H a = some (exo a C none) ∧
      ta (L2.start N vs) H fun ws H1 => ws.length ≤ 1000 ∧ H1 a = some (exo a C none) ∧ t { nx := fun _ H' => Q .non H', rt := Q } (L2.start N vs) H1) : FnOk P w K mg base CX (k + 1) f fd ps sp := by
  refine ⟨len, fun A outer s H args us vs Q E hr e0 hb r hsp => ?_⟩
  obtain ⟨oc, od, kV, doc, pm, an, ct, osl, rfl, lk, hcd⟩ := G.ex
  obtain ⟨ccl, cdd, ccs, cvs, file, tf, hcode, hvs, hfile⟩ := G.code
  obtain ⟨cl, cld, csl, hcell⟩ := G.cell
  obtain ⟨nm, q, NN, bs, bm, sn, sub, ab, col, dd, k0, k1, k2, k3, k5, hC, hbm⟩ := T.cls
  have hcls : PySem.W.clsIn K C = some { name := nm, bases := bs, mro := .ref C :: bm, ns := NN, qualname := q, hasDict := true, slotNames := sn, subclasses := sub, abstract := ab, collection := col, hasDel := false } := by unfold PySem.W.clsIn; rw [hC] <;> rfl
  have halong : PySem.W.alongIn K "__init__" bm = some (some (.builtin "ValueError.__init__")) := by
    have z := G.along
    unfold PySem.W.ks_superIn at z
    rw [hcls] at z
    have z2 : PySem.W.alongIn K "__init__" (((Value.ref C :: bm).dropWhile (· != .ref C)).drop 1) = _ := z
    have e2 : ((Value.ref C :: bm).dropWhile (· != .ref C)).drop 1 = bm := by simp [List.dropWhile_cons]
    rw [e2] at z2
    exact z2
  have hl := len _ _ _ _ hsp
  have KX : K.In s.heap := e0.mod.kin.keeps fun b o e => (e0.bs b o e).1
  have lim : s.heap.NoLimit := e0.mod.nolimit.keeps fun b o e => (e0.bs b o e).1
  refine PySem.ks_codeAny_call_defAt (body := defBody st) (binds := ps.zip us) hr.depth (KX _ _ lk) rfl lim (PySem.W.codeRec_of KX hcd) rfl hb S.nocell (fun x hx => S.par _ (List.of_mem_zip hx).1) (fun h1 hns hk => ?_) S.co S.gen S.kind
  obtain ⟨ta, t, a, hta, ht, ha0, hHa, hq⟩ := body A outer s H vs Q E (hr.deeper _) hsp
  have I := inv_startS (CX := CX) (P := P) (w := w) (mg := mg) (qual := qual) (f := f) (cd := .ref cda) (E := E) (tk := s.toks + (ps.zip us).length) S hr.hd e0 hl r ⟨cl, cld, csl, _, hcell⟩ hns hk
  generalize hX : cxS CX P w K mg base N qual (defScope st) f (.ref cda) cc A outer s H E = X at I hta ht
  have xK : X.K = K := by rw [← hX]; rfl
  have xE : callEnv (PySem.W.fnX "__init__" qual (defArgs st) (defBody st) (defScope st) [("__class__", cc)] .none kV doc pm an (.ref cda) ct) s.heap.objs.size f = X.env := by rw [← hX]; rfl
  have xA : A.deeper X.env = X.A := by rw [← hX]; rfl
  have xP : X.prog = P := by rw [← hX]; rfl
  have xw : X.w = w := by rw [← hX]; rfl
  have xm : X.mg = mg := by rw [← hX]; rfl
  have xN : X.N = N := by rw [← hX]; rfl
  have xo : X.outer = outer := by rw [← hX]; rfl
  have xex : X.ex = [] := by rw [← hX]; rfl
  have xH0 : X.H_0 = H := by rw [← hX]; rfl
  have xs0 : X.s_0 = s := by rw [← hX]; rfl
  have xf : X.env.func = some f := by rw [← hX]; rfl
  have xc : X.env.code = .ref cda := by rw [← hX]; rfl
  have xs : X.env.scope = defScope st := by rw [← hX]; rfl
  have xcell : X.env.cells = [(("__class__" : Str), cc)] := by rw [← hX]; rfl
  have xk : ∀ y, X.env.kindOf y = (defScope st).names.lookup y := fun y => by rw [← hX]; rfl
  have xxe : (fun e s' => wpAny (model P w) X.A (leaving X.env e) (fun _ s'' => CR CX outer P w H s Q E (.error e) s'') (fun e' s'' => CR CX outer P w H s Q E (.error e') s'') s') = X.xe := by rw [← hX]; rfl
  rw [xE, xA, hbody]
  subst xP xw xK xm xN
  rw [xxe]
  have hlc : X.env.kindOf ar.arg = some .local := by
    rw [xk]
    exact S.par _ (List.mem_of_getElem? hpl)
  have hs0 : (L2.start X.N vs)[0]? = some (some (V.ref a)) := by
    unfold L2.start
    have hv : 0 < vs.length := (List.getElem?_eq_some_iff.mp ha0).1
    rw [List.getElem?_append_left (by rw [List.length_map]; exact hv), List.getElem?_map, ha0]
    rfl
  have hvis : Vis X.env.scope ar.arg := .inl (by rw [xs]; exact S.par _ (List.mem_of_getElem? hpl))
  refine PySem.ks_wpAt_execs_cons (PySem.ks_wpAt_Expr_any (PySem.ks_wpAt_MethodCall (pl := pl X.env) ?_ (hev _)) I.quiet (hsw _))
  have hof := I.kIn _ _ lk
  have hoc := I.kIn _ _ hcode
  have hcl2 := I.kIn _ _ hcell
  have hC2 := I.kIn _ _ hC
  refine PySem.ks_wpAt_super_base (vs := cvs) (by rw [xk]; exact S.sup) (by rw [xk]; exact S.cls) (by decide) xf hof rfl hp xc hoc rfl hvs hfile G.top ?_
  obtain ⟨mb, b1, b2⟩ := I.mod.blt
  refine PySem.W.ks_loadName_global I.ok.kind (by rw [xk]; exact S.sup) (Calls.loadGlobal_builtin (by rw [I.ok.glob]; exact I.mod.glob.keeps I.bk) G.mgs (by rw [I.ok.blt]; exact b1.keeps I.bk) ((b2 "super" (by decide)).trans boot_super) ⟨rfl, ?_⟩)
  refine wpAny_loadName_free I.ok.kind (by rw [xk]; exact S.cls) (by rw [xcell]; rfl) ⟨_, hcl2, rfl⟩ ?_
  obtain ⟨m, hn, hlo⟩ := I.loc
  obtain ⟨u0, ru, lu⟩ := hlo 0 ar.arg (.ref a) hN0 hs0 hvis
  have ru' : u0 = Value.ref a := ru
  subst ru'
  rcases lu with ⟨_, hm⟩ | ⟨hk2, _⟩
  case inr => rw [hlc] at hk2; rcases hk2 with z | z <;> cases z
  refine wpAny_loadName_local I.ok.kind hlc hn hm ?_
  obtain ⟨t1, hx⟩ := exo_at I.hok hHa
  refine PySem.ks_wpAny_isType_cls hC2 rfl ⟨rfl, ?_⟩
  refine PySem.ks_wpAny_call_super hC2 rfl hx rfl (fun c z => by cases z) (PySem.W.looks_mroIn I.kIn G.selfc) (fun h2 hso k2 => ?_)
  have I2 : L2.Inv X [] (L2.start X.N vs) H { s with heap := h2, toks := s.toks + (ps.zip us).length } := I.kept (t' := s.toks + (ps.zip us).length) k2
  have hx2 := k2 _ _ hx
  have hxC : a ≠ C := fun z => by
    rw [z, hC2] at hx
    have z2 := congrArg Obj.data (Option.some.inj hx)
    cases z2
  have hno : PySem.W.Looks (model X.prog X.w) h2 (opaqueClassAbove (.ref C)) none := PySem.W.looks_opaque I2.kIn G.opq
  have hCm : PySem.W.Looks (model X.prog X.w) h2 (mroOf (.ref C)) (.ref C :: bm) := (PySem.W.looks_clsIn I2.kIn hcls).andThen .now
  have e2 : ((Value.ref C :: bm).dropWhile (· != .ref C)).drop 1 = bm := by simp [List.dropWhile_cons]
  have IA : PySem.W.InstAt h2 a { cls := .ref C, dict := none, data := .fields #[.ref t1, .none, .none, .none, .bool false, .none] } C none := ⟨hx2, rfl, rfl, trivial⟩
  have hI : PySem.W.Looks (model X.prog X.w) h2 (isInstance (.ref a) (.type "ValueError")) true := IA.type.andThen (PySem.W.looks_subIn I2.kIn G.sub)
  refine PySem.W.kxs_getMethod PySem.W.kxs_ValueError hso hno hCm e2 I2.kIn halong hI hxC (by decide) ?_
  have I3 := ClX.pin_new (o := PySem.W.kxs_mw "ValueError.__init__" a) (a := h2.objs.size) (h' := h2.push (PySem.W.kxs_mw "ValueError.__init__" a)) (t' := s.toks + (ps.zip us).length + 1) I2 (fun b o e => Heap.get?_push_of_some _ e) (Nat.le_refl _) (Heap.get?_push_at rfl rfl) (fun v z => by cases z)
  -- the call
  show wpAny (model X.prog X.w) X.A (callWith cp (.ref h2.objs.size) [] (backTo cp (starEach (e :: es) X.env)) []) _ _ _
  refine callWith_mw (i := "ValueError.__init__") (x := a) (he _) (hpn _) ?_
  refine thn (hta.run cp _ _ _ H _ I3 hq) fun ws s3 ⟨vs3, H3, I4, r3, hz3, hH3, q3⟩ => ?_
  refine ⟨ClX.pin_at I4, ?_⟩
  obtain ⟨t2, hx3⟩ := exo_at I4.hok hH3
  obtain ⟨hp3, g3, d3, tk3, os3⟩ := s3
  show wpAny (model X.prog X.w) X.A (call (.ref h2.objs.size) ws) _ _ _
  refine call_mw (I4.kIn _ _ hC) hx3 (ClX.pin_at I4) (by rw [← Paired.length r3, sizeLine_eq]; omega) fun h4 t4 k4 hx4 => ?_
  have J := (ClX.unpin I4).write (t' := tk3) (x := a) (e := a) (o := exo a C none) (by rw [hH3]; exact True.intro) (.inl rfl) k4 ⟨_, hx4⟩ (exo_ok hx4)
  have eu : upd H3 a (exo a C none) = H3 := by
    funext b
    by_cases hb : b = a
    · rw [hb, upd_same, hH3]
    · rw [upd_ne hb]
  rw [eu] at J
  refine wpAt_of_wpAny (wpAny_mono (ht.run [] _ (L2.start X.N vs) H3 _ J q3) (fun fl s' hs => ?_) fun e s' hs => hs)
  have fin : ∀ {σ' : L2.St} {H' : Hp} {v : V} {u : Value}, L2.Inv X [] σ' H' s' → RelV v u → Q v H' → CE outer X.prog X.w H s Q u s' :=
    fun {σ' H' v u} J rv q => by
      have b : Un (frs X.outer) X.ex X.H_0 H' X.s_0.heap s'.heap := J.base
      have os : s'.os = X.s_0.os := J.os
      rw [xo, xex, xH0, xs0] at b
      rw [xs0] at os
      exact ⟨v, H', os, J.bare, b, J.hok, rv, q⟩
  cases fl with
  | ret u =>
    obtain ⟨v, σ', H', J, rv, q⟩ := hs
    exact fin J rv q
  | next =>
    obtain ⟨σ', H', J, q⟩ := hs
    exact fin (v := V.non) (u := Value.none) J rfl q
  | brk =>
    obtain ⟨_, _, _, q⟩ := hs
    exact False.elim q
  | cont =>
    obtain ⟨_, _, _, q⟩ := hs
    exact False.elim q
end DL

set_option Elab.async false
set_option linter.all false
set_option maxRecDepth 100000
set_option maxHeartbeats 2000000
namespace DL
open PySem PySem.Spec PyProof.Rows L2 LamX
open PySem.W (ksEnv)
/-- __init__ of an error class of one field: what it is called with, what it leaves -/
def spX1 (C : Addr) (f : Str) (ok : V → Prop) : Sp := fun vs H Q _ => ∃ a v, vs = [.ref a, v] ∧ H a = some (exo a C none) ∧ ok v ∧
  ∀ dx, H dx = none → dx ≠ a → Q .non (upd (upd H dx (exd dx [(f, v)])) a (exo a C (some dx)))
def intFits (v : V) : Prop := ∃ i : Int, v = .int i ∧ i.natAbs.log2 < 1920
/-- what a made error leaves -/
theorem made_heap {H1 : Hp} {a dx C : Addr} {f : Str} {v : V} (na : H1 a = none) (nd : dx ≠ a) : upd (del (upd (upd (upd H1 a (exo a C none)) dx (exd dx [(f, v)])) a (exo a C (some dx))) a) dx (.xd [(f, v)]) = upd H1 dx (.xd [(f, v)]) := by
  funext b
  by_cases h1 : b = dx
  · rw [h1, upd_same, upd_same]
  · rw [upd_ne h1, upd_ne h1]
    by_cases h2 : b = a
    · rw [h2, del_same, na]
    · rw [del_ne h2, upd_ne h2, upd_ne h1, upd_ne h2]
section
variable {X : Cx} {T : List (Addr × Str)} {W : WX} {χ : XD} {δ : Dn} {w : Wp} {pos : Pos}
/-- raise X(e), X an error class of one field -/
theorem psd_raise1 {CX : CXT} {x f : Str} {C fI : Addr} {k : Nat} {fd : FuncData} {ok : V → Prop} {e : Expr} {p cpos : Pos} {Fi : Fin} (hc : X.calm = true) (tk : Takes X W) (TC : OexC X.K C) (iC : PySem.W.findIn X.K (.ref C) "__init__" = some (some (.ref fI))) (tI : PySem.W.typeIn X.K (.ref fI) = some (.type "function"))
    (G : FnOk X.prog X.w X.K X.mg X.base CX0 k fI fd ["self", f] (spX1 C f ok)) (hr : Room (k + 1) X.A) (hb : Binds X.K fd ["self", f] []) (hm : X.mg x = some (.ref C))
    (h : PD X T W χ e δ w fun d w1 => ∃ v, d = .val v ∧ ok v ∧ χ C [f] [d] w1) (hg : Gl X x := by rfl) (hdb : (x == ("__debug__" : Str)) = false := by decide)
    (he : starEach [e] X.env = (false, eval e X.env) :: starEach [] X.env := by rfl) (hpl : (backTo cpos (starEach [] X.env)).any (·.1) = false := by rfl) : PSD X T W χ (.Raise (some (.Call (.Name x p) [e] [] cpos)) none pos) δ w Fi := fun F σ S H E hE hW hX hK => by
  refine wp_ps (ps_raise hc tk (pmk_oex (dvs := []) (ds := []) TC iC tI G hr hb .nil pass0 hg hm (pa_cons (pe_wp e) pa_nil he) hdb he hpl)) ?_
  refine h F σ S H _ hE hW (hX σ) fun d w1 v S1 H1 q s1 W1 r => ?_
  obtain ⟨v', rfl, hv, q⟩ := q
  have r' : v = v' := r
  subst r'
  refine ⟨by show 1 ≤ 1000; decide, fun a na => ?_⟩
  refine ⟨a, v, rfl, upd_same, hv, fun dx nd nda => ⟨rfl, dx, [(f, v)], upd_same, ?_, ?_, ?_⟩⟩
  · rw [upd_ne nda, upd_same]
  · rw [upd_ne nda] at nd
    exact nd
  · rw [upd_ne nda] at nd
    rw [made_heap na nda]
    have s2 : Same S1 (upd S1 dx (.xd [(f, v)])) := same_upd (W1.free nd).1
    exact hX σ C [f] [.val v] w1 dx _ _ q (s1.trans s2) (W1.laid nd fun _ z => by cases z) ⟨[(f, v)], upd_same, rfl, v, [], rfl, rfl, rfl⟩
end
end DL
namespace Tw
open PySem PySem.Spec PyProof.Rows L2 LamX DL
open PySem.W (ksEnv)
def topX (i : Nat) : Stmt := PySem.Challenge.pw_thinwall_k07_parts_filled_and_nested.main.body.getD i (.Pass ⟨0, 0, 0, 0⟩)
theorem txt_fits {x y : Str} (h : x.length ≤ 100) (k : y.length ≤ 1921) : (x ++ y).length ≤ sizeLine := by
  have e : (x ++ y).length = x.length + y.length := Str.length_append x y
  rw [e, sizeLine_eq]
  omega
theorem txt_fits2 {x y z : Str} (h : x.length ≤ 100) (k : y.length ≤ 1921) (l : z.length ≤ 100) : (x ++ y ++ z).length ≤ sizeLine := by
  have e : (x ++ y ++ z).length = x.length + y.length + z.length := by rw [Str.length_append, Str.length_append]
  rw [e, sizeLine_eq]
  omega
abbrev sBadName : Stmt := inClass (topX 2) 0
abbrev sBadGroup : Stmt := inClass (topX 3) 0
abbrev sBadCount : Stmt := inClass (topX 4) 0
def Okc (z : Str) : Prop := z.length ≤ 1000 ∧ ∀ c ∈ z.cps.toList, c < 200
theorem Okc.rep {z : Str} (h : Okc z) : (reprText z).length ≤ 10002 := by
  have := StrLaws.reprText_len z fun c hc => Nat.lt_trans (h.2 c hc) (by decide)
  have := h.1
  omega
def strFits (v : V) : Prop := ∃ z : Str, v = .str z ∧ Okc z
section
variable {P : Program} {w : PySem.World} {K : PySem.W.Frag} {mg : Str → Option Value} {base : Heap}
theorem scBN : ScopeS ["self", "name"] ["self", "name"] (defScope sBadName) := by
  refine ⟨rfl, rfl, rfl, by decide +kernel, rfl, by decide +kernel, by decide +kernel, ?_, by decide +kernel, by decide +kernel⟩
  intro x h
  have key : ∀ y ∈ (defScope sBadName).names, (y.2 = .cell ∨ y.2 = .free) → y.1 = "__class__" := by decide +kernel
  rcases h with h | h
  · exact key (x, _) (PySem.mem_of_lookup h) (.inl rfl)
  · exact key (x, _) (PySem.mem_of_lookup h) (.inr rfl)
theorem ok_bn {f C cc cda : Addr} {fd : FuncData} (G : SupTxt P K mg C f cc cda "BadName.__init__" sBadName fd) (TC : OexC K C) (no : PySem.W.findIn K (.ref C) "name" = some none) : FnOk P w K mg base CX0 1 f fd ["self", "name"] (spX1 C "name" strFits) := by
  refine fnSup G TC scBN rfl rfl rfl rfl (fun vs H Q E h => ?_) (fun _ => rfl) (fun _ => rfl) (fun _ => rfl) (fun _ => rfl) (fun A outer s H vs Q E hr h => ?_)
  · obtain ⟨a, v, rfl, _⟩ := h
    rfl
  · obtain ⟨a, v, rfl, ha, ⟨z, rfl, hz⟩, q⟩ := h
    refine ⟨_, _, a, pa_cons (pe_joined (.cons (pe_fmtR (pv 1)) (.cons pe_str .nil))) pa_nil, pss_one (ps_ost (pv 0) (pv 1)), rfl, ha, ?_⟩
    have hr2 := hz.rep
    have lt : (" is not the name of a fact" : Str).length ≤ 100 := by decide +kernel
    refine ⟨_, rfl, .inl ⟨z, rfl, by rw [sizeLine_eq]; omega, ?_⟩⟩
    refine ⟨_, rfl, by rw [Str.empty_append, sizeLine_eq]; omega, ?_⟩
    refine ⟨_, rfl, by rw [Str.empty_append, Str.length_append, sizeLine_eq]; omega, ?_⟩
    refine ⟨by show 1 ≤ 1000; decide, ha, ?_⟩
    refine ⟨_, rfl, _, rfl, a, C, rfl, TC, no, .inl ⟨ha, fun dx nd nda => ?_⟩⟩
    exact q dx nd nda
theorem scBG : ScopeS ["self", "group"] ["self", "group"] (defScope sBadGroup) := by
  refine ⟨rfl, rfl, rfl, by decide +kernel, rfl, by decide +kernel, by decide +kernel, ?_, by decide +kernel, by decide +kernel⟩
  intro x h
  have key : ∀ y ∈ (defScope sBadGroup).names, (y.2 = .cell ∨ y.2 = .free) → y.1 = "__class__" := by decide +kernel
  rcases h with h | h
  · exact key (x, _) (PySem.mem_of_lookup h) (.inl rfl)
  · exact key (x, _) (PySem.mem_of_lookup h) (.inr rfl)
theorem ok_bg {f C cc cda : Addr} {fd : FuncData} (G : SupTxt P K mg C f cc cda "BadGroup.__init__" sBadGroup fd) (TC : OexC K C) (no : PySem.W.findIn K (.ref C) "group" = some none) : FnOk P w K mg base CX0 1 f fd ["self", "group"] (spX1 C "group" strFits) := by
  refine fnSup G TC scBG rfl rfl rfl rfl (fun vs H Q E h => ?_) (fun _ => rfl) (fun _ => rfl) (fun _ => rfl) (fun _ => rfl) (fun A outer s H vs Q E hr h => ?_)
  · obtain ⟨a, v, rfl, _⟩ := h
    rfl
  · obtain ⟨a, v, rfl, ha, ⟨z, rfl, hz⟩, q⟩ := h
    refine ⟨_, _, a, pa_cons (pe_joined (.cons (pe_fmtR (pv 1)) (.cons pe_str .nil))) pa_nil, pss_one (ps_ost (pv 0) (pv 1)), rfl, ha, ?_⟩
    have hr2 := hz.rep
    have lt : (" is not a group" : Str).length ≤ 100 := by decide +kernel
    refine ⟨_, rfl, .inl ⟨z, rfl, by rw [sizeLine_eq]; omega, ?_⟩⟩
    refine ⟨_, rfl, by rw [Str.empty_append, sizeLine_eq]; omega, ?_⟩
    refine ⟨_, rfl, by rw [Str.empty_append, Str.length_append, sizeLine_eq]; omega, ?_⟩
    refine ⟨by show 1 ≤ 1000; decide, ha, ?_⟩
    refine ⟨_, rfl, _, rfl, a, C, rfl, TC, no, .inl ⟨ha, fun dx nd nda => ?_⟩⟩
    exact q dx nd nda
theorem scBC : ScopeS ["self", "count"] ["self", "count"] (defScope sBadCount) := by
  refine ⟨rfl, rfl, rfl, by decide +kernel, rfl, by decide +kernel, by decide +kernel, ?_, by decide +kernel, by decide +kernel⟩
  intro x h
  have key : ∀ y ∈ (defScope sBadCount).names, (y.2 = .cell ∨ y.2 = .free) → y.1 = "__class__" := by decide +kernel
  rcases h with h | h
  · exact key (x, _) (PySem.mem_of_lookup h) (.inl rfl)
  · exact key (x, _) (PySem.mem_of_lookup h) (.inr rfl)
theorem ok_bc {f C cc cda : Addr} {fd : FuncData} (G : SupTxt P K mg C f cc cda "BadCount.__init__" sBadCount fd) (TC : OexC K C) (no : PySem.W.findIn K (.ref C) "count" = some none) : FnOk P w K mg base CX0 1 f fd ["self", "count"] (spX1 C "count" intFits) := by
  refine fnSup G TC scBC rfl rfl rfl rfl (fun vs H Q E h => ?_) (fun _ => rfl) (fun _ => rfl) (fun _ => rfl) (fun _ => rfl) (fun A outer s H vs Q E hr h => ?_)
  · obtain ⟨a, v, rfl, _⟩ := h
    rfl
  · obtain ⟨a, v, rfl, ha, ⟨i, rfl, hi⟩, q⟩ := h
    refine ⟨_, _, a, pa_cons (pe_joined (.cons pe_str (.cons (pe_fmt (pv 1)) (.cons pe_str .nil)))) pa_nil, pss_one (ps_ost (pv 0) (pv 1)), rfl, ha, ?_⟩
    refine ⟨_, rfl, by decide +kernel, ?_⟩
    refine ⟨_, rfl, .inr ⟨i, rfl, hi, ?_⟩⟩
    have l0 : (Str.ofString (toString i)).length ≤ 1921 := by
      have e := int_text_length_le (k := 1920) (by decide) hi
      rw [PySem.ofString_length]
      omega
    refine ⟨_, rfl, txt_fits (by decide +kernel : (Str.empty ++ ("the number " : Str)).length ≤ 100) l0, ?_⟩
    refine ⟨_, rfl, txt_fits2 (by decide +kernel : (Str.empty ++ ("the number " : Str)).length ≤ 100) l0 (by decide +kernel), ?_⟩
    refine ⟨by show 1 ≤ 1000; decide, ha, ?_⟩
    refine ⟨_, rfl, _, rfl, a, C, rfl, TC, no, .inl ⟨ha, fun dx nd nda => ?_⟩⟩
    exact q dx nd nda
end
end Tw

set_option Elab.async false
set_option linter.all false
set_option maxRecDepth 100000
set_option maxHeartbeats 2000000
/-! for over a text; a op b op c as a value. -/
namespace DL
open PySem PySem.Spec PyProof.Rows L2 LamX
section
variable {X : Cx} {T : List (Addr × Str)} {W : WX} {χ : XD} {δ : Dn} {w : Wp} {pos : Pos}
theorem it_str {tg e : Expr} {κ : List D → Wp → Prop} (h : PD X T W χ e δ w fun d w1 => ∃ z : Str, d = DL.T z ∧ κ (z.cps.toList.map fun c => DL.T ⟨#[c]⟩) w1) : IterD X T W χ tg e δ w κ :=
  ⟨_, pi_str (pe_wp e), fun F σ S H R hE hW hX hK => by
    refine h F σ S H _ hE hW hX fun d w1 v S1 H1 k s1 W1 r => ?_
    obtain ⟨z, rfl, k⟩ := k
    have r' : v = .str z := r
    subst r'
    refine ⟨z, rfl, ?_⟩
    have ww := walk_str (z := z)
    have el : z.cps.size = (z.cps.toList.map fun c => DL.T ⟨#[c]⟩).length := by rw [List.length_map, Array.length_toList]
    rw [el] at ww
    refine hK _ w1 S1 H1 _ _ _ k s1 W1 ww (fun _ _ _ _ _ _ => trivial) fun i d S2 w2 F2 H2 x H3 hd s2 W2 y => ?_
    obtain ⟨rfl, c, hc, rfl⟩ := y
    rw [List.getElem?_map, Array.getElem?_toList, hc] at hd
    cases hd
    exact ⟨S2, Same.refl _, W2, rfl⟩⟩
theorem pd_chain {a b c : Expr} {op op' : CmpOp} {r r' : R2} {κ : D → Wp → Prop} (ho : OpR X (compareOp op) r) (ho' : OpR X (compareOp op') r')
    (h : PD X T W χ a δ w fun d w1 => PD X T W χ b δ w1 fun e w2 => VR2 X.K T r d e w2 fun z w3 => ∃ k : Bool, z = B k ∧ if k = true then PD X T W χ c δ w3 fun f w4 => VR2 X.K T r' e f w4 κ else κ (B false) w3)
    (hm : lastMarks [op, op'] [b, c] = false := by with_unfolding_all rfl) : PD X T W χ (.Compare a [op, op'] [b, c] pos) δ w κ := fun F σ S H Q hE hW hX hK =>
  wp_pe (pe_chain ho ho' (pe_wp a) (pe_wp b) (pe_wp c) hm) (by
    refine h F σ S H _ hE hW hX fun d w1 v S1 H1 k1 s1 W1 r1 => ?_
    refine k1 F σ S1 H1 _ (hE.mono s1) W1 (hX.mono s1) fun e w2 u S2 H2 k2 s2 W2 r2 => ?_
    refine k2 F S2 H2 v u _ W2 (r1.mono s2) r2 fun z w3 x S3 H3 k3 s3 W3 r3 => ?_
    obtain ⟨k, rfl, k3⟩ := k3
    have r3' : x = .bl k := r3
    refine ⟨k, r3', ?_⟩
    have ss := s1.trans (s2.trans s3)
    cases k with
    | true =>
      rw [if_pos rfl] at k3 ⊢
      refine k3 F σ S3 H3 _ (hE.mono ss) W3 (hX.mono ss) fun f w4 y S4 H4 k4 s4 W4 r4 => ?_
      refine k4 F S4 H4 u y _ W4 (r2.mono (s3.trans s4)) r4 fun z' w5 x5 S5 H5 k5 s5 W5 r5 => ?_
      exact hK z' w5 x5 S5 H5 k5 (ss.trans (s4.trans s5)) W5 r5
    | false =>
      rw [if_neg Bool.false_ne_true] at k3 ⊢
      exact hK _ w3 _ S3 H3 k3 ss W3 rfl)
end
end DL

set_option Elab.async false
set_option linter.all false
set_option maxRecDepth 100000
set_option maxHeartbeats 2000000
/-! Checks of names and groups. -/
namespace Tw
open PySem PySem.Spec PyProof.Rows L2 LamX DL
open PySem PySem.Spec PyProof.Rows L2 LamX DL
/-- what a raise of an own error class of one field asks -/
def HasE (P : Program) (w : PySem.World) (K : PySem.W.Frag) (mg : Str → Option Value) (base : Heap) (x : Str) (C : Addr) (k : Nat) (f : Str) : Prop :=
  ∃ fI fd, FnOk P w K mg base CX0 k fI fd ["self", f] (spX1 C f intFits) ∧ mg x = some (.ref C) ∧ OexC K C ∧ PySem.W.findIn K (.ref C) "__init__" = some (some (.ref fI)) ∧ PySem.W.typeIn K (.ref fI) = some (.type "function") ∧ Binds K fd ["self", f] []
/-- C.m is a method that keeps sp -/
def HasM (P : Program) (w : PySem.World) (K : PySem.W.Frag) (mg : Str → Option Value) (base : Heap) (T : List (Addr × Str)) (CX : CXT) (C : Addr) (m : Str) (k : Nat) (ps : List Str) (sp : SpD) : Prop :=
  ∃ f fd, FnOk P w K mg base CX k f fd ps (spOf K T sp) ∧ Meth K C m f ∧ Binds K fd ps []
theorem passLf {X : Cx} {σ : L2.St} : PassesAt (L2.CX X.prog X.w) X σ (WE Wf σ) := fun pins H s e s' I h => passL pins σ H s e s' I h
section
variable {X : Cx} {T : List (Addr × Str)} {W : WX} {χ : XD} {δ : Dn} {w : Wp} {pos : Pos}
theorem psd_raiseH {x f : Str} {C : Addr} {k : Nat} {e : Expr} {p cpos : Pos} {Fi : DL.Fin} (hc : X.calm = true) (tk : Takes X W) (G : HasE X.prog X.w X.K X.mg X.base x C k f) (hr : Room (k + 1) X.A)
    (h : PD X T W χ e δ w fun d w1 => ∃ i : Int, d = I i ∧ i.natAbs.log2 < 1920 ∧ χ C [f] [I i] w1) (hg : Gl X x := by rfl) (hdb : (x == ("__debug__" : Str)) = false := by decide)
    (he : starEach [e] X.env = (false, eval e X.env) :: starEach [] X.env := by rfl) (hpl : (backTo cpos (starEach [] X.env)).any (·.1) = false := by rfl) : PSD X T W χ (.Raise (some (.Call (.Name x p) [e] [] cpos)) none pos) δ w Fi := by
  obtain ⟨fI, fd, h1, h2, h3, h4, h5, h6⟩ := G
  refine psd_raise1 (CX := CX0) hc tk h3 h4 h5 h1 hr h6 h2 (h.imp ?_) hg hdb he hpl
  rintro d w1 ⟨i, rfl, hi, k⟩
  exact ⟨.int i, rfl, ⟨i, rfl, hi⟩, k⟩
theorem pd_hasm {CX : CXT} {k : Nat} {C : Addr} {ps : List Str} {sp : SpD} {m : Str} {apos : Pos} {e o : Expr} {es : List Expr} {κ : D → Wp → Prop} {pl : Sem Bool} (c : Cls X.K C) (G : HasM X.prog X.w X.K X.mg X.base T CX C m k ps sp) (hr : Room k X.A)
    (hx : ∀ σ, PassesAt CX X σ (WE W σ)) (h : PD X T W χ o δ w fun d w1 => InsD C m d w1 ∧ PAD X T W χ (e :: es) δ w1 fun ds w2 => sp (d :: ds) w2 κ χ)
    (hst : starEach (e :: es) X.env = (false, eval e X.env) :: starEach es X.env := by rfl) (hpl : (backTo pos (starEach es X.env)).any (·.1) = false := by rfl)
    (ht : eval (.Call (.Attribute o m apos) (e :: es) [] pos) X.env = (do
      let ov ← eval o X.env
      standAt apos.atName
      let (f, first) ← holding [ov] (getMethod ov m pl)
      callWith pos f first (backTo pos (starEach (e :: es) X.env)) (backToKw pos (keywordEach [] X.env))) := by rfl) : PD X T W χ (.Call (.Attribute o m apos) (e :: es) [] pos) δ w κ := by
  obtain ⟨f, fd, h1, h2, h3⟩ := G
  exact pd_meth c h2 h1 hr h3 hx h hst hpl ht
theorem pd_hasm0 {CX : CXT} {k : Nat} {C : Addr} {ps : List Str} {sp : SpD} {m : Str} {apos : Pos} {o : Expr} {κ : D → Wp → Prop} {pl : Sem Bool} (c : Cls X.K C) (G : HasM X.prog X.w X.K X.mg X.base T CX C m k ps sp) (hr : Room k X.A)
    (hx : ∀ σ, PassesAt CX X σ (WE W σ)) (h : PD X T W χ o δ w fun d w1 => InsD C m d w1 ∧ sp [d] w1 κ χ)
    (ht : eval (.Call (.Attribute o m apos) [] [] pos) X.env = (do
      let ov ← eval o X.env
      standAt apos.atName
      let (f, first) ← holding [ov] (getMethod ov m pl)
      callWith pos f first (backTo pos (starEach [] X.env)) (backToKw pos (keywordEach [] X.env))) := by rfl) : PD X T W χ (.Call (.Attribute o m apos) [] [] pos) δ w κ := by
  obtain ⟨f, fd, h1, h2, h3⟩ := G
  exact pd_meth0 c h2 h1 hr h3 hx h ht
end
section
variable {P : Program} {w : PySem.World} {K : PySem.W.Frag} {mg : Str → Option Value} {base : Heap} {T : List (Addr × Str)}
theorem takesX {N : List Str} {qual : Str} {sc : Scope} {f : Addr} {cdv : Value} {A : Around} {outer : List Env} {s : Shared} {H : Hp} {E : XK} : Takes (cxOf (L2.CX P w) P w K mg base N qual sc f cdv A outer s H E) (fun cls d _ H => E cls d H) := takes_of rfl rfl rfl rfl
theorem passX {N : List Str} {qual : Str} {sc : Scope} {f : Addr} {cdv : Value} {A : Around} {outer : List Env} {s : Shared} {H : Hp} {E : XK} (σ : L2.St) : PassesAt (L2.CX P w) (cxOf (L2.CX P w) P w K mg base N qual sc f cdv A outer s H E) σ (WE (fun cls d _ H => E cls d H) σ) := passAt takesX σ
end
/-- what a raise of BadText asks -/
def HasET (P : Program) (w : PySem.World) (K : PySem.W.Frag) (mg : Str → Option Value) (base : Heap) (x : Str) (C : Addr) (k : Nat) (f : Str) : Prop :=
  ∃ fI fd, FnOk P w K mg base CX0 k fI fd ["self", f] (spX1 C f strFits) ∧ mg x = some (.ref C) ∧ OexC K C ∧ PySem.W.findIn K (.ref C) "__init__" = some (some (.ref fI)) ∧ PySem.W.typeIn K (.ref fI) = some (.type "function") ∧ Binds K fd ["self", f] []
section
variable {X : Cx} {T : List (Addr × Str)} {W : WX} {χ : XD} {δ : Dn} {w : Wp} {pos : Pos}
theorem psd_raiseT {x f : Str} {C : Addr} {k : Nat} {e : Expr} {p cpos : Pos} {Fi : DL.Fin} (hc : X.calm = true) (tk : Takes X W) (G : HasET X.prog X.w X.K X.mg X.base x C k f) (hr : Room (k + 1) X.A)
    (h : PD X T W χ e δ w fun d w1 => ∃ z : Str, d = DL.T z ∧ Okc z ∧ χ C [f] [DL.T z] w1) (hg : Gl X x := by rfl) (hdb : (x == ("__debug__" : Str)) = false := by decide)
    (he : starEach [e] X.env = (false, eval e X.env) :: starEach [] X.env := by rfl) (hpl : (backTo cpos (starEach [] X.env)).any (·.1) = false := by rfl) : PSD X T W χ (.Raise (some (.Call (.Name x p) [e] [] cpos)) none pos) δ w Fi := by
  obtain ⟨fI, fd, h1, h2, h3, h4, h5, h6⟩ := G
  refine psd_raise1 (CX := CX0) hc tk h3 h4 h5 h1 hr h6 h2 (h.imp ?_) hg hdb he hpl
  rintro d w1 ⟨z, rfl, hz, k⟩
  exact ⟨.str z, rfl, ⟨z, rfl, hz⟩, k⟩
end

theorem va_all {K : PySem.W.Frag} {T : List (Addr × Str)} {w : Wp} {κ : D → Wp → Prop} {bs : List Bool} (k : κ (B (bs.all id)) w) : VRA K T (rAll K) [.lst (bs.map B)] w κ := fun F S H xs Q hW r hK => by
  obtain ⟨y, ys, rfl, h1, h2⟩ := r
  obtain ⟨a, zs, rfl, h3, h4⟩ := h1
  have h2' : ys = [] := h2
  subst h2'
  have e : bs.map B = (bs.map V.bl).map D.val := by
    rw [List.map_map]
    rfl
  rw [e] at h4
  have e2 := h4.vals
  subst e2
  exact ⟨a, bs, rfl, SqL.of (hW.same _ _ h3), hK _ w _ S H k (Same.refl _) hW rfl⟩
theorem bt_all : bootBuiltins "all" = some (.builtin "all") := by decide +kernel
/-- the program's is_name -/
def nameB (s : Str) : Bool := (cl s).all (fun c => decide (97 ≤ c) && decide (c ≤ 122)) && (decide (1 ≤ s.length) && decide (s.length ≤ 8)) && !decide (s ∈ ([("true" : Str), ("false" : Str)] : List Str))
theorem nameB_iff (s : Str) : nameB s = true ↔ NameOk s := by
  unfold nameB
  simp only [Bool.and_eq_true, List.all_eq_true, decide_eq_true_eq, Bool.not_eq_true', decide_eq_false_iff_not, List.mem_cons, List.not_mem_nil, or_false, not_or]
  exact ⟨fun ⟨⟨h1, h2, h3⟩, h4, h5⟩ => ⟨h2, h3, h1, h4, h5⟩, fun h => ⟨⟨h.low, h.l1, h.l8⟩, h.nt, h.nf⟩⟩
abbrev sIsN : Stmt := top 7
abbrev sIsG : Stmt := top 8
abbrev sCkG : Stmt := top 9
def spIsN : SpD := fun ds w κ χ => ∃ s : Str, ds = [DL.T s] ∧ s.length ≤ 900 ∧ κ (B (nameB s)) w
theorem a_len : cl ("a" : Str) = [97] := by decide +kernel
theorem z_len : cl ("z" : Str) = [122] := by decide +kernel
theorem one_lt (a b : Nat) : decide ([a] < [b]) = decide (a < b) := decide_eq_decide.mpr (by simp [List.cons_lt_cons_iff])
theorem vr_leS {K : PySem.W.Frag} {T : List (Addr × Str)} {w : Wp} {κ : D → Wp → Prop} {a b : Str} (k : κ (B (!decide (cl b < cl a))) w) : VR2 K T (fun x y H Q => ∃ i j, x = .str i ∧ y = .str j ∧ Q (.bl (!decide (j.cps.toList < i.cps.toList))) H) (DL.T a) (DL.T b) w κ := fun F S H x y Q hW r1 r2 hK =>
  ⟨a, b, r1, r2, hK _ w _ S H k (Same.refl _) hW rfl⟩
theorem vr_ninST {K : PySem.W.Frag} {T : List (Addr × Str)} {w : Wp} {κ : D → Wp → Prop} {y : Str} {ys : List Str} (k : κ (B (!decide (y ∈ ys))) w) : VR2 K T (rIn K true) (DL.T y) (.tup (ys.map DL.T)) w κ := fun F S H x z Q hW r1 r2 hK => by
  obtain ⟨p, us, rfl, h1, h2⟩ := r2
  have e := h2.txts
  have r1' : x = .str y := r1
  subst e r1'
  refine ⟨p, _, rfl, .inr (SqT.of (hW.same _ _ h1)), rfl, L2.flat_strs ys, ?_⟩
  refine hK _ w _ S H k (Same.refl _) hW ?_
  show V.bl (!inV (.str y) (ys.map V.str)) = .bl _
  rw [inV_strs]
theorem not_dec {a b : Nat} : (!decide (a < b)) = decide (b ≤ a) := by
  by_cases h : a < b
  · rw [decide_eq_true h, decide_eq_false (by omega)]
    rfl
  · rw [decide_eq_false h, decide_eq_true (by omega)]
    rfl
section
variable {P : Program} {w : PySem.World} {K : PySem.W.Frag} {mg : Str → Option Value} {base : Heap} {T : List (Addr × Str)}
theorem scIsN : FnScope ["text", "small", "character"] ["text"] (defScope sIsN) := ⟨rfl, rfl, rfl, by decide +kernel, rfl, by decide +kernel, by decide +kernel⟩
theorem ok_isn {f : Addr} {fd : FuncData} (G : Fun K "is_name" "is_name" sIsN f fd) (hm : Nm2 mg) (hAll : mg "all" = none) : FnOk P w K mg base CX0 1 f fd ["text"] (spOf K T spIsN) := by
  refine fnD G scIsN (fun ds w κ χ h => ?_) (fun cdv A outer s H E ds w0 κ χ hr h => ?_)
  · obtain ⟨s, rfl, _⟩ := h
    rfl
  obtain ⟨s, rfl, hz, k⟩ := h
  have nd := scIsN.nd
  have zl : s.length ≤ sizeLine := by rw [sizeLine_eq]; omega
  refine pssd_cons (psd_set (i := 1) nd rfl ?_)
  refine pd_callB (cr_all rfl) rfl hAll bt_all ?_
  refine pad_cons ?_
  refine pd_lc (own := [("character", 2)]) (is := [2]) rfl nd (blkOk_by rfl) (by decide) ?_
  refine it_str ?_
  refine pd_var (i := 0) rfl rfl ?_
  refine ⟨s, rfl, ?_⟩
  refine lcd_map (xs := cl s) (g := fun c => DL.T (letS c)) (fun c => B (decide (97 ≤ c) && decide (c ≤ 122))) (small1000 (by rw [cl_len]; omega)) (fun ch hc s2 H0 C1 cl1 fp1 => ?_) ?_
  · refine pgl_name (i := 2) nd rfl ?_
    intro s3 H0 C1 cl1 fp1
    refine ptsd_nil ?_
    intro s3 H0 C1 cl1 fp1
    refine pd_chain op_le_str op_le_str ?_
    refine pd_str ?_
    refine pd_var (i := 2) rfl rfl ?_
    refine vr_leS ?_
    have e1 : cl (letS ch) = [ch] := rfl
    rw [a_len, e1, one_lt, not_dec]
    refine ⟨_, rfl, ?_⟩
    by_cases h1 : 97 ≤ ch
    · rw [decide_eq_true h1, if_pos rfl]
      refine pd_str ?_
      refine vr_leS ?_
      rw [z_len, e1, one_lt, not_dec]
      exact ⟨rfl, rfl, rfl⟩
    · rw [decide_eq_false h1, if_neg Bool.false_ne_true]
      exact ⟨rfl, rfl, rfl⟩
  refine pad_nil ?_
  have em : (cl s).map (fun c => B (decide (97 ≤ c) && decide (c ≤ 122))) = ((cl s).map fun c => decide (97 ≤ c) && decide (c ≤ 122)).map B := by
    rw [List.map_map]
    rfl
  rw [em]
  refine va_all ?_
  have ea : ((cl s).map fun c => decide (97 ≤ c) && decide (c ≤ 122)).all id = (cl s).all fun c => decide (97 ≤ c) && decide (c ≤ 122) := List.all_map
  rw [ea]
  unfold nameB at k
  generalize (cl s).all (fun c => decide (97 ≤ c) && decide (c ≤ 122)) = q1 at k
  refine pssd_one (psd_ret ?_)
  refine pd_and ?_
  refine pd_var (i := 1) rfl rfl ?_
  refine ⟨q1, rfl, ?_⟩
  cases q1 with
  | false =>
    rw [if_neg Bool.false_ne_true]
    simpa using k
  | true =>
  rw [if_pos rfl]
  rw [Bool.true_and] at k
  refine pd_and ?_
  refine pd_chain op_le op_le ?_
  refine pd_int ?_
  refine pd_callB call_len rfl hm.len PySem.boot_len ?_
  refine pad_cons ?_
  refine pd_var (i := 0) rfl rfl ?_
  refine pad_nil ?_
  refine va_lenS zl ?_
  refine vr_I ⟨_, rfl, ?_⟩
  have c1 : decide ((1 : Int) ≤ (s.length : Int)) = decide (1 ≤ s.length) := decide_eq_decide.mpr (by omega)
  have c2 : decide ((s.length : Int) ≤ 8) = decide (s.length ≤ 8) := decide_eq_decide.mpr (by omega)
  rw [c1]
  by_cases h1 : 1 ≤ s.length
  · rw [decide_eq_true h1, if_pos rfl]
    rw [decide_eq_true h1, Bool.true_and] at k
    refine pd_int ?_
    refine vr_I ⟨_, rfl, ?_⟩
    rw [c2]
    by_cases h2 : s.length ≤ 8
    · rw [decide_eq_true h2, if_pos rfl]
      rw [decide_eq_true h2, Bool.true_and] at k
      refine pd_one ?_
      refine pd_cmp op_notIn_seq ?_
      refine pd_var (i := 0) rfl rfl ?_
      refine pd_tup ?_
      refine pad_cons (pd_str ?_)
      refine pad_cons (pd_str ?_)
      refine pad_nil ⟨by show 2 ≤ sizeLine; decide, ?_⟩
      exact vr_ninST (ys := [("true" : Str), ("false" : Str)]) k
    · rw [decide_eq_false h2, if_neg Bool.false_ne_true]
      rw [decide_eq_false h2, Bool.false_and] at k
      exact k
  · rw [decide_eq_false h1, if_neg Bool.false_ne_true]
    rw [decide_eq_false h1, Bool.false_and, Bool.false_and] at k
    refine ⟨false, rfl, ?_⟩
    rw [if_neg Bool.false_ne_true]
    exact k
end
end Tw

set_option Elab.async false
set_option linter.all false
set_option maxRecDepth 100000
set_option maxHeartbeats 2000000
/-! Lambdas with parameters, handed to a def that calls them. -/
namespace DL
open PySem PySem.Spec PyProof.Rows L2 LamX
/-- the lambda's names: its parameters, captured ones, globals -/
structure LamPS (sc scope : Scope) (N ps : List Str) : Prop where
  kind : scope.kind = .function
  co : scope.isCoroutine = false
  gen : scope.isGenerator = false
  nocell : ∀ y ∈ scope.names, y.2 ≠ .cell
  par : ∀ p ∈ ps, scope.names.lookup p = some .local
  own : ∀ y ∈ scope.names, y.2 = .local → y.1 ∈ ps
  free : ∀ y ∈ scope.names, y.2 = .free → sc.names.lookup y.1 = some .cell ∨ sc.names.lookup y.1 = some .free
  nd : ps.Nodup
  apart : ∀ p ∈ ps, p ∉ N
def lamPSB (sc scope : Scope) (N ps : List Str) : Bool :=
  decide (scope.kind = .function) && !scope.isCoroutine && !scope.isGenerator && scope.names.all (fun y => !decide (y.2 = .cell)) && ps.all (fun p => decide (scope.names.lookup p = some .local)) && scope.names.all (fun y => !decide (y.2 = .local) || decide (y.1 ∈ ps)) &&
  scope.names.all (fun y => !decide (y.2 = .free) || decide (sc.names.lookup y.1 = some .cell) || decide (sc.names.lookup y.1 = some .free)) && decide ps.Nodup && ps.all fun p => !decide (p ∈ N)
theorem lamPS_by {sc scope : Scope} {N ps : List Str} (h : lamPSB sc scope N ps = true) : LamPS sc scope N ps := by
  unfold lamPSB at h
  simp only [Bool.and_eq_true, Bool.or_eq_true, Bool.not_eq_true', decide_eq_true_eq, decide_eq_false_iff_not, List.all_eq_true] at h
  obtain ⟨⟨⟨⟨⟨⟨⟨⟨h1, h2⟩, h3⟩, h4⟩, h5⟩, h6⟩, h7⟩, h8⟩, h9⟩ := h
  refine ⟨h1, h2, h3, h4, h5, fun y hy e => ?_, fun y hy e => ?_, h8, h9⟩
  · rcases h6 y hy with z | z
    · exact absurd e z
    · exact z
  · rcases h7 y hy with (z | z) | z
    · exact absurd e z
    · exact .inl z
    · exact .inr z
theorem LamPS.has {X : Cx} {scope : Scope} {ps : List Str} (L : LamPS X.env.scope scope X.N ps) (ok : X.Ok) : ∀ y ∈ scope.names, y.2 = .free → ∃ c, X.env.cells.lookup y.1 = some c := fun y hy e => by
  rcases L.free y hy e with k | k
  · exact ok.has _ (.inl k)
  · exact ok.has _ (.inr k)
/-- the context of the lambda's body, its parameters behind the maker's names -/
abbrev lamCxP (X : Cx) (A : Around) (outer : List Env) (s : Shared) (H : Hp) (E : XK) (scope : Scope) (f c' : Addr) (ps : List Str) : Cx := { lamCx X A outer s H E scope f c' with N := X.N ++ ps }
theorem zip_rev_lookup : ∀ {ps : List Str} {us : List Value} {j : Nat} {y : Str} {u : Value}, ps.Nodup → ps[j]? = some y → us[j]? = some u → (ps.zip us).reverse.lookup y = some u
  | [], us, j, y, u, nd, h1, h2 => by simp at h1
  | p :: ps, [], j, y, u, nd, h1, h2 => by simp at h2
  | p :: ps, v :: us, j, y, u, nd, h1, h2 => by
    obtain ⟨n1, n2⟩ := List.nodup_cons.mp nd
    have e : ((p :: ps).zip (v :: us)).reverse = (ps.zip us).reverse ++ [(p, v)] := by
      show ((p, v) :: ps.zip us).reverse = _
      rw [List.reverse_cons]
    rw [e, List.lookup_append]
    cases j with
    | zero =>
      cases h1
      cases h2
      have hn : (ps.zip us).reverse.lookup p = none := by
        rw [List.lookup_eq_none_iff]
        intro q hq
        refine bne_iff_ne.mpr fun z => n1 ?_
        rw [z]
        exact (List.of_mem_zip (List.mem_reverse.mp hq)).1
      rw [hn]
      simp [List.lookup]
    | succ j =>
      rw [zip_rev_lookup (j := j) n2 h1 h2]
      rfl
section
variable {X : Cx} {pins : List (Addr × Obj)} {σ : L2.St} {H HZ : Hp} {s s1 : Shared}
theorem lamP_start {A : Around} {outer : List Env} {E : XK} {scope : Scope} {f c' : Addr} {h₁ : Heap} {tk : Nat} {ps : List Str} {us : List Value} {vs : List V} (I : Inv X pins σ H s) (L : LamPS X.env.scope scope X.N ps) (e0 : Env0 X.prog X.w X.K X.mg X.base A outer s1 HZ) (hd : A.handled = none)
    (un : Un (frs X.stack) [] H HZ s.heap s1.heap) (hns : h₁.Ns s1.heap.objs.size fun y => (ps.zip us).reverse.lookup y) (kp : ∀ b o, s1.heap.get? b = some o → h₁.get? b = some o) (r : Vals vs us) (lv : vs.length = ps.length) :
    Inv (lamCxP X A outer s1 HZ E scope f c' ps) [] (σ ++ vs.map some) HZ { s1 with heap := h₁, toks := tk } := by
  have hfree := L.has I.ok
  have cm : ∀ {y c}, (cloFrom X.env.cells scope.names []).lookup y = some c → X.env.cells.lookup y = some c := fun {y c} e => by
    rcases cloFrom_mem (PySem.mem_of_lookup e) with hm | ⟨h1, h2⟩
    · cases hm
    · obtain ⟨c1, hc⟩ := hfree _ h1 rfl
      have hc : X.env.cells.lookup y = some c1 := hc
      have e2 : c = c1 := by
        rw [h2, hc] <;> rfl
      rw [e2]
      exact hc
  have look : ∀ {y}, scope.names.lookup y = some .free → ∃ c, (cloFrom X.env.cells scope.names []).lookup y = some c := fun {y} hl => mem_lookup (cloFrom_has (cells := X.env.cells) (acc := []) (PySem.mem_of_lookup hl))
  have cellK : ∀ {c : Addr} {v : Option Value}, H c = none → s.heap.IsCell c v → h₁.IsCell c v := fun {c v} n ⟨o, ho, hd⟩ => by
    obtain ⟨sl, q⟩ := un.any ho n (by simp)
    exact ⟨_, kp _ _ q, hd⟩
  have none_ex : ∀ b : Addr, b ∉ (lamCxP X A outer s1 HZ E scope f c' ps).ex := fun b z => absurd (show b ∈ ([] : List Addr) from z) (by simp)
  refine ⟨⟨e0.mod, L.kind, rfl, rfl, Nat.le_refl _, fun y z c e1 e2 => I.ok.inj y z c (cm e1) (cm e2), fun y hy => ?_, fun y c z _ => ?_, fun _ => hd, Around.frames_deeper e0.frames, .inr ⟨rfl, rfl⟩, fun b z => absurd z (none_ex b), e0.bs, e0.bsz, fun b _ _ => none_ex b,
      fun b z => absurd z (none_ex b), e0.funs, e0.frf⟩,
    rfl, e0.bare, Un.kept kp, ⟨_, hns, fun i y v e1 e2 e3 => ?_⟩, fun y c e => ?_, e0.hok.fresh (Nat.le_refl _), fun y c e => ?_, fun q hq => absurd (show q ∈ ([] : List (Addr × Obj)) ++ [] from hq) (by simp), e0.hok.kept kp, ?_⟩
  · have hy : scope.names.lookup y = some .cell ∨ scope.names.lookup y = some .free := hy
    rcases hy with hy | hy
    · exact absurd rfl (L.nocell _ (PySem.mem_of_lookup hy))
    · exact look hy
  · have z : false = true := z
    cases z
  · have e1 : (X.N ++ ps)[i]? = some y := e1
    have e3 : Vis scope y := e3
    by_cases hi : i < X.N.length
    · rw [List.getElem?_append_left hi] at e1
      have hi2 : i < σ.length := by rw [I.len]; exact hi
      rw [List.getElem?_append_left hi2] at e2
      have yN : y ∈ X.N := List.mem_of_getElem? e1
      rcases e3 with k | k | k
      · exact absurd yN (L.apart _ (L.own _ (PySem.mem_of_lookup k) rfl))
      · exact absurd rfl (L.nocell _ (PySem.mem_of_lookup k))
      · obtain ⟨m, hn, hl⟩ := I.loc
        have hvis : Vis X.env.scope y := (L.free _ (PySem.mem_of_lookup k) rfl).elim (fun k => .inr (.inl k)) (fun k => .inr (.inr k))
        obtain ⟨w', r, q⟩ := hl i y v e1 e2 hvis
        obtain ⟨c2, h2⟩ := look k
        refine ⟨w', r, .inr ⟨.inr k, c2, h2, ?_⟩⟩
        have c1 := cm h2
        rcases q with ⟨k', _⟩ | ⟨_, c3, e', z⟩
        · have k' : X.env.scope.names.lookup y = some .local := k'
          rcases L.free _ (PySem.mem_of_lookup k) rfl with k2 | k2 <;> rw [show X.env.scope.names.lookup y = _ from k2] at k' <;> cases k'
        · rw [c1] at e'
          cases e'
          exact cellK (I.freeC y _ c1) z
    · have hi2 : σ.length ≤ i := by rw [I.len]; omega
      rw [List.getElem?_append_right (by omega)] at e1
      rw [List.getElem?_append_right hi2, I.len, List.getElem?_map] at e2
      cases ev : vs[i - X.N.length]? with
      | none =>
        rw [ev] at e2
        cases e2
      | some v' =>
        rw [ev] at e2
        cases e2
        obtain ⟨u, hu, ru⟩ := r.get ev
        exact ⟨u, ru, .inl ⟨L.par _ (List.mem_of_getElem? e1), zip_rev_lookup L.nd e1 hu⟩⟩
  · obtain ⟨w', z⟩ := I.cell y c (cm e)
    exact ⟨w', cellK (I.freeC y c (cm e)) z⟩
  · obtain ⟨v, o, ho, hd⟩ := I.cell y c (cm e)
    exact un.free c o ho (I.freeC y c (cm e)) (by simp)
  · show (σ ++ vs.map some).length = (X.N ++ ps).length
    rw [List.length_append, List.length_append, List.length_map, I.len, lv]
/-- a(e, ..), in the def that got the lambda: that def's context, entered at s -/
theorem pe_actP {Ng : List Str} {qg : Str} {sg : Scope} {g f c' : Addr} {cdg pm ctv : Value} {params : Arguments} {body : Expr} {scope : Scope} {k i : Nat} {a : Str} {E : XK} {tb : TE} {t : TA} {e : Expr} {es : List Expr} {p1 p2 : Pos} {ps : List Str}
    (I : Inv X pins σ H s) (L : LamPS X.env.scope scope X.N ps) (hf : s.heap.get? f = some (PySem.W.kla_obj "<lambda>" (X.env.qual ++ "<lambda>") params body scope (cloFrom X.env.cells scope.names []) pm c' ctv)) (hfn : H f = none) (hfr : f ∉ frs X.stack)
    (hbind : ∀ us : List Value, us.length = ps.length → bindArgs (PySem.W.kla_fn "<lambda>" (X.env.qual ++ "<lambda>") params body scope (cloFrom X.env.cells scope.names []) pm (.ref c') ctv) ⟨us, []⟩ = pure (ps.zip us)) (hr : Room (k + 1) (X.A.deeper (envOfC qg sg s.heap.objs.size g cdg)))
    (hbody : ∀ (A : Around) (outer : List Env) (s : Shared) (H : Hp), Room k (A.deeper (lamEnv X scope s.heap.objs.size f c')) → PE (lamCxP X A outer s H E scope f c' ps) body tb)
    (hN : Ng[i]? = some a) (hv : Vis sg a) (ha : PA (cxOf (L2.CX X.prog X.w) X.prog X.w X.K X.mg X.base Ng qg sg g cdg X.A X.stack s H E) (e :: es) t)
    (he : starEach (e :: es) (envOfC qg sg s.heap.objs.size g cdg) = (false, eval e (envOfC qg sg s.heap.objs.size g cdg)) :: starEach es (envOfC qg sg s.heap.objs.size g cdg)) (hpl : (backTo p2 (starEach es (envOfC qg sg s.heap.objs.size g cdg))).any (·.1) = false) (hd : (a == ("__debug__" : Str)) = false := by decide) (hcd : (a == ("__classdict__" : Str)) = false := by decide) :
    PE (cxOf (L2.CX X.prog X.w) X.prog X.w X.K X.mg X.base Ng qg sg g cdg X.A X.stack s H E) (.Call (.Name a p1) (e :: es) [] p2)
      (fun σZ HZ Q => σZ[i]? = some (some (.ref f)) ∧ t σZ HZ fun vs H1 => vs.length = ps.length ∧ H1 c' = some (CodeO c' (X.env.qual ++ "<lambda>")) ∧ tb (σ ++ vs.map some) H1 Q) := by
  refine ⟨fun pinsZ sZ σZ HZ Q IZ h => ?_⟩
  obtain ⟨hs, ht⟩ := h
  refine wpAny_Call_Name_kw (thn ((pe_var (pos := p1) (i := i) hN hv hd hcd).run pinsZ sZ σZ HZ (fun v H1 => v = .ref f ∧ H1 = HZ) IZ ⟨.ref f, hs, rfl, rfl⟩) fun u s1 ⟨v, H1, I1, r1, q1⟩ => ?_)
  obtain ⟨ev, eH⟩ := q1
  subst ev
  subst eH
  obtain rfl : u = Value.ref f := r1
  have atF : ∀ {σ' : L2.St} {H' : Hp} {s' : Shared}, Inv (cxOf (L2.CX X.prog X.w) X.prog X.w X.K X.mg X.base Ng qg sg g cdg X.A X.stack s H E) pinsZ σ' H' s' → s'.heap.get? f = some (PySem.W.kla_obj "<lambda>" (X.env.qual ++ "<lambda>") params body scope (cloFrom X.env.cells scope.names []) pm c' ctv) := fun I' =>
    I'.base.keep f _ hf hfn hfr (fun z => nomatch (show f ∈ ([] : List Addr) from z))
  refine PySem.W.callWith_F ⟨_, _, _, _, atF I1⟩ (thn (ha.run p2 pinsZ s1 σZ H1 _ I1 ht) fun us s2 ⟨vs, H2, I2, rv, lv, hc, hb⟩ => ⟨⟨_, _, _, _, atF I2⟩, ?_⟩) he hpl
  have of2 := atF I2
  have un : Un (frs X.stack) [] H H2 s.heap s2.heap := I2.base
  obtain ⟨⟨oc, vv, t, hoc, hdc, hvc⟩, _, _⟩ := I2.hok c' _ hc
  have lu : us.length = ps.length := by rw [← rv.length]; exact lv
  have rc : codeAny (model X.prog X.w) (X.A.deeper (envOfC qg sg s.heap.objs.size g cdg)) (.call (.ref f) ⟨us, []⟩) (CR (L2.CX X.prog X.w) (envOfC qg sg s.heap.objs.size g cdg :: X.stack) X.prog X.w H2 s2 Q E) s2 := by
    refine PySem.W.kla_callFunE hr.depth of2 rfl L.co L.gen rfl ⟨c', oc, vv, t, rfl, hoc, hdc, hvc⟩ ?_
    rw [hbind us lu]
    refine wpAny_pure (wpAny_newFunctionEnv L.nocell (fun y hy => L.par _ (List.of_mem_zip hy).1) (fun h₁ hns hsb => ⟨I2.nolimit.fresh _ hsb, ?_⟩) L.kind)
    show codeAny _ _ (.expr body (lamEnv X scope s2.heap.objs.size f c')) _ _
    have kp : ∀ b o, s2.heap.get? b = some o → h₁.get? b = some o := fun b o e => hsb.extBut b o (Nat.ne_of_lt (Heap.lt_size e)) (Heap.get?_push_of_some _ e)
    have J : Inv (lamCxP X (X.A.deeper (envOfC qg sg s.heap.objs.size g cdg)) (envOfC qg sg s.heap.objs.size g cdg :: X.stack) s2 H2 E scope f c' ps) [] (σ ++ vs.map some) H2 { s2 with heap := h₁, toks := s2.toks + (ps.zip us).length } :=
      lamP_start I L I2.env0 hr.hd un hns kp rv lv
    refine PySem.W.kla_codeExpr (wpAny_mono ((hbody _ _ s2 H2 (hr.deeper _)).run [] _ _ H2 Q J hb) (fun v s' hq => ?_) fun e s' hq => hq)
    obtain ⟨w', H', J', rv', q⟩ := hq
    exact ⟨w', H', J'.os, J'.bare, J'.base, J'.hok, rv', q⟩
  have hx := Tw.passX (P := X.prog) (w := X.w) (K := X.K) (mg := X.mg) (base := X.base) (N := Ng) (qual := qg) (sc := sg) (f := g) (cdv := cdg) (A := X.A) (outer := X.stack) (s := s) (H := H) (E := E) σZ
  refine wpAny_call (codeAny_mono rc fun r s' hq => ?_)
  cases r with
  | error e => exact hx pinsZ H2 s2 e s' I2 hq
  | ok fl =>
    cases fl with
    | ret u => exact I2.after hq
    | next => exact False.elim hq
    | brk => exact False.elim hq
    | cont => exact False.elim hq
end
end DL

set_option Elab.async false
set_option linter.all false
set_option maxRecDepth 100000
set_option maxHeartbeats 2000000
/-! x(e, lambda ..: body), in data. -/
namespace DL
open PySem PySem.Spec PyProof.Rows L2 LamX
/-- slots of a frame that are known -/
def mkD (n : Nat) : List Nat → List D → Dn
  | i :: js, d :: ds => (mkD n js ds).set i (some d)
  | _, _ => List.replicate n none
theorem env_put {K : PySem.W.Frag} {S : Hp} {δ : Dn} {σ : L2.St} (h : EnvD K S δ σ) {i : Nat} {d : D} {v : V} (e : σ[i]? = some (some v)) (r : Rep K S d v) : EnvD K S (δ.set i (some d)) σ := by
  refine ⟨by rw [List.length_set]; exact h.len, fun j d' q => ?_⟩
  by_cases z : i = j
  · subst z
    have hl : i < δ.length := by rw [h.len]; exact (List.getElem?_eq_some_iff.mp e).1
    rw [List.getElem?_set_self hl] at q
    cases q
    exact ⟨v, e, r⟩
  · rw [List.getElem?_set_ne z] at q
    exact h.at_ j d' q
theorem env_none {K : PySem.W.Frag} {S : Hp} {σ : L2.St} : EnvD K S (List.replicate σ.length none) σ := ⟨List.length_replicate, fun i d q => by
  rw [List.getElem?_replicate] at q
  split at q <;> cases q⟩
theorem env_mk {K : PySem.W.Frag} {S : Hp} {σ : L2.St} : ∀ {js : List Nat} {ds : List D} {vs : List V}, js.map (fun i => σ[i]?) = vs.map (fun v => some (some v)) → RepL K S ds vs → EnvD K S (mkD σ.length js ds) σ
  | [], ds, vs, _, _ => by
    unfold mkD
    cases ds <;> exact env_none
  | i :: js, [], vs, _, _ => env_none
  | i :: js, d :: ds, vs, e, r => by
    obtain ⟨y, ys, rfl, r1, r2⟩ := r
    have e' : σ[i]? :: js.map (fun i => σ[i]?) = some (some y) :: ys.map (fun v => some (some v)) := e
    exact env_put (env_mk (List.cons.inj e').2 r2) (List.cons.inj e').1 r1
theorem env_app {K : PySem.W.Frag} {S : Hp} {δ : Dn} {σ : L2.St} {ds : List D} {vs : List V} (h : EnvD K S δ σ) (r : RepL K S ds vs) : EnvD K S (δ ++ ds.map some) (σ ++ vs.map some) := by
  refine ⟨by rw [List.length_append, List.length_append, List.length_map, List.length_map, h.len, r.length], fun i d q => ?_⟩
  by_cases hi : i < δ.length
  · rw [List.getElem?_append_left hi] at q
    obtain ⟨v, h1, h2⟩ := h.at_ i d q
    exact ⟨v, by rw [List.getElem?_append_left (by rw [← h.len]; exact hi)]; exact h1, h2⟩
  · rw [List.getElem?_append_right (by omega), List.getElem?_map] at q
    cases e : ds[i - δ.length]? with
    | none =>
      rw [e] at q
      cases q
    | some d' =>
      rw [e] at q
      cases q
      obtain ⟨v, h1, h2⟩ := r.get e
      refine ⟨v, ?_, h2⟩
      rw [List.getElem?_append_right (by rw [← h.len]; omega), List.getElem?_map, ← h.len, h1]
      rfl
/-- the context of a def of the text that may raise, entered at s -/
abbrev gCx (X : Cx) (N : List Str) (x : Str) (sg : Scope) (g : Addr) (cdg : Value) (s : Shared) (H : Hp) (E : XK) : Cx := cxOf (L2.CX X.prog X.w) X.prog X.w X.K X.mg X.base N x sg g cdg X.A X.stack s H E
/-- in the def: the call of what it got at slot i keeps spl -/
def ActD (Z : Cx) (T : List (Addr × Str)) (W : WX) (a : Str) (i n : Nat) (L : D) (spl : SpD) : Prop :=
  ∀ (χ : XD) (e : Expr) (es : List Expr) (p1 p2 : Pos) (δ : Dn) (w : Wp) (κ : D → Wp → Prop), δ[i]? = some (some L) → starEach (e :: es) Z.env = (false, eval e Z.env) :: starEach es Z.env → (backTo p2 (starEach es Z.env)).any (·.1) = false →
    PAD Z T W χ (e :: es) δ w (fun ds w1 => ds.length = n ∧ spl ds w1 κ χ) → PD Z T W χ (.Call (.Name a p1) (e :: es) [] p2) δ w κ
section
variable {X : Cx} {T : List (Addr × Str)} {W : WX} {χ : XD} {δ : Dn} {w : Wp} {pos : Pos}
theorem pd_actP {pins : List (Addr × Obj)} {σ : L2.St} {H : Hp} {s : Shared} {Ng : List Str} {qg : Str} {sg : Scope} {g f c' : Addr} {cdg pm ctv : Value} {params : Arguments} {body : Expr} {scope : Scope} {k i : Nat} {a : Str} {E : XK} {ps : List Str} {js : List Nat} {cs : List D} {spl : SpD}
    (I : Inv X pins σ H s) (L : LamPS X.env.scope scope X.N ps) (hf : s.heap.get? f = some (PySem.W.kla_obj "<lambda>" (X.env.qual ++ "<lambda>") params body scope (cloFrom X.env.cells scope.names []) pm c' ctv)) (hfn : H f = none) (hfr : f ∉ frs X.stack)
    (hbind : ∀ us : List Value, us.length = ps.length → bindArgs (PySem.W.kla_fn "<lambda>" (X.env.qual ++ "<lambda>") params body scope (cloFrom X.env.cells scope.names []) pm (.ref c') ctv) ⟨us, []⟩ = pure (ps.zip us)) (hr : Room (k + 1) (X.A.deeper (envOfC qg sg s.heap.objs.size g cdg)))
    (hbody : ∀ (A : Around) (outer : List Env) (s : Shared) (H : Hp) (E : XK) (f c' : Addr) (ds : List D) (w : Wp) (κ : D → Wp → Prop) (χ : XD), Room k (A.deeper (lamEnv X scope s.heap.objs.size f c')) → ds.length = ps.length → spl ds w κ χ → PD (lamCxP X A outer s H E scope f c' ps) T (fun cls d _ H => E cls d H) χ body (mkD X.N.length js cs ++ ds.map some) w κ)
    (hN : Ng[i]? = some a) (hv : Vis sg a) (hd : (a == ("__debug__" : Str)) = false) (hcd : (a == ("__classdict__" : Str)) = false) :
    ActD (gCx X Ng qg sg g cdg s H E) T (fun cls d _ H => E cls d H) a i ps.length (.cod f c' (X.env.qual ++ "<lambda>") σ js cs) spl := by
  intro χ e es p1 p2 δ w κ hδ he hpl h F σg S Hg Q hE hW hX hK
  refine wp_pe (pe_actP (Ng := Ng) (qg := qg) (sg := sg) (g := g) (cdg := cdg) (k := k) (i := i) (E := E) (t := wpA (gCx X Ng qg sg g cdg s H E) (e :: es)) (tb := fun σl Hl Ql => ∀ (A : Around) (outer : List Env) (s2 : Shared) (H2 : Hp), Room k (A.deeper (lamEnv X scope s2.heap.objs.size f c')) → wpE (lamCxP X A outer s2 H2 E scope f c' ps) body σl Hl Ql) I L hf hfn hfr hbind hr (fun A outer s2 H2 hr2 => ⟨fun pins2 s3 σ3 H3 Q3 I3 h3 => h3 A outer s2 H2 hr2 pins2 s3 I3⟩) hN hv (pa_wp _) he hpl hd hcd) ?_
  obtain ⟨v, e1, rv⟩ := hE.at_ i _ hδ
  have rv' := rv
  obtain ⟨rfl, hc, us, hu, ru⟩ := rv
  refine ⟨e1, ?_⟩
  refine h F σg S Hg _ hE hW hX fun ds w1 vs S1 H1 k1 s1 W1 r1 => ?_
  obtain ⟨ln, k1⟩ := k1
  refine ⟨by rw [r1.length]; exact ln, W1.same _ _ (s1 _ _ hc), fun A outer s2 H2 hr2 => ?_⟩
  have eL : X.N.length = σ.length := I.len.symm
  have envL : EnvD X.K S1 (mkD X.N.length js cs ++ ds.map some) (σ ++ vs.map some) := by
    rw [eL]
    exact env_app ((env_mk hu ru).mono s1) r1
  refine hbody A outer s2 H2 E f c' ds w1 κ χ hr2 ln k1 F _ S1 H1 _ envL W1 (fun C ns fs w' d S' H' x s3 W3 xr => ?_) (hK.mono s1)
  exact hX C ns fs w' d S' H' x (s1.trans s3) W3 xr
/-- a lambda's maker: its table of code -/
structure LamM (X : Cx) (T : List (Addr × Str)) : Prop where
  ex : ∃ c Pt, TabB X.base X.mg c Pt ∧ X.env.code = .ref c ∧ (Pt, X.env.qual ++ "<lambda>") ∈ T ∧ ∀ p ∈ T, p.1 = Pt → p.2 = X.env.qual ++ "<lambda>"
/-- x(e, lambda ..: body), x a def that may raise -/
theorem pd_lamcall {x p0 a : Str} {g : Addr} {fd : FuncData} {st : Stmt} {k : Nat} {Ng ps : List Str} {params : Arguments} {body : Expr} {scope : Scope} {e0 : Expr} {p lpos : Pos} {spl spg : SpD} {κ : D → Wp → Prop} (js : List Nat) (cs : List D)
    (G : Fun X.K x x st g fd) (hm : X.mg x = some (.ref g)) (hb : Binds X.K fd [p0, a] []) (Sg : FnScope Ng [p0, a] (defScope st)) (hN : Ng[1]? = some a) (hv : Vis (defScope st) a) (LM : LamM X T) (hr : Room (k + 2) X.A) (L : LamPS X.env.scope scope X.N ps) (hdef : defaultsOf params X.env = ([], []))
    (hbind : ∀ (q : Str) (cl : List (Str × Addr)) (pm cv ctv : Value) (us : List Value), us.length = ps.length → bindArgs (PySem.W.kla_fn "<lambda>" q params body scope cl pm cv ctv) ⟨us, []⟩ = pure (ps.zip us))
    (hx : ∀ σ, PassesAt (L2.CX X.prog X.w) X σ (WE W σ)) (hcap : js.map (fun i => δ[i]?) = cs.map (fun d => some (some d)))
    (hbody : ∀ (A : Around) (outer : List Env) (s : Shared) (H : Hp) (E : XK) (f c' : Addr) (ds : List D) (w : Wp) (κ : D → Wp → Prop) (χ : XD), Room k (A.deeper (lamEnv X scope s.heap.objs.size f c')) → ds.length = ps.length → spl ds w κ χ → PD (lamCxP X A outer s H E scope f c' ps) T (fun cls d _ H => E cls d H) χ body (mkD X.N.length js cs ++ ds.map some) w κ)
    (hG : ∀ (cdg : Value) (f c' : Addr) (σ : L2.St) (s : Shared) (H : Hp) (E : XK) (d0 : D) (w : Wp) (κ : D → Wp → Prop) (χ : XD), Room (k + 1) (X.A.deeper (envOfC x (defScope st) s.heap.objs.size g cdg)) → ActD (gCx X Ng x (defScope st) g cdg s H E) T (fun cls d _ H => E cls d H) a 1 ps.length (.cod f c' (X.env.qual ++ "<lambda>") σ js cs) spl → spg [d0, .cod f c' (X.env.qual ++ "<lambda>") σ js cs] w κ χ →
      PSsD (gCx X Ng x (defScope st) g cdg s H E) T (fun cls d _ H => E cls d H) χ (defBody st) (startD Ng [d0, .cod f c' (X.env.qual ++ "<lambda>") σ js cs]) w { nx := fun _ w' => κ DL.N w', rt := κ })
    (h : PD X T W χ e0 δ w fun d0 w1 => ∀ f c' σ, spg [d0, .cod f c' (X.env.qual ++ "<lambda>") σ js cs] w1 κ χ) (hg : Gl X x := by rfl) (hdb : (x == ("__debug__" : Str)) = false := by decide) (hd : (a == ("__debug__" : Str)) = false := by decide) (hcd : (a == ("__classdict__" : Str)) = false := by decide)
    (he : starEach [e0, .Lambda params body scope lpos] X.env = [(false, eval e0 X.env), (false, eval (.Lambda params body scope lpos) X.env)] := by rfl) :
    PD X T W χ (.Call (.Name x p) [e0, .Lambda params body scope lpos] [] pos) δ w κ := fun F σ S H Q hE hW hX hK => by
  intro pins s I
  obtain ⟨oc, od, kV, doc, pm, an, cdv, ct, osl, rfl, lk, hcd1⟩ := G.ex
  obtain ⟨c, Pt, TB, hcode, hmT, hu⟩ := LM.ex
  refine wpAny_Call_Name_kw (ld_glob I hg hm ?_ hdb)
  refine PySem.W.callWith_K (h₀ := X.base) I.ok.mod.kin G.kp ?_ (by rw [he]; rfl) (by rfl)
  rw [he]
  show wpAny _ _ (spliced [(false, eval e0 X.env), (false, eval (.Lambda params body scope lpos) X.env)]) _ _ s
  refine Calls.spliced_cons (thn ((pe_wp e0).run pins s σ H (fun v0 H1 => ∃ d0 w1 S1, (∀ f c' σ, spg [d0, .cod f c' (X.env.qual ++ "<lambda>") σ js cs] w1 κ χ) ∧ Same S S1 ∧ World X.K T S1 w1 F H1 ∧ Rep X.K S1 d0 v0) I (h F σ S H _ hE hW hX fun d w1 v S1 H1 k s1 W1 r => ⟨d, w1, S1, k, s1, W1, r⟩)) fun u0 s1 ⟨v0, H1, I1, r0, d0, w1, S1, k1, s1', W1, rd⟩ => ?_)
  refine Calls.spliced_cons (lam_make2 I1 TB hcode hmT hu W1.tabs hdef (L.has I1.ok) fun f c' pm' ctv H2 s2 I2 eN T2 hf hfn hfr hco => ?_)
  refine Calls.spliced_nil ⟨I2.kIn, ?_⟩
  have W2 : World X.K T S1 w1 F H2 := by
    refine ⟨fun b x q => eN b x (W1.same b x q) fun ps z => W1.notbl b ps (by rw [q, z]), W1.notbl, fun b h q => ?_, fun b x q => ?_, T2, W1.nf⟩
    · obtain ⟨q1, q2, o, q3, q4⟩ := W1.own b h q
      exact ⟨q1, q2, o, eN b o q3 q4.notbl.1, q4⟩
    · obtain ⟨q1, q2⟩ := W1.frm b x q
      exact ⟨q1, eN b x q2 (W1.nf b x q).1⟩
  obtain ⟨S2, sS, hc2, W3⟩ := W2.code hco
  have capv : ∃ vs : List V, js.map (fun i => σ[i]?) = vs.map (fun v => some (some v)) ∧ RepL X.K S2 cs vs := by
    have key : ∀ (js : List Nat) (cs : List D), js.map (fun i => δ[i]?) = cs.map (fun d => some (some d)) → ∃ vs : List V, js.map (fun i => σ[i]?) = vs.map (fun v => some (some v)) ∧ RepL X.K S2 cs vs := by
      intro js
      induction js with
      | nil =>
        intro cs e
        cases cs with
        | nil => exact ⟨[], rfl, rfl⟩
        | cons d ds => cases e
      | cons i js ih =>
        intro cs e
        cases cs with
        | nil => cases e
        | cons d ds =>
          obtain ⟨e1, e2⟩ := List.cons.inj e
          obtain ⟨vs, a1, a2⟩ := ih ds e2
          obtain ⟨v, b1, b2⟩ := hE.at_ i d e1
          exact ⟨v :: vs, by rw [List.map_cons, List.map_cons, b1, a1], v, vs, rfl, b2.mono (s1'.trans sS), a2⟩
    exact key js cs hcap
  have repL : Rep X.K S2 (.cod f c' (X.env.qual ++ "<lambda>") σ js cs) (.ref f) := ⟨rfl, hc2, capv⟩
  have rc : codeAny (model X.prog X.w) X.A (.call (.ref g) ⟨[u0, .ref f], []⟩) (CR (L2.CX X.prog X.w) X.stack X.prog X.w H2 s2 Q (WE W σ)) s2 := by
    refine run_ofS (N := Ng) (ps := [p0, a]) (us := [u0, .ref f]) (vs := [v0, .ref f]) lk hcd1 Sg hr I2.env0 (hb s2 [u0, .ref f] I2.kIn rfl) (.cons r0 (.cons rfl .nil)) rfl fun hr' => ?_
    refine ⟨_, pss_wp _, ?_⟩
    have act := pd_actP (T := T) (k := k) (i := 1) (E := WE W σ) (js := js) (cs := cs) (spl := spl) (Ng := Ng) (qg := x) (sg := defScope st) (g := g) (cdg := cdv) (a := a) I2 L hf hfn hfr (fun us lu => hbind _ _ _ _ _ us lu) hr' hbody hN hv hd hcd
    refine hG cdv f c' σ s2 H2 (WE W σ) d0 w1 κ χ hr' act (k1 f c' σ) F _ S2 H2 _ (env_start ⟨v0, [.ref f], rfl, rd.mono sS, .ref f, [], rfl, repL, rfl⟩) W3 (fun σ' C ns fs w' d S' H' x s3 W4 xr => ?_) ⟨fun δ' w' σ' S' H' k s3 hE W4 => hK _ w' _ S' H' k (s1'.trans (sS.trans s3)) W4 rfl, hK.mono (s1'.trans sS), fun _ _ _ _ _ z => z.elim, fun _ _ _ _ _ z => z.elim⟩
    exact hX C ns fs w' d S' H' x (s1'.trans (sS.trans s3)) W4 xr
  refine wpAny_call (codeAny_mono rc fun r s3 hq => ?_)
  cases r with
  | error e => exact hx σ pins H2 s2 e s3 I2 hq
  | ok fl =>
    cases fl with
    | ret u => exact I2.after hq
    | next => exact False.elim hq
    | brk => exact False.elim hq
    | cont => exact False.elim hq
end
end DL

set_option Elab.async false
set_option linter.all false
set_option maxRecDepth 100000
set_option maxHeartbeats 1000000
/-! a op b by an own method, of two different classes, neither above the other. -/
namespace DL
open PySem PySem.Spec PyProof.Rows PySem.W
section
variable {prog : Program} {w : PySem.World} {A : Around} {E : Value → Shared → Prop} {s : Shared} {K : Frag} {x C C2 L f g : Addr} {h₀ : Heap} {m : Str → Option Value} {ox : Obj} {od : Option Obj}
theorem binop_K2 {op : Operator} {b : Value} {Q : Value → Shared → Prop} (F : Fr h₀ L s.heap m) (X₀ : K.In h₀) (I : InstAt s.heap x ox C od) (hb : Looks (model prog w) s.heap (typeOf b) (.ref C2)) (hne : C ≠ C2) (hc : selfFirst K C = true) (hc2 : selfFirst K C2 = true)
    (hs : findIn K (.ref C) (PySem.dunder op.info.2) = some (some (.ref f))) (hf : isFn K (.ref f) = true) (hr : findIn K (.ref C) (dunderR op.info.2) = some none)
    (hs2 : findIn K (.ref C2) (PySem.dunder op.info.2) = some (some (.ref g))) (hr2 : findIn K (.ref C2) (dunderR op.info.2) = some none) (hsub : subIn K (.ref C2) (.ref C) = some false)
    (h : wpAny (model prog w) A (call (.ref f) [.ref x, b]) (PySem.W.CmpBack Q) E s) : wpAny (model prog w) A (binaryOp op (.ref x) b) Q E s := by
  have X := X₀.keeps F.keep
  obtain ⟨cd, rest, hcd, hm⟩ := ksp_first hc
  obtain ⟨cd2, rest2, hcd2, hm2⟩ := ksp_first hc2
  rcases hi : op.info with ⟨sym, nm'⟩
  rw [hi] at hs hr hs2 hr2
  dsimp only at hs hr hs2 hr2
  have one := ksp_try X I hs hf h
  obtain ⟨hh, gg, d, tt, os⟩ := s
  have L1 : Looks (model prog w) hh (typeOf (.ref x)) (.ref C) := I.type
  have L2 : Looks (model prog w) hh (typeOf b) (.ref C2) := hb
  have L3 : Looks (model prog w) hh (fillsNumberSlot (.ref C) nm') true := fills_K X hcd hm hs
  have L4 : Looks (model prog w) hh (fillsNumberSlot (.ref C2) nm') true := fills_K X hcd2 hm2 hs2
  have L5 : Looks (model prog w) hh (isSubtype (.ref C2) (.ref C)) false := looks_subIn X hsub
  have L6 : Looks (model prog w) hh (numberSlotInPython (.ref C) nm') true := ksp_inPy X hs hr (.inl rfl)
  have L7 : Looks (model prog w) hh (numberSlotInPython (.ref C2) nm') true := ksp_inPy X hs2 hr2 (.inl rfl)
  have hne' : (Value.ref C == Value.ref C2) = false := Bool.eq_false_iff.mpr fun q => by cases beq_iff_eq.mp q; exact hne rfl
  simp only [binaryOp, hi]
  refine wpAny_holding (wpAny_bind ?_)
  unfold binaryOp1
  refine wpAny_bind (L1.at (wpAny_bind (L2.at (wpAny_bind (L3.at ?_)))))
  simp only [hne', Bool.false_eq_true, if_false]
  ksp_lk
  refine wpAny_mono one (fun r s' hr' => ?_) fun _ _ e => e
  obtain ⟨v, rfl, hq⟩ := hr'
  ksp_lk
  exact hq
end
end DL

set_option Elab.async false
set_option linter.all false
set_option maxRecDepth 100000
set_option maxHeartbeats 2000000
/-! More rules in data: extend, properties, isinstance of several classes, xs[::-1], any, max, get with a default, ~x. -/
namespace DL
open PySem PySem.Spec PyProof.Rows L2 LamX
section
variable {K : PySem.W.Frag} {T : List (Addr × Str)} {w : Wp} {κ : D → Wp → Prop}
theorem vm_extend {a : Addr} {ds es : List D} (hw : w a = some (.lst ds)) (hz : ds.length + es.length ≤ sizeLine) (k : κ N (wu w a (.lst (ds ++ es)))) : VRM K T rExtend (R a) [.lst es] w κ := fun F S H x xs Q hW r1 r2 hK => by
  obtain ⟨_, _, o, h1, h2⟩ := hW.own a _ hw
  obtain ⟨zs, rfl, h2⟩ := h2
  obtain ⟨y, ys, rfl, h3, h4⟩ := r2
  have h4' : ys = [] := h4
  subst h4'
  obtain ⟨b, us, rfl, h5, h6⟩ := h3
  exact ⟨a, b, zs, us, r1, rfl, h1, hW.same _ _ h5, by rw [h2.length, h6.length]; exact hz, hK _ _ _ S _ k (Same.refl _) (hW.put hw ⟨_, rfl, h2.app h6⟩) rfl⟩
theorem va_isT {d : D} {t : Value} {Cs : List Addr} {b : Bool} (ht : TyDD K d t) (hk : PySem.W.kitAny K t (Cs.map Value.ref) = some b) (k : κ (B b) w) : VRA K T (rIsiT K) [d, .tup (Cs.map R)] w κ := fun F S H xs Q hW r hK => by
  obtain ⟨x, ys, rfl, h1, y, zs, rfl, h2, h3⟩ := r
  have h3' : zs = [] := h3
  subst h3'
  obtain ⟨a, us, rfl, h4, h5⟩ := h2
  have e : Cs.map R = (Cs.map V.ref).map D.val := by
    rw [List.map_map]
    rfl
  rw [e] at h5
  have e2 := h5.vals
  subst e2
  have pc : ∀ l : List Addr, Paired ClsV (l.map V.ref) (l.map Value.ref) := by
    intro l
    induction l with
    | nil => exact .nil
    | cons c l ih => exact .cons (.own c) ih
  exact ⟨x, a, Cs.map V.ref, t, Cs.map Value.ref, b, rfl, hW.same _ _ h4, pc Cs, ht.tyx hW h1, hk, hK _ w _ S H k (Same.refl _) hW rfl⟩
theorem kit_any {t : Value} : ∀ {Cs : List Addr} {bs : List Bool}, Cs.map (fun C => PySem.W.kitOne K t (.ref C)) = bs.map some → PySem.W.kitAny K t (Cs.map Value.ref) = some (bs.any id)
  | [], [], _ => rfl
  | [], b :: bs, h => by cases h
  | C :: Cs, [], h => by cases h
  | C :: Cs, b :: bs, h => by
    obtain ⟨h1, h2⟩ := List.cons.inj h
    have ih := kit_any h2
    cases b with
    | true => exact kitAny_cons h1 (fun z => by cases z) fun _ => rfl
    | false => exact kitAny_cons h1 (fun _ => ih) fun z => by cases z
theorem va_anyB {bs : List Bool} (k : κ (B (bs.any id)) w) : VRA K T (rAny K) [.lst (bs.map B)] w κ := fun F S H xs Q hW r hK => by
  obtain ⟨y, ys, rfl, h1, h2⟩ := r
  obtain ⟨a, zs, rfl, h3, h4⟩ := h1
  have h2' : ys = [] := h2
  subst h2'
  have e : bs.map B = (bs.map V.bl).map D.val := by
    rw [List.map_map]
    rfl
  rw [e] at h4
  have e2 := h4.vals
  subst e2
  exact ⟨a, bs, rfl, SqL.of (hW.same _ _ h3), hK _ w _ S H k (Same.refl _) hW rfl⟩
theorem va_max2 {i j : Int} (k : κ (I (if j > i then j else i)) w) : VRA K T (fun xs H Q => ∃ i j, xs = [.int i, .int j] ∧ Q (.int (if j > i then j else i)) H) [I i, I j] w κ := fun F S H xs Q hW r hK => by
  obtain ⟨x, ys, rfl, h1, y, zs, rfl, h2, h3⟩ := r
  have h1' : x = .int i := h1
  have h2' : y = .int j := h2
  have h3' : zs = [] := h3
  subst h1' h2' h3'
  exact ⟨i, j, rfl, hK _ w _ S H k (Same.refl _) hW rfl⟩
/-- the first entry of a key, in data -/
def lkD : List Key → List D → Key → Option D
  | k' :: ks, d :: ds, k => if k' = k then some d else lkD ks ds k
  | _, _, _ => none
theorem lkD_rel {S : Hp} : ∀ {kvs : List (Key × V)} {ks : List Key} {ds : List D} {k : Key}, kvs.map (·.1) = ks → RepL K S ds (kvs.map (·.2)) → (∀ d, lkD ks ds k = some d → ∃ v, valV kvs k = some v ∧ Rep K S d v) ∧ (lkD ks ds k = none → valV kvs k = none)
  | [], ks, ds, k, e, r => by
    subst e
    cases ds with
    | nil => exact ⟨fun d h => (by cases h), fun _ => rfl⟩
    | cons d ds =>
      obtain ⟨y, ys, z, _⟩ := r
      cases z
  | (k0, v0) :: kvs, ks, ds, k, e, r => by
    subst e
    cases ds with
    | nil => cases r
    | cons d ds =>
      obtain ⟨y, ys, z, r1, r2⟩ := r
      obtain ⟨rfl, rfl⟩ := List.cons.inj z
      obtain ⟨i1, i2⟩ := lkD_rel (k := k) (rfl : kvs.map (·.1) = _) r2
      have ev : valV ((k0, v0) :: kvs) k = if k0 = k then some v0 else valV kvs k := by
        unfold valV
        rw [List.find?_cons]
        by_cases h : k0 = k
        · simp [h]
        · simp [h]
      rw [ev]
      show (∀ d', (if k0 = k then some d else lkD (kvs.map (·.1)) ds k) = some d' → _) ∧ ((if k0 = k then some d else lkD (kvs.map (·.1)) ds k) = none → _)
      by_cases h : k0 = k
      · rw [if_pos h, if_pos h]
        exact ⟨fun d' q => ⟨v0, rfl, by cases q; exact r1⟩, fun q => by cases q⟩
      · rw [if_neg h, if_neg h]
        exact ⟨i1, i2⟩
theorem bt_anyB : bootBuiltins "any" = some (.builtin "any") := by decide +kernel
theorem bt_max : bootBuiltins "max" = some (.builtin "max") := by decide +kernel
end
section
variable {X : Cx} {T : List (Addr × Str)} {W : WX} {χ : XD} {δ : Dn} {w : Wp} {pos : Pos}
/-- xs[::-1] -/
theorem pd_rev {e : Expr} {j : Nat} {p1 p2 p3 : Pos} {κ : D → Wp → Prop} (h : PD X T W χ e δ w fun d w1 => ∃ ds, Lk w1 d ds ∧ κ (.lst ds.reverse) w1) : PD X T W χ (.Subscript e (.Slice none none (some (.UnaryOp .USub (.Constant (.int 1) j p1) p2)) p3) pos) δ w κ := fun F σ S H Q hE hW hX hK =>
  wp_pe (pe_revL (pe_wp e)) (by
    refine h F σ S H _ hE hW hX fun d w1 v S1 H1 k s1 W1 r => ?_
    obtain ⟨ds, hl, k⟩ := k
    obtain ⟨a, xs, rfl, h1, h2⟩ := hl.at_ W1 r
    refine ⟨a, xs, rfl, SqL.of h1, fun p hp => ?_⟩
    have s2 : Same S1 (upd S1 p (.lst xs.reverse)) := same_upd (W1.free hp).1
    exact hK _ w1 _ _ _ k (s1.trans s2) (W1.laid hp fun _ z => by cases z) ⟨p, _, rfl, upd_same, h2.rev.mono s2⟩)
/-- the truth of a list -/
theorem ptd_lst {e : Expr} {κ : Bool → Wp → Prop} (h : PD X T W χ e δ w fun d w1 => ∃ ds, Lk w1 d ds ∧ κ (!ds.isEmpty) w1)
    (he : ∀ whole, isTrue e X.env whole = (do let v ← whole; standAt e.pos; holding [v] (truthy v)) := by intro _; rfl) : PTD X T W χ e δ w κ := fun F σ S H Q hE hW hX hK =>
  wp_pt (pt_truth (pe_wp e) he) (by
    refine h F σ S H _ hE hW hX fun d w1 v S1 H1 k s1 W1 r => ?_
    obtain ⟨ds, lk, k⟩ := k
    obtain ⟨a, xs, rfl, h1, h2⟩ := lk.at_ W1 r
    refine ⟨!ds.isEmpty, .inl ⟨xs, SqL.of h1, ?_⟩, hK _ w1 S1 H1 k s1 W1⟩
    have e := h2.length
    cases xs <;> cases ds <;> first | rfl | (simp at e))
/-- e.f, a property of e's class; its getter lets no error out -/
theorem pd_prop {e : Expr} {f : Str} {k : Nat} {C p g : Addr} {fd : FuncData} {ps : List Str} {sp : SpD} {κ : D → Wp → Prop} (c : Cls X.K C) (hp : PropOf X.K C f p g) (G : FnOk X.prog X.w X.K X.mg X.base CX0 k g fd ps (spOf X.K T sp)) (hr : Room (k + 1) X.A) (hb : Binds X.K fd ps [])
    (h : PD X T W χ e δ w fun d w1 => (∃ ns ds, d = .obj C ns ds) ∧ sp [d] w1 κ noX) (hab : attributeBase e f X.env (eval e X.env) = eval e X.env := by rfl) : PD X T W χ (.Attribute e f pos) δ w κ := fun F σ S H Q hE hW hX hK =>
  wp_pe (pe_prop (E := E0) (pe_wp e) c hp G hr hb .nil pass0 hab) (by
    refine h F σ S H _ hE hW hX fun d w1 v S1 H1 k s1 W1 r => ?_
    obtain ⟨⟨ns, ds, rfl⟩, k⟩ := k
    obtain ⟨a, dx, ys, rfl, h1, h2, h3⟩ := id r
    exact ⟨a, dx, ys, rfl, W1.same _ _ h1, [.obj C ns ds], w1, F, S1, κ, noX, k, ⟨_, [], rfl, r, rfl⟩, W1, hK.mono s1, fun _ _ _ _ _ _ _ z => z.elim⟩)
/-- get of a dict that stands, with a default: found or not -/
theorem pd_getD {o i x : Expr} {κ : D → Wp → Prop} {apos : Pos} (hu : X.A.units + 1 < cLine) (h : PD X T W χ o δ w fun d w1 => ∃ ks ds, d = .dcv ks ds ∧ PD X T W χ i δ w1 fun e w2 => PD X T W χ x δ w2 fun u w3 => ∃ k, e = .val (kV k) ∧ κ ((lkD ks ds k).getD u) w3)
    (m : M2 X o "get" apos i x pos := by exact ⟨rfl, rfl, rfl, rfl⟩) : PD X T W χ (.Call (.Attribute o "get" apos) [i, x] [] pos) δ w κ := fun F σ S H Q hE hW hX hK =>
  wp_pe (pe_dget2 hu (pe_wp o) (pe_wp i) (pe_wp x) m) (by
    refine h F σ S H _ hE hW hX fun d w1 v S1 H1 k1 s1 W1 r1 => ?_
    obtain ⟨ks, ds, rfl, k1⟩ := k1
    obtain ⟨a, kvs, rfl, e2, e3, e4⟩ := r1
    refine ⟨a, rfl, .inl ⟨kvs, .inl (W1.same _ _ e2)⟩, ?_⟩
    refine k1 F σ S1 H1 _ (hE.mono s1) W1 (hX.mono s1) fun e w2 y S2 H2 k2 s2 W2 r2 => ?_
    have ss := s1.trans s2
    refine k2 F σ S2 H2 _ (hE.mono ss) W2 (hX.mono ss) fun u w3 z S3 H3 k3 s3 W3 r3 => ?_
    obtain ⟨k, rfl, k3⟩ := k3
    have r2' : y = kV k := r2
    subst r2'
    have at3 := W3.same _ _ ((s2.trans s3) _ _ e2)
    refine ⟨valV kvs k, .inl ⟨kvs, k, .inl at3, rfl, rfl⟩, ?_⟩
    obtain ⟨q1, q2⟩ := lkD_rel (k := k) e3 (e4.mono (s2.trans s3))
    cases el : lkD ks ds k with
    | none =>
      rw [el] at k3
      rw [q2 el]
      exact hK _ w3 _ S3 H3 k3 (ss.trans s3) W3 r3
    | some d' =>
      rw [el] at k3
      obtain ⟨v', hv, rv⟩ := q1 d' el
      rw [hv]
      exact hK _ w3 _ S3 H3 k3 (ss.trans s3) W3 rv)
/-- operators by own methods of a family of classes -/
structure Fam (K : PySem.W.Frag) (ok : Addr → Prop) (op : Operator) (f : Addr) : Prop where
  at_ : ∀ C, ok C → PySem.W.findIn K (.ref C) (PySem.dunder op.info.2) = some (some (.ref f))
  no_ : ∀ C, ok C → PySem.W.findIn K (.ref C) (dunderR op.info.2) = some none
  sf : ∀ C, ok C → PySem.W.selfFirst K C = true
  sub : ∀ C C2, ok C → ok C2 → C ≠ C2 → PySem.W.subIn K (.ref C2) (.ref C) = some false
  fn : PySem.W.isFn K (.ref f) = true
def rBinF (ok : Addr → Prop) (sp : Sp) (E : XK) : R2 := fun x y H Q => ∃ C C2 a dx fs b dy gs, ok C ∧ ok C2 ∧ x = .ref a ∧ H a = some (.ins C dx fs) ∧ y = .ref b ∧ H b = some (.ins C2 dy gs) ∧ sp [x, y] H (fun v H' => ∃ p, v = .ref p ∧ Q v H') E
theorem op_binF {op : Operator} {ok : Addr → Prop} {f : Addr} {fd : FuncData} {ps : List Str} {k : Nat} {sp : Sp} {CX : CXT} {E : XK} (M : Fam X.K ok op f) (G : FnOk X.prog X.w X.K X.mg X.base CX k f fd ps sp) (hr : Room k X.A) (hb : Binds X.K fd ps [])
    (hx : ∀ σ, PassesAt CX X σ E) : OpR X (binaryOp op) (rBinF ok sp E) := by
  intro pins s σ H x y v u Q I rx ry h
  obtain ⟨C, C2, a, dx, fs, b, dy, gs, o1, o2, rfl, ha, rfl, hbb, hsp⟩ := h
  cases rx
  cases ry
  obtain ⟨mA, J, _⟩ := ins_get I.hok ha
  obtain ⟨od, J, _⟩ := J.look
  obtain ⟨mB, J2, _⟩ := ins_get I.hok hbb
  obtain ⟨od2, J2, _⟩ := J2.look
  obtain ⟨m, hF⟩ := I.fr
  show wpAny (model X.prog X.w) X.A (binaryOp op (.ref a) (.ref b)) (EP X pins σ Q) X.xe s
  have r2 : Vals [V.ref a, V.ref b] [Value.ref a, Value.ref b] := .cons rfl (.cons rfl .nil)
  have q := run_fnSD (σ := σ) (E := fun _ => E) (dvs := []) (ds := []) G hr hb .nil (hx σ) I r2 (by rw [List.append_nil]; exact hsp)
  have q2 : wpAny (model X.prog X.w) X.A (call (.ref f) [.ref a, .ref b]) (PySem.W.CmpBack (EP X pins σ Q)) X.xe s := by
    refine thn q fun r s' z => ?_
    obtain ⟨v', H', I', rv, ⟨p, rfl, q⟩⟩ := z
    cases rv
    exact ⟨.ref p, H', I', rfl, q⟩
  by_cases e : C = C2
  · subst e
    exact PySem.W.binop_K hF I.ok.mod.kin J J2.type (M.sf C o1) (M.at_ C o1) M.fn q2
  · exact binop_K2 hF I.ok.mod.kin J J2.type e (M.sf C o1) (M.sf C2 o2) (M.at_ C o1) M.fn (M.no_ C o1) (M.at_ C2 o2) (M.no_ C2 o2) (M.sub C C2 o1 o2 e) q2
theorem pd_binF {a b : Expr} {op : Operator} {ok : Addr → Prop} {f : Addr} {fd : FuncData} {ps : List Str} {k : Nat} {sp : SpD} {κ : D → Wp → Prop} (M : Fam X.K ok op f) (G : FnOk X.prog X.w X.K X.mg X.base CX0 k f fd ps (spOf X.K T sp)) (hr : Room k X.A) (hb : Binds X.K fd ps [])
    (h : PD X T W χ a δ w fun d w1 => PD X T W χ b δ w1 fun e w2 => (∃ C ns ds, ok C ∧ d = .obj C ns ds) ∧ (∃ C ns ds, ok C ∧ e = .obj C ns ds) ∧ sp [d, e] w2 (fun d' w' => (∃ C' ns ds, d' = .obj C' ns ds) ∧ κ d' w') noX) :
    PD X T W χ (.BinOp a op b pos) δ w κ := fun F σ S H Q hE hW hX hK => wp_pe (pe_op (op_binF (E := E0) M G hr hb (fun _ => pass0At)) (pe_wp a) (pe_wp b)) (by
  refine h F σ S H _ hE hW hX fun d w1 v S1 H1 k s1 W1 r1 => ?_
  refine k F σ S1 H1 _ (hE.mono s1) W1 (hX.mono s1) fun e w2 u S2 H2 k2 s2 W2 r2 => ?_
  obtain ⟨⟨C, ns, ds, o1, rfl⟩, ⟨C2, ms, es, o2, rfl⟩, k2⟩ := k2
  have r1 := r1.mono s2
  have r1' := r1
  have r2' := r2
  obtain ⟨p, dx, ys, rfl, h1, _, _⟩ := r1'
  obtain ⟨q, dy, zs, rfl, h2, _, _⟩ := r2'
  refine ⟨C, C2, p, dx, ys, q, dy, zs, o1, o2, rfl, W2.same _ _ h1, rfl, W2.same _ _ h2, ?_⟩
  refine ⟨[_, _], w2, F, S2, _, noX, k2, ⟨_, _, rfl, r1, _, [], rfl, r2, rfl⟩, W2, fun d' w' v' S' H' kk s' W' r' => ?_, fun _ _ _ _ _ _ _ z => z.elim⟩
  obtain ⟨⟨C', ns', ds', rfl⟩, kk⟩ := kk
  have r3 := r'
  obtain ⟨p', _, _, rfl, _⟩ := r3
  exact ⟨p', rfl, hK _ w' _ S' H' kk (s1.trans (s2.trans s')) W' r'⟩)
/-- ~x by an own method -/
def rInv (ok : Addr → Prop) (sp : Sp) (E : XK) : V → Hp → VK → Prop := fun x H Q => ∃ C a dx fs, ok C ∧ x = .ref a ∧ H a = some (.ins C dx fs) ∧ sp [x] H Q E
theorem un_inv_own {ok : Addr → Prop} {f : Addr} {fd : FuncData} {ps : List Str} {k : Nat} {sp : Sp} {CX : CXT} {E : XK} (G : FnOk X.prog X.w X.K X.mg X.base CX k f fd ps sp) (hr : Room k X.A) (hs : ∀ C, ok C → PySem.W.findIn X.K (.ref C) "__invert__" = some (some (.ref f))) (hf : PySem.W.isFn X.K (.ref f) = true) (hb : Binds X.K fd ps [])
    (hx : ∀ σ, PassesAt CX X σ E) : UnR X (unaryOp .Invert) (rInv ok sp E) := by
  intro pins s σ H x v Q I rx h
  obtain ⟨C, a, dx, fs, o1, rfl, ha, hsp⟩ := h
  cases rx
  obtain ⟨mA, J, _⟩ := ins_get I.hok ha
  obtain ⟨od, J, _⟩ := J.look
  obtain ⟨m, hF⟩ := I.fr
  show wpAny (model X.prog X.w) X.A (unaryOp .Invert (.ref a)) (EP X pins σ Q) X.xe s
  have r2 : Vals [V.ref a] [Value.ref a] := .cons rfl .nil
  exact PySem.W.ksp_inv hF I.ok.mod.kin J (hs C o1) hf (run_fnSD (σ := σ) (E := fun _ => E) (dvs := []) (ds := []) G hr hb .nil (hx σ) I r2 (by rw [List.append_nil]; exact hsp))
theorem pd_inv {e : Expr} {ok : Addr → Prop} {f : Addr} {fd : FuncData} {ps : List Str} {k : Nat} {sp : SpD} {κ : D → Wp → Prop} (G : FnOk X.prog X.w X.K X.mg X.base CX0 k f fd ps (spOf X.K T sp)) (hr : Room k X.A) (hs : ∀ C, ok C → PySem.W.findIn X.K (.ref C) "__invert__" = some (some (.ref f))) (hf : PySem.W.isFn X.K (.ref f) = true) (hb : Binds X.K fd ps [])
    (h : PD X T W χ e δ w fun d w1 => (∃ C ns ds, ok C ∧ d = .obj C ns ds) ∧ sp [d] w1 κ noX) : PD X T W χ (.UnaryOp .Invert e pos) δ w κ := fun F σ S H Q hE hW hX hK =>
  wp_pe (pe_un (un_inv_own (E := E0) G hr hs hf hb (fun _ => pass0At)) (pe_wp e)) (by
    refine h F σ S H _ hE hW hX fun d w1 v S1 H1 k s1 W1 r1 => ?_
    obtain ⟨⟨C, ns, ds, o1, rfl⟩, k2⟩ := k
    have r1' := r1
    obtain ⟨p, dx, ys, rfl, h1, _, _⟩ := r1'
    exact ⟨C, p, dx, ys, o1, rfl, W1.same _ _ h1, [_], w1, F, S1, _, noX, k2, ⟨_, [], rfl, r1, rfl⟩, W1, hK.mono s1, fun _ _ _ _ _ _ _ z => z.elim⟩)
/-- a, b = e and other targets -/
theorem psd_asgT {tg e : Expr} {C : DL.Fin} (h : PD X T W χ e δ w fun d w1 => PGD X T tg d δ w1 C.nx) (hs : swapsWithSole [tg] e pos.line X.env = pure false := by rfl) (hw : swappedStores [tg] e X.env = pure none := by rfl)
    (h1 : (assignEach [tg] X.env).map (·.2) = [assign tg X.env] := by rfl) : PSD X T W χ (.Assign [tg] e pos) δ w C := fun F σ S H E hE hW hX hK => wp_ps (ps_asg (pe_wp e) (pg_wp tg) hs hw h1) (by
  refine h F σ S H _ hE hW (hX σ) fun d w1 v S1 H1 k s1 W1 r => ?_
  exact k F v σ S1 H1 _ r (hE.mono s1) W1 (hK.nx.mono s1))
/-- x += e, whole numbers -/
theorem psd_augI {i : Nat} {x : Str} {e : Expr} {a : Int} {pos' : Pos} {C : DL.Fin} (hN : X.N.Nodup) (hi : X.N[i]? = some x) (hd : δ[i]? = some (some (I a))) (h : PD X T W χ e δ w fun d w1 => ∃ b, d = I b ∧ C.nx (δ.set i (some (I (a + b)))) w1) (hx : Loc X.env.scope x := by first | exact .inl rfl | exact .inr rfl)
    (hf : X.fn x = true ∨ X.env.scope.names.lookup x = some .local := by first | exact .inl rfl | exact .inr rfl) : PSD X T W χ (.AugAssign (.Name x pos') .Add e pos) δ w C := fun F σ S H E hE hW hX hK => wp_ps (ps_aug hN hi hx (pe_wp e) ip_add hf) (by
  obtain ⟨v, e1, r⟩ := hE.at_ i _ hd
  refine ⟨v, e1, ?_⟩
  refine h F σ S H _ hE hW (hX σ) fun d w1 y S1 H1 k s1 W1 r1 => ?_
  obtain ⟨b, rfl, k⟩ := k
  exact ⟨a, b, r, r1, hK.nx _ w1 _ S1 H1 k s1 ((hE.mono s1).set i (d := I (a + b)) (v := .int (a + b)) rfl) W1⟩)
/-- reversed(xs) -/
theorem it_rev {tg e : Expr} {p : Pos} {κ : List D → Wp → Prop} (hm : X.mg "reversed" = none) (h : PD X T W χ e δ w fun d w1 => ∃ ds, d = .lst ds ∧ κ ds.reverse w1)
    (hg : Gl X "reversed" := by rfl) (he : starEach [e] X.env = [(false, eval e X.env)] := by rfl) : IterD X T W χ tg (.Call (.Name "reversed" p) [e] [] pos) δ w κ :=
  ⟨_, pi_reversed hg hm (pa_wp [e]) he, fun F σ S H R hE hW hX hK => by
    have ha : PAD X T W χ [e] δ w fun ds w1 => ∃ es, ds = [.lst es] ∧ κ es.reverse w1 := pad_cons (h.imp fun d w1 ⟨es, e1, k⟩ => pad_nil ⟨es, by rw [e1], k⟩) he
    refine ha F σ S H _ hE hW hX fun ds w1 vs S1 H1 k s1 W1 r => ?_
    obtain ⟨es, rfl, k⟩ := k
    obtain ⟨y, ys, rfl, h1, h2⟩ := r
    obtain ⟨a, xs, rfl, h3, h4⟩ := h1
    have h2' : ys = [] := h2
    subst h2'
    refine ⟨a, xs, rfl, SqL.of (W1.same _ _ h3), ?_⟩
    have ww := walk_rev (K := X.K) (a := a) (xs := xs)
    have el := h4.length
    refine hK es.reverse w1 S1 H1 _ _ _ k s1 W1 (by rw [List.length_reverse, ← el]; exact ww) (fun S2 w2 F2 H2 s2 W2 => SqL.of (W2.same _ _ (s2 _ _ h3))) fun i d S2 w2 F2 H2 x H3 hd s2 W2 y => ?_
    obtain ⟨rfl, hx⟩ := y
    have hi : i < es.length := by
      have := (List.getElem?_eq_some_iff.mp hd).1
      rwa [List.length_reverse] at this
    rw [List.getElem?_reverse hi] at hd
    obtain ⟨v, h5, h6⟩ := h4.get hd
    rw [el, h5] at hx
    cases hx
    exact ⟨S2, Same.refl _, W2, h6.mono s2⟩⟩
end
end DL

set_option Elab.async false
set_option linter.all false
set_option maxRecDepth 100000
set_option maxHeartbeats 2000000
/-! Groups checked. -/
namespace Tw
open PySem PySem.Spec PyProof.Rows L2 LamX DL
/-- the letters of the house that stand in s, in order -/
def pick (s : Str) : List Nat := (cl ahT).filter fun c => decide (c ∈ cl s)
def groupB (s : Str) : Bool := !decide (s = ("" : Str)) && decide (s = (⟨(pick s).toArray⟩ : Str))
theorem filt_cons {p : Nat → Bool} (a : Nat) (l : List Nat) : (a :: l).filter p = cond (p a) [a] [] ++ l.filter p := by
  rw [List.filter_cons]
  cases p a <;> rfl
theorem ah_cl : cl ahT = [97, 98, 99, 100, 101, 102, 103, 104] := by decide +kernel
theorem bits_grp : ∀ b0 b1 b2 b3 b4 b5 b6 b7 : Bool, grpL (b0.toNat + 2 * b1.toNat + 4 * b2.toNat + 8 * b3.toNat + 16 * b4.toNat + 32 * b5.toNat + 64 * b6.toNat + 128 * b7.toNat) =
    cond b0 [97] [] ++ (cond b1 [98] [] ++ (cond b2 [99] [] ++ (cond b3 [100] [] ++ (cond b4 [101] [] ++ (cond b5 [102] [] ++ (cond b6 [103] [] ++ (cond b7 [104] [] ++ []))))))) := by decide +kernel
theorem pick_grp (s : Str) : ∃ b, b ≤ 255 ∧ pick s = grpL b := by
  unfold pick
  rw [ah_cl]
  generalize (fun c => decide (c ∈ cl s)) = p
  refine ⟨(p 97).toNat + 2 * (p 98).toNat + 4 * (p 99).toNat + 8 * (p 100).toNat + 16 * (p 101).toNat + 32 * (p 102).toNat + 64 * (p 103).toNat + 128 * (p 104).toNat, ?_, ?_⟩
  · have h : ∀ b : Bool, b.toNat ≤ 1 := by decide
    have h0 := h (p 97)
    have h1 := h (p 98)
    have h2 := h (p 99)
    have h3 := h (p 100)
    have h4 := h (p 101)
    have h5 := h (p 102)
    have h6 := h (p 103)
    have h7 := h (p 104)
    omega
  · rw [bits_grp, filt_cons, filt_cons, filt_cons, filt_cons, filt_cons, filt_cons, filt_cons, filt_cons]
    rfl
theorem grp_ok : ∀ b, b < 256 → 1 ≤ b → groupB (grp b) = true := by decide +kernel
theorem grp_zero : grpL 0 = [] := by decide +kernel
theorem groupB_iff (s : Str) : groupB s = true ↔ GroupOk s := by
  constructor
  · intro h
    unfold groupB at h
    rw [Bool.and_eq_true, Bool.not_eq_true', decide_eq_false_iff_not, decide_eq_true_eq] at h
    obtain ⟨b, hb, e⟩ := pick_grp s
    rw [e] at h
    refine ⟨b, ?_, hb, h.2⟩
    by_cases z : b = 0
    · subst z
      rw [grp_zero] at h
      exact absurd (h.2.trans (by decide +kernel)) h.1
    · omega
  · rintro ⟨b, h1, h2, rfl⟩
    exact grp_ok b (by omega) h1
theorem vr_inSg {K : PySem.W.Frag} {T : List (Addr × Str)} {w : Wp} {κ : D → Wp → Prop} {c : Nat} {z : Str} (k : κ (B (decide (c ∈ cl z))) w) : VR2 K T (fun x y H Q => ∃ (c : Nat) (z : Str), x = .str ⟨#[c]⟩ ∧ y = .str z ∧ Q (.bl (decide (c ∈ z.cps.toList))) H) (DL.T (letS c)) (DL.T z) w κ := fun F S H x y Q hW r1 r2 hK =>
  ⟨c, z, r1, r2, hK _ w _ S H k (Same.refl _) hW rfl⟩
def spIsG : SpD := fun ds w κ χ => ∃ s : Str, ds = [DL.T s] ∧ s.length ≤ 900 ∧ κ (B (groupB s)) w
def spCkG (CG : Addr) : SpD := fun ds w κ χ => ∃ s : Str, ds = [DL.T s] ∧ s.length ≤ 900 ∧ (GroupOk s → κ N w) ∧ (¬ GroupOk s → Okc s ∧ χ CG ["group"] [DL.T s] w)
theorem pick_len (s : Str) : (pick s).length ≤ 8 := by
  unfold pick
  exact Nat.le_trans (List.length_filter_le _ _) (by rw [ah_cl]; decide)
section
variable {P : Program} {w : PySem.World} {K : PySem.W.Frag} {mg : Str → Option Value} {base : Heap} {T : List (Addr × Str)} {CG : Addr}
theorem scIsG : FnScope ["text", "letter"] ["text"] (defScope sIsG) := ⟨rfl, rfl, rfl, by decide +kernel, rfl, by decide +kernel, by decide +kernel⟩
theorem ok_isg {f : Addr} {fd : FuncData} {u : Value} (G : Fun K "is_group" "is_group" sIsG f fd) (hm : Nm2 mg) (hL : mg "LETTERS" = some u) (hu : RelV (V.str ahT) u) : FnOk P w K mg base CX0 1 f fd ["text"] (spOf K T spIsG) := by
  refine fnD G scIsG (fun ds w κ χ h => ?_) (fun cdv A outer s H E ds w0 κ χ hr h => ?_)
  · obtain ⟨s, rfl, _⟩ := h
    rfl
  obtain ⟨s, rfl, hz, k⟩ := h
  have nd := scIsG.nd
  refine pssd_one (psd_ret ?_)
  refine pd_and ?_
  refine pd_cmp op_ne ?_
  refine pd_var (i := 0) rfl rfl ?_
  refine pd_str ?_
  refine vr_neT _ rfl ⟨_, rfl, ?_⟩
  unfold groupB at k
  cases q : decide (s = ("" : Str)) with
  | true =>
    rw [q] at k
    exact iteF k
  | false =>
  rw [q] at k
  refine iteT ?_
  refine pd_one ?_
  refine pd_cmp op_eq ?_
  refine pd_var (i := 0) rfl rfl ?_
  refine pd_bm PySem.F.plainAttrs_str PySem.F.slot_str_join PySem.F.type_str_join mt_join ?_
  refine pd_str ?_
  refine ⟨rfl, ?_⟩
  refine pad_cons ?_
  refine pd_lc (own := [("letter", 1)]) (is := [1]) rfl nd (blkOk_by rfl) (by decide) ?_
  refine it_str ?_
  refine pd_glob hL hu ?_
  refine ⟨ahT, rfl, ?_⟩
  refine lcd_filter (xs := cl ahT) (g := fun c => DL.T (letS c)) (fun c => decide (c ∈ cl s)) (fun c => DL.T (letS c)) (small1000 (by rw [ah_cl]; decide)) (fun ch hc s2 H0 C1 cl1 fp1 => ?_) ?_
  · refine pgl_name (i := 1) nd rfl ?_
    intro s3 H0 C1 cl1 fp1
    refine ptsd_one ?_
    refine ptd_cmp op_in_sign ?_
    refine pd_var (i := 1) rfl rfl ?_
    refine pd_var (i := 0) rfl rfl ?_
    refine vr_inSg ⟨_, rfl, ?_⟩
    cases q : decide (ch ∈ cl s) with
    | false => exact iteF ⟨rfl, rfl⟩
    | true =>
      refine iteT ?_
      intro s3 H0 C1 cl1 fp1
      refine pd_var (i := 1) rfl rfl ?_
      exact ⟨rfl, rfl, rfl⟩
  refine pad_nil ?_
  have ep : ((cl ahT).filter fun c => decide (c ∈ cl s)).map (fun c => DL.T (letS c)) = ((pick s).map letS).map DL.T := by
    rw [List.map_map]
    rfl
  rw [ep]
  have lp := pick_len s
  refine vm_join (by rw [sum_let, List.length_map]; show _ + _ * 0 ≤ _; omega) ?_
  rw [txt_let]
  refine vr_eqT _ rfl ?_
  exact k
theorem scCkG : FnScope ["group"] ["group"] (defScope sCkG) := ⟨rfl, rfl, rfl, by decide +kernel, rfl, by decide +kernel, by decide +kernel⟩
theorem ok_ckg {f : Addr} {fd : FuncData} (G : Fun K "check_group" "check_group" sCkG f fd) (hI : HasF P w K mg base T CX0 "is_group" 1 ["text"] spIsG) (hE : HasET P w K mg base "BadGroup" CG 1 "group") : FnOk P w K mg base (L2.CX P w) 3 f fd ["group"] (spOf K T (spCkG CG)) := by
  refine fnX G scCkG (fun ds w κ χ h => ?_) (fun cdv A outer s H E ds w0 κ χ hr h => ?_)
  · obtain ⟨s, rfl, _⟩ := h
    rfl
  obtain ⟨s, rfl, hz, k1, k2⟩ := h
  have nd := scCkG.nd
  refine pssd_one (psd_if ?_)
  refine ptd_not ?_
  refine ptd_val ?_
  refine pd_has hI (hr.mono (by decide)) (fun _ => pass0At) ?_
  (refine pad_cons ?_; refine pd_var (i := 0) rfl rfl ?_)
  refine pad_nil ?_
  refine ⟨s, rfl, hz, ?_⟩
  refine ⟨_, rfl, ?_⟩
  cases q : groupB s with
  | true =>
    refine iteF ?_
    exact pssd_nil (k1 ((groupB_iff s).mp q))
  | false =>
    refine iteT ?_
    have hn : ¬ GroupOk s := fun z => by
      rw [(groupB_iff s).mpr z] at q
      cases q
    refine pssd_one (psd_raiseT rfl takesX hE hr ?_)
    refine pd_var (i := 0) rfl rfl ?_
    exact ⟨s, rfl, (k2 hn).1, (k2 hn).2⟩
end
end Tw

set_option Elab.async false
set_option linter.all false
set_option maxRecDepth 100000
set_option maxHeartbeats 2000000
/-! A drawn tree. -/
namespace Tw
open PySem PySem.Spec PyProof.Rows L2 LamX DL
def TrOk : Tr → Prop
  | .tru _ => True
  | .fact n => NameOk n
  | .neg t => TrOk t
  | .bin _ l r => TrOk l ∧ TrOk r
  | .md _ g t => GroupOk g ∧ TrOk t
abbrev sTre : Stmt := top 34
abbrev NTre : List Str := ["bag", "room", "way", "kind", "left", "group"]
def spTre (m : Nat) : SpD := fun ds w κ χ => ∃ (a r : Addr) (b : Bag) (n : Nat), ds = [R a, I (n : Int)] ∧ BagAt w a r b ∧ 1 ≤ n ∧ n ≤ m ∧ n ≤ 12 ∧ ∀ (t : Tr) (b' : Bag), TrOk t → t.size ≤ n → κ (trD t) (bagPut w a r b')
section
variable {P : Program} {w : PySem.World} {K : PySem.W.Frag} {mg : Str → Option Value} {base : Heap} {T : List (Addr × Str)}
theorem scTre : FnScope NTre ["bag", "room"] (defScope sTre) := ⟨rfl, rfl, rfl, by decide +kernel, rfl, by decide +kernel, by decide +kernel⟩
theorem tre_step {f : Addr} {fd : FuncData} (G : Fun K "_law_tree" "_law_tree" sTre f fd) (hf : mg "_law_tree" = some (.ref f)) (hb : Binds K fd ["bag", "room"] []) (hm : Nm2 mg) (hT : HasF P w K mg base T CX0 "_law_take" 1 ["bag", "many"] spTake)
    (hN : HasF P w K mg base T CX0 "_law_name" 3 ["bag"] spNam) (hGr : HasF P w K mg base T CX0 "_law_group" 2 ["bag"] spGrp) (hP : HasF P w K mg base T CX0 "_law_parts" 13 ["tree"] (spPts 12)) (m : Nat)
    (ih : ∀ j, m = j + 1 → FnOk P w K mg base CX0 (m + 13) f fd ["bag", "room"] (spOf K T (spTre j))) : FnOk P w K mg base CX0 (m + 14) f fd ["bag", "room"] (spOf K T (spTre m)) := by
  refine fnD G scTre (fun ds w κ χ h => ?_) (fun cdv A outer s H E ds w0 κ χ hr h => ?_)
  · obtain ⟨a, r, b, n, rfl, _⟩ := h
    rfl
  obtain ⟨a, r, b, n, rfl, hbg, h1, hnm, h12, k⟩ := h
  have nd := scTre.nd
  have ne := hbg.ne
  have hB : ∀ b, BagAt (bagPut w0 a r b) a r b := fun b => bag_put ne
  have pp : ∀ b b', bagPut (bagPut w0 a r b) a r b' = bagPut w0 a r b' := fun b b' => bag_put2 ne
  have r1 : Room 1 (A.deeper (envOfC "_law_tree" (defScope sTre) s.heap.objs.size f cdv)) := hr.mono (by omega)
  have r2 : Room 2 (A.deeper (envOfC "_law_tree" (defScope sTre) s.heap.objs.size f cdv)) := hr.mono (by omega)
  have r3 : Room 3 (A.deeper (envOfC "_law_tree" (defScope sTre) s.heap.objs.size f cdv)) := hr.mono (by omega)
  have r13 : Room 13 (A.deeper (envOfC "_law_tree" (defScope sTre) s.heap.objs.size f cdv)) := hr.mono (by omega)
  refine pssd_cons (psd_set (i := 2) nd rfl ?_)
  refine pd_take hT r1 (i := 0) rfl rfl hbg ?_
  refine pd_int ?_
  refine ⟨rfl, _, rfl, by decide, by decide, fun way b1 _ _ => ?_⟩
  have leaf : ∀ (C : DL.Fin) (p1 p2 p3 p4 p5 p6 p7 p8 p9 p10 p11 p12 p13 p14 p15 p16 p17 p18 p19 p20 p21 p22 : Pos) (t1 t2 t3 t4 t5 t6 t7 t8 : Nat), C.rt = κ → PSsD (cxOf CX0 P w K mg base NTre "_law_tree" (defScope sTre) f cdv A outer s H E).nox T Wf noX
      [.If (.Compare (.Call (.Name "_law_take" p1) [.Name "bag" p2, .Constant (.int 6) t1 p3] [] p4) [.Eq] [.Constant (.int 5) t2 p5] p6)
        [.Return (some (.Tuple [.Constant (.str "truth") t3 p7, .Compare (.Call (.Name "_law_take" p8) [.Name "bag" p9, .Constant (.int 2) t4 p10] [] p11) [.Eq] [.Constant (.int 1) t5 p12] p13] t6 p14)) p15] [] p16,
       .Return (some (.Tuple [.Constant (.str "fact") t7 p17, .Call (.Name "_law_name" p18) [.Name "bag" p19] [] p20] t8 p21)) p22]
      [some (R a), some (I (n : Int)), some (I way), none, none, none] (bagPut w0 a r b1) C := by
    intro C p1 p2 p3 p4 p5 p6 p7 p8 p9 p10 p11 p12 p13 p14 p15 p16 p17 p18 p19 p20 p21 p22 t1 t2 t3 t4 t5 t6 t7 t8 hC
    refine pssd_cons (psd_if ?_)
    refine ptd_cmp op_eq ?_
    refine pd_take hT r1 (i := 0) rfl rfl (hB b1) ?_
    refine pd_int ?_
    refine ⟨rfl, _, rfl, by decide, by decide, fun x b2 _ _ => ?_⟩
    rw [pp]
    refine pd_int ?_
    refine vr_eq rfl ⟨_, rfl, ?_⟩
    refine ite2 (fun c => ?_) (fun c => ?_)
    · refine pssd_one (psd_ret ?_)
      refine pd_tup ?_
      refine pad_cons (pd_str ?_)
      refine pad_cons ?_
      refine pd_cmp op_eq ?_
      refine pd_take hT r1 (i := 0) rfl rfl (hB b2) ?_
      refine pd_int ?_
      refine ⟨rfl, _, rfl, by decide, by decide, fun y b3 _ _ => ?_⟩
      rw [pp]
      refine pd_int ?_
      refine vr_eq rfl ?_
      refine pad_nil ⟨by show 2 ≤ sizeLine; decide, ?_⟩
      rw [hC]
      exact k (.tru _) b3 trivial h1
    · refine pssd_nil ?_
      refine pssd_one (psd_ret ?_)
      refine pd_tup ?_
      refine pad_cons (pd_str ?_)
      refine pad_cons ?_
      refine pd_has hN r3 (fun _ => pass0At) ?_
      (refine pad_cons ?_; refine pd_var (i := 0) rfl rfl ?_)
      refine pad_nil ?_
      refine ⟨a, r, b2, rfl, hB b2, fun u b3 hu => ?_⟩
      rw [pp]
      refine pad_nil ⟨by show 2 ≤ sizeLine; decide, ?_⟩
      rw [hC]
      exact k (.fact u) b3 hu h1
  refine pssd_cons (psd_if ?_)
  refine pwd_pt ?_
  refine pwd_or ?_
  refine ptd_cmp op_lt ?_
  refine pd_var (i := 1) rfl rfl ?_
  refine pd_int ?_
  refine vr_I ⟨_, rfl, ?_⟩
  refine ite2 (fun c => ?_) (fun c => ?_)
  · exact iteT (leaf _ _ _ _ _ _ _ _ _ _ _ _ _ _ _ _ _ _ _ _ _ _ _ _ _ _ _ _ _ _ _ rfl)
  refine pwd_or1 ?_
  refine ptd_cmp op_lt ?_
  refine pd_var (i := 2) rfl rfl ?_
  refine pd_int ?_
  refine vr_I ⟨_, rfl, ?_⟩
  refine ite2 (fun c2 => ?_) (fun c2 => ?_)
  · exact leaf _ _ _ _ _ _ _ _ _ _ _ _ _ _ _ _ _ _ _ _ _ _ _ _ _ _ _ _ _ _ _ rfl
  refine pssd_nil ?_
  have h2 : 2 ≤ n := by
    have : ¬ ((n : Int) < 2) := by simpa using c
    omega
  obtain ⟨j, rfl⟩ : ∃ j, m = j + 1 := ⟨m - 1, by omega⟩
  have sub1 : (n : Int) - 1 = ((n - 1 : Nat) : Int) := by omega
  refine pssd_cons (psd_if ?_)
  refine ptd_cmp op_lt ?_
  refine pd_var (i := 2) rfl rfl ?_
  refine pd_int ?_
  refine vr_I ⟨_, rfl, ?_⟩
  refine ite2 (fun c3 => ?_) (fun c3 => ?_)
  · refine pssd_one (psd_ret ?_)
    refine pd_tup ?_
    refine pad_cons (pd_str ?_)
    refine pad_cons ?_
    refine pd_call (ih j rfl) hr hf G.kp hb (fun _ => pass0At) ?_
    (refine pad_cons ?_; refine pd_var (i := 0) rfl rfl ?_)
    refine pad_cons ?_
    refine pd_op op_sub ?_
    refine pd_var (i := 1) rfl rfl ?_
    refine pd_int ?_
    refine vr_I ?_
    rw [sub1]
    refine pad_nil ?_
    refine ⟨a, r, b1, n - 1, rfl, hB b1, by omega, by omega, by omega, fun t b2 ht hsz => ?_⟩
    rw [pp]
    refine pad_nil ⟨by show 2 ≤ sizeLine; decide, ?_⟩
    exact k (.neg t) b2 ht (by show t.size + 1 ≤ n; omega)
  refine pssd_nil ?_
  have modal : ∀ b1, PSsD (cxOf CX0 P w K mg base NTre "_law_tree" (defScope sTre) f cdv A outer s H E).nox T Wf noX ((defBody sTre).drop 4) [some (R a), some (I (n : Int)), some (I way), none, none, none] (bagPut w0 a r b1) { nx := fun _ w' => κ DL.N w', rt := κ } := by
    intro b1
    have fin : ∀ (q : Md) (b2 : Bag), PSsD (cxOf CX0 P w K mg base NTre "_law_tree" (defScope sTre) f cdv A outer s H E).nox T Wf noX ((defBody sTre).drop 5) [some (R a), some (I (n : Int)), some (I way), some (DL.T q.nm), none, none] (bagPut w0 a r b2) { nx := fun _ w' => κ DL.N w', rt := κ } := by
      intro q b2
      refine pssd_cons (psd_set (i := 5) nd rfl ?_)
      refine pd_has hGr r2 (fun _ => pass0At) ?_
      (refine pad_cons ?_; refine pd_var (i := 0) rfl rfl ?_)
      refine pad_nil ?_
      refine ⟨a, r, b2, rfl, hB b2, fun g b3 hg => ?_⟩
      rw [pp]
      refine pssd_one (psd_ret ?_)
      refine pd_tup ?_
      (refine pad_cons ?_; refine pd_var (i := 3) rfl rfl ?_)
      (refine pad_cons ?_; refine pd_var (i := 5) rfl rfl ?_)
      refine pad_cons ?_
      refine pd_call (ih j rfl) hr hf G.kp hb (fun _ => pass0At) ?_
      (refine pad_cons ?_; refine pd_var (i := 0) rfl rfl ?_)
      refine pad_cons ?_
      refine pd_op op_sub ?_
      refine pd_var (i := 1) rfl rfl ?_
      refine pd_int ?_
      refine vr_I ?_
      rw [sub1]
      refine pad_nil ?_
      refine ⟨a, r, b3, n - 1, rfl, hB b3, by omega, by omega, by omega, fun t b4 ht hsz => ?_⟩
      rw [pp]
      refine pad_nil ⟨by show 3 ≤ sizeLine; decide, ?_⟩
      exact k (.md q g t) b4 ⟨hg, ht⟩ (by show t.size + 1 ≤ n; omega)
    refine pssd_cons (psd_set (i := 3) nd rfl ?_)
    refine pd_ix ix_list ?_
    refine pd_lst ?_
    refine pad_cons (pd_str ?_)
    refine pad_cons (pd_str ?_)
    refine pad_cons (pd_str ?_)
    refine pad_nil ⟨by show 3 ≤ sizeLine; decide, ?_⟩
    refine pd_take hT r1 (i := 0) rfl rfl (hB b1) ?_
    refine pd_int ?_
    refine ⟨rfl, _, rfl, by decide, by decide, fun x b2 g0 g1 => ?_⟩
    rw [pp]
    obtain ⟨i, rfl⟩ := Int.eq_ofNat_of_zero_le g0
    match i, g1 with
    | 0, _ =>
      refine vr_ixL (i := 0) (d := DL.T "knows") rfl ?_
      exact fin .kn b2
    | 1, _ =>
      refine vr_ixL (i := 1) (d := DL.T "whether") rfl ?_
      exact fin .wh b2
    | 2, _ =>
      refine vr_ixL (i := 2) (d := DL.T "common") rfl ?_
      exact fin .co b2
    | i + 3, g => exact absurd g (by omega)
  refine pssd_cons (psd_if ?_)
  refine pwd_pt ?_
  refine pwd_and ?_
  refine ptd_cmp op_lt ?_
  refine pd_var (i := 2) rfl rfl ?_
  refine pd_int ?_
  refine vr_I ⟨_, rfl, ?_⟩
  refine ite2 (fun c4 => ?_) (fun c4 => ?_)
  · refine pwd_and1 ?_
    refine ptd_cmp op_gt ?_
    refine pd_var (i := 1) rfl rfl ?_
    refine pd_int ?_
    refine vr_I ⟨_, rfl, ?_⟩
    refine ite2 (fun c5 => ?_) (fun c5 => ?_)
    · have h3 : 3 ≤ n := by
        have := of_decide_eq_true c5
        omega
      have sub2 : (n : Int) - 2 = ((n - 2 : Nat) : Int) := by omega
      refine pssd_cons (psd_set (i := 3) nd rfl ?_)
      refine pd_ix ix_list ?_
      refine pd_lst ?_
      refine pad_cons (pd_str ?_)
      refine pad_cons (pd_str ?_)
      refine pad_nil ⟨by show 2 ≤ sizeLine; decide, ?_⟩
      refine pd_take hT r1 (i := 0) rfl rfl (hB b1) ?_
      refine pd_int ?_
      refine ⟨rfl, _, rfl, by decide, by decide, fun x b2 g0 g1 => ?_⟩
      rw [pp]
      obtain ⟨i, rfl⟩ := Int.eq_ofNat_of_zero_le g0
      obtain ⟨q, hq⟩ : ∃ q : Bool, ([DL.T "and", DL.T "or"] : List D)[i]? = some (DL.T (binN q)) := by
        match i, g1 with
        | 0, _ => exact ⟨true, rfl⟩
        | 1, _ => exact ⟨false, rfl⟩
        | i + 2, g => exact absurd g (by omega)
      refine vr_ixL (i := i) hq ?_
      refine pssd_cons (psd_set (i := 4) nd rfl ?_)
      refine pd_call (ih j rfl) hr hf G.kp hb (fun _ => pass0At) ?_
      (refine pad_cons ?_; refine pd_var (i := 0) rfl rfl ?_)
      refine pad_cons ?_
      refine pd_op op_add ?_
      refine pd_int ?_
      refine pd_take hT r1 (i := 0) rfl rfl (hB b2) ?_
      refine pd_op op_sub ?_
      refine pd_var (i := 1) rfl rfl ?_
      refine pd_int ?_
      refine vr_I ?_
      refine ⟨rfl, _, rfl, by omega, lg9' (by omega) (by omega), fun y b3 e0 e1 => ?_⟩
      rw [pp]
      refine vr_I ?_
      obtain ⟨y, rfl⟩ := Int.eq_ofNat_of_zero_le e0
      refine pad_nil ?_
      refine ⟨a, r, b3, 1 + y, rfl, hB b3, by omega, by omega, by omega, fun l b4 hl hls => ?_⟩
      rw [pp]
      refine pssd_one (psd_ret ?_)
      refine pd_tup ?_
      (refine pad_cons ?_; refine pd_var (i := 3) rfl rfl ?_)
      (refine pad_cons ?_; refine pd_var (i := 4) rfl rfl ?_)
      refine pad_cons ?_
      refine pd_call (ih j rfl) hr hf G.kp hb (fun _ => pass0At) ?_
      (refine pad_cons ?_; refine pd_var (i := 0) rfl rfl ?_)
      refine pad_cons ?_
      refine pd_op op_sub ?_
      refine pd_op op_sub ?_
      refine pd_var (i := 1) rfl rfl ?_
      refine pd_int ?_
      refine vr_I ?_
      refine pd_callB call_len_seq rfl hm.len PySem.boot_len ?_
      refine pad_cons ?_
      refine pd_has hP r13 (fun _ => pass0At) ?_
      (refine pad_cons ?_; refine pd_var (i := 4) rfl rfl ?_)
      refine pad_nil ?_
      refine ⟨l, rfl, by omega, by omega, ?_⟩
      refine pad_nil ?_
      refine va_len ?_
      rw [List.length_map, parts_len]
      refine vr_I ?_
      have e3 : (n : Int) - 1 - (l.size : Int) = ((n - 1 - l.size : Nat) : Int) := by omega
      rw [e3]
      refine pad_nil ?_
      refine ⟨a, r, b4, n - 1 - l.size, rfl, hB b4, by omega, by omega, by omega, fun t b5 ht hts => ?_⟩
      rw [pp]
      refine pad_nil ⟨by show 3 ≤ sizeLine; decide, ?_⟩
      exact k (.bin q l t) b5 ⟨hl, ht⟩ (by show l.size + t.size + 1 ≤ n; omega)
    · refine pssd_nil ?_
      exact modal b1
  · refine pssd_nil ?_
    exact modal b1
theorem ok_tre {f : Addr} {fd : FuncData} (G : Fun K "_law_tree" "_law_tree" sTre f fd) (hf : mg "_law_tree" = some (.ref f)) (hb : Binds K fd ["bag", "room"] []) (hm : Nm2 mg) (hT : HasF P w K mg base T CX0 "_law_take" 1 ["bag", "many"] spTake)
    (hN : HasF P w K mg base T CX0 "_law_name" 3 ["bag"] spNam) (hGr : HasF P w K mg base T CX0 "_law_group" 2 ["bag"] spGrp) (hP : HasF P w K mg base T CX0 "_law_parts" 13 ["tree"] (spPts 12)) : ∀ m : Nat, FnOk P w K mg base CX0 (m + 14) f fd ["bag", "room"] (spOf K T (spTre m))
  | 0 => tre_step G hf hb hm hT hN hGr hP 0 fun j h => by cases h
  | m + 1 => tre_step G hf hb hm hT hN hGr hP (m + 1) fun j h => by
    cases h
    exact ok_tre G hf hb hm hT hN hGr hP m
end
end Tw

set_option Elab.async false
set_option linter.all false
set_option maxRecDepth 100000
set_option maxHeartbeats 2000000
/-! Sayings are made: the eight __init__. -/
namespace Tw
open PySem PySem.Spec PyProof.Rows L2 LamX DL
theorem group_len {g : Str} (h : GroupOk g) : g.length ≤ 8 := by
  obtain ⟨b, _, _, rfl⟩ := h
  show (grpL b).toArray.size ≤ 8
  rw [List.size_toArray]
  unfold grpL
  rw [List.length_map]
  exact Nat.le_trans (List.length_filter_le _ _) (by rw [List.length_range]; exact Nat.le_refl _)
theorem sh_of : ∀ {t : Tr}, TrOk t → Sh t
  | .tru _, _ => trivial
  | .fact _, h => h.l8
  | .neg t, h => sh_of (t := t) h
  | .bin _ l r, h => ⟨sh_of h.1, sh_of h.2⟩
  | .md _ g t, h => ⟨group_len h.1, sh_of h.2⟩
abbrev sIT : Stmt := inClass (top 13) 0
abbrev sIF : Stmt := inClass (top 14) 0
abbrev sIN : Stmt := inClass (top 15) 0
abbrev sIA : Stmt := inClass (top 16) 1
abbrev sIO : Stmt := inClass (top 17) 1
abbrev sIK : Stmt := inClass (top 18) 0
abbrev sIW : Stmt := inClass (top 19) 0
abbrev sIC : Stmt := inClass (top 20) 0
/-- no class of sayings has a name of the fields -/
structure SayI (K : PySem.W.Frag) (c : SC) : Prop where
  nv : NoAttr K c.cT "value"
  nn : NoAttr K c.cF "name"
  ni : NoAttr K c.cN "inner"
  n1 : ∀ a, NoAttr K (c.bi a) "first"
  n2 : ∀ a, NoAttr K (c.bi a) "second"
  ng : ∀ k, NoAttr K (c.md k) "group"
  nj : ∀ k, NoAttr K (c.md k) "inner"
def spIT (c : SC) : SpD := fun ds w κ χ => ∃ (a dx : Addr) (b : Bool), ds = [R a, B b] ∧ w a = some (.ins c.cT dx [] []) ∧ κ N (wu w a (.ins c.cT dx ["value", "_below", "_text"] [B b, .lst [], DL.T (txt (.tru b))]))
def spIF (c : SC) (CN : Addr) : SpD := fun ds w κ χ => ∃ (a dx : Addr) (s : Str), ds = [R a, DL.T s] ∧ w a = some (.ins c.cF dx [] []) ∧ s.length ≤ 900 ∧ (NameOk s → κ N (wu w a (.ins c.cF dx ["name", "_below", "_text"] [DL.T s, .lst [], DL.T s]))) ∧ (¬ NameOk s → Okc s ∧ χ CN ["name"] [DL.T s] w)
def spIN (c : SC) : SpD := fun ds w κ χ => ∃ (a dx : Addr) (t : Tr), ds = [R a, sayD c t] ∧ w a = some (.ins c.cN dx [] []) ∧ Sh t ∧ t.size ≤ 499 ∧ κ N (wu w a (.ins c.cN dx ["inner", "_below", "_text"] [sayD c t, .lst [sayD c t], DL.T (txt (.neg t))]))
def spIB (c : SC) (q : Bool) : SpD := fun ds w κ χ => ∃ (a dx : Addr) (l r : Tr), ds = [R a, sayD c l, sayD c r] ∧ w a = some (.ins (c.bi q) dx [] []) ∧ Sh l ∧ Sh r ∧ l.size ≤ 499 ∧ r.size ≤ 499 ∧
  κ N (wu w a (.ins (c.bi q) dx ["first", "second", "_below", "_text"] [sayD c l, sayD c r, .lst [sayD c l, sayD c r], DL.T (txt (.bin q l r))]))
def spIM (c : SC) (q : Md) (CG : Addr) : SpD := fun ds w κ χ => ∃ (a dx : Addr) (g : Str) (t : Tr), ds = [R a, DL.T g, sayD c t] ∧ w a = some (.ins (c.md q) dx [] []) ∧ g.length ≤ 900 ∧ Sh t ∧ t.size ≤ 499 ∧
  (GroupOk g → κ N (wu w a (.ins (c.md q) dx ["group", "inner", "_below", "_text"] [DL.T g, sayD c t, .lst [sayD c t], DL.T (txt (.md q g t))]))) ∧ (¬ GroupOk g → Okc g ∧ χ CG ["group"] [DL.T g] w)
section
variable {P : Program} {w : PySem.World} {K : PySem.W.Frag} {mg : Str → Option Value} {base : Heap} {T : List (Addr × Str)} {c : SC} {fS CG CN : Addr}
theorem scIT : FnScope ["self", "value"] ["self", "value"] (defScope sIT) := ⟨rfl, rfl, rfl, by decide +kernel, rfl, by decide +kernel, by decide +kernel⟩
theorem ok_it {f : Addr} {fd : FuncData} (G : Fun K "__init__" "Truth.__init__" sIT f fd) (A : SayAll K fS c) (I : SayI K c) : FnOk P w K mg base CX0 1 f fd ["self", "value"] (spOf K T (spIT c)) := by
  refine fnD G scIT (fun ds w κ χ h => ?_) (fun cdv A' outer s H E ds w0 κ χ hr h => ?_)
  · obtain ⟨a, dx, b, rfl, _⟩ := h
    rfl
  obtain ⟨a, dx, b, rfl, ha, k⟩ := h
  have S := A (.tru b)
  have nd := scIT.nd
  refine pssd_cons (psd_fldNew S.cl I.nv ?_)
  refine pd_var (i := 1) rfl rfl ?_
  refine pd_var (i := 0) rfl rfl ?_
  refine ⟨a, dx, [], [], rfl, ha, by decide, by decide, ?_⟩
  refine pssd_cons (psd_fldNew S.cl S.nB ?_)
  refine pd_lst ?_
  refine pad_nil ⟨Nat.zero_le _, ?_⟩
  (refine pd_var (i := 0) rfl rfl ?_; refine ⟨a, dx, _, _, rfl, wu_same, by decide, by show _ < 1000; decide, ?_⟩; rw [wu_wu])
  refine pssd_one (psd_fldNew S.cl S.nT ?_)
  refine pd_if ?_
  refine ptd_val ?_
  refine pd_var (i := 1) rfl rfl ?_
  refine ⟨b, rfl, ?_⟩
  cases b with
  | true =>
    refine iteT ?_
    refine pd_str ?_
    (refine pd_var (i := 0) rfl rfl ?_; refine ⟨a, dx, _, _, rfl, wu_same, by decide, by show _ < 1000; decide, ?_⟩; rw [wu_wu])
    exact k
  | false =>
    refine iteF ?_
    refine pd_str ?_
    (refine pd_var (i := 0) rfl rfl ?_; refine ⟨a, dx, _, _, rfl, wu_same, by decide, by show _ < 1000; decide, ?_⟩; rw [wu_wu])
    exact k
theorem scIF : FnScope ["self", "name"] ["self", "name"] (defScope sIF) := ⟨rfl, rfl, rfl, by decide +kernel, rfl, by decide +kernel, by decide +kernel⟩
theorem ok_if {f : Addr} {fd : FuncData} (G : Fun K "__init__" "Fact.__init__" sIF f fd) (A : SayAll K fS c) (I : SayI K c) (hN : HasF P w K mg base T CX0 "is_name" 1 ["text"] spIsN) (hE : HasET P w K mg base "BadName" CN 1 "name") : FnOk P w K mg base (L2.CX P w) 3 f fd ["self", "name"] (spOf K T (spIF c CN)) := by
  refine fnX G scIF (fun ds w κ χ h => ?_) (fun cdv A' outer s H E ds w0 κ χ hr h => ?_)
  · obtain ⟨a, dx, z, rfl, _⟩ := h
    rfl
  obtain ⟨a, dx, z, rfl, ha, hz, k1, k2⟩ := h
  have S := A (.fact z)
  have nd := scIF.nd
  refine pssd_cons (psd_if ?_)
  refine ptd_not ?_
  refine ptd_val ?_
  refine pd_has hN (hr.mono (by decide)) (fun _ => pass0At) ?_
  (refine pad_cons ?_; refine pd_var (i := 1) rfl rfl ?_)
  refine pad_nil ?_
  refine ⟨z, rfl, hz, ?_⟩
  refine ⟨_, rfl, ?_⟩
  cases q : nameB z with
  | false =>
    refine iteT ?_
    have hn : ¬ NameOk z := fun y => by
      rw [(nameB_iff z).mpr y] at q
      cases q
    refine pssd_one (psd_raiseT rfl takesX hE hr ?_)
    refine pd_var (i := 1) rfl rfl ?_
    exact ⟨z, rfl, (k2 hn).1, (k2 hn).2⟩
  | true =>
    refine iteF ?_
    refine pssd_nil ?_
    have k := k1 ((nameB_iff z).mp q)
    refine pssd_cons (psd_fldNew S.cl I.nn ?_)
    refine pd_var (i := 1) rfl rfl ?_
    refine pd_var (i := 0) rfl rfl ?_
    refine ⟨a, dx, [], [], rfl, ha, by decide, by decide, ?_⟩
    refine pssd_cons (psd_fldNew S.cl S.nB ?_)
    refine pd_lst ?_
    refine pad_nil ⟨Nat.zero_le _, ?_⟩
    (refine pd_var (i := 0) rfl rfl ?_; refine ⟨a, dx, _, _, rfl, wu_same, by decide, by show _ < 1000; decide, ?_⟩; rw [wu_wu])
    refine pssd_one (psd_fldNew S.cl S.nT ?_)
    refine pd_var (i := 1) rfl rfl ?_
    (refine pd_var (i := 0) rfl rfl ?_; refine ⟨a, dx, _, _, rfl, wu_same, by decide, by show _ < 1000; decide, ?_⟩; rw [wu_wu])
    exact k
theorem scIN : FnScope ["self", "inner"] ["self", "inner"] (defScope sIN) := ⟨rfl, rfl, rfl, by decide +kernel, rfl, by decide +kernel, by decide +kernel⟩
theorem ok_in {f : Addr} {fd : FuncData} (G : Fun K "__init__" "Not.__init__" sIN f fd) (A : SayAll K fS c) (I : SayI K c) (hB : HasF P w K mg base T CX0 "_bound" 4 ["saying", "bond"] (spBound c)) : FnOk P w K mg base CX0 5 f fd ["self", "inner"] (spOf K T (spIN c)) := by
  refine fnD G scIN (fun ds w κ χ h => ?_) (fun cdv A' outer s H E ds w0 κ χ hr h => ?_)
  · obtain ⟨a, dx, t, rfl, _⟩ := h
    rfl
  obtain ⟨a, dx, t, rfl, ha, hs, hz, k⟩ := h
  have S := A (.neg t)
  have nd := scIN.nd
  have tl := txt_len t hs
  have pl := par_len (bond t) 3 (txt t)
  have l1 : ("~" : Str).length = 1 := by decide +kernel
  refine pssd_cons (psd_fldNew S.cl I.ni ?_)
  refine pd_var (i := 1) rfl rfl ?_
  refine pd_var (i := 0) rfl rfl ?_
  refine ⟨a, dx, [], [], rfl, ha, by decide, by decide, ?_⟩
  refine pssd_cons (psd_fldNew S.cl S.nB ?_)
  refine pd_lst ?_
  (refine pad_cons ?_; refine pd_var (i := 1) rfl rfl ?_)
  refine pad_nil ⟨by show 1 ≤ sizeLine; decide, ?_⟩
  (refine pd_var (i := 0) rfl rfl ?_; refine ⟨a, dx, _, _, rfl, wu_same, by decide, by show _ < 1000; decide, ?_⟩; rw [wu_wu])
  refine pssd_one (psd_fldNew S.cl S.nT ?_)
  refine pd_js (.cons pe_str (.cons (pe_fmt (pe_wp _)) .nil)) ?_
  refine pjd_str (by rw [Str.empty_append, l1, sizeLine_eq]; decide) ?_
  (refine pjd_fmt ?_; refine pd_has hB (hr.mono (by decide)) (fun _ => pass0At) ?_; (refine pad_cons ?_; refine pd_var (i := 1) rfl rfl ?_); refine pad_cons (pd_int ?_); refine pad_nil ?_)
  refine ⟨t, 3, rfl, hs, by omega, ?_⟩
  refine ⟨_, rfl, by rw [sizeLine_eq]; omega, by rw [Str.empty_append, Str.length_append, l1, sizeLine_eq]; omega, ?_⟩
  refine pjd_nil ?_
  rw [Str.empty_append]
  (refine pd_var (i := 0) rfl rfl ?_; refine ⟨a, dx, _, _, rfl, wu_same, by decide, by show _ < 1000; decide, ?_⟩; rw [wu_wu])
  exact k
end
end Tw

set_option Elab.async false
set_option linter.all false
set_option maxRecDepth 100000
set_option maxHeartbeats 2000000
/-! Sayings of two and of people are made. -/
namespace Tw
open PySem PySem.Spec PyProof.Rows L2 LamX DL
section
variable {P : Program} {w : PySem.World} {K : PySem.W.Frag} {mg : Str → Option Value} {base : Heap} {T : List (Addr × Str)} {c : SC} {fS CG CN : Addr}
theorem scsIA : FnScope ["self", "first", "second"] ["self", "first", "second"] (defScope sIA) := ⟨rfl, rfl, rfl, by decide +kernel, rfl, by decide +kernel, by decide +kernel⟩
theorem ok_iand {f : Addr} {fd : FuncData} (G : Fun K "__init__" "And.__init__" sIA f fd) (A : SayAll K fS c) (I : SayI K c) (hB : HasF P w K mg base T CX0 "_bound" 4 ["saying", "bond"] (spBound c)) : FnOk P w K mg base CX0 5 f fd ["self", "first", "second"] (spOf K T (spIB c true)) := by
  refine fnD G scsIA (fun ds w κ χ h => ?_) (fun cdv A' outer s H E ds w0 κ χ hr h => ?_)
  · obtain ⟨a, dx, l, r, rfl, _⟩ := h
    rfl
  obtain ⟨a, dx, l, r, rfl, ha, hs, hs2, hz, hz2, k⟩ := h
  have S := A (.bin true l r)
  have nd := scsIA.nd
  have tl := txt_len l hs
  have tl2 := txt_len r hs2
  have pl := par_len (bond l) 2 (txt l)
  have pl2 := par_len (bond r) 3 (txt r)
  have l1 : (" & " : Str).length = 3 := by decide +kernel
  refine pssd_cons (psd_fldNew S.cl (I.n1 true) ?_)
  refine pd_var (i := 1) rfl rfl ?_
  refine pd_var (i := 0) rfl rfl ?_
  refine ⟨a, dx, [], [], rfl, ha, by decide, by decide, ?_⟩
  refine pssd_cons (psd_fldNew S.cl (I.n2 true) ?_)
  refine pd_var (i := 2) rfl rfl ?_
  (refine pd_var (i := 0) rfl rfl ?_; refine ⟨a, dx, _, _, rfl, wu_same, by decide, by show _ < 1000; decide, ?_⟩; rw [wu_wu])
  refine pssd_cons (psd_fldNew S.cl S.nB ?_)
  refine pd_lst ?_
  (refine pad_cons ?_; refine pd_var (i := 1) rfl rfl ?_)
  (refine pad_cons ?_; refine pd_var (i := 2) rfl rfl ?_)
  refine pad_nil ⟨by show 2 ≤ sizeLine; decide, ?_⟩
  (refine pd_var (i := 0) rfl rfl ?_; refine ⟨a, dx, _, _, rfl, wu_same, by decide, by show _ < 1000; decide, ?_⟩; rw [wu_wu])
  refine pssd_one (psd_fldNew S.cl S.nT ?_)
  refine pd_js (.cons (pe_fmt (pe_wp _)) (.cons pe_str (.cons (pe_fmt (pe_wp _)) .nil))) ?_
  (refine pjd_fmt ?_; refine pd_has hB (hr.mono (by decide)) (fun _ => pass0At) ?_; (refine pad_cons ?_; refine pd_var (i := 1) rfl rfl ?_); refine pad_cons (pd_int ?_); refine pad_nil ?_)
  refine ⟨l, 2, rfl, hs, by omega, ?_⟩
  refine ⟨_, rfl, by rw [sizeLine_eq]; omega, by rw [Str.empty_append, sizeLine_eq]; omega, ?_⟩
  rw [Str.empty_append]
  refine pjd_str (by rw [Str.length_append, l1, sizeLine_eq]; omega) ?_
  (refine pjd_fmt ?_; refine pd_has hB (hr.mono (by decide)) (fun _ => pass0At) ?_; (refine pad_cons ?_; refine pd_var (i := 2) rfl rfl ?_); refine pad_cons (pd_int ?_); refine pad_nil ?_)
  refine ⟨r, 3, rfl, hs2, by omega, ?_⟩
  refine ⟨_, rfl, by rw [sizeLine_eq]; omega, by rw [Str.length_append, Str.length_append, l1, sizeLine_eq]; omega, ?_⟩
  refine pjd_nil ?_
  (refine pd_var (i := 0) rfl rfl ?_; refine ⟨a, dx, _, _, rfl, wu_same, by decide, by show _ < 1000; decide, ?_⟩; rw [wu_wu])
  exact k
theorem scsIO : FnScope ["self", "first", "second"] ["self", "first", "second"] (defScope sIO) := ⟨rfl, rfl, rfl, by decide +kernel, rfl, by decide +kernel, by decide +kernel⟩
theorem ok_ior {f : Addr} {fd : FuncData} (G : Fun K "__init__" "Or.__init__" sIO f fd) (A : SayAll K fS c) (I : SayI K c) (hB : HasF P w K mg base T CX0 "_bound" 4 ["saying", "bond"] (spBound c)) : FnOk P w K mg base CX0 5 f fd ["self", "first", "second"] (spOf K T (spIB c false)) := by
  refine fnD G scsIO (fun ds w κ χ h => ?_) (fun cdv A' outer s H E ds w0 κ χ hr h => ?_)
  · obtain ⟨a, dx, l, r, rfl, _⟩ := h
    rfl
  obtain ⟨a, dx, l, r, rfl, ha, hs, hs2, hz, hz2, k⟩ := h
  have S := A (.bin false l r)
  have nd := scsIO.nd
  have tl := txt_len l hs
  have tl2 := txt_len r hs2
  have pl := par_len (bond l) 1 (txt l)
  have pl2 := par_len (bond r) 2 (txt r)
  have l1 : (" | " : Str).length = 3 := by decide +kernel
  refine pssd_cons (psd_fldNew S.cl (I.n1 false) ?_)
  refine pd_var (i := 1) rfl rfl ?_
  refine pd_var (i := 0) rfl rfl ?_
  refine ⟨a, dx, [], [], rfl, ha, by decide, by decide, ?_⟩
  refine pssd_cons (psd_fldNew S.cl (I.n2 false) ?_)
  refine pd_var (i := 2) rfl rfl ?_
  (refine pd_var (i := 0) rfl rfl ?_; refine ⟨a, dx, _, _, rfl, wu_same, by decide, by show _ < 1000; decide, ?_⟩; rw [wu_wu])
  refine pssd_cons (psd_fldNew S.cl S.nB ?_)
  refine pd_lst ?_
  (refine pad_cons ?_; refine pd_var (i := 1) rfl rfl ?_)
  (refine pad_cons ?_; refine pd_var (i := 2) rfl rfl ?_)
  refine pad_nil ⟨by show 2 ≤ sizeLine; decide, ?_⟩
  (refine pd_var (i := 0) rfl rfl ?_; refine ⟨a, dx, _, _, rfl, wu_same, by decide, by show _ < 1000; decide, ?_⟩; rw [wu_wu])
  refine pssd_one (psd_fldNew S.cl S.nT ?_)
  refine pd_js (.cons (pe_fmt (pe_wp _)) (.cons pe_str (.cons (pe_fmt (pe_wp _)) .nil))) ?_
  (refine pjd_fmt ?_; refine pd_has hB (hr.mono (by decide)) (fun _ => pass0At) ?_; (refine pad_cons ?_; refine pd_var (i := 1) rfl rfl ?_); refine pad_cons (pd_int ?_); refine pad_nil ?_)
  refine ⟨l, 1, rfl, hs, by omega, ?_⟩
  refine ⟨_, rfl, by rw [sizeLine_eq]; omega, by rw [Str.empty_append, sizeLine_eq]; omega, ?_⟩
  rw [Str.empty_append]
  refine pjd_str (by rw [Str.length_append, l1, sizeLine_eq]; omega) ?_
  (refine pjd_fmt ?_; refine pd_has hB (hr.mono (by decide)) (fun _ => pass0At) ?_; (refine pad_cons ?_; refine pd_var (i := 2) rfl rfl ?_); refine pad_cons (pd_int ?_); refine pad_nil ?_)
  refine ⟨r, 2, rfl, hs2, by omega, ?_⟩
  refine ⟨_, rfl, by rw [sizeLine_eq]; omega, by rw [Str.length_append, Str.length_append, l1, sizeLine_eq]; omega, ?_⟩
  refine pjd_nil ?_
  (refine pd_var (i := 0) rfl rfl ?_; refine ⟨a, dx, _, _, rfl, wu_same, by decide, by show _ < 1000; decide, ?_⟩; rw [wu_wu])
  exact k
theorem scsIK : FnScope ["self", "group", "inner"] ["self", "group", "inner"] (defScope sIK) := ⟨rfl, rfl, rfl, by decide +kernel, rfl, by decide +kernel, by decide +kernel⟩
theorem ok_iknows {f : Addr} {fd : FuncData} (G : Fun K "__init__" "Knows.__init__" sIK f fd) (A : SayAll K fS c) (I : SayI K c) (hB : HasF P w K mg base T CX0 "_bound" 4 ["saying", "bond"] (spBound c)) (hG : HasF P w K mg base T (L2.CX P w) "check_group" 3 ["group"] (spCkG CG)) : FnOk P w K mg base (L2.CX P w) 5 f fd ["self", "group", "inner"] (spOf K T (spIM c .kn CG)) := by
  refine fnX G scsIK (fun ds w κ χ h => ?_) (fun cdv A' outer s H E ds w0 κ χ hr h => ?_)
  · obtain ⟨a, dx, g, t, rfl, _⟩ := h
    rfl
  obtain ⟨a, dx, g, t, rfl, ha, hg, hs, hz, k1, k2⟩ := h
  have S := A (.md .kn g t)
  have nd := scsIK.nd
  have tl := txt_len t hs
  have pl := par_len (bond t) 3 (txt t)
  have l1 : ("[" : Str).length = 1 := by decide +kernel
  have l2 : ("]" : Str).length ≤ 2 := by decide +kernel
  refine pssd_cons (psd_expr ?_)
  refine pd_has hG (hr.mono (by decide)) passX ?_
  (refine pad_cons ?_; refine pd_var (i := 1) rfl rfl ?_)
  refine pad_nil ?_
  refine ⟨g, rfl, hg, fun ok => ?_, fun no => k2 no⟩
  have k := k1 ok
  refine pssd_cons (psd_fldNew S.cl (I.ng .kn) ?_)
  refine pd_var (i := 1) rfl rfl ?_
  refine pd_var (i := 0) rfl rfl ?_
  refine ⟨a, dx, [], [], rfl, ha, by decide, by decide, ?_⟩
  refine pssd_cons (psd_fldNew S.cl (I.nj .kn) ?_)
  refine pd_var (i := 2) rfl rfl ?_
  (refine pd_var (i := 0) rfl rfl ?_; refine ⟨a, dx, _, _, rfl, wu_same, by decide, by show _ < 1000; decide, ?_⟩; rw [wu_wu])
  refine pssd_cons (psd_fldNew S.cl S.nB ?_)
  refine pd_lst ?_
  (refine pad_cons ?_; refine pd_var (i := 2) rfl rfl ?_)
  refine pad_nil ⟨by show 1 ≤ sizeLine; decide, ?_⟩
  (refine pd_var (i := 0) rfl rfl ?_; refine ⟨a, dx, _, _, rfl, wu_same, by decide, by show _ < 1000; decide, ?_⟩; rw [wu_wu])
  refine pssd_one (psd_fldNew S.cl S.nT ?_)
  refine pd_js (.cons pe_str (.cons (pe_fmt (pe_wp _)) (.cons pe_str (.cons (pe_fmt (pe_wp _)) .nil)))) ?_
  refine pjd_str (by rw [Str.empty_append, l1, sizeLine_eq]; decide) ?_
  rw [Str.empty_append]
  refine pjd_fmt ?_
  refine pd_var (i := 1) rfl rfl ?_
  refine ⟨g, rfl, by rw [sizeLine_eq]; omega, by rw [Str.length_append, l1, sizeLine_eq]; omega, ?_⟩
  refine pjd_str (by rw [Str.length_append, Str.length_append, l1, sizeLine_eq]; omega) ?_
  (refine pjd_fmt ?_; refine pd_has hB (hr.mono (by decide)) (fun _ => pass0At) ?_; (refine pad_cons ?_; refine pd_var (i := 2) rfl rfl ?_); refine pad_cons (pd_int ?_); refine pad_nil ?_)
  refine ⟨t, 3, rfl, hs, by omega, ?_⟩
  refine ⟨_, rfl, by rw [sizeLine_eq]; omega, by rw [Str.length_append, Str.length_append, Str.length_append, l1, sizeLine_eq]; omega, ?_⟩
  refine pjd_nil ?_
  (refine pd_var (i := 0) rfl rfl ?_; refine ⟨a, dx, _, _, rfl, wu_same, by decide, by show _ < 1000; decide, ?_⟩; rw [wu_wu])
  exact k
theorem scsIW : FnScope ["self", "group", "inner"] ["self", "group", "inner"] (defScope sIW) := ⟨rfl, rfl, rfl, by decide +kernel, rfl, by decide +kernel, by decide +kernel⟩
theorem ok_iwhether {f : Addr} {fd : FuncData} (G : Fun K "__init__" "Whether.__init__" sIW f fd) (A : SayAll K fS c) (I : SayI K c) (hB : HasF P w K mg base T CX0 "_bound" 4 ["saying", "bond"] (spBound c)) (hG : HasF P w K mg base T (L2.CX P w) "check_group" 3 ["group"] (spCkG CG)) : FnOk P w K mg base (L2.CX P w) 5 f fd ["self", "group", "inner"] (spOf K T (spIM c .wh CG)) := by
  refine fnX G scsIW (fun ds w κ χ h => ?_) (fun cdv A' outer s H E ds w0 κ χ hr h => ?_)
  · obtain ⟨a, dx, g, t, rfl, _⟩ := h
    rfl
  obtain ⟨a, dx, g, t, rfl, ha, hg, hs, hz, k1, k2⟩ := h
  have S := A (.md .wh g t)
  have nd := scsIW.nd
  have tl := txt_len t hs
  have pl := par_len (bond t) 3 (txt t)
  have l1 : ("[" : Str).length = 1 := by decide +kernel
  have l2 : ("?]" : Str).length ≤ 2 := by decide +kernel
  refine pssd_cons (psd_expr ?_)
  refine pd_has hG (hr.mono (by decide)) passX ?_
  (refine pad_cons ?_; refine pd_var (i := 1) rfl rfl ?_)
  refine pad_nil ?_
  refine ⟨g, rfl, hg, fun ok => ?_, fun no => k2 no⟩
  have k := k1 ok
  refine pssd_cons (psd_fldNew S.cl (I.ng .wh) ?_)
  refine pd_var (i := 1) rfl rfl ?_
  refine pd_var (i := 0) rfl rfl ?_
  refine ⟨a, dx, [], [], rfl, ha, by decide, by decide, ?_⟩
  refine pssd_cons (psd_fldNew S.cl (I.nj .wh) ?_)
  refine pd_var (i := 2) rfl rfl ?_
  (refine pd_var (i := 0) rfl rfl ?_; refine ⟨a, dx, _, _, rfl, wu_same, by decide, by show _ < 1000; decide, ?_⟩; rw [wu_wu])
  refine pssd_cons (psd_fldNew S.cl S.nB ?_)
  refine pd_lst ?_
  (refine pad_cons ?_; refine pd_var (i := 2) rfl rfl ?_)
  refine pad_nil ⟨by show 1 ≤ sizeLine; decide, ?_⟩
  (refine pd_var (i := 0) rfl rfl ?_; refine ⟨a, dx, _, _, rfl, wu_same, by decide, by show _ < 1000; decide, ?_⟩; rw [wu_wu])
  refine pssd_one (psd_fldNew S.cl S.nT ?_)
  refine pd_js (.cons pe_str (.cons (pe_fmt (pe_wp _)) (.cons pe_str (.cons (pe_fmt (pe_wp _)) .nil)))) ?_
  refine pjd_str (by rw [Str.empty_append, l1, sizeLine_eq]; decide) ?_
  rw [Str.empty_append]
  refine pjd_fmt ?_
  refine pd_var (i := 1) rfl rfl ?_
  refine ⟨g, rfl, by rw [sizeLine_eq]; omega, by rw [Str.length_append, l1, sizeLine_eq]; omega, ?_⟩
  refine pjd_str (by rw [Str.length_append, Str.length_append, l1, sizeLine_eq]; omega) ?_
  (refine pjd_fmt ?_; refine pd_has hB (hr.mono (by decide)) (fun _ => pass0At) ?_; (refine pad_cons ?_; refine pd_var (i := 2) rfl rfl ?_); refine pad_cons (pd_int ?_); refine pad_nil ?_)
  refine ⟨t, 3, rfl, hs, by omega, ?_⟩
  refine ⟨_, rfl, by rw [sizeLine_eq]; omega, by rw [Str.length_append, Str.length_append, Str.length_append, l1, sizeLine_eq]; omega, ?_⟩
  refine pjd_nil ?_
  (refine pd_var (i := 0) rfl rfl ?_; refine ⟨a, dx, _, _, rfl, wu_same, by decide, by show _ < 1000; decide, ?_⟩; rw [wu_wu])
  exact k
theorem scsIC : FnScope ["self", "group", "inner"] ["self", "group", "inner"] (defScope sIC) := ⟨rfl, rfl, rfl, by decide +kernel, rfl, by decide +kernel, by decide +kernel⟩
theorem ok_icommon {f : Addr} {fd : FuncData} (G : Fun K "__init__" "Common.__init__" sIC f fd) (A : SayAll K fS c) (I : SayI K c) (hB : HasF P w K mg base T CX0 "_bound" 4 ["saying", "bond"] (spBound c)) (hG : HasF P w K mg base T (L2.CX P w) "check_group" 3 ["group"] (spCkG CG)) : FnOk P w K mg base (L2.CX P w) 5 f fd ["self", "group", "inner"] (spOf K T (spIM c .co CG)) := by
  refine fnX G scsIC (fun ds w κ χ h => ?_) (fun cdv A' outer s H E ds w0 κ χ hr h => ?_)
  · obtain ⟨a, dx, g, t, rfl, _⟩ := h
    rfl
  obtain ⟨a, dx, g, t, rfl, ha, hg, hs, hz, k1, k2⟩ := h
  have S := A (.md .co g t)
  have nd := scsIC.nd
  have tl := txt_len t hs
  have pl := par_len (bond t) 3 (txt t)
  have l1 : ("[" : Str).length = 1 := by decide +kernel
  have l2 : ("*]" : Str).length ≤ 2 := by decide +kernel
  refine pssd_cons (psd_expr ?_)
  refine pd_has hG (hr.mono (by decide)) passX ?_
  (refine pad_cons ?_; refine pd_var (i := 1) rfl rfl ?_)
  refine pad_nil ?_
  refine ⟨g, rfl, hg, fun ok => ?_, fun no => k2 no⟩
  have k := k1 ok
  refine pssd_cons (psd_fldNew S.cl (I.ng .co) ?_)
  refine pd_var (i := 1) rfl rfl ?_
  refine pd_var (i := 0) rfl rfl ?_
  refine ⟨a, dx, [], [], rfl, ha, by decide, by decide, ?_⟩
  refine pssd_cons (psd_fldNew S.cl (I.nj .co) ?_)
  refine pd_var (i := 2) rfl rfl ?_
  (refine pd_var (i := 0) rfl rfl ?_; refine ⟨a, dx, _, _, rfl, wu_same, by decide, by show _ < 1000; decide, ?_⟩; rw [wu_wu])
  refine pssd_cons (psd_fldNew S.cl S.nB ?_)
  refine pd_lst ?_
  (refine pad_cons ?_; refine pd_var (i := 2) rfl rfl ?_)
  refine pad_nil ⟨by show 1 ≤ sizeLine; decide, ?_⟩
  (refine pd_var (i := 0) rfl rfl ?_; refine ⟨a, dx, _, _, rfl, wu_same, by decide, by show _ < 1000; decide, ?_⟩; rw [wu_wu])
  refine pssd_one (psd_fldNew S.cl S.nT ?_)
  refine pd_js (.cons pe_str (.cons (pe_fmt (pe_wp _)) (.cons pe_str (.cons (pe_fmt (pe_wp _)) .nil)))) ?_
  refine pjd_str (by rw [Str.empty_append, l1, sizeLine_eq]; decide) ?_
  rw [Str.empty_append]
  refine pjd_fmt ?_
  refine pd_var (i := 1) rfl rfl ?_
  refine ⟨g, rfl, by rw [sizeLine_eq]; omega, by rw [Str.length_append, l1, sizeLine_eq]; omega, ?_⟩
  refine pjd_str (by rw [Str.length_append, Str.length_append, l1, sizeLine_eq]; omega) ?_
  (refine pjd_fmt ?_; refine pd_has hB (hr.mono (by decide)) (fun _ => pass0At) ?_; (refine pad_cons ?_; refine pd_var (i := 2) rfl rfl ?_); refine pad_cons (pd_int ?_); refine pad_nil ?_)
  refine ⟨t, 3, rfl, hs, by omega, ?_⟩
  refine ⟨_, rfl, by rw [sizeLine_eq]; omega, by rw [Str.length_append, Str.length_append, Str.length_append, l1, sizeLine_eq]; omega, ?_⟩
  refine pjd_nil ?_
  (refine pd_var (i := 0) rfl rfl ?_; refine ⟨a, dx, _, _, rfl, wu_same, by decide, by show _ < 1000; decide, ?_⟩; rw [wu_wu])
  exact k
end
end Tw

set_option Elab.async false
set_option linter.all false
set_option maxRecDepth 100000
set_option maxHeartbeats 2000000
/-! Parts of a saying, one behind the other. -/
namespace Tw
open PySem PySem.Spec PyProof.Rows L2 LamX DL
def Tr.subs : Tr → List Tr
  | .tru _ => []
  | .fact _ => []
  | .neg t => [t]
  | .bin _ l r => [l, r]
  | .md _ _ t => [t]
theorem parts_below (t : Tr) : t.parts = t :: t.subs.flatMap Tr.parts := by
  cases t <;> simp [Tr.parts, Tr.subs]
def szs (l : List Tr) : Nat := (l.map Tr.size).sum
theorem size_below (t : Tr) : t.size = szs t.subs + 1 := by
  cases t <;> simp [Tr.size, Tr.subs, szs]
theorem szs_app (a b : List Tr) : szs (a ++ b) = szs a + szs b := by
  unfold szs
  rw [List.map_append, List.sum_append]
theorem szs_rev (a : List Tr) : szs a.reverse = szs a := by
  unfold szs
  rw [List.map_reverse, List.sum_reverse]
theorem szs_len : ∀ l : List Tr, l.length ≤ szs l
  | [] => Nat.le_refl _
  | t :: l => by
    have h := szs_len l
    have p := size_pos t
    show l.length + 1 ≤ t.size + szs l
    omega
theorem fm_len (l : List Tr) : (l.flatMap Tr.parts).length = szs l := by
  unfold szs
  rw [List.length_flatMap]
  congr 1
  exact List.map_congr_left fun t _ => parts_len t
theorem below_len (t : Tr) : t.subs.length ≤ 2 := by
  cases t <;> simp [Tr.subs]
def Tr.isMd : Tr → Bool
  | .md _ _ _ => true
  | _ => false
def Tr.isFact : Tr → Bool
  | .fact _ => true
  | _ => false
/-- the eight kinds -/
inductive Kd
  | tr | fa | ne | an | or | kn | wh | co
  deriving DecidableEq
def Tr.kd : Tr → Kd
  | .tru _ => .tr
  | .fact _ => .fa
  | .neg _ => .ne
  | .bin true _ _ => .an
  | .bin false _ _ => .or
  | .md .kn _ _ => .kn
  | .md .wh _ _ => .wh
  | .md .co _ _ => .co
def SC.cls (c : SC) : Kd → Addr
  | .tr => c.cT
  | .fa => c.cF
  | .ne => c.cN
  | .an => c.cA
  | .or => c.cO
  | .kn => c.cK
  | .wh => c.cW
  | .co => c.cC
theorem cls_kd (c : SC) (t : Tr) : c.cls t.kd = c.of t := by
  cases t with
  | bin a l r => cases a <;> rfl
  | md k g t => cases k <;> rfl
  | _ => rfl
theorem say_below {c : SC} {t : Tr} {w : Wp} : FldD (c.of t) "_below" (sayD c t) w (.lst (t.subs.map (sayD c))) := by
  cases t <;> exact ⟨rfl, rfl⟩
/-- what isinstance and methods of sayings ask -/
structure SayQ (K : PySem.W.Frag) (c : SC) (cS : Addr) : Prop where
  ci : ∀ t : Tr, ClsI K (c.of t)
  one : ∀ (t : Tr) (j : Kd), PySem.W.kitOne K (.ref (c.of t)) (.ref (c.cls j)) = some (decide (t.kd = j))
  base : ∀ t : Tr, PySem.W.kitOne K (.ref (c.of t)) (.ref cS) = some true
theorem say_ty {K : PySem.W.Frag} {c : SC} {cS : Addr} (Q : SayQ K c cS) (t : Tr) : TyDD K (sayD c t) (.ref (c.of t)) := by
  obtain ⟨ns, ds, e, _⟩ := say_obj c t
  exact .inr ⟨_, ns, ds, e, Q.ci t, rfl⟩
/-- the classes' names in the text -/
structure NmS (mg : Str → Option Value) (c : SC) (cS : Addr) : Prop where
  mT : mg "Truth" = some (.ref c.cT)
  mF : mg "Fact" = some (.ref c.cF)
  mN : mg "Not" = some (.ref c.cN)
  mA : mg "And" = some (.ref c.cA)
  mO : mg "Or" = some (.ref c.cO)
  mK : mg "Knows" = some (.ref c.cK)
  mW : mg "Whether" = some (.ref c.cW)
  mC : mg "Common" = some (.ref c.cC)
  mS : mg "Saying" = some (.ref cS)
abbrev sIsK : Stmt := top 22
def spIsK (c : SC) : SpD := fun ds w κ χ => ∃ t : Tr, ds = [sayD c t] ∧ κ (B t.isMd) w
section
variable {P : Program} {w : PySem.World} {K : PySem.W.Frag} {mg : Str → Option Value} {base : Heap} {T : List (Addr × Str)} {c : SC} {cS fS : Addr}
theorem kit_md (Q : SayQ K c cS) (t : Tr) : PySem.W.kitAny K (.ref (c.of t)) ([c.cK, c.cW, c.cC].map Value.ref) = some t.isMd := by
  have h := kit_any (K := K) (t := .ref (c.of t)) (Cs := [c.cK, c.cW, c.cC]) (bs := [decide (t.kd = .kn), decide (t.kd = .wh), decide (t.kd = .co)]) (by
    have h1 : PySem.W.kitOne K (.ref (c.of t)) (.ref c.cK) = _ := Q.one t .kn
    have h2 : PySem.W.kitOne K (.ref (c.of t)) (.ref c.cW) = _ := Q.one t .wh
    have h3 : PySem.W.kitOne K (.ref (c.of t)) (.ref c.cC) = _ := Q.one t .co
    show [PySem.W.kitOne K (.ref (c.of t)) (.ref c.cK), PySem.W.kitOne K (.ref (c.of t)) (.ref c.cW), PySem.W.kitOne K (.ref (c.of t)) (.ref c.cC)] = _
    rw [h1, h2, h3]
    rfl)
  rw [h]
  cases t with
  | bin a l r => cases a <;> rfl
  | md k g t => cases k <;> rfl
  | _ => rfl
theorem scIsK : FnScope ["saying"] ["saying"] (defScope sIsK) := ⟨rfl, rfl, rfl, by decide +kernel, rfl, by decide +kernel, by decide +kernel⟩
theorem ok_isk {f : Addr} {fd : FuncData} (G : Fun K "is_knowing" "is_knowing" sIsK f fd) (hm : Nm2 mg) (hs : NmS mg c cS) (Q : SayQ K c cS) : FnOk P w K mg base CX0 1 f fd ["saying"] (spOf K T (spIsK c)) := by
  refine fnD G scIsK (fun ds w κ χ h => ?_) (fun cdv A outer s H E ds w0 κ χ hr h => ?_)
  · obtain ⟨t, rfl, _⟩ := h
    rfl
  obtain ⟨t, rfl, k⟩ := h
  refine pssd_one (psd_ret ?_)
  refine pd_callB call_isiT rfl hm.isinstance PyProof.Rows.boot_isinstance ?_
  (refine pad_cons ?_; refine pd_var (i := 0) rfl rfl ?_)
  refine pad_cons ?_
  refine pd_tup ?_
  refine pad_cons (pd_glob (v := .ref c.cK) hs.mK rfl ?_)
  refine pad_cons (pd_glob (v := .ref c.cW) hs.mW rfl ?_)
  refine pad_cons (pd_glob (v := .ref c.cC) hs.mC rfl ?_)
  refine pad_nil ⟨by show 3 ≤ sizeLine; decide, ?_⟩
  refine pad_nil ?_
  exact va_isT (Cs := [c.cK, c.cW, c.cC]) (say_ty Q t) (kit_md Q t) k
abbrev sParts : Stmt := inClass (top 12) 1
abbrev NParts : List Str := ["self", "found", "waiting", "part"]
def spParts (c : SC) : SpD := fun ds w κ χ => ∃ t : Tr, ds = [sayD c t] ∧ t.size ≤ 500 ∧ ∀ a, w a = none → κ (R a) (wu w a (.lst (t.parts.map (sayD c))))
theorem scParts : FnScope NParts ["self"] (defScope sParts) := ⟨rfl, rfl, rfl, by decide +kernel, rfl, by decide +kernel, by decide +kernel⟩
theorem map_last {α β : Type} (f : α → β) (l : List α) (x : α) : ((l ++ [x]).map f)[((l ++ [x]).map f).length - 1]? = some (f x) := by
  rw [List.map_append, List.length_append]
  show (l.map f ++ [f x])[(l.map f).length + 1 - 1]? = _
  rw [Nat.add_sub_cancel, List.getElem?_append_right (Nat.le_refl _), Nat.sub_self]
  rfl
theorem map_front {α β : Type} (f : α → β) (l : List α) (x : α) : ((l ++ [x]).map f).dropLast = l.map f := by
  rw [List.map_append]
  show (l.map f ++ [f x]).dropLast = _
  rw [List.dropLast_concat]
theorem ok_parts {f : Addr} {fd : FuncData} (G : Fun K "parts" "Saying.parts" sParts f fd) (A : SayAll K fS c) : FnOk P w K mg base CX0 1 f fd ["self"] (spOf K T (spParts c)) := by
  refine fnD G scParts (fun ds w κ χ h => ?_) (fun cdv A' outer s H E ds w0 κ χ hr h => ?_)
  · obtain ⟨t, rfl, _⟩ := h
    rfl
  obtain ⟨t, rfl, hz, k⟩ := h
  have nd := scParts.nd
  have h500 : (500 : Nat) ≤ sizeLine := by decide
  refine pssd_cons (psd_set (i := 1) nd rfl ?_)
  refine pd_lstO ?_
  refine pad_nil ⟨Nat.zero_le _, fun a na => ?_⟩
  refine pssd_cons (psd_set (i := 2) nd rfl ?_)
  refine pd_lstO ?_
  (refine pad_cons ?_; refine pd_var (i := 0) rfl rfl ?_)
  refine pad_nil ⟨by show 1 ≤ sizeLine; decide, fun b nb => ?_⟩
  have ab : b ≠ a := fun z => by
    rw [z, wu_same] at nb
    cases nb
  have nb0 : w0 b = none := by rw [wu_ne ab] at nb; exact nb
  refine pssd_cons (psd_while PassesOwn.never (fun m δ' w' => ∃ (fo wa : List Tr) (x : Option D), δ' = [some (sayD c t), some (R a), some (R b), x] ∧ w' = wu (wu w0 a (.lst (fo.map (sayD c)))) b (.lst (wa.map (sayD c))) ∧ fo ++ wa.reverse.flatMap Tr.parts = t.parts ∧ m = szs wa) ?_ ?_)
  · refine ⟨_, [], [t], none, rfl, rfl, ?_, rfl⟩
    simp
  · rintro m δ' w' ⟨fo, wa, x, rfl, rfl, hp, rfl⟩
    have hpl := congrArg List.length hp
    rw [List.length_append, fm_len, parts_len, szs_rev] at hpl
    have wl := szs_len wa
    refine ptd_lst ?_
    refine pd_var (i := 2) rfl rfl ?_
    refine ⟨wa.map (sayD c), .inr ⟨b, rfl, wu_same⟩, ?_⟩
    rcases List.eq_nil_or_concat wa with rfl | ⟨ws, u, rfl⟩
    · rw [List.reverse_nil, List.flatMap_nil, List.append_nil] at hp
      subst hp
      refine iteF (?_)
      refine pssd_one (psd_ret ?_)
      refine pd_drop ?_
      refine pd_var (i := 1) rfl rfl ?_
      refine ⟨b, ?_⟩
      rw [wd_wu (by rw [wu_ne ab]; exact nb0)]
      exact k a na
    · rw [List.concat_eq_append] at hp hpl wl ⊢
      have ne : (!(((ws ++ [u]).map (sayD c)).isEmpty)) = true := by simp
      rw [ne]
      refine iteT (?_)
      have su := size_pos u
      rw [szs_app] at hpl wl
      have sz1 : szs [u] = u.size := by simp [szs]
      have bl := below_len u
      have wl2 := szs_len ws
      have bl2 := szs_len u.subs
      have sb := size_below u
      refine pssd_cons (psd_set (i := 3) nd rfl ?_)
      refine pd_bm0 PySem.F.plainAttrs_list PySem.F.slot_list_pop PySem.F.type_list_pop mt_pop ?_
      refine pd_var (i := 2) rfl rfl ?_
      refine ⟨⟨rfl, _, wu_same⟩, vm_pop wu_same (map_last _ _ _) ?_⟩
      rw [map_front, wu_wu]
      refine pssd_cons (psd_expr ?_)
      refine pd_bm PySem.F.plainAttrs_list PySem.F.slot_list_append PySem.F.type_list_append mt_append ?_
      refine pd_var (i := 1) rfl rfl ?_
      refine ⟨⟨rfl, _, by rw [wu_ne (Ne.symm ab)]; exact wu_same⟩, ?_⟩
      (refine pad_cons ?_; refine pd_var (i := 3) rfl rfl ?_)
      refine pad_nil (vm_append (by rw [wu_ne (Ne.symm ab)]; exact wu_same) (by rw [List.length_map]; omega) ?_)
      rw [wu_comm ab, wu_wu]
      refine pssd_one (psd_expr ?_)
      refine pd_bm PySem.F.plainAttrs_list PySem.F.slot_list_extend PySem.F.type_list_extend mt_extend ?_
      refine pd_var (i := 2) rfl rfl ?_
      refine ⟨⟨rfl, _, wu_same⟩, ?_⟩
      refine pad_cons ?_
      refine pd_rev ?_
      refine pd_fld (A u).cl (A u).nB ?_
      refine pd_var (i := 3) rfl rfl ?_
      refine ⟨_, say_below, _, .inl rfl, ?_⟩
      rw [← List.map_reverse]
      refine pad_nil (vm_extend wu_same (by rw [List.length_map, List.length_map, List.length_reverse]; omega) ?_)
      rw [wu_wu, ← List.map_append]
      refine ⟨szs (ws ++ u.subs.reverse), by rw [szs_app, szs_app, szs_rev, sz1]; omega, fo ++ [u], ws ++ u.subs.reverse, _, rfl, by rw [show (fo ++ [u]).map (sayD c) = fo.map (sayD c) ++ [sayD c u] from List.map_append], ?_, rfl⟩
      rw [← hp, List.reverse_append, List.reverse_append, List.reverse_reverse, List.flatMap_append, List.flatMap_append]
      show fo ++ [u] ++ (u.subs.flatMap Tr.parts ++ _) = fo ++ (u.parts ++ [] ++ _)
      rw [parts_below u]
      simp
end
end Tw

set_option Elab.async false
set_option linter.all false
/-! Sorted lists of texts: one list only. -/
namespace DL
open PySem PySem.Spec PyProof.Rows L2 LamX
theorem ltCps_iff : ∀ {a b : List Nat}, ltCps a b = true ↔ a < b
  | [], [] => by simp [ltCps]
  | [], _ :: _ => by simp [ltCps]
  | _ :: _, [] => by simp [ltCps]
  | x :: a, y :: b => by
    show (decide (x < y) || (x == y && ltCps a b)) = true ↔ _
    rw [List.cons_lt_cons_iff, Bool.or_eq_true, Bool.and_eq_true, decide_eq_true_eq, beq_iff_eq, ltCps_iff (a := a) (b := b)]
theorem ltCps_not {a b : List Nat} : (!ltCps b a) = true ↔ a ≤ b := by
  rw [Bool.not_eq_true', ← Bool.not_eq_true, ltCps_iff, List.not_lt]
theorem rising_le : ∀ {x : Str} {l : List Str}, risingS x l = true → ∀ y ∈ l, x.cps.toList ≤ y.cps.toList
  | x, [], h, y, hy => by cases hy
  | x, z :: l, h, y, hy => by
    have h' : (!ltCps z.cps.toList x.cps.toList && risingS z l) = true := h
    rw [Bool.and_eq_true, ltCps_not] at h'
    rcases List.mem_cons.mp hy with rfl | q
    · exact h'.1
    · exact List.le_trans h'.1 (rising_le h'.2 y q)
theorem rising_tail {x : Str} {l : List Str} (h : risingS x l = true) : sortedS l = true := by
  cases l with
  | nil => rfl
  | cons y l =>
    have h' : (!ltCps y.cps.toList x.cps.toList && risingS y l) = true := h
    exact (Bool.and_eq_true _ _ ▸ h').2
theorem sorted_one : ∀ {xs ys : List Str}, xs.Perm ys → sortedS xs = true → sortedS ys = true → xs = ys
  | [], ys, p, _, _ => (List.nil_perm.mp p).symm
  | x :: xs, [], p, _, _ => by
    have := p.length_eq
    cases this
  | x :: xs, y :: ys, p, h1, h2 => by
    have e : x = y := by
      have hx : x ∈ y :: ys := p.mem_iff.mp List.mem_cons_self
      have hy : y ∈ x :: xs := p.mem_iff.mpr List.mem_cons_self
      rcases List.mem_cons.mp hx with q | q
      · exact q
      rcases List.mem_cons.mp hy with q2 | q2
      · exact q2.symm
      have l1 := rising_le (show risingS y ys = true from h2) x q
      have l2 := rising_le (show risingS x xs = true from h1) y q2
      have e : x.cps.toList = y.cps.toList := List.le_antisymm l2 l1
      cases x
      cases y
      simp only [Str.mk.injEq]
      exact Array.toList_inj.mp e
    subst e
    rw [sorted_one (List.perm_cons x |>.mp p) (rising_tail h1) (rising_tail h2)]
theorem sorted_of : ∀ {l : List Str}, l.Pairwise (fun a b => a.cps.toList ≤ b.cps.toList) → sortedS l = true
  | [], _ => rfl
  | x :: l, h => by
    have go : ∀ (x : Str) (l : List Str), (x :: l).Pairwise (fun a b => a.cps.toList ≤ b.cps.toList) → risingS x l = true := by
      intro x l
      induction l generalizing x with
      | nil => intro _; rfl
      | cons y l ih =>
        intro h
        obtain ⟨h1, h2⟩ := List.pairwise_cons.mp h
        show (!ltCps y.cps.toList x.cps.toList && risingS y l) = true
        rw [Bool.and_eq_true, ltCps_not]
        exact ⟨h1 y List.mem_cons_self, ih y h2⟩
    exact go x l h
/-- a list without doubles with the same members is a rearrangement -/
theorem perm_of_mem {xs ys : List Str} (h1 : xs.Nodup) (h2 : ys.Nodup) (h : ∀ z, z ∈ xs ↔ z ∈ ys) : xs.Perm ys := (List.perm_ext_iff_of_nodup h1 h2).mpr h
end DL

set_option Elab.async false
set_option linter.all false
set_option maxRecDepth 100000
set_option maxHeartbeats 2000000
/-! What a saying tells of itself: facts, letters, plain, depth, positive, len; its operators. -/
namespace Tw
open PySem PySem.Spec PyProof.Rows L2 LamX DL
/-- all classes of sayings have the method m that keeps sp -/
def SayM (P : Program) (w : PySem.World) (K : PySem.W.Frag) (mg : Str → Option Value) (base : Heap) (T : List (Addr × Str)) (c : SC) (m : Str) (k : Nat) (sp : SpD) : Prop := ∀ t : Tr, HasM P w K mg base T CX0 (c.of t) m k ["self"] sp
/-- all classes of sayings have the property m -/
def SayP (P : Program) (w : PySem.World) (K : PySem.W.Frag) (mg : Str → Option Value) (base : Heap) (T : List (Addr × Str)) (c : SC) (m : Str) (k : Nat) (sp : SpD) : Prop := ∀ t : Tr, ∃ p g fd, PropOf K (c.of t) m p g ∧ FnOk P w K mg base CX0 k g fd ["self"] (spOf K T sp) ∧ Binds K fd ["self"] []
def Tr.fnm : Tr → Option Str
  | .fact n => some n
  | _ => none
def Tr.grp : Tr → Option Str
  | .md _ g _ => some g
  | _ => none
def factL (t : Tr) : List Str := t.parts.filterMap Tr.fnm
def groupL (t : Tr) : List Str := (t.parts.filter Tr.isMd).map fun u => u.grp.getD ""
def Tr.depth : Tr → Nat
  | .tru _ => 0
  | .fact _ => 0
  | .neg t => t.depth
  | .bin _ l r => max l.depth r.depth
  | .md _ _ t => t.depth + 1
def plainB (t : Tr) : Bool := !t.parts.any Tr.isMd
/-- the program's positive -/
def posB (t : Tr) : Bool := t.parts.all fun u => match u with
  | .neg v => plainB v
  | .md .wh _ v => plainB v
  | _ => true
theorem say_name {c : SC} {n : Str} {w : Wp} : FldD c.cF "name" (sayD c (.fact n)) w (DL.T n) := ⟨rfl, rfl⟩
theorem say_group {c : SC} {k : Md} {g : Str} {t : Tr} {w : Wp} : FldD (c.md k) "group" (sayD c (.md k g t)) w (DL.T g) := ⟨rfl, rfl⟩
theorem say_inner {c : SC} {k : Md} {g : Str} {t : Tr} {w : Wp} : FldD (c.md k) "inner" (sayD c (.md k g t)) w (sayD c t) := ⟨rfl, rfl⟩
theorem say_innerN {c : SC} {t : Tr} {w : Wp} : FldD c.cN "inner" (sayD c (.neg t)) w (sayD c t) := ⟨rfl, rfl⟩
theorem say_ins {K : PySem.W.Frag} {c : SC} {m : Str} (t : Tr) (w : Wp) (hm : m ∉ (["value", "name", "inner", "first", "second", "group", "_below", "_text"] : List Str)) : InsD (c.of t) m (sayD c t) w := by
  simp only [List.mem_cons, List.not_mem_nil, or_false, not_or] at hm
  obtain ⟨h1, h2, h3, h4, h5, h6, h7, h8⟩ := hm
  cases t <;> exact ⟨rfl, by simp [*]⟩
theorem say_is (c : SC) (t : Tr) : ∃ ns ds, sayD c t = .obj (c.of t) ns ds := by
  obtain ⟨ns, ds, e, _⟩ := say_obj c t
  exact ⟨ns, ds, e⟩
abbrev sFacts : Stmt := inClass (top 12) 2
abbrev sLetters : Stmt := inClass (top 12) 3
abbrev sPlain : Stmt := inClass (top 12) 5
abbrev sDepth : Stmt := inClass (top 12) 6
abbrev sPosi : Stmt := inClass (top 12) 7
abbrev sInvt : Stmt := inClass (top 12) 8
abbrev sAndM : Stmt := inClass (top 12) 9
abbrev sOrM : Stmt := inClass (top 12) 10
abbrev sLenM : Stmt := inClass (top 12) 13
def spFacts (c : SC) : SpD := fun ds w κ χ => ∃ t : Tr, ds = [sayD c t] ∧ t.size ≤ 60 ∧ ∀ ys : List Str, ys.Perm (gather [] (factL t)) → sortedS ys = true → ∀ a, w a = none → κ (R a) (wu w a (.lst (ys.map DL.T)))
def spLetters (c : SC) : SpD := fun ds w κ χ => ∃ t : Tr, ds = [sayD c t] ∧ t.size ≤ 60 ∧ Sh t ∧ (∀ x ∈ groupL t, ∀ z ∈ cl x, 97 ≤ z ∧ z ≤ 104) ∧ ∀ ys : List Str, ys.Perm (gather [] (chars (Txt.join ("" : Str) (groupL t)))) → sortedS ys = true → κ (DL.T (Txt.join ("" : Str) ys)) w
def spPlain (c : SC) : SpD := fun ds w κ χ => ∃ t : Tr, ds = [sayD c t] ∧ t.size ≤ 60 ∧ κ (B (plainB t)) w
def spDepth (c : SC) : SpD := fun ds w κ χ => ∃ t : Tr, ds = [sayD c t] ∧ t.size ≤ 60 ∧ κ (I (t.depth : Int)) w
def spPosi (c : SC) : SpD := fun ds w κ χ => ∃ t : Tr, ds = [sayD c t] ∧ t.size ≤ 60 ∧ κ (B (posB t)) w
def spLenM (c : SC) : SpD := fun ds w κ χ => ∃ t : Tr, ds = [sayD c t] ∧ t.size ≤ 60 ∧ κ (I (t.size : Int)) w
section
variable {P : Program} {w : PySem.World} {K : PySem.W.Frag} {mg : Str → Option Value} {base : Heap} {T : List (Addr × Str)} {c : SC} {cS fS : Addr}
theorem filt_len (t : Tr) : (factL t).length ≤ t.size := by
  unfold factL
  rw [← parts_len]
  exact List.length_filterMap_le _ _
theorem scFacts : FnScope ["self", "part"] ["self"] (defScope sFacts) := ⟨rfl, rfl, rfl, by decide +kernel, rfl, by decide +kernel, by decide +kernel⟩
theorem ok_facts {f : Addr} {fd : FuncData} (G : Fun K "facts" "Saying.facts" sFacts f fd) (hm : Nm2 mg) (hso : mg "sorted" = none) (hs : NmS mg c cS) (Q : SayQ K c cS) (A : SayAll K fS c) (I : SayI K c) (hP : SayM P w K mg base T c "parts" 1 (spParts c)) : FnOk P w K mg base CX0 2 f fd ["self"] (spOf K T (spFacts c)) := by
  refine fnD G scFacts (fun ds w κ χ h => ?_) (fun cdv A' outer s H E ds w0 κ χ hr h => ?_)
  · obtain ⟨t, rfl, _⟩ := h
    rfl
  obtain ⟨t, rfl, hz, k⟩ := h
  have nd := scFacts.nd
  refine pssd_one (psd_ret ?_)
  refine pd_sortSc (own := [("part", 1)]) (is := [1]) rfl hso nd (blkOk_by rfl) (by decide) ?_
  refine it_list ?_
  refine pd_frz ?_
  refine pd_hasm0 (A t).cl (hP t) hr (fun _ => pass0At) ?_
  refine pd_var (i := 0) rfl rfl ?_
  refine ⟨say_ins (K := K) t _ (by decide +kernel), t, rfl, by omega, fun a na => ?_⟩
  refine ⟨a, _, rfl, wu_same, ?_⟩
  rw [wd_wu na]
  refine ⟨_, rfl, ?_⟩
  refine ⟨by rw [List.length_map, parts_len]; omega, fun i acc w' => acc = gather [] ((t.parts.take i).filterMap Tr.fnm) ∧ w' = w0, ⟨rfl, rfl⟩, ?_, ?_⟩
  · rintro i d acc w' hd ⟨rfl, rfl⟩ s2 H0 C1 cl1 fp1
    rw [List.getElem?_map] at hd
    cases e : t.parts[i]? with
    | none =>
      rw [e] at hd
      cases hd
    | some u =>
    rw [e] at hd
    cases hd
    have nx : (t.parts.take (i + 1)).filterMap Tr.fnm = (t.parts.take i).filterMap Tr.fnm ++ [u].filterMap Tr.fnm := by
      rw [← List.filterMap_append, List.take_add_one, e]
      rfl
    refine pgl_name (i := 1) nd rfl ?_
    intro s3 H0 C1 cl1 fp1
    refine ptsd_one ?_
    refine ptd_val ?_
    refine pd_callB call_isi rfl hm.isinstance PyProof.Rows.boot_isinstance ?_
    (refine pad_cons ?_; refine pd_var (i := 1) rfl rfl ?_)
    refine pad_cons ?_
    refine pd_glob (v := .ref c.cF) hs.mF rfl ?_
    refine pad_nil ?_
    refine va_isC (say_ty Q u) (Q.one u .fa) ⟨_, rfl, ?_⟩
    have stay : u.fnm = none → gather [] ((t.parts.take i).filterMap Tr.fnm) = gather [] ((t.parts.take (i + 1)).filterMap Tr.fnm) ∧ w' = w' := fun h => by
      rw [nx, List.filterMap_cons, h, List.filterMap_nil, List.append_nil]
      exact ⟨rfl, rfl⟩
    cases u with
    | fact n =>
      refine iteT ?_
      intro s4 H0 C1 cl1 fp1
      refine pd_fld (A (.fact n)).cl I.nn ?_
      refine pd_var (i := 1) rfl rfl ?_
      exact ⟨_, say_name, n, rfl, by show withT _ n = gather [] _; rw [nx]; exact (gather_snoc n _ []).symm, rfl⟩
    | bin a l r => cases a <;> exact iteF (stay rfl)
    | md k g t => cases k <;> exact iteF (stay rfl)
    | tru b => exact iteF (stay rfl)
    | neg t => exact iteF (stay rfl)
  · rintro acc w' ⟨rfl, rfl⟩
    rw [List.length_map, List.take_length]
    have gl := gather_len (factL t) []
    have fl := filt_len t
    exact ⟨by show (gather [] (factL t)).length < 64; simp only [List.length_nil] at gl; omega, k⟩
theorem scLetters : FnScope ["self", "groups", "part"] ["self"] (defScope sLetters) := ⟨rfl, rfl, rfl, by decide +kernel, rfl, by decide +kernel, by decide +kernel⟩
theorem sum_le (l : List Str) (m : Nat) (h : ∀ x ∈ l, x.length ≤ m) : (l.map (·.length)).sum ≤ l.length * m := by
  induction l with
  | nil => exact Nat.zero_le _
  | cons x l ih =>
    have h1 := h x List.mem_cons_self
    have h2 := ih fun y hy => h y (List.mem_cons_of_mem _ hy)
    show x.length + (l.map (·.length)).sum ≤ (l.length + 1) * m
    rw [Nat.succ_mul]
    omega
theorem sh_parts : ∀ (t : Tr), Sh t → ∀ u ∈ t.parts, Sh u
  | .tru b, h, u, hu => by rw [List.mem_singleton.mp hu]; exact h
  | .fact n, h, u, hu => by rw [List.mem_singleton.mp hu]; exact h
  | .neg t, h, u, hu => by
    rcases List.mem_cons.mp hu with rfl | q
    · exact h
    · exact sh_parts t h u q
  | .bin a l r, h, u, hu => by
    rcases List.mem_cons.mp hu with rfl | q
    · exact h
    · rcases List.mem_append.mp q with q | q
      · exact sh_parts l h.1 u q
      · exact sh_parts r h.2 u q
  | .md k g t, h, u, hu => by
    rcases List.mem_cons.mp hu with rfl | q
    · exact h
    · exact sh_parts t h.2 u q
theorem groupL_len (t : Tr) : (groupL t).length ≤ t.size := by
  unfold groupL
  rw [List.length_map, ← parts_len]
  exact List.length_filter_le _ _
theorem groupL_sh (t : Tr) (h : Sh t) : ∀ x ∈ groupL t, x.length ≤ 8 := fun x hx => by
  obtain ⟨u, hu, rfl⟩ := List.mem_map.mp hx
  obtain ⟨h1, h2⟩ := List.mem_filter.mp hu
  have hs := sh_parts t h u h1
  cases u with
  | md k g t => exact hs.1
  | _ => cases h2
theorem join_len (l : List Str) : (Txt.join ("" : Str) l).length = (l.map (·.length)).sum := by
  rw [← cl_len, txt_join0, List.length_flatMap]
  congr 1
theorem nodup_len {α : Type} [DecidableEq α] : ∀ {l m : List α}, l.Nodup → (∀ x ∈ l, x ∈ m) → l.length ≤ m.length
  | [], _, _, _ => Nat.zero_le _
  | x :: l, m, nd, h => by
    obtain ⟨n1, n2⟩ := List.nodup_cons.mp nd
    have hx := h x List.mem_cons_self
    have ih := nodup_len (m := m.erase x) n2 fun y hy => (List.mem_erase_of_ne (fun (e : y = x) => n1 (by rw [← e]; exact hy))).mpr (h y (List.mem_cons_of_mem _ hy))
    rw [List.length_erase_of_mem hx] at ih
    have := List.length_pos_of_mem hx
    show l.length + 1 ≤ m.length
    omega
theorem ok_letters {f : Addr} {fd : FuncData} (G : Fun K "letters" "Saying.letters" sLetters f fd) (hm : Nm2 mg) (hso : mg "sorted" = none) (hse : mg "set" = none) (hK : HasF P w K mg base T CX0 "is_knowing" 1 ["saying"] (spIsK c)) (A : SayAll K fS c) (I : SayI K c) (hP : SayM P w K mg base T c "parts" 1 (spParts c)) : FnOk P w K mg base CX0 2 f fd ["self"] (spOf K T (spLetters c)) := by
  refine fnD G scLetters (fun ds w κ χ h => ?_) (fun cdv A' outer s H E ds w0 κ χ hr h => ?_)
  · obtain ⟨t, rfl, _⟩ := h
    rfl
  obtain ⟨t, rfl, hz, hsh, hlow, k⟩ := h
  have nd := scLetters.nd
  have gl := groupL_len t
  have gs := sum_le (groupL t) 8 (groupL_sh t hsh)
  have jl := join_len (groupL t)
  have cl8 : (chars (Txt.join ("" : Str) (groupL t))).length = (Txt.join ("" : Str) (groupL t)).length := by
    unfold chars
    rw [List.length_map]
    exact cl_len _
  have g8 : (gather [] (chars (Txt.join ("" : Str) (groupL t)))).length ≤ 8 := by
    have nd8 := gather_nodup (chars (Txt.join ("" : Str) (groupL t))) [] List.nodup_nil
    have sub : (gather [] (chars (Txt.join ("" : Str) (groupL t)))) ⊆ ((cl ahT).map letS) := fun z hz => by
      rw [gather_mem] at hz
      rcases hz with hz | hz
      · cases hz
      · obtain ⟨ch, hc, rfl⟩ := List.mem_map.mp hz
        have hc' : ch ∈ cl (Txt.join ("" : Str) (groupL t)) := hc
        rw [txt_join0] at hc'
        obtain ⟨x, hx, hcx⟩ := List.mem_flatMap.mp hc'
        obtain ⟨b1, b2⟩ := hlow x hx ch hcx
        refine List.mem_map.mpr ⟨ch, ?_, rfl⟩
        rw [ah_cl]
        have : ch = 97 ∨ ch = 98 ∨ ch = 99 ∨ ch = 100 ∨ ch = 101 ∨ ch = 102 ∨ ch = 103 ∨ ch = 104 := by omega
        simpa using this
    have := nodup_len nd8 sub
    rw [List.length_map, ah_cl] at this
    exact this
  refine pssd_cons ?_
  refine psd_setLc (i := 1) (own := [("part", 2)]) (is := [2]) rfl nd rfl rfl (sw_true rfl rfl rfl (by decide +kernel)) (blkOk_by rfl) (by decide) ?_
  refine it_list ?_
  refine pd_frz ?_
  refine pd_hasm0 (A t).cl (hP t) hr (fun _ => pass0At) ?_
  refine pd_var (i := 0) rfl rfl ?_
  refine ⟨say_ins (K := K) t _ (by decide +kernel), t, rfl, by omega, fun a na => ?_⟩
  refine ⟨a, _, rfl, wu_same, ?_⟩
  rw [wd_wu na]
  refine ⟨_, rfl, ?_⟩
  refine lcd_filter Tr.isMd (fun u => DL.T (u.grp.getD "")) (small1000 (by rw [parts_len]; omega)) (fun u hu s2 H0 C1 cl1 fp1 => ?_) ?_
  · refine pgl_name (i := 2) nd rfl ?_
    intro s3 H0 C1 cl1 fp1
    refine ptsd_one ?_
    refine ptd_val ?_
    refine pd_has hK hr (fun _ => pass0At) ?_
    (refine pad_cons ?_; refine pd_var (i := 2) rfl rfl ?_)
    refine pad_nil ⟨u, rfl, _, rfl, ?_⟩
    cases u with
    | md k g v =>
      refine iteT ?_
      intro s4 H0 C1 cl1 fp1
      refine pd_fld (A (.md k g v)).cl (I.ng k) ?_
      refine pd_var (i := 2) rfl rfl ?_
      exact ⟨_, say_group, rfl, rfl, rfl⟩
    | _ => exact iteF ⟨rfl, rfl⟩
  have eg : (t.parts.filter Tr.isMd).map (fun u => DL.T (u.grp.getD "")) = (groupL t).map DL.T := by
    unfold groupL
    rw [List.map_map]
    rfl
  rw [eg]
  refine pssd_one (psd_ret ?_)
  refine pd_bm PySem.F.plainAttrs_str PySem.F.slot_str_join PySem.F.type_str_join mt_join ?_
  refine pd_str ?_
  refine ⟨rfl, ?_⟩
  refine pad_cons ?_
  refine pd_sortSetT rfl hso hse ?_
  refine pd_bm PySem.F.plainAttrs_str PySem.F.slot_str_join PySem.F.type_str_join mt_join ?_
  refine pd_str ?_
  refine ⟨rfl, ?_⟩
  (refine pad_cons ?_; refine pd_var (i := 1) rfl rfl ?_)
  refine pad_nil ?_
  refine vm_join (by show _ + _ * 0 ≤ _; omega) ?_
  refine ⟨_, .inl ⟨_, rfl, rfl⟩, by rw [cl8, jl]; omega, by omega, fun ys hy hs => ?_⟩
  refine pad_nil ?_
  have yl := hy.length_eq
  have y1 : ∀ x ∈ ys, x.length ≤ 1 := fun x hx => by
    have h := hy.mem_iff.mp hx
    rw [gather_mem] at h
    rcases h with h | h
    · cases h
    · obtain ⟨ch, _, rfl⟩ := List.mem_map.mp h
      exact Nat.le_refl _
  have ys1 := sum_le ys 1 y1
  refine vm_join (by show _ + _ * 0 ≤ _; omega) ?_
  exact k ys hy hs
end
end Tw

set_option Elab.async false
set_option linter.all false
set_option maxRecDepth 100000
set_option maxHeartbeats 2000000
/-! plain, depth, positive, len; the operators of sayings. -/
namespace Tw
open PySem PySem.Spec PyProof.Rows L2 LamX DL
/-- the greatest of what the entries reach -/
def dmax (l : List (Tr × Nat)) : Nat := l.foldr (fun p m => max (p.2 + p.1.depth) m) 0
theorem dmax_app (a b : List (Tr × Nat)) : dmax (a ++ b) = max (dmax a) (dmax b) := by
  induction a with
  | nil => simp [dmax]
  | cons p a ih =>
    show max _ (dmax (a ++ b)) = max (max _ (dmax a)) _
    rw [ih, Nat.max_assoc]
def mdN (t : Tr) : Nat := if t.isMd then 1 else 0
theorem dmax_step (t : Tr) (d : Nat) : d + t.depth = max (d + mdN t) (dmax (t.subs.map fun u => (u, d + mdN t))) := by
  cases t with
  | tru b => simp [Tr.depth, mdN, Tr.isMd, Tr.subs, dmax]
  | fact n => simp [Tr.depth, mdN, Tr.isMd, Tr.subs, dmax]
  | neg t => simp [Tr.depth, mdN, Tr.isMd, Tr.subs, dmax]
  | bin a l r => simp only [Tr.depth, mdN, Tr.isMd, Tr.subs, dmax, List.map_cons, List.map_nil, List.foldr]; simp; try omega
  | md k g t => simp only [Tr.depth, mdN, Tr.isMd, Tr.subs, dmax, List.map_cons, List.map_nil, List.foldr]; simp; try omega
def ent (c : SC) (p : Tr × Nat) : D := .tup [sayD c p.1, I (p.2 : Int)]
section
variable {P : Program} {w : PySem.World} {K : PySem.W.Frag} {mg : Str → Option Value} {base : Heap} {T : List (Addr × Str)} {c : SC} {cS fS : Addr}
theorem scPlain : FnScope ["self", "part"] ["self"] (defScope sPlain) := ⟨rfl, rfl, rfl, by decide +kernel, rfl, by decide +kernel, by decide +kernel⟩
theorem ok_plain {f : Addr} {fd : FuncData} (G : Fun K "plain" "Saying.plain" sPlain f fd) (hany : mg "any" = none) (hK : HasF P w K mg base T CX0 "is_knowing" 1 ["saying"] (spIsK c)) (A : SayAll K fS c) (hP : SayM P w K mg base T c "parts" 1 (spParts c)) : FnOk P w K mg base CX0 2 f fd ["self"] (spOf K T (spPlain c)) := by
  refine fnD G scPlain (fun ds w κ χ h => ?_) (fun cdv A' outer s H E ds w0 κ χ hr h => ?_)
  · obtain ⟨t, rfl, _⟩ := h
    rfl
  obtain ⟨t, rfl, hz, k⟩ := h
  have nd := scPlain.nd
  refine pssd_one (psd_ret ?_)
  refine pd_not ?_
  refine pd_callB (cr_any rfl) rfl hany bt_anyB ?_
  refine pad_cons ?_
  refine pd_lc (own := [("part", 1)]) (is := [1]) rfl nd (blkOk_by rfl) (by decide) ?_
  refine it_list ?_
  refine pd_frz ?_
  refine pd_hasm0 (A t).cl (hP t) hr (fun _ => pass0At) ?_
  refine pd_var (i := 0) rfl rfl ?_
  refine ⟨say_ins (K := K) t _ (by decide +kernel), t, rfl, by omega, fun a na => ?_⟩
  refine ⟨a, _, rfl, wu_same, ?_⟩
  rw [wd_wu na]
  refine ⟨_, rfl, ?_⟩
  refine lcd_map (fun u => B u.isMd) (small1000 (by rw [parts_len]; omega)) (fun u hu s2 H0 C1 cl1 fp1 => ?_) ?_
  · refine pgl_name (i := 1) nd rfl ?_
    intro s3 H0 C1 cl1 fp1
    refine ptsd_nil ?_
    intro s3 H0 C1 cl1 fp1
    refine pd_has hK hr (fun _ => pass0At) ?_
    (refine pad_cons ?_; refine pd_var (i := 1) rfl rfl ?_)
    exact pad_nil ⟨u, rfl, rfl, rfl, rfl⟩
  refine pad_nil ?_
  have em : t.parts.map (fun u => B u.isMd) = (t.parts.map Tr.isMd).map B := by
    rw [List.map_map]
    rfl
  rw [em]
  refine va_anyB ?_
  rw [List.any_map]
  exact ⟨_, rfl, k⟩
theorem scDepth : FnScope ["self", "deepest", "waiting", "part", "depth", "inner"] ["self"] (defScope sDepth) := ⟨rfl, rfl, rfl, by decide +kernel, rfl, by decide +kernel, by decide +kernel⟩
theorem ok_depth {f : Addr} {fd : FuncData} (G : Fun K "depth" "Saying.depth" sDepth f fd) (hmax : mg "max" = none) (hK : HasF P w K mg base T CX0 "is_knowing" 1 ["saying"] (spIsK c)) (A : SayAll K fS c) : FnOk P w K mg base CX0 2 f fd ["self"] (spOf K T (spDepth c)) := by
  refine fnD G scDepth (fun ds w κ χ h => ?_) (fun cdv A' outer s H E ds w0 κ χ hr h => ?_)
  · obtain ⟨t, rfl, _⟩ := h
    rfl
  obtain ⟨t, rfl, hz, k⟩ := h
  have nd := scDepth.nd
  have h500 : (500 : Nat) ≤ sizeLine := by decide
  refine pssd_cons (psd_set (i := 1) nd rfl ?_)
  refine pd_int ?_
  refine pssd_cons (psd_set (i := 2) nd rfl ?_)
  refine pd_lstO ?_
  refine pad_cons ?_
  refine pd_tup ?_
  (refine pad_cons ?_; refine pd_var (i := 0) rfl rfl ?_)
  refine pad_cons (pd_int ?_)
  refine pad_nil ⟨by show 2 ≤ sizeLine; decide, ?_⟩
  refine pad_nil ⟨by show 1 ≤ sizeLine; decide, fun b nb => ?_⟩
  refine pssd_cons (psd_while PassesOwn.never (fun m δ' w' => ∃ (mx : Nat) (wa : List (Tr × Nat)) (x y z : Option D), δ' = [some (sayD c t), some (I (mx : Int)), some (R b), x, y, z] ∧ w' = wu w0 b (.lst (wa.map (ent c))) ∧ max mx (dmax wa) = t.depth ∧ szs (wa.map (·.1)) ≤ 60 ∧ m = szs (wa.map (·.1))) ?_ ?_)
  · refine ⟨_, 0, [(t, 0)], none, none, none, rfl, rfl, ?_, ?_, rfl⟩
    · simp [dmax]
    · simp [szs]
      omega
  · rintro m δ' w' ⟨mx, wa, x, y, z, rfl, rfl, hp, hs, rfl⟩
    refine ptd_lst ?_
    refine pd_var (i := 2) rfl rfl ?_
    refine ⟨wa.map (ent c), .inr ⟨b, rfl, wu_same⟩, ?_⟩
    rcases List.eq_nil_or_concat wa with rfl | ⟨ws, u, rfl⟩
    · have e0 : mx = t.depth := by
        rw [← hp]
        simp [dmax]
      subst e0
      refine iteF (?_)
      refine pssd_one (psd_ret ?_)
      refine pd_drop ?_
      refine pd_var (i := 1) rfl rfl ?_
      refine ⟨b, ?_⟩
      rw [wd_wu nb]
      exact k
    · rw [List.concat_eq_append] at hp hs ⊢
      obtain ⟨u, d⟩ := u
      have ne : (!(((ws ++ [(u, d)]).map (ent c)).isEmpty)) = true := by simp
      rw [ne]
      refine iteT (?_)
      rw [List.map_append, szs_app] at hs
      rw [dmax_app] at hp
      have sz1 : szs ([(u, d)].map (·.1)) = u.size := by simp [szs]
      have d1 : dmax [(u, d)] = d + u.depth := by simp [dmax]
      have su := size_pos u
      have sb := size_below u
      have bl := below_len u
      have wl2 := szs_len (ws.map (·.1))
      rw [List.length_map] at wl2
      refine pssd_cons (psd_asgT ?_)
      refine pd_bm0 PySem.F.plainAttrs_list PySem.F.slot_list_pop PySem.F.type_list_pop mt_pop ?_
      refine pd_var (i := 2) rfl rfl ?_
      refine ⟨⟨rfl, _, wu_same⟩, vm_pop wu_same (map_last _ _ _) ?_⟩
      rw [map_front, wu_wu]
      refine PGL.pgd (is := [3, 4]) ?_
      refine pgl_two rfl (pgl_name (i := 3) nd rfl (pgl_name (i := 4) nd rfl ?_))
      let J : Dn → Wp → Prop := fun δ2 w2 => ∃ m', m' < szs ((ws ++ [(u, d)]).map (·.1)) ∧ ∃ (mx : Nat) (wa : List (Tr × Nat)) (x y z : Option D), δ2 = [some (sayD c t), some (I (mx : Int)), some (R b), x, y, z] ∧ w2 = wu w0 b (.lst (wa.map (ent c))) ∧ max mx (dmax wa) = t.depth ∧ szs (wa.map (·.1)) ≤ 60 ∧ m' = szs (wa.map (·.1))
      have rest : ∀ (d2 : Nat) (Fi : DL.Fin), (∀ δ2 w2, J δ2 w2 → Fi.nx δ2 w2) → d2 = d + mdN u → PSsD (cxOf CX0 P w K mg base ["self", "deepest", "waiting", "part", "depth", "inner"] "Saying.depth" (defScope sDepth) f cdv A' outer s H E).nox T Wf noX (((match (defBody sDepth).getD 2 (.Pass ⟨0, 0, 0, 0⟩) with | .While _ b _ _ => b | _ => []).drop 2))
          [some (sayD c t), some (I (mx : Int)), some (R b), some (sayD c u), some (I (d2 : Int)), z] (wu w0 b (.lst (ws.map (ent c)))) Fi := by
        intro d2 Fi hF hd2
        refine pssd_cons (psd_set (i := 1) nd rfl ?_)
        refine pd_callB (call_max2 rfl) rfl hmax bt_max ?_
        (refine pad_cons ?_; refine pd_var (i := 1) rfl rfl ?_)
        (refine pad_cons ?_; refine pd_var (i := 4) rfl rfl ?_)
        refine pad_nil ?_
        refine va_max2 ?_
        have em : (if (d2 : Int) > (mx : Int) then (d2 : Int) else (mx : Int)) = ((max mx d2 : Nat) : Int) := by
          split <;> omega
        rw [em]
        refine pssd_one (psd_expr ?_)
        refine pd_bm PySem.F.plainAttrs_list PySem.F.slot_list_extend PySem.F.type_list_extend mt_extend ?_
        refine pd_var (i := 2) rfl rfl ?_
        refine ⟨⟨rfl, _, wu_same⟩, ?_⟩
        refine pad_cons ?_
        refine pd_lc (own := [("inner", 5)]) (is := [5]) rfl nd (blkOk_by rfl) (by decide) ?_
        refine it_list ?_
        refine pd_fld (A u).cl (A u).nB ?_
        refine pd_var (i := 3) rfl rfl ?_
        refine ⟨_, say_below, _, rfl, ?_⟩
        refine lcd_map (fun v => ent c (v, d2)) (small1000 (by omega)) (fun v hv s2 H0 C1 cl1 fp1 => ?_) ?_
        · refine pgl_name (i := 5) nd rfl ?_
          intro s3 H0 C1 cl1 fp1
          refine ptsd_nil ?_
          intro s3 H0 C1 cl1 fp1
          refine pd_tup ?_
          (refine pad_cons ?_; refine pd_var (i := 5) rfl rfl ?_)
          (refine pad_cons ?_; refine pd_var (i := 4) rfl rfl ?_)
          exact pad_nil ⟨by show 2 ≤ sizeLine; decide, rfl, rfl, rfl⟩
        have e1 : u.subs.map (fun v => ent c (v, d2)) = (u.subs.map fun v => (v, d2)).map (ent c) := by
          rw [List.map_map]
          rfl
        rw [e1]
        refine pad_nil (vm_extend wu_same (by rw [List.length_map, List.length_map, List.length_map]; omega) ?_)
        rw [wu_wu, ← List.map_append]
        have e2 : (ws ++ u.subs.map fun v => (v, d2)).map (·.1) = ws.map (·.1) ++ u.subs := by
          rw [List.map_append, List.map_map]
          congr 1
          exact List.map_id' _
        refine hF _ _ ⟨szs ((ws ++ u.subs.map fun v => (v, d2)).map (·.1)), by rw [e2, szs_app, List.map_append, szs_app, sz1]; omega, _, _, _, _, _, rfl, rfl, ?_, by rw [e2, szs_app]; omega, rfl⟩
        rw [dmax_app, ← hp, d1, dmax_step u d, ← hd2]
        omega
      refine pssd_cons (psd_if ?_)
      refine ptd_val ?_
      refine pd_has hK hr (fun _ => pass0At) ?_
      (refine pad_cons ?_; refine pd_var (i := 3) rfl rfl ?_)
      refine pad_nil ⟨u, rfl, _, rfl, ?_⟩
      cases q : u.isMd with
      | true =>
        refine iteT ?_
        refine pssd_one (psd_augI (i := 4) nd rfl rfl ?_)
        refine pd_int ⟨1, rfl, ?_⟩
        have e3 : (d : Int) + 1 = ((d + 1 : Nat) : Int) := by omega
        rw [e3]
        exact rest (d + 1) _ (fun _ _ j => j) (by unfold mdN; rw [q]; rfl)
      | false =>
        refine iteF ?_
        refine pssd_nil ?_
        exact rest d _ (fun _ _ j => j) (by unfold mdN; rw [q]; rfl)
end
end Tw

set_option Elab.async false
set_option linter.all false
set_option maxRecDepth 100000
set_option maxHeartbeats 2000000
/-! positive, len, operators, nested. -/
namespace Tw
open PySem PySem.Spec PyProof.Rows L2 LamX DL
abbrev sNested : Stmt := top 21
def nestT (g : Str) (t : Tr) : Nat → Tr
  | 0 => t
  | n + 1 => .md .kn g (nestT g t n)
theorem nest_size (g : Str) (t : Tr) : ∀ n, (nestT g t n).size = t.size + n
  | 0 => rfl
  | n + 1 => by
    show (nestT g t n).size + 1 = _
    rw [nest_size g t n]
    omega
theorem nest_sh {g : Str} {t : Tr} (hg : g.length ≤ 8) (h : Sh t) : ∀ n, Sh (nestT g t n)
  | 0 => h
  | n + 1 => ⟨hg, nest_sh hg h n⟩
def spInvt (c : SC) : SpD := fun ds w κ χ => ∃ t : Tr, ds = [sayD c t] ∧ Sh t ∧ t.size ≤ 400 ∧ κ (sayD c (.neg t)) w
def spBinM (c : SC) (q : Bool) : SpD := fun ds w κ χ => ∃ l r : Tr, ds = [sayD c l, sayD c r] ∧ Sh l ∧ Sh r ∧ l.size ≤ 400 ∧ r.size ≤ 400 ∧ κ (sayD c (.bin q l r)) w
def spNested (c : SC) (CG CC : Addr) : SpD := fun ds w κ χ => ∃ (g : Str) (t : Tr) (n : Int), ds = [DL.T g, sayD c t, I n] ∧ g.length ≤ 900 ∧ Sh t ∧ t.size ≤ 400 ∧ (¬ GroupOk g → Okc g ∧ χ CG ["group"] [DL.T g] w) ∧ (GroupOk g → (n < 0 ∨ 12 < n) → n.natAbs.log2 < 1920 ∧ χ CC ["count"] [I n] w) ∧
  (GroupOk g → ∀ m : Nat, n = (m : Int) → m ≤ 12 → κ (sayD c (nestT g t m)) w)
section
variable {P : Program} {w : PySem.World} {K : PySem.W.Frag} {mg : Str → Option Value} {base : Heap} {T : List (Addr × Str)} {c : SC} {cS fS CG CC : Addr}
theorem scPosi : FnScope ["self", "part"] ["self"] (defScope sPosi) := ⟨rfl, rfl, rfl, by decide +kernel, rfl, by decide +kernel, by decide +kernel⟩
def isNW : Tr → Bool
  | .neg _ => true
  | .md .wh _ _ => true
  | _ => false
def innerP : Tr → Bool
  | .neg v => plainB v
  | .md .wh _ v => plainB v
  | _ => true
theorem pos_filter (l : List Tr) : ((l.filter isNW).map innerP).all id = l.all innerP := by
  induction l with
  | nil => rfl
  | cons u l ih =>
    rw [List.filter_cons, List.all_cons, ← ih]
    cases u with
    | neg v => rfl
    | md k g v => cases k <;> rfl
    | _ => rfl
theorem posB_eq (t : Tr) : posB t = t.parts.all innerP := by
  unfold posB
  congr 1
theorem kit_nw (Q : SayQ K c cS) (t : Tr) : PySem.W.kitAny K (.ref (c.of t)) ([c.cN, c.cW].map Value.ref) = some (isNW t) := by
  have h := kit_any (K := K) (t := .ref (c.of t)) (Cs := [c.cN, c.cW]) (bs := [decide (t.kd = .ne), decide (t.kd = .wh)]) (by
    have h1 : PySem.W.kitOne K (.ref (c.of t)) (.ref c.cN) = _ := Q.one t .ne
    have h2 : PySem.W.kitOne K (.ref (c.of t)) (.ref c.cW) = _ := Q.one t .wh
    show [PySem.W.kitOne K (.ref (c.of t)) (.ref c.cN), PySem.W.kitOne K (.ref (c.of t)) (.ref c.cW)] = _
    rw [h1, h2]
    rfl)
  rw [h]
  cases t with
  | bin a l r => cases a <;> rfl
  | md k g t => cases k <;> rfl
  | _ => rfl
theorem ok_posi {f : Addr} {fd : FuncData} (G : Fun K "positive" "Saying.positive" sPosi f fd) (hm : Nm2 mg) (hall : mg "all" = none) (hs : NmS mg c cS) (Q : SayQ K c cS) (A : SayAll K fS c) (I : SayI K c) (hP : SayM P w K mg base T c "parts" 1 (spParts c)) (hPl : SayP P w K mg base T c "plain" 2 (spPlain c)) : FnOk P w K mg base CX0 4 f fd ["self"] (spOf K T (spPosi c)) := by
  refine fnD G scPosi (fun ds w κ χ h => ?_) (fun cdv A' outer s H E ds w0 κ χ hr h => ?_)
  · obtain ⟨t, rfl, _⟩ := h
    rfl
  obtain ⟨t, rfl, hz, k⟩ := h
  have nd := scPosi.nd
  refine pssd_one (psd_ret ?_)
  refine pd_callB (cr_all rfl) rfl hall bt_all ?_
  refine pad_cons ?_
  refine pd_lc (own := [("part", 1)]) (is := [1]) rfl nd (blkOk_by rfl) (by decide) ?_
  refine it_list ?_
  refine pd_frz ?_
  refine pd_hasm0 (A t).cl (hP t) (hr.mono (by decide)) (fun _ => pass0At) ?_
  refine pd_var (i := 0) rfl rfl ?_
  refine ⟨say_ins (K := K) t _ (by decide +kernel), t, rfl, by omega, fun a na => ?_⟩
  refine ⟨a, _, rfl, wu_same, ?_⟩
  rw [wd_wu na]
  refine ⟨_, rfl, ?_⟩
  refine lcd_filter isNW (fun u => B (innerP u)) (small1000 (by rw [parts_len]; omega)) (fun u hu s2 H0 C1 cl1 fp1 => ?_) ?_
  · have smaller : ∀ v : Tr, v.size ≤ u.size → v.size ≤ 60 := fun v hv => by
      have hsz : ∀ (t u : Tr), u ∈ t.parts → u.size ≤ t.size := by
        intro t
        induction t with
        | tru b => intro u hu; rw [List.mem_singleton.mp hu]; exact Nat.le_refl _
        | fact n => intro u hu; rw [List.mem_singleton.mp hu]; exact Nat.le_refl _
        | neg t ih =>
          intro u hu
          rcases List.mem_cons.mp hu with rfl | q
          · exact Nat.le_refl _
          · exact Nat.le_succ_of_le (ih u q)
        | bin a l r il ir =>
          intro u hu
          rcases List.mem_cons.mp hu with rfl | q
          · exact Nat.le_refl _
          · show u.size ≤ l.size + r.size + 1
            rcases List.mem_append.mp q with q | q
            · have := il u q
              omega
            · have := ir u q
              omega
        | md k g t ih =>
          intro u hu
          rcases List.mem_cons.mp hu with rfl | q
          · exact Nat.le_refl _
          · exact Nat.le_succ_of_le (ih u q)
      have := hsz t u hu
      omega
    refine pgl_name (i := 1) nd rfl ?_
    intro s3 H0 C1 cl1 fp1
    refine ptsd_one ?_
    refine ptd_val ?_
    refine pd_callB call_isiT rfl hm.isinstance PyProof.Rows.boot_isinstance ?_
    (refine pad_cons ?_; refine pd_var (i := 1) rfl rfl ?_)
    refine pad_cons ?_
    refine pd_tup ?_
    refine pad_cons (pd_glob (v := .ref c.cN) hs.mN rfl ?_)
    refine pad_cons (pd_glob (v := .ref c.cW) hs.mW rfl ?_)
    refine pad_nil ⟨by show 2 ≤ sizeLine; decide, ?_⟩
    refine pad_nil ?_
    refine va_isT (Cs := [c.cN, c.cW]) (say_ty Q u) (kit_nw Q u) ⟨_, rfl, ?_⟩
    cases u with
    | neg v =>
      refine iteT ?_
      intro s4 H0 C1 cl1 fp1
      obtain ⟨p, gp, fdp, hp, G2, hb⟩ := hPl v
      refine pd_prop (A v).cl hp G2 (hr.mono (by decide)) hb ?_
      refine pd_fld (A (.neg v)).cl I.ni ?_
      refine pd_var (i := 1) rfl rfl ?_
      refine ⟨_, say_innerN, say_is c v, v, rfl, smaller v (Nat.le_succ _), rfl, rfl, rfl⟩
    | md k g v =>
      cases k with
      | wh =>
        refine iteT ?_
        intro s4 H0 C1 cl1 fp1
        obtain ⟨p, gp, fdp, hp, G2, hb⟩ := hPl v
        refine pd_prop (A v).cl hp G2 (hr.mono (by decide)) hb ?_
        refine pd_fld (A (.md .wh g v)).cl (I.nj .wh) ?_
        refine pd_var (i := 1) rfl rfl ?_
        exact ⟨_, say_inner, say_is c v, v, rfl, smaller v (Nat.le_succ _), rfl, rfl, rfl⟩
      | kn => exact iteF ⟨rfl, rfl⟩
      | co => exact iteF ⟨rfl, rfl⟩
    | tru b => exact iteF ⟨rfl, rfl⟩
    | fact n => exact iteF ⟨rfl, rfl⟩
    | bin a l r => exact iteF ⟨rfl, rfl⟩
  refine pad_nil ?_
  have em : (t.parts.filter isNW).map (fun u => B (innerP u)) = ((t.parts.filter isNW).map innerP).map B := by
    rw [List.map_map]
    rfl
  rw [em]
  refine va_all ?_
  rw [pos_filter, ← posB_eq]
  exact k
theorem scLenM : FnScope ["self"] ["self"] (defScope sLenM) := ⟨rfl, rfl, rfl, by decide +kernel, rfl, by decide +kernel, by decide +kernel⟩
theorem ok_lenM {f : Addr} {fd : FuncData} (G : Fun K "__len__" "Saying.__len__" sLenM f fd) (hm : Nm2 mg) (A : SayAll K fS c) (hP : SayM P w K mg base T c "parts" 1 (spParts c)) : FnOk P w K mg base CX0 2 f fd ["self"] (spOf K T (spLenM c)) := by
  refine fnD G scLenM (fun ds w κ χ h => ?_) (fun cdv A' outer s H E ds w0 κ χ hr h => ?_)
  · obtain ⟨t, rfl, _⟩ := h
    rfl
  obtain ⟨t, rfl, hz, k⟩ := h
  refine pssd_one (psd_ret ?_)
  refine pd_callB call_len_seq rfl hm.len PySem.boot_len ?_
  refine pad_cons ?_
  refine pd_frz ?_
  refine pd_hasm0 (A t).cl (hP t) hr (fun _ => pass0At) ?_
  refine pd_var (i := 0) rfl rfl ?_
  refine ⟨say_ins (K := K) t _ (by decide +kernel), t, rfl, by omega, fun a na => ?_⟩
  refine ⟨a, _, rfl, wu_same, ?_⟩
  rw [wd_wu na]
  refine pad_nil ?_
  refine va_len ?_
  rw [List.length_map, parts_len]
  exact k
theorem scInvt : FnScope ["self"] ["self"] (defScope sInvt) := ⟨rfl, rfl, rfl, by decide +kernel, rfl, by decide +kernel, by decide +kernel⟩
theorem ok_invt {f : Addr} {fd : FuncData} (G : Fun K "__invert__" "Saying.__invert__" sInvt f fd) (hN : HasMk P w K mg base T CX0 "Not" c.cN 5 ["self", "inner"] (spIN c)) : FnOk P w K mg base CX0 7 f fd ["self"] (spOf K T (spInvt c)) := by
  refine fnD G scInvt (fun ds w κ χ h => ?_) (fun cdv A' outer s H E ds w0 κ χ hr h => ?_)
  · obtain ⟨t, rfl, _⟩ := h
    rfl
  obtain ⟨t, rfl, hs, hz, k⟩ := h
  refine pssd_one (psd_ret ?_)
  refine pd_hasmk hN hr (fun _ => pass0At) ?_
  (refine pad_cons ?_; refine pd_var (i := 0) rfl rfl ?_)
  refine pad_nil fun a dx na => ?_
  refine ⟨a, dx, t, rfl, wu_same, hs, by omega, rfl, _, _, wu_same, ?_⟩
  rw [wu_wu, wd_wu na]
  exact k
theorem scAndM : FnScope ["self", "other"] ["self", "other"] (defScope sAndM) := ⟨rfl, rfl, rfl, by decide +kernel, rfl, by decide +kernel, by decide +kernel⟩
theorem ok_andM {f : Addr} {fd : FuncData} (G : Fun K "__and__" "Saying.__and__" sAndM f fd) (hN : HasMk P w K mg base T CX0 "And" c.cA 5 ["self", "first", "second"] (spIB c true)) : FnOk P w K mg base CX0 7 f fd ["self", "other"] (spOf K T (spBinM c true)) := by
  refine fnD G scAndM (fun ds w κ χ h => ?_) (fun cdv A' outer s H E ds w0 κ χ hr h => ?_)
  · obtain ⟨l, r, rfl, _⟩ := h
    rfl
  obtain ⟨l, r, rfl, hl, hr2, zl, zr, k⟩ := h
  refine pssd_one (psd_ret ?_)
  refine pd_hasmk hN hr (fun _ => pass0At) ?_
  (refine pad_cons ?_; refine pd_var (i := 0) rfl rfl ?_)
  (refine pad_cons ?_; refine pd_var (i := 1) rfl rfl ?_)
  refine pad_nil fun a dx na => ?_
  refine ⟨a, dx, l, r, rfl, wu_same, hl, hr2, by omega, by omega, rfl, _, _, wu_same, ?_⟩
  rw [wu_wu, wd_wu na]
  exact k
theorem scOrM : FnScope ["self", "other"] ["self", "other"] (defScope sOrM) := ⟨rfl, rfl, rfl, by decide +kernel, rfl, by decide +kernel, by decide +kernel⟩
theorem ok_orM {f : Addr} {fd : FuncData} (G : Fun K "__or__" "Saying.__or__" sOrM f fd) (hN : HasMk P w K mg base T CX0 "Or" c.cO 5 ["self", "first", "second"] (spIB c false)) : FnOk P w K mg base CX0 7 f fd ["self", "other"] (spOf K T (spBinM c false)) := by
  refine fnD G scOrM (fun ds w κ χ h => ?_) (fun cdv A' outer s H E ds w0 κ χ hr h => ?_)
  · obtain ⟨l, r, rfl, _⟩ := h
    rfl
  obtain ⟨l, r, rfl, hl, hr2, zl, zr, k⟩ := h
  refine pssd_one (psd_ret ?_)
  refine pd_hasmk hN hr (fun _ => pass0At) ?_
  (refine pad_cons ?_; refine pd_var (i := 0) rfl rfl ?_)
  (refine pad_cons ?_; refine pd_var (i := 1) rfl rfl ?_)
  refine pad_nil fun a dx na => ?_
  refine ⟨a, dx, l, r, rfl, wu_same, hl, hr2, by omega, by omega, rfl, _, _, wu_same, ?_⟩
  rw [wu_wu, wd_wu na]
  exact k
theorem scNested : FnScope ["group", "saying", "count", "result", "_"] ["group", "saying", "count"] (defScope sNested) := ⟨rfl, rfl, rfl, by decide +kernel, rfl, by decide +kernel, by decide +kernel⟩
theorem ok_nested {f : Addr} {fd : FuncData} {u : Value} (G : Fun K "nested" "nested" sNested f fd) (hM : mg "MOST_NESTED" = some u) (hu : RelV (V.int 12) u) (hrg : mg "range" = none) (hG : HasF P w K mg base T (L2.CX P w) "check_group" 3 ["group"] (spCkG CG)) (hE : HasE P w K mg base "BadCount" CC 1 "count")
    (hK : HasMk P w K mg base T (L2.CX P w) "Knows" c.cK 5 ["self", "group", "inner"] (spIM c .kn CG)) : FnOk P w K mg base (L2.CX P w) 7 f fd ["group", "saying", "count"] (spOf K T (spNested c CG CC)) := by
  refine fnX G scNested (fun ds w κ χ h => ?_) (fun cdv A' outer s H E ds w0 κ χ hr h => ?_)
  · obtain ⟨g, t, n, rfl, _⟩ := h
    rfl
  obtain ⟨g, t, n, rfl, hg, hs, hz, k1, k2, k3⟩ := h
  have nd := scNested.nd
  refine pssd_cons (psd_expr ?_)
  refine pd_has hG (hr.mono (by decide)) passX ?_
  (refine pad_cons ?_; refine pd_var (i := 0) rfl rfl ?_)
  refine pad_nil ⟨g, rfl, hg, fun gok => ?_, k1⟩
  have out : ∀ (q : n < 0 ∨ 12 < n) (Fi : DL.Fin), PSsD (cxOf (L2.CX P w) P w K mg base ["group", "saying", "count", "result", "_"] "nested" (defScope sNested) f cdv A' outer s H E) T (fun cls d _ H => E cls d H) χ
      (match (defBody sNested).getD 1 (.Pass ⟨0, 0, 0, 0⟩) with | .If _ b _ _ => b | _ => []) [some (DL.T g), some (sayD c t), some (I n), none, none] w0 Fi := by
    intro q Fi
    refine pssd_one (psd_raiseH rfl takesX hE (hr.mono (by decide)) ?_)
    refine pd_var (i := 2) rfl rfl ?_
    exact ⟨n, rfl, (k2 gok q).1, (k2 gok q).2⟩
  refine pssd_cons (psd_if ?_)
  refine pwd_pt ?_
  refine pwd_or ?_
  refine ptd_cmp op_lt ?_
  refine pd_var (i := 2) rfl rfl ?_
  refine pd_int ?_
  refine vr_I ⟨_, rfl, ?_⟩
  refine ite2 (fun q => ?_) (fun q => ?_)
  · exact iteT (out (.inl (of_decide_eq_true q)) _)
  refine pwd_or1 ?_
  refine ptd_cmp op_gt ?_
  refine pd_var (i := 2) rfl rfl ?_
  refine pd_glob hM hu ?_
  refine vr_I ⟨_, rfl, ?_⟩
  refine ite2 (fun q2 => ?_) (fun q2 => ?_)
  · exact out (.inr (of_decide_eq_true q2)) _
  refine pssd_nil ?_
  have n0 : 0 ≤ n := by
    have : ¬ (n < 0) := by simpa using q
    omega
  have n12 : n ≤ 12 := by
    have : ¬ (n > 12) := by simpa using q2
    omega
  obtain ⟨m, rfl⟩ := Int.eq_ofNat_of_zero_le n0
  have m12 : m ≤ 12 := by omega
  have g8 := group_len gok
  refine pssd_cons (psd_set (i := 3) nd rfl ?_)
  refine pd_var (i := 1) rfl rfl ?_
  refine pssd_cons (psd_for (passes_of rfl) rfl ?_)
  refine it_range hrg ?_
  refine pd_var (i := 2) rfl rfl ?_
  refine ⟨m, rfl, by omega, ?_⟩
  refine ⟨fun i δ' w' => w' = w0 ∧ ∃ x, δ' = [some (DL.T g), some (sayD c t), some (I (m : Int)), some (sayD c (nestT g t i)), x], ⟨rfl, none, rfl⟩, ?_, ?_⟩
  · rintro i d δ' w' hd ⟨rfl, x, rfl⟩
    obtain ⟨hi, rfl⟩ := ups_at hd
    have ns := nest_size g t i
    refine pgd_name (i := 4) nd rfl ?_
    refine pssd_one (psd_set (i := 3) nd rfl ?_)
    refine pd_hasmk hK hr passX ?_
    (refine pad_cons ?_; refine pd_var (i := 0) rfl rfl ?_)
    (refine pad_cons ?_; refine pd_var (i := 3) rfl rfl ?_)
    refine pad_nil fun a dx na => ?_
    refine ⟨a, dx, g, nestT g t i, rfl, wu_same, hg, nest_sh g8 hs i, by omega, fun _ => ⟨rfl, _, _, wu_same, ?_⟩, fun no => absurd gok no⟩
    rw [wu_wu, wd_wu na]
    exact ⟨rfl, _, rfl⟩
  · rintro δ' w' ⟨rfl, x, rfl⟩
    rw [ups_len]
    refine pssd_one (psd_ret ?_)
    refine pd_var (i := 3) rfl rfl ?_
    exact k3 gok m rfl m12
end
end Tw

set_option Elab.async false
set_option linter.all false
set_option maxRecDepth 100000
set_option maxHeartbeats 2000000
/-! folded: from the last part to the first one. -/
namespace Tw
open PySem PySem.Spec PyProof.Rows L2 LamX DL
/-- the trees that lie behind the first k parts -/
def forest (t : Tr) : Nat → List Tr
  | 0 => [t]
  | k + 1 => match forest t k with
    | [] => []
    | u :: us => u.subs ++ us
theorem forest_parts (t : Tr) : ∀ k, t.parts.drop k = (forest t k).flatMap Tr.parts
  | 0 => by simp [forest]
  | k + 1 => by
    have ih := forest_parts t k
    have e : t.parts.drop (k + 1) = (t.parts.drop k).drop 1 := by rw [List.drop_drop]
    rw [e, ih]
    show _ = (match forest t k with | [] => [] | u :: us => u.subs ++ us).flatMap Tr.parts
    cases forest t k with
    | nil => rfl
    | cons u us =>
      rw [List.flatMap_cons, parts_below u]
      show (u.subs.flatMap Tr.parts ++ us.flatMap Tr.parts) = (u.subs ++ us).flatMap Tr.parts
      rw [List.flatMap_append]
theorem forest_at {t : Tr} {k : Nat} {u : Tr} (h : t.parts[k]? = some u) : ∃ us, forest t k = u :: us ∧ forest t (k + 1) = u.subs ++ us ∧ t.parts.drop k = u :: t.parts.drop (k + 1) := by
  have hk := (List.getElem?_eq_some_iff.mp h).1
  have e := List.drop_eq_getElem_cons hk
  have hu : t.parts[k] = u := (List.getElem?_eq_some_iff.mp h).2
  rw [hu] at e
  have fp := forest_parts t k
  cases f : forest t k with
  | nil =>
    rw [f, e] at fp
    cases fp
  | cons v us =>
    rw [f, e, List.flatMap_cons, parts_below v] at fp
    have fp' : u :: t.parts.drop (k + 1) = v :: (v.subs.flatMap Tr.parts ++ us.flatMap Tr.parts) := fp
    obtain ⟨rfl, _⟩ := List.cons.inj fp'
    refine ⟨us, rfl, ?_, e⟩
    show (match forest t k with | [] => [] | u :: us => u.subs ++ us) = _
    rw [f]
theorem forest_end (t : Tr) : forest t t.size = [] := by
  have fp := forest_parts t t.size
  rw [← parts_len, List.drop_length] at fp
  rw [← parts_len]
  cases f : forest t t.parts.length with
  | nil => rfl
  | cons u us =>
    rw [f, List.flatMap_cons, parts_below u] at fp
    cases fp
theorem forest_len (t : Tr) (k : Nat) : (forest t k).length ≤ t.size := by
  have h := congrArg List.length (forest_parts t k)
  rw [fm_len, List.length_drop, parts_len] at h
  have := szs_len (forest t k)
  omega
abbrev sFolded : Stmt := top 23
abbrev NFold : List Str := ["saying", "combine", "results", "waiting", "part", "below", "result", "_"]
/-- what the def asks of what it got -/
def spCmb (c : SC) (t : Tr) (g : Tr → D) : SpD := fun ds w κ χ => ∃ u : Tr, u ∈ t.parts ∧ ds = [sayD c u, .lst (u.subs.map g)] ∧ κ (g u) w
def spFold (c : SC) (t : Tr) (g : Tr → D) : SpD := fun ds w κ χ => ∃ L, ds = [sayD c t, L] ∧ t.size ≤ 500 ∧ κ (.lst (t.parts.map g)) w
section
variable {X : Cx} {T : List (Addr × Str)} {c : SC} {fS : Addr}
theorem scFold : FnScope NFold ["saying", "combine"] (defScope sFolded) := ⟨rfl, rfl, rfl, by decide +kernel, rfl, by decide +kernel, by decide +kernel⟩
theorem fold_body {g0 : Addr} {q : Str} {js : List Nat} {cs : List D} {k : Nat} (t : Tr) (g : Tr → D) (hrv : X.mg "reversed" = none) (A : SayAll X.K fS c) (hP : SayM X.prog X.w X.K X.mg X.base T c "parts" 1 (spParts c)) (cdg : Value) (f c' : Addr) (σ : L2.St) (s : Shared) (H : Hp) (E : XK) (d0 : D) (w : Wp) (κ : D → Wp → Prop) (χ : XD)
    (hr : Room (k + 1) (X.A.deeper (envOfC "folded" (defScope sFolded) s.heap.objs.size g0 cdg))) (act : ActD (gCx X NFold "folded" (defScope sFolded) g0 cdg s H E) T (fun cls d _ H => E cls d H) "combine" 1 2 (.cod f c' q σ js cs) (spCmb c t g)) (h : spFold c t g [d0, .cod f c' q σ js cs] w κ χ) :
    PSsD (gCx X NFold "folded" (defScope sFolded) g0 cdg s H E) T (fun cls d _ H => E cls d H) χ (defBody sFolded) (startD NFold [d0, .cod f c' q σ js cs]) w { nx := fun _ w' => κ DL.N w', rt := κ } := by
  obtain ⟨L, e, hz, k0⟩ := h
  have e1 : d0 = sayD c t := (List.cons.inj e).1
  subst e1
  have nd := scFold.nd
  have h500 : (500 : Nat) ≤ sizeLine := by decide
  refine pssd_cons (psd_set (i := 2) nd rfl ?_)
  refine pd_lstO ?_
  refine pad_nil ⟨Nat.zero_le _, fun a na => ?_⟩
  refine pssd_cons (psd_set (i := 3) nd rfl ?_)
  refine pd_lstO ?_
  refine pad_nil ⟨Nat.zero_le _, fun b nb => ?_⟩
  have ba : b ≠ a := fun z => by
    rw [z, wu_same] at nb
    cases nb
  have nb0 : w b = none := by rw [wu_ne ba] at nb; exact nb
  refine pssd_cons (psd_for (passes_of rfl) rfl ?_)
  refine it_rev hrv ?_
  refine pd_frz ?_
  refine pd_hasm0 (A t).cl (hP t) (hr.mono (by omega)) (fun _ => pass0At) ?_
  refine pd_var (i := 0) rfl rfl ?_
  refine ⟨say_ins (K := X.K) t _ (by decide +kernel), t, rfl, hz, fun a1 na1 => ?_⟩
  refine ⟨a1, _, rfl, wu_same, ?_⟩
  rw [wd_wu na1]
  refine ⟨_, rfl, ?_⟩
  refine ⟨fun i δ' w' => i ≤ t.size ∧ w' = wu (wu w a (.lst ((t.parts.drop (t.size - i)).reverse.map g))) b (.lst ((forest t (t.size - i)).reverse.map g)) ∧ ∃ x y z, δ' = [some (sayD c t), some (.cod f c' q σ js cs), some (R a), some (R b), x, y, z, none], ⟨Nat.zero_le _, ?_, none, none, none, rfl⟩, ?_, ?_⟩
  · rw [Nat.sub_zero, forest_end, ← parts_len, List.drop_length]
    rfl
  · rintro i d δ' w' hd ⟨_, rfl, x, y, z, rfl⟩
    rw [← List.map_reverse, List.getElem?_map] at hd
    cases e : t.parts.reverse[i]? with
    | none =>
      rw [e] at hd
      cases hd
    | some u =>
    rw [e] at hd
    cases hd
    have hi : i < t.size := by
      have := (List.getElem?_eq_some_iff.mp e).1
      rwa [List.length_reverse, parts_len] at this
    rw [List.getElem?_reverse (by rw [parts_len]; exact hi), parts_len] at e
    have ek : t.size - 1 - i = t.size - (i + 1) := by omega
    have ek1 : t.size - i = t.size - (i + 1) + 1 := by omega
    rw [ek] at e
    rw [ek1]
    generalize hk1 : t.size - (i + 1) = k1 at e
    obtain ⟨us, f1, f2, f3⟩ := forest_at e
    have uin := List.mem_of_getElem? e
    have fl1 := forest_len t (k1 + 1)
    have fl0 := forest_len t k1
    rw [f2, List.length_append] at fl1
    rw [f1] at fl0
    rw [f2]
    refine pgd_name (i := 4) nd rfl ?_
    refine pssd_cons ?_
    refine psd_setLc (i := 5) (own := [("_", 7)]) (is := [7]) rfl nd rfl rfl (sw_true rfl rfl rfl (by decide +kernel)) (blkOk_by rfl) (by decide) ?_
    refine it_list ?_
    refine pd_fld (A u).cl (A u).nB ?_
    refine pd_var (i := 4) rfl rfl ?_
    refine ⟨_, say_below, _, rfl, ?_⟩
    refine ⟨by rw [List.length_map]; exact small1000 (by omega), fun j acc w' => j ≤ u.subs.length ∧ acc = (u.subs.take j).map g ∧ w' = wu (wu w a (.lst ((t.parts.drop (k1 + 1)).reverse.map g))) b (.lst ((u.subs.drop j ++ us).reverse.map g)), ⟨Nat.zero_le _, rfl, rfl⟩, ?_, ?_⟩
    · rintro j d acc w' hd ⟨_, rfl, rfl⟩ s2 H0 C1 cl1 fp1
      rw [List.getElem?_map] at hd
      cases ej : u.subs[j]? with
      | none =>
        rw [ej] at hd
        cases hd
      | some v =>
      rw [ej] at hd
      cases hd
      have hj := (List.getElem?_eq_some_iff.mp ej).1
      have dj : u.subs.drop j = v :: u.subs.drop (j + 1) := by
        rw [List.drop_eq_getElem_cons hj, (List.getElem?_eq_some_iff.mp ej).2]
      have tj : u.subs.take (j + 1) = u.subs.take j ++ [v] := by rw [List.take_add_one, ej]; rfl
      refine pgl_name (i := 7) nd rfl ?_
      intro s3 H0 C1 cl1 fp1
      refine ptsd_nil ?_
      intro s3 H0 C1 cl1 fp1
      refine pd_bm0 PySem.F.plainAttrs_list PySem.F.slot_list_pop PySem.F.type_list_pop mt_pop ?_
      refine pd_var (i := 3) rfl rfl ?_
      rw [dj]
      have er : ((v :: u.subs.drop (j + 1)) ++ us).reverse = (u.subs.drop (j + 1) ++ us).reverse ++ [v] := by
        rw [List.cons_append, List.reverse_cons]
      rw [er]
      refine ⟨⟨rfl, _, wu_same⟩, vm_pop wu_same (map_last _ _ _) ?_⟩
      rw [map_front, wu_wu]
      exact ⟨hj, by rw [tj, List.map_append]; rfl, rfl⟩
    · rintro acc w' ⟨_, rfl, rfl⟩
      rw [List.length_map, List.take_length, List.drop_length, List.nil_append]
      refine pssd_cons (psd_set (i := 6) nd rfl ?_)
      refine act χ _ _ _ _ _ _ _ rfl rfl rfl ?_
      (refine pad_cons ?_; refine pd_var (i := 4) rfl rfl ?_)
      (refine pad_cons ?_; refine pd_var (i := 5) rfl rfl ?_)
      refine pad_nil ⟨rfl, u, uin, rfl, ?_⟩
      refine pssd_cons (psd_expr ?_)
      refine pd_bm PySem.F.plainAttrs_list PySem.F.slot_list_append PySem.F.type_list_append mt_append ?_
      refine pd_var (i := 2) rfl rfl ?_
      refine ⟨⟨rfl, _, by rw [wu_ne (Ne.symm ba)]; exact wu_same⟩, ?_⟩
      (refine pad_cons ?_; refine pd_var (i := 6) rfl rfl ?_)
      refine pad_nil (vm_append (by rw [wu_ne (Ne.symm ba)]; exact wu_same) (by rw [List.length_map, List.length_reverse, List.length_drop, parts_len]; omega) ?_)
      rw [wu_comm ba, wu_wu]
      refine pssd_one (psd_expr ?_)
      refine pd_bm PySem.F.plainAttrs_list PySem.F.slot_list_append PySem.F.type_list_append mt_append ?_
      refine pd_var (i := 3) rfl rfl ?_
      refine ⟨⟨rfl, _, wu_same⟩, ?_⟩
      (refine pad_cons ?_; refine pd_var (i := 6) rfl rfl ?_)
      refine pad_nil (vm_append wu_same (by rw [List.length_map, List.length_reverse]; have : us.length + 1 ≤ t.size := fl0; omega) ?_)
      rw [wu_wu]
      refine ⟨by omega, ?_, _, _, _, rfl⟩
      rw [hk1, f1, f3, List.reverse_cons, List.reverse_cons, List.map_append, List.map_append]
      rfl
  · rintro δ' w' ⟨_, rfl, x, y, z, rfl⟩
    rw [List.length_reverse, List.length_map, parts_len, Nat.sub_self, List.drop_zero]
    refine pssd_one (psd_ret ?_)
    refine pd_drop ?_
    refine pd_drop ?_
    refine pd_rev ?_
    refine pd_var (i := 2) rfl rfl ?_
    refine ⟨_, .inr ⟨a, rfl, by rw [wu_ne (Ne.symm ba)]; exact wu_same⟩, b, a, ?_⟩
    rw [← List.map_reverse, List.reverse_reverse, wd_wu (by rw [wu_ne ba]; exact nb0), wd_wu na]
    exact k0
end
end Tw

set_option Elab.async false
set_option linter.all false
set_option maxRecDepth 100000
set_option maxHeartbeats 2000000
/-! filled. -/
namespace Tw
open PySem PySem.Spec PyProof.Rows L2 LamX DL
abbrev sRefl : Stmt := top 25
abbrev sFilled : Stmt := inClass (top 12) 4
def fillT (tbl : List (Str × Tr)) : Tr → Tr
  | .tru b => .tru b
  | .fact n => (tbl.lookup n).getD (.fact n)
  | .neg t => .neg (fillT tbl t)
  | .bin a l r => .bin a (fillT tbl l) (fillT tbl r)
  | .md k g t => .md k g (fillT tbl t)
abbrev tblK (tbl : List (Str × Tr)) : List Key := skeys (tbl.map (·.1))
abbrev tblD (c : SC) (tbl : List (Str × Tr)) : List D := tbl.map fun p => sayD c p.2
theorem lk_tbl (c : SC) (n : Str) : ∀ tbl : List (Str × Tr), lkD (tblK tbl) (tblD c tbl) (Sum.inr n) = (tbl.lookup n).map (sayD c)
  | [] => rfl
  | (k, t) :: tbl => by
    show (if (Sum.inr k : Key) = Sum.inr n then some (sayD c t) else lkD (tblK tbl) (tblD c tbl) (Sum.inr n)) = (List.lookup n ((k, t) :: tbl)).map (sayD c)
    by_cases h : k = n
    · subst h
      rw [if_pos rfl]
      simp [List.lookup]
    · rw [if_neg (fun z => h (Sum.inr.inj z)), lk_tbl c n tbl]
      have hb : (n == k) = false := beq_eq_false_iff_ne.mpr fun z => h z.symm
      simp only [List.lookup, hb]
def spRefl (c : SC) : SpD := fun ds w κ χ => ∃ (u : Tr) (tbl : List (Str × Tr)), ds = [sayD c u, .lst (u.subs.map fun v => sayD c (fillT tbl v)), .dcv (tblK tbl) (tblD c tbl)] ∧ TrOk u ∧ (∀ v ∈ u.subs, Sh (fillT tbl v) ∧ (fillT tbl v).size ≤ 400) ∧ κ (sayD c (fillT tbl u)) w
def spFil (c : SC) : SpD := fun ds w κ χ => ∃ (t : Tr) (tbl : List (Str × Tr)), ds = [sayD c t, .dcv (tblK tbl) (tblD c tbl)] ∧ TrOk t ∧ t.size ≤ 60 ∧ (∀ u ∈ t.parts, Sh (fillT tbl u) ∧ (fillT tbl u).size ≤ 400) ∧ κ (sayD c (fillT tbl t)) w
section
variable {P : Program} {w : PySem.World} {K : PySem.W.Frag} {mg : Str → Option Value} {base : Heap} {T : List (Addr × Str)} {c : SC} {cS fS CG CC : Addr}
theorem scRefl : FnScope ["part", "below", "sayings"] ["part", "below", "sayings"] (defScope sRefl) := ⟨rfl, rfl, rfl, by decide +kernel, rfl, by decide +kernel, by decide +kernel⟩
theorem ok_refl {f : Addr} {fd : FuncData} (G : Fun K "_refilled" "_refilled" sRefl f fd) (hm : Nm2 mg) (hs : NmS mg c cS) (Q : SayQ K c cS) (A : SayAll K fS c) (I : SayI K c) (hN : HasMk P w K mg base T CX0 "Not" c.cN 5 ["self", "inner"] (spIN c)) (hAn : HasMk P w K mg base T CX0 "And" c.cA 5 ["self", "first", "second"] (spIB c true)) (hOr : HasMk P w K mg base T CX0 "Or" c.cO 5 ["self", "first", "second"] (spIB c false))
    (hKn : HasMk P w K mg base T (L2.CX P w) "Knows" c.cK 5 ["self", "group", "inner"] (spIM c .kn CG)) (hWh : HasMk P w K mg base T (L2.CX P w) "Whether" c.cW 5 ["self", "group", "inner"] (spIM c .wh CG)) (hCo : HasMk P w K mg base T (L2.CX P w) "Common" c.cC 5 ["self", "group", "inner"] (spIM c .co CG)) :
    FnOk P w K mg base (L2.CX P w) 7 f fd ["part", "below", "sayings"] (spOf K T (spRefl c)) := by
  refine fnX G scRefl (fun ds w κ χ h => ?_) (fun cdv A' outer s H E ds w0 κ χ hr h => ?_)
  · obtain ⟨u, tbl, rfl, _⟩ := h
    rfl
  obtain ⟨u, tbl, rfl, hu, hsub, k⟩ := h
  have nd := scRefl.nd
  cases u with
  | tru b =>
    (refine pssd_cons (psd_if ?_); refine ptd_val ?_; refine pd_callB call_isi rfl hm.isinstance PyProof.Rows.boot_isinstance ?_; (refine pad_cons ?_; refine pd_var (i := 0) rfl rfl ?_); refine pad_cons ?_; refine pd_glob (v := .ref (c.cls (.tr))) (hs.mT) rfl ?_; refine pad_nil ?_; refine va_isC (say_ty Q _) (Q.one _ (.tr)) ⟨_, rfl, ?_⟩)
    refine iteT ?_
    refine pssd_one (psd_ret ?_)
    refine pd_var (i := 0) rfl rfl ?_
    exact k
  | fact n =>
    ((refine pssd_cons (psd_if ?_); refine ptd_val ?_; refine pd_callB call_isi rfl hm.isinstance PyProof.Rows.boot_isinstance ?_; (refine pad_cons ?_; refine pd_var (i := 0) rfl rfl ?_); refine pad_cons ?_; refine pd_glob (v := .ref (c.cls (.tr))) (hs.mT) rfl ?_; refine pad_nil ?_; refine va_isC (say_ty Q _) (Q.one _ (.tr)) ⟨_, rfl, ?_⟩); refine iteF ?_; refine pssd_nil ?_)
    (refine pssd_cons (psd_if ?_); refine ptd_val ?_; refine pd_callB call_isi rfl hm.isinstance PyProof.Rows.boot_isinstance ?_; (refine pad_cons ?_; refine pd_var (i := 0) rfl rfl ?_); refine pad_cons ?_; refine pd_glob (v := .ref (c.cls (.fa))) (hs.mF) rfl ?_; refine pad_nil ?_; refine va_isC (say_ty Q _) (Q.one _ (.fa)) ⟨_, rfl, ?_⟩)
    refine iteT ?_
    refine pssd_one (psd_ret ?_)
    refine pd_getD (hu_of hr) ?_
    refine pd_var (i := 2) rfl rfl ?_
    refine ⟨_, _, rfl, ?_⟩
    refine pd_fld (A (.fact n)).cl I.nn ?_
    refine pd_var (i := 0) rfl rfl ?_
    refine ⟨_, say_name, ?_⟩
    refine pd_var (i := 0) rfl rfl ?_
    refine ⟨Sum.inr n, rfl, ?_⟩
    rw [lk_tbl]
    have e : ((tbl.lookup n).map (sayD c)).getD (sayD c (.fact n)) = sayD c (fillT tbl (.fact n)) := by
      show _ = sayD c ((tbl.lookup n).getD (.fact n))
      cases tbl.lookup n <;> rfl
    rw [e]
    exact k
  | neg t =>
    obtain ⟨h1, h2⟩ := hsub t List.mem_cons_self
    ((refine pssd_cons (psd_if ?_); refine ptd_val ?_; refine pd_callB call_isi rfl hm.isinstance PyProof.Rows.boot_isinstance ?_; (refine pad_cons ?_; refine pd_var (i := 0) rfl rfl ?_); refine pad_cons ?_; refine pd_glob (v := .ref (c.cls (.tr))) (hs.mT) rfl ?_; refine pad_nil ?_; refine va_isC (say_ty Q _) (Q.one _ (.tr)) ⟨_, rfl, ?_⟩); refine iteF ?_; refine pssd_nil ?_)
    ((refine pssd_cons (psd_if ?_); refine ptd_val ?_; refine pd_callB call_isi rfl hm.isinstance PyProof.Rows.boot_isinstance ?_; (refine pad_cons ?_; refine pd_var (i := 0) rfl rfl ?_); refine pad_cons ?_; refine pd_glob (v := .ref (c.cls (.fa))) (hs.mF) rfl ?_; refine pad_nil ?_; refine va_isC (say_ty Q _) (Q.one _ (.fa)) ⟨_, rfl, ?_⟩); refine iteF ?_; refine pssd_nil ?_)
    (refine pssd_cons (psd_if ?_); refine ptd_val ?_; refine pd_callB call_isi rfl hm.isinstance PyProof.Rows.boot_isinstance ?_; (refine pad_cons ?_; refine pd_var (i := 0) rfl rfl ?_); refine pad_cons ?_; refine pd_glob (v := .ref (c.cls (.ne))) (hs.mN) rfl ?_; refine pad_nil ?_; refine va_isC (say_ty Q _) (Q.one _ (.ne)) ⟨_, rfl, ?_⟩)
    refine iteT ?_
    refine pssd_one (psd_ret ?_)
    refine pd_hasmk hN hr (fun _ => pass0At) ?_
    (refine pad_cons ?_; refine pd_ix ix_list ?_; refine pd_var (i := 1) rfl rfl ?_; refine pd_int ?_; refine vr_ixL (i := 0) rfl ?_)
    refine pad_nil fun a dx na => ?_
    refine ⟨a, dx, _, rfl, wu_same, h1, by omega, rfl, _, _, wu_same, ?_⟩
    rw [wu_wu, wd_wu na]
    exact k
  | bin q l r =>
    obtain ⟨h1, h2⟩ := hsub l List.mem_cons_self
    obtain ⟨h3, h4⟩ := hsub r (List.mem_cons_of_mem _ List.mem_cons_self)
    cases q with
    | true =>
      ((refine pssd_cons (psd_if ?_); refine ptd_val ?_; refine pd_callB call_isi rfl hm.isinstance PyProof.Rows.boot_isinstance ?_; (refine pad_cons ?_; refine pd_var (i := 0) rfl rfl ?_); refine pad_cons ?_; refine pd_glob (v := .ref (c.cls (.tr))) (hs.mT) rfl ?_; refine pad_nil ?_; refine va_isC (say_ty Q _) (Q.one _ (.tr)) ⟨_, rfl, ?_⟩); refine iteF ?_; refine pssd_nil ?_)
      ((refine pssd_cons (psd_if ?_); refine ptd_val ?_; refine pd_callB call_isi rfl hm.isinstance PyProof.Rows.boot_isinstance ?_; (refine pad_cons ?_; refine pd_var (i := 0) rfl rfl ?_); refine pad_cons ?_; refine pd_glob (v := .ref (c.cls (.fa))) (hs.mF) rfl ?_; refine pad_nil ?_; refine va_isC (say_ty Q _) (Q.one _ (.fa)) ⟨_, rfl, ?_⟩); refine iteF ?_; refine pssd_nil ?_)
      ((refine pssd_cons (psd_if ?_); refine ptd_val ?_; refine pd_callB call_isi rfl hm.isinstance PyProof.Rows.boot_isinstance ?_; (refine pad_cons ?_; refine pd_var (i := 0) rfl rfl ?_); refine pad_cons ?_; refine pd_glob (v := .ref (c.cls (.ne))) (hs.mN) rfl ?_; refine pad_nil ?_; refine va_isC (say_ty Q _) (Q.one _ (.ne)) ⟨_, rfl, ?_⟩); refine iteF ?_; refine pssd_nil ?_)
      (refine pssd_cons (psd_if ?_); refine ptd_val ?_; refine pd_callB call_isi rfl hm.isinstance PyProof.Rows.boot_isinstance ?_; (refine pad_cons ?_; refine pd_var (i := 0) rfl rfl ?_); refine pad_cons ?_; refine pd_glob (v := .ref (c.cls (.an))) (hs.mA) rfl ?_; refine pad_nil ?_; refine va_isC (say_ty Q _) (Q.one _ (.an)) ⟨_, rfl, ?_⟩)
      refine iteT ?_
      refine pssd_one (psd_ret ?_)
      refine pd_hasmk hAn hr (fun _ => pass0At) ?_
      (refine pad_cons ?_; refine pd_ix ix_list ?_; refine pd_var (i := 1) rfl rfl ?_; refine pd_int ?_; refine vr_ixL (i := 0) rfl ?_)
      (refine pad_cons ?_; refine pd_ix ix_list ?_; refine pd_var (i := 1) rfl rfl ?_; refine pd_int ?_; refine vr_ixL (i := 1) rfl ?_)
      refine pad_nil fun a dx na => ?_
      refine ⟨a, dx, _, _, rfl, wu_same, h1, h3, by omega, by omega, rfl, _, _, wu_same, ?_⟩
      rw [wu_wu, wd_wu na]
      exact k
    | false =>
      ((refine pssd_cons (psd_if ?_); refine ptd_val ?_; refine pd_callB call_isi rfl hm.isinstance PyProof.Rows.boot_isinstance ?_; (refine pad_cons ?_; refine pd_var (i := 0) rfl rfl ?_); refine pad_cons ?_; refine pd_glob (v := .ref (c.cls (.tr))) (hs.mT) rfl ?_; refine pad_nil ?_; refine va_isC (say_ty Q _) (Q.one _ (.tr)) ⟨_, rfl, ?_⟩); refine iteF ?_; refine pssd_nil ?_)
      ((refine pssd_cons (psd_if ?_); refine ptd_val ?_; refine pd_callB call_isi rfl hm.isinstance PyProof.Rows.boot_isinstance ?_; (refine pad_cons ?_; refine pd_var (i := 0) rfl rfl ?_); refine pad_cons ?_; refine pd_glob (v := .ref (c.cls (.fa))) (hs.mF) rfl ?_; refine pad_nil ?_; refine va_isC (say_ty Q _) (Q.one _ (.fa)) ⟨_, rfl, ?_⟩); refine iteF ?_; refine pssd_nil ?_)
      ((refine pssd_cons (psd_if ?_); refine ptd_val ?_; refine pd_callB call_isi rfl hm.isinstance PyProof.Rows.boot_isinstance ?_; (refine pad_cons ?_; refine pd_var (i := 0) rfl rfl ?_); refine pad_cons ?_; refine pd_glob (v := .ref (c.cls (.ne))) (hs.mN) rfl ?_; refine pad_nil ?_; refine va_isC (say_ty Q _) (Q.one _ (.ne)) ⟨_, rfl, ?_⟩); refine iteF ?_; refine pssd_nil ?_)
      ((refine pssd_cons (psd_if ?_); refine ptd_val ?_; refine pd_callB call_isi rfl hm.isinstance PyProof.Rows.boot_isinstance ?_; (refine pad_cons ?_; refine pd_var (i := 0) rfl rfl ?_); refine pad_cons ?_; refine pd_glob (v := .ref (c.cls (.an))) (hs.mA) rfl ?_; refine pad_nil ?_; refine va_isC (say_ty Q _) (Q.one _ (.an)) ⟨_, rfl, ?_⟩); refine iteF ?_; refine pssd_nil ?_)
      (refine pssd_cons (psd_if ?_); refine ptd_val ?_; refine pd_callB call_isi rfl hm.isinstance PyProof.Rows.boot_isinstance ?_; (refine pad_cons ?_; refine pd_var (i := 0) rfl rfl ?_); refine pad_cons ?_; refine pd_glob (v := .ref (c.cls (.or))) (hs.mO) rfl ?_; refine pad_nil ?_; refine va_isC (say_ty Q _) (Q.one _ (.or)) ⟨_, rfl, ?_⟩)
      refine iteT ?_
      refine pssd_one (psd_ret ?_)
      refine pd_hasmk hOr hr (fun _ => pass0At) ?_
      (refine pad_cons ?_; refine pd_ix ix_list ?_; refine pd_var (i := 1) rfl rfl ?_; refine pd_int ?_; refine vr_ixL (i := 0) rfl ?_)
      (refine pad_cons ?_; refine pd_ix ix_list ?_; refine pd_var (i := 1) rfl rfl ?_; refine pd_int ?_; refine vr_ixL (i := 1) rfl ?_)
      refine pad_nil fun a dx na => ?_
      refine ⟨a, dx, _, _, rfl, wu_same, h1, h3, by omega, by omega, rfl, _, _, wu_same, ?_⟩
      rw [wu_wu, wd_wu na]
      exact k
  | md q g t =>
    obtain ⟨h1, h2⟩ := hsub t List.mem_cons_self
    have gok : GroupOk g := hu.1
    have g8 := group_len gok
    cases q with
    | kn =>
      ((refine pssd_cons (psd_if ?_); refine ptd_val ?_; refine pd_callB call_isi rfl hm.isinstance PyProof.Rows.boot_isinstance ?_; (refine pad_cons ?_; refine pd_var (i := 0) rfl rfl ?_); refine pad_cons ?_; refine pd_glob (v := .ref (c.cls (.tr))) (hs.mT) rfl ?_; refine pad_nil ?_; refine va_isC (say_ty Q _) (Q.one _ (.tr)) ⟨_, rfl, ?_⟩); refine iteF ?_; refine pssd_nil ?_)
      ((refine pssd_cons (psd_if ?_); refine ptd_val ?_; refine pd_callB call_isi rfl hm.isinstance PyProof.Rows.boot_isinstance ?_; (refine pad_cons ?_; refine pd_var (i := 0) rfl rfl ?_); refine pad_cons ?_; refine pd_glob (v := .ref (c.cls (.fa))) (hs.mF) rfl ?_; refine pad_nil ?_; refine va_isC (say_ty Q _) (Q.one _ (.fa)) ⟨_, rfl, ?_⟩); refine iteF ?_; refine pssd_nil ?_)
      ((refine pssd_cons (psd_if ?_); refine ptd_val ?_; refine pd_callB call_isi rfl hm.isinstance PyProof.Rows.boot_isinstance ?_; (refine pad_cons ?_; refine pd_var (i := 0) rfl rfl ?_); refine pad_cons ?_; refine pd_glob (v := .ref (c.cls (.ne))) (hs.mN) rfl ?_; refine pad_nil ?_; refine va_isC (say_ty Q _) (Q.one _ (.ne)) ⟨_, rfl, ?_⟩); refine iteF ?_; refine pssd_nil ?_)
      ((refine pssd_cons (psd_if ?_); refine ptd_val ?_; refine pd_callB call_isi rfl hm.isinstance PyProof.Rows.boot_isinstance ?_; (refine pad_cons ?_; refine pd_var (i := 0) rfl rfl ?_); refine pad_cons ?_; refine pd_glob (v := .ref (c.cls (.an))) (hs.mA) rfl ?_; refine pad_nil ?_; refine va_isC (say_ty Q _) (Q.one _ (.an)) ⟨_, rfl, ?_⟩); refine iteF ?_; refine pssd_nil ?_)
      ((refine pssd_cons (psd_if ?_); refine ptd_val ?_; refine pd_callB call_isi rfl hm.isinstance PyProof.Rows.boot_isinstance ?_; (refine pad_cons ?_; refine pd_var (i := 0) rfl rfl ?_); refine pad_cons ?_; refine pd_glob (v := .ref (c.cls (.or))) (hs.mO) rfl ?_; refine pad_nil ?_; refine va_isC (say_ty Q _) (Q.one _ (.or)) ⟨_, rfl, ?_⟩); refine iteF ?_; refine pssd_nil ?_)
      (refine pssd_cons (psd_if ?_); refine ptd_val ?_; refine pd_callB call_isi rfl hm.isinstance PyProof.Rows.boot_isinstance ?_; (refine pad_cons ?_; refine pd_var (i := 0) rfl rfl ?_); refine pad_cons ?_; refine pd_glob (v := .ref (c.cls (.kn))) (hs.mK) rfl ?_; refine pad_nil ?_; refine va_isC (say_ty Q _) (Q.one _ (.kn)) ⟨_, rfl, ?_⟩)
      refine iteT ?_
      refine pssd_one (psd_ret ?_)
      refine pd_hasmk hKn hr passX ?_
      refine pad_cons ?_
      refine pd_fld (A (.md .kn g t)).cl (I.ng .kn) ?_
      refine pd_var (i := 0) rfl rfl ?_
      refine ⟨_, say_group, ?_⟩
      (refine pad_cons ?_; refine pd_ix ix_list ?_; refine pd_var (i := 1) rfl rfl ?_; refine pd_int ?_; refine vr_ixL (i := 0) rfl ?_)
      refine pad_nil fun a dx na => ?_
      refine ⟨a, dx, g, _, rfl, wu_same, by omega, h1, by omega, fun _ => ⟨rfl, _, _, wu_same, ?_⟩, fun no => absurd gok no⟩
      rw [wu_wu, wd_wu na]
      exact k
    | wh =>
      ((refine pssd_cons (psd_if ?_); refine ptd_val ?_; refine pd_callB call_isi rfl hm.isinstance PyProof.Rows.boot_isinstance ?_; (refine pad_cons ?_; refine pd_var (i := 0) rfl rfl ?_); refine pad_cons ?_; refine pd_glob (v := .ref (c.cls (.tr))) (hs.mT) rfl ?_; refine pad_nil ?_; refine va_isC (say_ty Q _) (Q.one _ (.tr)) ⟨_, rfl, ?_⟩); refine iteF ?_; refine pssd_nil ?_)
      ((refine pssd_cons (psd_if ?_); refine ptd_val ?_; refine pd_callB call_isi rfl hm.isinstance PyProof.Rows.boot_isinstance ?_; (refine pad_cons ?_; refine pd_var (i := 0) rfl rfl ?_); refine pad_cons ?_; refine pd_glob (v := .ref (c.cls (.fa))) (hs.mF) rfl ?_; refine pad_nil ?_; refine va_isC (say_ty Q _) (Q.one _ (.fa)) ⟨_, rfl, ?_⟩); refine iteF ?_; refine pssd_nil ?_)
      ((refine pssd_cons (psd_if ?_); refine ptd_val ?_; refine pd_callB call_isi rfl hm.isinstance PyProof.Rows.boot_isinstance ?_; (refine pad_cons ?_; refine pd_var (i := 0) rfl rfl ?_); refine pad_cons ?_; refine pd_glob (v := .ref (c.cls (.ne))) (hs.mN) rfl ?_; refine pad_nil ?_; refine va_isC (say_ty Q _) (Q.one _ (.ne)) ⟨_, rfl, ?_⟩); refine iteF ?_; refine pssd_nil ?_)
      ((refine pssd_cons (psd_if ?_); refine ptd_val ?_; refine pd_callB call_isi rfl hm.isinstance PyProof.Rows.boot_isinstance ?_; (refine pad_cons ?_; refine pd_var (i := 0) rfl rfl ?_); refine pad_cons ?_; refine pd_glob (v := .ref (c.cls (.an))) (hs.mA) rfl ?_; refine pad_nil ?_; refine va_isC (say_ty Q _) (Q.one _ (.an)) ⟨_, rfl, ?_⟩); refine iteF ?_; refine pssd_nil ?_)
      ((refine pssd_cons (psd_if ?_); refine ptd_val ?_; refine pd_callB call_isi rfl hm.isinstance PyProof.Rows.boot_isinstance ?_; (refine pad_cons ?_; refine pd_var (i := 0) rfl rfl ?_); refine pad_cons ?_; refine pd_glob (v := .ref (c.cls (.or))) (hs.mO) rfl ?_; refine pad_nil ?_; refine va_isC (say_ty Q _) (Q.one _ (.or)) ⟨_, rfl, ?_⟩); refine iteF ?_; refine pssd_nil ?_)
      ((refine pssd_cons (psd_if ?_); refine ptd_val ?_; refine pd_callB call_isi rfl hm.isinstance PyProof.Rows.boot_isinstance ?_; (refine pad_cons ?_; refine pd_var (i := 0) rfl rfl ?_); refine pad_cons ?_; refine pd_glob (v := .ref (c.cls (.kn))) (hs.mK) rfl ?_; refine pad_nil ?_; refine va_isC (say_ty Q _) (Q.one _ (.kn)) ⟨_, rfl, ?_⟩); refine iteF ?_; refine pssd_nil ?_)
      (refine pssd_cons (psd_if ?_); refine ptd_val ?_; refine pd_callB call_isi rfl hm.isinstance PyProof.Rows.boot_isinstance ?_; (refine pad_cons ?_; refine pd_var (i := 0) rfl rfl ?_); refine pad_cons ?_; refine pd_glob (v := .ref (c.cls (.wh))) (hs.mW) rfl ?_; refine pad_nil ?_; refine va_isC (say_ty Q _) (Q.one _ (.wh)) ⟨_, rfl, ?_⟩)
      refine iteT ?_
      refine pssd_one (psd_ret ?_)
      refine pd_hasmk hWh hr passX ?_
      refine pad_cons ?_
      refine pd_fld (A (.md .wh g t)).cl (I.ng .wh) ?_
      refine pd_var (i := 0) rfl rfl ?_
      refine ⟨_, say_group, ?_⟩
      (refine pad_cons ?_; refine pd_ix ix_list ?_; refine pd_var (i := 1) rfl rfl ?_; refine pd_int ?_; refine vr_ixL (i := 0) rfl ?_)
      refine pad_nil fun a dx na => ?_
      refine ⟨a, dx, g, _, rfl, wu_same, by omega, h1, by omega, fun _ => ⟨rfl, _, _, wu_same, ?_⟩, fun no => absurd gok no⟩
      rw [wu_wu, wd_wu na]
      exact k
    | co =>
      ((refine pssd_cons (psd_if ?_); refine ptd_val ?_; refine pd_callB call_isi rfl hm.isinstance PyProof.Rows.boot_isinstance ?_; (refine pad_cons ?_; refine pd_var (i := 0) rfl rfl ?_); refine pad_cons ?_; refine pd_glob (v := .ref (c.cls (.tr))) (hs.mT) rfl ?_; refine pad_nil ?_; refine va_isC (say_ty Q _) (Q.one _ (.tr)) ⟨_, rfl, ?_⟩); refine iteF ?_; refine pssd_nil ?_)
      ((refine pssd_cons (psd_if ?_); refine ptd_val ?_; refine pd_callB call_isi rfl hm.isinstance PyProof.Rows.boot_isinstance ?_; (refine pad_cons ?_; refine pd_var (i := 0) rfl rfl ?_); refine pad_cons ?_; refine pd_glob (v := .ref (c.cls (.fa))) (hs.mF) rfl ?_; refine pad_nil ?_; refine va_isC (say_ty Q _) (Q.one _ (.fa)) ⟨_, rfl, ?_⟩); refine iteF ?_; refine pssd_nil ?_)
      ((refine pssd_cons (psd_if ?_); refine ptd_val ?_; refine pd_callB call_isi rfl hm.isinstance PyProof.Rows.boot_isinstance ?_; (refine pad_cons ?_; refine pd_var (i := 0) rfl rfl ?_); refine pad_cons ?_; refine pd_glob (v := .ref (c.cls (.ne))) (hs.mN) rfl ?_; refine pad_nil ?_; refine va_isC (say_ty Q _) (Q.one _ (.ne)) ⟨_, rfl, ?_⟩); refine iteF ?_; refine pssd_nil ?_)
      ((refine pssd_cons (psd_if ?_); refine ptd_val ?_; refine pd_callB call_isi rfl hm.isinstance PyProof.Rows.boot_isinstance ?_; (refine pad_cons ?_; refine pd_var (i := 0) rfl rfl ?_); refine pad_cons ?_; refine pd_glob (v := .ref (c.cls (.an))) (hs.mA) rfl ?_; refine pad_nil ?_; refine va_isC (say_ty Q _) (Q.one _ (.an)) ⟨_, rfl, ?_⟩); refine iteF ?_; refine pssd_nil ?_)
      ((refine pssd_cons (psd_if ?_); refine ptd_val ?_; refine pd_callB call_isi rfl hm.isinstance PyProof.Rows.boot_isinstance ?_; (refine pad_cons ?_; refine pd_var (i := 0) rfl rfl ?_); refine pad_cons ?_; refine pd_glob (v := .ref (c.cls (.or))) (hs.mO) rfl ?_; refine pad_nil ?_; refine va_isC (say_ty Q _) (Q.one _ (.or)) ⟨_, rfl, ?_⟩); refine iteF ?_; refine pssd_nil ?_)
      ((refine pssd_cons (psd_if ?_); refine ptd_val ?_; refine pd_callB call_isi rfl hm.isinstance PyProof.Rows.boot_isinstance ?_; (refine pad_cons ?_; refine pd_var (i := 0) rfl rfl ?_); refine pad_cons ?_; refine pd_glob (v := .ref (c.cls (.kn))) (hs.mK) rfl ?_; refine pad_nil ?_; refine va_isC (say_ty Q _) (Q.one _ (.kn)) ⟨_, rfl, ?_⟩); refine iteF ?_; refine pssd_nil ?_)
      ((refine pssd_cons (psd_if ?_); refine ptd_val ?_; refine pd_callB call_isi rfl hm.isinstance PyProof.Rows.boot_isinstance ?_; (refine pad_cons ?_; refine pd_var (i := 0) rfl rfl ?_); refine pad_cons ?_; refine pd_glob (v := .ref (c.cls (.wh))) (hs.mW) rfl ?_; refine pad_nil ?_; refine va_isC (say_ty Q _) (Q.one _ (.wh)) ⟨_, rfl, ?_⟩); refine iteF ?_; refine pssd_nil ?_)
      refine pssd_one (psd_ret ?_)
      refine pd_hasmk hCo hr passX ?_
      refine pad_cons ?_
      refine pd_fld (A (.md .co g t)).cl (I.ng .co) ?_
      refine pd_var (i := 0) rfl rfl ?_
      refine ⟨_, say_group, ?_⟩
      (refine pad_cons ?_; refine pd_ix ix_list ?_; refine pd_var (i := 1) rfl rfl ?_; refine pd_int ?_; refine vr_ixL (i := 0) rfl ?_)
      refine pad_nil fun a dx na => ?_
      refine ⟨a, dx, g, _, rfl, wu_same, by omega, h1, by omega, fun _ => ⟨rfl, _, _, wu_same, ?_⟩, fun no => absurd gok no⟩
      rw [wu_wu, wd_wu na]
      exact k
theorem ok_parts_tr : ∀ (t : Tr), TrOk t → ∀ u ∈ t.parts, TrOk u
  | .tru b, h, u, hu => by rw [List.mem_singleton.mp hu]; exact h
  | .fact n, h, u, hu => by rw [List.mem_singleton.mp hu]; exact h
  | .neg t, h, u, hu => by
    rcases List.mem_cons.mp hu with rfl | q
    · exact h
    · exact ok_parts_tr t h u q
  | .bin a l r, h, u, hu => by
    rcases List.mem_cons.mp hu with rfl | q
    · exact h
    · rcases List.mem_append.mp q with q | q
      · exact ok_parts_tr l h.1 u q
      · exact ok_parts_tr r h.2 u q
  | .md k g t, h, u, hu => by
    rcases List.mem_cons.mp hu with rfl | q
    · exact h
    · exact ok_parts_tr t h.2 u q
theorem self_parts (t : Tr) : t ∈ t.parts := by
  rw [parts_below]
  exact List.mem_cons_self
theorem subs_parts : ∀ {t u v : Tr}, u ∈ t.parts → v ∈ u.subs → v ∈ t.parts
  | .tru b, u, v, hu, hv => by rw [List.mem_singleton.mp hu] at hv; cases hv
  | .fact n, u, v, hu, hv => by rw [List.mem_singleton.mp hu] at hv; cases hv
  | .neg t, u, v, hu, hv => by
    rcases List.mem_cons.mp hu with rfl | q
    · rw [List.mem_singleton.mp hv]
      exact List.mem_cons_of_mem _ (self_parts t)
    · exact List.mem_cons_of_mem _ (subs_parts q hv)
  | .bin a l r, u, v, hu, hv => by
    rcases List.mem_cons.mp hu with rfl | q
    · refine List.mem_cons_of_mem _ ?_
      rcases List.mem_cons.mp hv with rfl | hv
      · exact List.mem_append_left _ (self_parts _)
      · rw [List.mem_singleton.mp hv]
        exact List.mem_append_right _ (self_parts _)
    · refine List.mem_cons_of_mem _ ?_
      rcases List.mem_append.mp q with q | q
      · exact List.mem_append_left _ (subs_parts q hv)
      · exact List.mem_append_right _ (subs_parts q hv)
  | .md k g t, u, v, hu, hv => by
    rcases List.mem_cons.mp hu with rfl | q
    · rw [List.mem_singleton.mp hv]
      exact List.mem_cons_of_mem _ (self_parts t)
    · exact List.mem_cons_of_mem _ (subs_parts q hv)
theorem passLP {X : Cx} {A : Around} {outer : List Env} {s : Shared} {H : Hp} {E : XK} {scope : Scope} {f c' : Addr} {ps : List Str} (σ : L2.St) : PassesAt (L2.CX X.prog X.w) (lamCxP X A outer s H E scope f c' ps) σ (WE (fun cls d _ H => E cls d H) σ) := passAt (takes_of rfl rfl rfl rfl) σ
/-- the def folded of the text -/
structure FoldK (K : PySem.W.Frag) (mg : Str → Option Value) : Prop where
  ex : ∃ g fd, Fun K "folded" "folded" sFolded g fd ∧ mg "folded" = some (.ref g) ∧ Binds K fd ["saying", "combine"] []
theorem scFilled : FnScope ["self", "sayings"] ((["self"] : List Str) ++ [("sayings" : Str)]) (defScope sFilled) := ⟨rfl, rfl, rfl, by decide +kernel, rfl, by decide +kernel, by decide +kernel⟩
theorem ok_filled {f : Addr} {fd : FuncData} {cc Pt : Addr} (G : FuncC K "filled" "Saying.filled" sFilled f fd (.ref cc)) (TB : TabB base mg cc Pt) (hT : (Pt, ("Saying.filled" : Str) ++ (".<locals>." : Str) ++ ("<lambda>" : Str)) ∈ T) (hTu : ∀ p ∈ T, p.1 = Pt → p.2 = ("Saying.filled" : Str) ++ (".<locals>." : Str) ++ ("<lambda>" : Str)) (hrv : mg "reversed" = none) (A : SayAll K fS c) (hP : SayM P w K mg base T c "parts" 1 (spParts c)) (hF : FoldK K mg)
    (hR : HasF P w K mg base T (L2.CX P w) "_refilled" 7 ["part", "below", "sayings"] (spRefl c)) : FnKw P w K mg base (L2.CX P w) 10 f ["self"] (spKw K T (spFil c)) := by
  refine fnKX G scFilled rfl rfl rfl rfl rfl (by decide +kernel) (fun A' outer s H E ds w0 κ χ hr h => ?_)
  obtain ⟨t, tbl, rfl, ht, hz, hs, k⟩ := h
  obtain ⟨g, fdg, Gf, hg, hb⟩ := hF.ex
  refine pssd_one (psd_ret ?_)
  refine pd_ix ix_list ?_
  refine pd_lamcall (k := 7) (ps := ["part", "below"]) (spl := spCmb c t fun u => sayD c (fillT tbl u)) (spg := spFold c t fun u => sayD c (fillT tbl u)) [1] [.dcv (tblK tbl) (tblD c tbl)] Gf hg hb scFold rfl (.inl rfl) ⟨cc, Pt, TB, rfl, hT, hTu⟩ hr (lamPS_by (by show lamPSB (defScope sFilled) _ ["self", "sayings"] ["part", "below"] = true; decide +kernel)) rfl ?_ passX rfl ?_ ?_ ?_
  · intro q cl pm cv ctv us lu
    match us, lu with
    | [u1, u2], _ => rfl
  · intro A2 outer2 s2 H2 E2 f2 c2 ds2 w2 κ2 χ2 hr2 ln hsp
    obtain ⟨u, hu, rfl, kk⟩ := hsp
    refine pd_has hR hr2 passLP ?_
    refine pad_cons ?_
    refine pd_var (i := 2) rfl rfl ?_
    refine pad_cons ?_
    refine pd_var (i := 3) rfl rfl ?_
    refine pad_cons ?_
    refine pd_var (i := 1) rfl rfl ?_
    exact pad_nil ⟨u, tbl, rfl, ok_parts_tr t ht u hu, fun v hv => hs v (subs_parts hu hv), kk⟩
  · intro cdg f2 c2 σ2 s2 H2 E2 d0 w2 κ2 χ2 hr2 act hsp
    exact fold_body t (fun u => sayD c (fillT tbl u)) hrv A hP cdg f2 c2 σ2 s2 H2 E2 d0 w2 κ2 χ2 hr2 act hsp
  · refine pd_var (i := 0) rfl rfl ?_
    intro f2 c2 σ2
    refine ⟨_, rfl, by omega, ?_⟩
    refine pd_int ?_
    refine vr_ixL (i := 0) (d := sayD c (fillT tbl t)) ?_ k
    rw [parts_below]
    rfl
end
end Tw

set_option Elab.async false
set_option linter.all false
set_option maxRecDepth 100000
set_option maxHeartbeats 2000000
/-! The law's _law_made and _law_agrees. -/
namespace Tw
open PySem PySem.Spec PyProof.Rows L2 LamX DL
abbrev sMade : Stmt := top 35
abbrev sAgr : Stmt := top 36
abbrev NMade : List Str := ["tree", "way", "kind", "left", "right", "under"]
def spMade (c : SC) (m : Nat) : SpD := fun ds w κ χ => ∃ (t : Tr) (b : Bool), ds = [trD t, B b] ∧ TrOk t ∧ t.size ≤ m ∧ t.size ≤ 60 ∧ κ (sayD c t) w
def spAgr (c : SC) (m : Nat) : SpD := fun ds w κ χ => ∃ t : Tr, ds = [sayD c t, trD t] ∧ t.size ≤ m ∧ κ (B true) w
/-- the operators of sayings -/
structure OpsK (P : Program) (w : PySem.World) (K : PySem.W.Frag) (mg : Str → Option Value) (base : Heap) (T : List (Addr × Str)) (c : SC) : Prop where
  inv : ∃ f fd, FnOk P w K mg base CX0 7 f fd ["self"] (spOf K T (spInvt c)) ∧ (∀ C, (∃ t, C = c.of t) → PySem.W.findIn K (.ref C) "__invert__" = some (some (.ref f))) ∧ PySem.W.isFn K (.ref f) = true ∧ Binds K fd ["self"] []
  and : ∃ f fd, FnOk P w K mg base CX0 7 f fd ["self", "other"] (spOf K T (spBinM c true)) ∧ Fam K (fun C => ∃ t, C = c.of t) .BitAnd f ∧ Binds K fd ["self", "other"] []
  or : ∃ f fd, FnOk P w K mg base CX0 7 f fd ["self", "other"] (spOf K T (spBinM c false)) ∧ Fam K (fun C => ∃ t, C = c.of t) .BitOr f ∧ Binds K fd ["self", "other"] []
/-- the makings of sayings -/
structure MksK (P : Program) (w : PySem.World) (K : PySem.W.Frag) (mg : Str → Option Value) (base : Heap) (T : List (Addr × Str)) (c : SC) (CN CG : Addr) : Prop where
  tr : HasMk P w K mg base T CX0 "Truth" c.cT 1 ["self", "value"] (spIT c)
  fa : HasMk P w K mg base T (L2.CX P w) "Fact" c.cF 3 ["self", "name"] (spIF c CN)
  ne : HasMk P w K mg base T CX0 "Not" c.cN 5 ["self", "inner"] (spIN c)
  an : HasMk P w K mg base T CX0 "And" c.cA 5 ["self", "first", "second"] (spIB c true)
  or : HasMk P w K mg base T CX0 "Or" c.cO 5 ["self", "first", "second"] (spIB c false)
  kn : HasMk P w K mg base T (L2.CX P w) "Knows" c.cK 5 ["self", "group", "inner"] (spIM c .kn CG)
  wh : HasMk P w K mg base T (L2.CX P w) "Whether" c.cW 5 ["self", "group", "inner"] (spIM c .wh CG)
  co : HasMk P w K mg base T (L2.CX P w) "Common" c.cC 5 ["self", "group", "inner"] (spIM c .co CG)
section
variable {P : Program} {w : PySem.World} {K : PySem.W.Frag} {mg : Str → Option Value} {base : Heap} {T : List (Addr × Str)} {c : SC} {cS fS CG CC CN : Addr}
theorem scMade : FnScope NMade ["tree", "way"] (defScope sMade) := ⟨rfl, rfl, rfl, by decide +kernel, rfl, by decide +kernel, by decide +kernel⟩
theorem made_step {f : Addr} {fd : FuncData} (G : Fun K "_law_made" "_law_made" sMade f fd) (hf : mg "_law_made" = some (.ref f)) (hb : Binds K fd ["tree", "way"] []) (A : SayAll K fS c) (O : OpsK P w K mg base T c) (M : MksK P w K mg base T c CN CG) (m : Nat)
    (ih : ∀ j, m = j + 1 → FnOk P w K mg base CX0 (m + 8) f fd ["tree", "way"] (spOf K T (spMade c j))) : FnOk P w K mg base CX0 (m + 9) f fd ["tree", "way"] (spOf K T (spMade c m)) := by
  refine fnD G scMade (fun ds w κ χ h => ?_) (fun cdv A' outer s H E ds w0 κ χ hr h => ?_)
  · obtain ⟨t, b, rfl, _⟩ := h
    rfl
  obtain ⟨t, b, rfl, ht, hz, h60, k⟩ := h
  have nd := scMade.nd
  have hsh := sh_of ht
  have r7 : Room 7 (A'.deeper (envOfC "_law_made" (defScope sMade) s.heap.objs.size f cdv)) := hr.mono (by omega)
  have r6 : Room 6 (A'.deeper (envOfC "_law_made" (defScope sMade) s.heap.objs.size f cdv)) := hr.mono (by omega)
  cases t with
  | tru v =>
    (refine pssd_cons (psd_set (i := 2) nd rfl ?_); refine pd_ix ix_tup ?_; refine pd_var (i := 0) rfl rfl ?_; refine pd_int ?_; refine vr_ixT (i := 0) rfl ?_)
    refine pssd_cons (psd_if ?_)
    (refine ptd_cmp op_eq ?_; refine pd_var (i := 2) rfl rfl ?_; refine pd_str ?_; refine vr_eqT true (by decide +kernel) ⟨_, rfl, ?_⟩)
    refine iteT ?_
    refine pssd_one (psd_ret ?_)
    refine pd_hasmk M.tr (hr.mono (by omega)) (fun _ => pass0At) ?_
    (refine pad_cons ?_; refine pd_ix ix_tup ?_; refine pd_var (i := 0) rfl rfl ?_; refine pd_int ?_; refine vr_ixT (i := 1) rfl ?_)
    refine pad_nil fun a dx na => ?_
    refine ⟨a, dx, v, rfl, wu_same, rfl, _, _, wu_same, ?_⟩
    rw [wu_wu, wd_wu na]
    exact k
  | fact n =>
    (refine pssd_cons (psd_set (i := 2) nd rfl ?_); refine pd_ix ix_tup ?_; refine pd_var (i := 0) rfl rfl ?_; refine pd_int ?_; refine vr_ixT (i := 0) rfl ?_)
    (refine pssd_cons (psd_if ?_); (refine ptd_cmp op_eq ?_; refine pd_var (i := 2) rfl rfl ?_; refine pd_str ?_; refine vr_eqT false (by decide +kernel) ⟨_, rfl, ?_⟩); refine iteF ?_; refine pssd_nil ?_)
    refine pssd_cons (psd_if ?_)
    (refine ptd_cmp op_eq ?_; refine pd_var (i := 2) rfl rfl ?_; refine pd_str ?_; refine vr_eqT true (by decide +kernel) ⟨_, rfl, ?_⟩)
    refine iteT ?_
    refine pssd_one (psd_ret ?_)
    refine pd_hasmk M.fa (hr.mono (by omega)) (fun _ => passLf) ?_
    (refine pad_cons ?_; refine pd_ix ix_tup ?_; refine pd_var (i := 0) rfl rfl ?_; refine pd_int ?_; refine vr_ixT (i := 1) rfl ?_)
    refine pad_nil fun a dx na => ?_
    have n8 : n.length ≤ 8 := hsh
    refine ⟨a, dx, n, rfl, wu_same, by omega, fun _ => ⟨rfl, _, _, wu_same, ?_⟩, fun no => absurd ht no⟩
    rw [wu_wu, wd_wu na]
    exact k
  | neg u =>
    have hs : u.size + 1 ≤ m := hz
    have h6 : u.size + 1 ≤ 60 := h60
    obtain ⟨j, rfl⟩ : ∃ j, m = j + 1 := ⟨m - 1, by omega⟩
    obtain ⟨fi, fdi, i1, i2, i3, i4⟩ := O.inv
    (refine pssd_cons (psd_set (i := 2) nd rfl ?_); refine pd_ix ix_tup ?_; refine pd_var (i := 0) rfl rfl ?_; refine pd_int ?_; refine vr_ixT (i := 0) rfl ?_)
    (refine pssd_cons (psd_if ?_); (refine ptd_cmp op_eq ?_; refine pd_var (i := 2) rfl rfl ?_; refine pd_str ?_; refine vr_eqT false (by decide +kernel) ⟨_, rfl, ?_⟩); refine iteF ?_; refine pssd_nil ?_)
    (refine pssd_cons (psd_if ?_); (refine ptd_cmp op_eq ?_; refine pd_var (i := 2) rfl rfl ?_; refine pd_str ?_; refine vr_eqT false (by decide +kernel) ⟨_, rfl, ?_⟩); refine iteF ?_; refine pssd_nil ?_)
    refine pssd_cons (psd_if ?_)
    (refine ptd_cmp op_eq ?_; refine pd_var (i := 2) rfl rfl ?_; refine pd_str ?_; refine vr_eqT true (by decide +kernel) ⟨_, rfl, ?_⟩)
    refine iteT ?_
    refine pssd_one (psd_ret ?_)
    refine pd_if ?_
    refine ptd_val ?_
    refine pd_var (i := 1) rfl rfl ?_
    refine ⟨b, rfl, ?_⟩
    cases b with
    | true =>
      refine iteT ?_
      refine pd_inv i1 r7 i2 i3 i4 ?_
      refine pd_call (ih j rfl) hr hf G.kp hb (fun _ => pass0At) ?_
      (refine pad_cons ?_; refine pd_ix ix_tup ?_; refine pd_var (i := 0) rfl rfl ?_; refine pd_int ?_; refine vr_ixT (i := 1) rfl ?_)
      (refine pad_cons ?_; refine pd_var (i := 1) rfl rfl ?_)
      refine pad_nil ⟨u, true, rfl, ht, by omega, by omega, ?_⟩
      obtain ⟨ns, es, e⟩ := say_is c u
      exact ⟨⟨_, ns, es, ⟨u, rfl⟩, e⟩, u, rfl, hsh, by omega, k⟩
    | false =>
      refine iteF ?_
      refine pd_hasmk M.ne r6 (fun _ => pass0At) ?_
      refine pad_cons ?_
      refine pd_call (ih j rfl) hr hf G.kp hb (fun _ => pass0At) ?_
      (refine pad_cons ?_; refine pd_ix ix_tup ?_; refine pd_var (i := 0) rfl rfl ?_; refine pd_int ?_; refine vr_ixT (i := 1) rfl ?_)
      (refine pad_cons ?_; refine pd_var (i := 1) rfl rfl ?_)
      refine pad_nil ⟨u, false, rfl, ht, by omega, by omega, ?_⟩
      refine pad_nil fun a dx na => ?_
      refine ⟨a, dx, u, rfl, wu_same, hsh, by omega, rfl, _, _, wu_same, ?_⟩
      rw [wu_wu, wd_wu na]
      exact k
  | bin q l r =>
    have hs : l.size + r.size + 1 ≤ m := hz
    have h6 : l.size + r.size + 1 ≤ 60 := h60
    obtain ⟨j, rfl⟩ : ∃ j, m = j + 1 := ⟨m - 1, by omega⟩
    obtain ⟨nl, el, hel⟩ := say_is c l
    obtain ⟨nr, er, her⟩ := say_is c r
    have two : ∀ (st : List Stmt) (Fi : DL.Fin), PSsD (cxOf CX0 P w K mg base NMade "_law_made" (defScope sMade) f cdv A' outer s H E).nox T Wf noX st [some (trD (.bin q l r)), some (B b), some (DL.T (binN q)), some (sayD c l), some (sayD c r), none] w0 Fi →
        PSsD (cxOf CX0 P w K mg base NMade "_law_made" (defScope sMade) f cdv A' outer s H E).nox T Wf noX (((match (defBody sMade).getD 4 (.Pass ⟨0, 0, 0, 0⟩) with | .If _ b _ _ => b | _ => []).take 2) ++ st) [some (trD (.bin q l r)), some (B b), some (DL.T (binN q)), none, none, none] w0 Fi := by
      intro st Fi hst
      refine pssd_cons (psd_set (i := 3) nd rfl ?_)
      refine pd_call (ih j rfl) hr hf G.kp hb (fun _ => pass0At) ?_
      (refine pad_cons ?_; refine pd_ix ix_tup ?_; refine pd_var (i := 0) rfl rfl ?_; refine pd_int ?_; refine vr_ixT (i := 1) rfl ?_)
      (refine pad_cons ?_; refine pd_var (i := 1) rfl rfl ?_)
      refine pad_nil ⟨l, b, rfl, ht.1, by omega, by omega, ?_⟩
      refine pssd_cons (psd_set (i := 4) nd rfl ?_)
      refine pd_call (ih j rfl) hr hf G.kp hb (fun _ => pass0At) ?_
      (refine pad_cons ?_; refine pd_ix ix_tup ?_; refine pd_var (i := 0) rfl rfl ?_; refine pd_int ?_; refine vr_ixT (i := 2) rfl ?_)
      (refine pad_cons ?_; refine pd_var (i := 1) rfl rfl ?_)
      exact pad_nil ⟨r, b, rfl, ht.2, by omega, by omega, hst⟩
    cases q with
    | true =>
      obtain ⟨fa, fda, a1, a2, a3⟩ := O.and
      (refine pssd_cons (psd_set (i := 2) nd rfl ?_); refine pd_ix ix_tup ?_; refine pd_var (i := 0) rfl rfl ?_; refine pd_int ?_; refine vr_ixT (i := 0) rfl ?_)
      (refine pssd_cons (psd_if ?_); (refine ptd_cmp op_eq ?_; refine pd_var (i := 2) rfl rfl ?_; refine pd_str ?_; refine vr_eqT false (by decide +kernel) ⟨_, rfl, ?_⟩); refine iteF ?_; refine pssd_nil ?_)
      (refine pssd_cons (psd_if ?_); (refine ptd_cmp op_eq ?_; refine pd_var (i := 2) rfl rfl ?_; refine pd_str ?_; refine vr_eqT false (by decide +kernel) ⟨_, rfl, ?_⟩); refine iteF ?_; refine pssd_nil ?_)
      (refine pssd_cons (psd_if ?_); (refine ptd_cmp op_eq ?_; refine pd_var (i := 2) rfl rfl ?_; refine pd_str ?_; refine vr_eqT false (by decide +kernel) ⟨_, rfl, ?_⟩); refine iteF ?_; refine pssd_nil ?_)
      refine pssd_cons (psd_if ?_)
      refine pwd_pt ?_
      refine pwd_or ?_
      (refine ptd_cmp op_eq ?_; refine pd_var (i := 2) rfl rfl ?_; refine pd_str ?_; refine vr_eqT true (by decide +kernel) ⟨_, rfl, ?_⟩)
      refine iteT ?_
      refine iteT ?_
      refine two _ _ ?_
      refine pssd_cons (psd_if ?_)
      (refine ptd_cmp op_eq ?_; refine pd_var (i := 2) rfl rfl ?_; refine pd_str ?_; refine vr_eqT true (by decide +kernel) ⟨_, rfl, ?_⟩)
      refine iteT ?_
      refine pssd_one (psd_ret ?_)
      refine pd_if ?_
      refine ptd_val ?_
      refine pd_var (i := 1) rfl rfl ?_
      refine ⟨b, rfl, ?_⟩
      cases b with
      | true =>
        refine iteT ?_
        refine pd_binF a2 a1 r7 a3 ?_
        refine pd_var (i := 3) rfl rfl ?_
        refine pd_var (i := 4) rfl rfl ?_
        refine ⟨⟨_, nl, el, ⟨l, rfl⟩, hel⟩, ⟨_, nr, er, ⟨r, rfl⟩, her⟩, l, r, rfl, hsh.1, hsh.2, by omega, by omega, ?_, k⟩
        obtain ⟨n2, e2, h2⟩ := say_is c (.bin true l r)
        exact ⟨_, n2, e2, h2⟩
      | false =>
        refine iteF ?_
        refine pd_hasmk M.an r6 (fun _ => pass0At) ?_
        (refine pad_cons ?_; refine pd_var (i := 3) rfl rfl ?_)
        (refine pad_cons ?_; refine pd_var (i := 4) rfl rfl ?_)
        refine pad_nil fun a dx na => ?_
        refine ⟨a, dx, l, r, rfl, wu_same, hsh.1, hsh.2, by omega, by omega, rfl, _, _, wu_same, ?_⟩
        rw [wu_wu, wd_wu na]
        exact k
    | false =>
      obtain ⟨fa, fda, a1, a2, a3⟩ := O.or
      (refine pssd_cons (psd_set (i := 2) nd rfl ?_); refine pd_ix ix_tup ?_; refine pd_var (i := 0) rfl rfl ?_; refine pd_int ?_; refine vr_ixT (i := 0) rfl ?_)
      (refine pssd_cons (psd_if ?_); (refine ptd_cmp op_eq ?_; refine pd_var (i := 2) rfl rfl ?_; refine pd_str ?_; refine vr_eqT false (by decide +kernel) ⟨_, rfl, ?_⟩); refine iteF ?_; refine pssd_nil ?_)
      (refine pssd_cons (psd_if ?_); (refine ptd_cmp op_eq ?_; refine pd_var (i := 2) rfl rfl ?_; refine pd_str ?_; refine vr_eqT false (by decide +kernel) ⟨_, rfl, ?_⟩); refine iteF ?_; refine pssd_nil ?_)
      (refine pssd_cons (psd_if ?_); (refine ptd_cmp op_eq ?_; refine pd_var (i := 2) rfl rfl ?_; refine pd_str ?_; refine vr_eqT false (by decide +kernel) ⟨_, rfl, ?_⟩); refine iteF ?_; refine pssd_nil ?_)
      refine pssd_cons (psd_if ?_)
      refine pwd_pt ?_
      refine pwd_or ?_
      (refine ptd_cmp op_eq ?_; refine pd_var (i := 2) rfl rfl ?_; refine pd_str ?_; refine vr_eqT false (by decide +kernel) ⟨_, rfl, ?_⟩)
      refine iteF ?_
      refine pwd_or1 ?_
      (refine ptd_cmp op_eq ?_; refine pd_var (i := 2) rfl rfl ?_; refine pd_str ?_; refine vr_eqT true (by decide +kernel) ⟨_, rfl, ?_⟩)
      refine iteT ?_
      refine two _ _ ?_
      (refine pssd_cons (psd_if ?_); (refine ptd_cmp op_eq ?_; refine pd_var (i := 2) rfl rfl ?_; refine pd_str ?_; refine vr_eqT false (by decide +kernel) ⟨_, rfl, ?_⟩); refine iteF ?_; refine pssd_nil ?_)
      refine pssd_one (psd_ret ?_)
      refine pd_if ?_
      refine ptd_val ?_
      refine pd_var (i := 1) rfl rfl ?_
      refine ⟨b, rfl, ?_⟩
      cases b with
      | true =>
        refine iteT ?_
        refine pd_binF a2 a1 r7 a3 ?_
        refine pd_var (i := 3) rfl rfl ?_
        refine pd_var (i := 4) rfl rfl ?_
        refine ⟨⟨_, nl, el, ⟨l, rfl⟩, hel⟩, ⟨_, nr, er, ⟨r, rfl⟩, her⟩, l, r, rfl, hsh.1, hsh.2, by omega, by omega, ?_, k⟩
        obtain ⟨n2, e2, h2⟩ := say_is c (.bin false l r)
        exact ⟨_, n2, e2, h2⟩
      | false =>
        refine iteF ?_
        refine pd_hasmk M.or r6 (fun _ => pass0At) ?_
        (refine pad_cons ?_; refine pd_var (i := 3) rfl rfl ?_)
        (refine pad_cons ?_; refine pd_var (i := 4) rfl rfl ?_)
        refine pad_nil fun a dx na => ?_
        refine ⟨a, dx, l, r, rfl, wu_same, hsh.1, hsh.2, by omega, by omega, rfl, _, _, wu_same, ?_⟩
        rw [wu_wu, wd_wu na]
        exact k
  | md q g u =>
    have hs : u.size + 1 ≤ m := hz
    have h6 : u.size + 1 ≤ 60 := h60
    obtain ⟨j, rfl⟩ : ∃ j, m = j + 1 := ⟨m - 1, by omega⟩
    have gok : GroupOk g := ht.1
    have g8 := group_len gok
    have under : ∀ (st : List Stmt) (Fi : DL.Fin), PSsD (cxOf CX0 P w K mg base NMade "_law_made" (defScope sMade) f cdv A' outer s H E).nox T Wf noX st [some (trD (.md q g u)), some (B b), some (DL.T q.nm), none, none, some (sayD c u)] w0 Fi →
        PSsD (cxOf CX0 P w K mg base NMade "_law_made" (defScope sMade) f cdv A' outer s H E).nox T Wf noX ((((defBody sMade).drop 5).take 1) ++ st) [some (trD (.md q g u)), some (B b), some (DL.T q.nm), none, none, none] w0 Fi := by
      intro st Fi hst
      refine pssd_cons (psd_set (i := 5) nd rfl ?_)
      refine pd_call (ih j rfl) hr hf G.kp hb (fun _ => pass0At) ?_
      (refine pad_cons ?_; refine pd_ix ix_tup ?_; refine pd_var (i := 0) rfl rfl ?_; refine pd_int ?_; refine vr_ixT (i := 2) rfl ?_)
      (refine pad_cons ?_; refine pd_var (i := 1) rfl rfl ?_)
      exact pad_nil ⟨u, b, rfl, ht.2, by omega, by omega, hst⟩
    cases q with
    | kn =>
      (refine pssd_cons (psd_set (i := 2) nd rfl ?_); refine pd_ix ix_tup ?_; refine pd_var (i := 0) rfl rfl ?_; refine pd_int ?_; refine vr_ixT (i := 0) rfl ?_)
      (refine pssd_cons (psd_if ?_); (refine ptd_cmp op_eq ?_; refine pd_var (i := 2) rfl rfl ?_; refine pd_str ?_; refine vr_eqT false (by decide +kernel) ⟨_, rfl, ?_⟩); refine iteF ?_; refine pssd_nil ?_)
      (refine pssd_cons (psd_if ?_); (refine ptd_cmp op_eq ?_; refine pd_var (i := 2) rfl rfl ?_; refine pd_str ?_; refine vr_eqT false (by decide +kernel) ⟨_, rfl, ?_⟩); refine iteF ?_; refine pssd_nil ?_)
      (refine pssd_cons (psd_if ?_); (refine ptd_cmp op_eq ?_; refine pd_var (i := 2) rfl rfl ?_; refine pd_str ?_; refine vr_eqT false (by decide +kernel) ⟨_, rfl, ?_⟩); refine iteF ?_; refine pssd_nil ?_)
      (refine pssd_cons (psd_if ?_); refine pwd_pt ?_; refine pwd_or ?_; (refine ptd_cmp op_eq ?_; refine pd_var (i := 2) rfl rfl ?_; refine pd_str ?_; refine vr_eqT false (by decide +kernel) ⟨_, rfl, ?_⟩); refine iteF ?_; refine pwd_or1 ?_; (refine ptd_cmp op_eq ?_; refine pd_var (i := 2) rfl rfl ?_; refine pd_str ?_; refine vr_eqT false (by decide +kernel) ⟨_, rfl, ?_⟩); refine iteF ?_; refine pssd_nil ?_)
      refine under _ _ ?_
      refine pssd_cons (psd_if ?_)
      (refine ptd_cmp op_eq ?_; refine pd_var (i := 2) rfl rfl ?_; refine pd_str ?_; refine vr_eqT true (by decide +kernel) ⟨_, rfl, ?_⟩)
      refine iteT ?_
      refine pssd_one (psd_ret ?_)
      refine pd_hasmk M.kn r6 (fun _ => passLf) ?_
      (refine pad_cons ?_; refine pd_ix ix_tup ?_; refine pd_var (i := 0) rfl rfl ?_; refine pd_int ?_; refine vr_ixT (i := 1) rfl ?_)
      (refine pad_cons ?_; refine pd_var (i := 5) rfl rfl ?_)
      refine pad_nil fun a dx na => ?_
      refine ⟨a, dx, g, u, rfl, wu_same, by omega, hsh.2, by omega, fun _ => ⟨rfl, _, _, wu_same, ?_⟩, fun no => absurd gok no⟩
      rw [wu_wu, wd_wu na]
      exact k
    | wh =>
      (refine pssd_cons (psd_set (i := 2) nd rfl ?_); refine pd_ix ix_tup ?_; refine pd_var (i := 0) rfl rfl ?_; refine pd_int ?_; refine vr_ixT (i := 0) rfl ?_)
      (refine pssd_cons (psd_if ?_); (refine ptd_cmp op_eq ?_; refine pd_var (i := 2) rfl rfl ?_; refine pd_str ?_; refine vr_eqT false (by decide +kernel) ⟨_, rfl, ?_⟩); refine iteF ?_; refine pssd_nil ?_)
      (refine pssd_cons (psd_if ?_); (refine ptd_cmp op_eq ?_; refine pd_var (i := 2) rfl rfl ?_; refine pd_str ?_; refine vr_eqT false (by decide +kernel) ⟨_, rfl, ?_⟩); refine iteF ?_; refine pssd_nil ?_)
      (refine pssd_cons (psd_if ?_); (refine ptd_cmp op_eq ?_; refine pd_var (i := 2) rfl rfl ?_; refine pd_str ?_; refine vr_eqT false (by decide +kernel) ⟨_, rfl, ?_⟩); refine iteF ?_; refine pssd_nil ?_)
      (refine pssd_cons (psd_if ?_); refine pwd_pt ?_; refine pwd_or ?_; (refine ptd_cmp op_eq ?_; refine pd_var (i := 2) rfl rfl ?_; refine pd_str ?_; refine vr_eqT false (by decide +kernel) ⟨_, rfl, ?_⟩); refine iteF ?_; refine pwd_or1 ?_; (refine ptd_cmp op_eq ?_; refine pd_var (i := 2) rfl rfl ?_; refine pd_str ?_; refine vr_eqT false (by decide +kernel) ⟨_, rfl, ?_⟩); refine iteF ?_; refine pssd_nil ?_)
      refine under _ _ ?_
      (refine pssd_cons (psd_if ?_); (refine ptd_cmp op_eq ?_; refine pd_var (i := 2) rfl rfl ?_; refine pd_str ?_; refine vr_eqT false (by decide +kernel) ⟨_, rfl, ?_⟩); refine iteF ?_; refine pssd_nil ?_)
      refine pssd_cons (psd_if ?_)
      (refine ptd_cmp op_eq ?_; refine pd_var (i := 2) rfl rfl ?_; refine pd_str ?_; refine vr_eqT true (by decide +kernel) ⟨_, rfl, ?_⟩)
      refine iteT ?_
      refine pssd_one (psd_ret ?_)
      refine pd_hasmk M.wh r6 (fun _ => passLf) ?_
      (refine pad_cons ?_; refine pd_ix ix_tup ?_; refine pd_var (i := 0) rfl rfl ?_; refine pd_int ?_; refine vr_ixT (i := 1) rfl ?_)
      (refine pad_cons ?_; refine pd_var (i := 5) rfl rfl ?_)
      refine pad_nil fun a dx na => ?_
      refine ⟨a, dx, g, u, rfl, wu_same, by omega, hsh.2, by omega, fun _ => ⟨rfl, _, _, wu_same, ?_⟩, fun no => absurd gok no⟩
      rw [wu_wu, wd_wu na]
      exact k
    | co =>
      (refine pssd_cons (psd_set (i := 2) nd rfl ?_); refine pd_ix ix_tup ?_; refine pd_var (i := 0) rfl rfl ?_; refine pd_int ?_; refine vr_ixT (i := 0) rfl ?_)
      (refine pssd_cons (psd_if ?_); (refine ptd_cmp op_eq ?_; refine pd_var (i := 2) rfl rfl ?_; refine pd_str ?_; refine vr_eqT false (by decide +kernel) ⟨_, rfl, ?_⟩); refine iteF ?_; refine pssd_nil ?_)
      (refine pssd_cons (psd_if ?_); (refine ptd_cmp op_eq ?_; refine pd_var (i := 2) rfl rfl ?_; refine pd_str ?_; refine vr_eqT false (by decide +kernel) ⟨_, rfl, ?_⟩); refine iteF ?_; refine pssd_nil ?_)
      (refine pssd_cons (psd_if ?_); (refine ptd_cmp op_eq ?_; refine pd_var (i := 2) rfl rfl ?_; refine pd_str ?_; refine vr_eqT false (by decide +kernel) ⟨_, rfl, ?_⟩); refine iteF ?_; refine pssd_nil ?_)
      (refine pssd_cons (psd_if ?_); refine pwd_pt ?_; refine pwd_or ?_; (refine ptd_cmp op_eq ?_; refine pd_var (i := 2) rfl rfl ?_; refine pd_str ?_; refine vr_eqT false (by decide +kernel) ⟨_, rfl, ?_⟩); refine iteF ?_; refine pwd_or1 ?_; (refine ptd_cmp op_eq ?_; refine pd_var (i := 2) rfl rfl ?_; refine pd_str ?_; refine vr_eqT false (by decide +kernel) ⟨_, rfl, ?_⟩); refine iteF ?_; refine pssd_nil ?_)
      refine under _ _ ?_
      (refine pssd_cons (psd_if ?_); (refine ptd_cmp op_eq ?_; refine pd_var (i := 2) rfl rfl ?_; refine pd_str ?_; refine vr_eqT false (by decide +kernel) ⟨_, rfl, ?_⟩); refine iteF ?_; refine pssd_nil ?_)
      (refine pssd_cons (psd_if ?_); (refine ptd_cmp op_eq ?_; refine pd_var (i := 2) rfl rfl ?_; refine pd_str ?_; refine vr_eqT false (by decide +kernel) ⟨_, rfl, ?_⟩); refine iteF ?_; refine pssd_nil ?_)
      refine pssd_one (psd_ret ?_)
      refine pd_hasmk M.co r6 (fun _ => passLf) ?_
      (refine pad_cons ?_; refine pd_ix ix_tup ?_; refine pd_var (i := 0) rfl rfl ?_; refine pd_int ?_; refine vr_ixT (i := 1) rfl ?_)
      (refine pad_cons ?_; refine pd_var (i := 5) rfl rfl ?_)
      refine pad_nil fun a dx na => ?_
      refine ⟨a, dx, g, u, rfl, wu_same, by omega, hsh.2, by omega, fun _ => ⟨rfl, _, _, wu_same, ?_⟩, fun no => absurd gok no⟩
      rw [wu_wu, wd_wu na]
      exact k
theorem ok_made {f : Addr} {fd : FuncData} (G : Fun K "_law_made" "_law_made" sMade f fd) (hf : mg "_law_made" = some (.ref f)) (hb : Binds K fd ["tree", "way"] []) (A : SayAll K fS c) (O : OpsK P w K mg base T c) (M : MksK P w K mg base T c CN CG) : ∀ m : Nat, FnOk P w K mg base CX0 (m + 9) f fd ["tree", "way"] (spOf K T (spMade c m))
  | 0 => made_step G hf hb A O M 0 fun j h => by cases h
  | m + 1 => made_step G hf hb A O M (m + 1) fun j h => by
    cases h
    exact ok_made G hf hb A O M m
end
end Tw

set_option Elab.async false
set_option linter.all false
set_option maxRecDepth 100000
set_option maxHeartbeats 2000000
/-! The law's _law_agrees, _law_plain, _law_depth, _law_positive. -/
namespace Tw
open PySem PySem.Spec PyProof.Rows L2 LamX DL
abbrev sPln : Stmt := top 37
abbrev sDep : Stmt := top 38
abbrev sPos : Stmt := top 39
theorem say_value {c : SC} {b : Bool} {w : Wp} : FldD c.cT "value" (sayD c (.tru b)) w (B b) := ⟨rfl, rfl⟩
theorem say_first {c : SC} {a : Bool} {l r : Tr} {w : Wp} : FldD (c.bi a) "first" (sayD c (.bin a l r)) w (sayD c l) := ⟨rfl, rfl⟩
theorem say_second {c : SC} {a : Bool} {l r : Tr} {w : Wp} : FldD (c.bi a) "second" (sayD c (.bin a l r)) w (sayD c r) := ⟨rfl, rfl⟩
section
variable {P : Program} {w : PySem.World} {K : PySem.W.Frag} {mg : Str → Option Value} {base : Heap} {T : List (Addr × Str)} {c : SC} {cS fS CG CC CN : Addr}
theorem scAgr : FnScope ["saying", "tree", "kind"] ["saying", "tree"] (defScope sAgr) := ⟨rfl, rfl, rfl, by decide +kernel, rfl, by decide +kernel, by decide +kernel⟩
theorem agr_step {f : Addr} {fd : FuncData} (G : Fun K "_law_agrees" "_law_agrees" sAgr f fd) (hf : mg "_law_agrees" = some (.ref f)) (hb : Binds K fd ["saying", "tree"] []) (hm : Nm2 mg) (hs : NmS mg c cS) (Q : SayQ K c cS) (A : SayAll K fS c) (I : SayI K c) (hS : ∀ n, HasF P w K mg base T CX0 "_law_same" (n + 1) ["actual", "due"] (spSame n)) (m : Nat)
    (ih : ∀ j, m = j + 1 → FnOk P w K mg base CX0 (m + 1) f fd ["saying", "tree"] (spOf K T (spAgr c j))) : FnOk P w K mg base CX0 (m + 2) f fd ["saying", "tree"] (spOf K T (spAgr c m)) := by
  refine fnD G scAgr (fun ds w κ χ h => ?_) (fun cdv A' outer s H E ds w0 κ χ hr h => ?_)
  · obtain ⟨t, rfl, _⟩ := h
    rfl
  obtain ⟨t, rfl, hz, k⟩ := h
  have nd := scAgr.nd
  have r1 : Room 1 (A'.deeper (envOfC "_law_agrees" (defScope sAgr) s.heap.objs.size f cdv)) := hr.mono (by omega)
  cases t with
  | tru v =>
    (refine pssd_cons (psd_set (i := 2) nd rfl ?_); refine pd_ix ix_tup ?_; refine pd_var (i := 1) rfl rfl ?_; refine pd_int ?_; refine vr_ixT (i := 0) rfl ?_; refine pssd_cons (psd_if ?_); refine ptd_not ?_; refine ptd_val ?_; refine pd_callB call_isi rfl hm.isinstance PyProof.Rows.boot_isinstance ?_; (refine pad_cons ?_; refine pd_var (i := 0) rfl rfl ?_); refine pad_cons ?_; refine pd_glob (v := .ref cS) hs.mS rfl ?_; refine pad_nil ?_; refine va_isC (say_ty Q _) (Q.base _) ⟨_, rfl, ?_⟩; refine iteF ?_; refine pssd_nil ?_)
    refine pssd_cons (psd_if ?_)
    (refine ptd_cmp op_eq ?_; refine pd_var (i := 2) rfl rfl ?_; refine pd_str ?_; refine vr_eqT true (by decide +kernel) ⟨_, rfl, ?_⟩)
    refine iteT ?_
    refine pssd_one (psd_ret ?_)
    refine pd_and ?_
    (refine pd_callB call_isi rfl hm.isinstance PyProof.Rows.boot_isinstance ?_; (refine pad_cons ?_; refine pd_var (i := 0) rfl rfl ?_); refine pad_cons ?_; refine pd_glob (v := .ref (c.cls (.tr))) (hs.mT) rfl ?_; refine pad_nil ?_; refine va_isC (say_ty Q _) (Q.one _ (.tr)) ?_)
    refine ⟨true, rfl, ?_⟩
    refine iteT ?_
    refine pd_one ?_
    refine pd_has (hS 0) r1 (fun _ => pass0At) ?_
    refine pad_cons ?_
    refine pd_fld (A (.tru v)).cl I.nv ?_
    refine pd_var (i := 0) rfl rfl ?_
    refine ⟨_, say_value, ?_⟩
    (refine pad_cons ?_; refine pd_ix ix_tup ?_; refine pd_var (i := 1) rfl rfl ?_; refine pd_int ?_; refine vr_ixT (i := 1) rfl ?_)
    exact pad_nil ⟨_, _, rfl, .inl (.inl (.bl v)), k⟩
  | fact n =>
    (refine pssd_cons (psd_set (i := 2) nd rfl ?_); refine pd_ix ix_tup ?_; refine pd_var (i := 1) rfl rfl ?_; refine pd_int ?_; refine vr_ixT (i := 0) rfl ?_; refine pssd_cons (psd_if ?_); refine ptd_not ?_; refine ptd_val ?_; refine pd_callB call_isi rfl hm.isinstance PyProof.Rows.boot_isinstance ?_; (refine pad_cons ?_; refine pd_var (i := 0) rfl rfl ?_); refine pad_cons ?_; refine pd_glob (v := .ref cS) hs.mS rfl ?_; refine pad_nil ?_; refine va_isC (say_ty Q _) (Q.base _) ⟨_, rfl, ?_⟩; refine iteF ?_; refine pssd_nil ?_)
    (refine pssd_cons (psd_if ?_); (refine ptd_cmp op_eq ?_; refine pd_var (i := 2) rfl rfl ?_; refine pd_str ?_; refine vr_eqT false (by decide +kernel) ⟨_, rfl, ?_⟩); refine iteF ?_; refine pssd_nil ?_)
    refine pssd_cons (psd_if ?_)
    (refine ptd_cmp op_eq ?_; refine pd_var (i := 2) rfl rfl ?_; refine pd_str ?_; refine vr_eqT true (by decide +kernel) ⟨_, rfl, ?_⟩)
    refine iteT ?_
    refine pssd_one (psd_ret ?_)
    refine pd_and ?_
    (refine pd_callB call_isi rfl hm.isinstance PyProof.Rows.boot_isinstance ?_; (refine pad_cons ?_; refine pd_var (i := 0) rfl rfl ?_); refine pad_cons ?_; refine pd_glob (v := .ref (c.cls (.fa))) (hs.mF) rfl ?_; refine pad_nil ?_; refine va_isC (say_ty Q _) (Q.one _ (.fa)) ?_)
    refine ⟨true, rfl, ?_⟩
    refine iteT ?_
    refine pd_one ?_
    refine pd_has (hS 0) r1 (fun _ => pass0At) ?_
    refine pad_cons ?_
    refine pd_fld (A (.fact n)).cl I.nn ?_
    refine pd_var (i := 0) rfl rfl ?_
    refine ⟨_, say_name, ?_⟩
    (refine pad_cons ?_; refine pd_ix ix_tup ?_; refine pd_var (i := 1) rfl rfl ?_; refine pd_int ?_; refine vr_ixT (i := 1) rfl ?_)
    exact pad_nil ⟨_, _, rfl, .inl (.inl (.str n)), k⟩
  | neg u =>
    have hs1 : u.size + 1 ≤ m := hz
    obtain ⟨j, rfl⟩ : ∃ j, m = j + 1 := ⟨m - 1, by omega⟩
    (refine pssd_cons (psd_set (i := 2) nd rfl ?_); refine pd_ix ix_tup ?_; refine pd_var (i := 1) rfl rfl ?_; refine pd_int ?_; refine vr_ixT (i := 0) rfl ?_; refine pssd_cons (psd_if ?_); refine ptd_not ?_; refine ptd_val ?_; refine pd_callB call_isi rfl hm.isinstance PyProof.Rows.boot_isinstance ?_; (refine pad_cons ?_; refine pd_var (i := 0) rfl rfl ?_); refine pad_cons ?_; refine pd_glob (v := .ref cS) hs.mS rfl ?_; refine pad_nil ?_; refine va_isC (say_ty Q _) (Q.base _) ⟨_, rfl, ?_⟩; refine iteF ?_; refine pssd_nil ?_)
    (refine pssd_cons (psd_if ?_); (refine ptd_cmp op_eq ?_; refine pd_var (i := 2) rfl rfl ?_; refine pd_str ?_; refine vr_eqT false (by decide +kernel) ⟨_, rfl, ?_⟩); refine iteF ?_; refine pssd_nil ?_)
    (refine pssd_cons (psd_if ?_); (refine ptd_cmp op_eq ?_; refine pd_var (i := 2) rfl rfl ?_; refine pd_str ?_; refine vr_eqT false (by decide +kernel) ⟨_, rfl, ?_⟩); refine iteF ?_; refine pssd_nil ?_)
    refine pssd_cons (psd_if ?_)
    (refine ptd_cmp op_eq ?_; refine pd_var (i := 2) rfl rfl ?_; refine pd_str ?_; refine vr_eqT true (by decide +kernel) ⟨_, rfl, ?_⟩)
    refine iteT ?_
    refine pssd_one (psd_ret ?_)
    refine pd_and ?_
    (refine pd_callB call_isi rfl hm.isinstance PyProof.Rows.boot_isinstance ?_; (refine pad_cons ?_; refine pd_var (i := 0) rfl rfl ?_); refine pad_cons ?_; refine pd_glob (v := .ref (c.cls (.ne))) (hs.mN) rfl ?_; refine pad_nil ?_; refine va_isC (say_ty Q _) (Q.one _ (.ne)) ?_)
    refine ⟨true, rfl, ?_⟩
    refine iteT ?_
    refine pd_one ?_
    refine pd_call (ih j rfl) hr hf G.kp hb (fun _ => pass0At) ?_
    refine pad_cons ?_
    refine pd_fld (A (.neg u)).cl I.ni ?_
    refine pd_var (i := 0) rfl rfl ?_
    refine ⟨_, say_innerN, ?_⟩
    (refine pad_cons ?_; refine pd_ix ix_tup ?_; refine pd_var (i := 1) rfl rfl ?_; refine pd_int ?_; refine vr_ixT (i := 1) rfl ?_)
    exact pad_nil ⟨u, rfl, by omega, k⟩
  | bin q l r =>
    have hs1 : l.size + r.size + 1 ≤ m := hz
    obtain ⟨j, rfl⟩ : ∃ j, m = j + 1 := ⟨m - 1, by omega⟩
    have fin : ∀ (Fi : DL.Fin), Fi.rt = κ → PSsD (cxOf CX0 P w K mg base ["saying", "tree", "kind"] "_law_agrees" (defScope sAgr) f cdv A' outer s H E).nox T Wf noX ((match (defBody sAgr).getD 5 (.Pass ⟨0, 0, 0, 0⟩) with | .If _ b _ _ => b | _ => []).drop 1) [some (sayD c (.bin q l r)), some (trD (.bin q l r)), some (DL.T (binN q))] w0 Fi := by
      intro Fi hFi
      refine pssd_one (psd_ret ?_)
      rw [hFi]
      refine pd_and ?_
      refine pd_call (ih j rfl) hr hf G.kp hb (fun _ => pass0At) ?_
      refine pad_cons ?_
      refine pd_fld (A (.bin q l r)).cl (I.n1 q) ?_
      refine pd_var (i := 0) rfl rfl ?_
      refine ⟨_, say_first, ?_⟩
      (refine pad_cons ?_; refine pd_ix ix_tup ?_; refine pd_var (i := 1) rfl rfl ?_; refine pd_int ?_; refine vr_ixT (i := 1) rfl ?_)
      refine pad_nil ⟨l, rfl, by omega, true, rfl, ?_⟩
      refine iteT ?_
      refine pd_one ?_
      refine pd_call (ih j rfl) hr hf G.kp hb (fun _ => pass0At) ?_
      refine pad_cons ?_
      refine pd_fld (A (.bin q l r)).cl (I.n2 q) ?_
      refine pd_var (i := 0) rfl rfl ?_
      refine ⟨_, say_second, ?_⟩
      (refine pad_cons ?_; refine pd_ix ix_tup ?_; refine pd_var (i := 1) rfl rfl ?_; refine pd_int ?_; refine vr_ixT (i := 2) rfl ?_)
      exact pad_nil ⟨r, rfl, by omega, k⟩
    cases q with
    | true =>
      (refine pssd_cons (psd_set (i := 2) nd rfl ?_); refine pd_ix ix_tup ?_; refine pd_var (i := 1) rfl rfl ?_; refine pd_int ?_; refine vr_ixT (i := 0) rfl ?_; refine pssd_cons (psd_if ?_); refine ptd_not ?_; refine ptd_val ?_; refine pd_callB call_isi rfl hm.isinstance PyProof.Rows.boot_isinstance ?_; (refine pad_cons ?_; refine pd_var (i := 0) rfl rfl ?_); refine pad_cons ?_; refine pd_glob (v := .ref cS) hs.mS rfl ?_; refine pad_nil ?_; refine va_isC (say_ty Q _) (Q.base _) ⟨_, rfl, ?_⟩; refine iteF ?_; refine pssd_nil ?_)
      (refine pssd_cons (psd_if ?_); (refine ptd_cmp op_eq ?_; refine pd_var (i := 2) rfl rfl ?_; refine pd_str ?_; refine vr_eqT false (by decide +kernel) ⟨_, rfl, ?_⟩); refine iteF ?_; refine pssd_nil ?_)
      (refine pssd_cons (psd_if ?_); (refine ptd_cmp op_eq ?_; refine pd_var (i := 2) rfl rfl ?_; refine pd_str ?_; refine vr_eqT false (by decide +kernel) ⟨_, rfl, ?_⟩); refine iteF ?_; refine pssd_nil ?_)
      (refine pssd_cons (psd_if ?_); (refine ptd_cmp op_eq ?_; refine pd_var (i := 2) rfl rfl ?_; refine pd_str ?_; refine vr_eqT false (by decide +kernel) ⟨_, rfl, ?_⟩); refine iteF ?_; refine pssd_nil ?_)
      refine pssd_cons (psd_if ?_)
      refine pwd_pt ?_
      refine pwd_or ?_
      (refine ptd_cmp op_eq ?_; refine pd_var (i := 2) rfl rfl ?_; refine pd_str ?_; refine vr_eqT true (by decide +kernel) ⟨_, rfl, ?_⟩)
      refine iteT ?_
      refine iteT ?_
      refine pssd_cons (psd_if ?_)
      refine pwd_pt ?_
      refine pwd_or ?_
      refine pwd_pt ?_
      refine pwd_and ?_
      (refine ptd_cmp op_eq ?_; refine pd_var (i := 2) rfl rfl ?_; refine pd_str ?_; refine vr_eqT true (by decide +kernel) ⟨_, rfl, ?_⟩)
      refine iteT ?_
      refine pwd_and1 ?_
      refine ptd_not ?_
      refine ptd_val ?_
      (refine pd_callB call_isi rfl hm.isinstance PyProof.Rows.boot_isinstance ?_; (refine pad_cons ?_; refine pd_var (i := 0) rfl rfl ?_); refine pad_cons ?_; refine pd_glob (v := .ref (c.cls (.an))) (hs.mA) rfl ?_; refine pad_nil ?_; refine va_isC (say_ty Q _) (Q.one _ (.an)) ?_)
      refine ⟨true, rfl, ?_⟩
      refine iteF ?_
      refine pwd_or1 ?_
      refine pwd_pt ?_
      refine pwd_and ?_
      (refine ptd_cmp op_eq ?_; refine pd_var (i := 2) rfl rfl ?_; refine pd_str ?_; refine vr_eqT false (by decide +kernel) ⟨_, rfl, ?_⟩)
      refine iteF ?_
      refine iteF ?_
      refine pssd_nil ?_
      exact fin _ rfl
    | false =>
      (refine pssd_cons (psd_set (i := 2) nd rfl ?_); refine pd_ix ix_tup ?_; refine pd_var (i := 1) rfl rfl ?_; refine pd_int ?_; refine vr_ixT (i := 0) rfl ?_; refine pssd_cons (psd_if ?_); refine ptd_not ?_; refine ptd_val ?_; refine pd_callB call_isi rfl hm.isinstance PyProof.Rows.boot_isinstance ?_; (refine pad_cons ?_; refine pd_var (i := 0) rfl rfl ?_); refine pad_cons ?_; refine pd_glob (v := .ref cS) hs.mS rfl ?_; refine pad_nil ?_; refine va_isC (say_ty Q _) (Q.base _) ⟨_, rfl, ?_⟩; refine iteF ?_; refine pssd_nil ?_)
      (refine pssd_cons (psd_if ?_); (refine ptd_cmp op_eq ?_; refine pd_var (i := 2) rfl rfl ?_; refine pd_str ?_; refine vr_eqT false (by decide +kernel) ⟨_, rfl, ?_⟩); refine iteF ?_; refine pssd_nil ?_)
      (refine pssd_cons (psd_if ?_); (refine ptd_cmp op_eq ?_; refine pd_var (i := 2) rfl rfl ?_; refine pd_str ?_; refine vr_eqT false (by decide +kernel) ⟨_, rfl, ?_⟩); refine iteF ?_; refine pssd_nil ?_)
      (refine pssd_cons (psd_if ?_); (refine ptd_cmp op_eq ?_; refine pd_var (i := 2) rfl rfl ?_; refine pd_str ?_; refine vr_eqT false (by decide +kernel) ⟨_, rfl, ?_⟩); refine iteF ?_; refine pssd_nil ?_)
      refine pssd_cons (psd_if ?_)
      refine pwd_pt ?_
      refine pwd_or ?_
      (refine ptd_cmp op_eq ?_; refine pd_var (i := 2) rfl rfl ?_; refine pd_str ?_; refine vr_eqT false (by decide +kernel) ⟨_, rfl, ?_⟩)
      refine iteF ?_
      refine pwd_or1 ?_
      (refine ptd_cmp op_eq ?_; refine pd_var (i := 2) rfl rfl ?_; refine pd_str ?_; refine vr_eqT true (by decide +kernel) ⟨_, rfl, ?_⟩)
      refine iteT ?_
      refine pssd_cons (psd_if ?_)
      refine pwd_pt ?_
      refine pwd_or ?_
      refine pwd_pt ?_
      refine pwd_and ?_
      (refine ptd_cmp op_eq ?_; refine pd_var (i := 2) rfl rfl ?_; refine pd_str ?_; refine vr_eqT false (by decide +kernel) ⟨_, rfl, ?_⟩)
      refine iteF ?_
      refine iteF ?_
      refine pwd_or1 ?_
      refine pwd_pt ?_
      refine pwd_and ?_
      (refine ptd_cmp op_eq ?_; refine pd_var (i := 2) rfl rfl ?_; refine pd_str ?_; refine vr_eqT true (by decide +kernel) ⟨_, rfl, ?_⟩)
      refine iteT ?_
      refine pwd_and1 ?_
      refine ptd_not ?_
      refine ptd_val ?_
      (refine pd_callB call_isi rfl hm.isinstance PyProof.Rows.boot_isinstance ?_; (refine pad_cons ?_; refine pd_var (i := 0) rfl rfl ?_); refine pad_cons ?_; refine pd_glob (v := .ref (c.cls (.or))) (hs.mO) rfl ?_; refine pad_nil ?_; refine va_isC (say_ty Q _) (Q.one _ (.or)) ?_)
      refine ⟨true, rfl, ?_⟩
      refine iteF ?_
      refine pssd_nil ?_
      exact fin _ rfl
  | md q g u =>
    have hs1 : u.size + 1 ≤ m := hz
    obtain ⟨j, rfl⟩ : ∃ j, m = j + 1 := ⟨m - 1, by omega⟩
    have fin : PSsD (cxOf CX0 P w K mg base ["saying", "tree", "kind"] "_law_agrees" (defScope sAgr) f cdv A' outer s H E).nox T Wf noX ((defBody sAgr).drop 9) [some (sayD c (.md q g u)), some (trD (.md q g u)), some (DL.T q.nm)] w0 { nx := fun _ w' => κ DL.N w', rt := κ } := by
      refine pssd_one (psd_ret ?_)
      refine pd_and ?_
      refine pd_has (hS 0) r1 (fun _ => pass0At) ?_
      refine pad_cons ?_
      refine pd_fld (A (.md q g u)).cl (I.ng q) ?_
      refine pd_var (i := 0) rfl rfl ?_
      refine ⟨_, say_group, ?_⟩
      (refine pad_cons ?_; refine pd_ix ix_tup ?_; refine pd_var (i := 1) rfl rfl ?_; refine pd_int ?_; refine vr_ixT (i := 1) rfl ?_)
      refine pad_nil ⟨_, _, rfl, .inl (.inl (.str g)), true, rfl, ?_⟩
      refine iteT ?_
      refine pd_one ?_
      refine pd_call (ih j rfl) hr hf G.kp hb (fun _ => pass0At) ?_
      refine pad_cons ?_
      refine pd_fld (A (.md q g u)).cl (I.nj q) ?_
      refine pd_var (i := 0) rfl rfl ?_
      refine ⟨_, say_inner, ?_⟩
      (refine pad_cons ?_; refine pd_ix ix_tup ?_; refine pd_var (i := 1) rfl rfl ?_; refine pd_int ?_; refine vr_ixT (i := 2) rfl ?_)
      exact pad_nil ⟨u, rfl, by omega, k⟩
    cases q with
    | kn =>
      (refine pssd_cons (psd_set (i := 2) nd rfl ?_); refine pd_ix ix_tup ?_; refine pd_var (i := 1) rfl rfl ?_; refine pd_int ?_; refine vr_ixT (i := 0) rfl ?_; refine pssd_cons (psd_if ?_); refine ptd_not ?_; refine ptd_val ?_; refine pd_callB call_isi rfl hm.isinstance PyProof.Rows.boot_isinstance ?_; (refine pad_cons ?_; refine pd_var (i := 0) rfl rfl ?_); refine pad_cons ?_; refine pd_glob (v := .ref cS) hs.mS rfl ?_; refine pad_nil ?_; refine va_isC (say_ty Q _) (Q.base _) ⟨_, rfl, ?_⟩; refine iteF ?_; refine pssd_nil ?_)
      (refine pssd_cons (psd_if ?_); (refine ptd_cmp op_eq ?_; refine pd_var (i := 2) rfl rfl ?_; refine pd_str ?_; refine vr_eqT false (by decide +kernel) ⟨_, rfl, ?_⟩); refine iteF ?_; refine pssd_nil ?_)
      (refine pssd_cons (psd_if ?_); (refine ptd_cmp op_eq ?_; refine pd_var (i := 2) rfl rfl ?_; refine pd_str ?_; refine vr_eqT false (by decide +kernel) ⟨_, rfl, ?_⟩); refine iteF ?_; refine pssd_nil ?_)
      (refine pssd_cons (psd_if ?_); (refine ptd_cmp op_eq ?_; refine pd_var (i := 2) rfl rfl ?_; refine pd_str ?_; refine vr_eqT false (by decide +kernel) ⟨_, rfl, ?_⟩); refine iteF ?_; refine pssd_nil ?_)
      (refine pssd_cons (psd_if ?_); refine pwd_pt ?_; refine pwd_or ?_; (refine ptd_cmp op_eq ?_; refine pd_var (i := 2) rfl rfl ?_; refine pd_str ?_; refine vr_eqT false (by decide +kernel) ⟨_, rfl, ?_⟩); refine iteF ?_; refine pwd_or1 ?_; (refine ptd_cmp op_eq ?_; refine pd_var (i := 2) rfl rfl ?_; refine pd_str ?_; refine vr_eqT false (by decide +kernel) ⟨_, rfl, ?_⟩); refine iteF ?_; refine pssd_nil ?_)
      refine pssd_cons (psd_if ?_)
      refine pwd_pt ?_
      refine pwd_and ?_
      (refine ptd_cmp op_eq ?_; refine pd_var (i := 2) rfl rfl ?_; refine pd_str ?_; refine vr_eqT true (by decide +kernel) ⟨_, rfl, ?_⟩)
      refine iteT ?_
      refine pwd_and1 ?_
      refine ptd_not ?_
      refine ptd_val ?_
      (refine pd_callB call_isi rfl hm.isinstance PyProof.Rows.boot_isinstance ?_; (refine pad_cons ?_; refine pd_var (i := 0) rfl rfl ?_); refine pad_cons ?_; refine pd_glob (v := .ref (c.cls (.kn))) (hs.mK) rfl ?_; refine pad_nil ?_; refine va_isC (say_ty Q _) (Q.one _ (.kn)) ?_)
      refine ⟨true, rfl, ?_⟩
      refine iteF ?_
      refine pssd_nil ?_
      (refine pssd_cons (psd_if ?_); refine pwd_pt ?_; refine pwd_and ?_; (refine ptd_cmp op_eq ?_; refine pd_var (i := 2) rfl rfl ?_; refine pd_str ?_; refine vr_eqT false (by decide +kernel) ⟨_, rfl, ?_⟩); refine iteF ?_; refine iteF ?_; refine pssd_nil ?_)
      (refine pssd_cons (psd_if ?_); refine pwd_pt ?_; refine pwd_and ?_; (refine ptd_cmp op_eq ?_; refine pd_var (i := 2) rfl rfl ?_; refine pd_str ?_; refine vr_eqT false (by decide +kernel) ⟨_, rfl, ?_⟩); refine iteF ?_; refine iteF ?_; refine pssd_nil ?_)
      exact fin
    | wh =>
      (refine pssd_cons (psd_set (i := 2) nd rfl ?_); refine pd_ix ix_tup ?_; refine pd_var (i := 1) rfl rfl ?_; refine pd_int ?_; refine vr_ixT (i := 0) rfl ?_; refine pssd_cons (psd_if ?_); refine ptd_not ?_; refine ptd_val ?_; refine pd_callB call_isi rfl hm.isinstance PyProof.Rows.boot_isinstance ?_; (refine pad_cons ?_; refine pd_var (i := 0) rfl rfl ?_); refine pad_cons ?_; refine pd_glob (v := .ref cS) hs.mS rfl ?_; refine pad_nil ?_; refine va_isC (say_ty Q _) (Q.base _) ⟨_, rfl, ?_⟩; refine iteF ?_; refine pssd_nil ?_)
      (refine pssd_cons (psd_if ?_); (refine ptd_cmp op_eq ?_; refine pd_var (i := 2) rfl rfl ?_; refine pd_str ?_; refine vr_eqT false (by decide +kernel) ⟨_, rfl, ?_⟩); refine iteF ?_; refine pssd_nil ?_)
      (refine pssd_cons (psd_if ?_); (refine ptd_cmp op_eq ?_; refine pd_var (i := 2) rfl rfl ?_; refine pd_str ?_; refine vr_eqT false (by decide +kernel) ⟨_, rfl, ?_⟩); refine iteF ?_; refine pssd_nil ?_)
      (refine pssd_cons (psd_if ?_); (refine ptd_cmp op_eq ?_; refine pd_var (i := 2) rfl rfl ?_; refine pd_str ?_; refine vr_eqT false (by decide +kernel) ⟨_, rfl, ?_⟩); refine iteF ?_; refine pssd_nil ?_)
      (refine pssd_cons (psd_if ?_); refine pwd_pt ?_; refine pwd_or ?_; (refine ptd_cmp op_eq ?_; refine pd_var (i := 2) rfl rfl ?_; refine pd_str ?_; refine vr_eqT false (by decide +kernel) ⟨_, rfl, ?_⟩); refine iteF ?_; refine pwd_or1 ?_; (refine ptd_cmp op_eq ?_; refine pd_var (i := 2) rfl rfl ?_; refine pd_str ?_; refine vr_eqT false (by decide +kernel) ⟨_, rfl, ?_⟩); refine iteF ?_; refine pssd_nil ?_)
      (refine pssd_cons (psd_if ?_); refine pwd_pt ?_; refine pwd_and ?_; (refine ptd_cmp op_eq ?_; refine pd_var (i := 2) rfl rfl ?_; refine pd_str ?_; refine vr_eqT false (by decide +kernel) ⟨_, rfl, ?_⟩); refine iteF ?_; refine iteF ?_; refine pssd_nil ?_)
      refine pssd_cons (psd_if ?_)
      refine pwd_pt ?_
      refine pwd_and ?_
      (refine ptd_cmp op_eq ?_; refine pd_var (i := 2) rfl rfl ?_; refine pd_str ?_; refine vr_eqT true (by decide +kernel) ⟨_, rfl, ?_⟩)
      refine iteT ?_
      refine pwd_and1 ?_
      refine ptd_not ?_
      refine ptd_val ?_
      (refine pd_callB call_isi rfl hm.isinstance PyProof.Rows.boot_isinstance ?_; (refine pad_cons ?_; refine pd_var (i := 0) rfl rfl ?_); refine pad_cons ?_; refine pd_glob (v := .ref (c.cls (.wh))) (hs.mW) rfl ?_; refine pad_nil ?_; refine va_isC (say_ty Q _) (Q.one _ (.wh)) ?_)
      refine ⟨true, rfl, ?_⟩
      refine iteF ?_
      refine pssd_nil ?_
      (refine pssd_cons (psd_if ?_); refine pwd_pt ?_; refine pwd_and ?_; (refine ptd_cmp op_eq ?_; refine pd_var (i := 2) rfl rfl ?_; refine pd_str ?_; refine vr_eqT false (by decide +kernel) ⟨_, rfl, ?_⟩); refine iteF ?_; refine iteF ?_; refine pssd_nil ?_)
      exact fin
    | co =>
      (refine pssd_cons (psd_set (i := 2) nd rfl ?_); refine pd_ix ix_tup ?_; refine pd_var (i := 1) rfl rfl ?_; refine pd_int ?_; refine vr_ixT (i := 0) rfl ?_; refine pssd_cons (psd_if ?_); refine ptd_not ?_; refine ptd_val ?_; refine pd_callB call_isi rfl hm.isinstance PyProof.Rows.boot_isinstance ?_; (refine pad_cons ?_; refine pd_var (i := 0) rfl rfl ?_); refine pad_cons ?_; refine pd_glob (v := .ref cS) hs.mS rfl ?_; refine pad_nil ?_; refine va_isC (say_ty Q _) (Q.base _) ⟨_, rfl, ?_⟩; refine iteF ?_; refine pssd_nil ?_)
      (refine pssd_cons (psd_if ?_); (refine ptd_cmp op_eq ?_; refine pd_var (i := 2) rfl rfl ?_; refine pd_str ?_; refine vr_eqT false (by decide +kernel) ⟨_, rfl, ?_⟩); refine iteF ?_; refine pssd_nil ?_)
      (refine pssd_cons (psd_if ?_); (refine ptd_cmp op_eq ?_; refine pd_var (i := 2) rfl rfl ?_; refine pd_str ?_; refine vr_eqT false (by decide +kernel) ⟨_, rfl, ?_⟩); refine iteF ?_; refine pssd_nil ?_)
      (refine pssd_cons (psd_if ?_); (refine ptd_cmp op_eq ?_; refine pd_var (i := 2) rfl rfl ?_; refine pd_str ?_; refine vr_eqT false (by decide +kernel) ⟨_, rfl, ?_⟩); refine iteF ?_; refine pssd_nil ?_)
      (refine pssd_cons (psd_if ?_); refine pwd_pt ?_; refine pwd_or ?_; (refine ptd_cmp op_eq ?_; refine pd_var (i := 2) rfl rfl ?_; refine pd_str ?_; refine vr_eqT false (by decide +kernel) ⟨_, rfl, ?_⟩); refine iteF ?_; refine pwd_or1 ?_; (refine ptd_cmp op_eq ?_; refine pd_var (i := 2) rfl rfl ?_; refine pd_str ?_; refine vr_eqT false (by decide +kernel) ⟨_, rfl, ?_⟩); refine iteF ?_; refine pssd_nil ?_)
      (refine pssd_cons (psd_if ?_); refine pwd_pt ?_; refine pwd_and ?_; (refine ptd_cmp op_eq ?_; refine pd_var (i := 2) rfl rfl ?_; refine pd_str ?_; refine vr_eqT false (by decide +kernel) ⟨_, rfl, ?_⟩); refine iteF ?_; refine iteF ?_; refine pssd_nil ?_)
      (refine pssd_cons (psd_if ?_); refine pwd_pt ?_; refine pwd_and ?_; (refine ptd_cmp op_eq ?_; refine pd_var (i := 2) rfl rfl ?_; refine pd_str ?_; refine vr_eqT false (by decide +kernel) ⟨_, rfl, ?_⟩); refine iteF ?_; refine iteF ?_; refine pssd_nil ?_)
      refine pssd_cons (psd_if ?_)
      refine pwd_pt ?_
      refine pwd_and ?_
      (refine ptd_cmp op_eq ?_; refine pd_var (i := 2) rfl rfl ?_; refine pd_str ?_; refine vr_eqT true (by decide +kernel) ⟨_, rfl, ?_⟩)
      refine iteT ?_
      refine pwd_and1 ?_
      refine ptd_not ?_
      refine ptd_val ?_
      (refine pd_callB call_isi rfl hm.isinstance PyProof.Rows.boot_isinstance ?_; (refine pad_cons ?_; refine pd_var (i := 0) rfl rfl ?_); refine pad_cons ?_; refine pd_glob (v := .ref (c.cls (.co))) (hs.mC) rfl ?_; refine pad_nil ?_; refine va_isC (say_ty Q _) (Q.one _ (.co)) ?_)
      refine ⟨true, rfl, ?_⟩
      refine iteF ?_
      refine pssd_nil ?_
      exact fin
theorem ok_agr {f : Addr} {fd : FuncData} (G : Fun K "_law_agrees" "_law_agrees" sAgr f fd) (hf : mg "_law_agrees" = some (.ref f)) (hb : Binds K fd ["saying", "tree"] []) (hm : Nm2 mg) (hs : NmS mg c cS) (Q : SayQ K c cS) (A : SayAll K fS c) (I : SayI K c) (hS : ∀ n, HasF P w K mg base T CX0 "_law_same" (n + 1) ["actual", "due"] (spSame n)) : ∀ m : Nat, FnOk P w K mg base CX0 (m + 2) f fd ["saying", "tree"] (spOf K T (spAgr c m))
  | 0 => agr_step G hf hb hm hs Q A I hS 0 fun j h => by cases h
  | m + 1 => agr_step G hf hb hm hs Q A I hS (m + 1) fun j h => by
    cases h
    exact ok_agr G hf hb hm hs Q A I hS m
/-! ### plain, depth, positive of the law -/
def spPln : SpD := fun ds w κ χ => ∃ t : Tr, ds = [trD t] ∧ TrOk t ∧ t.size ≤ 60 ∧ κ (B (plainB t)) w
def spDep (m : Nat) : SpD := fun ds w κ χ => ∃ t : Tr, ds = [trD t] ∧ t.size ≤ m ∧ κ (I (t.depth : Int)) w
def spPos (m : Nat) : SpD := fun ds w κ χ => ∃ t : Tr, ds = [trD t] ∧ TrOk t ∧ t.size ≤ m ∧ t.size ≤ 60 ∧ κ (B (posB t)) w
def mdNames : List Str := ["knows", "whether", "common"]
def Tr.nm : Tr → Str
  | .tru _ => "truth"
  | .fact _ => "fact"
  | .neg _ => "not"
  | .bin a _ _ => binN a
  | .md k _ _ => k.nm
theorem trD_nm (t : Tr) : ∃ ds, trD t = .tup (DL.T t.nm :: ds) := by
  cases t <;> exact ⟨_, rfl⟩
theorem nm_md (t : Tr) : decide (t.nm ∈ mdNames) = t.isMd := by
  cases t with
  | tru b => show decide (("truth" : Str) ∈ mdNames) = false; decide +kernel
  | fact n => show decide (("fact" : Str) ∈ mdNames) = false; decide +kernel
  | neg t => show decide (("not" : Str) ∈ mdNames) = false; decide +kernel
  | bin a l r => cases a with
    | true => show decide (("and" : Str) ∈ mdNames) = false; decide +kernel
    | false => show decide (("or" : Str) ∈ mdNames) = false; decide +kernel
  | md k g t => cases k with
    | kn => show decide (("knows" : Str) ∈ mdNames) = true; decide +kernel
    | wh => show decide (("whether" : Str) ∈ mdNames) = true; decide +kernel
    | co => show decide (("common" : Str) ∈ mdNames) = true; decide +kernel
theorem vr_inST {K : PySem.W.Frag} {T : List (Addr × Str)} {w : Wp} {κ : D → Wp → Prop} {y : Str} {ys : List Str} (k : κ (B (decide (y ∈ ys))) w) : VR2 K T (rIn K false) (DL.T y) (.tup (ys.map DL.T)) w κ := fun F S H x z Q hW r1 r2 hK => by
  obtain ⟨p, us, rfl, h1, h2⟩ := r2
  have e := h2.txts
  have r1' : x = .str y := r1
  subst e r1'
  refine ⟨p, _, rfl, .inr (SqT.of (hW.same _ _ h1)), rfl, L2.flat_strs ys, ?_⟩
  refine hK _ w _ S H k (Same.refl _) hW ?_
  show V.bl (inV (.str y) (ys.map V.str)) = .bl _
  rw [inV_strs]
/-! trees as data that are compared -/
def pdT : Tr → PyData
  | .tru b => .tuple [.str "truth", .bool b]
  | .fact n => .tuple [.str "fact", .str n]
  | .neg t => .tuple [.str "not", pdT t]
  | .bin a l r => .tuple [.str (binN a), pdT l, pdT r]
  | .md k g t => .tuple [.str k.nm, .str g, pdT t]
theorem pyD_tr : ∀ t : Tr, pyD (trD t) = some (pdT t)
  | .tru _ => rfl
  | .fact _ => rfl
  | .neg t => by
    show ((pyDs [DL.T "not", trD t]).map PyData.tuple) = _
    show ((some (PyData.str "not")).bind fun x => ((pyD (trD t)).bind fun x => (some []).map fun xs => x :: xs).map fun xs => x :: xs).map PyData.tuple = _
    rw [pyD_tr t]
    rfl
  | .bin a l r => by
    show ((some (PyData.str (binN a))).bind fun x => ((pyD (trD l)).bind fun x => ((pyD (trD r)).bind fun x => (some []).map fun xs => x :: xs).map fun xs => x :: xs).map fun xs => x :: xs).map PyData.tuple = _
    rw [pyD_tr l, pyD_tr r]
    rfl
  | .md k g t => by
    show ((some (PyData.str k.nm)).bind fun x => ((some (PyData.str g)).bind fun x => ((pyD (trD t)).bind fun x => (some []).map fun xs => x :: xs).map fun xs => x :: xs).map fun xs => x :: xs).map PyData.tuple = _
    rw [pyD_tr t]
    rfl
theorem pyDs_tr : ∀ l : List Tr, pyDs (l.map trD) = some (l.map pdT)
  | [] => rfl
  | t :: l => by
    show ((pyD (trD t)).bind fun x => (pyDs (l.map trD)).map fun xs => x :: xs) = _
    rw [pyD_tr t, pyDs_tr l]
    rfl
theorem dep_tr : ∀ t : Tr, (pdT t).depth ≤ t.size
  | .tru _ => Nat.le_refl _
  | .fact _ => Nat.le_refl _
  | .neg t => by
    have h := dep_tr t
    show max 0 (max (pdT t).depth 0) + 1 ≤ t.size + 1
    omega
  | .bin a l r => by
    have h := dep_tr l
    have h2 := dep_tr r
    show max 0 (max (pdT l).depth (max (pdT r).depth 0)) + 1 ≤ l.size + r.size + 1
    omega
  | .md k g t => by
    have h := dep_tr t
    show max 0 (max 0 (max (pdT t).depth 0)) + 1 ≤ t.size + 1
    omega
theorem dep_trs (n : Nat) : ∀ l : List Tr, (∀ t ∈ l, t.size ≤ n) → PyData.depthAll (l.map pdT) ≤ n
  | [], _ => Nat.zero_le _
  | t :: l, h => by
    have h1 := dep_tr t
    have h2 := h t List.mem_cons_self
    have h3 := dep_trs n l fun u hu => h u (List.mem_cons_of_mem _ hu)
    show max (pdT t).depth (PyData.depthAll (l.map pdT)) ≤ n
    omega
theorem ok_low {s : Str} (h : ∀ c ∈ cl s, 97 ≤ c ∧ c ≤ 122) : PyData.strOk s = true := by
  show s.cps.all (fun c => decide (c < 0x110000)) = true
  rw [← Array.all_toList]
  refine List.all_eq_true.mpr fun c hc => decide_eq_true ?_
  have h2 : c ≤ 122 := (h c hc).2
  show c < 0x110000
  omega
theorem group_ah {g : Str} (h : GroupOk g) : ∀ c ∈ cl g, 97 ≤ c ∧ c ≤ 104 := by
  obtain ⟨b, _, _, rfl⟩ := h
  intro c hc
  have hc : c ∈ grpL b := by
    have e : cl (grp b) = grpL b := by
      show (grpL b).toArray.toList = _
      exact List.toList_toArray
    rw [e] at hc
    exact hc
  unfold grpL at hc
  obtain ⟨k, hk, rfl⟩ := List.mem_map.mp hc
  have h8 : k < 8 := List.mem_range.mp (List.mem_filter.mp hk).1
  omega
theorem lay_tr : ∀ t : Tr, TrOk t → (pdT t).canLay0 = true
  | .tru _, _ => by
    have h1 : PyData.strOk "truth" = true := by decide +kernel
    simp only [pdT, PyData.canLay0, PyData.canLayAll0, h1, Bool.and_self]
  | .fact n, h => by
    have hn : NameOk n := h
    have h1 : PyData.strOk "fact" = true := by decide +kernel
    simp only [pdT, PyData.canLay0, PyData.canLayAll0, h1, ok_low hn.low, Bool.and_self]
  | .neg t, h => by
    have h1 : PyData.strOk "not" = true := by decide +kernel
    simp only [pdT, PyData.canLay0, PyData.canLayAll0, h1, lay_tr t h, Bool.and_self]
  | .bin a l r, h => by
    have h1 : PyData.strOk (binN a) = true := by cases a <;> decide +kernel
    simp only [pdT, PyData.canLay0, PyData.canLayAll0, h1, lay_tr l h.1, lay_tr r h.2, Bool.and_self]
  | .md k g t, h => by
    have h1 : PyData.strOk k.nm = true := by cases k <;> decide +kernel
    have h2 : PyData.strOk g = true := ok_low fun c hc => ⟨(group_ah h.1 c hc).1, Nat.le_trans (group_ah h.1 c hc).2 (by decide)⟩
    simp only [pdT, PyData.canLay0, PyData.canLayAll0, h1, h2, lay_tr t h.2, Bool.and_self]
theorem lay_trs : ∀ l : List Tr, (∀ t ∈ l, TrOk t) → PyData.canLayAll0 (l.map pdT) = true
  | [], _ => by simp only [List.map_nil, PyData.canLayAll0]
  | t :: l, h => by
    simp only [List.map_cons, PyData.canLayAll0, lay_tr t (h t List.mem_cons_self), lay_trs l fun u hu => h u (List.mem_cons_of_mem _ hu), Bool.and_self]
theorem eqv_trs (l : List Tr) : PyData.eqv (.list (l.map pdT)) (.list []) = l.isEmpty := by
  cases l <;> simp [PyData.eqv, PyData.eqvAll]
theorem size_parts : ∀ {t u : Tr}, u ∈ t.parts → u.size ≤ t.size
  | .tru b, u, h => by rw [List.mem_singleton.mp h]; exact Nat.le_refl _
  | .fact b, u, h => by rw [List.mem_singleton.mp h]; exact Nat.le_refl _
  | .neg t, u, h => by
    rcases List.mem_cons.mp h with rfl | h
    · exact Nat.le_refl _
    · exact Nat.le_succ_of_le (size_parts h)
  | .bin a l r, u, h => by
    rcases List.mem_cons.mp h with rfl | h
    · exact Nat.le_refl _
    · show u.size ≤ l.size + r.size + 1
      rcases List.mem_append.mp h with h | h
      · have := size_parts h
        omega
      · have := size_parts h
        omega
  | .md k g t, u, h => by
    rcases List.mem_cons.mp h with rfl | h
    · exact Nat.le_refl _
    · exact Nat.le_succ_of_le (size_parts h)
theorem filt_empty {α : Type} (p : α → Bool) : ∀ l : List α, (l.filter p).isEmpty = !l.any p
  | [] => rfl
  | x :: l => by
    rw [List.filter_cons, List.any_cons]
    cases p x with
    | true => rfl
    | false => exact filt_empty p l
theorem scPln : FnScope ["tree", "part"] ["tree"] (defScope sPln) := ⟨rfl, rfl, rfl, by decide +kernel, rfl, by decide +kernel, by decide +kernel⟩
theorem ok_pln {f : Addr} {fd : FuncData} (G : Fun K "_law_plain" "_law_plain" sPln f fd) (hP : HasF P w K mg base T CX0 "_law_parts" 61 ["tree"] (spPts 60)) : FnOk P w K mg base CX0 62 f fd ["tree"] (spOf K T spPln) := by
  refine fnD G scPln (fun ds w κ χ h => ?_) (fun cdv A' outer s H E ds w0 κ χ hr h => ?_)
  · obtain ⟨t, rfl, _⟩ := h
    rfl
  obtain ⟨t, rfl, ht, hz, k⟩ := h
  have nd := scPln.nd
  refine pssd_one (psd_ret ?_)
  refine pd_cmp (op_eqD hr.units) ?_
  refine pd_lc (own := [("part", 1)]) (is := [1]) rfl nd (blkOk_by rfl) (by decide) ?_
  refine it_list ?_
  refine pd_has hP (hr.mono (by decide)) (fun _ => pass0At) ?_
  (refine pad_cons ?_; refine pd_var (i := 0) rfl rfl ?_)
  refine pad_nil ⟨t, rfl, hz, by omega, ?_⟩
  refine ⟨_, rfl, ?_⟩
  refine lcd_filter Tr.isMd trD (small1000 (by rw [parts_len]; omega)) (fun u hu s2 H0 C1 cl1 fp1 => ?_) ?_
  · refine pgl_name (i := 1) nd rfl ?_
    intro s3 H0 C1 cl1 fp1
    refine ptsd_one ?_
    (refine ptd_cmp op_in_seq ?_; refine pd_ix ix_tup ?_; refine pd_var (i := 1) rfl rfl ?_; refine pd_int ?_; obtain ⟨dsn, en⟩ := trD_nm u; rw [en]; refine vr_ixT (i := 0) rfl ?_; refine pd_tup ?_; refine pad_cons (pd_str ?_); refine pad_cons (pd_str ?_); refine pad_cons (pd_str ?_); refine pad_nil ⟨by show 3 ≤ sizeLine; decide, ?_⟩; refine vr_inST (ys := mdNames) ⟨_, rfl, ?_⟩; rw [nm_md])
    cases hmd : u.isMd with
    | true =>
      refine iteT ?_
      intro s4 H0 C1 cl1 fp1
      refine pd_var (i := 1) rfl rfl ?_
      exact ⟨rfl, rfl, rfl⟩
    | false => exact iteF ⟨rfl, rfl⟩
  refine pd_lst ?_
  refine pad_nil ⟨by show 0 ≤ sizeLine; decide, ?_⟩
  have hd := dep_trs 60 (t.parts.filter Tr.isMd) fun u hu => Nat.le_trans (size_parts (List.mem_filter.mp hu).1) hz
  have hl := lay_trs (t.parts.filter Tr.isMd) fun u hu => ok_parts_tr t ht u (List.mem_filter.mp hu).1
  refine vr_eqD (p := .list ((t.parts.filter Tr.isMd).map pdT)) (q := .list []) ?_ rfl ?_ rfl ?_
  · show (pyDs _).map PyData.list = _
    rw [pyDs_tr]
    rfl
  · show (PyData.canLayAll0 _ && decide (PyData.depthAll _ + 1 ≤ 64)) = true
    rw [hl, decide_eq_true (by omega)]
    rfl
  · rw [eqv_trs, filt_empty]
    exact k
end
end Tw

set_option Elab.async false
set_option linter.all false
set_option maxRecDepth 100000
set_option maxHeartbeats 2000000
/-! The law's _law_depth, _law_positive, _law_due. -/
namespace Tw
open PySem PySem.Spec PyProof.Rows L2 LamX DL
/-- the law's positive -/
def lpos : Tr → Bool
  | .tru _ => true
  | .fact _ => true
  | .neg t => plainB (.neg t)
  | .bin a l r => plainB (.bin a l r) || (lpos l && lpos r)
  | .md .wh _ t => plainB t
  | .md _ _ t => lpos t
theorem plain_neg (t : Tr) : plainB (.neg t) = plainB t := by
  show (!((Tr.neg t :: t.parts).any Tr.isMd)) = _
  rw [List.any_cons]
  rfl
theorem plain_bin (a : Bool) (l r : Tr) : plainB (.bin a l r) = (plainB l && plainB r) := by
  show (!((Tr.bin a l r :: (l.parts ++ r.parts)).any Tr.isMd)) = _
  rw [List.any_cons, List.any_append]
  show (!(false || _)) = _
  rw [Bool.false_or, Bool.not_or]
  rfl
theorem plain_md (k : Md) (g : Str) (t : Tr) : plainB (.md k g t) = false := by
  show (!((Tr.md k g t :: t.parts).any Tr.isMd)) = _
  rw [List.any_cons]
  rfl
def posF : Tr → Bool
  | .neg v => plainB v
  | .md .wh _ v => plainB v
  | _ => true
theorem posB_eqF (t : Tr) : posB t = t.parts.all posF := by
  unfold posB
  congr 1
theorem pos_plain : ∀ {t : Tr}, plainB t = true → posB t = true
  | .tru _, _ => rfl
  | .fact _, _ => rfl
  | .neg t, h => by
    rw [plain_neg] at h
    have ih := pos_plain h
    rw [posB_eqF] at ih ⊢
    show (posF (.neg t) && t.parts.all posF) = true
    rw [ih]
    show (plainB t && true) = true
    rw [h]
    rfl
  | .bin a l r, h => by
    rw [plain_bin, Bool.and_eq_true] at h
    have i1 := pos_plain h.1
    have i2 := pos_plain h.2
    rw [posB_eqF] at i1 i2 ⊢
    show (true && (l.parts ++ r.parts).all posF) = true
    rw [List.all_append, i1, i2]
    rfl
  | .md k g t, h => by
    rw [plain_md] at h
    cases h
theorem lpos_eq : ∀ t : Tr, lpos t = posB t
  | .tru _ => rfl
  | .fact _ => rfl
  | .neg t => by
    show plainB (.neg t) = _
    rw [plain_neg, posB_eqF]
    show _ = (plainB t && t.parts.all posF)
    cases h : plainB t with
    | false => rfl
    | true =>
      have := pos_plain h
      rw [posB_eqF] at this
      rw [this]
      rfl
  | .bin a l r => by
    show (plainB (.bin a l r) || (lpos l && lpos r)) = _
    have e : posB (.bin a l r) = (posB l && posB r) := by
      rw [posB_eqF, posB_eqF l, posB_eqF r]
      show (true && (l.parts ++ r.parts).all posF) = _
      rw [List.all_append, Bool.true_and]
    rw [lpos_eq l, lpos_eq r, e, plain_bin]
    cases h : (plainB l && plainB r) with
    | false => rfl
    | true =>
      rw [Bool.and_eq_true] at h
      rw [pos_plain h.1, pos_plain h.2]
      rfl
  | .md k g t => by
    have e : posB (.md k g t) = (posF (.md k g t) && posB t) := by
      rw [posB_eqF, posB_eqF t]
      rfl
    rw [e]
    cases k with
    | wh =>
      show plainB t = (plainB t && posB t)
      cases h : plainB t with
      | false => rfl
      | true =>
        rw [pos_plain h]
        rfl
    | kn =>
      show lpos t = (true && posB t)
      rw [lpos_eq t, Bool.true_and]
    | co =>
      show lpos t = (true && posB t)
      rw [lpos_eq t, Bool.true_and]
theorem lpos_plain (t : Tr) (h : plainB t = true) : lpos t = true := by
  rw [lpos_eq, pos_plain h]
section
variable {P : Program} {w : PySem.World} {K : PySem.W.Frag} {mg : Str → Option Value} {base : Heap} {T : List (Addr × Str)} {c : SC} {cS fS CG CC CN : Addr}
theorem scDep : FnScope ["tree"] ["tree"] (defScope sDep) := ⟨rfl, rfl, rfl, by decide +kernel, rfl, by decide +kernel, by decide +kernel⟩
theorem dep_step {f : Addr} {fd : FuncData} (G : Fun K "_law_depth" "_law_depth" sDep f fd) (hf : mg "_law_depth" = some (.ref f)) (hb : Binds K fd ["tree"] []) (hmax : mg "max" = none) (m : Nat)
    (ih : ∀ j, m = j + 1 → FnOk P w K mg base CX0 m f fd ["tree"] (spOf K T (spDep j))) : FnOk P w K mg base CX0 (m + 1) f fd ["tree"] (spOf K T (spDep m)) := by
  refine fnD G scDep (fun ds w κ χ h => ?_) (fun cdv A outer s H E ds w0 κ χ hr h => ?_)
  · obtain ⟨t, rfl, _⟩ := h
    rfl
  obtain ⟨t, rfl, hsz, k⟩ := h
  have nd := scDep.nd
  cases t with
  | tru b =>
    refine pssd_cons (psd_if ?_)
    refine pwd_pt ?_
    refine pwd_or ?_
    (refine ptd_cmp op_eq ?_; refine pd_ix ix_tup ?_; refine pd_var (i := 0) rfl rfl ?_; refine pd_int ?_; refine vr_ixT (i := 0) rfl ?_; refine pd_str ?_; refine vr_eqT true (by decide +kernel) ⟨_, rfl, ?_⟩)
    refine iteT ?_
    refine iteT ?_
    refine pssd_one (psd_ret ?_)
    refine pd_int ?_
    exact k
  | fact n =>
    refine pssd_cons (psd_if ?_)
    refine pwd_pt ?_
    refine pwd_or ?_
    (refine ptd_cmp op_eq ?_; refine pd_ix ix_tup ?_; refine pd_var (i := 0) rfl rfl ?_; refine pd_int ?_; refine vr_ixT (i := 0) rfl ?_; refine pd_str ?_; refine vr_eqT false (by decide +kernel) ⟨_, rfl, ?_⟩)
    refine iteF ?_
    refine pwd_or1 ?_
    (refine ptd_cmp op_eq ?_; refine pd_ix ix_tup ?_; refine pd_var (i := 0) rfl rfl ?_; refine pd_int ?_; refine vr_ixT (i := 0) rfl ?_; refine pd_str ?_; refine vr_eqT true (by decide +kernel) ⟨_, rfl, ?_⟩)
    refine iteT ?_
    refine pssd_one (psd_ret ?_)
    refine pd_int ?_
    exact k
  | neg t =>
    have hs : t.size + 1 ≤ m := hsz
    obtain ⟨j, rfl⟩ : ∃ j, m = j + 1 := ⟨m - 1, by omega⟩
    (refine pssd_cons (psd_if ?_); refine pwd_pt ?_; refine pwd_or ?_; (refine ptd_cmp op_eq ?_; refine pd_ix ix_tup ?_; refine pd_var (i := 0) rfl rfl ?_; refine pd_int ?_; refine vr_ixT (i := 0) rfl ?_; refine pd_str ?_; refine vr_eqT false (by decide +kernel) ⟨_, rfl, ?_⟩); refine iteF ?_; refine pwd_or1 ?_; (refine ptd_cmp op_eq ?_; refine pd_ix ix_tup ?_; refine pd_var (i := 0) rfl rfl ?_; refine pd_int ?_; refine vr_ixT (i := 0) rfl ?_; refine pd_str ?_; refine vr_eqT false (by decide +kernel) ⟨_, rfl, ?_⟩); refine iteF ?_; refine pssd_nil ?_)
    refine pssd_cons (psd_if ?_)
    (refine ptd_cmp op_eq ?_; refine pd_ix ix_tup ?_; refine pd_var (i := 0) rfl rfl ?_; refine pd_int ?_; refine vr_ixT (i := 0) rfl ?_; refine pd_str ?_; refine vr_eqT true (by decide +kernel) ⟨_, rfl, ?_⟩)
    refine iteT ?_
    refine pssd_one (psd_ret ?_)
    refine pd_call (ih j rfl) hr hf G.kp hb (fun _ => pass0At) ?_
    (refine pad_cons ?_; refine pd_ix ix_tup ?_; refine pd_var (i := 0) rfl rfl ?_; refine pd_int ?_; refine vr_ixT (i := 1) rfl ?_)
    exact pad_nil ⟨t, rfl, by omega, k⟩
  | bin a l r =>
    have hs : l.size + r.size + 1 ≤ m := hsz
    obtain ⟨j, rfl⟩ : ∃ j, m = j + 1 := ⟨m - 1, by omega⟩
    have fin : ∀ (F : DL.Fin), F.rt = κ → PSsD (cxOf CX0 P w K mg base ["tree"] "_law_depth" (defScope sDep) f cdv A outer s H E).nox T Wf noX (match (defBody sDep).getD 2 (.Pass ⟨0, 0, 0, 0⟩) with | .If _ b _ _ => b | _ => []) [some (trD (.bin a l r))] w0 F := by
      intro F hF
      refine pssd_one (psd_ret ?_)
      refine pd_callB (call_max2 rfl) rfl hmax bt_max ?_
      refine pad_cons ?_
      refine pd_call (ih j rfl) hr hf G.kp hb (fun _ => pass0At) ?_
      (refine pad_cons ?_; refine pd_ix ix_tup ?_; refine pd_var (i := 0) rfl rfl ?_; refine pd_int ?_; refine vr_ixT (i := 1) rfl ?_)
      refine pad_nil ⟨l, rfl, by omega, ?_⟩
      refine pad_cons ?_
      refine pd_call (ih j rfl) hr hf G.kp hb (fun _ => pass0At) ?_
      (refine pad_cons ?_; refine pd_ix ix_tup ?_; refine pd_var (i := 0) rfl rfl ?_; refine pd_int ?_; refine vr_ixT (i := 2) rfl ?_)
      refine pad_nil ⟨r, rfl, by omega, ?_⟩
      refine pad_nil ?_
      refine va_max2 ?_
      have em : (if (r.depth : Int) > (l.depth : Int) then (r.depth : Int) else (l.depth : Int)) = ((max l.depth r.depth : Nat) : Int) := by
        split <;> omega
      rw [em, hF]
      exact k
    cases a with
    | true =>
      (refine pssd_cons (psd_if ?_); refine pwd_pt ?_; refine pwd_or ?_; (refine ptd_cmp op_eq ?_; refine pd_ix ix_tup ?_; refine pd_var (i := 0) rfl rfl ?_; refine pd_int ?_; refine vr_ixT (i := 0) rfl ?_; refine pd_str ?_; refine vr_eqT false (by decide +kernel) ⟨_, rfl, ?_⟩); refine iteF ?_; refine pwd_or1 ?_; (refine ptd_cmp op_eq ?_; refine pd_ix ix_tup ?_; refine pd_var (i := 0) rfl rfl ?_; refine pd_int ?_; refine vr_ixT (i := 0) rfl ?_; refine pd_str ?_; refine vr_eqT false (by decide +kernel) ⟨_, rfl, ?_⟩); refine iteF ?_; refine pssd_nil ?_)
      (refine pssd_cons (psd_if ?_); (refine ptd_cmp op_eq ?_; refine pd_ix ix_tup ?_; refine pd_var (i := 0) rfl rfl ?_; refine pd_int ?_; refine vr_ixT (i := 0) rfl ?_; refine pd_str ?_; refine vr_eqT false (by decide +kernel) ⟨_, rfl, ?_⟩); refine iteF ?_; refine pssd_nil ?_)
      refine pssd_cons (psd_if ?_)
      refine pwd_pt ?_
      refine pwd_or ?_
      (refine ptd_cmp op_eq ?_; refine pd_ix ix_tup ?_; refine pd_var (i := 0) rfl rfl ?_; refine pd_int ?_; refine vr_ixT (i := 0) rfl ?_; refine pd_str ?_; refine vr_eqT true (by decide +kernel) ⟨_, rfl, ?_⟩)
      refine iteT ?_
      refine iteT ?_
      exact fin _ rfl
    | false =>
      (refine pssd_cons (psd_if ?_); refine pwd_pt ?_; refine pwd_or ?_; (refine ptd_cmp op_eq ?_; refine pd_ix ix_tup ?_; refine pd_var (i := 0) rfl rfl ?_; refine pd_int ?_; refine vr_ixT (i := 0) rfl ?_; refine pd_str ?_; refine vr_eqT false (by decide +kernel) ⟨_, rfl, ?_⟩); refine iteF ?_; refine pwd_or1 ?_; (refine ptd_cmp op_eq ?_; refine pd_ix ix_tup ?_; refine pd_var (i := 0) rfl rfl ?_; refine pd_int ?_; refine vr_ixT (i := 0) rfl ?_; refine pd_str ?_; refine vr_eqT false (by decide +kernel) ⟨_, rfl, ?_⟩); refine iteF ?_; refine pssd_nil ?_)
      (refine pssd_cons (psd_if ?_); (refine ptd_cmp op_eq ?_; refine pd_ix ix_tup ?_; refine pd_var (i := 0) rfl rfl ?_; refine pd_int ?_; refine vr_ixT (i := 0) rfl ?_; refine pd_str ?_; refine vr_eqT false (by decide +kernel) ⟨_, rfl, ?_⟩); refine iteF ?_; refine pssd_nil ?_)
      refine pssd_cons (psd_if ?_)
      refine pwd_pt ?_
      refine pwd_or ?_
      (refine ptd_cmp op_eq ?_; refine pd_ix ix_tup ?_; refine pd_var (i := 0) rfl rfl ?_; refine pd_int ?_; refine vr_ixT (i := 0) rfl ?_; refine pd_str ?_; refine vr_eqT false (by decide +kernel) ⟨_, rfl, ?_⟩)
      refine iteF ?_
      refine pwd_or1 ?_
      (refine ptd_cmp op_eq ?_; refine pd_ix ix_tup ?_; refine pd_var (i := 0) rfl rfl ?_; refine pd_int ?_; refine vr_ixT (i := 0) rfl ?_; refine pd_str ?_; refine vr_eqT true (by decide +kernel) ⟨_, rfl, ?_⟩)
      refine iteT ?_
      exact fin _ rfl
  | md q g t =>
    have hs : t.size + 1 ≤ m := hsz
    obtain ⟨j, rfl⟩ : ∃ j, m = j + 1 := ⟨m - 1, by omega⟩
    have fin : PSsD (cxOf CX0 P w K mg base ["tree"] "_law_depth" (defScope sDep) f cdv A outer s H E).nox T Wf noX ((defBody sDep).drop 3) [some (trD (.md q g t))] w0 { nx := fun _ w' => κ DL.N w', rt := κ } := by
      refine pssd_one (psd_ret ?_)
      refine pd_op op_add ?_
      refine pd_int ?_
      refine pd_call (ih j rfl) hr hf G.kp hb (fun _ => pass0At) ?_
      (refine pad_cons ?_; refine pd_ix ix_tup ?_; refine pd_var (i := 0) rfl rfl ?_; refine pd_int ?_; refine vr_ixT (i := 2) rfl ?_)
      refine pad_nil ⟨t, rfl, by omega, ?_⟩
      refine vr_I ?_
      have e : (1 : Int) + (t.depth : Int) = ((t.depth + 1 : Nat) : Int) := by omega
      rw [e]
      exact k
    cases q with
    | kn =>
      (refine pssd_cons (psd_if ?_); refine pwd_pt ?_; refine pwd_or ?_; (refine ptd_cmp op_eq ?_; refine pd_ix ix_tup ?_; refine pd_var (i := 0) rfl rfl ?_; refine pd_int ?_; refine vr_ixT (i := 0) rfl ?_; refine pd_str ?_; refine vr_eqT false (by decide +kernel) ⟨_, rfl, ?_⟩); refine iteF ?_; refine pwd_or1 ?_; (refine ptd_cmp op_eq ?_; refine pd_ix ix_tup ?_; refine pd_var (i := 0) rfl rfl ?_; refine pd_int ?_; refine vr_ixT (i := 0) rfl ?_; refine pd_str ?_; refine vr_eqT false (by decide +kernel) ⟨_, rfl, ?_⟩); refine iteF ?_; refine pssd_nil ?_)
      (refine pssd_cons (psd_if ?_); (refine ptd_cmp op_eq ?_; refine pd_ix ix_tup ?_; refine pd_var (i := 0) rfl rfl ?_; refine pd_int ?_; refine vr_ixT (i := 0) rfl ?_; refine pd_str ?_; refine vr_eqT false (by decide +kernel) ⟨_, rfl, ?_⟩); refine iteF ?_; refine pssd_nil ?_)
      (refine pssd_cons (psd_if ?_); refine pwd_pt ?_; refine pwd_or ?_; (refine ptd_cmp op_eq ?_; refine pd_ix ix_tup ?_; refine pd_var (i := 0) rfl rfl ?_; refine pd_int ?_; refine vr_ixT (i := 0) rfl ?_; refine pd_str ?_; refine vr_eqT false (by decide +kernel) ⟨_, rfl, ?_⟩); refine iteF ?_; refine pwd_or1 ?_; (refine ptd_cmp op_eq ?_; refine pd_ix ix_tup ?_; refine pd_var (i := 0) rfl rfl ?_; refine pd_int ?_; refine vr_ixT (i := 0) rfl ?_; refine pd_str ?_; refine vr_eqT false (by decide +kernel) ⟨_, rfl, ?_⟩); refine iteF ?_; refine pssd_nil ?_)
      exact fin
    | wh =>
      (refine pssd_cons (psd_if ?_); refine pwd_pt ?_; refine pwd_or ?_; (refine ptd_cmp op_eq ?_; refine pd_ix ix_tup ?_; refine pd_var (i := 0) rfl rfl ?_; refine pd_int ?_; refine vr_ixT (i := 0) rfl ?_; refine pd_str ?_; refine vr_eqT false (by decide +kernel) ⟨_, rfl, ?_⟩); refine iteF ?_; refine pwd_or1 ?_; (refine ptd_cmp op_eq ?_; refine pd_ix ix_tup ?_; refine pd_var (i := 0) rfl rfl ?_; refine pd_int ?_; refine vr_ixT (i := 0) rfl ?_; refine pd_str ?_; refine vr_eqT false (by decide +kernel) ⟨_, rfl, ?_⟩); refine iteF ?_; refine pssd_nil ?_)
      (refine pssd_cons (psd_if ?_); (refine ptd_cmp op_eq ?_; refine pd_ix ix_tup ?_; refine pd_var (i := 0) rfl rfl ?_; refine pd_int ?_; refine vr_ixT (i := 0) rfl ?_; refine pd_str ?_; refine vr_eqT false (by decide +kernel) ⟨_, rfl, ?_⟩); refine iteF ?_; refine pssd_nil ?_)
      (refine pssd_cons (psd_if ?_); refine pwd_pt ?_; refine pwd_or ?_; (refine ptd_cmp op_eq ?_; refine pd_ix ix_tup ?_; refine pd_var (i := 0) rfl rfl ?_; refine pd_int ?_; refine vr_ixT (i := 0) rfl ?_; refine pd_str ?_; refine vr_eqT false (by decide +kernel) ⟨_, rfl, ?_⟩); refine iteF ?_; refine pwd_or1 ?_; (refine ptd_cmp op_eq ?_; refine pd_ix ix_tup ?_; refine pd_var (i := 0) rfl rfl ?_; refine pd_int ?_; refine vr_ixT (i := 0) rfl ?_; refine pd_str ?_; refine vr_eqT false (by decide +kernel) ⟨_, rfl, ?_⟩); refine iteF ?_; refine pssd_nil ?_)
      exact fin
    | co =>
      (refine pssd_cons (psd_if ?_); refine pwd_pt ?_; refine pwd_or ?_; (refine ptd_cmp op_eq ?_; refine pd_ix ix_tup ?_; refine pd_var (i := 0) rfl rfl ?_; refine pd_int ?_; refine vr_ixT (i := 0) rfl ?_; refine pd_str ?_; refine vr_eqT false (by decide +kernel) ⟨_, rfl, ?_⟩); refine iteF ?_; refine pwd_or1 ?_; (refine ptd_cmp op_eq ?_; refine pd_ix ix_tup ?_; refine pd_var (i := 0) rfl rfl ?_; refine pd_int ?_; refine vr_ixT (i := 0) rfl ?_; refine pd_str ?_; refine vr_eqT false (by decide +kernel) ⟨_, rfl, ?_⟩); refine iteF ?_; refine pssd_nil ?_)
      (refine pssd_cons (psd_if ?_); (refine ptd_cmp op_eq ?_; refine pd_ix ix_tup ?_; refine pd_var (i := 0) rfl rfl ?_; refine pd_int ?_; refine vr_ixT (i := 0) rfl ?_; refine pd_str ?_; refine vr_eqT false (by decide +kernel) ⟨_, rfl, ?_⟩); refine iteF ?_; refine pssd_nil ?_)
      (refine pssd_cons (psd_if ?_); refine pwd_pt ?_; refine pwd_or ?_; (refine ptd_cmp op_eq ?_; refine pd_ix ix_tup ?_; refine pd_var (i := 0) rfl rfl ?_; refine pd_int ?_; refine vr_ixT (i := 0) rfl ?_; refine pd_str ?_; refine vr_eqT false (by decide +kernel) ⟨_, rfl, ?_⟩); refine iteF ?_; refine pwd_or1 ?_; (refine ptd_cmp op_eq ?_; refine pd_ix ix_tup ?_; refine pd_var (i := 0) rfl rfl ?_; refine pd_int ?_; refine vr_ixT (i := 0) rfl ?_; refine pd_str ?_; refine vr_eqT false (by decide +kernel) ⟨_, rfl, ?_⟩); refine iteF ?_; refine pssd_nil ?_)
      exact fin
theorem ok_dep {f : Addr} {fd : FuncData} (G : Fun K "_law_depth" "_law_depth" sDep f fd) (hf : mg "_law_depth" = some (.ref f)) (hb : Binds K fd ["tree"] []) (hmax : mg "max" = none) : ∀ m : Nat, FnOk P w K mg base CX0 (m + 1) f fd ["tree"] (spOf K T (spDep m))
  | 0 => dep_step G hf hb hmax 0 fun j h => by cases h
  | m + 1 => dep_step G hf hb hmax (m + 1) fun j h => by
    cases h
    exact ok_dep G hf hb hmax m
theorem scPos : FnScope ["tree"] ["tree"] (defScope sPos) := ⟨rfl, rfl, rfl, by decide +kernel, rfl, by decide +kernel, by decide +kernel⟩
theorem pos_step {f : Addr} {fd : FuncData} (G : Fun K "_law_positive" "_law_positive" sPos f fd) (hf : mg "_law_positive" = some (.ref f)) (hb : Binds K fd ["tree"] []) (hP : HasF P w K mg base T CX0 "_law_plain" 62 ["tree"] spPln) (m : Nat)
    (ih : ∀ j, m = j + 1 → FnOk P w K mg base CX0 (m + 62) f fd ["tree"] (spOf K T (spPos j))) : FnOk P w K mg base CX0 (m + 63) f fd ["tree"] (spOf K T (spPos m)) := by
  refine fnD G scPos (fun ds w κ χ h => ?_) (fun cdv A outer s H E ds w0 κ χ hr h => ?_)
  · obtain ⟨t, rfl, _⟩ := h
    rfl
  obtain ⟨t, rfl, ht, hsz, h60, k⟩ := h
  have nd := scPos.nd
  rw [← lpos_eq] at k
  refine pssd_cons (psd_if ?_)
  refine ptd_val ?_
  refine pd_has hP (hr.mono (by omega)) (fun _ => pass0At) ?_
  (refine pad_cons ?_; refine pd_var (i := 0) rfl rfl ?_)
  refine pad_nil ⟨t, rfl, ht, h60, ?_⟩
  refine ⟨_, rfl, ?_⟩
  cases hp : plainB t with
  | true =>
    refine iteT ?_
    refine pssd_one (psd_ret ?_)
    refine pd_bl ?_
    rw [lpos_plain t hp] at k
    exact k
  | false =>
  refine iteF ?_
  refine pssd_nil ?_
  cases t with
  | tru b => cases hp
  | fact n => cases hp
  | neg t =>
    (refine pssd_cons (psd_if ?_); refine pwd_pt ?_; refine pwd_or ?_; (refine ptd_cmp op_eq ?_; refine pd_ix ix_tup ?_; refine pd_var (i := 0) rfl rfl ?_; refine pd_int ?_; refine vr_ixT (i := 0) rfl ?_; refine pd_str ?_; refine vr_eqT false (by decide +kernel) ⟨_, rfl, ?_⟩); refine iteF ?_; refine pwd_or1 ?_; (refine ptd_cmp op_eq ?_; refine pd_ix ix_tup ?_; refine pd_var (i := 0) rfl rfl ?_; refine pd_int ?_; refine vr_ixT (i := 0) rfl ?_; refine pd_str ?_; refine vr_eqT false (by decide +kernel) ⟨_, rfl, ?_⟩); refine iteF ?_; refine pssd_nil ?_)
    (refine pssd_cons (psd_if ?_); (refine ptd_cmp op_eq ?_; refine pd_ix ix_tup ?_; refine pd_var (i := 0) rfl rfl ?_; refine pd_int ?_; refine vr_ixT (i := 0) rfl ?_; refine pd_str ?_; refine vr_eqT false (by decide +kernel) ⟨_, rfl, ?_⟩); refine iteF ?_; refine pssd_nil ?_)
    refine pssd_one (psd_ret ?_)
    refine pd_and ?_
    refine pd_cmp op_ne ?_
    refine pd_ix ix_tup ?_
    refine pd_var (i := 0) rfl rfl ?_
    refine pd_int ?_
    refine vr_ixT (i := 0) rfl ?_
    refine pd_str ?_
    refine vr_neT true (by decide +kernel) ⟨_, rfl, ?_⟩
    refine iteF ?_
    have e : lpos (.neg t) = false := hp
    rw [e] at k
    exact k
  | bin a l r =>
    have hs : l.size + r.size + 1 ≤ m := hsz
    have h6 : l.size + r.size + 1 ≤ 60 := h60
    obtain ⟨j, rfl⟩ : ∃ j, m = j + 1 := ⟨m - 1, by omega⟩
    have e : lpos (.bin a l r) = (posB l && posB r) := by
      show (plainB (.bin a l r) || (lpos l && lpos r)) = _
      rw [hp, Bool.false_or, lpos_eq, lpos_eq]
    rw [e] at k
    have fin : ∀ (F : DL.Fin), F.rt = κ → PSsD (cxOf CX0 P w K mg base ["tree"] "_law_positive" (defScope sPos) f cdv A outer s H E).nox T Wf noX (match (defBody sPos).getD 1 (.Pass ⟨0, 0, 0, 0⟩) with | .If _ b _ _ => b | _ => []) [some (trD (.bin a l r))] w0 F := by
      intro F hF
      refine pssd_one (psd_ret ?_)
      rw [hF]
      refine pd_and ?_
      refine pd_call (ih j rfl) hr hf G.kp hb (fun _ => pass0At) ?_
      (refine pad_cons ?_; refine pd_ix ix_tup ?_; refine pd_var (i := 0) rfl rfl ?_; refine pd_int ?_; refine vr_ixT (i := 1) rfl ?_)
      refine pad_nil ⟨l, rfl, ht.1, by omega, by omega, ?_⟩
      refine ⟨_, rfl, ?_⟩
      cases q : posB l with
      | false =>
        rw [q] at k
        exact iteF k
      | true =>
        rw [q] at k
        refine iteT ?_
        refine pd_one ?_
        refine pd_call (ih j rfl) hr hf G.kp hb (fun _ => pass0At) ?_
        (refine pad_cons ?_; refine pd_ix ix_tup ?_; refine pd_var (i := 0) rfl rfl ?_; refine pd_int ?_; refine vr_ixT (i := 2) rfl ?_)
        exact pad_nil ⟨r, rfl, ht.2, by omega, by omega, k⟩
    cases a with
    | true =>
      refine pssd_cons (psd_if ?_)
      refine pwd_pt ?_
      refine pwd_or ?_
      (refine ptd_cmp op_eq ?_; refine pd_ix ix_tup ?_; refine pd_var (i := 0) rfl rfl ?_; refine pd_int ?_; refine vr_ixT (i := 0) rfl ?_; refine pd_str ?_; refine vr_eqT true (by decide +kernel) ⟨_, rfl, ?_⟩)
      refine iteT ?_
      refine iteT ?_
      exact fin _ rfl
    | false =>
      refine pssd_cons (psd_if ?_)
      refine pwd_pt ?_
      refine pwd_or ?_
      (refine ptd_cmp op_eq ?_; refine pd_ix ix_tup ?_; refine pd_var (i := 0) rfl rfl ?_; refine pd_int ?_; refine vr_ixT (i := 0) rfl ?_; refine pd_str ?_; refine vr_eqT false (by decide +kernel) ⟨_, rfl, ?_⟩)
      refine iteF ?_
      refine pwd_or1 ?_
      (refine ptd_cmp op_eq ?_; refine pd_ix ix_tup ?_; refine pd_var (i := 0) rfl rfl ?_; refine pd_int ?_; refine vr_ixT (i := 0) rfl ?_; refine pd_str ?_; refine vr_eqT true (by decide +kernel) ⟨_, rfl, ?_⟩)
      refine iteT ?_
      exact fin _ rfl
  | md q g t =>
    have hs : t.size + 1 ≤ m := hsz
    have h6 : t.size + 1 ≤ 60 := h60
    obtain ⟨j, rfl⟩ : ∃ j, m = j + 1 := ⟨m - 1, by omega⟩
    cases q with
    | wh =>
      (refine pssd_cons (psd_if ?_); refine pwd_pt ?_; refine pwd_or ?_; (refine ptd_cmp op_eq ?_; refine pd_ix ix_tup ?_; refine pd_var (i := 0) rfl rfl ?_; refine pd_int ?_; refine vr_ixT (i := 0) rfl ?_; refine pd_str ?_; refine vr_eqT false (by decide +kernel) ⟨_, rfl, ?_⟩); refine iteF ?_; refine pwd_or1 ?_; (refine ptd_cmp op_eq ?_; refine pd_ix ix_tup ?_; refine pd_var (i := 0) rfl rfl ?_; refine pd_int ?_; refine vr_ixT (i := 0) rfl ?_; refine pd_str ?_; refine vr_eqT false (by decide +kernel) ⟨_, rfl, ?_⟩); refine iteF ?_; refine pssd_nil ?_)
      refine pssd_cons (psd_if ?_)
      (refine ptd_cmp op_eq ?_; refine pd_ix ix_tup ?_; refine pd_var (i := 0) rfl rfl ?_; refine pd_int ?_; refine vr_ixT (i := 0) rfl ?_; refine pd_str ?_; refine vr_eqT true (by decide +kernel) ⟨_, rfl, ?_⟩)
      refine iteT ?_
      refine pssd_one (psd_ret ?_)
      refine pd_has hP (hr.mono (by omega)) (fun _ => pass0At) ?_
      (refine pad_cons ?_; refine pd_ix ix_tup ?_; refine pd_var (i := 0) rfl rfl ?_; refine pd_int ?_; refine vr_ixT (i := 2) rfl ?_)
      exact pad_nil ⟨t, rfl, ht.2, by omega, k⟩
    | kn =>
      (refine pssd_cons (psd_if ?_); refine pwd_pt ?_; refine pwd_or ?_; (refine ptd_cmp op_eq ?_; refine pd_ix ix_tup ?_; refine pd_var (i := 0) rfl rfl ?_; refine pd_int ?_; refine vr_ixT (i := 0) rfl ?_; refine pd_str ?_; refine vr_eqT false (by decide +kernel) ⟨_, rfl, ?_⟩); refine iteF ?_; refine pwd_or1 ?_; (refine ptd_cmp op_eq ?_; refine pd_ix ix_tup ?_; refine pd_var (i := 0) rfl rfl ?_; refine pd_int ?_; refine vr_ixT (i := 0) rfl ?_; refine pd_str ?_; refine vr_eqT false (by decide +kernel) ⟨_, rfl, ?_⟩); refine iteF ?_; refine pssd_nil ?_)
      (refine pssd_cons (psd_if ?_); (refine ptd_cmp op_eq ?_; refine pd_ix ix_tup ?_; refine pd_var (i := 0) rfl rfl ?_; refine pd_int ?_; refine vr_ixT (i := 0) rfl ?_; refine pd_str ?_; refine vr_eqT false (by decide +kernel) ⟨_, rfl, ?_⟩); refine iteF ?_; refine pssd_nil ?_)
      refine pssd_one (psd_ret ?_)
      refine pd_and ?_
      refine pd_cmp op_ne ?_
      refine pd_ix ix_tup ?_
      refine pd_var (i := 0) rfl rfl ?_
      refine pd_int ?_
      refine vr_ixT (i := 0) rfl ?_
      refine pd_str ?_
      refine vr_neT false (by decide +kernel) ⟨_, rfl, ?_⟩
      refine iteT ?_
      refine pd_one ?_
      refine pd_call (ih j rfl) hr hf G.kp hb (fun _ => pass0At) ?_
      (refine pad_cons ?_; refine pd_ix ix_tup ?_; refine pd_var (i := 0) rfl rfl ?_; refine pd_int ?_; refine vr_ixT (i := 2) rfl ?_)
      refine pad_nil ⟨t, rfl, ht.2, by omega, by omega, ?_⟩
      have e : lpos (.md .kn g t) = posB t := lpos_eq t
      rw [e] at k
      exact k
    | co =>
      (refine pssd_cons (psd_if ?_); refine pwd_pt ?_; refine pwd_or ?_; (refine ptd_cmp op_eq ?_; refine pd_ix ix_tup ?_; refine pd_var (i := 0) rfl rfl ?_; refine pd_int ?_; refine vr_ixT (i := 0) rfl ?_; refine pd_str ?_; refine vr_eqT false (by decide +kernel) ⟨_, rfl, ?_⟩); refine iteF ?_; refine pwd_or1 ?_; (refine ptd_cmp op_eq ?_; refine pd_ix ix_tup ?_; refine pd_var (i := 0) rfl rfl ?_; refine pd_int ?_; refine vr_ixT (i := 0) rfl ?_; refine pd_str ?_; refine vr_eqT false (by decide +kernel) ⟨_, rfl, ?_⟩); refine iteF ?_; refine pssd_nil ?_)
      (refine pssd_cons (psd_if ?_); (refine ptd_cmp op_eq ?_; refine pd_ix ix_tup ?_; refine pd_var (i := 0) rfl rfl ?_; refine pd_int ?_; refine vr_ixT (i := 0) rfl ?_; refine pd_str ?_; refine vr_eqT false (by decide +kernel) ⟨_, rfl, ?_⟩); refine iteF ?_; refine pssd_nil ?_)
      refine pssd_one (psd_ret ?_)
      refine pd_and ?_
      refine pd_cmp op_ne ?_
      refine pd_ix ix_tup ?_
      refine pd_var (i := 0) rfl rfl ?_
      refine pd_int ?_
      refine vr_ixT (i := 0) rfl ?_
      refine pd_str ?_
      refine vr_neT false (by decide +kernel) ⟨_, rfl, ?_⟩
      refine iteT ?_
      refine pd_one ?_
      refine pd_call (ih j rfl) hr hf G.kp hb (fun _ => pass0At) ?_
      (refine pad_cons ?_; refine pd_ix ix_tup ?_; refine pd_var (i := 0) rfl rfl ?_; refine pd_int ?_; refine vr_ixT (i := 2) rfl ?_)
      refine pad_nil ⟨t, rfl, ht.2, by omega, by omega, ?_⟩
      have e : lpos (.md .co g t) = posB t := lpos_eq t
      rw [e] at k
      exact k
theorem ok_pos {f : Addr} {fd : FuncData} (G : Fun K "_law_positive" "_law_positive" sPos f fd) (hf : mg "_law_positive" = some (.ref f)) (hb : Binds K fd ["tree"] []) (hP : HasF P w K mg base T CX0 "_law_plain" 62 ["tree"] spPln) : ∀ m : Nat, FnOk P w K mg base CX0 (m + 63) f fd ["tree"] (spOf K T (spPos m))
  | 0 => pos_step G hf hb hP 0 fun j h => by cases h
  | m + 1 => pos_step G hf hb hP (m + 1) fun j h => by
    cases h
    exact ok_pos G hf hb hP m
end
end Tw

set_option Elab.async false
set_option linter.all false
set_option maxRecDepth 100000
set_option maxHeartbeats 2000000
/-! The law's _law_due and _law_kind. -/
namespace DL
open PySem PySem.Spec PyProof.Rows L2 LamX
section
variable {X : Cx} {T : List (Addr × Str)} {W : WX} {χ : XD} {δ : Dn} {w : Wp} {pos : Pos}
/-- xs[:e] -/
theorem pd_slToE {e hi : Expr} {p2 : Pos} {κ : D → Wp → Prop} (h : PD X T W χ e δ w fun d w1 => PD X T W χ hi δ w1 fun u w2 => ∃ (ds : List D) (n : Nat), LstD d ds ∧ u = I (n : Int) ∧ κ (.lst (ds.take n)) w2) : PD X T W χ (.Subscript e (.Slice none (some hi) none p2) pos) δ w κ := fun F σ S H Q hE hW hX hK =>
  wp_pe (pe_slice sl_list (pe_wp e) po_none (po_some (pe_wp hi))) (by
    refine h F σ S H _ hE hW hX fun d w1 v S1 H1 k s1 W1 r => ?_
    refine k F σ S1 H1 _ (hE.mono s1) W1 (hX.mono s1) fun u w2 y S2 H2 k2 s2 W2 r2 => ?_
    obtain ⟨ds, n, hl, rfl, k2⟩ := k2
    obtain ⟨a, xs, rfl, h1, h2⟩ := hl.at_ W2 (r.mono s2)
    have r2' : y = .int (n : Int) := r2
    subst r2'
    refine ⟨n, rfl, a, xs, rfl, h1, fun p hp => ?_⟩
    rw [cut_to]
    have s3 : Same S2 (upd S2 p (.lst (xs.take n))) := same_upd (W2.free hp).1
    exact hK _ w2 _ _ _ k2 ((s1.trans s2).trans s3) (W2.laid hp fun _ z => by cases z) ⟨p, _, rfl, upd_same, (h2.take n).mono s3⟩)
end
/-- sorted(xs) of texts -/
theorem va_sortS {K : PySem.W.Frag} {T : List (Addr × Str)} {w : Wp} {κ : D → Wp → Prop} {xs : List Str} (hz : xs.length < 64) (k : ∀ ys : List Str, ys.Perm xs → sortedS ys = true → κ (.lst (ys.map DL.T)) w) : VRA K T (rSortedS K) [.lst (xs.map DL.T)] w κ := fun F S H zs Q hW r hK => by
  obtain ⟨y, ys, rfl, h1, h2⟩ := r
  obtain ⟨a, vs, rfl, h3, h4⟩ := h1
  have h2' : ys = [] := h2
  have e := h4.txts
  subst h2' e
  refine ⟨a, xs, rfl, SqL.of (hW.same _ _ h3), hz, fun us p hp hs hn => ?_⟩
  have s1 : Same S (upd S p (.lst (us.map V.str))) := same_upd (hW.free hn).1
  exact hK _ w _ _ _ (k us hp hs) s1 (hW.laid hn fun _ z => by cases z) ⟨p, _, rfl, upd_same, ((RepL.of_txts (ns := us))).mono s1⟩
end DL
namespace Tw
open PySem PySem.Spec PyProof.Rows L2 LamX DL
abbrev sDue : Stmt := top 40
abbrev sKind : Stmt := top 41
/-- the first ones of what stands twice -/
def firsts (l : List Str) : List Str := ((List.range l.length).filter fun i => !decide (l.getD i "" ∈ l.take i)).map fun i => l.getD i ""
theorem firsts_mem (l : List Str) (z : Str) : z ∈ firsts l ↔ z ∈ l := by
  unfold firsts
  constructor
  · intro h
    obtain ⟨i, hi, rfl⟩ := List.mem_map.mp h
    have lt := List.mem_range.mp (List.mem_filter.mp hi).1
    rw [List.getD_eq_getElem?_getD, List.getElem?_eq_getElem lt]
    exact List.getElem_mem lt
  · intro h
    have hp : l.idxOf z < l.length := List.idxOf_lt_length_iff.mpr h
    have hv : l.getD (l.idxOf z) "" = z := by
      rw [List.getD_eq_getElem?_getD, List.getElem?_eq_getElem hp]
      exact List.getElem_idxOf hp
    refine List.mem_map.mpr ⟨l.idxOf z, List.mem_filter.mpr ⟨List.mem_range.mpr hp, ?_⟩, hv⟩
    rw [hv]
    have : z ∉ l.take (l.idxOf z) := fun q => by
      have h1 := List.idxOf_lt_length_iff.mpr q
      have h2 : (l.take (l.idxOf z)).idxOf z = l.idxOf z := by
        have e : l.take (l.idxOf z) ++ l.drop (l.idxOf z) = l := List.take_append_drop _ _
        have h3 : (l.take (l.idxOf z) ++ l.drop (l.idxOf z)).idxOf z = (l.take (l.idxOf z)).idxOf z := by
          rw [List.idxOf_append, if_pos q]
        rw [e] at h3
        exact h3.symm
      rw [h2, List.length_take] at h1
      omega
    rw [decide_eq_false this]
    rfl
theorem firsts_nodup (l : List Str) : (firsts l).Nodup := by
  unfold firsts
  refine List.pairwise_map.mpr (List.Pairwise.imp_of_mem (R := fun a b => a < b) (fun {a b} ha hb hab => ?_) (List.pairwise_lt_range.filter _))
  have la := List.mem_range.mp (List.mem_filter.mp ha).1
  have nb : l.getD b "" ∉ l.take b := by simpa using (List.mem_filter.mp hb).2
  intro e
  refine nb ?_
  rw [← e, List.getD_eq_getElem?_getD, List.getElem?_eq_getElem la]
  exact List.mem_take_iff_getElem.mpr ⟨a, by omega, rfl⟩
theorem firsts_gather (l : List Str) : (firsts l).Perm (gather [] l) := perm_of_mem (firsts_nodup l) (gather_nodup l [] List.nodup_nil) fun z => by
  rw [firsts_mem, gather_mem]
  simp
abbrev NDue : List Str := ["tree", "parts", "names", "people", "letters", "part", "k", "letter"]
def spDue : SpD := fun ds w κ χ => ∃ t : Tr, ds = [trD t] ∧ TrOk t ∧ t.size ≤ 60 ∧ ∀ ys : List Str, ys.Perm (gather [] (factL t)) → sortedS ys = true →
  κ (.lst [I (t.size : Int), .lst (ys.map DL.T), DL.T ⟨(pick (Txt.join ("" : Str) (groupL t))).toArray⟩, B (plainB t), I (t.depth : Int), B (posB t)]) w
theorem nm_fact (t : Tr) : decide (t.nm = ("fact" : Str)) = t.isFact := by
  cases t with
  | tru b => show decide (("truth" : Str) = ("fact" : Str)) = false; decide +kernel
  | fact n => show decide (("fact" : Str) = ("fact" : Str)) = true; decide +kernel
  | neg t => show decide (("not" : Str) = ("fact" : Str)) = false; decide +kernel
  | bin a l r => cases a with
    | true => show decide (("and" : Str) = ("fact" : Str)) = false; decide +kernel
    | false => show decide (("or" : Str) = ("fact" : Str)) = false; decide +kernel
  | md k g t => cases k with
    | kn => show decide (("knows" : Str) = ("fact" : Str)) = false; decide +kernel
    | wh => show decide (("whether" : Str) = ("fact" : Str)) = false; decide +kernel
    | co => show decide (("common" : Str) = ("fact" : Str)) = false; decide +kernel
theorem factL_filter (t : Tr) : factL t = (t.parts.filter Tr.isFact).map fun u => u.fnm.getD "" := by
  unfold factL
  induction t.parts with
  | nil => rfl
  | cons u l ih =>
    rw [List.filterMap_cons, List.filter_cons]
    cases u <;> simp [Tr.fnm, Tr.isFact, ih]
section
variable {P : Program} {w : PySem.World} {K : PySem.W.Frag} {mg : Str → Option Value} {base : Heap} {T : List (Addr × Str)} {c : SC} {cS fS CG CC CN : Addr}
theorem scDue : FnScope NDue ["tree"] (defScope sDue) := ⟨rfl, rfl, rfl, by decide +kernel, rfl, by decide +kernel, by decide +kernel⟩
theorem ok_due {f : Addr} {fd : FuncData} (G : Fun K "_law_due" "_law_due" sDue f fd) (hm : Nm2 mg) (hso : mg "sorted" = none) (hP : HasF P w K mg base T CX0 "_law_parts" 61 ["tree"] (spPts 60)) (hPl : HasF P w K mg base T CX0 "_law_plain" 62 ["tree"] spPln)
    (hD : HasF P w K mg base T CX0 "_law_depth" 61 ["tree"] (spDep 60)) (hPo : HasF P w K mg base T CX0 "_law_positive" 123 ["tree"] (spPos 60)) : FnOk P w K mg base CX0 124 f fd ["tree"] (spOf K T spDue) := by
  refine fnD G scDue (fun ds w κ χ h => ?_) (fun cdv A' outer s H E ds w0 κ χ hr h => ?_)
  · obtain ⟨t, rfl, _⟩ := h
    rfl
  obtain ⟨t, rfl, ht, hz, k⟩ := h
  have nd := scDue.nd
  have pl := parts_len t
  have fl := filt_len t
  have gl := groupL_len t
  have gs := sum_le (groupL t) 8 (groupL_sh t (sh_of ht))
  have jl := join_len (groupL t)
  refine pssd_cons (psd_set (i := 1) nd rfl ?_)
  refine pd_has hP (hr.mono (by decide)) (fun _ => pass0At) ?_
  (refine pad_cons ?_; refine pd_var (i := 0) rfl rfl ?_)
  refine pad_nil ⟨t, rfl, hz, by omega, ?_⟩
  refine pssd_cons (psd_set (i := 2) nd rfl ?_)
  refine pd_lc (own := [("part", 5)]) (is := [5]) rfl nd (blkOk_by rfl) (by decide) ?_
  refine it_list ?_
  refine pd_var (i := 1) rfl rfl ?_
  refine ⟨_, rfl, ?_⟩
  refine lcd_filter Tr.isFact (fun u => DL.T (u.fnm.getD "")) (small1000 (by omega)) (fun u hu s2 H0 C1 cl1 fp1 => ?_) ?_
  · refine pgl_name (i := 5) nd rfl ?_
    intro s3 H0 C1 cl1 fp1
    refine ptsd_one ?_
    refine ptd_cmp op_eq ?_
    refine pd_ix ix_tup ?_
    refine pd_var (i := 5) rfl rfl ?_
    refine pd_int ?_
    obtain ⟨dsn, en⟩ := trD_nm u
    rw [en]
    refine vr_ixT (i := 0) rfl ?_
    refine pd_str ?_
    refine vr_eqT u.isFact (nm_fact u) ⟨_, rfl, ?_⟩
    cases u with
    | fact n =>
      obtain rfl : [DL.T n] = dsn := (List.cons.inj (D.tup.inj en)).2
      refine iteT ?_
      intro s4 H0 C1 cl1 fp1
      refine pd_ix ix_tup ?_
      refine pd_var (i := 5) rfl rfl ?_
      refine pd_int ?_
      exact vr_ixT (i := 1) (d := DL.T n) rfl ⟨rfl, rfl, rfl⟩
    | _ => exact iteF ⟨rfl, rfl⟩
  have ef : (t.parts.filter Tr.isFact).map (fun u => DL.T (u.fnm.getD "")) = (factL t).map DL.T := by
    rw [factL_filter, List.map_map]
    rfl
  rw [ef]
  refine pssd_cons (psd_set (i := 2) nd rfl ?_)
  refine pd_callB cr_sortedS rfl hso bt_sorted ?_
  refine pad_cons ?_
  refine pd_lc (own := [("k", 6)]) (is := [6]) rfl nd (blkOk_by rfl) (by decide) ?_
  refine it_range hm.range ?_
  refine pd_callB call_len_seq rfl hm.len PySem.boot_len ?_
  (refine pad_cons ?_; refine pd_var (i := 2) rfl rfl ?_)
  refine pad_nil ?_
  refine va_len ?_
  refine ⟨((factL t).map DL.T).length, rfl, lt62 (by rw [List.length_map]; have : (1000 : Nat) ≤ sizeLine := by decide
                                                     omega), ?_⟩
  rw [List.length_map]
  refine lcd_ix (ds := ups (factL t).length) (fun i => !decide ((factL t).getD i "" ∈ (factL t).take i)) (fun i => DL.T ((factL t).getD i "")) (by rw [ups_len]; exact small1000 (by omega)) (fun i d hd s2 H0 C1 cl1 fp1 => ?_) ?_
  · obtain ⟨hi, rfl⟩ := ups_at hd
    have ei : ((factL t).map DL.T)[i]? = some (DL.T ((factL t).getD i "")) := by
      rw [List.getElem?_map, List.getD_eq_getElem?_getD, List.getElem?_eq_getElem hi]
      rfl
    refine pgl_name (i := 6) nd rfl ?_
    intro s3 H0 C1 cl1 fp1
    refine ptsd_one ?_
    refine ptd_cmp op_notIn_seq ?_
    refine pd_ix ix_list ?_
    refine pd_var (i := 2) rfl rfl ?_
    refine pd_var (i := 6) rfl rfl ?_
    refine vr_ixL ei ?_
    refine pd_slToE ?_
    refine pd_var (i := 2) rfl rfl ?_
    refine pd_var (i := 6) rfl rfl ?_
    refine ⟨_, i, .inl rfl, rfl, ?_⟩
    rw [← List.map_take]
    refine vr_ninS ⟨_, rfl, ?_⟩
    cases q : (!decide ((factL t).getD i "" ∈ (factL t).take i)) with
    | true =>
      refine iteT ?_
      intro s4 H0 C1 cl1 fp1
      refine pd_ix ix_list ?_
      refine pd_var (i := 2) rfl rfl ?_
      refine pd_var (i := 6) rfl rfl ?_
      exact vr_ixL ei ⟨rfl, rfl, rfl⟩
    | false => exact iteF ⟨rfl, rfl⟩
  rw [ups_len]
  have er : ((List.range (factL t).length).filter fun i => !decide ((factL t).getD i "" ∈ (factL t).take i)).map (fun i => DL.T ((factL t).getD i "")) = (firsts (factL t)).map DL.T := by
    unfold firsts
    rw [List.map_map]
    rfl
  rw [er]
  refine pad_nil ?_
  have fg := firsts_gather (factL t)
  have g1 := gather_len (factL t) []
  have g2 := fg.length_eq
  refine va_sortS (by simp only [List.length_nil] at g1; omega) fun ys hy hs => ?_
  refine pssd_cons (psd_set (i := 3) nd rfl ?_)
  refine pd_bm PySem.F.plainAttrs_str PySem.F.slot_str_join PySem.F.type_str_join mt_join ?_
  refine pd_str ?_
  refine ⟨rfl, ?_⟩
  refine pad_cons ?_
  refine pd_lc (own := [("part", 5)]) (is := [5]) rfl nd (blkOk_by rfl) (by decide) ?_
  refine it_list ?_
  refine pd_var (i := 1) rfl rfl ?_
  refine ⟨_, rfl, ?_⟩
  refine lcd_filter Tr.isMd (fun u => DL.T (u.grp.getD "")) (small1000 (by omega)) (fun u hu s2 H0 C1 cl1 fp1 => ?_) ?_
  · refine pgl_name (i := 5) nd rfl ?_
    intro s3 H0 C1 cl1 fp1
    refine ptsd_one ?_
    (refine ptd_cmp op_in_seq ?_; refine pd_ix ix_tup ?_; refine pd_var (i := 5) rfl rfl ?_; refine pd_int ?_; obtain ⟨dsn, en⟩ := trD_nm u; rw [en]; refine vr_ixT (i := 0) rfl ?_; refine pd_tup ?_; refine pad_cons (pd_str ?_); refine pad_cons (pd_str ?_); refine pad_cons (pd_str ?_); refine pad_nil ⟨by show 3 ≤ sizeLine; decide, ?_⟩; refine vr_inST (ys := mdNames) ⟨_, rfl, ?_⟩; rw [nm_md])
    cases u with
    | md k g v =>
      obtain rfl : [DL.T g, trD v] = dsn := (List.cons.inj (D.tup.inj en)).2
      refine iteT ?_
      intro s4 H0 C1 cl1 fp1
      refine pd_ix ix_tup ?_
      refine pd_var (i := 5) rfl rfl ?_
      refine pd_int ?_
      exact vr_ixT (i := 1) (d := DL.T g) rfl ⟨rfl, rfl, rfl⟩
    | _ => exact iteF ⟨rfl, rfl⟩
  have eg : (t.parts.filter Tr.isMd).map (fun u => DL.T (u.grp.getD "")) = (groupL t).map DL.T := by
    unfold groupL
    rw [List.map_map]
    rfl
  rw [eg]
  refine pad_nil ?_
  refine vm_join (by show _ + _ * 0 ≤ _; omega) ?_
  refine pssd_cons (psd_set (i := 4) nd rfl ?_)
  refine pd_bm PySem.F.plainAttrs_str PySem.F.slot_str_join PySem.F.type_str_join mt_join ?_
  refine pd_str ?_
  refine ⟨rfl, ?_⟩
  refine pad_cons ?_
  refine pd_lc (own := [("letter", 7)]) (is := [7]) rfl nd (blkOk_by rfl) (by decide) ?_
  refine it_str ?_
  refine pd_str ?_
  refine ⟨ahT, rfl, ?_⟩
  refine lcd_filter (xs := cl ahT) (g := fun c => DL.T (letS c)) (fun ch => decide (ch ∈ cl (Txt.join ("" : Str) (groupL t)))) (fun c => DL.T (letS c)) (small1000 (by rw [ah_cl]; decide)) (fun ch hc s2 H0 C1 cl1 fp1 => ?_) ?_
  · refine pgl_name (i := 7) nd rfl ?_
    intro s3 H0 C1 cl1 fp1
    refine ptsd_one ?_
    refine ptd_cmp op_in_sign ?_
    refine pd_var (i := 7) rfl rfl ?_
    refine pd_var (i := 3) rfl rfl ?_
    refine vr_inSg ⟨_, rfl, ?_⟩
    cases q : decide (ch ∈ cl (Txt.join ("" : Str) (groupL t))) with
    | false => exact iteF ⟨rfl, rfl⟩
    | true =>
      refine iteT ?_
      intro s3 H0 C1 cl1 fp1
      refine pd_var (i := 7) rfl rfl ?_
      exact ⟨rfl, rfl, rfl⟩
  refine pad_nil ?_
  have ep : ((cl ahT).filter fun ch => decide (ch ∈ cl (Txt.join ("" : Str) (groupL t)))).map (fun c => DL.T (letS c)) = ((pick (Txt.join ("" : Str) (groupL t))).map letS).map DL.T := by
    rw [List.map_map]
    rfl
  rw [ep]
  have lp := pick_len (Txt.join ("" : Str) (groupL t))
  refine vm_join (by rw [sum_let, List.length_map]; show _ + _ * 0 ≤ _; omega) ?_
  rw [txt_let]
  refine pssd_one (psd_ret ?_)
  refine pd_lst ?_
  refine pad_cons ?_
  refine pd_callB call_len_seq rfl hm.len PySem.boot_len ?_
  (refine pad_cons ?_; refine pd_var (i := 1) rfl rfl ?_)
  refine pad_nil ?_
  refine va_len ?_
  rw [List.length_map, pl]
  (refine pad_cons ?_; refine pd_var (i := 2) rfl rfl ?_)
  (refine pad_cons ?_; refine pd_var (i := 4) rfl rfl ?_)
  refine pad_cons ?_
  refine pd_has hPl (hr.mono (by decide)) (fun _ => pass0At) ?_
  (refine pad_cons ?_; refine pd_var (i := 0) rfl rfl ?_)
  refine pad_nil ⟨t, rfl, ht, hz, ?_⟩
  refine pad_cons ?_
  refine pd_has hD (hr.mono (by decide)) (fun _ => pass0At) ?_
  (refine pad_cons ?_; refine pd_var (i := 0) rfl rfl ?_)
  refine pad_nil ⟨t, rfl, hz, ?_⟩
  refine pad_cons ?_
  refine pd_has hPo (hr.mono (by decide)) (fun _ => pass0At) ?_
  (refine pad_cons ?_; refine pd_var (i := 0) rfl rfl ?_)
  refine pad_nil ⟨t, rfl, ht, hz, hz, ?_⟩
  refine pad_nil ⟨by show 6 ≤ sizeLine; decide, ?_⟩
  exact k ys (hy.trans fg) hs
abbrev kinds : List Kd := [.tr, .fa, .ne, .an, .or, .kn, .wh, .co]
def spKind (c : SC) : SpD := fun ds w κ χ => ∃ t : Tr, ds = [sayD c t] ∧ κ (.lst (kinds.map fun j => B (decide (t.kd = j)))) w
theorem scKind : FnScope ["saying", "row"] ["saying"] (defScope sKind) := ⟨rfl, rfl, rfl, by decide +kernel, rfl, by decide +kernel, by decide +kernel⟩
theorem ok_kind {f : Addr} {fd : FuncData} (G : Fun K "_law_kind" "_law_kind" sKind f fd) (hm : Nm2 mg) (hs : NmS mg c cS) (Q : SayQ K c cS) : FnOk P w K mg base CX0 1 f fd ["saying"] (spOf K T (spKind c)) := by
  refine fnD G scKind (fun ds w κ χ h => ?_) (fun cdv A' outer s H E ds w0 κ χ hr h => ?_)
  · obtain ⟨t, rfl, _⟩ := h
    rfl
  obtain ⟨t, rfl, k⟩ := h
  have nd := scKind.nd
  refine pssd_cons (psd_set (i := 1) nd rfl ?_)
  refine pd_lst ?_
  (refine pad_cons ?_; refine pd_callB call_isi rfl hm.isinstance PyProof.Rows.boot_isinstance ?_; (refine pad_cons ?_; refine pd_var (i := 0) rfl rfl ?_); refine pad_cons ?_; refine pd_glob (v := .ref (c.cls (.tr))) (hs.mT) rfl ?_; refine pad_nil ?_; refine va_isC (say_ty Q _) (Q.one _ (.tr)) ?_)
  (refine pad_cons ?_; refine pd_callB call_isi rfl hm.isinstance PyProof.Rows.boot_isinstance ?_; (refine pad_cons ?_; refine pd_var (i := 0) rfl rfl ?_); refine pad_cons ?_; refine pd_glob (v := .ref (c.cls (.fa))) (hs.mF) rfl ?_; refine pad_nil ?_; refine va_isC (say_ty Q _) (Q.one _ (.fa)) ?_)
  (refine pad_cons ?_; refine pd_callB call_isi rfl hm.isinstance PyProof.Rows.boot_isinstance ?_; (refine pad_cons ?_; refine pd_var (i := 0) rfl rfl ?_); refine pad_cons ?_; refine pd_glob (v := .ref (c.cls (.ne))) (hs.mN) rfl ?_; refine pad_nil ?_; refine va_isC (say_ty Q _) (Q.one _ (.ne)) ?_)
  (refine pad_cons ?_; refine pd_callB call_isi rfl hm.isinstance PyProof.Rows.boot_isinstance ?_; (refine pad_cons ?_; refine pd_var (i := 0) rfl rfl ?_); refine pad_cons ?_; refine pd_glob (v := .ref (c.cls (.an))) (hs.mA) rfl ?_; refine pad_nil ?_; refine va_isC (say_ty Q _) (Q.one _ (.an)) ?_)
  refine pad_nil ⟨by show 4 ≤ sizeLine; decide, ?_⟩
  refine pssd_cons (psd_set (i := 1) nd rfl ?_)
  refine pd_op op_cat ?_
  refine pd_var (i := 1) rfl rfl ?_
  refine pd_lst ?_
  (refine pad_cons ?_; refine pd_callB call_isi rfl hm.isinstance PyProof.Rows.boot_isinstance ?_; (refine pad_cons ?_; refine pd_var (i := 0) rfl rfl ?_); refine pad_cons ?_; refine pd_glob (v := .ref (c.cls (.or))) (hs.mO) rfl ?_; refine pad_nil ?_; refine va_isC (say_ty Q _) (Q.one _ (.or)) ?_)
  (refine pad_cons ?_; refine pd_callB call_isi rfl hm.isinstance PyProof.Rows.boot_isinstance ?_; (refine pad_cons ?_; refine pd_var (i := 0) rfl rfl ?_); refine pad_cons ?_; refine pd_glob (v := .ref (c.cls (.kn))) (hs.mK) rfl ?_; refine pad_nil ?_; refine va_isC (say_ty Q _) (Q.one _ (.kn)) ?_)
  (refine pad_cons ?_; refine pd_callB call_isi rfl hm.isinstance PyProof.Rows.boot_isinstance ?_; (refine pad_cons ?_; refine pd_var (i := 0) rfl rfl ?_); refine pad_cons ?_; refine pd_glob (v := .ref (c.cls (.wh))) (hs.mW) rfl ?_; refine pad_nil ?_; refine va_isC (say_ty Q _) (Q.one _ (.wh)) ?_)
  refine pad_nil ⟨by show 3 ≤ sizeLine; decide, ?_⟩
  refine vr_cat (by show 7 ≤ sizeLine; decide) ?_
  refine pssd_one (psd_ret ?_)
  refine pd_op op_cat ?_
  refine pd_var (i := 1) rfl rfl ?_
  refine pd_lst ?_
  (refine pad_cons ?_; refine pd_callB call_isi rfl hm.isinstance PyProof.Rows.boot_isinstance ?_; (refine pad_cons ?_; refine pd_var (i := 0) rfl rfl ?_); refine pad_cons ?_; refine pd_glob (v := .ref (c.cls (.co))) (hs.mC) rfl ?_; refine pad_nil ?_; refine va_isC (say_ty Q _) (Q.one _ (.co)) ?_)
  refine pad_nil ⟨by show 1 ≤ sizeLine; decide, ?_⟩
  refine vr_cat (by show 8 ≤ sizeLine; decide) ?_
  exact k
end
end Tw

set_option Elab.async false
set_option linter.all false
set_option maxRecDepth 100000
set_option maxHeartbeats 2000000
/-! The law's _law_shown and _law_spoil. -/
namespace Tw
open PySem PySem.Spec PyProof.Rows L2 LamX DL
abbrev sShown : Stmt := top 42
abbrev sSpoil : Stmt := top 43
abbrev NShown : List Str := ["saying", "tree", "told", "parts", "due", "kinds", "k", "kind"]
def Kd.nm : Kd → Str
  | .tr => "truth"
  | .fa => "fact"
  | .ne => "not"
  | .an => "and"
  | .or => "or"
  | .kn => "knows"
  | .wh => "whether"
  | .co => "common"
theorem kd_nm (t : Tr) : t.nm = t.kd.nm := by
  cases t with
  | bin a l r => cases a <;> rfl
  | md k g t => cases k <;> rfl
  | _ => rfl
theorem kd_eq : ∀ i j : Kd, decide (i.nm = j.nm) = decide (j = i) := by
  intro i j
  cases i <;> cases j <;> decide +kernel
/-- what a saying must tell of itself -/
structure ShowK (P : Program) (w : PySem.World) (K : PySem.W.Frag) (mg : Str → Option Value) (base : Heap) (T : List (Addr × Str)) (c : SC) : Prop where
  parts : SayM P w K mg base T c "parts" 1 (spParts c)
  facts : SayM P w K mg base T c "facts" 2 (spFacts c)
  letters : SayM P w K mg base T c "letters" 2 (spLetters c)
  plain : SayP P w K mg base T c "plain" 2 (spPlain c)
  depth : SayP P w K mg base T c "depth" 2 (spDepth c)
  posi : SayP P w K mg base T c "positive" 4 (spPosi c)
  len : ∃ f fd, FnOk P w K mg base CX0 2 f fd ["self"] (spOf K T (spLenM c)) ∧ (∀ t : Tr, PySem.W.findIn K (.ref (c.of t)) "__len__" = some (some (.ref f))) ∧ PySem.W.isFn K (.ref f) = true ∧ Binds K fd ["self"] []
def spShown (c : SC) : SpD := fun ds w κ χ => ∃ t : Tr, ds = [sayD c t, trD t] ∧ TrOk t ∧ t.size ≤ 60 ∧ κ (B true) w
def spSpoil (c : SC) : SpD := fun ds w κ χ => ∃ t : Tr, ds = [sayD c t] ∧ t.size ≤ 60 ∧ κ N w
theorem mem_chars {z x : Str} : z ∈ chars x ↔ ∃ ch ∈ cl x, letS ch = z := List.mem_map
theorem grp_low {t : Tr} (ht : TrOk t) : ∀ x ∈ groupL t, ∀ z ∈ cl x, 97 ≤ z ∧ z ≤ 104 := fun x hx => by
  obtain ⟨u, hu, rfl⟩ := List.mem_map.mp hx
  obtain ⟨h1, h2⟩ := List.mem_filter.mp hu
  have ho := ok_parts_tr t ht u h1
  cases u with
  | md k g v => exact group_ah ho.1
  | _ => cases h2
theorem join_mem {l : List Str} {z : Nat} : z ∈ cl (Txt.join ("" : Str) l) ↔ ∃ x ∈ l, z ∈ cl x := by
  rw [txt_join0]
  exact List.mem_flatMap
theorem pick_mem {s : Str} {z : Nat} : z ∈ pick s ↔ (97 ≤ z ∧ z ≤ 104) ∧ z ∈ cl s := by
  unfold pick
  rw [List.mem_filter, ah_cl, decide_eq_true_iff]
  refine and_congr ?_ Iff.rfl
  simp only [List.mem_cons, List.not_mem_nil, or_false]
  omega
theorem pick_up (s : Str) : (pick s).Pairwise (· < ·) := by
  unfold pick
  rw [ah_cl]
  exact List.Pairwise.filter _ (by decide)
theorem letS_inj {a b : Nat} (h : letS a = letS b) : a = b := by
  have e : cl (letS a) = cl (letS b) := by rw [h]
  exact (List.cons.inj e).1
theorem letters_one {s : Str} (low : ∀ z ∈ cl s, 97 ≤ z ∧ z ≤ 104) {ys : List Str} (hp : ys.Perm (gather [] (chars s))) (hs : sortedS ys = true) : Txt.join ("" : Str) ys = ⟨(pick s).toArray⟩ := by
  have e : ys = (pick s).map letS := by
    refine sorted_one (hp.trans (perm_of_mem (gather_nodup _ _ List.nodup_nil) ?_ fun z => ?_)) hs ?_
    · exact List.pairwise_map.mpr ((pick_up s).imp fun {a b} h e => Nat.ne_of_lt h (letS_inj e))
    · rw [gather_mem, mem_chars]
      constructor
      · rintro (h | ⟨ch, h1, rfl⟩)
        · cases h
        · exact List.mem_map.mpr ⟨ch, pick_mem.mpr ⟨low ch h1, h1⟩, rfl⟩
      · intro h
        obtain ⟨ch, h1, rfl⟩ := List.mem_map.mp h
        exact .inr ⟨ch, (pick_mem.mp h1).2, rfl⟩
    · refine sorted_of (List.pairwise_map.mpr ((pick_up s).imp fun {a b} h => ?_))
      show [a] ≤ [b]
      exact Std.not_lt.mp fun q => by
        rw [List.cons_lt_cons_iff] at q
        rcases q with q | ⟨_, q⟩
        · omega
        · exact absurd q (by simp)
  rw [e, txt_let]
section
variable {P : Program} {w : PySem.World} {K : PySem.W.Frag} {mg : Str → Option Value} {base : Heap} {T : List (Addr × Str)} {c : SC} {cS fS CG CC CN : Addr}
theorem scShown : FnScope NShown ["saying", "tree"] (defScope sShown) := ⟨rfl, rfl, rfl, by decide +kernel, rfl, by decide +kernel, by decide +kernel⟩
theorem ok_shown {f : Addr} {fd : FuncData} (G : Fun K "_law_shown" "_law_shown" sShown f fd) (hm : Nm2 mg) (A : SayAll K fS c) (Z : ShowK P w K mg base T c) (hS : ∀ n, HasF P w K mg base T CX0 "_law_same" (n + 1) ["actual", "due"] (spSame n)) (hP : HasF P w K mg base T CX0 "_law_parts" 61 ["tree"] (spPts 60))
    (hD : HasF P w K mg base T CX0 "_law_due" 124 ["tree"] spDue) (hA : HasF P w K mg base T CX0 "_law_agrees" 62 ["saying", "tree"] (spAgr c 60)) (hK : HasF P w K mg base T CX0 "_law_kind" 1 ["saying"] (spKind c)) : FnOk P w K mg base CX0 125 f fd ["saying", "tree"] (spOf K T (spShown c)) := by
  refine fnD G scShown (fun ds w κ χ h => ?_) (fun cdv A' outer s H E ds w0 κ χ hr h => ?_)
  · obtain ⟨t, rfl, _⟩ := h
    rfl
  obtain ⟨t, rfl, ht, hz, k⟩ := h
  have nd := scShown.nd
  have pl := parts_len t
  obtain ⟨fl, fdl, l1, l2, l3, l4⟩ := Z.len
  obtain ⟨p1, g1, fd1, q1, q2, q3⟩ := Z.plain t
  obtain ⟨p4, g4, fd4, q4, q5, q6⟩ := Z.depth t
  obtain ⟨p7, g7, fd7, q7, q8, q9⟩ := Z.posi t
  refine pssd_cons (psd_set (i := 2) nd rfl ?_)
  refine pd_lst ?_
  refine pad_cons ?_
  refine pd_callB (call_lenOwn l1 (hr.mono (by decide)) (l2 t) l3 l4) rfl hm.len PySem.boot_len ?_
  (refine pad_cons ?_; refine pd_var (i := 0) rfl rfl ?_)
  refine pad_nil ?_
  refine va_lenOwn (say_is c t) ⟨t, rfl, hz, (t.size : Int), rfl, by omega, by omega, ?_⟩
  refine pad_cons ?_
  refine pd_frz ?_
  refine pd_hasm0 (A t).cl (Z.facts t) (hr.mono (by decide)) (fun _ => pass0At) ?_
  refine pd_var (i := 0) rfl rfl ?_
  refine ⟨say_ins (K := K) t _ (by decide +kernel), t, rfl, hz, fun ys hy hs a na => ?_⟩
  refine ⟨a, _, rfl, wu_same, ?_⟩
  rw [wd_wu na]
  refine pad_cons ?_
  refine pd_hasm0 (A t).cl (Z.letters t) (hr.mono (by decide)) (fun _ => pass0At) ?_
  refine pd_var (i := 0) rfl rfl ?_
  refine ⟨say_ins (K := K) t _ (by decide +kernel), t, rfl, hz, sh_of ht, grp_low ht, fun zs hy2 hs2 => ?_⟩
  rw [letters_one (fun z hz => by
    obtain ⟨x, hx, h⟩ := join_mem.mp hz
    exact grp_low ht x hx z h) hy2 hs2]
  refine pad_cons ?_
  refine pd_prop (A t).cl q1 q2 (hr.mono (by decide)) q3 ?_
  refine pd_var (i := 0) rfl rfl ?_
  refine ⟨say_is c t, t, rfl, hz, ?_⟩
  refine pad_cons ?_
  refine pd_prop (A t).cl q4 q5 (hr.mono (by decide)) q6 ?_
  refine pd_var (i := 0) rfl rfl ?_
  refine ⟨say_is c t, t, rfl, hz, ?_⟩
  refine pad_cons ?_
  refine pd_prop (A t).cl q7 q8 (hr.mono (by decide)) q9 ?_
  refine pd_var (i := 0) rfl rfl ?_
  refine ⟨say_is c t, t, rfl, hz, ?_⟩
  refine pad_nil ⟨by show 6 ≤ sizeLine; decide, ?_⟩
  refine pssd_cons (psd_set (i := 3) nd rfl ?_)
  refine pd_frz ?_
  refine pd_hasm0 (A t).cl (Z.parts t) (hr.mono (by decide)) (fun _ => pass0At) ?_
  refine pd_var (i := 0) rfl rfl ?_
  refine ⟨say_ins (K := K) t _ (by decide +kernel), t, rfl, by omega, fun a na => ?_⟩
  refine ⟨a, _, rfl, wu_same, ?_⟩
  rw [wd_wu na]
  refine pssd_cons (psd_set (i := 4) nd rfl ?_)
  refine pd_has hP (hr.mono (by decide)) (fun _ => pass0At) ?_
  (refine pad_cons ?_; refine pd_var (i := 1) rfl rfl ?_)
  refine pad_nil ⟨t, rfl, hz, by omega, ?_⟩
  refine pssd_cons (psd_if ?_)
  refine pwd_pt ?_
  refine pwd_or ?_
  refine ptd_not ?_
  refine ptd_val ?_
  refine pd_has (hS 3) (hr.mono (by decide)) (fun _ => pass0At) ?_
  (refine pad_cons ?_; refine pd_var (i := 2) rfl rfl ?_)
  refine pad_cons ?_
  refine pd_has hD (hr.mono (by decide)) (fun _ => pass0At) ?_
  (refine pad_cons ?_; refine pd_var (i := 1) rfl rfl ?_)
  refine pad_nil ⟨t, rfl, ht, hz, fun us hu hsu => ?_⟩
  have eu : us = ys := sorted_one (hu.trans hy.symm) hsu hs
  subst eu
  have ul : us.length ≤ 60 := by
    have h1 := gather_len (factL t) []
    have h2 := filt_len t
    have h3 := hu.length_eq
    simp only [List.length_nil] at h1
    omega
  refine pad_nil ⟨_, _, rfl, .inl (.inl (.lst rfl (by show 6 ≤ sizeLine; decide) fun i x y h1 h2 => ?_)), _, rfl, ?_⟩
  · match i, h1, h2 with
    | 0, h1, h2 => cases h1; cases h2; exact .int _
    | 1, h1, h2 => cases h1; cases h2; exact sm_txts (by omega)
    | 2, h1, h2 => cases h1; cases h2; exact .str _
    | 3, h1, h2 => cases h1; cases h2; exact .bl _
    | 4, h1, h2 => cases h1; cases h2; exact .int _
    | 5, h1, h2 => cases h1; cases h2; exact .bl _
    | n + 6, h1, h2 => cases h1
  refine iteF ?_
  refine pwd_or ?_
  refine ptd_not ?_
  refine ptd_val ?_
  (refine pd_callB call_isi rfl hm.isinstance PyProof.Rows.boot_isinstance ?_; refine pad_cons ?_; refine pd_var (i := 3) rfl rfl ?_; refine pad_cons ?_; refine pd_bltn (v := .ty "list") hm.list bt_list rfl ?_; refine pad_nil ?_)
  refine va_isi rfl kb_ll ?_
  refine ⟨_, rfl, ?_⟩
  refine iteF ?_
  refine pwd_or1 ?_
  refine ptd_cmp op_ne ?_
  refine pd_callB call_len_seq rfl hm.len PySem.boot_len ?_
  (refine pad_cons ?_; refine pd_var (i := 3) rfl rfl ?_)
  refine pad_nil ?_
  refine va_len ?_
  refine pd_callB call_len_seq rfl hm.len PySem.boot_len ?_
  (refine pad_cons ?_; refine pd_var (i := 4) rfl rfl ?_)
  refine pad_nil ?_
  refine va_len ?_
  refine vr_ne rfl ?_
  refine ⟨_, rfl, ?_⟩
  rw [List.length_map, List.length_map, decide_eq_true rfl]
  refine iteF ?_
  refine pssd_nil ?_
  refine pssd_cons (psd_set (i := 5) nd rfl ?_)
  refine pd_lst ?_
  refine pad_cons (pd_str ?_)
  refine pad_cons (pd_str ?_)
  refine pad_cons (pd_str ?_)
  refine pad_cons (pd_str ?_)
  refine pad_cons (pd_str ?_)
  refine pad_cons (pd_str ?_)
  refine pad_cons (pd_str ?_)
  refine pad_cons (pd_str ?_)
  refine pad_nil ⟨by show 8 ≤ sizeLine; decide, ?_⟩
  refine pssd_cons (psd_for PassesOwn.never rfl ?_)
  refine it_range hm.range ?_
  refine pd_callB call_len_seq rfl hm.len PySem.boot_len ?_
  (refine pad_cons ?_; refine pd_var (i := 4) rfl rfl ?_)
  refine pad_nil ?_
  refine va_len ?_
  refine ⟨(t.parts.map trD).length, rfl, lt62 (by rw [List.length_map, pl]; have : (1000 : Nat) ≤ sizeLine := by decide
                                                  omega), ?_⟩
  refine ⟨fun i δ' w' => w' = w0 ∧ ∃ x, δ' = [some (sayD c t), some (trD t), some (.lst [I (t.size : Int), .lst (us.map DL.T), DL.T ⟨(pick (Txt.join ("" : Str) (groupL t))).toArray⟩, B (plainB t), I (t.depth : Int), B (posB t)]), some (.lst (t.parts.map (sayD c))), some (.lst (t.parts.map trD)), some (.lst (kinds.map fun j => DL.T j.nm)), x, none], ⟨rfl, _, rfl⟩, ?_, ?_⟩
  · rintro i d δ' w' hd ⟨rfl, x, rfl⟩
    obtain ⟨hi, rfl⟩ := ups_at hd
    rw [List.length_map] at hi
    obtain ⟨u, hu⟩ : ∃ u, t.parts[i]? = some u := ⟨_, List.getElem?_eq_getElem hi⟩
    have hmem := List.mem_of_getElem? hu
    have e1 : (t.parts.map (sayD c))[i]? = some (sayD c u) := by
      rw [List.getElem?_map, hu]
      rfl
    have e2 : (t.parts.map trD)[i]? = some (trD u) := by
      rw [List.getElem?_map, hu]
      rfl
    refine pgd_name (i := 6) nd rfl ?_
    refine pssd_cons (psd_if ?_)
    refine ptd_not ?_
    refine ptd_val ?_
    refine pd_has hA (hr.mono (by decide)) (fun _ => pass0At) ?_
    refine pad_cons ?_
    refine pd_ix ix_list ?_
    refine pd_var (i := 3) rfl rfl ?_
    refine pd_var (i := 6) rfl rfl ?_
    refine vr_ixL e1 ?_
    refine pad_cons ?_
    refine pd_ix ix_list ?_
    refine pd_var (i := 4) rfl rfl ?_
    refine pd_var (i := 6) rfl rfl ?_
    refine vr_ixL e2 ?_
    refine pad_nil ⟨u, rfl, Nat.le_trans (size_parts hmem) hz, _, rfl, ?_⟩
    refine iteF ?_
    refine pssd_nil ?_
    refine pssd_one (psd_if ?_)
    refine ptd_not ?_
    refine ptd_val ?_
    refine pd_has (hS 1) (hr.mono (by decide)) (fun _ => pass0At) ?_
    refine pad_cons ?_
    refine pd_has hK (hr.mono (by decide)) (fun _ => pass0At) ?_
    refine pad_cons ?_
    refine pd_ix ix_list ?_
    refine pd_var (i := 3) rfl rfl ?_
    refine pd_var (i := 6) rfl rfl ?_
    refine vr_ixL e1 ?_
    refine pad_nil ⟨u, rfl, ?_⟩
    refine pad_cons ?_
    refine pd_lc (own := [("kind", 7)]) (is := [7]) rfl nd (blkOk_by rfl) (by decide) ?_
    refine it_list ?_
    refine pd_var (i := 5) rfl rfl ?_
    refine ⟨_, rfl, ?_⟩
    refine lcd_map (fun j => B (decide (u.kd = j))) (by show 8 < sizeLine; decide) (fun j hj s2 H0 C1 cl1 fp1 => ?_) ?_
    · refine pgl_name (i := 7) nd rfl ?_
      intro s3 H0 C1 cl1 fp1
      refine ptsd_nil ?_
      intro s3 H0 C1 cl1 fp1
      refine pd_cmp op_eq ?_
      refine pd_var (i := 7) rfl rfl ?_
      refine pd_ix ix_tup ?_
      refine pd_ix ix_list ?_
      refine pd_var (i := 4) rfl rfl ?_
      refine pd_var (i := 6) rfl rfl ?_
      refine vr_ixL e2 ?_
      refine pd_int ?_
      obtain ⟨dsn, en⟩ := trD_nm u
      rw [en]
      refine vr_ixT (i := 0) rfl ?_
      refine vr_eqT (decide (u.kd = j)) (by rw [kd_nm, kd_eq]) ?_
      exact ⟨rfl, rfl, rfl⟩
    refine pad_nil ⟨_, _, rfl, .inl (.inl (Sm.map (by show 8 ≤ sizeLine; decide) fun j _ => .bl _)), _, rfl, ?_⟩
    refine iteF ?_
    exact pssd_nil ⟨rfl, _, rfl⟩
  · rintro δ' w' ⟨rfl, x, rfl⟩
    refine pssd_one (psd_ret ?_)
    refine pd_bl ?_
    exact k
theorem scSpoil : FnScope ["saying", "row"] ["saying"] (defScope sSpoil) := ⟨rfl, rfl, rfl, by decide +kernel, rfl, by decide +kernel, by decide +kernel⟩
theorem ok_spoil {f : Addr} {fd : FuncData} (G : Fun K "_law_spoil" "_law_spoil" sSpoil f fd) (A : SayAll K fS c) (Z : ShowK P w K mg base T c) : FnOk P w K mg base CX0 3 f fd ["saying"] (spOf K T (spSpoil c)) := by
  refine fnD G scSpoil (fun ds w κ χ h => ?_) (fun cdv A' outer s H E ds w0 κ χ hr h => ?_)
  · obtain ⟨t, rfl, _⟩ := h
    rfl
  obtain ⟨t, rfl, hz, k⟩ := h
  have nd := scSpoil.nd
  have h500 : (500 : Nat) ≤ sizeLine := by decide
  have pl := parts_len t
  refine pssd_cons (psd_set (i := 1) nd rfl ?_)
  refine pd_hasm0 (A t).cl (Z.parts t) (hr.mono (by decide)) (fun _ => pass0At) ?_
  refine pd_var (i := 0) rfl rfl ?_
  refine ⟨say_ins (K := K) t _ (by decide +kernel), t, rfl, by omega, fun a na => ?_⟩
  refine pssd_cons (psd_expr ?_)
  refine pd_bm PySem.F.plainAttrs_list PySem.F.slot_list_append PySem.F.type_list_append mt_append ?_
  refine pd_var (i := 1) rfl rfl ?_
  refine ⟨⟨rfl, _, wu_same⟩, ?_⟩
  (refine pad_cons ?_; refine pd_var (i := 0) rfl rfl ?_)
  refine pad_nil (vm_append wu_same (by rw [List.length_map]; omega) ?_)
  rw [wu_wu]
  refine pssd_cons (psd_expr ?_)
  refine pd_bm0 PySem.F.plainAttrs_list PySem.F.slot_list_reverse PySem.F.type_list_reverse mt_reverse ?_
  refine pd_var (i := 1) rfl rfl ?_
  refine ⟨⟨rfl, _, wu_same⟩, vm_reverse wu_same ?_⟩
  rw [wu_wu]
  refine pssd_drop a ?_
  rw [wd_wu na]
  refine pssd_cons (psd_set (i := 1) nd rfl ?_)
  refine pd_hasm0 (A t).cl (Z.facts t) (hr.mono (by decide)) (fun _ => pass0At) ?_
  refine pd_var (i := 0) rfl rfl ?_
  refine ⟨say_ins (K := K) t _ (by decide +kernel), t, rfl, hz, fun ys hy hs b nb => ?_⟩
  have ul : ys.length ≤ 60 := by
    have h1 := gather_len (factL t) []
    have h2 := filt_len t
    have h3 := hy.length_eq
    simp only [List.length_nil] at h1
    omega
  refine pssd_cons (psd_expr ?_)
  refine pd_bm PySem.F.plainAttrs_list PySem.F.slot_list_append PySem.F.type_list_append mt_append ?_
  refine pd_var (i := 1) rfl rfl ?_
  refine ⟨⟨rfl, _, wu_same⟩, ?_⟩
  refine pad_cons (pd_str ?_)
  refine pad_nil (vm_append wu_same (by rw [List.length_map]; omega) ?_)
  rw [wu_wu]
  refine pssd_cons (psd_expr ?_)
  refine pd_bm0 PySem.F.plainAttrs_list PySem.F.slot_list_reverse PySem.F.type_list_reverse mt_reverse ?_
  refine pd_var (i := 1) rfl rfl ?_
  refine ⟨⟨rfl, _, wu_same⟩, vm_reverse wu_same ?_⟩
  rw [wu_wu]
  refine pssd_drop b ?_
  rw [wd_wu nb]
  exact pssd_nil k
end
end Tw

set_option Elab.async false
set_option linter.all false
set_option maxRecDepth 100000
set_option maxHeartbeats 1000000
/-! {text: e, ..}: a dict that stands from now on. -/
namespace DL
open PySem PySem.Spec PyProof.Rows L2 LamX
/-- the values of a display, in their order -/
def PPD (X : Cx) (T : List (Addr × Str)) (W : WX) (χ : XD) : List (Str × Expr) → Dn → Wp → (List D → Wp → Prop) → Prop
  | [], δ, w, κ => κ [] w
  | (_, e) :: r, δ, w, κ => PD X T W χ e δ w fun d w1 => PPD X T W χ r δ w1 fun ds w2 => κ (d :: ds) w2
abbrev ppT (X : Cx) (l : List (Str × Expr)) : List (TE × TE) := l.map fun p => (tC (.str p.1), wpE X p.2)
theorem merge_new : ∀ {more kvs : List (Key × V)}, (kvs.map (·.1) ++ more.map (·.1)).Nodup → mergeK kvs more = kvs ++ more
  | [], kvs, _ => (List.append_nil kvs).symm
  | (k, v) :: more, kvs, h => by
    have e : valV kvs k = none := by
      cases q : valV kvs k with
      | none => rfl
      | some u =>
        have h1 := valV_in q
        exact absurd rfl ((List.nodup_append.mp h).2.2 k h1 k List.mem_cons_self)
    show mergeK (putK kvs k v) more = _
    rw [putK_new v e, merge_new (by
      rw [List.map_append, List.append_assoc]
      exact h), List.append_assoc]
    rfl
theorem pp_zip : ∀ (l : List (Str × Expr)) (zs : List V), (l.map fun p => V.str p.1).zip zs = ((skeys (l.map (·.1))).zip zs).map fun kv => (kV kv.1, kv.2)
  | [], zs => rfl
  | p :: l, [] => rfl
  | p :: l, z :: zs => congrArg ((V.str p.1, z) :: ·) (pp_zip l zs)
section
variable {X : Cx} {T : List (Addr × Str)} {W : WX} {χ : XD} {δ : Dn} {w : Wp} {pos : Pos}
theorem ppd_wp {F : Hp} {σ : L2.St} : ∀ {l : List (Str × Expr)} {w : Wp} {κ : List D → Wp → Prop} {S H : Hp} {Q : List (V × V) → Hp → Prop}, PPD X T W χ l δ w κ → EnvD X.K S δ σ → World X.K T S w F H → ExD X.K T W χ σ S F →
    (∀ ds w' zs S' H', κ ds w' → Same S S' → World X.K T S' w' F H' → RepL X.K S' ds zs → zs.length = l.length → Q ((l.map fun p => V.str p.1).zip zs) H') → tPairs (ppT X l) σ H Q
  | [], w, κ, S, H, Q, h, hE, hW, hX, hK => hK [] w [] S H h (Same.refl _) hW rfl rfl
  | (k, e) :: r, w, κ, S, H, Q, h, hE, hW, hX, hK => by
    show wpE X e σ H _
    refine h F σ S H _ hE hW hX fun d w1 v S1 H1 k1 s1 W1 r1 => ?_
    refine ppd_wp k1 (hE.mono s1) W1 (hX.mono s1) fun ds w2 zs S2 H2 k2 s2 W2 r2 l2 => ?_
    exact hK (d :: ds) w2 (v :: zs) S2 H2 k2 (s1.trans s2) W2 ⟨v, zs, rfl, r1.mono s2, r2⟩ (congrArg (· + 1) l2)
/-- {} -/
theorem pd_dispE {κ : D → Wp → Prop} (h : κ (.dcv [] []) w) : PD X T W χ (.Dict [] [] pos) δ w κ := fun F σ S H Q hE hW hX hK =>
  wp_pe pe_dnewK fun p hp => by
    have s1 : Same S (upd S p (.dK [])) := same_upd (hW.free hp).1
    exact hK _ w _ _ _ h s1 (hW.laid hp fun _ z => by cases z) ⟨p, [], rfl, upd_same, rfl, rfl⟩
/-- {k: e, ..} -/
theorem pd_dispT {keys : List (Option Expr)} {values : List Expr} {κ : D → Wp → Prop} (l : List (Str × Expr)) (hp : PPs X pos keys values (ppT X l)) (h : PPD X T W χ l δ w fun ds w1 => κ (.dcv (skeys (l.map (·.1))) ds) w1)
    (nd : (l.map (·.1)).Nodup := by decide +kernel) (l15 : l.length ≤ 15 := by decide) (hall : keys.all (·.isSome) = true := by rfl) (hl : keys.length = values.length := by rfl) (h0 : keys ≠ [] := by intro z; cases z) (h15 : keys.length ≤ 15 := by decide) :
    PD X T W χ (.Dict keys values pos) δ w κ := fun F σ S H Q hE hW hX hK =>
  wp_pe (pe_disp hp hall hl h0 h15) (by
    intro p hp
    have fp : F p = none := (hW.free hp).2.2
    refine ppd_wp h hE (hW.takeF hp fun _ z => by cases z) ?_ fun ds w2 zs S2 H2 k2 s2 W2 r2 l2 => ?_
    · intro C ns ds w' d S' H' x s1 W1 xr
      obtain ⟨e1, W3⟩ := W1.freezeF fp fun _ z => by cases z
      have s3 : Same S' (upd S' p (.dK [])) := same_upd e1
      obtain ⟨ys, x1, x2, x3⟩ := xr
      exact hX C ns ds w' d _ H' x (s1.trans s3) W3 ⟨ys, s3 _ _ x1, x2, x3.mono s3⟩
    have lz : zs.length = (skeys (l.map (·.1))).length := by rw [l2, List.length_map, List.length_map]
    refine ⟨(W2.frm p _ upd_same).2, (skeys (l.map (·.1))).zip zs, ?_, ?_, ?_⟩
    · exact pp_zip l zs
    · rw [List.length_zip, List.length_map, List.length_map]
      omega
    have em : mergeK [] ((skeys (l.map (·.1))).zip zs) = (skeys (l.map (·.1))).zip zs := merge_new (by
      show (((skeys (l.map (·.1))).zip zs).map (·.1)).Nodup
      rw [zip_fst lz]
      exact nodup_inr nd)
    rw [em]
    have W3 := W2.putF (o := .dK ((skeys (l.map (·.1))).zip zs)) upd_same (fun _ z => by cases z) (fun _ z => by cases z) (fun _ z => by cases z)
    rw [upd_upd] at W3
    obtain ⟨e1, W4⟩ := W3.freezeF fp fun _ z => by cases z
    have s3 : Same S2 (upd S2 p (.dK ((skeys (l.map (·.1))).zip zs))) := same_upd e1
    refine hK _ _ _ _ _ k2 (s2.trans s3) W4 ⟨p, _, rfl, upd_same, zip_fst lz, ?_⟩
    rw [zip_snd lz]
    exact r2.mono s3)
end
end DL

set_option Elab.async false
set_option linter.all false
set_option maxRecDepth 100000
set_option maxHeartbeats 2000000
/-! The law's _law_fill, _law_table, _law_filled, _law_nested. -/
namespace Tw
open PySem PySem.Spec PyProof.Rows L2 LamX DL
abbrev sFill : Stmt := top 44
abbrev sTable : Stmt := top 45
abbrev sFld : Stmt := top 46
abbrev sNst : Stmt := top 47
abbrev Tbl := List (Str × Tr)
def tblOf (way : Nat) (a b : Tr) : Tbl :=
  match way with
  | 0 => []
  | 1 => [("p", a)]
  | 2 => [("q", a), ("p", b)]
  | 3 => [("abcdefgh", a), ("zz", b), ("truep", a)]
  | 4 => [("inner", a), ("name", b), ("pp", b)]
  | _ => [("q", b)]
/-- the fifth way of filling names things that are no names -/
def tbl5 (a b : Tr) : Tbl := [("P", a), ("true", b), ("abcdefghi", a), ("p1", b), ("q", b)]
theorem lookup_mem {n : Str} {v : Tr} : ∀ {tbl : Tbl}, tbl.lookup n = some v → ∃ k, (k, v) ∈ tbl
  | [], h => by cases h
  | (k, t) :: tbl, h => by
    rw [List.lookup_cons] at h
    cases q : (n == k) with
    | true =>
      rw [q] at h
      cases h
      exact ⟨k, List.mem_cons_self⟩
    | false =>
      rw [q] at h
      obtain ⟨j, hj⟩ := lookup_mem h
      exact ⟨j, List.mem_cons_of_mem _ hj⟩
theorem fill_ok {tbl : Tbl} (h : ∀ p ∈ tbl, TrOk p.2) : ∀ {t : Tr}, TrOk t → TrOk (fillT tbl t)
  | .tru _, _ => trivial
  | .fact n, hn => by
    show TrOk ((tbl.lookup n).getD (.fact n))
    cases q : tbl.lookup n with
    | none => exact hn
    | some v =>
      obtain ⟨k, hk⟩ := lookup_mem q
      exact h _ hk
  | .neg t, ht => fill_ok h (t := t) ht
  | .bin a l r, ht => ⟨fill_ok h ht.1, fill_ok h ht.2⟩
  | .md k g t, ht => ⟨ht.1, fill_ok h ht.2⟩
theorem fill_size {tbl : Tbl} (h : ∀ p ∈ tbl, p.2.size ≤ 3) : ∀ t : Tr, (fillT tbl t).size ≤ 3 * t.size
  | .tru _ => by show 1 ≤ 3 * 1; omega
  | .fact n => by
    show ((tbl.lookup n).getD (.fact n)).size ≤ 3 * 1
    cases q : tbl.lookup n with
    | none => show 1 ≤ 3; omega
    | some v =>
      obtain ⟨k, hk⟩ := lookup_mem q
      exact h _ hk
  | .neg t => by
    have := fill_size h t
    show (fillT tbl t).size + 1 ≤ 3 * (t.size + 1)
    omega
  | .bin a l r => by
    have := fill_size h l
    have := fill_size h r
    show (fillT tbl l).size + (fillT tbl r).size + 1 ≤ 3 * (l.size + r.size + 1)
    omega
  | .md k g t => by
    have := fill_size h t
    show (fillT tbl t).size + 1 ≤ 3 * (t.size + 1)
    omega
theorem fill_five {a b : Tr} : ∀ {t : Tr}, TrOk t → fillT (tbl5 a b) t = fillT (tblOf 5 a b) t
  | .tru _, _ => rfl
  | .fact n, h => by
    have hn : NameOk n := h
    have n1 : (n == ("P" : Str)) = false := beq_eq_false_iff_ne.mpr fun z => by
      rw [z] at hn
      exact absurd (hn.low 80 (by decide +kernel)).1 (by decide)
    have n2 : (n == ("true" : Str)) = false := beq_eq_false_iff_ne.mpr hn.nt
    have n3 : (n == ("abcdefghi" : Str)) = false := beq_eq_false_iff_ne.mpr fun z => by
      rw [z] at hn
      exact absurd hn.l8 (by decide +kernel)
    have n4 : (n == ("p1" : Str)) = false := beq_eq_false_iff_ne.mpr fun z => by
      rw [z] at hn
      exact absurd (hn.low 49 (by decide +kernel)).1 (by decide)
    show ((tbl5 a b).lookup n).getD (.fact n) = ((tblOf 5 a b).lookup n).getD (.fact n)
    unfold tbl5 tblOf
    simp only [List.lookup_cons, n1, n2, n3, n4]
  | .neg t, h => congrArg Tr.neg (fill_five (t := t) h)
  | .bin q l r, h => by
    show Tr.bin q (fillT _ l) (fillT _ r) = Tr.bin q (fillT _ l) (fillT _ r)
    rw [fill_five h.1, fill_five h.2]
  | .md k g t, h => congrArg (Tr.md k g) (fill_five h.2)
theorem tbl_all {p : Tr → Prop} {a b : Tr} (ha : p a) (hb : p b) (way : Nat) : ∀ q ∈ tblOf way a b, p q.2 := by
  unfold tblOf
  split <;> simp [ha, hb]
theorem tbl5_all {p : Tr → Prop} {a b : Tr} (ha : p a) (hb : p b) : ∀ q ∈ tbl5 a b, p q.2 := by
  unfold tbl5
  simp [ha, hb]
theorem lk_map (f : Tr → D) (n : Str) : ∀ tbl : Tbl, lkD (tblK tbl) (tbl.map fun p => f p.2) (Sum.inr n) = (tbl.lookup n).map f
  | [] => rfl
  | (k, t) :: tbl => by
    show (if (Sum.inr k : Key) = Sum.inr n then some (f t) else lkD (tblK tbl) (tbl.map fun p => f p.2) (Sum.inr n)) = (List.lookup n ((k, t) :: tbl)).map f
    by_cases h : k = n
    · subst h
      rw [if_pos rfl]
      simp [List.lookup]
    · rw [if_neg (fun z => h (Sum.inr.inj z)), lk_map f n tbl]
      have hb : (n == k) = false := beq_eq_false_iff_ne.mpr fun z => h z.symm
      simp only [List.lookup, hb]
theorem vr_eqI {K : PySem.W.Frag} {T : List (Addr × Str)} {w : Wp} {κ : D → Wp → Prop} {a b : Int} (v : Bool) (e : decide (a = b) = v) (k : κ (B v) w) : VR2 K T rEq (I a) (I b) w κ := by
  refine vr_eq rfl ?_
  have e2 : decide (V.int a = V.int b) = v := by
    rw [← e]
    exact decide_eq_decide.mpr ⟨fun z => V.int.inj z, fun z => by rw [z]⟩
  rw [e2]
  exact k
/-- all classes of sayings have filled -/
def SayFil (P : Program) (w : PySem.World) (K : PySem.W.Frag) (mg : Str → Option Value) (base : Heap) (T : List (Addr × Str)) (c : SC) : Prop := ∀ t : Tr, ∃ f, Meth K (c.of t) "filled" f ∧ FnKw P w K mg base (L2.CX P w) 10 f ["self"] (spKw K T (spFil c))
def spFill (c : SC) : SpD := fun ds w κ χ => ∃ (t : Tr) (way : Nat) (a b : Tr), ds = [sayD c t, I (way : Int), sayD c a, sayD c b] ∧ way < 6 ∧ TrOk t ∧ t.size ≤ 12 ∧ TrOk a ∧ TrOk b ∧ a.size ≤ 3 ∧ b.size ≤ 3 ∧ κ (sayD c (fillT (tblOf way a b) t)) w
def spTbl : SpD := fun ds w κ χ => ∃ (way : Nat) (a b : Tr), ds = [I (way : Int), trD a, trD b] ∧ way < 6 ∧ κ (.dcv (tblK (tblOf way a b)) ((tblOf way a b).map fun p => trD p.2)) w
def spFld (m : Nat) : SpD := fun ds w κ χ => ∃ (t : Tr) (tbl : Tbl), ds = [trD t, .dcv (tblK tbl) (tbl.map fun p => trD p.2)] ∧ t.size ≤ m ∧ κ (trD (fillT tbl t)) w
section
variable {P : Program} {w : PySem.World} {K : PySem.W.Frag} {mg : Str → Option Value} {base : Heap} {T : List (Addr × Str)} {c : SC} {cS fS CG CC CN : Addr}
theorem fil_prem {tbl : Tbl} {t : Tr} (ht : TrOk t) (hz : t.size ≤ 12) (h1 : ∀ p ∈ tbl, TrOk p.2) (h2 : ∀ p ∈ tbl, p.2.size ≤ 3) : ∀ u ∈ t.parts, Sh (fillT tbl u) ∧ (fillT tbl u).size ≤ 400 := fun u hu => by
  have z1 := size_parts hu
  have z2 := fill_size h2 u
  exact ⟨sh_of (fill_ok h1 (ok_parts_tr t ht u hu)), by omega⟩
theorem scFill : FnScope ["saying", "way", "one", "two"] ["saying", "way", "one", "two"] (defScope sFill) := ⟨rfl, rfl, rfl, by decide +kernel, rfl, by decide +kernel, by decide +kernel⟩
theorem ok_fill {f : Addr} {fd : FuncData} (G : Fun K "_law_fill" "_law_fill" sFill f fd) (A : SayAll K fS c) (Z : SayFil P w K mg base T c) : FnOk P w K mg base CX0 11 f fd ["saying", "way", "one", "two"] (spOf K T (spFill c)) := by
  refine fnD G scFill (fun ds w κ χ h => ?_) (fun cdv A' outer s H E ds w0 κ χ hr h => ?_)
  · obtain ⟨t, way, a, b, rfl, _⟩ := h
    rfl
  obtain ⟨t, way, a, b, rfl, hw, ht, hz, oa, ob, za, zb, k⟩ := h
  obtain ⟨g, m1, m2⟩ := Z t
  have nd := scFill.nd
  have fin : ∀ {tbl : Tbl} (h1 : ∀ p ∈ tbl, TrOk p.2) (h2 : ∀ p ∈ tbl, p.2.size ≤ 3), κ (sayD c (fillT tbl t)) w0 → spFil c [sayD c t, .dcv (tblK tbl) (tblD c tbl)] w0 κ χ := fun h1 h2 k => ⟨t, _, rfl, ht, by omega, fil_prem ht hz h1 h2, k⟩
  have t1 := tbl_all (p := TrOk) oa ob way
  have t2 := tbl_all (p := fun u => u.size ≤ 3) za zb way
  match way, hw with
  | 0, _ =>
    (refine pssd_cons (psd_if ?_); (refine ptd_cmp op_eq ?_; refine pd_var (i := 1) rfl rfl ?_; refine pd_int ?_; refine vr_eqI true (by decide) ⟨_, rfl, ?_⟩); refine iteT ?_; refine pssd_one (psd_ret ?_))
    refine pd_methKw (ks := []) (A t).cl m1 m2 (hr.mono (by decide)) (fun _ => passLf) ?_
    refine pd_var (i := 0) rfl rfl ?_
    exact ⟨say_ins (K := K) t _ (by decide +kernel), rfl, fin (tbl := []) t1 t2 k⟩
  | 1, _ =>
    (refine pssd_cons (psd_if ?_); (refine ptd_cmp op_eq ?_; refine pd_var (i := 1) rfl rfl ?_; refine pd_int ?_; refine vr_eqI false (by decide) ⟨_, rfl, ?_⟩); refine iteF ?_; refine pssd_nil ?_)
    (refine pssd_cons (psd_if ?_); (refine ptd_cmp op_eq ?_; refine pd_var (i := 1) rfl rfl ?_; refine pd_int ?_; refine vr_eqI true (by decide) ⟨_, rfl, ?_⟩); refine iteT ?_; refine pssd_one (psd_ret ?_))
    refine pd_methKw (ks := ["p"]) (A t).cl m1 m2 (hr.mono (by decide)) (fun _ => passLf) ?_
    refine pd_var (i := 0) rfl rfl ?_
    refine ⟨say_ins (K := K) t _ (by decide +kernel), ?_⟩
    refine pd_var (i := 2) rfl rfl ?_
    exact ⟨rfl, fin (tbl := tblOf 1 a b) t1 t2 k⟩
  | 2, _ =>
    (refine pssd_cons (psd_if ?_); (refine ptd_cmp op_eq ?_; refine pd_var (i := 1) rfl rfl ?_; refine pd_int ?_; refine vr_eqI false (by decide) ⟨_, rfl, ?_⟩); refine iteF ?_; refine pssd_nil ?_)
    (refine pssd_cons (psd_if ?_); (refine ptd_cmp op_eq ?_; refine pd_var (i := 1) rfl rfl ?_; refine pd_int ?_; refine vr_eqI false (by decide) ⟨_, rfl, ?_⟩); refine iteF ?_; refine pssd_nil ?_)
    (refine pssd_cons (psd_if ?_); (refine ptd_cmp op_eq ?_; refine pd_var (i := 1) rfl rfl ?_; refine pd_int ?_; refine vr_eqI true (by decide) ⟨_, rfl, ?_⟩); refine iteT ?_; refine pssd_one (psd_ret ?_))
    refine pd_methKw (ks := ["q", "p"]) (A t).cl m1 m2 (hr.mono (by decide)) (fun _ => passLf) ?_
    refine pd_var (i := 0) rfl rfl ?_
    refine ⟨say_ins (K := K) t _ (by decide +kernel), ?_⟩
    refine pd_var (i := 2) rfl rfl ?_
    refine pd_var (i := 3) rfl rfl ?_
    exact ⟨rfl, fin (tbl := tblOf 2 a b) t1 t2 k⟩
  | 3, _ =>
    (refine pssd_cons (psd_if ?_); (refine ptd_cmp op_eq ?_; refine pd_var (i := 1) rfl rfl ?_; refine pd_int ?_; refine vr_eqI false (by decide) ⟨_, rfl, ?_⟩); refine iteF ?_; refine pssd_nil ?_)
    (refine pssd_cons (psd_if ?_); (refine ptd_cmp op_eq ?_; refine pd_var (i := 1) rfl rfl ?_; refine pd_int ?_; refine vr_eqI false (by decide) ⟨_, rfl, ?_⟩); refine iteF ?_; refine pssd_nil ?_)
    (refine pssd_cons (psd_if ?_); (refine ptd_cmp op_eq ?_; refine pd_var (i := 1) rfl rfl ?_; refine pd_int ?_; refine vr_eqI false (by decide) ⟨_, rfl, ?_⟩); refine iteF ?_; refine pssd_nil ?_)
    (refine pssd_cons (psd_if ?_); (refine ptd_cmp op_eq ?_; refine pd_var (i := 1) rfl rfl ?_; refine pd_int ?_; refine vr_eqI true (by decide) ⟨_, rfl, ?_⟩); refine iteT ?_; refine pssd_one (psd_ret ?_))
    refine pd_methKw (ks := ["abcdefgh", "zz", "truep"]) (A t).cl m1 m2 (hr.mono (by decide)) (fun _ => passLf) ?_
    refine pd_var (i := 0) rfl rfl ?_
    refine ⟨say_ins (K := K) t _ (by decide +kernel), ?_⟩
    refine pd_var (i := 2) rfl rfl ?_
    refine pd_var (i := 3) rfl rfl ?_
    refine pd_var (i := 2) rfl rfl ?_
    exact ⟨rfl, fin (tbl := tblOf 3 a b) t1 t2 k⟩
  | 4, _ =>
    (refine pssd_cons (psd_if ?_); (refine ptd_cmp op_eq ?_; refine pd_var (i := 1) rfl rfl ?_; refine pd_int ?_; refine vr_eqI false (by decide) ⟨_, rfl, ?_⟩); refine iteF ?_; refine pssd_nil ?_)
    (refine pssd_cons (psd_if ?_); (refine ptd_cmp op_eq ?_; refine pd_var (i := 1) rfl rfl ?_; refine pd_int ?_; refine vr_eqI false (by decide) ⟨_, rfl, ?_⟩); refine iteF ?_; refine pssd_nil ?_)
    (refine pssd_cons (psd_if ?_); (refine ptd_cmp op_eq ?_; refine pd_var (i := 1) rfl rfl ?_; refine pd_int ?_; refine vr_eqI false (by decide) ⟨_, rfl, ?_⟩); refine iteF ?_; refine pssd_nil ?_)
    (refine pssd_cons (psd_if ?_); (refine ptd_cmp op_eq ?_; refine pd_var (i := 1) rfl rfl ?_; refine pd_int ?_; refine vr_eqI false (by decide) ⟨_, rfl, ?_⟩); refine iteF ?_; refine pssd_nil ?_)
    (refine pssd_cons (psd_if ?_); (refine ptd_cmp op_eq ?_; refine pd_var (i := 1) rfl rfl ?_; refine pd_int ?_; refine vr_eqI true (by decide) ⟨_, rfl, ?_⟩); refine iteT ?_; refine pssd_one (psd_ret ?_))
    refine pd_methKw (ks := ["inner", "name", "pp"]) (A t).cl m1 m2 (hr.mono (by decide)) (fun _ => passLf) ?_
    refine pd_var (i := 0) rfl rfl ?_
    refine ⟨say_ins (K := K) t _ (by decide +kernel), ?_⟩
    refine pd_var (i := 2) rfl rfl ?_
    refine pd_var (i := 3) rfl rfl ?_
    refine pd_var (i := 3) rfl rfl ?_
    exact ⟨rfl, fin (tbl := tblOf 4 a b) t1 t2 k⟩
  | 5, _ =>
    (refine pssd_cons (psd_if ?_); (refine ptd_cmp op_eq ?_; refine pd_var (i := 1) rfl rfl ?_; refine pd_int ?_; refine vr_eqI false (by decide) ⟨_, rfl, ?_⟩); refine iteF ?_; refine pssd_nil ?_)
    (refine pssd_cons (psd_if ?_); (refine ptd_cmp op_eq ?_; refine pd_var (i := 1) rfl rfl ?_; refine pd_int ?_; refine vr_eqI false (by decide) ⟨_, rfl, ?_⟩); refine iteF ?_; refine pssd_nil ?_)
    (refine pssd_cons (psd_if ?_); (refine ptd_cmp op_eq ?_; refine pd_var (i := 1) rfl rfl ?_; refine pd_int ?_; refine vr_eqI false (by decide) ⟨_, rfl, ?_⟩); refine iteF ?_; refine pssd_nil ?_)
    (refine pssd_cons (psd_if ?_); (refine ptd_cmp op_eq ?_; refine pd_var (i := 1) rfl rfl ?_; refine pd_int ?_; refine vr_eqI false (by decide) ⟨_, rfl, ?_⟩); refine iteF ?_; refine pssd_nil ?_)
    (refine pssd_cons (psd_if ?_); (refine ptd_cmp op_eq ?_; refine pd_var (i := 1) rfl rfl ?_; refine pd_int ?_; refine vr_eqI false (by decide) ⟨_, rfl, ?_⟩); refine iteF ?_; refine pssd_nil ?_)
    refine pssd_one (psd_ret ?_)
    refine pd_methKw (ks := ["P", "true", "abcdefghi", "p1", "q"]) (A t).cl m1 m2 (hr.mono (by decide)) (fun _ => passLf) ?_
    refine pd_var (i := 0) rfl rfl ?_
    refine ⟨say_ins (K := K) t _ (by decide +kernel), ?_⟩
    refine pd_var (i := 2) rfl rfl ?_
    refine pd_var (i := 3) rfl rfl ?_
    refine pd_var (i := 2) rfl rfl ?_
    refine pd_var (i := 3) rfl rfl ?_
    refine pd_var (i := 3) rfl rfl ?_
    have k' := k
    rw [← fill_five ht] at k'
    exact ⟨rfl, fin (tbl := tbl5 a b) (tbl5_all oa ob) (tbl5_all (p := fun u => u.size ≤ 3) za zb) k'⟩
theorem scTable : FnScope ["way", "one", "two"] ["way", "one", "two"] (defScope sTable) := ⟨rfl, rfl, rfl, by decide +kernel, rfl, by decide +kernel, by decide +kernel⟩
theorem ok_table {f : Addr} {fd : FuncData} (G : Fun K "_law_table" "_law_table" sTable f fd) : FnOk P w K mg base CX0 1 f fd ["way", "one", "two"] (spOf K T spTbl) := by
  refine fnD G scTable (fun ds w κ χ h => ?_) (fun cdv A' outer s H E ds w0 κ χ hr h => ?_)
  · obtain ⟨way, a, b, rfl, _⟩ := h
    rfl
  obtain ⟨way, a, b, rfl, hw, k⟩ := h
  have nd := scTable.nd
  match way, hw with
  | 0, _ =>
    (refine pssd_cons (psd_if ?_); (refine ptd_cmp op_eq ?_; refine pd_var (i := 0) rfl rfl ?_; refine pd_int ?_; refine vr_eqI true (by decide) ⟨_, rfl, ?_⟩); refine iteT ?_; refine pssd_one (psd_ret ?_))
    refine pd_dispE ?_
    exact k
  | 1, _ =>
    (refine pssd_cons (psd_if ?_); (refine ptd_cmp op_eq ?_; refine pd_var (i := 0) rfl rfl ?_; refine pd_int ?_; refine vr_eqI false (by decide) ⟨_, rfl, ?_⟩); refine iteF ?_; refine pssd_nil ?_)
    (refine pssd_cons (psd_if ?_); (refine ptd_cmp op_eq ?_; refine pd_var (i := 0) rfl rfl ?_; refine pd_int ?_; refine vr_eqI true (by decide) ⟨_, rfl, ?_⟩); refine iteT ?_; refine pssd_one (psd_ret ?_))
    refine pd_dispT [("p", _)] (pps_cons pe_str (pe_wp _) pps_nil) ?_
    refine pd_var (i := 1) rfl rfl ?_
    exact k
  | 2, _ =>
    (refine pssd_cons (psd_if ?_); (refine ptd_cmp op_eq ?_; refine pd_var (i := 0) rfl rfl ?_; refine pd_int ?_; refine vr_eqI false (by decide) ⟨_, rfl, ?_⟩); refine iteF ?_; refine pssd_nil ?_)
    (refine pssd_cons (psd_if ?_); (refine ptd_cmp op_eq ?_; refine pd_var (i := 0) rfl rfl ?_; refine pd_int ?_; refine vr_eqI false (by decide) ⟨_, rfl, ?_⟩); refine iteF ?_; refine pssd_nil ?_)
    (refine pssd_cons (psd_if ?_); (refine ptd_cmp op_eq ?_; refine pd_var (i := 0) rfl rfl ?_; refine pd_int ?_; refine vr_eqI true (by decide) ⟨_, rfl, ?_⟩); refine iteT ?_; refine pssd_one (psd_ret ?_))
    refine pd_dispT [("q", _), ("p", _)] (pps_cons pe_str (pe_wp _) (pps_cons pe_str (pe_wp _) pps_nil)) ?_
    refine pd_var (i := 1) rfl rfl ?_
    refine pd_var (i := 2) rfl rfl ?_
    exact k
  | 3, _ =>
    (refine pssd_cons (psd_if ?_); (refine ptd_cmp op_eq ?_; refine pd_var (i := 0) rfl rfl ?_; refine pd_int ?_; refine vr_eqI false (by decide) ⟨_, rfl, ?_⟩); refine iteF ?_; refine pssd_nil ?_)
    (refine pssd_cons (psd_if ?_); (refine ptd_cmp op_eq ?_; refine pd_var (i := 0) rfl rfl ?_; refine pd_int ?_; refine vr_eqI false (by decide) ⟨_, rfl, ?_⟩); refine iteF ?_; refine pssd_nil ?_)
    (refine pssd_cons (psd_if ?_); (refine ptd_cmp op_eq ?_; refine pd_var (i := 0) rfl rfl ?_; refine pd_int ?_; refine vr_eqI false (by decide) ⟨_, rfl, ?_⟩); refine iteF ?_; refine pssd_nil ?_)
    (refine pssd_cons (psd_if ?_); (refine ptd_cmp op_eq ?_; refine pd_var (i := 0) rfl rfl ?_; refine pd_int ?_; refine vr_eqI true (by decide) ⟨_, rfl, ?_⟩); refine iteT ?_; refine pssd_one (psd_ret ?_))
    refine pd_dispT [("abcdefgh", _), ("zz", _), ("truep", _)] (pps_cons pe_str (pe_wp _) (pps_cons pe_str (pe_wp _) (pps_cons pe_str (pe_wp _) pps_nil))) ?_
    refine pd_var (i := 1) rfl rfl ?_
    refine pd_var (i := 2) rfl rfl ?_
    refine pd_var (i := 1) rfl rfl ?_
    exact k
  | 4, _ =>
    (refine pssd_cons (psd_if ?_); (refine ptd_cmp op_eq ?_; refine pd_var (i := 0) rfl rfl ?_; refine pd_int ?_; refine vr_eqI false (by decide) ⟨_, rfl, ?_⟩); refine iteF ?_; refine pssd_nil ?_)
    (refine pssd_cons (psd_if ?_); (refine ptd_cmp op_eq ?_; refine pd_var (i := 0) rfl rfl ?_; refine pd_int ?_; refine vr_eqI false (by decide) ⟨_, rfl, ?_⟩); refine iteF ?_; refine pssd_nil ?_)
    (refine pssd_cons (psd_if ?_); (refine ptd_cmp op_eq ?_; refine pd_var (i := 0) rfl rfl ?_; refine pd_int ?_; refine vr_eqI false (by decide) ⟨_, rfl, ?_⟩); refine iteF ?_; refine pssd_nil ?_)
    (refine pssd_cons (psd_if ?_); (refine ptd_cmp op_eq ?_; refine pd_var (i := 0) rfl rfl ?_; refine pd_int ?_; refine vr_eqI false (by decide) ⟨_, rfl, ?_⟩); refine iteF ?_; refine pssd_nil ?_)
    (refine pssd_cons (psd_if ?_); (refine ptd_cmp op_eq ?_; refine pd_var (i := 0) rfl rfl ?_; refine pd_int ?_; refine vr_eqI true (by decide) ⟨_, rfl, ?_⟩); refine iteT ?_; refine pssd_one (psd_ret ?_))
    refine pd_dispT [("inner", _), ("name", _), ("pp", _)] (pps_cons pe_str (pe_wp _) (pps_cons pe_str (pe_wp _) (pps_cons pe_str (pe_wp _) pps_nil))) ?_
    refine pd_var (i := 1) rfl rfl ?_
    refine pd_var (i := 2) rfl rfl ?_
    refine pd_var (i := 2) rfl rfl ?_
    exact k
  | 5, _ =>
    (refine pssd_cons (psd_if ?_); (refine ptd_cmp op_eq ?_; refine pd_var (i := 0) rfl rfl ?_; refine pd_int ?_; refine vr_eqI false (by decide) ⟨_, rfl, ?_⟩); refine iteF ?_; refine pssd_nil ?_)
    (refine pssd_cons (psd_if ?_); (refine ptd_cmp op_eq ?_; refine pd_var (i := 0) rfl rfl ?_; refine pd_int ?_; refine vr_eqI false (by decide) ⟨_, rfl, ?_⟩); refine iteF ?_; refine pssd_nil ?_)
    (refine pssd_cons (psd_if ?_); (refine ptd_cmp op_eq ?_; refine pd_var (i := 0) rfl rfl ?_; refine pd_int ?_; refine vr_eqI false (by decide) ⟨_, rfl, ?_⟩); refine iteF ?_; refine pssd_nil ?_)
    (refine pssd_cons (psd_if ?_); (refine ptd_cmp op_eq ?_; refine pd_var (i := 0) rfl rfl ?_; refine pd_int ?_; refine vr_eqI false (by decide) ⟨_, rfl, ?_⟩); refine iteF ?_; refine pssd_nil ?_)
    (refine pssd_cons (psd_if ?_); (refine ptd_cmp op_eq ?_; refine pd_var (i := 0) rfl rfl ?_; refine pd_int ?_; refine vr_eqI false (by decide) ⟨_, rfl, ?_⟩); refine iteF ?_; refine pssd_nil ?_)
    refine pssd_one (psd_ret ?_)
    refine pd_dispT [("q", _)] (pps_cons pe_str (pe_wp _) pps_nil) ?_
    refine pd_var (i := 2) rfl rfl ?_
    exact k
theorem scFld : FnScope ["tree", "table"] ["tree", "table"] (defScope sFld) := ⟨rfl, rfl, rfl, by decide +kernel, rfl, by decide +kernel, by decide +kernel⟩
theorem fld_step {f : Addr} {fd : FuncData} (G : Fun K "_law_filled" "_law_filled" sFld f fd) (hf : mg "_law_filled" = some (.ref f)) (hb : Binds K fd ["tree", "table"] []) (m : Nat)
    (ih : ∀ j, m = j + 1 → FnOk P w K mg base CX0 m f fd ["tree", "table"] (spOf K T (spFld j))) : FnOk P w K mg base CX0 (m + 1) f fd ["tree", "table"] (spOf K T (spFld m)) := by
  refine fnD G scFld (fun ds w κ χ h => ?_) (fun cdv A outer s H E ds w0 κ χ hr h => ?_)
  · obtain ⟨t, tbl, rfl, _⟩ := h
    rfl
  obtain ⟨t, tbl, rfl, hsz, k⟩ := h
  have nd := scFld.nd
  cases t with
  | tru b =>
    (refine pssd_cons (psd_if ?_); (refine ptd_cmp op_eq ?_; refine pd_ix ix_tup ?_; refine pd_var (i := 0) rfl rfl ?_; refine pd_int ?_; refine vr_ixT (i := 0) rfl ?_; refine pd_str ?_; refine vr_eqT false (by decide +kernel) ⟨_, rfl, ?_⟩); refine iteF ?_; refine pssd_nil ?_)
    refine pssd_cons (psd_if ?_)
    (refine ptd_cmp op_eq ?_; refine pd_ix ix_tup ?_; refine pd_var (i := 0) rfl rfl ?_; refine pd_int ?_; refine vr_ixT (i := 0) rfl ?_; refine pd_str ?_; refine vr_eqT true (by decide +kernel) ⟨_, rfl, ?_⟩)
    refine iteT ?_
    refine pssd_one (psd_ret ?_)
    refine pd_var (i := 0) rfl rfl ?_
    exact k
  | fact n =>
    refine pssd_cons (psd_if ?_)
    (refine ptd_cmp op_eq ?_; refine pd_ix ix_tup ?_; refine pd_var (i := 0) rfl rfl ?_; refine pd_int ?_; refine vr_ixT (i := 0) rfl ?_; refine pd_str ?_; refine vr_eqT true (by decide +kernel) ⟨_, rfl, ?_⟩)
    refine iteT ?_
    refine pssd_one (psd_ret ?_)
    refine pd_getD (hu_of hr) ?_
    refine pd_var (i := 1) rfl rfl ?_
    refine ⟨_, _, rfl, ?_⟩
    refine pd_ix ix_tup ?_
    refine pd_var (i := 0) rfl rfl ?_
    refine pd_int ?_
    refine vr_ixT (i := 1) (d := DL.T n) rfl ?_
    refine pd_var (i := 0) rfl rfl ?_
    refine ⟨Sum.inr n, rfl, ?_⟩
    rw [lk_map]
    have e : ((tbl.lookup n).map trD).getD (trD (.fact n)) = trD (fillT tbl (.fact n)) := by
      show _ = trD ((tbl.lookup n).getD (.fact n))
      cases tbl.lookup n <;> rfl
    rw [e]
    exact k
  | neg t =>
    have hs : t.size + 1 ≤ m := hsz
    obtain ⟨j, rfl⟩ : ∃ j, m = j + 1 := ⟨m - 1, by omega⟩
    (refine pssd_cons (psd_if ?_); (refine ptd_cmp op_eq ?_; refine pd_ix ix_tup ?_; refine pd_var (i := 0) rfl rfl ?_; refine pd_int ?_; refine vr_ixT (i := 0) rfl ?_; refine pd_str ?_; refine vr_eqT false (by decide +kernel) ⟨_, rfl, ?_⟩); refine iteF ?_; refine pssd_nil ?_)
    (refine pssd_cons (psd_if ?_); (refine ptd_cmp op_eq ?_; refine pd_ix ix_tup ?_; refine pd_var (i := 0) rfl rfl ?_; refine pd_int ?_; refine vr_ixT (i := 0) rfl ?_; refine pd_str ?_; refine vr_eqT false (by decide +kernel) ⟨_, rfl, ?_⟩); refine iteF ?_; refine pssd_nil ?_)
    refine pssd_cons (psd_if ?_)
    (refine ptd_cmp op_eq ?_; refine pd_ix ix_tup ?_; refine pd_var (i := 0) rfl rfl ?_; refine pd_int ?_; refine vr_ixT (i := 0) rfl ?_; refine pd_str ?_; refine vr_eqT true (by decide +kernel) ⟨_, rfl, ?_⟩)
    refine iteT ?_
    refine pssd_one (psd_ret ?_)
    refine pd_tup ?_
    refine pad_cons (pd_str ?_)
    refine pad_cons ?_
    refine pd_call (ih j rfl) hr hf G.kp hb (fun _ => pass0At) ?_
    (refine pad_cons ?_; refine pd_ix ix_tup ?_; refine pd_var (i := 0) rfl rfl ?_; refine pd_int ?_; refine vr_ixT (i := 1) rfl ?_)
    (refine pad_cons ?_; refine pd_var (i := 1) rfl rfl ?_)
    refine pad_nil ⟨t, tbl, rfl, by omega, ?_⟩
    exact pad_nil ⟨by show 2 ≤ sizeLine; decide, k⟩
  | bin a l r =>
    have hs : l.size + r.size + 1 ≤ m := hsz
    obtain ⟨j, rfl⟩ : ∃ j, m = j + 1 := ⟨m - 1, by omega⟩
    have fin : ∀ (F : DL.Fin), F.rt = κ → PSsD (cxOf CX0 P w K mg base ["tree", "table"] "_law_filled" (defScope sFld) f cdv A outer s H E).nox T Wf noX (match (defBody sFld).getD 3 (.Pass ⟨0, 0, 0, 0⟩) with | .If _ b _ _ => b | _ => []) [some (trD (.bin a l r)), some (.dcv (tblK tbl) (tbl.map fun p => trD p.2))] w0 F := by
      intro F hF
      refine pssd_one (psd_ret ?_)
      rw [hF]
      refine pd_tup ?_
      refine pad_cons ?_
      refine pd_ix ix_tup ?_
      refine pd_var (i := 0) rfl rfl ?_
      refine pd_int ?_
      refine vr_ixT (i := 0) (d := DL.T (binN a)) rfl ?_
      refine pad_cons ?_
      refine pd_call (ih j rfl) hr hf G.kp hb (fun _ => pass0At) ?_
      (refine pad_cons ?_; refine pd_ix ix_tup ?_; refine pd_var (i := 0) rfl rfl ?_; refine pd_int ?_; refine vr_ixT (i := 1) rfl ?_)
      (refine pad_cons ?_; refine pd_var (i := 1) rfl rfl ?_)
      refine pad_nil ⟨l, tbl, rfl, by omega, ?_⟩
      refine pad_cons ?_
      refine pd_call (ih j rfl) hr hf G.kp hb (fun _ => pass0At) ?_
      (refine pad_cons ?_; refine pd_ix ix_tup ?_; refine pd_var (i := 0) rfl rfl ?_; refine pd_int ?_; refine vr_ixT (i := 2) rfl ?_)
      (refine pad_cons ?_; refine pd_var (i := 1) rfl rfl ?_)
      refine pad_nil ⟨r, tbl, rfl, by omega, ?_⟩
      exact pad_nil ⟨by show 3 ≤ sizeLine; decide, k⟩
    cases a with
    | true =>
      (refine pssd_cons (psd_if ?_); (refine ptd_cmp op_eq ?_; refine pd_ix ix_tup ?_; refine pd_var (i := 0) rfl rfl ?_; refine pd_int ?_; refine vr_ixT (i := 0) rfl ?_; refine pd_str ?_; refine vr_eqT false (by decide +kernel) ⟨_, rfl, ?_⟩); refine iteF ?_; refine pssd_nil ?_)
      (refine pssd_cons (psd_if ?_); (refine ptd_cmp op_eq ?_; refine pd_ix ix_tup ?_; refine pd_var (i := 0) rfl rfl ?_; refine pd_int ?_; refine vr_ixT (i := 0) rfl ?_; refine pd_str ?_; refine vr_eqT false (by decide +kernel) ⟨_, rfl, ?_⟩); refine iteF ?_; refine pssd_nil ?_)
      (refine pssd_cons (psd_if ?_); (refine ptd_cmp op_eq ?_; refine pd_ix ix_tup ?_; refine pd_var (i := 0) rfl rfl ?_; refine pd_int ?_; refine vr_ixT (i := 0) rfl ?_; refine pd_str ?_; refine vr_eqT false (by decide +kernel) ⟨_, rfl, ?_⟩); refine iteF ?_; refine pssd_nil ?_)
      refine pssd_cons (psd_if ?_)
      refine pwd_pt ?_
      refine pwd_or ?_
      (refine ptd_cmp op_eq ?_; refine pd_ix ix_tup ?_; refine pd_var (i := 0) rfl rfl ?_; refine pd_int ?_; refine vr_ixT (i := 0) rfl ?_; refine pd_str ?_; refine vr_eqT true (by decide +kernel) ⟨_, rfl, ?_⟩)
      refine iteT ?_
      refine iteT ?_
      exact fin _ rfl
    | false =>
      (refine pssd_cons (psd_if ?_); (refine ptd_cmp op_eq ?_; refine pd_ix ix_tup ?_; refine pd_var (i := 0) rfl rfl ?_; refine pd_int ?_; refine vr_ixT (i := 0) rfl ?_; refine pd_str ?_; refine vr_eqT false (by decide +kernel) ⟨_, rfl, ?_⟩); refine iteF ?_; refine pssd_nil ?_)
      (refine pssd_cons (psd_if ?_); (refine ptd_cmp op_eq ?_; refine pd_ix ix_tup ?_; refine pd_var (i := 0) rfl rfl ?_; refine pd_int ?_; refine vr_ixT (i := 0) rfl ?_; refine pd_str ?_; refine vr_eqT false (by decide +kernel) ⟨_, rfl, ?_⟩); refine iteF ?_; refine pssd_nil ?_)
      (refine pssd_cons (psd_if ?_); (refine ptd_cmp op_eq ?_; refine pd_ix ix_tup ?_; refine pd_var (i := 0) rfl rfl ?_; refine pd_int ?_; refine vr_ixT (i := 0) rfl ?_; refine pd_str ?_; refine vr_eqT false (by decide +kernel) ⟨_, rfl, ?_⟩); refine iteF ?_; refine pssd_nil ?_)
      refine pssd_cons (psd_if ?_)
      refine pwd_pt ?_
      refine pwd_or ?_
      (refine ptd_cmp op_eq ?_; refine pd_ix ix_tup ?_; refine pd_var (i := 0) rfl rfl ?_; refine pd_int ?_; refine vr_ixT (i := 0) rfl ?_; refine pd_str ?_; refine vr_eqT false (by decide +kernel) ⟨_, rfl, ?_⟩)
      refine iteF ?_
      refine pwd_or1 ?_
      (refine ptd_cmp op_eq ?_; refine pd_ix ix_tup ?_; refine pd_var (i := 0) rfl rfl ?_; refine pd_int ?_; refine vr_ixT (i := 0) rfl ?_; refine pd_str ?_; refine vr_eqT true (by decide +kernel) ⟨_, rfl, ?_⟩)
      refine iteT ?_
      exact fin _ rfl
  | md q g t =>
    have hs : t.size + 1 ≤ m := hsz
    obtain ⟨j, rfl⟩ : ∃ j, m = j + 1 := ⟨m - 1, by omega⟩
    have fin : PSsD (cxOf CX0 P w K mg base ["tree", "table"] "_law_filled" (defScope sFld) f cdv A outer s H E).nox T Wf noX ((defBody sFld).drop 4) [some (trD (.md q g t)), some (.dcv (tblK tbl) (tbl.map fun p => trD p.2))] w0 { nx := fun _ w' => κ DL.N w', rt := κ } := by
      refine pssd_one (psd_ret ?_)
      refine pd_tup ?_
      refine pad_cons ?_
      refine pd_ix ix_tup ?_
      refine pd_var (i := 0) rfl rfl ?_
      refine pd_int ?_
      refine vr_ixT (i := 0) (d := DL.T q.nm) rfl ?_
      (refine pad_cons ?_; refine pd_ix ix_tup ?_; refine pd_var (i := 0) rfl rfl ?_; refine pd_int ?_; refine vr_ixT (i := 1) rfl ?_)
      refine pad_cons ?_
      refine pd_call (ih j rfl) hr hf G.kp hb (fun _ => pass0At) ?_
      (refine pad_cons ?_; refine pd_ix ix_tup ?_; refine pd_var (i := 0) rfl rfl ?_; refine pd_int ?_; refine vr_ixT (i := 2) rfl ?_)
      (refine pad_cons ?_; refine pd_var (i := 1) rfl rfl ?_)
      refine pad_nil ⟨t, tbl, rfl, by omega, ?_⟩
      exact pad_nil ⟨by show 3 ≤ sizeLine; decide, k⟩
    cases q with
    | kn =>
      (refine pssd_cons (psd_if ?_); (refine ptd_cmp op_eq ?_; refine pd_ix ix_tup ?_; refine pd_var (i := 0) rfl rfl ?_; refine pd_int ?_; refine vr_ixT (i := 0) rfl ?_; refine pd_str ?_; refine vr_eqT false (by decide +kernel) ⟨_, rfl, ?_⟩); refine iteF ?_; refine pssd_nil ?_)
      (refine pssd_cons (psd_if ?_); (refine ptd_cmp op_eq ?_; refine pd_ix ix_tup ?_; refine pd_var (i := 0) rfl rfl ?_; refine pd_int ?_; refine vr_ixT (i := 0) rfl ?_; refine pd_str ?_; refine vr_eqT false (by decide +kernel) ⟨_, rfl, ?_⟩); refine iteF ?_; refine pssd_nil ?_)
      (refine pssd_cons (psd_if ?_); (refine ptd_cmp op_eq ?_; refine pd_ix ix_tup ?_; refine pd_var (i := 0) rfl rfl ?_; refine pd_int ?_; refine vr_ixT (i := 0) rfl ?_; refine pd_str ?_; refine vr_eqT false (by decide +kernel) ⟨_, rfl, ?_⟩); refine iteF ?_; refine pssd_nil ?_)
      (refine pssd_cons (psd_if ?_); refine pwd_pt ?_; refine pwd_or ?_; (refine ptd_cmp op_eq ?_; refine pd_ix ix_tup ?_; refine pd_var (i := 0) rfl rfl ?_; refine pd_int ?_; refine vr_ixT (i := 0) rfl ?_; refine pd_str ?_; refine vr_eqT false (by decide +kernel) ⟨_, rfl, ?_⟩); refine iteF ?_; refine pwd_or1 ?_; (refine ptd_cmp op_eq ?_; refine pd_ix ix_tup ?_; refine pd_var (i := 0) rfl rfl ?_; refine pd_int ?_; refine vr_ixT (i := 0) rfl ?_; refine pd_str ?_; refine vr_eqT false (by decide +kernel) ⟨_, rfl, ?_⟩); refine iteF ?_; refine pssd_nil ?_)
      exact fin
    | wh =>
      (refine pssd_cons (psd_if ?_); (refine ptd_cmp op_eq ?_; refine pd_ix ix_tup ?_; refine pd_var (i := 0) rfl rfl ?_; refine pd_int ?_; refine vr_ixT (i := 0) rfl ?_; refine pd_str ?_; refine vr_eqT false (by decide +kernel) ⟨_, rfl, ?_⟩); refine iteF ?_; refine pssd_nil ?_)
      (refine pssd_cons (psd_if ?_); (refine ptd_cmp op_eq ?_; refine pd_ix ix_tup ?_; refine pd_var (i := 0) rfl rfl ?_; refine pd_int ?_; refine vr_ixT (i := 0) rfl ?_; refine pd_str ?_; refine vr_eqT false (by decide +kernel) ⟨_, rfl, ?_⟩); refine iteF ?_; refine pssd_nil ?_)
      (refine pssd_cons (psd_if ?_); (refine ptd_cmp op_eq ?_; refine pd_ix ix_tup ?_; refine pd_var (i := 0) rfl rfl ?_; refine pd_int ?_; refine vr_ixT (i := 0) rfl ?_; refine pd_str ?_; refine vr_eqT false (by decide +kernel) ⟨_, rfl, ?_⟩); refine iteF ?_; refine pssd_nil ?_)
      (refine pssd_cons (psd_if ?_); refine pwd_pt ?_; refine pwd_or ?_; (refine ptd_cmp op_eq ?_; refine pd_ix ix_tup ?_; refine pd_var (i := 0) rfl rfl ?_; refine pd_int ?_; refine vr_ixT (i := 0) rfl ?_; refine pd_str ?_; refine vr_eqT false (by decide +kernel) ⟨_, rfl, ?_⟩); refine iteF ?_; refine pwd_or1 ?_; (refine ptd_cmp op_eq ?_; refine pd_ix ix_tup ?_; refine pd_var (i := 0) rfl rfl ?_; refine pd_int ?_; refine vr_ixT (i := 0) rfl ?_; refine pd_str ?_; refine vr_eqT false (by decide +kernel) ⟨_, rfl, ?_⟩); refine iteF ?_; refine pssd_nil ?_)
      exact fin
    | co =>
      (refine pssd_cons (psd_if ?_); (refine ptd_cmp op_eq ?_; refine pd_ix ix_tup ?_; refine pd_var (i := 0) rfl rfl ?_; refine pd_int ?_; refine vr_ixT (i := 0) rfl ?_; refine pd_str ?_; refine vr_eqT false (by decide +kernel) ⟨_, rfl, ?_⟩); refine iteF ?_; refine pssd_nil ?_)
      (refine pssd_cons (psd_if ?_); (refine ptd_cmp op_eq ?_; refine pd_ix ix_tup ?_; refine pd_var (i := 0) rfl rfl ?_; refine pd_int ?_; refine vr_ixT (i := 0) rfl ?_; refine pd_str ?_; refine vr_eqT false (by decide +kernel) ⟨_, rfl, ?_⟩); refine iteF ?_; refine pssd_nil ?_)
      (refine pssd_cons (psd_if ?_); (refine ptd_cmp op_eq ?_; refine pd_ix ix_tup ?_; refine pd_var (i := 0) rfl rfl ?_; refine pd_int ?_; refine vr_ixT (i := 0) rfl ?_; refine pd_str ?_; refine vr_eqT false (by decide +kernel) ⟨_, rfl, ?_⟩); refine iteF ?_; refine pssd_nil ?_)
      (refine pssd_cons (psd_if ?_); refine pwd_pt ?_; refine pwd_or ?_; (refine ptd_cmp op_eq ?_; refine pd_ix ix_tup ?_; refine pd_var (i := 0) rfl rfl ?_; refine pd_int ?_; refine vr_ixT (i := 0) rfl ?_; refine pd_str ?_; refine vr_eqT false (by decide +kernel) ⟨_, rfl, ?_⟩); refine iteF ?_; refine pwd_or1 ?_; (refine ptd_cmp op_eq ?_; refine pd_ix ix_tup ?_; refine pd_var (i := 0) rfl rfl ?_; refine pd_int ?_; refine vr_ixT (i := 0) rfl ?_; refine pd_str ?_; refine vr_eqT false (by decide +kernel) ⟨_, rfl, ?_⟩); refine iteF ?_; refine pssd_nil ?_)
      exact fin
theorem ok_fld {f : Addr} {fd : FuncData} (G : Fun K "_law_filled" "_law_filled" sFld f fd) (hf : mg "_law_filled" = some (.ref f)) (hb : Binds K fd ["tree", "table"] []) : ∀ m : Nat, FnOk P w K mg base CX0 (m + 1) f fd ["tree", "table"] (spOf K T (spFld m))
  | 0 => fld_step G hf hb 0 fun j h => by cases h
  | m + 1 => fld_step G hf hb (m + 1) fun j h => by
    cases h
    exact ok_fld G hf hb m
end
end Tw

set_option Elab.async false
set_option linter.all false
set_option maxRecDepth 100000
set_option maxHeartbeats 1000000
/-! range(a, b); a sign of a text at its place; texts compared by ≥; signs not in a text. -/
namespace DL
open PySem PySem.Spec PyProof.Rows L2 LamX
def rgs (a : Int) (n : Nat) : List D := (List.range n).map fun (k : Nat) => I (a + (k : Int))
theorem rgs_len (a : Int) (n : Nat) : (rgs a n).length = n := by unfold rgs; rw [List.length_map, List.length_range]
theorem rgs_at {a : Int} {n i : Nat} {d : D} (h : (rgs a n)[i]? = some d) : i < n ∧ d = I (a + (i : Int)) := by
  unfold rgs at h
  rw [List.getElem?_map] at h
  by_cases hi : i < n
  · rw [List.getElem?_range hi] at h
    exact ⟨hi, (Option.some.inj h).symm⟩
  · rw [List.getElem?_eq_none (by simpa using hi)] at h
    cases h
section
variable {X : Cx} {T : List (Addr × Str)} {W : WX} {χ : XD} {δ : Dn} {w : Wp} {pos : Pos}
theorem it_range2 {tg a b : Expr} {p : Pos} {κ : List D → Wp → Prop} (hm : X.mg "range" = none) (h : PD X T W χ a δ w fun d w1 => PD X T W χ b δ w1 fun e w2 => ∃ i j : Int, d = I i ∧ e = I j ∧ (-(2 ^ 62) ≤ i ∧ i < 2 ^ 62 ∧ -(2 ^ 62) ≤ j ∧ j < 2 ^ 62) ∧ κ (rgs i (j - i).toNat) w2)
    (hg : Gl X "range" := by rfl) (he : starEach [a, b] X.env = [(false, eval a X.env), (false, eval b X.env)] := by rfl) (he2 : starEach [b] X.env = [(false, eval b X.env)] := by rfl) : IterD X T W χ tg (.Call (.Name "range" p) [a, b] [] pos) δ w κ :=
  ⟨_, pi_range2 hg hm (pa_wp [a, b]) he he2, fun F σ S H R hE hW hX hK => by
    have ha : PAD X T W χ [a, b] δ w fun ds w1 => ∃ i j : Int, ds = [I i, I j] ∧ (-(2 ^ 62) ≤ i ∧ i < 2 ^ 62 ∧ -(2 ^ 62) ≤ j ∧ j < 2 ^ 62) ∧ κ (rgs i (j - i).toNat) w1 := pad_cons (h.imp fun d w1 k1 => pad_cons (k1.imp fun e w2 ⟨i, j, e1, e2, h1, k⟩ => pad_nil ⟨i, j, by rw [e1, e2], h1, k⟩) he2) (by rw [he, he2])
    refine ha F σ S H _ hE hW hX fun ds w1 vs S1 H1 k s1 W1 r => ?_
    obtain ⟨i, j, rfl, hn, k⟩ := k
    obtain ⟨y, ys, rfl, h1, z, zs, rfl, h2, h3⟩ := r
    have h1' : y = .int i := h1
    have h2' : z = .int j := h2
    have h3' : zs = [] := h3
    subst h1' h2' h3'
    refine ⟨i, j, rfl, hn, ?_⟩
    have ww := walk_range (lo := i) (n := (j - i).toNat)
    refine hK (rgs i (j - i).toNat) w1 S1 H1 _ (fun _ => True) (YFn fun k => .int (i + k)) k s1 W1 (by rw [rgs_len]; exact ww) (fun S2 w2 F2 H2 s2 W2 => True.intro) fun k d S2 w2 F2 H2 x H3 hd s2 W2 y => ?_
    obtain ⟨rfl, hx⟩ := y
    obtain ⟨_, rfl⟩ := rgs_at hd
    refine ⟨S2, Same.refl _, W2, ?_⟩
    exact hx⟩
theorem ptd_chain {a b c : Expr} {op op' : CmpOp} {r r' : R2} {κ : Bool → Wp → Prop} (ho : OpR X (compareOp op) r) (ho' : OpR X (compareOp op') r')
    (h : PD X T W χ a δ w fun d w1 => PD X T W χ b δ w1 fun e w2 => VR2 X.K T r d e w2 fun z w3 => ∃ k : Bool, z = B k ∧ if k = true then PD X T W χ c δ w3 fun f w4 => VR2 X.K T r' e f w4 fun z' w5 => ∃ k' : Bool, z' = B k' ∧ κ k' w5 else κ false w3)
    (hm : lastMarks [op, op'] [b, c] = false := by with_unfolding_all rfl) : PTD X T W χ (.Compare a [op, op'] [b, c] pos) δ w κ := fun F σ S H Q hE hW hX hK =>
  wp_pt (pt_chain ho ho' (pe_wp a) (pe_wp b) (pe_wp c) hm) (by
    refine h F σ S H _ hE hW hX fun d w1 v S1 H1 k1 s1 W1 r1 => ?_
    refine k1 F σ S1 H1 _ (hE.mono s1) W1 (hX.mono s1) fun e w2 u S2 H2 k2 s2 W2 r2 => ?_
    refine k2 F S2 H2 v u _ W2 (r1.mono s2) r2 fun z w3 x S3 H3 k3 s3 W3 r3 => ?_
    obtain ⟨k, rfl, k3⟩ := k3
    have r3' : x = .bl k := r3
    refine ⟨k, r3', ?_⟩
    have ss := s1.trans (s2.trans s3)
    cases k with
    | true =>
      rw [if_pos rfl] at k3 ⊢
      refine k3 F σ S3 H3 _ (hE.mono ss) W3 (hX.mono ss) fun f w4 y S4 H4 k4 s4 W4 r4 => ?_
      refine k4 F S4 H4 u y _ W4 (r2.mono (s3.trans s4)) r4 fun z' w5 x5 S5 H5 k5 s5 W5 r5 => ?_
      obtain ⟨k', rfl, k5⟩ := k5
      have r5' : x5 = .bl k' := r5
      exact ⟨k', r5', hK k' w5 S5 H5 k5 (ss.trans (s4.trans s5)) W5⟩
    | false =>
      rw [if_neg Bool.false_ne_true] at k3 ⊢
      exact ⟨false, rfl, hK false w3 S3 H3 k3 ss W3⟩)
end
section
variable {K : PySem.W.Frag} {T : List (Addr × Str)} {w : Wp} {κ : D → Wp → Prop}
theorem vr_geS {a b : Str} (k : κ (B (!decide (a.cps.toList < b.cps.toList))) w) : VR2 K T (fun x y H Q => ∃ i j, x = .str i ∧ y = .str j ∧ Q (.bl (!decide (i.cps.toList < j.cps.toList))) H) (DL.T a) (DL.T b) w κ := fun F S H x y Q hW r1 r2 hK =>
  ⟨a, b, r1, r2, hK _ w _ S H k (Same.refl _) hW rfl⟩
theorem vr_ninSg {c : Nat} {z : Str} (k : κ (B (!decide (c ∈ z.cps.toList))) w) : VR2 K T (fun x y H Q => ∃ (c : Nat) (z : Str), x = .str ⟨#[c]⟩ ∧ y = .str z ∧ Q (.bl (!decide (c ∈ z.cps.toList))) H) (DL.T ⟨#[c]⟩) (DL.T z) w κ := fun F S H x y Q hW r1 r2 hK =>
  ⟨c, z, r1, r2, hK _ w _ S H k (Same.refl _) hW rfl⟩
end
end DL

set_option Elab.async false
set_option linter.all false
set_option maxRecDepth 100000
set_option maxHeartbeats 2000000
/-! The law's _law_nested, _law_is_name, _law_is_group, _law_count. -/
namespace Tw
open PySem PySem.Spec PyProof.Rows L2 LamX DL
abbrev sBentN : Stmt := top 48
abbrev sLisN : Stmt := top 49
abbrev sBentG : Stmt := top 50
abbrev sLisG : Stmt := top 51
abbrev sCnt : Stmt := top 52
def spNst : SpD := fun ds w κ χ => ∃ (t : Tr) (g : Str) (n : Nat), ds = [trD t, DL.T g, I (n : Int)] ∧ n ≤ 12 ∧ κ (trD (nestT g t n)) w
def spLisN : SpD := fun ds w κ χ => ∃ s : Str, ds = [DL.T s] ∧ Okc s ∧ κ (B (nameB s)) w
def spLisG : SpD := fun ds w κ χ => ∃ s : Str, ds = [DL.T s] ∧ Okc s ∧ κ (B (groupB s)) w
def spCnt : SpD := fun ds w κ χ => ∃ (a r : Addr) (b : Bag), ds = [R a] ∧ BagAt w a r b ∧ ∀ (n : Int) (b' : Bag), n.natAbs.log2 < 1920 → κ (I n) (bagPut w a r b')
/-! lists that are compared with [] -/
theorem pyDs_txts : ∀ l : List Str, pyDs (l.map DL.T) = some (l.map PyData.str)
  | [] => rfl
  | s :: l => by
    show ((some (PyData.str s)).bind fun x => (pyDs (l.map DL.T)).map fun xs => x :: xs) = _
    rw [pyDs_txts l]
    rfl
theorem pyDs_ints : ∀ l : List Int, pyDs (l.map I) = some (l.map PyData.int)
  | [] => rfl
  | s :: l => by
    show ((some (PyData.int s)).bind fun x => (pyDs (l.map I)).map fun xs => x :: xs) = _
    rw [pyDs_ints l]
    rfl
theorem dep_txts : ∀ l : List Str, PyData.depthAll (l.map PyData.str) = 0
  | [] => rfl
  | s :: l => by
    show max 0 (PyData.depthAll (l.map PyData.str)) = 0
    rw [dep_txts l]
    rfl
theorem dep_intsG : ∀ l : List Int, PyData.depthAll (l.map PyData.int) = 0
  | [] => rfl
  | s :: l => by
    show max 0 (PyData.depthAll (l.map PyData.int)) = 0
    rw [dep_intsG l]
    rfl
theorem lay_txts : ∀ l : List Str, (∀ s ∈ l, ∀ c ∈ cl s, c < 200) → PyData.canLayAll0 (l.map PyData.str) = true
  | [], _ => by simp only [List.map_nil, PyData.canLayAll0]
  | s :: l, h => by
    have h1 : PyData.strOk s = true := by
      show s.cps.all (fun c => decide (c < 0x110000)) = true
      rw [← Array.all_toList]
      refine List.all_eq_true.mpr fun c hc => decide_eq_true ?_
      exact Nat.lt_trans (h s List.mem_cons_self c hc) (by decide)
    simp only [List.map_cons, PyData.canLayAll0, PyData.canLay0, h1, lay_txts l fun u hu => h u (List.mem_cons_of_mem _ hu), Bool.and_self]
theorem lay_intsG : ∀ l : List Int, PyData.canLayAll0 (l.map PyData.int) = true
  | [] => by simp only [List.map_nil, PyData.canLayAll0]
  | s :: l => by simp only [List.map_cons, PyData.canLayAll0, PyData.canLay0, lay_intsG l, Bool.and_self]
theorem eqv_emp (l : List PyData) : PyData.eqv (.list l) (.list []) = l.isEmpty := by
  cases l <;> simp [PyData.eqv, PyData.eqvAll]
theorem shape_list {l : List PyData} (h1 : PyData.canLayAll0 l = true) (h2 : PyData.depthAll l = 0) : SeqAt.shaped (.list l) = true := by
  show (PyData.canLayAll0 _ && decide (PyData.depthAll _ + 1 ≤ 64)) = true
  rw [h1, h2]
  rfl
/-- [x for ..] == [] of texts -/
theorem vr_empT {K : PySem.W.Frag} {T : List (Addr × Str)} {w : Wp} {κ : D → Wp → Prop} {l : List Str} (h : ∀ s ∈ l, ∀ c ∈ cl s, c < 200) (k : κ (B l.isEmpty) w) : VR2 K T (rEqD K) (.lst (l.map DL.T)) (.lst []) w κ := by
  refine vr_eqD (p := .list (l.map PyData.str)) (q := .list []) ?_ rfl (shape_list (lay_txts l h) (dep_txts l)) rfl ?_
  · show (pyDs _).map PyData.list = _
    rw [pyDs_txts]
    rfl
  · rw [eqv_emp, List.isEmpty_map]
    exact k
theorem vr_nempT {K : PySem.W.Frag} {T : List (Addr × Str)} {w : Wp} {κ : D → Wp → Prop} {l : List Str} (h : ∀ s ∈ l, ∀ c ∈ cl s, c < 200) (k : κ (B (!l.isEmpty)) w) : VR2 K T (rNeD K) (.lst (l.map DL.T)) (.lst []) w κ := by
  refine vr_neD (p := .list (l.map PyData.str)) (q := .list []) ?_ rfl (shape_list (lay_txts l h) (dep_txts l)) rfl ?_
  · show (pyDs _).map PyData.list = _
    rw [pyDs_txts]
    rfl
  · rw [eqv_emp, List.isEmpty_map]
    exact k
theorem vr_empI {K : PySem.W.Frag} {T : List (Addr × Str)} {w : Wp} {κ : D → Wp → Prop} {l : List Int} (k : κ (B l.isEmpty) w) : VR2 K T (rEqD K) (.lst (l.map I)) (.lst []) w κ := by
  refine vr_eqD (p := .list (l.map PyData.int)) (q := .list []) ?_ rfl (shape_list (lay_intsG l) (dep_intsG l)) rfl ?_
  · show (pyDs _).map PyData.list = _
    rw [pyDs_ints]
    rfl
  · rw [eqv_emp, List.isEmpty_map]
    exact k
abbrev azT : Str := "abcdefghijklmnopqrstuvwxyz"
theorem az_cl : cl azT = [97, 98, 99, 100, 101, 102, 103, 104, 105, 106, 107, 108, 109, 110, 111, 112, 113, 114, 115, 116, 117, 118, 119, 120, 121, 122] := by decide +kernel
theorem az_mem (c : Nat) : decide (c ∈ cl azT) = (decide (97 ≤ c) && decide (c ≤ 122)) := by
  rw [az_cl, ← Bool.decide_and]
  refine decide_eq_decide.mpr ?_
  simp only [List.mem_cons, List.not_mem_nil, or_false]
  omega
theorem ah_mem (c : Nat) : decide (c ∈ cl ahT) = (decide (97 ≤ c) && decide (c ≤ 104)) := by
  rw [ah_cl, ← Bool.decide_and]
  refine decide_eq_decide.mpr ?_
  simp only [List.mem_cons, List.not_mem_nil, or_false]
  omega
theorem filt_not {α : Type} (p : α → Bool) (l : List α) : (l.filter fun x => !p x).isEmpty = l.all p := by
  rw [filt_empty]
  induction l with
  | nil => rfl
  | cons x l ih =>
    rw [List.any_cons, List.all_cons, Bool.not_or, ih, Bool.not_not]
/-! a group is a rising text of letters -/
def risB (l : List Nat) : Bool := (List.range (l.length - 1)).all fun i => decide (l.getD i 0 < l.getD (i + 1) 0)
theorem ris_pair : ∀ {l : List Nat}, risB l = true → l.Pairwise (· < ·)
  | [], _ => List.Pairwise.nil
  | [a], _ => List.pairwise_singleton _ _
  | a :: b :: l, h => by
    have hh : ∀ i, i < l.length + 1 → (a :: b :: l).getD i 0 < (a :: b :: l).getD (i + 1) 0 := fun i hi => of_decide_eq_true (List.all_eq_true.mp h i (List.mem_range.mpr hi))
    have ab : a < b := hh 0 (Nat.succ_pos _)
    have ih : (b :: l).Pairwise (· < ·) := ris_pair (List.all_eq_true.mpr fun i hi => decide_eq_true (hh (i + 1) (Nat.succ_lt_succ (List.mem_range.mp hi))))
    refine List.pairwise_cons.mpr ⟨fun x hx => ?_, ih⟩
    rcases List.mem_cons.mp hx with rfl | hx
    · exact ab
    · exact Nat.lt_trans ab ((List.pairwise_cons.mp ih).1 x hx)
theorem pair_ris {l : List Nat} (h : l.Pairwise (· < ·)) : risB l = true := List.all_eq_true.mpr fun i hi => decide_eq_true (by
  have hi' := List.mem_range.mp hi
  have h2 := List.pairwise_iff_getElem.mp h i (i + 1) (by omega) (by omega) (Nat.lt_succ_self i)
  rw [List.getD_eq_getElem?_getD, List.getD_eq_getElem?_getD, List.getElem?_eq_getElem (by omega), List.getElem?_eq_getElem (by omega)]
  exact h2)
theorem rising_one : ∀ {xs ys : List Nat}, xs.Pairwise (· < ·) → ys.Pairwise (· < ·) → (∀ z, z ∈ xs ↔ z ∈ ys) → xs = ys
  | [], [], _, _, _ => rfl
  | [], y :: ys, _, _, h => by cases (h y).mpr List.mem_cons_self
  | x :: xs, [], _, _, h => by cases (h x).mp List.mem_cons_self
  | x :: xs, y :: ys, h1, h2, h => by
    obtain ⟨a1, a2⟩ := List.pairwise_cons.mp h1
    obtain ⟨b1, b2⟩ := List.pairwise_cons.mp h2
    have e : x = y := by
      rcases List.mem_cons.mp ((h x).mp List.mem_cons_self) with q | q
      · exact q
      · rcases List.mem_cons.mp ((h y).mpr List.mem_cons_self) with p | p
        · exact p.symm
        · exact absurd (Nat.lt_trans (b1 x q) (a1 y p)) (Nat.lt_irrefl _)
    subst e
    rw [rising_one a2 b2 fun z => ?_]
    constructor
    · intro hz
      rcases List.mem_cons.mp ((h z).mp (List.mem_cons_of_mem _ hz)) with rfl | q
      · exact absurd (a1 z hz) (Nat.lt_irrefl _)
      · exact q
    · intro hz
      rcases List.mem_cons.mp ((h z).mpr (List.mem_cons_of_mem _ hz)) with rfl | q
      · exact absurd (b1 z hz) (Nat.lt_irrefl _)
      · exact q
theorem groupB_ris (s : Str) : groupB s = (!decide (s = ("" : Str)) && ((cl s).all (fun c => decide (c ∈ cl ahT)) && risB (cl s))) := by
  unfold groupB
  congr 1
  cases q : (cl s).all (fun c => decide (c ∈ cl ahT)) && risB (cl s) with
  | true =>
    obtain ⟨h1, h2⟩ := (Bool.and_eq_true _ _).mp q
    refine decide_eq_true (cl_ext ?_)
    show cl s = pick s
    refine rising_one (ris_pair h2) (pick_up s) fun z => ⟨fun hz => ?_, fun hz => (pick_mem.mp hz).2⟩
    have hz1 : decide (z ∈ cl ahT) = true := List.all_eq_true.mp h1 z hz
    rw [ah_mem, Bool.and_eq_true, decide_eq_true_iff, decide_eq_true_iff] at hz1
    exact pick_mem.mpr ⟨hz1, hz⟩
  | false =>
    refine decide_eq_false fun e => ?_
    have e2 : cl s = pick s := congrArg cl e
    have h1 : (cl s).all (fun c => decide (c ∈ cl ahT)) = true := List.all_eq_true.mpr fun z hz => by
      rw [e2] at hz
      rw [ah_mem, Bool.and_eq_true, decide_eq_true_iff, decide_eq_true_iff]
      exact (pick_mem.mp hz).1
    have h2 : risB (cl s) = true := pair_ris (by rw [e2]; exact pick_up s)
    rw [h1, h2] at q
    cases q
section
variable {P : Program} {w : PySem.World} {K : PySem.W.Frag} {mg : Str → Option Value} {base : Heap} {T : List (Addr × Str)} {c : SC} {cS fS CG CC CN : Addr}
theorem scNst : FnScope ["tree", "group", "count", "turn"] ["tree", "group", "count"] (defScope sNst) := ⟨rfl, rfl, rfl, by decide +kernel, rfl, by decide +kernel, by decide +kernel⟩
theorem ok_nst {f : Addr} {fd : FuncData} (G : Fun K "_law_nested" "_law_nested" sNst f fd) (hm : Nm2 mg) : FnOk P w K mg base CX0 1 f fd ["tree", "group", "count"] (spOf K T spNst) := by
  refine fnD G scNst (fun ds w κ χ h => ?_) (fun cdv A' outer s H E ds w0 κ χ hr h => ?_)
  · obtain ⟨t, g, n, rfl, _⟩ := h
    rfl
  obtain ⟨t, g, n, rfl, hn, k⟩ := h
  have nd := scNst.nd
  refine pssd_cons (psd_for PassesOwn.never rfl ?_)
  refine it_range hm.range ?_
  refine pd_var (i := 2) rfl rfl ?_
  refine ⟨n, rfl, by omega, ?_⟩
  refine ⟨fun i δ' w' => w' = w0 ∧ ∃ x, δ' = [some (trD (nestT g t i)), some (DL.T g), some (I (n : Int)), x], ⟨rfl, _, rfl⟩, ?_, ?_⟩
  · rintro i d δ' w' hd ⟨rfl, x, rfl⟩
    obtain ⟨hi, rfl⟩ := ups_at hd
    refine pgd_name (i := 3) nd rfl ?_
    refine pssd_one (psd_set (i := 0) nd rfl ?_)
    refine pd_tup ?_
    refine pad_cons (pd_str ?_)
    (refine pad_cons ?_; refine pd_var (i := 1) rfl rfl ?_)
    (refine pad_cons ?_; refine pd_var (i := 0) rfl rfl ?_)
    exact pad_nil ⟨by show 3 ≤ sizeLine; decide, rfl, _, rfl⟩
  · rintro δ' w' ⟨rfl, x, rfl⟩
    rw [ups_len]
    refine pssd_one (psd_ret ?_)
    refine pd_var (i := 0) rfl rfl ?_
    exact k
theorem scLisN : FnScope ["text", "sign"] ["text"] (defScope sLisN) := ⟨rfl, rfl, rfl, by decide +kernel, rfl, by decide +kernel, by decide +kernel⟩
theorem ok_lisn {f : Addr} {fd : FuncData} (G : Fun K "_law_is_name" "_law_is_name" sLisN f fd) (hm : Nm2 mg) : FnOk P w K mg base CX0 1 f fd ["text"] (spOf K T spLisN) := by
  refine fnD G scLisN (fun ds w κ χ h => ?_) (fun cdv A' outer s H E ds w0 κ χ hr h => ?_)
  · obtain ⟨t, rfl, _⟩ := h
    rfl
  obtain ⟨t, rfl, hok, k⟩ := h
  have nd := scLisN.nd
  have zl : t.length ≤ sizeLine := le_line hok.1
  unfold nameB at k
  have notin : decide (t ∈ ([("true" : Str), ("false" : Str)] : List Str)) = (decide (t = ("true" : Str)) || decide (t = ("false" : Str))) := by
    rw [← Bool.decide_or]
    exact decide_eq_decide.mpr (by simp)
  rw [notin] at k
  have no : ∀ (F : DL.Fin), F.rt = κ → κ (B false) w0 → PSsD (cxOf CX0 P w K mg base ["text", "sign"] "_law_is_name" (defScope sLisN) f cdv A' outer s H E).nox T Wf noX (match (defBody sLisN).getD 0 (.Pass ⟨0, 0, 0, 0⟩) with | .If _ b _ _ => b | _ => []) [some (DL.T t), none] w0 F := fun F hF k => by
    refine pssd_one (psd_ret (pd_bl ?_))
    rw [hF]
    exact k
  refine pssd_cons (psd_if ?_)
  refine pwd_pt ?_
  refine pwd_or ?_
  refine ptd_cmp op_eq ?_
  refine pd_var (i := 0) rfl rfl ?_
  refine pd_str ?_
  refine vr_eqT _ rfl ⟨_, rfl, ?_⟩
  cases q1 : decide (t = ("true" : Str)) with
  | true =>
    rw [q1] at k
    simp only [Bool.true_or, Bool.not_true, Bool.and_false] at k
    refine iteT ?_
    refine iteT ?_
    exact no _ rfl k
  | false =>
  refine iteF ?_
  refine pwd_or ?_
  refine ptd_cmp op_eq ?_
  refine pd_var (i := 0) rfl rfl ?_
  refine pd_str ?_
  refine vr_eqT _ rfl ⟨_, rfl, ?_⟩
  cases q2 : decide (t = ("false" : Str)) with
  | true =>
    rw [q2] at k
    simp only [Bool.or_true, Bool.not_true, Bool.and_false] at k
    refine iteT ?_
    refine iteT ?_
    exact no _ rfl k
  | false =>
  rw [q1, q2] at k
  simp only [Bool.or_false, Bool.not_false, Bool.and_true] at k
  refine iteF ?_
  refine pwd_or1 ?_
  refine ptd_not ?_
  refine ptd_chain op_le op_le ?_
  refine pd_int ?_
  refine pd_callB call_len rfl hm.len PySem.boot_len ?_
  (refine pad_cons ?_; refine pd_var (i := 0) rfl rfl ?_)
  refine pad_nil ?_
  refine va_lenS zl ?_
  refine vr_I ⟨_, rfl, ?_⟩
  have c1 : decide ((1 : Int) ≤ (t.length : Int)) = decide (1 ≤ t.length) := decide_eq_decide.mpr (by omega)
  have c2 : decide ((t.length : Int) ≤ 8) = decide (t.length ≤ 8) := decide_eq_decide.mpr (by omega)
  rw [c1]
  cases q3 : decide (1 ≤ t.length) with
  | false =>
    rw [q3] at k
    simp only [Bool.false_and, Bool.and_false] at k
    refine iteF ?_
    refine iteT ?_
    exact no _ rfl k
  | true =>
  refine iteT ?_
  refine pd_int ?_
  refine vr_I ⟨_, rfl, ?_⟩
  rw [c2]
  cases q4 : decide (t.length ≤ 8) with
  | false =>
    rw [q4] at k
    simp only [Bool.and_false] at k
    refine iteT ?_
    exact no _ rfl k
  | true =>
  rw [q3, q4] at k
  simp only [Bool.and_true] at k
  refine iteF ?_
  refine pssd_nil ?_
  refine pssd_one (psd_ret ?_)
  refine pd_cmp (op_eqD hr.units) ?_
  refine pd_lc (own := [("sign", 1)]) (is := [1]) rfl nd (blkOk_by rfl) (by decide) ?_
  refine it_str ?_
  refine pd_var (i := 0) rfl rfl ?_
  refine ⟨t, rfl, ?_⟩
  refine lcd_filter (xs := cl t) (g := fun c => DL.T (letS c)) (fun c => !(decide (97 ≤ c) && decide (c ≤ 122))) (fun c => DL.T (letS c)) (small1000 (by rw [cl_len]; exact hok.1)) (fun ch hc s2 H0 C1 cl1 fp1 => ?_) ?_
  · refine pgl_name (i := 1) nd rfl ?_
    intro s3 H0 C1 cl1 fp1
    refine ptsd_one ?_
    refine ptd_cmp op_notIn_sign ?_
    refine pd_var (i := 1) rfl rfl ?_
    refine pd_str ?_
    refine vr_ninSg ⟨_, rfl, ?_⟩
    have ea : (!decide (ch ∈ azT.cps.toList)) = (!(decide (97 ≤ ch) && decide (ch ≤ 122))) := congrArg Bool.not (az_mem ch)
    rw [ea]
    cases q : (!(decide (97 ≤ ch) && decide (ch ≤ 122))) with
    | false => exact iteF ⟨rfl, rfl⟩
    | true =>
      refine iteT ?_
      intro s3 H0 C1 cl1 fp1
      refine pd_var (i := 1) rfl rfl ?_
      exact ⟨rfl, rfl, rfl⟩
  have ep : ((cl t).filter fun c => !(decide (97 ≤ c) && decide (c ≤ 122))).map (fun c => DL.T (letS c)) = (((cl t).filter fun c => !(decide (97 ≤ c) && decide (c ≤ 122))).map letS).map DL.T := by
    rw [List.map_map]
    rfl
  rw [ep]
  refine pd_lst ?_
  refine pad_nil ⟨by show 0 ≤ sizeLine; decide, ?_⟩
  refine vr_empT (fun x hx y hy => ?_) ?_
  · obtain ⟨ch, hc, rfl⟩ := List.mem_map.mp hx
    rw [List.mem_singleton.mp hy]
    exact hok.2 ch (List.mem_filter.mp hc).1
  · rw [List.isEmpty_map, filt_not]
    exact k
theorem scLisG : FnScope ["text", "sign", "k"] ["text"] (defScope sLisG) := ⟨rfl, rfl, rfl, by decide +kernel, rfl, by decide +kernel, by decide +kernel⟩
theorem ok_lisg {f : Addr} {fd : FuncData} (G : Fun K "_law_is_group" "_law_is_group" sLisG f fd) (hm : Nm2 mg) : FnOk P w K mg base CX0 1 f fd ["text"] (spOf K T spLisG) := by
  refine fnD G scLisG (fun ds w κ χ h => ?_) (fun cdv A' outer s H E ds w0 κ χ hr h => ?_)
  · obtain ⟨t, rfl, _⟩ := h
    rfl
  obtain ⟨t, rfl, hok, k⟩ := h
  have nd := scLisG.nd
  have zl : t.length ≤ sizeLine := le_line hok.1
  have lc := cl_len t
  rw [groupB_ris] at k
  have no : ∀ (F : DL.Fin), F.rt = κ → κ (B false) w0 → PSsD (cxOf CX0 P w K mg base ["text", "sign", "k"] "_law_is_group" (defScope sLisG) f cdv A' outer s H E).nox T Wf noX (match (defBody sLisG).getD 0 (.Pass ⟨0, 0, 0, 0⟩) with | .If _ b _ _ => b | _ => []) [some (DL.T t), none, none] w0 F := fun F hF k => by
    refine pssd_one (psd_ret (pd_bl ?_))
    rw [hF]
    exact k
  refine pssd_cons (psd_if ?_)
  refine pwd_pt ?_
  refine pwd_or ?_
  refine ptd_cmp op_eq ?_
  refine pd_var (i := 0) rfl rfl ?_
  refine pd_str ?_
  refine vr_eqT _ rfl ⟨_, rfl, ?_⟩
  cases q1 : decide (t = ("" : Str)) with
  | true =>
    rw [q1] at k
    simp only [Bool.not_true, Bool.false_and] at k
    refine iteT ?_
    refine iteT ?_
    exact no _ rfl k
  | false =>
  rw [q1] at k
  simp only [Bool.not_false, Bool.true_and] at k
  refine iteF ?_
  refine pwd_or1 ?_
  refine ptd_cmp (op_neD hr.units) ?_
  refine pd_lc (own := [("sign", 1)]) (is := [1]) rfl nd (blkOk_by rfl) (by decide) ?_
  refine it_str ?_
  refine pd_var (i := 0) rfl rfl ?_
  refine ⟨t, rfl, ?_⟩
  refine lcd_filter (xs := cl t) (g := fun c => DL.T (letS c)) (fun c => !decide (c ∈ cl ahT)) (fun c => DL.T (letS c)) (small1000 (by rw [lc]; exact hok.1)) (fun ch hc s2 H0 C1 cl1 fp1 => ?_) ?_
  · refine pgl_name (i := 1) nd rfl ?_
    intro s3 H0 C1 cl1 fp1
    refine ptsd_one ?_
    refine ptd_cmp op_notIn_sign ?_
    refine pd_var (i := 1) rfl rfl ?_
    refine pd_str ?_
    refine vr_ninSg ⟨_, rfl, ?_⟩
    cases q : (!decide (ch ∈ ("abcdefgh" : Str).cps.toList)) with
    | false => exact iteF ⟨q, rfl⟩
    | true =>
      refine iteT ?_
      intro s3 H0 C1 cl1 fp1
      refine pd_var (i := 1) rfl rfl ?_
      exact ⟨q, rfl, rfl⟩
  have ep : ((cl t).filter fun c => !decide (c ∈ cl ahT)).map (fun c => DL.T (letS c)) = (((cl t).filter fun c => !decide (c ∈ cl ahT)).map letS).map DL.T := by
    rw [List.map_map]
    rfl
  rw [ep]
  refine pd_lst ?_
  refine pad_nil ⟨by show 0 ≤ sizeLine; decide, ?_⟩
  refine vr_nempT (fun x hx y hy => ?_) ?_
  · obtain ⟨ch, hc, rfl⟩ := List.mem_map.mp hx
    rw [List.mem_singleton.mp hy]
    exact hok.2 ch (List.mem_filter.mp hc).1
  rw [List.isEmpty_map, filt_not]
  refine ⟨_, rfl, ?_⟩
  cases q2 : (cl t).all (fun c => decide (c ∈ cl ahT)) with
  | false =>
    rw [q2] at k
    simp only [Bool.false_and] at k
    refine iteT ?_
    exact no _ rfl k
  | true =>
  rw [q2] at k
  simp only [Bool.true_and] at k
  refine iteF ?_
  refine pssd_nil ?_
  refine pssd_one (psd_ret ?_)
  refine pd_cmp (op_eqD hr.units) ?_
  refine pd_lc (own := [("k", 2)]) (is := [2]) rfl nd (blkOk_by rfl) (by decide) ?_
  refine it_range2 hm.range ?_
  refine pd_int ?_
  refine pd_callB call_len rfl hm.len PySem.boot_len ?_
  (refine pad_cons ?_; refine pd_var (i := 0) rfl rfl ?_)
  refine pad_nil ?_
  refine va_lenS zl ?_
  have h1000 := hok.1
  refine ⟨1, (t.length : Int), rfl, rfl, by omega, ?_⟩
  have en : ((t.length : Int) - 1).toNat = t.length - 1 := by omega
  rw [en]
  refine lcd_ix (ds := rgs 1 (t.length - 1)) (fun i => !decide ((cl t).getD i 0 < (cl t).getD (i + 1) 0)) (fun i => I (1 + (i : Int))) (by rw [rgs_len]; exact small1000 (by omega)) (fun i d hd s2 H0 C1 cl1 fp1 => ?_) ?_
  · obtain ⟨hi, rfl⟩ := rgs_at hd
    have e1 : (cl t)[i]? = some ((cl t).getD i 0) := by
      rw [List.getD_eq_getElem?_getD, List.getElem?_eq_getElem (by omega)]
      rfl
    have e2 : (cl t)[i + 1]? = some ((cl t).getD (i + 1) 0) := by
      rw [List.getD_eq_getElem?_getD, List.getElem?_eq_getElem (by omega)]
      rfl
    have n1 : (1 : Int) + (i : Int) - 1 = (i : Int) := by omega
    have n2 : (1 : Int) + (i : Int) = ((i + 1 : Nat) : Int) := by omega
    refine pgl_name (i := 2) nd rfl ?_
    intro s3 H0 C1 cl1 fp1
    refine ptsd_one ?_
    refine ptd_cmp op_ge_str ?_
    refine pd_ix ix_str ?_
    refine pd_var (i := 0) rfl rfl ?_
    refine pd_op op_sub ?_
    refine pd_var (i := 2) rfl rfl ?_
    refine pd_int ?_
    refine vr_I ?_
    rw [n1]
    refine vr_ixSx zl e1 ?_
    refine pd_ix ix_str ?_
    refine pd_var (i := 0) rfl rfl ?_
    refine pd_var (i := 2) rfl rfl ?_
    rw [n2]
    refine vr_ixSx zl e2 ?_
    refine vr_geS ⟨_, rfl, ?_⟩
    have eo : (!decide (([(cl t).getD i 0] : List Nat) < [(cl t).getD (i + 1) 0])) = (!decide ((cl t).getD i 0 < (cl t).getD (i + 1) 0)) := congrArg Bool.not (one_lt _ _)
    show if (!decide (([(cl t).getD i 0] : List Nat) < [(cl t).getD (i + 1) 0])) = true then _ else _
    rw [eo]
    cases q : (!decide ((cl t).getD i 0 < (cl t).getD (i + 1) 0)) with
    | false => exact iteF ⟨rfl, rfl⟩
    | true =>
      refine iteT ?_
      intro s3 H0 C1 cl1 fp1
      refine pd_var (i := 2) rfl rfl ?_
      exact ⟨rfl, rfl, rfl⟩
  rw [rgs_len]
  have er : ((List.range (t.length - 1)).filter fun i => !decide ((cl t).getD i 0 < (cl t).getD (i + 1) 0)).map (fun (i : Nat) => I (1 + (i : Int))) = (((List.range (t.length - 1)).filter fun i => !decide ((cl t).getD i 0 < (cl t).getD (i + 1) 0)).map fun (i : Nat) => 1 + (i : Int)).map I := by
    rw [List.map_map]
    rfl
  rw [er]
  refine pd_lst ?_
  refine pad_nil ⟨by show 0 ≤ sizeLine; decide, ?_⟩
  refine vr_empI ?_
  rw [List.isEmpty_map, filt_not]
  unfold risB at k
  rw [lc] at k
  exact k
end
end Tw

set_option Elab.async false
set_option linter.all false
set_option maxRecDepth 100000
set_option maxHeartbeats 1000000
/-! z[::-1] of a text. -/
namespace L2
open PySem PySem.Spec PyProof.Rows
section
variable {X : Cx}
def tRevS (te : TE) : TE := fun σ H Q => te σ H fun x H1 => ∃ z : Str, x = .str z ∧ z.length ≤ sizeLine ∧ ∀ y : Str, y.length ≤ z.length → (∀ c ∈ y.cps.toList, c ∈ z.cps.toList) → Q (.str y) H1
theorem down_len (n : Nat) : (Builtin.Str.strSliceIndices none none (-1) n).length ≤ n := by
  unfold Builtin.Str.strSliceIndices
  simp only [sliceRange]
  rw [List.length_map, List.length_range]
  have e : ¬ ((-1 : Int) > 0) := by decide
  simp only [if_neg e]
  by_cases h : ((n : Int) - 1 > -1)
  · rw [if_pos h]
    have : ((n : Int) - 1 - -1 - -1 - 1) / (- -1) = n := by
      have e1 : ((n : Int) - 1 - -1 - -1 - 1) = n := by omega
      rw [e1]
      simp
    rw [this]
    omega
  · rw [if_neg h]
    exact Nat.zero_le _
theorem pick_sub {z : Str} : ∀ (l : List Nat), (l.filterMap (z.cps[·]?)).length ≤ l.length ∧ ∀ c ∈ l.filterMap (z.cps[·]?), c ∈ z.cps.toList := fun l => ⟨List.length_filterMap_le _ _, fun c hc => by
  obtain ⟨i, _, e⟩ := List.mem_filterMap.mp hc
  exact Array.mem_toList_iff.mpr (Array.mem_of_getElem? e)⟩
theorem pe_revS {e : Expr} {te : TE} {k : Nat} {p1 p2 p3 pos : Pos} (he : PE X e te) : PE X (.Subscript e (.Slice none none (some (.UnaryOp .USub (.Constant (.int 1) k p1) p2)) p3) pos) (tRevS te) := by
  refine ⟨fun pins s σ H Q I h => ?_⟩
  refine Subscript_ (thn (he.run pins s σ H _ I h) fun v s1 ⟨x, H1, I1, r1, q1⟩ => ?_)
  obtain ⟨z, ex, hz, q⟩ := q1
  subst ex
  obtain ⟨tz, rfl⟩ := r1
  have hst : PO X (some (.UnaryOp .USub (.Constant (.int 1) k p1) p2)) (tPart (tUn (rU fun i => .int (-i)) (tC (.int 1)))) := po_some (pe_un un_neg pe_int)
  refine wpAny_Slice (thn (po_none.run pins s1 σ H1 (fun o H2 => o = none ∧ H2 = H1) I1 ⟨rfl, rfl⟩) fun vl s2 ⟨l, H2, I2, pl, el, e2⟩ => ?_)
  subst el e2
  refine thn (po_none.run pins s2 σ H2 (fun o H3 => o = none ∧ H3 = H2) I2 ⟨rfl, rfl⟩) fun vu s3 ⟨u, H3, I3, pu, eu, e3⟩ => ?_
  subst eu e3
  refine thn (hst.run pins s3 σ H3 (fun o H4 => o = some (-1) ∧ H4 = H3) I3 ⟨1, rfl, -1, rfl, rfl, rfl⟩) fun vs s4 ⟨o, H4, I4, ps, eo, e4⟩ => ?_
  subst eo e4
  have I5 : Inv X pins σ H4 { s4 with heap := s4.heap.push { cls := .type "slice", data := .fields #[vl, vu, vs] } } := I4.kept (t' := s4.toks) fun b ob q => Heap.get?_push_of_some _ q
  cases pl
  cases pu
  cases ps with
  | int _ ts =>
  show wpAny (model X.prog X.w) X.A (subscriptTail e (.Slice none none (some (.UnaryOp .USub (.Constant (.int 1) k p1) p2)) p3) (.str z tz) (.ref s4.heap.objs.size)) (EP X pins σ Q) X.xe { s4 with heap := s4.heap.push { cls := .type "slice", data := .fields #[.none, .none, .int (-1) ts] } }
  refine tail_any (ops := [.str z tz, .ref s4.heap.objs.size]) (typeIs_str _ _ _) (F.slot_str_getitem.lookup) ?_ (by with_unfolding_all rfl)
  refine wpAny_getItem_str_slice (l := none) (u := none) (st := some (-1, ts)) ⟨_, Heap.get?_push_size _ rfl, rfl, rfl⟩ rfl ?_
  have d1 := down_len z.length
  obtain ⟨d2, d3⟩ := pick_sub (z := z) (Builtin.Str.strSliceIndices none none (-1) z.length)
  show Made.post (if ((-1 : Int) == 1 && (Builtin.Str.strSliceIndices none none (-1) z.length).length == z.length) = true then Made.val (.str z tz)
    else Made.str ⟨((Builtin.Str.strSliceIndices none none (-1) z.length).filterMap (z.cps[·]?)).toArray⟩) (EP X pins σ Q) _
  rw [if_neg (by rw [show ((-1 : Int) == 1) = false from by decide, Bool.false_and]; exact Bool.false_ne_true)]
  have hl : (⟨((Builtin.Str.strSliceIndices none none (-1) z.length).filterMap (z.cps[·]?)).toArray⟩ : Str).length ≤ z.length := by
    show (List.toArray _).size ≤ _
    rw [List.size_toArray]
    omega
  refine ⟨Nat.le_trans hl hz, .str _, H4, I5.tok _, ⟨_, rfl⟩, q _ hl fun c hc => d3 c ?_⟩
  have e : ((⟨((Builtin.Str.strSliceIndices none none (-1) z.length).filterMap (z.cps[·]?)).toArray⟩ : Str)).cps.toList = (Builtin.Str.strSliceIndices none none (-1) z.length).filterMap (z.cps[·]?) := List.toList_toArray
  rw [e] at hc
  exact hc
end
end L2
namespace DL
open PySem PySem.Spec PyProof.Rows L2 LamX
section
variable {X : Cx} {T : List (Addr × Str)} {W : WX} {χ : XD} {δ : Dn} {w : Wp} {pos : Pos}
/-- z[::-1], known only by its length and its signs -/
theorem pd_revS {e : Expr} {j : Nat} {p1 p2 p3 : Pos} {κ : D → Wp → Prop} (h : PD X T W χ e δ w fun d w1 => ∃ z : Str, d = DL.T z ∧ z.length ≤ sizeLine ∧ ∀ y : Str, y.length ≤ z.length → (∀ c ∈ y.cps.toList, c ∈ z.cps.toList) → κ (DL.T y) w1) : PD X T W χ (.Subscript e (.Slice none none (some (.UnaryOp .USub (.Constant (.int 1) j p1) p2)) p3) pos) δ w κ := fun F σ S H Q hE hW hX hK =>
  wp_pe (pe_revS (pe_wp e)) (by
    refine h F σ S H _ hE hW hX fun d w1 v S1 H1 k s1 W1 r => ?_
    obtain ⟨z, rfl, hz, k⟩ := k
    have r' : v = .str z := r
    subst r'
    exact ⟨z, rfl, hz, fun y h1 h2 => hK _ w1 _ S1 H1 (k y h1 h2) s1 W1 rfl⟩)
end
end DL

set_option Elab.async false
set_option linter.all false
set_option maxRecDepth 100000
set_option maxHeartbeats 2000000
/-! The law's _law_bent_name, _law_bent_group, _law_count. -/
namespace Tw
open PySem PySem.Spec PyProof.Rows L2 LamX DL
/-- short, plain signs only -/
def Oks (s : Str) : Prop := ∀ c ∈ cl s, c < 200
theorem Oks.cat {a b : Str} (h : Oks a) (k : Oks b) : Oks (a ++ b) := fun c hc => by
  rw [cl_cat] at hc
  rcases List.mem_append.mp hc with z | z
  · exact h c z
  · exact k c z
theorem Oks.sub {a b : Str} (h : Oks a) (k : ∀ c ∈ b.cps.toList, c ∈ a.cps.toList) : Oks b := fun c hc => h c (k c hc)
theorem Low.oks {s : Str} (h : Low s) : Oks s := fun c hc => Nat.lt_of_le_of_lt (h c hc).2 (by decide)
theorem group_oks {g : Str} (h : GroupOk g) : Oks g := fun c hc => Nat.lt_of_le_of_lt (group_ah h c hc).2 (by decide)
theorem group_pos {g : Str} (h : GroupOk g) : 1 ≤ g.length := by
  have hb := (groupB_iff g).mpr h
  unfold groupB at hb
  have h1 := ((Bool.and_eq_true _ _).mp hb).1
  by_cases z : g.length = 0
  · have e : g = ("" : Str) := cl_ext (by
      have e1 : cl g = [] := List.eq_nil_of_length_eq_zero (by rw [cl_len]; exact z)
      rw [e1]
      rfl)
    rw [decide_eq_true e] at h1
    cases h1
  · omega
abbrev signN : Str := "A0 _~&|()[]?*-'Z"
abbrev signG : Str := "abcdefghiA 1*?,z"
abbrev aiT : Str := "abcdefghi"
theorem signN_ok : signN.length = 16 ∧ Oks signN := ⟨by decide +kernel, by unfold Oks; decide +kernel⟩
theorem signG_ok : signG.length = 16 ∧ Oks signG := ⟨by decide +kernel, by unfold Oks; decide +kernel⟩
theorem ai_ok : aiT.length = 9 ∧ Oks aiT := ⟨by decide +kernel, by unfold Oks; decide +kernel⟩
abbrev menuB : List Str := ["", "true", "false", "True", "tru", "fals", "trues", " p", "p ", "P"]
theorem menuB_ok : ∀ s ∈ menuB, s.length ≤ 8 ∧ Oks s := by
  unfold Oks
  decide +kernel
theorem let_len (c : Nat) : (⟨#[c]⟩ : Str).length = 1 := rfl
theorem let_oks {c : Nat} {s : Str} (h : Oks s) (hc : c ∈ s.cps.toList) : Oks (⟨#[c]⟩ : Str) := fun d hd => by
  have e : d = c := by simpa [cl] using hd
  rw [e]
  exact h c hc
def spBent : SpD := fun ds w κ χ => ∃ (a r : Addr) (b : Bag), ds = [R a] ∧ BagAt w a r b ∧ ∀ (s : Str) (b' : Bag), s.length ≤ 20 → Oks s → κ (DL.T s) (bagPut w a r b')
section
variable {P : Program} {w : PySem.World} {K : PySem.W.Frag} {mg : Str → Option Value} {base : Heap} {T : List (Addr × Str)} {c : SC} {cS fS CG CC CN : Addr}
theorem scBentN : FnScope ["bag", "way", "text", "place", "sign"] ["bag"] (defScope sBentN) := ⟨rfl, rfl, rfl, by decide +kernel, rfl, by decide +kernel, by decide +kernel⟩
theorem ok_bentn {f : Addr} {fd : FuncData} (G : Fun K "_law_bent_name" "_law_bent_name" sBentN f fd) (hm : Nm2 mg) (hT : HasF P w K mg base T CX0 "_law_take" 1 ["bag", "many"] spTake) (hN : HasF P w K mg base T CX0 "_law_name" 3 ["bag"] spNam) (hL : HasF P w K mg base T CX0 "_law_letters" 2 ["bag", "text", "many"] spLet) :
    FnOk P w K mg base CX0 4 f fd ["bag"] (spOf K T spBent) := by
  refine fnD G scBentN (fun ds w κ χ h => ?_) (fun cdv A outer s H E ds w0 κ χ hr h => ?_)
  · obtain ⟨a, r, b, rfl, _⟩ := h
    rfl
  obtain ⟨a, r, b, rfl, hb, k⟩ := h
  have nd := scBentN.nd
  have ne := hb.ne
  have hB : ∀ b, BagAt (bagPut w0 a r b) a r b := fun b => bag_put ne
  have pp : ∀ b b', bagPut (bagPut w0 a r b) a r b' = bagPut w0 a r b' := fun b b' => bag_put2 ne
  refine pssd_cons (psd_set (i := 1) nd rfl ?_)
  (refine pd_take hT (hr.mono (by decide)) (i := 0) rfl rfl hb ?_)
  refine pd_int ?_
  refine ⟨rfl, _, rfl, by decide, by decide, fun way b1 _ _ => ?_⟩
  refine pssd_cons (psd_set (i := 2) nd rfl ?_)
  refine pd_has hN (hr.mono (by decide)) (fun _ => pass0At) ?_
  (refine pad_cons ?_; refine pd_var (i := 0) rfl rfl ?_)
  refine pad_nil ⟨a, r, b1, rfl, hB b1, fun t b2 ht => ?_⟩
  rw [pp]
  have t1 := ht.l1
  have t8 := ht.l8
  have tok : Oks t := ht.low.oks
  have zl : t.length ≤ sizeLine := le_line (by omega)
  refine pssd_cons (psd_set (i := 3) nd rfl ?_)
  (refine pd_take hT (hr.mono (by decide)) (i := 0) rfl rfl (hB b2) ?_)
  refine pd_callB call_len rfl hm.len PySem.boot_len ?_
  (refine pad_cons ?_; refine pd_var (i := 2) rfl rfl ?_)
  refine pad_nil ?_
  refine va_lenS zl ?_
  refine ⟨rfl, _, rfl, by omega, lg9' (by omega) (by omega), fun pl b3 g0 g1 => ?_⟩
  rw [pp]
  obtain ⟨n, rfl⟩ := Int.eq_ofNat_of_zero_le g0
  refine pssd_cons (psd_set (i := 4) nd rfl ?_)
  refine pd_ix ix_str ?_
  refine pd_str ?_
  (refine pd_take hT (hr.mono (by decide)) (i := 0) rfl rfl (hB b3) ?_)
  refine pd_int ?_
  refine ⟨rfl, _, rfl, by decide, by decide, fun x b4 g2 g3 => ?_⟩
  rw [pp]
  obtain ⟨j, rfl⟩ := Int.eq_ofNat_of_zero_le g2
  obtain ⟨sl, so⟩ := signN_ok
  refine vr_ixS (z := signN) (by rw [sl, sizeLine_eq]; decide) (by rw [sl]; omega) fun ch hc => ?_
  have cok : Oks (⟨#[ch]⟩ : Str) := let_oks so hc
  have big : ∀ {m : Nat}, m ≤ 1000 → m ≤ sizeLine := fun h => le_line h
  (refine pssd_cons (psd_if ?_); refine ptd_cmp op_eq ?_; refine pd_var (i := 1) rfl rfl ?_; refine pd_int ?_; refine vr_eq rfl ⟨_, rfl, ?_⟩; refine ite2 (fun c1 => ?_) (fun c1 => ?_))
  · with_reducible refine pssd_one (psd_ret ?_)
    refine pd_op op_add_str ?_
    refine pd_op op_add_str ?_
    refine pd_slSTo ?_
    refine pd_var (i := 2) rfl rfl ?_
    refine pd_var (i := 3) rfl rfl ?_
    refine ⟨t, n, rfl, rfl, zl, fun y yl ys => ?_⟩
    refine pd_var (i := 4) rfl rfl ?_
    refine vr_addS (big (by rw [let_len]; omega)) ?_
    refine pd_slSFrom ?_
    refine pd_var (i := 2) rfl rfl ?_
    refine pd_var (i := 3) rfl rfl ?_
    refine ⟨t, n, rfl, rfl, zl, fun z zl2 zs => ?_⟩
    refine vr_addS (big (by rw [Str.length_append, let_len]; omega)) ?_
    exact k _ b4 (by rw [Str.length_append, Str.length_append, let_len]; omega) (((tok.sub ys).cat cok).cat (tok.sub zs))
  refine pssd_nil ?_
  (refine pssd_cons (psd_if ?_); refine ptd_cmp op_eq ?_; refine pd_var (i := 1) rfl rfl ?_; refine pd_int ?_; refine vr_eq rfl ⟨_, rfl, ?_⟩; refine ite2 (fun c2 => ?_) (fun c2 => ?_))
  · with_reducible refine pssd_one (psd_ret ?_)
    refine pd_op op_add_str ?_
    refine pd_op op_add_str ?_
    refine pd_slSTo ?_
    refine pd_var (i := 2) rfl rfl ?_
    refine pd_var (i := 3) rfl rfl ?_
    refine ⟨t, n, rfl, rfl, zl, fun y yl ys => ?_⟩
    refine pd_var (i := 4) rfl rfl ?_
    refine vr_addS (big (by rw [let_len]; omega)) ?_
    refine pd_slSFrom ?_
    refine pd_var (i := 2) rfl rfl ?_
    refine pd_op op_add ?_
    refine pd_var (i := 3) rfl rfl ?_
    refine pd_int ?_
    refine vr_I ?_
    refine ⟨t, n + 1, rfl, rfl, zl, fun z zl2 zs => ?_⟩
    refine vr_addS (big (by rw [Str.length_append, let_len]; omega)) ?_
    exact k _ b4 (by rw [Str.length_append, Str.length_append, let_len]; omega) (((tok.sub ys).cat cok).cat (tok.sub zs))
  refine pssd_nil ?_
  (refine pssd_cons (psd_if ?_); refine ptd_cmp op_eq ?_; refine pd_var (i := 1) rfl rfl ?_; refine pd_int ?_; refine vr_eq rfl ⟨_, rfl, ?_⟩; refine ite2 (fun c3 => ?_) (fun c3 => ?_))
  · with_reducible refine pssd_one (psd_ret ?_)
    refine pd_has hL (hr.mono (by decide)) (fun _ => pass0At) ?_
    (refine pad_cons ?_; refine pd_var (i := 0) rfl rfl ?_)
    (refine pad_cons ?_; refine pd_var (i := 2) rfl rfl ?_)
    refine pad_cons ?_
    refine pd_op op_add ?_
    refine pd_op op_sub ?_
    refine pd_int ?_
    refine pd_callB call_len rfl hm.len PySem.boot_len ?_
    (refine pad_cons ?_; refine pd_var (i := 2) rfl rfl ?_)
    refine pad_nil ?_
    refine va_lenS zl ?_
    refine vr_I ?_
    (refine pd_take hT (hr.mono (by decide)) (i := 0) rfl rfl (hB b4) ?_)
    refine pd_int ?_
    refine ⟨rfl, _, rfl, by decide, by decide, fun x2 b5 g4 g5 => ?_⟩
    rw [pp]
    obtain ⟨j2, rfl⟩ := Int.eq_ofNat_of_zero_le g4
    refine vr_I ?_
    have en : (9 : Int) - (t.length : Int) + (j2 : Int) = ((9 - t.length + j2 : Nat) : Int) := by omega
    rw [en]
    refine pad_nil ⟨a, r, b5, t, _, rfl, hB b5, by omega, fun u b6 hu hlo => ?_⟩
    rw [pp]
    exact k _ b6 (by rw [Str.length_append, hu]; omega) (tok.cat hlo.oks)
  refine pssd_nil ?_
  (refine pssd_cons (psd_if ?_); refine ptd_cmp op_eq ?_; refine pd_var (i := 1) rfl rfl ?_; refine pd_int ?_; refine vr_eq rfl ⟨_, rfl, ?_⟩; refine ite2 (fun c4 => ?_) (fun c4 => ?_))
  · with_reducible refine pssd_one (psd_ret ?_)
    with_reducible refine pd_ix ix_list ?_ (by with_unfolding_all exact fun _ _ => rfl)
    with_reducible refine pd_lst ?_
    with_reducible refine pad_cons (pd_str ?_) (by with_unfolding_all rfl)
    with_reducible refine pad_cons (pd_str ?_) (by with_unfolding_all rfl)
    with_reducible refine pad_cons (pd_str ?_) (by with_unfolding_all rfl)
    with_reducible refine pad_cons (pd_str ?_) (by with_unfolding_all rfl)
    with_reducible refine pad_cons (pd_str ?_) (by with_unfolding_all rfl)
    with_reducible refine pad_cons (pd_str ?_) (by with_unfolding_all rfl)
    with_reducible refine pad_cons (pd_str ?_) (by with_unfolding_all rfl)
    with_reducible refine pad_cons (pd_str ?_) (by with_unfolding_all rfl)
    with_reducible refine pad_cons (pd_str ?_) (by with_unfolding_all rfl)
    with_reducible refine pad_cons (pd_str ?_) (by with_unfolding_all rfl)
    refine pad_nil ⟨by show 10 ≤ sizeLine; decide, ?_⟩
    (refine pd_take hT (hr.mono (by decide)) (i := 0) rfl rfl (hB b4) ?_)
    refine pd_int ?_
    refine ⟨rfl, _, rfl, by decide, by decide, fun x2 b5 g4 g5 => ?_⟩
    rw [pp]
    obtain ⟨j2, rfl⟩ := Int.eq_ofNat_of_zero_le g4
    have hj : j2 < menuB.length := by
      show j2 < 10
      omega
    have em : menuB[j2]? = some menuB[j2] := List.getElem?_eq_getElem hj
    refine vr_ixL (i := j2) (d := DL.T menuB[j2]) (by show (menuB.map DL.T)[j2]? = _; rw [List.getElem?_map, em]; rfl) ?_
    obtain ⟨q1, q2⟩ := menuB_ok _ (List.getElem_mem hj)
    exact k _ b5 (by omega) q2
  refine pssd_nil ?_
  with_reducible refine pssd_one (psd_ret ?_)
  refine pd_var (i := 2) rfl rfl ?_
  exact k t b4 (by omega) tok
theorem scBentG : FnScope ["bag", "way", "text", "place", "sign", "k"] ["bag"] (defScope sBentG) := ⟨rfl, rfl, rfl, by decide +kernel, rfl, by decide +kernel, by decide +kernel⟩
theorem ok_bentg {f : Addr} {fd : FuncData} (G : Fun K "_law_bent_group" "_law_bent_group" sBentG f fd) (hm : Nm2 mg) (hT : HasF P w K mg base T CX0 "_law_take" 1 ["bag", "many"] spTake) (hGr : HasF P w K mg base T CX0 "_law_group" 2 ["bag"] spGrp) :
    FnOk P w K mg base CX0 3 f fd ["bag"] (spOf K T spBent) := by
  refine fnD G scBentG (fun ds w κ χ h => ?_) (fun cdv A outer s H E ds w0 κ χ hr h => ?_)
  · obtain ⟨a, r, b, rfl, _⟩ := h
    rfl
  obtain ⟨a, r, b, rfl, hb, k⟩ := h
  have nd := scBentG.nd
  have ne := hb.ne
  have hB : ∀ b, BagAt (bagPut w0 a r b) a r b := fun b => bag_put ne
  have pp : ∀ b b', bagPut (bagPut w0 a r b) a r b' = bagPut w0 a r b' := fun b b' => bag_put2 ne
  refine pssd_cons (psd_set (i := 1) nd rfl ?_)
  (refine pd_take hT (hr.mono (by decide)) (i := 0) rfl rfl hb ?_)
  refine pd_int ?_
  refine ⟨rfl, _, rfl, by decide, by decide, fun way b1 _ _ => ?_⟩
  refine pssd_cons (psd_set (i := 2) nd rfl ?_)
  refine pd_has hGr (hr.mono (by decide)) (fun _ => pass0At) ?_
  (refine pad_cons ?_; refine pd_var (i := 0) rfl rfl ?_)
  refine pad_nil ⟨a, r, b1, rfl, hB b1, fun t b2 ht => ?_⟩
  rw [pp]
  have t1 := group_pos ht
  have t8 := group_len ht
  have tok : Oks t := group_oks ht
  have zl : t.length ≤ sizeLine := le_line (by omega)
  refine pssd_cons (psd_set (i := 3) nd rfl ?_)
  (refine pd_take hT (hr.mono (by decide)) (i := 0) rfl rfl (hB b2) ?_)
  refine pd_callB call_len rfl hm.len PySem.boot_len ?_
  (refine pad_cons ?_; refine pd_var (i := 2) rfl rfl ?_)
  refine pad_nil ?_
  refine va_lenS zl ?_
  refine ⟨rfl, _, rfl, by omega, lg9' (by omega) (by omega), fun pl b3 g0 g1 => ?_⟩
  rw [pp]
  obtain ⟨n, rfl⟩ := Int.eq_ofNat_of_zero_le g0
  refine pssd_cons (psd_set (i := 4) nd rfl ?_)
  refine pd_ix ix_str ?_
  refine pd_str ?_
  (refine pd_take hT (hr.mono (by decide)) (i := 0) rfl rfl (hB b3) ?_)
  refine pd_int ?_
  refine ⟨rfl, _, rfl, by decide, by decide, fun x b4 g2 g3 => ?_⟩
  rw [pp]
  obtain ⟨j, rfl⟩ := Int.eq_ofNat_of_zero_le g2
  obtain ⟨sl, so⟩ := signG_ok
  refine vr_ixS (z := signG) (by rw [sl, sizeLine_eq]; decide) (by rw [sl]; omega) fun ch hc => ?_
  have cok : Oks (⟨#[ch]⟩ : Str) := let_oks so hc
  have big : ∀ {m : Nat}, m ≤ 1000 → m ≤ sizeLine := fun h => le_line h
  (refine pssd_cons (psd_if ?_); refine ptd_cmp op_eq ?_; refine pd_var (i := 1) rfl rfl ?_; refine pd_int ?_; refine vr_eq rfl ⟨_, rfl, ?_⟩; refine ite2 (fun c1 => ?_) (fun c1 => ?_))
  · with_reducible refine pssd_one (psd_ret ?_)
    refine pd_bm PySem.F.plainAttrs_str PySem.F.slot_str_join PySem.F.type_str_join mt_join ?_
    refine pd_str ?_
    refine ⟨rfl, ?_⟩
    refine pad_cons ?_
    refine pd_lc (own := [("k", 5)]) (is := [5]) rfl nd (blkOk_by rfl) (by decide) ?_
    refine it_range hm.range ?_
    (refine pd_take hT (hr.mono (by decide)) (i := 0) rfl rfl (hB b4) ?_)
    refine pd_int ?_
    refine ⟨rfl, _, rfl, by decide, by decide, fun x2 b5 g4 g5 => ?_⟩
    rw [pp]
    obtain ⟨m, rfl⟩ := Int.eq_ofNat_of_zero_le g4
    refine ⟨m, rfl, by omega, ?_⟩
    refine ⟨by rw [ups_len]; exact small1000 (by omega), fun i acc w' => ∃ (b' : Bag) (cs : List Nat), w' = bagPut w0 a r b' ∧ acc = (cs.map letS).map DL.T ∧ cs.length = i ∧ ∀ c ∈ cs, c < 200, ⟨b5, [], rfl, rfl, rfl, fun x h => by cases h⟩, ?_, ?_⟩
    · rintro i d acc w' hd ⟨b', cs, rfl, rfl, hl, hp⟩ s H0 C1 cl1 fp1
      obtain ⟨hi, rfl⟩ := ups_at hd
      refine pgl_name (i := 5) nd rfl ?_
      intro s H0 C1 cl1 fp1
      refine ptsd_nil ?_
      intro s H0 C1 cl1 fp1
      refine pd_ix ix_str ?_
      refine pd_str ?_
      (refine pd_take hT (hr.mono (by decide)) (i := 0) rfl rfl (hB b') ?_)
      refine pd_int ?_
      refine ⟨rfl, _, rfl, by decide, by decide, fun y b6 g6 g7 => ?_⟩
      rw [pp]
      obtain ⟨j3, rfl⟩ := Int.eq_ofNat_of_zero_le g6
      obtain ⟨al, ao⟩ := ai_ok
      refine vr_ixS (z := aiT) (by rw [al, sizeLine_eq]; decide) (by rw [al]; omega) fun ch2 hc2 => ?_
      refine ⟨b6, cs ++ [ch2], rfl, by rw [List.map_append, List.map_append]; rfl, by rw [List.length_append, hl]; rfl, fun c hc' => ?_⟩
      rcases List.mem_append.mp hc' with h | h
      · exact hp c h
      · rw [List.mem_singleton.mp h]
        exact ao ch2 hc2
    · rintro acc w' ⟨b', cs, rfl, rfl, hl, hp⟩
      rw [ups_len] at hl
      refine pad_nil ?_
      refine vm_join (by rw [sum_let, List.length_map]; show _ + _ * 0 ≤ _; omega) ?_
      rw [txt_let]
      refine k _ b' ?_ ?_
      · show cs.toArray.size ≤ 20
        rw [List.size_toArray]
        omega
      · intro c hc
        have e : cl (⟨cs.toArray⟩ : Str) = cs := List.toList_toArray
        rw [e] at hc
        exact hp c hc
  refine pssd_nil ?_
  (refine pssd_cons (psd_if ?_); refine ptd_cmp op_eq ?_; refine pd_var (i := 1) rfl rfl ?_; refine pd_int ?_; refine vr_eq rfl ⟨_, rfl, ?_⟩; refine ite2 (fun c2 => ?_) (fun c2 => ?_))
  · with_reducible refine pssd_one (psd_ret ?_)
    refine pd_op op_add_str ?_
    refine pd_op op_add_str ?_
    refine pd_slSTo ?_
    refine pd_var (i := 2) rfl rfl ?_
    refine pd_var (i := 3) rfl rfl ?_
    refine ⟨t, n, rfl, rfl, zl, fun y yl ys => ?_⟩
    refine pd_var (i := 4) rfl rfl ?_
    refine vr_addS (big (by rw [let_len]; omega)) ?_
    refine pd_slSFrom ?_
    refine pd_var (i := 2) rfl rfl ?_
    refine pd_var (i := 3) rfl rfl ?_
    refine ⟨t, n, rfl, rfl, zl, fun z zl2 zs => ?_⟩
    refine vr_addS (big (by rw [Str.length_append, let_len]; omega)) ?_
    exact k _ b4 (by rw [Str.length_append, Str.length_append, let_len]; omega) (((tok.sub ys).cat cok).cat (tok.sub zs))
  refine pssd_nil ?_
  (refine pssd_cons (psd_if ?_); refine ptd_cmp op_eq ?_; refine pd_var (i := 1) rfl rfl ?_; refine pd_int ?_; refine vr_eq rfl ⟨_, rfl, ?_⟩; refine ite2 (fun c3 => ?_) (fun c3 => ?_))
  · with_reducible refine pssd_one (psd_ret ?_)
    refine pd_revS ?_
    refine pd_var (i := 2) rfl rfl ?_
    exact ⟨t, rfl, zl, fun y yl ys => k y b4 (by omega) (tok.sub ys)⟩
  refine pssd_nil ?_
  with_reducible refine pssd_one (psd_ret ?_)
  refine pd_var (i := 2) rfl rfl ?_
  exact k t b4 (by omega) tok
end
end Tw

set_option Elab.async false
set_option linter.all false
set_option maxRecDepth 100000
set_option maxHeartbeats 2000000
/-! The law's _law_count. -/
namespace Tw
open PySem PySem.Spec PyProof.Rows L2 LamX DL
theorem pow40 : ((10 : Int) ^ (40 : Int).toNat) = 10000000000000000000000000000000000000000 := by decide +kernel
theorem log_small {x : Int} (h : x.natAbs < 100) : x.natAbs.log2 < 1920 := log_of (Nat.lt_trans h (by decide +kernel))
theorem log_big {x : Int} (h : x.natAbs < 10000000000000000000000000000000000000001) : x.natAbs.log2 < 1920 := log_of (Nat.lt_trans h (by decide +kernel))
section
variable {P : Program} {w : PySem.World} {K : PySem.W.Frag} {mg : Str → Option Value} {base : Heap} {T : List (Addr × Str)}
theorem scCnt : FnScope ["bag", "way"] ["bag"] (defScope sCnt) := ⟨rfl, rfl, rfl, by decide +kernel, rfl, by decide +kernel, by decide +kernel⟩
theorem ok_cnt {f : Addr} {fd : FuncData} (G : Fun K "_law_count" "_law_count" sCnt f fd) (hT : HasF P w K mg base T CX0 "_law_take" 1 ["bag", "many"] spTake) : FnOk P w K mg base CX0 2 f fd ["bag"] (spOf K T spCnt) := by
  refine fnD G scCnt (fun ds w κ χ h => ?_) (fun cdv A outer s H E ds w0 κ χ hr h => ?_)
  · obtain ⟨a, r, b, rfl, _⟩ := h
    rfl
  obtain ⟨a, r, b, rfl, hb, k⟩ := h
  have nd := scCnt.nd
  have ne := hb.ne
  have hB : ∀ b, BagAt (bagPut w0 a r b) a r b := fun b => bag_put ne
  have pp : ∀ b b', bagPut (bagPut w0 a r b) a r b' = bagPut w0 a r b' := fun b b' => bag_put2 ne
  refine pssd_cons (psd_set (i := 1) nd rfl ?_)
  (refine pd_take hT (hr.mono (by decide)) (i := 0) rfl rfl hb ?_)
  refine pd_int ?_
  refine ⟨rfl, _, rfl, by decide, by decide, fun way b1 _ _ => ?_⟩
  (refine pssd_cons (psd_if ?_); refine ptd_cmp op_eq ?_; refine pd_var (i := 1) rfl rfl ?_; refine pd_int ?_; refine vr_eq rfl ⟨_, rfl, ?_⟩; refine ite2 (fun c1 => ?_) (fun c1 => ?_))
  · refine pssd_one (psd_ret ?_)
    refine pd_op op_sub ?_
    refine pd_un un_neg ?_
    refine pd_int ?_
    refine vr_U ?_
    (refine pd_take hT (hr.mono (by decide)) (i := 0) rfl rfl (hB b1) ?_)
    refine pd_int ?_
    refine ⟨rfl, _, rfl, by decide, by decide, fun x b2 g0 g1 => ?_⟩
    rw [pp]
    refine vr_I ?_
    exact k _ b2 (log_small (by omega))
  refine pssd_nil ?_
  (refine pssd_cons (psd_if ?_); refine ptd_cmp op_eq ?_; refine pd_var (i := 1) rfl rfl ?_; refine pd_int ?_; refine vr_eq rfl ⟨_, rfl, ?_⟩; refine ite2 (fun c2 => ?_) (fun c2 => ?_))
  · refine pssd_one (psd_ret ?_)
    refine pd_op op_add ?_
    refine pd_int ?_
    (refine pd_take hT (hr.mono (by decide)) (i := 0) rfl rfl (hB b1) ?_)
    refine pd_int ?_
    refine ⟨rfl, _, rfl, by decide, by decide, fun x b2 g0 g1 => ?_⟩
    rw [pp]
    refine vr_I ?_
    exact k _ b2 (log_small (by omega))
  refine pssd_nil ?_
  (refine pssd_cons (psd_if ?_); refine ptd_cmp op_eq ?_; refine pd_var (i := 1) rfl rfl ?_; refine pd_int ?_; refine vr_eq rfl ⟨_, rfl, ?_⟩; refine ite2 (fun c3 => ?_) (fun c3 => ?_))
  · refine pssd_one (psd_ret ?_)
    refine pd_op op_sub ?_
    refine pd_op op_sub ?_
    refine pd_op op_pow ?_
    refine pd_int ?_
    refine pd_int ?_
    refine vr_IC ⟨by decide, by decide, by decide⟩ ?_
    refine pd_int ?_
    refine vr_I ?_
    (refine pd_take hT (hr.mono (by decide)) (i := 0) rfl rfl (hB b1) ?_)
    refine pd_int ?_
    refine ⟨rfl, _, rfl, by decide, by decide, fun x b2 g0 g1 => ?_⟩
    rw [pp]
    refine vr_I ?_
    rw [pow40]
    exact k _ b2 (log_big (by omega))
  refine pssd_nil ?_
  refine pssd_one (psd_ret ?_)
  (refine pd_take hT (hr.mono (by decide)) (i := 0) rfl rfl (hB b1) ?_)
  refine pd_int ?_
  refine ⟨rfl, _, rfl, by decide, by decide, fun x b2 g0 g1 => ?_⟩
  rw [pp]
  exact k _ b2 (log_small (by omega))
end
end Tw

set_option Elab.async false
set_option linter.all false
set_option maxRecDepth 100000
set_option maxHeartbeats 2000000
/-! try with several clauses, some of them with a name; isinstance of a caught error that has fields. -/
namespace DL
open PySem PySem.Spec PyProof.Rows L2 LamX
abbrev TSx := Addr → Value → Option Addr → TS
/-- what happens behind a suite whose clause has a name: the name goes -/
def goneD (i : Nat) (D : Ends) : Ends := { nx := fun σ H => D.nx (σ.set i none) H, rt := D.rt, bk := fun σ H => D.bk (σ.set i none) H, ct := fun σ H => D.ct (σ.set i none) H }
def suiteW (o : Option Nat) (ts : TSx) (D : Ends) (a : Addr) (cls : Value) (d : Option Addr) (σ : L2.St) (H : Hp) : Prop := match o with
  | none => ts a cls d D σ H
  | some i => ts a cls d (goneD i D) (σ.set i (some (.ref a))) H
def wMix (K : PySem.W.Frag) (Wout : WX) (D : Ends) : List (Value × Option Nat × TSx) → WX
  | [] => Wout
  | (c, o, ts) :: more => fun cls d σ H => ∃ b, PySem.W.exmOne K cls c = some b ∧ (b = true → ∀ a, H a = none → suiteW o ts D a cls d σ H) ∧ (b = false → wMix K Wout D more cls d σ H)
inductive HdMix (X : Cx) : List ExceptHandler → List (Value × Option Nat × TSx) → Prop
  | none : HdMix X [] []
  | bare {x : Str} {c : Value} {ts : TSx} {st : Stmt} {sts : List Stmt} {np hp : Pos} {hds : List ExceptHandler} {l : List (Value × Option Nat × TSx)} (nm : Names X x c)
      (su : ∀ (a : Addr) (oe : Obj) (cls : Value) (d : Option Addr) (pn : List (Addr × Obj)), Zc cls d oe → (∃ vs, oe.data = .fields vs) → PSs (X.suite a ((a, oe) :: pn)) (st :: sts) (ts a cls d)) (more : HdMix X hds l) :
      HdMix X (.ExceptHandler (some (.Name x np)) .none (st :: sts) hp :: hds) ((c, .none, ts) :: l)
  | named {x n : Str} {i : Nat} {c : Value} {ts : TSx} {st : Stmt} {sts : List Stmt} {np hp : Pos} {hds : List ExceptHandler} {l : List (Value × Option Nat × TSx)} (nm : Names X x c) (hi : X.N[i]? = some n) (hl : X.env.kindOf n = some .local)
      (su : ∀ (a : Addr) (oe : Obj) (cls : Value) (d : Option Addr) (pn : List (Addr × Obj)), Zc cls d oe → (∃ vs, oe.data = .fields vs) → PSs (X.suite a ((a, oe) :: pn)) (st :: sts) (ts a cls d)) (more : HdMix X hds l) :
      HdMix X (.ExceptHandler (some (.Name x np)) (some n) (st :: sts) hp :: hds) ((c, some i, ts) :: l)
section
variable {X : Cx} {body : List Stmt} {hd0 : ExceptHandler} {hds : List ExceptHandler} {l : List (Value × Option Nat × TSx)} {pos : Pos} {tb : WX → TS} {Wout : WX}
theorem ps_try_mix (hs : X.stack = X.env :: X.outer) (hf : X.env.frame = some X.env.locals) (hN : X.N.Nodup) (tk : Takes X Wout)
    (hb : ∀ (W : WX) (pn : List (Addr × Obj)) (xe : Value → Shared → Prop), Takes (X.tr pn xe) W → PassesOwn (model X.prog X.w) X.A X.env xe → PSs (X.tr pn xe) body (tb W))
    (hh : HdMix X (hd0 :: hds) l) : PS X (.Try body (hd0 :: hds) [] [] pos) (fun D σ H => tb (fun cls d σ' H' => σ'.length = X.N.length → wMix X.K Wout D l cls d σ' H') D σ H) := ⟨fun pins s σ H D I h => by
  have ok := I.ok
  have frA : X.A.frames = some (X.env :: X.outer) := ok.frames.trans (by rw [hs])
  refine wpAny_Try_except ?_
  let xe' : Value → Shared → Prop := fun e t1 => wpAny (model X.prog X.w) X.A (noteFrame e X.env) (fun _ t2 => wpAny (model X.prog X.w) X.A (setFlight e none) (fun _ t3 => wpAny (model X.prog X.w) X.A (handleBy e X.env (hd0 :: hds)) (SP X pins D) X.xe t3) X.xe t2) X.xe t1
  have taken : Takes (X.tr (X.pn ++ pins) xe') (fun cls d σ' H' => σ'.length = X.N.length → wMix X.K Wout D l cls d σ' H') := by
    rintro u s' ⟨a, B, sI, pins', σ', H', cls, d, rfl, J', nb, up, sky, na, os, ag, w⟩
    have J := Inv.ofTry J' ok
    have w := w J.len
    rw [show (X.tr (X.pn ++ pins) xe').stack = X.env :: X.outer from hs] at sky
    show wpAny (model X.prog X.w) X.A (noteFrame (.ref a) X.env) _ _ s'
    refine Sky.land Zc.steady frA hf sky fun hA flA upA => ?_
    have JA : Inv X pins σ' H' { s' with heap := hA } := Inv.landed J nb flA.1 (up.trans upA) os ag
    obtain ⟨oA, vA, eA, zA, dA⟩ := flA.there
    have out : a ∉ frs (X.env :: X.outer) := by
      intro hm
      obtain ⟨_, o', e', n'⟩ := flA.2.2.1.mem hm
      rw [eA] at e'
      cases e'
      exact n' _ dA
    have outL : a ≠ X.env.locals := by
      rintro rfl
      exact out (List.mem_filterMap.mpr ⟨X.env, List.mem_cons_self, hf⟩)
    have outF : a ∉ X.fs := by
      intro hm
      obtain ⟨e, he, q⟩ := List.mem_filterMap.mp hm
      exact out (List.mem_filterMap.mpr ⟨e, List.mem_cons_of_mem _ he, q⟩)
    have SA := Inv.suite JA eA dA na outL outF
    have asked : ∀ {x : Str} {c : Value} {np : Pos}, Names X x c → ∀ {Q E : Value → Shared → Prop}, Q c { s' with heap := hA } → wpAny (model X.prog X.w) (X.A.mark (some (.ref a))) (eval (.Name x np) X.env) Q E { s' with heap := hA } := by
      rintro x c np ⟨g1, g2, m1 | ⟨m1, m2, m3⟩⟩ Q E q
      · exact ld_glob (X := X.suite a ((a, oA) :: (X.pn ++ pins))) SA g1 m1 q g2
      · exact ld_blt (X := X.suite a ((a, oA) :: (X.pn ++ pins))) SA g1 m1 m2 q m3 g2
    have ofA : PySem.W.Looks (model X.prog X.w) hA (typeOf (.ref a)) cls := by
      intro A' Q E t k q
      exact wpAny_typeOf_ref (k _ _ eA) (by rw [zA.1]; exact q)
    suffices go : ∀ {hs' : List ExceptHandler} {l' : List (Value × Option Nat × TSx)}, HdMix X hs' l' → wMix X.K Wout D l' cls d σ' H' → wpAny (model X.prog X.w) X.A (handleBy (.ref a) X.env hs') (SP X pins D) X.xe { s' with heap := hA } by exact go hh w
    intro hs' l' hk
    induction hk with
    | none =>
      intro w
      refine wpAny_handleBy_nil ?_
      obtain ⟨_, _, _, oe, vs, T, oT, ts', he, hz, hd, h1, hr⟩ := id flA
      unfold PySem.passOn
      refine wpAny_bind (wpAny_field he hd h1 ?_)
      have nn : ¬ ((Value.ref T == Value.none) = true) := by simp
      rw [if_neg nn]
      have last : wpAny (model X.prog X.w) X.A (setFlight (.ref a) X.env.frame) (fun _ t4 => wpAny (model X.prog X.w) X.A (throw (.ref a) : Sem Flow) (SP X pins D) X.xe t4) X.xe { s' with heap := hA } := by
        rw [hf]
        refine HandSPX.setFlight_upZ flA fun hB goB upB => wpAny_throw (tk _ _ ?_)
        refine ⟨a, B, sI, pins, σ', H', cls, d, rfl, J, nb, (up.trans upA).trans upB, .inr (.inr ?_), na, os, ag, w⟩
        rw [hs]
        exact goB
      first
        | exact wpAny_bind last
        | exact wpAny_bind (wpAny_pure (wpAny_bind last))
    | bare nm su more ih =>
      rintro ⟨b, b1, byes, bno⟩
      refine wpAny_handleBy_cons (codeAny_handlers_test ?_) (by intro q; cases q)
      refine asked nm ((PySem.W.exm_one (M := model X.prog X.w) JA.kIn ofA b1).here ?_)
      cases b with
      | false => exact ih (bno rfl)
      | true =>
        refine codeAny_handlers_suite (HandSPX.lands_againZ flA fun hB flB upB => ?_)
        obtain ⟨oB, vB, eB, zB, dB⟩ := flB.there
        have JB : Inv X pins σ' H' { s' with heap := hB } := Inv.landed J nb flB.1 ((up.trans upA).trans upB) os ag
        have SB := Inv.suite JB eB dB na outL outF
        refine wpAny_mono ((su a oB cls d (X.pn ++ pins) zB ⟨_, dB⟩).run [] _ _ H' _ SB (byes rfl a na)) (fun f t hsp => ?_) (fun _ _ z => z.elim)
        cases f with
        | ret u =>
          obtain ⟨v6, σ6, H6, S6, r6, q6⟩ := hsp
          exact ⟨_, _, _, Inv.unsuite S6 ok, r6, q6⟩
        | next =>
          obtain ⟨σ6, H6, S6, q6⟩ := hsp
          exact ⟨_, _, Inv.unsuite S6 ok, q6⟩
        | brk =>
          obtain ⟨σ6, H6, S6, q6⟩ := hsp
          exact ⟨_, _, Inv.unsuite S6 ok, q6⟩
        | cont =>
          obtain ⟨σ6, H6, S6, q6⟩ := hsp
          exact ⟨_, _, Inv.unsuite S6 ok, q6⟩
    | named nm hi hl su more ih =>
      rintro ⟨b, b1, byes, bno⟩
      refine wpAny_handleBy_cons (codeAny_handlers_test ?_) (by intro q; cases q)
      refine asked nm ((PySem.W.exm_one (M := model X.prog X.w) JA.kIn ofA b1).here ?_)
      cases b with
      | false => exact ih (bno rfl)
      | true =>
        refine codeAny_handlers_suite_as (HandSPX.lands_againZ flA fun hB flB upB => ?_)
        obtain ⟨oB, vB, eB, zB, dB⟩ := flB.there
        have JB : Inv X pins σ' H' { s' with heap := hB } := Inv.landed J nb flB.1 ((up.trans upA).trans upB) os ag
        have SB := Inv.suite JB eB dB na outL outF
        refine store_ok (X := X.suite a ((a, oB) :: (X.pn ++ pins))) (v := .ref a) SB hN hi (.inl hl) rfl (fun t5 S5 => ?_) (.inr hl)
        refine wpAny_mono ((su a oB cls d (X.pn ++ pins) zB ⟨_, dB⟩).run [] t5 _ H' _ S5 (byes rfl a na)) (fun f t hsp => ?_) (fun _ _ z => z.elim)
        cases f with
        | ret u =>
          obtain ⟨v6, σ6, H6, S6, r6, q6⟩ := hsp
          exact gone_ok (Inv.unsuite S6 ok) hN hi hl fun t7 J7 => ⟨_, _, _, J7, r6, q6⟩
        | next =>
          obtain ⟨σ6, H6, S6, q6⟩ := hsp
          exact gone_ok (Inv.unsuite S6 ok) hN hi hl fun t7 J7 => ⟨_, _, J7, q6⟩
        | brk =>
          obtain ⟨σ6, H6, S6, q6⟩ := hsp
          exact gone_ok (Inv.unsuite S6 ok) hN hi hl fun t7 J7 => ⟨_, _, J7, q6⟩
        | cont =>
          obtain ⟨σ6, H6, S6, q6⟩ := hsp
          exact gone_ok (Inv.unsuite S6 ok) hN hi hl fun t7 J7 => ⟨_, _, J7, q6⟩
  refine wpAny_mono ((hb _ (X.pn ++ pins) xe' taken PassesOwn.looking).run [] s σ H D (Inv.toTry I _) h) (fun f t hsp => ?_) (fun e t he => he)
  cases f with
  | next =>
    obtain ⟨σ', H', J', q⟩ := hsp
    exact wpAny_execs_nil ⟨σ', H', Inv.ofTry J' ok, q⟩
  | brk =>
    obtain ⟨σ', H', J', q⟩ := hsp
    exact ⟨σ', H', Inv.ofTry J' ok, q⟩
  | cont =>
    obtain ⟨σ', H', J', q⟩ := hsp
    exact ⟨σ', H', Inv.ofTry J' ok, q⟩
  | ret u =>
    obtain ⟨v, σ', H', J', r, q⟩ := hsp
    exact ⟨v, σ', H', Inv.ofTry J' ok, r, q⟩⟩
end
end DL

set_option Elab.async false
set_option linter.all false
set_option maxRecDepth 100000
set_option maxHeartbeats 2000000
/-! _law_told: what a lambda gives or raises. -/
namespace DL
open PySem PySem.Spec PyProof.Rows L2 LamX
/-- isinstance(e, c), e a caught error with fields -/
def rIsX (K : PySem.W.Frag) (D a : Addr) (d : Option Addr) : List V → Hp → VK → Prop := fun xs H Q => ∃ (c : V) (cv : Value) (b : Bool) (dd : Addr) (fs : List (Str × V)), xs = [.ref a, c] ∧ (∀ u, RelV c u → u = cv) ∧ PySem.W.kitOne K (.ref D) cv = some b ∧ d = some dd ∧ H dd = some (.xd fs) ∧ Q (.bl b) H
theorem call_isX {X : Cx} {a D : Addr} {d : Option Addr} {oe : Obj} {pn : List (Addr × Obj)} (C : L2.ExcC X.K D) (hz : Zc (.ref D) d oe) (hf : ∃ vs, oe.data = .fields vs) : CallR (X.suite a ((a, oe) :: pn)) (.builtin "isinstance") (rIsX X.K D a d) := by
  rintro pins s σ H xs us Q I r ⟨c, cv, b, dd, fs, rfl, hcv, e, rfl, hdd, q⟩
  obtain ⟨u1, u2, rfl, rx, rt⟩ : ∃ u1 u2, us = [u1, u2] ∧ RelV (.ref a) u1 ∧ RelV c u2 := by
    cases r with
    | cons rx rr =>
      cases rr with
      | cons rt rr =>
        cases rr
        exact ⟨_, _, rfl, rx, rt⟩
  cases (show u1 = Value.ref a from rx)
  cases hcv _ rt
  have hget := (I.pin (a, oe) (List.mem_append.mpr (.inl List.mem_cons_self))).1
  obtain ⟨vs, hv⟩ := hf
  obtain ⟨mA, hns, _⟩ := (show ObjOk X.prog X.w H s.heap dd (.xd fs) from I.hok dd _ hdd)
  obtain ⟨od, ho, _⟩ := lookIn_ns hns
  have J : PySem.W.InstAt s.heap a oe D (some od) := ⟨hget, hz.1, by unfold PySem.W.notCls; rw [hv] <;> rfl, by rw [hz.2]; exact ho⟩
  have hcl : (PySem.W.clsIn X.K D).isSome = true := by
    obtain ⟨cd, hc, _⟩ := PySem.W.any_some C.hd
    rw [hc]
    rfl
  exact PySem.W.kia_one (PySem.W.kitx_exc hcl C.hg C.hk C.hs C.ha C.hn C.ht C.hm) I.kIn J e (fun z => nomatch z) fun tk => ⟨.bl b, H, I.kept (t' := tk) fun _ _ z => z, rfl, q⟩
/-- the heap may get more in its tables of code -/
theorem World.more {K : PySem.W.Frag} {T : List (Addr × Str)} {S F H H1 : Hp} {w : Wp} (W : World K T S w F H) (e : ExtN H H1) (t : Tabs T H1) : World K T S w F H1 := by
  refine ⟨fun b x q => e b x (W.same b x q) fun ps z => W.notbl b ps (by rw [q, z]), W.notbl, fun b h q => ?_, fun b x q => ?_, t, W.nf⟩
  · obtain ⟨q1, q2, o, q3, q4⟩ := W.own b h q
    exact ⟨q1, q2, o, e b o q3 q4.notbl.1, q4⟩
  · obtain ⟨q1, q2⟩ := W.frm b x q
    exact ⟨q1, e b x q2 (W.nf b x q).1⟩
section
variable {K : PySem.W.Frag} {T : List (Addr × Str)} {w : Wp} {κ : D → Wp → Prop}
theorem va_isX {D0 a dd : Addr} {ns : List Str} {ds : List D} {c : V} {cv : Value} {b : Bool} (hc : ∀ u, RelV c u → u = cv) (hk : PySem.W.kitOne K (.ref D0) cv = some b) (k : κ (B b) w) : VRA K T (rIsX K D0 a (some dd)) [.exc a dd ns ds, .val c] w κ := by
  intro F S H xs Q hW r hK
  obtain ⟨x, ys, rfl, ⟨zs, rfl, h1, h2, h3⟩, y, us, rfl, h4, h5⟩ := r
  have h4' : y = c := h4
  have h5' : us = [] := h5
  subst h4' h5'
  exact ⟨y, cv, b, dd, zs, rfl, hc, hk, rfl, hW.same _ _ h1, hK _ w _ S H k (Same.refl _) hW rfl⟩
end
section
variable {X : Cx} {T : List (Addr × Str)} {W : WX} {χ : XD} {δ : Dn} {w : Wp} {pos : Pos}
theorem pd_xf {a dd C : Addr} {oe : Obj} {pn : List (Addr × Obj)} {e : Expr} {f : Str} {ns : List Str} {ds : List D} {κ : D → Wp → Prop} (TX : XfC X.K C) (hno : PySem.W.findIn X.K (.ref C) f = some none) (hz : Zc (.ref C) (some dd) oe) (hf : ∃ vs, oe.data = .fields vs)
    (h : PD (X.suite a ((a, oe) :: pn)) T W χ e δ w fun d w1 => d = .exc a dd ns ds ∧ ∃ u, look2 ns ds f = some u ∧ κ u w1) (hb : attributeBase e f X.env (eval e X.env) = eval e X.env := by rfl) : PD (X.suite a ((a, oe) :: pn)) T W χ (.Attribute e f pos) δ w κ := fun F σ S H Q hE hW hX hK => wp_pe (pe_xf TX hno hz hf (pe_wp e) hb) (by
  refine h F σ S H _ hE hW hX fun d w1 v S1 H1 k s1 W1 r => ?_
  obtain ⟨rfl, u, hl, k⟩ := k
  obtain ⟨ys, rfl, h1, rfl, h3⟩ := r
  obtain ⟨v, h4, h5⟩ := look2_at h3 hl
  exact ⟨rfl, rfl, dd, ys, v, rfl, W1.same _ _ h1, h4, hK u w1 v S1 H1 k s1 W1 h5⟩)
end
end DL
namespace DL
open PySem PySem.Spec PyProof.Rows L2 LamX
section
variable {P : Program} {w : PySem.World} {K : PySem.W.Frag} {mg : Str → Option Value} {base : Heap} {T : List (Addr × Str)}
/-- a def that lets no error out, its code object known -/
theorem fnDc {x qual : Str} {st : Stmt} {f : Addr} {fd : FuncData} {N ps : List Str} {k : Nat} {sp : SpD} {cdv : Value} (G : FuncC K x qual st f fd cdv) (S : FnScope N ps (defScope st)) (len : ∀ ds w κ χ, sp ds w κ χ → ds.length = ps.length)
    (body : ∀ (A : Around) (outer : List Env) (s : Shared) (H : Hp) (E : XK) (ds : List D) (w0 : Wp) (κ : D → Wp → Prop) (χ : XD), Room k (A.deeper (envOfC qual (defScope st) s.heap.objs.size f cdv)) → sp ds w0 κ χ →
      PSsD (cxOf CX0 P w K mg base N qual (defScope st) f cdv A outer s H E).nox T Wf noX (defBody st) (startD N ds) w0 { nx := fun _ w' => κ DL.N w', rt := κ }) : FnOk P w K mg base CX0 (k + 1) f fd ps (spOf K T sp) := by
  obtain ⟨oc, od, kV, doc, pm, an, ct, osl, rfl, lk, hcd⟩ := G.ex
  refine fn_of lk hcd S (fun vs H Q E h => ?_) fun A outer s H vs Q E hr h => ?_
  · obtain ⟨ds, w0, F, S0, κ, χ, h1, h2, _⟩ := h
    rw [h2.length]
    exact len _ _ _ _ h1
  · obtain ⟨ds, w0, F, S0, κ, χ, h1, h2, h3, h4, h5⟩ := h
    refine ⟨_, (pss_wp _).nox, ?_⟩
    exact body A outer s H E ds w0 κ χ hr h1 F _ S0 H _ (env_start h2) h3 exsf ⟨fun δ' w' σ' S' H' k s1 hE W1 => h4 _ w' _ S' H' k s1 W1 rfl, h4, fun _ _ _ _ _ z => z.elim, fun _ _ _ _ _ z => z.elim⟩
end
theorem takesL {X : Cx} {A : Around} {outer : List Env} {s : Shared} {H : Hp} {E : XK} {scope : Scope} {f c' : Addr} : Takes (lamCx X A outer s H E scope f c') (fun cls d _ H => E cls d H) := takes_of rfl rfl rfl rfl
theorem passL2 {X : Cx} {A : Around} {outer : List Env} {s : Shared} {H : Hp} {E : XK} {scope : Scope} {f c' : Addr} (σ : L2.St) : PassesAt (L2.CX X.prog X.w) (lamCx X A outer s H E scope f c') σ (WE (fun cls d _ H => E cls d H) σ) := passAt takesL σ
end DL
namespace Tw
open PySem PySem.Spec PyProof.Rows L2 LamX DL
theorem bt_ve : bootBuiltins "ValueError" = some (.type "ValueError") := by decide +kernel
theorem rel_ref {C : Addr} : ∀ u, RelV (V.ref C) u → u = Value.ref C := fun u h => h
theorem rel_ty {n : String} : ∀ u, RelV (V.ty n) u → u = Value.type n := fun u h => h
/-- a suite's weakest reading -/
def tsW (X : Cx) (sts : List Stmt) : TSx := fun a cls d D σ H => ∀ (oe : Obj) (pn : List (Addr × Obj)), Zc cls d oe → (∃ vs, oe.data = .fields vs) → wpSs (X.suite a ((a, oe) :: pn)) sts D σ H
theorem su_wp {X : Cx} {sts : List Stmt} (a : Addr) (oe : Obj) (cls : Value) (d : Option Addr) (pn : List (Addr × Obj)) (hz : Zc cls d oe) (hf : ∃ vs, oe.data = .fields vs) : PSs (X.suite a ((a, oe) :: pn)) sts (tsW X sts a cls d) := ⟨fun pins s _ _ _ I h => h oe pn hz hf pins s I⟩

abbrev sTold : Stmt := top 53
abbrev NTold : List Str := ["action", "tree", "saying", "e"]
theorem scTold : FnScope NTold ["action", "tree"] (defScope sTold) := ⟨rfl, rfl, rfl, by decide +kernel, rfl, by decide +kernel, by decide +kernel⟩
/-- the four errors -/
structure ErrM (K : PySem.W.Frag) (mg : Str → Option Value) (CN CG CC CT : Addr) : Prop where
  mN : mg "BadName" = some (.ref CN)
  mG : mg "BadGroup" = some (.ref CG)
  mC : mg "BadCount" = some (.ref CC)
  mT : mg "ThinwallError" = some (.ref CT)
  mV : mg "ValueError" = none
  nn : PySem.W.exmOne K (.ref CN) (.ref CN) = some true
  gn : PySem.W.exmOne K (.ref CG) (.ref CN) = some false
  gg : PySem.W.exmOne K (.ref CG) (.ref CG) = some true
  cn : PySem.W.exmOne K (.ref CC) (.ref CN) = some false
  cg : PySem.W.exmOne K (.ref CC) (.ref CG) = some false
  cc : PySem.W.exmOne K (.ref CC) (.ref CC) = some true
  eN : L2.ExcC K CN
  eG : L2.ExcC K CG
  eC : L2.ExcC K CC
  xN : XfC K CN
  xG : XfC K CG
  xC : XfC K CC
  fN : PySem.W.findIn K (.ref CN) "name" = some none
  fG : PySem.W.findIn K (.ref CG) "group" = some none
  fC : PySem.W.findIn K (.ref CC) "count" = some none
  kNT : PySem.W.kitOne K (.ref CN) (.ref CT) = some true
  kNV : PySem.W.kitOne K (.ref CN) (.type "ValueError") = some true
  kNG : PySem.W.kitOne K (.ref CN) (.ref CG) = some false
  kGT : PySem.W.kitOne K (.ref CG) (.ref CT) = some true
  kGV : PySem.W.kitOne K (.ref CG) (.type "ValueError") = some true
  kGC : PySem.W.kitOne K (.ref CG) (.ref CC) = some false
  kCT : PySem.W.kitOne K (.ref CC) (.ref CT) = some true
  kCV : PySem.W.kitOne K (.ref CC) (.type "ValueError") = some true
  kCG : PySem.W.kitOne K (.ref CC) (.ref CG) = some false
def errD (nm : Str) (x : D) : D := .lst [DL.T nm, x, B true, B true, B false]
def okD : D := .lst [DL.T "saying", B true, B true]
/-- which error it is: class, field, the law's name of it -/
def IsErr (CN CG CC C : Addr) (f nm : Str) : Prop := (C = CN ∧ f = "name" ∧ nm = "BadName") ∨ (C = CG ∧ f = "group" ∧ nm = "BadGroup") ∨ (C = CC ∧ f = "count" ∧ nm = "BadCount")
def ToldX (K : PySem.W.Frag) (T : List (Addr × Str)) (CN CG CC : Addr) (Q : VK) : XK := fun cls d H' => ∃ (C : Addr) (f nm : Str) (x : D) (w' : Wp) (S' F' : Hp) (dd : Addr), cls = .ref C ∧ d = some dd ∧ IsErr CN CG CC C f nm ∧ World K T S' w' F' H' ∧ XdR K S' dd [f] [x] ∧
  KD K T (fun d w2 => d = errD nm x ∧ w2 = w') S' F' Q
def ToldV (K : PySem.W.Frag) (T : List (Addr × Str)) (c : SC) (vt : V) (Q : VK) : V → Hp → Prop := fun v H' => ∃ (t : Tr) (w' : Wp) (S' F' : Hp), World K T S' w' F' H' ∧ Rep K S' (sayD c t) v ∧ Rep K S' (trD t) vt ∧ t.size ≤ 60 ∧ KD K T (fun d w2 => d = okD ∧ w2 = w') S' F' Q
section
variable {X : Cx} {T : List (Addr × Str)} {CN CG CC CT cS fS : Addr} {c : SC}
theorem told_body {g : Addr} {cdg : Value} {q : Str} {f c' : Addr} {vt : V} {s : Shared} {H : Hp} {Q : VK} {tl : XK → Hp → VK → Prop} (hm : Nm2 X.mg) (er : ErrM X.K X.mg CN CG CC CT) (hs : NmS X.mg c cS) (Sq : SayQ X.K c cS)
    (hA : HasF X.prog X.w X.K X.mg X.base T CX0 "_law_agrees" 62 ["saying", "tree"] (spAgr c 60)) (hr : Room 62 (X.A.deeper (envOfC "_law_told" (defScope sTold) s.heap.objs.size g cdg)))
    (act : ∀ (W : WX) (pn : List (Addr × Obj)) (xe : Value → Shared → Prop) (E : XK) (p1 p2 : Pos), Takes ((cxOf C8.CX0 X.prog X.w X.K X.mg X.base NTold "_law_told" (defScope sTold) g cdg X.A X.stack s H C8.E0).tr pn xe) W → (∀ cls d σ' H', E cls d H' → W cls d σ' H') →
      PE ((cxOf C8.CX0 X.prog X.w X.K X.mg X.base NTold "_law_told" (defScope sTold) g cdg X.A X.stack s H C8.E0).tr pn xe) (.Call (.Name "action" p1) [] [] p2) (fun σZ HZ Q => σZ[0]? = some (some (.ref f)) ∧ HZ c' = some (CodeO c' q) ∧ tl E HZ Q))
    (hc : H c' = some (CodeO c' q)) (h : tl (ToldX X.K T CN CG CC Q) H fun v H' => ToldV X.K T c vt Q v H') :
    ∃ t, PSs (cxOf C8.CX0 X.prog X.w X.K X.mg X.base NTold "_law_told" (defScope sTold) g cdg X.A X.stack s H C8.E0).nox (defBody sTold) t ∧ t { nx := fun _ H' => Q .non H', rt := Q } (L2.start NTold [.ref f, vt]) H := by
  have nd := scTold.nd
  let Z : Cx := (cxOf C8.CX0 X.prog X.w X.K X.mg X.base NTold "_law_told" (defScope sTold) g cdg X.A X.stack s H C8.E0).nox
  refine ⟨_, pss_cons (ps_try_mix (X := Z) rfl rfl nd L2.takes0 (tb := fun W D σ H1 => (∀ cls d σ' H', ToldX X.K T CN CG CC Q cls d H' → W cls d σ' H') ∧ σ[0]? = some (some (.ref f)) ∧ H1 c' = some (CodeO c' q) ∧
      tl (ToldX X.K T CN CG CC Q) H1 (fun v H' => ToldV X.K T c vt Q v H') ∧ ∀ v σ' H', σ' = σ.set 2 (some v) → ToldV X.K T c vt Q v H' → D.nx σ' H') (fun W pn xe tk _ => ?_)
    (.named (i := 3) ⟨rfl, by decide, .inl er.mN⟩ rfl rfl su_wp (.named (i := 3) ⟨rfl, by decide, .inl er.mG⟩ rfl rfl su_wp (.named (i := 3) ⟨rfl, by decide, .inl er.mC⟩ rfl rfl su_wp (.bare ⟨rfl, by decide, .inl er.mT⟩ su_wp .none))))) (pss_wp _), ?_⟩
  · refine ⟨fun pins s' σ H1 D I h' => ?_⟩
    obtain ⟨h1, h2, h3, h4, h5⟩ := h'
    have hp := fun p1 p2 p3 p4 => pss_one (ps_set (pos := p3) (pos' := p4) (i := 2) (x := "saying") nd rfl (by first | exact .inl rfl | exact .inr rfl) (act W pn xe (ToldX X.K T CN CG CC Q) p1 p2 tk h1))
    refine wpAny_mono ((hp _ _ _ _).run pins s' σ H1 { D with nx := fun σ' H' => ∃ v, σ' = σ.set 2 (some v) ∧ ToldV X.K T c vt Q v H' } I ?_) (fun fl t z => ?_) fun _ _ z => z
    · refine ⟨h2, h3, ?_⟩
      have l4 : σ.length = 4 := I.len
      have ee : (fun (v : V) (H' : Hp) => ∃ v', σ.set 2 (some v) = σ.set 2 (some v') ∧ ToldV X.K T c vt Q v' H') = fun v H' => ToldV X.K T c vt Q v H' := by
        funext v H'
        refine propext ⟨fun ⟨v', e, z⟩ => ?_, fun z => ⟨v, rfl, z⟩⟩
        have e1 : (σ.set 2 (some v))[2]? = (σ.set 2 (some v'))[2]? := by rw [e]
        rw [List.getElem?_set_self (by omega), List.getElem?_set_self (by omega)] at e1
        cases e1
        exact z
      show tl (ToldX X.K T CN CG CC Q) H1 (fun (v : V) (H' : Hp) => ∃ v', σ.set 2 (some v) = σ.set 2 (some v') ∧ ToldV X.K T c vt Q v' H')
      rw [ee]
      exact h4
    · cases fl with
      | next =>
        obtain ⟨σ', H', J, v, z1, z2⟩ := z
        exact ⟨σ', H', J, h5 v σ' H' z1 z2⟩
      | brk => exact z
      | cont => exact z
      | ret u => exact z
  · refine ⟨fun cls d σ' H' hx hl => ?_, rfl, hc, h, fun v σ' H' es hv => ?_⟩
    · obtain ⟨C, fl, nm, x, w', S', F', dd, rfl, rfl, wh, W', xr, kd⟩ := hx
      have len4 : σ'.length = 4 := hl
      have envE : ∀ a : Addr, EnvD X.K S' [none, none, none, some (.exc a dd [fl] [x])] (σ'.set 3 (some (.ref a))) := fun a => by
        refine ⟨by rw [List.length_set]; exact len4.symm, fun i d hd => ?_⟩
        match i, hd with
        | 3, hd =>
          cases hd
          obtain ⟨ys, e1, e2, e3⟩ := xr
          exact ⟨.ref a, List.getElem?_set_self (by omega), ys, rfl, e1, e2, e3⟩
        | n + 4, hd => simp at hd
      rcases wh with ⟨rfl, rfl, rfl⟩ | ⟨rfl, rfl, rfl⟩ | ⟨rfl, rfl, rfl⟩
      · refine ⟨true, er.nn, fun _ a na oe pn hz hf => ?_, (fun z => by cases z)⟩
        refine (?_ : PSsD (Z.suite a ((a, oe) :: pn)) T Wf noX _ [none, none, none, some (.exc a dd ["name"] [x])] w' { nx := fun _ _ => False, rt := fun d w2 => d = errD "BadName" x ∧ w2 = w' }) F' _ S' H' _ (envE a) W' exsf ⟨fun _ _ _ _ _ z => z.elim, kd, fun _ _ _ _ _ z => z.elim, fun _ _ _ _ _ z => z.elim⟩
        refine pssd_one (psd_ret ?_)
        refine pd_lst ?_
        refine pad_cons (pd_str ?_)
        refine pad_cons ?_
        refine pd_xf (ns := ["name"]) (ds := [x]) er.xN er.fN hz hf ?_
        refine pd_var (i := 3) rfl rfl ?_
        refine ⟨rfl, x, rfl, ?_⟩
        (refine pad_cons ?_; refine pd_callB (call_isX er.eN hz hf) rfl hm.isinstance PyProof.Rows.boot_isinstance ?_; refine pad_cons ?_; refine pd_var (i := 3) rfl rfl ?_; refine pad_cons ?_; refine (pd_glob (v := .ref CT) (by exact er.mT) rfl) ?_; refine pad_nil ?_; refine va_isX (by first | exact rel_ref | exact rel_ty) er.kNT ?_)
        (refine pad_cons ?_; refine pd_callB (call_isX er.eN hz hf) rfl hm.isinstance PyProof.Rows.boot_isinstance ?_; refine pad_cons ?_; refine pd_var (i := 3) rfl rfl ?_; refine pad_cons ?_; refine (pd_bltn (v := .ty "ValueError") (by exact er.mV) bt_ve rfl) ?_; refine pad_nil ?_; refine va_isX (by first | exact rel_ref | exact rel_ty) er.kNV ?_)
        (refine pad_cons ?_; refine pd_callB (call_isX er.eN hz hf) rfl hm.isinstance PyProof.Rows.boot_isinstance ?_; refine pad_cons ?_; refine pd_var (i := 3) rfl rfl ?_; refine pad_cons ?_; refine (pd_glob (v := .ref CG) (by exact er.mG) rfl) ?_; refine pad_nil ?_; refine va_isX (by first | exact rel_ref | exact rel_ty) er.kNG ?_)
        exact pad_nil ⟨by show 5 ≤ sizeLine; decide, rfl, rfl⟩
      · refine ⟨false, er.gn, (fun z => by cases z), fun _ => ?_⟩
        refine ⟨true, er.gg, fun _ a na oe pn hz hf => ?_, (fun z => by cases z)⟩
        refine (?_ : PSsD (Z.suite a ((a, oe) :: pn)) T Wf noX _ [none, none, none, some (.exc a dd ["group"] [x])] w' { nx := fun _ _ => False, rt := fun d w2 => d = errD "BadGroup" x ∧ w2 = w' }) F' _ S' H' _ (envE a) W' exsf ⟨fun _ _ _ _ _ z => z.elim, kd, fun _ _ _ _ _ z => z.elim, fun _ _ _ _ _ z => z.elim⟩
        refine pssd_one (psd_ret ?_)
        refine pd_lst ?_
        refine pad_cons (pd_str ?_)
        refine pad_cons ?_
        refine pd_xf (ns := ["group"]) (ds := [x]) er.xG er.fG hz hf ?_
        refine pd_var (i := 3) rfl rfl ?_
        refine ⟨rfl, x, rfl, ?_⟩
        (refine pad_cons ?_; refine pd_callB (call_isX er.eG hz hf) rfl hm.isinstance PyProof.Rows.boot_isinstance ?_; refine pad_cons ?_; refine pd_var (i := 3) rfl rfl ?_; refine pad_cons ?_; refine (pd_glob (v := .ref CT) (by exact er.mT) rfl) ?_; refine pad_nil ?_; refine va_isX (by first | exact rel_ref | exact rel_ty) er.kGT ?_)
        (refine pad_cons ?_; refine pd_callB (call_isX er.eG hz hf) rfl hm.isinstance PyProof.Rows.boot_isinstance ?_; refine pad_cons ?_; refine pd_var (i := 3) rfl rfl ?_; refine pad_cons ?_; refine (pd_bltn (v := .ty "ValueError") (by exact er.mV) bt_ve rfl) ?_; refine pad_nil ?_; refine va_isX (by first | exact rel_ref | exact rel_ty) er.kGV ?_)
        (refine pad_cons ?_; refine pd_callB (call_isX er.eG hz hf) rfl hm.isinstance PyProof.Rows.boot_isinstance ?_; refine pad_cons ?_; refine pd_var (i := 3) rfl rfl ?_; refine pad_cons ?_; refine (pd_glob (v := .ref CC) (by exact er.mC) rfl) ?_; refine pad_nil ?_; refine va_isX (by first | exact rel_ref | exact rel_ty) er.kGC ?_)
        exact pad_nil ⟨by show 5 ≤ sizeLine; decide, rfl, rfl⟩
      · refine ⟨false, er.cn, (fun z => by cases z), fun _ => ?_⟩
        refine ⟨false, er.cg, (fun z => by cases z), fun _ => ?_⟩
        refine ⟨true, er.cc, fun _ a na oe pn hz hf => ?_, (fun z => by cases z)⟩
        refine (?_ : PSsD (Z.suite a ((a, oe) :: pn)) T Wf noX _ [none, none, none, some (.exc a dd ["count"] [x])] w' { nx := fun _ _ => False, rt := fun d w2 => d = errD "BadCount" x ∧ w2 = w' }) F' _ S' H' _ (envE a) W' exsf ⟨fun _ _ _ _ _ z => z.elim, kd, fun _ _ _ _ _ z => z.elim, fun _ _ _ _ _ z => z.elim⟩
        refine pssd_one (psd_ret ?_)
        refine pd_lst ?_
        refine pad_cons (pd_str ?_)
        refine pad_cons ?_
        refine pd_xf (ns := ["count"]) (ds := [x]) er.xC er.fC hz hf ?_
        refine pd_var (i := 3) rfl rfl ?_
        refine ⟨rfl, x, rfl, ?_⟩
        (refine pad_cons ?_; refine pd_callB (call_isX er.eC hz hf) rfl hm.isinstance PyProof.Rows.boot_isinstance ?_; refine pad_cons ?_; refine pd_var (i := 3) rfl rfl ?_; refine pad_cons ?_; refine (pd_glob (v := .ref CT) (by exact er.mT) rfl) ?_; refine pad_nil ?_; refine va_isX (by first | exact rel_ref | exact rel_ty) er.kCT ?_)
        (refine pad_cons ?_; refine pd_callB (call_isX er.eC hz hf) rfl hm.isinstance PyProof.Rows.boot_isinstance ?_; refine pad_cons ?_; refine pd_var (i := 3) rfl rfl ?_; refine pad_cons ?_; refine (pd_bltn (v := .ty "ValueError") (by exact er.mV) bt_ve rfl) ?_; refine pad_nil ?_; refine va_isX (by first | exact rel_ref | exact rel_ty) er.kCV ?_)
        (refine pad_cons ?_; refine pd_callB (call_isX er.eC hz hf) rfl hm.isinstance PyProof.Rows.boot_isinstance ?_; refine pad_cons ?_; refine pd_var (i := 3) rfl rfl ?_; refine pad_cons ?_; refine (pd_glob (v := .ref CG) (by exact er.mG) rfl) ?_; refine pad_nil ?_; refine va_isX (by first | exact rel_ref | exact rel_ty) er.kCG ?_)
        exact pad_nil ⟨by show 5 ≤ sizeLine; decide, rfl, rfl⟩
    · obtain ⟨t, w', S', F', W', r1, r2, ht, kd⟩ := hv
      subst es
      have env0 : EnvD X.K S' [some (R f), some (trD t), some (sayD c t), none] ((L2.start NTold [.ref f, vt]).set 2 (some v)) := (env_start (N := NTold) (ds := [R f, trD t]) ⟨.ref f, [vt], rfl, rfl, vt, [], rfl, r2, rfl⟩).set 2 r1
      refine (?_ : PSsD Z T Wf noX _ [some (R f), some (trD t), some (sayD c t), none] w' { nx := fun _ _ => False, rt := fun d w2 => d = okD ∧ w2 = w' }) F' _ S' H' _ env0 W' exsf ⟨fun _ _ _ _ _ z => z.elim, kd, fun _ _ _ _ _ z => z.elim, fun _ _ _ _ _ z => z.elim⟩
      refine pssd_one (psd_ret ?_)
      refine pd_lst ?_
      refine pad_cons (pd_str ?_)
      refine pad_cons ?_
      refine pd_has hA hr (fun _ => pass0At) ?_
      (refine pad_cons ?_; refine pd_var (i := 2) rfl rfl ?_)
      (refine pad_cons ?_; refine pd_var (i := 1) rfl rfl ?_)
      refine pad_nil ⟨t, rfl, ht, ?_⟩
      refine pad_cons ?_
      refine pd_callB call_isi rfl hm.isinstance PyProof.Rows.boot_isinstance ?_
      (refine pad_cons ?_; refine pd_var (i := 2) rfl rfl ?_)
      refine pad_cons ?_
      refine pd_glob (v := .ref cS) hs.mS rfl ?_
      refine pad_nil ?_
      refine va_isC (say_ty Sq _) (Sq.base _) ?_
      exact pad_nil ⟨by show 3 ≤ sizeLine; decide, rfl, rfl⟩
end
end Tw

set_option Elab.async false
set_option linter.all false
set_option maxRecDepth 100000
set_option maxHeartbeats 2000000
/-! _law_told(lambda: body, e). -/
namespace Tw
open PySem PySem.Spec PyProof.Rows L2 LamX DL
def XTold (CN CG CC : Addr) (κ : D → Wp → Prop) : XD := fun C ns ds w1 => ∃ (f nm : Str) (x : D), IsErr CN CG CC C f nm ∧ ns = [f] ∧ ds = [x] ∧ κ (errD nm x) w1
/-- _law_told stands -/
structure ToldOk (K : PySem.W.Frag) (mg : Str → Option Value) : Prop where
  ex : ∃ g fd, Fun K "_law_told" "_law_told" sTold g fd ∧ mg "_law_told" = some (.ref g) ∧ L2.Binds K fd ["action", "tree"] []
section
variable {X : Cx} {T : List (Addr × Str)} {W : WX} {χ : XD} {δ : Dn} {w : Wp} {pos : Pos} {CN CG CC CT cS : Addr} {c : SC}
theorem pd_told {k : Nat} {params : Arguments} {body : Expr} {scope : Scope} {e : Expr} {p lpos : Pos} {κ : D → Wp → Prop} (hm : Nm2 X.mg) (er : ErrM X.K X.mg CN CG CC CT) (hs : NmS X.mg c cS) (Sq : SayQ X.K c cS)
    (hA : HasF X.prog X.w X.K X.mg X.base T CX0 "_law_agrees" 62 ["saying", "tree"] (spAgr c 60)) (G : ToldOk X.K X.mg) (LM : LamM X T) (hr : Room (k + 2) X.A) (L : LamS X.env.scope scope)
    (h : PD X T W χ e δ w fun d w1 => ∃ t : Tr, d = trD t ∧ t.size ≤ 60 ∧ ∀ (A : Around) (outer : List Env) (s : Shared) (H : Hp) (E : XK) (f c' : Addr), Room k (A.deeper (lamEnv X scope s.heap.objs.size f c')) →
      PD (lamCx X A outer s H E scope f c') T (fun cls d _ H => E cls d H) (XTold CN CG CC κ) body δ w1 fun d2 w2 => d2 = sayD c t ∧ κ okD w2)
    (hk : 62 ≤ k + 1 := by decide) (hst : X.stack = X.env :: X.outer := by rfl) (hfrm : X.env.frame = some X.env.locals := by rfl)
    (hg : Gl X "_law_told" := by rfl) (hdef : defaultsOf params X.env = ([], []) := by rfl)
    (hbind : ∀ (q : Str) (cl : List (Str × Addr)) (pm cv ctv : Value), bindArgs (PySem.W.kla_fn "<lambda>" q params body scope cl pm cv ctv) ⟨[], []⟩ = pure [] := by intros; rfl)
    (he : starEach [.Lambda params body scope lpos, e] X.env = [(false, eval (.Lambda params body scope lpos) X.env), (false, eval e X.env)] := by rfl) (he2 : starEach [e] X.env = [(false, eval e X.env)] := by rfl) :
    PD X T W χ (.Call (.Name "_law_told" p) [.Lambda params body scope lpos, e] [] pos) δ w κ := fun F σ S H Q hE hW hX hK => by
  obtain ⟨c0, Pt, TB, hcode, hmT, hu⟩ := LM.ex
  obtain ⟨g, fd, ⟨⟨oc, od, kV, doc, pm, an, cdv, ct, osl, rfl, lk, hcd⟩, kp⟩, hmg, hb⟩ := G.ex
  intro pins s I
  refine wpAny_Call_Name_kw (ld_glob I hg hmg ?_ (by decide))
  refine PySem.W.callWith_K (h₀ := X.base) I.ok.mod.kin kp ?_ (by rw [he, he2]) (by rw [he2]; rfl)
  rw [he]
  show wpAny _ _ (spliced [(false, eval (.Lambda params body scope lpos) X.env), (false, eval e X.env)]) _ _ s
  refine Calls.spliced_cons (lam_make2 I TB hcode hmT hu hW.tabs hdef (L.has I.ok) fun f c' pm' ctv H1 s1 I1 eN T1 hf hfn hfr hco => ?_)
  obtain ⟨S1, sS, hc1, W1⟩ := (hW.more eN T1).code hco
  have hfr' : f ∉ X.env.locals :: X.fs := by
    have e1 : frs X.stack = X.env.locals :: X.fs := by
      rw [hst]
      show List.filterMap _ (X.env :: X.outer) = _
      rw [List.filterMap_cons]
      rw [hfrm]
      rfl
    rw [← e1]
    exact hfr
  have Ip : Inv X ((f, PySem.W.kla_obj "<lambda>" (X.env.qual ++ "<lambda>") params body scope (cloFrom X.env.cells scope.names []) pm' c' ctv) :: pins) σ H1 s1 := I1.pins_of fun q hq => by
    rcases List.mem_cons.mp hq with rfl | hq
    · exact ⟨hf, hfn, fun z => hfr' (List.mem_cons.mpr (.inl z)), fun z => hfr' (List.mem_cons_of_mem _ z), fun v z => by cases z⟩
    · exact I1.pin q (List.mem_append_right _ hq)
  refine Calls.spliced_cons (thn ((pe_wp e).run _ s1 σ H1 (fun v H2 => ∃ d w1 S2, (∃ t : Tr, d = trD t ∧ t.size ≤ 60 ∧ ∀ (A : Around) (outer : List Env) (s : Shared) (H : Hp) (E : XK) (f c' : Addr), Room k (A.deeper (lamEnv X scope s.heap.objs.size f c')) →
      PD (lamCx X A outer s H E scope f c') T (fun cls d _ H => E cls d H) (XTold CN CG CC κ) body δ w1 fun d2 w2 => d2 = sayD c t ∧ κ okD w2) ∧ Same S1 S2 ∧ World X.K T S2 w1 F H2 ∧ Rep X.K S2 d v) Ip
    (h F σ S1 H1 _ (hE.mono sS) W1 (hX.mono sS) fun d w1 v S2 H2 k1 s2 W2 r2 => ⟨d, w1, S2, k1, s2, W2, r2⟩)) fun u s2 ⟨v, H2, I2, r, d, w1, S2, ⟨t, hd, ht, hB⟩, ss2, W2, r2⟩ => ?_)
  subst hd
  have I3 : Inv X pins σ H2 s2 := I2.pins_of fun q hq => I2.pin q (List.mem_append_right _ (List.mem_cons_of_mem _ hq))
  obtain ⟨hf2, hfn2, _⟩ := I2.pin (f, _) (List.mem_append_right _ List.mem_cons_self)
  have hc2 : H2 c' = some (CodeO c' (X.env.qual ++ "<lambda>")) := W2.same _ _ (ss2 _ _ hc1)
  refine Calls.spliced_nil ⟨I3.kIn, ?_⟩
  have rc : codeAny (model X.prog X.w) X.A (.call (.ref g) ⟨[.ref f, u], []⟩) (CR C8.CX0 X.stack X.prog X.w H2 s2 Q C8.E0) s2 := by
    refine run_ofS (N := NTold) (ps := ["action", "tree"]) (us := [.ref f, u]) (vs := [.ref f, v]) lk hcd scTold hr I3.env0 (hb s2 [.ref f, u] I3.kIn rfl) (.cons rfl (.cons r .nil)) rfl fun hr' => ?_
    have key : ∀ (A : Around) (outer : List Env) (s0 : Shared) (H0 : Hp) (f0 c0 : Addr), Room k (A.deeper (lamEnv X scope s0.heap.objs.size f0 c0)) → wpE (lamCx X A outer s0 H0 (ToldX X.K T CN CG CC Q) scope f0 c0) body σ H2 (fun v' H' => ToldV X.K T c v Q v' H') := by
      intro A outer s0 H0 f0 c0 hr0
      refine hB A outer s0 H0 _ f0 c0 hr0 F σ S2 H2 _ (hE.mono (sS.trans ss2)) W2 ?_ ?_
      · rintro C ns ds w' d S' H' ⟨fl, nm, x, wh, rfl, rfl, kk⟩ s3 W3 xr
        refine ⟨C, fl, nm, x, w', S', F, d, rfl, rfl, wh, W3, xr, ?_⟩
        rintro d2 w2 v2 S4 H4 ⟨rfl, rfl⟩ s4 W4 r4
        exact hK _ _ v2 S4 H4 kk (sS.trans (ss2.trans (s3.trans s4))) W4 r4
      · rintro d w' v' S' H' ⟨rfl, kk⟩ s3 W3 r3
        refine ⟨t, w', S', F, W3, r3, r2.mono s3, ht, ?_⟩
        rintro d2 w2 v2 S4 H4 ⟨rfl, rfl⟩ s4 W4 r4
        exact hK _ _ v2 S4 H4 kk (sS.trans (ss2.trans (s3.trans s4))) W4 r4
    obtain ⟨t', ht', hq'⟩ := told_body (c := c) (cS := cS) (tl := fun E H' Q' => ∀ (A : Around) (outer : List Env) (s0 : Shared) (H0 : Hp) (f c' : Addr), Room k (A.deeper (lamEnv X scope s0.heap.objs.size f c')) → wpE (lamCx X A outer s0 H0 E scope f c') body σ H' Q') (vt := v) (Q := Q) hm er hs Sq hA (hr'.mono hk)
      (fun W pn xe E p1 p2 tk hW => pe_act (i := 0) (tb := fun σ' H' Q' => ∀ (A : Around) (outer : List Env) (s0 : Shared) (H0 : Hp) (f c' : Addr), Room k (A.deeper (lamEnv X scope s0.heap.objs.size f c')) → wpE (lamCx X A outer s0 H0 E scope f c') body σ' H' Q') I3 L hf2 hfn2 hfr (hbind _ _ _ _ _) tk hW hr' (fun A outer s H hr2 => ⟨fun pins3 s3 σ3 H3 Q3 I h => h A outer s H f c' hr2 pins3 s3 I⟩) rfl (by first | exact Or.inl rfl | exact Or.inr (Or.inl rfl) | exact Or.inr (Or.inr rfl))) hc2 key
    exact ⟨t', ht'.nox, hq'⟩
  refine wpAny_call (codeAny_mono rc fun r s3 hq => ?_)
  cases r with
  | error e => exact (show False from hq).elim
  | ok fl =>
    cases fl with
    | ret u => exact I3.after hq
    | next => exact False.elim hq
    | brk => exact False.elim hq
    | cont => exact False.elim hq
end
end Tw

set_option Elab.async false
set_option linter.all false
set_option maxRecDepth 100000
set_option maxHeartbeats 4000000
/-! The law's _law_doors. -/
namespace DL
open PySem PySem.Spec PyProof.Rows L2 LamX
/-- xs + ys, owned -/
theorem vr_catO {K : PySem.W.Frag} {T : List (Addr × Str)} {w : Wp} {κ : D → Wp → Prop} {ds es : List D} (hz : ds.length + es.length ≤ sizeLine) (k : ∀ a, w a = none → κ (R a) (wu w a (.lst (ds ++ es)))) : VR2 K T rCat (.lst ds) (.lst es) w κ := fun F S H x y Q hW r1 r2 hK => by
  obtain ⟨a, xs, rfl, h1, h2⟩ := r1
  obtain ⟨b, ys, rfl, h3, h4⟩ := r2
  refine ⟨a, b, xs, ys, rfl, rfl, hW.same _ _ h1, hW.same _ _ h3, by rw [h2.length, h4.length]; exact hz, fun p hp => ?_⟩
  exact hK _ _ _ S _ (k p (hW.free hp).2.1) (Same.refl _) (hW.take hp ⟨xs ++ ys, rfl, h2.app h4⟩) rfl
end DL
namespace Tw
open PySem PySem.Spec PyProof.Rows L2 LamX DL
abbrev sDoors : Stmt := top 54
abbrev NDoors : List Str := ["bag", "saying", "tree", "text", "people", "count", "right", "due", "bad", "deep", "told"]
def spDoors (c : SC) : SpD := fun ds w κ χ => ∃ (a r : Addr) (b : Bag) (t : Tr), ds = [R a, sayD c t, trD t] ∧ BagAt w a r b ∧ TrOk t ∧ t.size ≤ 40 ∧ ∀ b' : Bag, κ (B true) (bagPut w a r b')
theorem okc_of {s : Str} (h1 : s.length ≤ 20) (h2 : Oks s) : Okc s := ⟨by omega, h2⟩
theorem sm_ok : Sm 2 okD okD := .lst rfl (by decide) fun i x y h1 h2 => by
  match i, h1, h2 with
  | 0, h1, h2 => cases h1; cases h2; exact .str _
  | 1, h1, h2 => cases h1; cases h2; exact .bl _
  | 2, h1, h2 => cases h1; cases h2; exact .bl _
  | n + 3, h1, h2 => cases h1
theorem sm_err {nm : Str} {v : V} (h : Sm 1 (.val v) (.val v)) : Sm 2 (errD nm (.val v)) (errD nm (.val v)) := .lst rfl (by show 5 ≤ sizeLine; decide) fun i x y h1 h2 => by
  match i, h1, h2 with
  | 0, h1, h2 => cases h1; cases h2; exact .str _
  | 1, h1, h2 => cases h1; cases h2; exact h
  | 2, h1, h2 => cases h1; cases h2; exact .bl _
  | 3, h1, h2 => cases h1; cases h2; exact .bl _
  | 4, h1, h2 => cases h1; cases h2; exact .bl _
  | n + 5, h1, h2 => cases h1
def dNm (x : Str) : D := if nameB x = true then okD else errD "BadName" (DL.T x)
def dGr (g : Str) : D := if groupB g = true then okD else errD "BadGroup" (DL.T g)
def inR (n : Int) : Bool := decide (0 ≤ n) && decide (n ≤ 12)
def dCn (g : Str) (n : Int) : D := if (groupB g && !inR n) = true then errD "BadCount" (I n) else dGr g
def reach (n : Int) : Nat := if inR n = true then n.toNat else 0
theorem sm_nm (x : Str) : Sm 2 (dNm x) (dNm x) := by
  unfold dNm
  split
  · exact sm_ok
  · exact sm_err (.str _)
theorem sm_gr (x : Str) : Sm 2 (dGr x) (dGr x) := by
  unfold dGr
  split
  · exact sm_ok
  · exact sm_err (.str _)
theorem sm_cn (g : Str) (n : Int) : Sm 2 (dCn g n) (dCn g n) := by
  unfold dCn
  split
  · exact sm_err (.int _)
  · exact sm_gr g
theorem reach_le (n : Int) : reach n ≤ 12 := by
  unfold reach
  split
  · next h =>
    obtain ⟨h1, h2⟩ := (Bool.and_eq_true _ _).mp h
    have := of_decide_eq_true h2
    omega
  · exact Nat.zero_le _
theorem reach_in {n : Int} (h : inR n = true) : n = (reach n : Int) := by
  unfold reach
  rw [if_pos h]
  have := of_decide_eq_true ((Bool.and_eq_true _ _).mp h).1
  omega
theorem not_in {n : Int} (h : inR n = false) : n < 0 ∨ 12 < n := by
  unfold inR at h
  by_cases h1 : 0 ≤ n
  · by_cases h2 : n ≤ 12
    · rw [decide_eq_true h1, decide_eq_true h2] at h
      cases h
    · exact .inr (by omega)
  · exact .inl (by omega)
/-- the doors: what the law needs of the program -/
structure DoorsK (P : Program) (w : PySem.World) (K : PySem.W.Frag) (mg : Str → Option Value) (base : Heap) (T : List (Addr × Str)) (c : SC) (CN CG CC : Addr) : Prop where
  fa : HasMk P w K mg base T (L2.CX P w) "Fact" c.cF 3 ["self", "name"] (spIF c CN)
  kn : HasMk P w K mg base T (L2.CX P w) "Knows" c.cK 5 ["self", "group", "inner"] (spIM c .kn CG)
  wh : HasMk P w K mg base T (L2.CX P w) "Whether" c.cW 5 ["self", "group", "inner"] (spIM c .wh CG)
  co : HasMk P w K mg base T (L2.CX P w) "Common" c.cC 5 ["self", "group", "inner"] (spIM c .co CG)
  ne : HasF P w K mg base T (L2.CX P w) "nested" 7 ["group", "saying", "count"] (spNested c CG CC)
section
variable {P : Program} {w : PySem.World} {K : PySem.W.Frag} {mg : Str → Option Value} {base : Heap} {T : List (Addr × Str)} {c : SC} {cS fS CG CC CN CT : Addr}
theorem scDoors : FnScope NDoors ["bag", "saying", "tree"] (defScope sDoors) := ⟨rfl, rfl, rfl, by decide +kernel, rfl, by decide +kernel, by decide +kernel⟩
theorem ok_doors {f : Addr} {fd : FuncData} {cdv : Value} (G : FuncC K "_law_doors" "_law_doors" sDoors f fd cdv) (hm : Nm2 mg) (hs : NmS mg c cS) (Q : SayQ K c cS) (er : ErrM K mg CN CG CC CT) (tOk : ToldOk K mg) (Z : DoorsK P w K mg base T c CN CG CC)
    (lam : ∃ cc Pt, TabB base mg cc Pt ∧ cdv = .ref cc ∧ (Pt, (("_law_doors" : Str) ++ ".<locals>.") ++ "<lambda>") ∈ T ∧ ∀ p ∈ T, p.1 = Pt → p.2 = (("_law_doors" : Str) ++ ".<locals>.") ++ "<lambda>")
    (hS : ∀ n, HasF P w K mg base T CX0 "_law_same" (n + 1) ["actual", "due"] (spSame n)) (hA : HasF P w K mg base T CX0 "_law_agrees" 62 ["saying", "tree"] (spAgr c 60)) (hBn : HasF P w K mg base T CX0 "_law_bent_name" 4 ["bag"] spBent) (hBg : HasF P w K mg base T CX0 "_law_bent_group" 3 ["bag"] spBent)
    (hC : HasF P w K mg base T CX0 "_law_count" 2 ["bag"] spCnt) (hN : HasF P w K mg base T CX0 "_law_is_name" 1 ["text"] spLisN) (hG : HasF P w K mg base T CX0 "_law_is_group" 1 ["text"] spLisG) (hNs : HasF P w K mg base T CX0 "_law_nested" 1 ["tree", "group", "count"] spNst) :
    FnOk P w K mg base CX0 64 f fd ["bag", "saying", "tree"] (spOf K T (spDoors c)) := by
  refine fnDc G scDoors (fun ds w κ χ h => ?_) (fun A outer s H E ds w0 κ χ hr h => ?_)
  · obtain ⟨a, r, b, t, rfl, _⟩ := h
    rfl
  obtain ⟨a, r, b, t, rfl, hb, ht, hz, k⟩ := h
  have nd := scDoors.nd
  have ne := hb.ne
  have hB : ∀ b, BagAt (bagPut w0 a r b) a r b := fun b => bag_put ne
  have pp : ∀ b b', bagPut (bagPut w0 a r b) a r b' = bagPut w0 a r b' := fun b b' => bag_put2 ne
  have LM : LamM (cxOf CX0 P w K mg base NDoors "_law_doors" (defScope sDoors) f cdv A outer s H E).nox T := by
    obtain ⟨cc, Pt, h1, h2, h3, h4⟩ := lam
    exact ⟨cc, Pt, h1, h2, h3, h4⟩
  refine pssd_cons (psd_set (i := 3) nd rfl ?_)
  refine pd_has hBn (hr.mono (by decide)) (fun _ => pass0At) ?_
  (refine pad_cons ?_; refine pd_var (i := 0) rfl rfl ?_)
  refine pad_nil ⟨a, r, b, rfl, hb, fun x b1 x20 xo => ?_⟩
  refine pssd_cons (psd_set (i := 4) nd rfl ?_)
  refine pd_has hBg (hr.mono (by decide)) (fun _ => pass0At) ?_
  (refine pad_cons ?_; refine pd_var (i := 0) rfl rfl ?_)
  refine pad_nil ⟨a, r, b1, rfl, hB b1, fun g b2 g20 go => ?_⟩
  rw [pp]
  refine pssd_cons (psd_set (i := 5) nd rfl ?_)
  refine pd_has hC (hr.mono (by decide)) (fun _ => pass0At) ?_
  (refine pad_cons ?_; refine pd_var (i := 0) rfl rfl ?_)
  refine pad_nil ⟨a, r, b2, rfl, hB b2, fun n b3 nl => ?_⟩
  rw [pp]
  have xc := okc_of x20 xo
  have gc := okc_of g20 go
  have kk := k b3
  refine pssd_cons (psd_set (i := 6) nd rfl ?_)
  refine pd_lst ?_
  refine pad_cons (pd_str ?_)
  refine pad_cons (pd_bl ?_)
  refine pad_cons (pd_bl ?_)
  refine pad_nil ⟨by show 3 ≤ sizeLine; decide, ?_⟩
  generalize bagPut w0 a r b3 = wB at kk ⊢
  refine pssd_cons (psd_cut (fun δ' w' => δ' = [some (R a), some (sayD c t), some (trD t), some (DL.T x), some (DL.T g), some (I n), some okD, some (.lst [dNm x]), none, none, none] ∧ w' = wB) ?_ ?_)
  · refine psd_set (i := 7) nd rfl ?_
    refine pd_lst ?_
    refine pad_cons ?_
    refine pd_if ?_
    refine ptd_val ?_
    refine pd_has hN (hr.mono (by decide)) (fun _ => pass0At) ?_
    (refine pad_cons ?_; refine pd_var (i := 3) rfl rfl ?_)
    refine pad_nil ⟨x, rfl, xc, ?_⟩
    refine ⟨_, rfl, ?_⟩
    unfold dNm
    cases q : nameB x with
    | true =>
      refine iteT ?_
      refine pd_var (i := 6) rfl rfl ?_
      exact pad_nil ⟨by show 1 ≤ sizeLine; decide, rfl, rfl⟩
    | false =>
      refine iteF ?_
      refine pd_lst ?_
      refine pad_cons (pd_str ?_)
      (refine pad_cons ?_; refine pd_var (i := 3) rfl rfl ?_)
      refine pad_cons (pd_bl ?_)
      refine pad_cons (pd_bl ?_)
      refine pad_cons (pd_bl ?_)
      refine pad_nil ⟨by show 5 ≤ sizeLine; decide, ?_⟩
      exact pad_nil ⟨by show 1 ≤ sizeLine; decide, rfl, rfl⟩
  rintro δ' w' ⟨rfl, rfl⟩
  refine pssd_cons (psd_set (i := 8) nd rfl ?_)
  refine pd_lst ?_
  refine pad_cons (pd_str ?_)
  (refine pad_cons ?_; refine pd_var (i := 4) rfl rfl ?_)
  refine pad_cons (pd_bl ?_)
  refine pad_cons (pd_bl ?_)
  refine pad_cons (pd_bl ?_)
  refine pad_nil ⟨by show 5 ≤ sizeLine; decide, ?_⟩
  refine pssd_cons (psd_cut (fun δ' w2 => δ' = [some (R a), some (sayD c t), some (trD t), some (DL.T x), some (DL.T g), some (I n), some okD, some (.lst [dNm x]), some (dGr g), none, none] ∧ w2 = w') ?_ ?_)
  · refine psd_if ?_
    refine ptd_val ?_
    refine pd_has hG (hr.mono (by decide)) (fun _ => pass0At) ?_
    (refine pad_cons ?_; refine pd_var (i := 4) rfl rfl ?_)
    refine pad_nil ⟨g, rfl, gc, ?_⟩
    refine ⟨_, rfl, ?_⟩
    unfold dGr
    cases q : groupB g with
    | true =>
      refine iteT ?_
      refine pssd_one (psd_set (i := 8) nd rfl ?_)
      refine pd_var (i := 6) rfl rfl ?_
      exact ⟨rfl, rfl⟩
    | false =>
      refine iteF ?_
      exact pssd_nil ⟨rfl, rfl⟩
  rintro δ' w2 ⟨rfl, rfl⟩
  refine pssd_cons (psd_set (i := 7) nd rfl ?_)
  refine pd_op op_cat ?_
  refine pd_var (i := 7) rfl rfl ?_
  refine pd_lst ?_
  (refine pad_cons ?_; refine pd_var (i := 8) rfl rfl ?_)
  (refine pad_cons ?_; refine pd_var (i := 8) rfl rfl ?_)
  (refine pad_cons ?_; refine pd_var (i := 8) rfl rfl ?_)
  refine pad_nil ⟨by show 3 ≤ sizeLine; decide, ?_⟩
  refine vr_catO (by show 4 ≤ sizeLine; decide) fun p1 np1 => ?_
  refine pssd_cons (psd_cut (fun δ' w3 => δ' = [some (R a), some (sayD c t), some (trD t), some (DL.T x), some (DL.T g), some (I n), some okD, some (R p1), some (dCn g n), none, none] ∧ w3 = wu w2 p1 (.lst [dNm x, dGr g, dGr g, dGr g])) ?_ ?_)
  · refine psd_if ?_
    refine pwd_pt ?_
    refine pwd_and ?_
    refine ptd_val ?_
    refine pd_has hG (hr.mono (by decide)) (fun _ => pass0At) ?_
    (refine pad_cons ?_; refine pd_var (i := 4) rfl rfl ?_)
    refine pad_nil ⟨g, rfl, gc, ?_⟩
    refine ⟨_, rfl, ?_⟩
    unfold dCn
    cases q : groupB g with
    | false =>
      refine iteF ?_
      refine iteF ?_
      exact pssd_nil ⟨rfl, rfl⟩
    | true =>
      refine iteT ?_
      refine pwd_and1 ?_
      refine ptd_not ?_
      (refine ptd_chain op_le op_le ?_; refine pd_int ?_; refine pd_var (i := 5) rfl rfl ?_; refine vr_I ⟨_, rfl, ?_⟩)
      have no : PSsD (cxOf CX0 P w K mg base NDoors "_law_doors" (defScope sDoors) f cdv A outer s H E).nox T Wf noX (match (defBody sDoors).getD 8 (.Pass ⟨0, 0, 0, 0⟩) with | .If _ b _ _ => b | _ => []) [some (R a), some (sayD c t), some (trD t), some (DL.T x), some (DL.T g), some (I n), some okD, some (R p1), some (dGr g), none, none] (wu w2 p1 (.lst [dNm x, dGr g, dGr g, dGr g]))
          { nx := fun δ' w3 => δ' = [some (R a), some (sayD c t), some (trD t), some (DL.T x), some (DL.T g), some (I n), some okD, some (R p1), some (errD "BadCount" (I n)), none, none] ∧ w3 = wu w2 p1 (.lst [dNm x, dGr g, dGr g, dGr g]), rt := κ } := by
        refine pssd_one (psd_set (i := 8) nd rfl ?_)
        refine pd_lst ?_
        refine pad_cons (pd_str ?_)
        (refine pad_cons ?_; refine pd_var (i := 5) rfl rfl ?_)
        refine pad_cons (pd_bl ?_)
        refine pad_cons (pd_bl ?_)
        refine pad_cons (pd_bl ?_)
        exact pad_nil ⟨by show 5 ≤ sizeLine; decide, rfl, rfl⟩
      unfold inR
      cases q1 : decide ((0 : Int) ≤ n) with
      | false =>
        refine iteF ?_
        refine iteT ?_
        exact no
      | true =>
        refine iteT ?_
        refine pd_int ?_
        refine vr_I ⟨_, rfl, ?_⟩
        cases q2 : decide (n ≤ (12 : Int)) with
        | false =>
          refine iteT ?_
          exact no
        | true =>
          refine iteF ?_
          exact pssd_nil ⟨rfl, rfl⟩
  rintro δ' w3 ⟨rfl, rfl⟩
  refine pssd_cons (psd_expr ?_)
  refine pd_bm PySem.F.plainAttrs_list PySem.F.slot_list_append PySem.F.type_list_append mt_append ?_
  refine pd_var (i := 7) rfl rfl ?_
  refine ⟨⟨rfl, _, wu_same⟩, ?_⟩
  (refine pad_cons ?_; refine pd_var (i := 8) rfl rfl ?_)
  refine pad_nil (vm_append wu_same (by show 4 < sizeLine; decide) ?_)
  rw [wu_wu]
  refine pssd_freeze (a := p1) 7 rfl wu_same ?_
  rw [wd_wu np1]
  have r12 := reach_le n
  refine pssd_cons (psd_cut (fun δ' w3 => δ' = [some (R a), some (sayD c t), some (trD t), some (DL.T x), some (DL.T g), some (I n), some okD, some (.lst [dNm x, dGr g, dGr g, dGr g, dCn g n]), some (dCn g n), some (trD (nestT g t (reach n))), none] ∧ w3 = w2) ?_ ?_)
  · refine psd_set (i := 9) nd rfl ?_
    refine pd_has hNs (hr.mono (by decide)) (fun _ => pass0At) ?_
    (refine pad_cons ?_; refine pd_var (i := 2) rfl rfl ?_)
    (refine pad_cons ?_; refine pd_var (i := 4) rfl rfl ?_)
    refine pad_cons ?_
    refine pd_if ?_
    (refine ptd_chain op_le op_le ?_; refine pd_int ?_; refine pd_var (i := 5) rfl rfl ?_; refine vr_I ⟨_, rfl, ?_⟩)
    have r1 := @reach_in n
    have r2 : inR n = false → reach n = 0 := fun h => by unfold reach; rw [h]; rfl
    unfold inR at r1 r2
    cases q1 : decide ((0 : Int) ≤ n) with
    | false =>
      rw [q1] at r2
      refine iteF ?_
      refine iteF ?_
      refine pd_int ?_
      refine pad_nil ⟨t, g, 0, rfl, by decide, ?_⟩
      rw [r2 rfl]
      exact ⟨rfl, rfl⟩
    | true =>
      refine iteT ?_
      refine pd_int ?_
      refine vr_I ⟨_, rfl, ?_⟩
      cases q2 : decide (n ≤ (12 : Int)) with
      | false =>
        rw [q1, q2] at r2
        refine iteF ?_
        refine pd_int ?_
        refine pad_nil ⟨t, g, 0, rfl, by decide, ?_⟩
        rw [r2 rfl]
        exact ⟨rfl, rfl⟩
      | true =>
        rw [q1, q2] at r1
        refine iteT ?_
        refine pd_var (i := 5) rfl rfl ?_
        refine pad_nil ⟨t, g, reach n, by rw [← r1 rfl], r12, ?_⟩
        exact ⟨rfl, rfl⟩
  rintro δ' w3 ⟨rfl, rfl⟩
  have shT := sh_of ht
  have g900 : g.length ≤ 900 := by omega
  have sz1 : ∀ q, (Tr.md q g t).size ≤ 60 := fun q => by show t.size + 1 ≤ 60; omega
  have szn : (nestT g t (reach n)).size ≤ 60 := by rw [nest_size]; omega
  have nmT : nameB x = true → NameOk x := (nameB_iff x).mp
  have nmF : nameB x = false → ¬ NameOk x := fun h h2 => by rw [(nameB_iff x).mpr h2] at h; cases h
  have grT : GroupOk g → groupB g = true := (groupB_iff g).mpr
  have grF : ¬ GroupOk g → groupB g = false := fun h => by
    cases q : groupB g with
    | false => rfl
    | true => exact absurd ((groupB_iff g).mp q) h
  have dn1 : NameOk x → dNm x = okD := fun h => by unfold dNm; rw [(nameB_iff x).mpr h]; rfl
  have dn2 : ¬ NameOk x → dNm x = errD "BadName" (DL.T x) := fun h => by
    unfold dNm
    cases q : nameB x with
    | false => rfl
    | true => exact absurd (nmT q) h
  have dg1 : GroupOk g → dGr g = okD := fun h => by unfold dGr; rw [grT h]; rfl
  have dg2 : ¬ GroupOk g → dGr g = errD "BadGroup" (DL.T g) := fun h => by unfold dGr; rw [grF h]; rfl
  have dc0 : ¬ GroupOk g → dCn g n = errD "BadGroup" (DL.T g) := fun h => by unfold dCn; rw [grF h, dg2 h]; rfl
  have dc1 : GroupOk g → inR n = true → dCn g n = okD := fun h h2 => by unfold dCn; rw [grT h, h2, dg1 h]; rfl
  have dc2 : GroupOk g → inR n = false → dCn g n = errD "BadCount" (I n) := fun h h2 => by unfold dCn; rw [grT h, h2]; rfl
  let δw : D → Dn := fun d => [some (R a), some (sayD c t), some (trD t), some (DL.T x), some (DL.T g), some (I n), some okD, some (.lst [dNm x, dGr g, dGr g, dGr g, dCn g n]), some (dCn g n), some (trD (nestT g t (reach n))), some d]
  refine pssd_cons (psd_cut (fun δ' w' => ∃ p2, w3 p2 = none ∧ δ' = δw (R p2) ∧ w' = wu w3 p2 (.lst [dNm x])) ?_ ?_)
  · refine psd_set (i := 10) nd rfl ?_
    refine pd_lstO ?_
    refine pad_cons ?_
    refine pd_told (k := 61) hm er hs Q hA tOk LM (hr.mono (by decide)) (lamS_by rfl) ?_
    refine pd_tup ?_
    refine pad_cons (pd_str ?_)
    (refine pad_cons ?_; refine pd_var (i := 3) rfl rfl ?_)
    refine pad_nil ⟨by show 2 ≤ sizeLine; decide, .fact x, rfl, by show 1 ≤ 60; omega, fun A1 o1 s1 H1 E1 f1 c1 hr1 => ?_⟩
    refine pd_hasmk Z.fa (hr1.mono (by decide)) passL2 ?_
    refine pad_cons ?_
    refine pd_var (i := 3) rfl rfl ?_
    refine pad_nil fun a1 dx na => ?_
    refine ⟨a1, dx, x, rfl, wu_same, by omega, fun hok => ⟨rfl, _, _, wu_same, rfl, ?_⟩, fun hno => ⟨xc, _, _, _, .inl ⟨rfl, rfl, rfl⟩, rfl, rfl, ?_⟩⟩
    · rw [wu_wu, wd_wu na]
      exact pad_nil ⟨by show 1 ≤ sizeLine; decide, fun p2 np2 => ⟨p2, np2, rfl, by rw [dn1 hok]⟩⟩
    · rw [wd_wu na]
      exact pad_nil ⟨by show 1 ≤ sizeLine; decide, fun p2 np2 => ⟨p2, np2, rfl, by rw [dn2 hno]⟩⟩
  rintro δ' w4 ⟨p2, np2, rfl, rfl⟩
  refine pssd_cons (psd_cut (fun δ' w' => δ' = δw (R p2) ∧ w' = wu w3 p2 (.lst [dNm x, dGr g])) ?_ ?_)
  · (refine psd_expr ?_; refine pd_bm PySem.F.plainAttrs_list PySem.F.slot_list_append PySem.F.type_list_append mt_append ?_; refine pd_var (i := 10) rfl rfl ?_; refine ⟨⟨rfl, _, wu_same⟩, ?_⟩; refine pad_cons ?_; refine pd_told (k := 61) hm er hs Q hA tOk LM (hr.mono (by decide)) (lamS_by rfl) ?_; refine pd_tup ?_; refine pad_cons (pd_str ?_); (refine pad_cons ?_; refine pd_var (i := 4) rfl rfl ?_); (refine pad_cons ?_; refine pd_var (i := 2) rfl rfl ?_); refine pad_nil ⟨by show 3 ≤ sizeLine; decide, .md (.kn) g t, rfl, sz1 _, fun A1 o1 s1 H1 E1 f1 c1 hr1 => ?_⟩; refine pd_hasmk Z.kn (hr1.mono (by decide)) passL2 ?_; (refine pad_cons ?_; refine pd_var (i := 4) rfl rfl ?_); (refine pad_cons ?_; refine pd_var (i := 1) rfl rfl ?_); refine pad_nil fun a1 dx na => ?_; refine ⟨a1, dx, g, t, rfl, wu_same, g900, shT, by omega, fun hok => ⟨rfl, _, _, wu_same, rfl, ?_⟩, fun hno => ⟨gc, _, _, _, .inr (.inl ⟨rfl, rfl, rfl⟩), rfl, rfl, ?_⟩⟩; (rw [wu_wu, wd_wu na]; refine pad_nil (vm_append wu_same (small1000 (by simp)) ?_); rw [wu_wu]; exact ⟨rfl, by rw [dg1 hok] <;> rfl⟩); (rw [wd_wu na]; refine pad_nil (vm_append wu_same (small1000 (by simp)) ?_); rw [wu_wu]; exact ⟨rfl, by rw [dg2 hno] <;> rfl⟩))
  rintro δ' w4 ⟨rfl, rfl⟩
  refine pssd_cons (psd_cut (fun δ' w' => δ' = δw (R p2) ∧ w' = wu w3 p2 (.lst [dNm x, dGr g, dGr g])) ?_ ?_)
  · (refine psd_expr ?_; refine pd_bm PySem.F.plainAttrs_list PySem.F.slot_list_append PySem.F.type_list_append mt_append ?_; refine pd_var (i := 10) rfl rfl ?_; refine ⟨⟨rfl, _, wu_same⟩, ?_⟩; refine pad_cons ?_; refine pd_told (k := 61) hm er hs Q hA tOk LM (hr.mono (by decide)) (lamS_by rfl) ?_; refine pd_tup ?_; refine pad_cons (pd_str ?_); (refine pad_cons ?_; refine pd_var (i := 4) rfl rfl ?_); (refine pad_cons ?_; refine pd_var (i := 2) rfl rfl ?_); refine pad_nil ⟨by show 3 ≤ sizeLine; decide, .md (.wh) g t, rfl, sz1 _, fun A1 o1 s1 H1 E1 f1 c1 hr1 => ?_⟩; refine pd_hasmk Z.wh (hr1.mono (by decide)) passL2 ?_; (refine pad_cons ?_; refine pd_var (i := 4) rfl rfl ?_); (refine pad_cons ?_; refine pd_var (i := 1) rfl rfl ?_); refine pad_nil fun a1 dx na => ?_; refine ⟨a1, dx, g, t, rfl, wu_same, g900, shT, by omega, fun hok => ⟨rfl, _, _, wu_same, rfl, ?_⟩, fun hno => ⟨gc, _, _, _, .inr (.inl ⟨rfl, rfl, rfl⟩), rfl, rfl, ?_⟩⟩; (rw [wu_wu, wd_wu na]; refine pad_nil (vm_append wu_same (small1000 (by simp)) ?_); rw [wu_wu]; exact ⟨rfl, by rw [dg1 hok] <;> rfl⟩); (rw [wd_wu na]; refine pad_nil (vm_append wu_same (small1000 (by simp)) ?_); rw [wu_wu]; exact ⟨rfl, by rw [dg2 hno] <;> rfl⟩))
  rintro δ' w4 ⟨rfl, rfl⟩
  refine pssd_cons (psd_cut (fun δ' w' => δ' = δw (R p2) ∧ w' = wu w3 p2 (.lst [dNm x, dGr g, dGr g, dGr g])) ?_ ?_)
  · (refine psd_expr ?_; refine pd_bm PySem.F.plainAttrs_list PySem.F.slot_list_append PySem.F.type_list_append mt_append ?_; refine pd_var (i := 10) rfl rfl ?_; refine ⟨⟨rfl, _, wu_same⟩, ?_⟩; refine pad_cons ?_; refine pd_told (k := 61) hm er hs Q hA tOk LM (hr.mono (by decide)) (lamS_by rfl) ?_; refine pd_tup ?_; refine pad_cons (pd_str ?_); (refine pad_cons ?_; refine pd_var (i := 4) rfl rfl ?_); (refine pad_cons ?_; refine pd_var (i := 2) rfl rfl ?_); refine pad_nil ⟨by show 3 ≤ sizeLine; decide, .md (.co) g t, rfl, sz1 _, fun A1 o1 s1 H1 E1 f1 c1 hr1 => ?_⟩; refine pd_hasmk Z.co (hr1.mono (by decide)) passL2 ?_; (refine pad_cons ?_; refine pd_var (i := 4) rfl rfl ?_); (refine pad_cons ?_; refine pd_var (i := 1) rfl rfl ?_); refine pad_nil fun a1 dx na => ?_; refine ⟨a1, dx, g, t, rfl, wu_same, g900, shT, by omega, fun hok => ⟨rfl, _, _, wu_same, rfl, ?_⟩, fun hno => ⟨gc, _, _, _, .inr (.inl ⟨rfl, rfl, rfl⟩), rfl, rfl, ?_⟩⟩; (rw [wu_wu, wd_wu na]; refine pad_nil (vm_append wu_same (small1000 (by simp)) ?_); rw [wu_wu]; exact ⟨rfl, by rw [dg1 hok] <;> rfl⟩); (rw [wd_wu na]; refine pad_nil (vm_append wu_same (small1000 (by simp)) ?_); rw [wu_wu]; exact ⟨rfl, by rw [dg2 hno] <;> rfl⟩))
  rintro δ' w4 ⟨rfl, rfl⟩
  refine pssd_cons (psd_cut (fun δ' w' => δ' = δw (R p2) ∧ w' = wu w3 p2 (.lst [dNm x, dGr g, dGr g, dGr g, dCn g n])) ?_ ?_)
  · refine psd_expr ?_
    refine pd_bm PySem.F.plainAttrs_list PySem.F.slot_list_append PySem.F.type_list_append mt_append ?_
    refine pd_var (i := 10) rfl rfl ?_
    refine ⟨⟨rfl, _, wu_same⟩, ?_⟩
    refine pad_cons ?_
    refine pd_told (k := 61) hm er hs Q hA tOk LM (hr.mono (by decide)) (lamS_by rfl) ?_
    refine pd_var (i := 9) rfl rfl ?_
    refine ⟨nestT g t (reach n), rfl, szn, fun A1 o1 s1 H1 E1 f1 c1 hr1 => ?_⟩
    refine pd_has Z.ne (hr1.mono (by decide)) passL2 ?_
    (refine pad_cons ?_; refine pd_var (i := 4) rfl rfl ?_)
    (refine pad_cons ?_; refine pd_var (i := 1) rfl rfl ?_)
    (refine pad_cons ?_; refine pd_var (i := 5) rfl rfl ?_)
    refine pad_nil ⟨g, t, n, rfl, g900, shT, by omega, fun hno => ⟨gc, _, _, _, .inr (.inl ⟨rfl, rfl, rfl⟩), rfl, rfl, ?_⟩, fun hok out => ⟨nl, _, _, _, .inr (.inr ⟨rfl, rfl, rfl⟩), rfl, rfl, ?_⟩, fun hok m e m12 => ?_⟩
    · refine pad_nil (vm_append wu_same (by show 4 < sizeLine; decide) ?_)
      rw [wu_wu]
      exact ⟨rfl, by rw [dc0 hno] <;> rfl⟩
    · have hi : inR n = false := by
        cases q : inR n with
        | false => rfl
        | true =>
          have := reach_in q
          omega
      refine pad_nil (vm_append wu_same (by show 4 < sizeLine; decide) ?_)
      rw [wu_wu]
      exact ⟨rfl, by rw [dc2 hok hi] <;> rfl⟩
    · have hi : inR n = true := by
        unfold inR
        rw [decide_eq_true (by omega), decide_eq_true (by omega)]
        rfl
      have em : reach n = m := by
        have := reach_in hi
        omega
      refine ⟨by rw [em], ?_⟩
      refine pad_nil (vm_append wu_same (by show 4 < sizeLine; decide) ?_)
      rw [wu_wu]
      exact ⟨rfl, by rw [dc1 hok hi] <;> rfl⟩
  rintro δ' w4 ⟨rfl, rfl⟩
  refine pssd_freeze (a := p2) 10 rfl wu_same ?_
  rw [wd_wu np2]
  refine pssd_one (psd_ret ?_)
  refine pd_has (hS 3) (hr.mono (by decide)) (fun _ => pass0At) ?_
  (refine pad_cons ?_; refine pd_var (i := 10) rfl rfl ?_)
  (refine pad_cons ?_; refine pd_var (i := 7) rfl rfl ?_)
  refine pad_nil ⟨_, _, rfl, .inl (.inl (.lst rfl (by show 5 ≤ sizeLine; decide) fun i y z h1 h2 => ?_)), kk⟩
  match i, h1, h2 with
  | 0, h1, h2 => cases h1; cases h2; exact sm_nm x
  | 1, h1, h2 => cases h1; cases h2; exact sm_gr g
  | 2, h1, h2 => cases h1; cases h2; exact sm_gr g
  | 3, h1, h2 => cases h1; cases h2; exact sm_gr g
  | 4, h1, h2 => cases h1; cases h2; exact sm_cn g n
  | j + 5, h1, h2 => cases h1
end
end Tw

set_option Elab.async false
set_option linter.all false
set_option maxRecDepth 100000
set_option maxHeartbeats 4000000
/-! The law. -/
namespace Tw
open PySem PySem.Spec PyProof.Rows L2 LamX DL
abbrev sLaw : Stmt := top 55
abbrev NLaw : List Str := ["script", "bag", "way", "tree", "trees", "saying", "one", "two", "filled", "due", "people", "count", "deep"]
def spLaw : SpD := fun ds w κ χ => ∃ ns : List Int, ds = [.rd (ns.map I)] ∧ (∃ a r, w a = none ∧ w r = none ∧ a ≠ r) ∧ ∀ w', κ (B true) w'
theorem nest_ok {g : Str} (hg : GroupOk g) {t : Tr} (ht : TrOk t) : ∀ n, TrOk (nestT g t n)
  | 0 => ht
  | n + 1 => ⟨hg, nest_ok hg ht n⟩
section
variable {P : Program} {w : PySem.World} {K : PySem.W.Frag} {mg : Str → Option Value} {base : Heap} {T : List (Addr × Str)} {c : SC} {cS fS CG CC CN CT : Addr}
theorem scLaw : FnScope NLaw ["script"] (defScope sLaw) := ⟨rfl, rfl, rfl, by decide +kernel, rfl, by decide +kernel, by decide +kernel⟩
theorem ok_law {f : Addr} {fd : FuncData} (G : Fun K "law" "law" sLaw f fd)
    (hSt : HasF P w K mg base T CX0 "_law_start" 1 ["script"] spStart) (hT : HasF P w K mg base T CX0 "_law_take" 1 ["bag", "many"] spTake) (hTr : HasF P w K mg base T CX0 "_law_tree" 26 ["bag", "room"] (spTre 12)) (hMa : HasF P w K mg base T CX0 "_law_made" 69 ["tree", "way"] (spMade c 60))
    (hSh : HasF P w K mg base T CX0 "_law_shown" 125 ["saying", "tree"] (spShown c)) (hSp : HasF P w K mg base T CX0 "_law_spoil" 3 ["saying"] (spSpoil c)) (hFi : HasF P w K mg base T CX0 "_law_fill" 11 ["saying", "way", "one", "two"] (spFill c)) (hFd : HasF P w K mg base T CX0 "_law_filled" 61 ["tree", "table"] (spFld 60))
    (hTb : HasF P w K mg base T CX0 "_law_table" 1 ["way", "one", "two"] spTbl) (hGr : HasF P w K mg base T CX0 "_law_group" 2 ["bag"] spGrp) (hNe : HasF P w K mg base T (L2.CX P w) "nested" 7 ["group", "saying", "count"] (spNested c CG CC)) (hNs : HasF P w K mg base T CX0 "_law_nested" 1 ["tree", "group", "count"] spNst)
    (hDo : HasF P w K mg base T CX0 "_law_doors" 64 ["bag", "saying", "tree"] (spDoors c)) : FnOk P w K mg base CX0 126 f fd ["script"] (spOf K T spLaw) := by
  refine fnD G scLaw (fun ds w κ χ h => ?_) (fun cdv A outer s H E ds w0 κ χ hr h => ?_)
  · obtain ⟨ns, rfl, _⟩ := h
    rfl
  obtain ⟨ns, rfl, _, k⟩ := h
  have nd := scLaw.nd
  refine pssd_cons (psd_set (i := 1) nd rfl ?_)
  refine pd_has hSt (hr.mono (by decide)) (fun _ => pass0At) ?_
  (refine pad_cons ?_; refine pd_var (i := 0) rfl rfl ?_)
  refine pad_nil ?_
  refine ⟨ns, rfl, fun a r ha hra ne => ?_⟩
  have hB : ∀ b, BagAt (bagPut w0 a r b) a r b := fun b => bag_put ne
  have pp : ∀ b b', bagPut (bagPut w0 a r b) a r b' = bagPut w0 a r b' := fun b b' => bag_put2 ne
  -- way
  refine pssd_cons (psd_set (i := 2) nd rfl ?_)
  refine pd_take hT (hr.mono (by decide)) (i := 1) rfl rfl (hB _) ?_
  refine pd_int ?_
  refine ⟨rfl, _, rfl, by decide, by decide, fun wy b1 wy0 wy1 => ?_⟩
  rw [pp]
  obtain ⟨way, rfl⟩ := Int.eq_ofNat_of_zero_le wy0
  -- tree
  refine pssd_cons (psd_set (i := 3) nd rfl ?_)
  refine pd_has hTr (hr.mono (by decide)) (fun _ => pass0At) ?_
  (refine pad_cons ?_; refine pd_var (i := 1) rfl rfl ?_)
  refine pad_cons ?_
  refine pd_op op_add ?_
  refine pd_int ?_
  refine pd_take hT (hr.mono (by decide)) (i := 1) rfl rfl (hB _) ?_
  refine pd_int ?_
  refine ⟨rfl, _, rfl, by decide, by decide, fun x b2 g0 g1 => ?_⟩
  rw [pp]
  obtain ⟨n1, rfl⟩ := Int.eq_ofNat_of_zero_le g0
  refine vr_I ?_
  refine pad_nil ⟨a, r, b2, 1 + n1, by rw [Int.natCast_add]; rfl, hB b2, by omega, by omega, by omega, fun t b3 tok tz => ?_⟩
  rw [pp]
  -- trees
  refine pssd_cons (psd_set (i := 4) nd rfl ?_)
  refine pd_lst ?_
  refine pad_cons ?_
  refine pd_has hTr (hr.mono (by decide)) (fun _ => pass0At) ?_
  (refine pad_cons ?_; refine pd_var (i := 1) rfl rfl ?_)
  refine pad_cons ?_
  refine pd_op op_add ?_
  refine pd_int ?_
  refine pd_take hT (hr.mono (by decide)) (i := 1) rfl rfl (hB _) ?_
  refine pd_int ?_
  refine ⟨rfl, _, rfl, by decide, by decide, fun x b4 g2 g3 => ?_⟩
  rw [pp]
  obtain ⟨n2, rfl⟩ := Int.eq_ofNat_of_zero_le g2
  refine vr_I ?_
  refine pad_nil ⟨a, r, b4, 1 + n2, by rw [Int.natCast_add]; rfl, hB b4, by omega, by omega, by omega, fun ta b5 aok az => ?_⟩
  rw [pp]
  refine pad_cons ?_
  refine pd_has hTr (hr.mono (by decide)) (fun _ => pass0At) ?_
  (refine pad_cons ?_; refine pd_var (i := 1) rfl rfl ?_)
  refine pad_cons ?_
  refine pd_op op_add ?_
  refine pd_int ?_
  refine pd_take hT (hr.mono (by decide)) (i := 1) rfl rfl (hB _) ?_
  refine pd_int ?_
  refine ⟨rfl, _, rfl, by decide, by decide, fun x b6 g4 g5 => ?_⟩
  rw [pp]
  obtain ⟨n3, rfl⟩ := Int.eq_ofNat_of_zero_le g4
  refine vr_I ?_
  refine pad_nil ⟨a, r, b6, 1 + n3, by rw [Int.natCast_add]; rfl, hB b6, by omega, by omega, by omega, fun tb b7 bok bz => ?_⟩
  rw [pp]
  refine pad_nil ⟨by show 2 ≤ sizeLine; decide, ?_⟩
  have t12 : t.size ≤ 12 := by omega
  have a3 : ta.size ≤ 3 := by omega
  have b3' : tb.size ≤ 3 := by omega
  -- saying, one, two
  refine pssd_cons (psd_set (i := 5) nd rfl ?_)
  refine pd_has hMa (hr.mono (by decide)) (fun _ => pass0At) ?_
  (refine pad_cons ?_; refine pd_var (i := 3) rfl rfl ?_)
  refine pad_cons ?_
  refine pd_cmp op_eq ?_
  refine pd_take hT (hr.mono (by decide)) (i := 1) rfl rfl (hB _) ?_
  refine pd_int ?_
  refine ⟨rfl, _, rfl, by decide, by decide, fun x b8 _ _ => ?_⟩
  rw [pp]
  refine pd_int ?_
  refine vr_eq rfl ?_
  refine pad_nil ⟨t, _, rfl, tok, by omega, by omega, ?_⟩
  refine pssd_cons (psd_set (i := 6) nd rfl ?_)
  refine pd_has hMa (hr.mono (by decide)) (fun _ => pass0At) ?_
  refine pad_cons ?_
  refine pd_ix ix_list ?_
  refine pd_var (i := 4) rfl rfl ?_
  refine pd_int ?_
  refine vr_ixL (i := 0) (d := trD ta) rfl ?_
  refine pad_cons (pd_bl ?_)
  refine pad_nil ⟨ta, _, rfl, aok, by omega, by omega, ?_⟩
  refine pssd_cons (psd_set (i := 7) nd rfl ?_)
  refine pd_has hMa (hr.mono (by decide)) (fun _ => pass0At) ?_
  refine pad_cons ?_
  refine pd_ix ix_list ?_
  refine pd_var (i := 4) rfl rfl ?_
  refine pd_int ?_
  refine vr_ixL (i := 1) (d := trD tb) rfl ?_
  refine pad_cons (pd_bl ?_)
  refine pad_nil ⟨tb, _, rfl, bok, by omega, by omega, ?_⟩
  -- shown
  refine pssd_as [some (.rd (ns.map I)), some (R a), some (I (way : Int)), some (trD t), some (.lst [trD ta, trD tb]), some (sayD c t), some (sayD c ta), some (sayD c tb), none, none, none, none, none] rfl ?_
  refine pssd_cons (psd_if ?_)
  refine ptd_not ?_
  refine ptd_val ?_
  (refine pd_has hSh (hr.mono (by decide)) (fun _ => pass0At) ?_; (refine pad_cons ?_; refine pd_var (i := 5) rfl rfl ?_); (refine pad_cons ?_; refine pd_var (i := 3) rfl rfl ?_); refine pad_nil ⟨_, rfl, tok, (by omega), ?_⟩)
  refine ⟨_, rfl, ?_⟩
  refine iteF ?_
  refine pssd_nil ?_
  refine pssd_cons (psd_expr ?_)
  refine pd_has hSp (hr.mono (by decide)) (fun _ => pass0At) ?_
  (refine pad_cons ?_; refine pd_var (i := 5) rfl rfl ?_)
  refine pad_nil ⟨t, rfl, by omega, ?_⟩
  -- filled
  refine pssd_cons (psd_set (i := 8) nd rfl ?_)
  refine pd_has hFi (hr.mono (by decide)) (fun _ => pass0At) ?_
  (refine pad_cons ?_; refine pd_var (i := 5) rfl rfl ?_)
  (refine pad_cons ?_; refine pd_var (i := 2) rfl rfl ?_)
  (refine pad_cons ?_; refine pd_var (i := 6) rfl rfl ?_)
  (refine pad_cons ?_; refine pd_var (i := 7) rfl rfl ?_)
  refine pad_nil ⟨t, way, ta, tb, rfl, by omega, tok, t12, aok, bok, a3, b3', ?_⟩
  refine pssd_cons (psd_set (i := 9) nd rfl ?_)
  refine pd_has hFd (hr.mono (by decide)) (fun _ => pass0At) ?_
  (refine pad_cons ?_; refine pd_var (i := 3) rfl rfl ?_)
  refine pad_cons ?_
  refine pd_has hTb (hr.mono (by decide)) (fun _ => pass0At) ?_
  (refine pad_cons ?_; refine pd_var (i := 2) rfl rfl ?_)
  refine pad_cons ?_
  refine pd_ix ix_list ?_
  refine pd_var (i := 4) rfl rfl ?_
  refine pd_int ?_
  refine vr_ixL (i := 0) (d := trD ta) rfl ?_
  refine pad_cons ?_
  refine pd_ix ix_list ?_
  refine pd_var (i := 4) rfl rfl ?_
  refine pd_int ?_
  refine vr_ixL (i := 1) (d := trD tb) rfl ?_
  refine pad_nil ⟨way, ta, tb, rfl, by omega, ?_⟩
  refine pad_nil ⟨t, tblOf way ta tb, rfl, by omega, ?_⟩
  have fok : TrOk (fillT (tblOf way ta tb) t) := fill_ok (tbl_all (p := TrOk) aok bok way) tok
  have fsz : (fillT (tblOf way ta tb) t).size ≤ 36 := by
    have := fill_size (tbl_all (p := fun u => u.size ≤ 3) a3 b3' way) t
    omega
  refine pssd_as [some (.rd (ns.map I)), some (R a), some (I (way : Int)), some (trD t), some (.lst [trD ta, trD tb]), some (sayD c t), some (sayD c ta), some (sayD c tb), some (sayD c (fillT (tblOf way ta tb) t)), some (trD (fillT (tblOf way ta tb) t)), none, none, none] rfl ?_
  refine pssd_cons (psd_if ?_)
  refine pwd_pt ?_
  refine pwd_or ?_
  refine ptd_not ?_
  refine ptd_val ?_
  (refine pd_has hSh (hr.mono (by decide)) (fun _ => pass0At) ?_; (refine pad_cons ?_; refine pd_var (i := 8) rfl rfl ?_); (refine pad_cons ?_; refine pd_var (i := 9) rfl rfl ?_); refine pad_nil ⟨_, rfl, fok, (by omega), ?_⟩)
  refine ⟨_, rfl, ?_⟩
  refine iteF ?_
  refine pwd_or1 ?_
  refine ptd_not ?_
  refine ptd_val ?_
  (refine pd_has hSh (hr.mono (by decide)) (fun _ => pass0At) ?_; (refine pad_cons ?_; refine pd_var (i := 5) rfl rfl ?_); (refine pad_cons ?_; refine pd_var (i := 3) rfl rfl ?_); refine pad_nil ⟨_, rfl, tok, (by omega), ?_⟩)
  refine ⟨_, rfl, ?_⟩
  refine iteF ?_
  refine pssd_nil ?_
  -- way again
  refine pssd_cons (psd_set (i := 2) nd rfl ?_)
  refine pd_op op_modN ?_
  refine pd_op op_add ?_
  refine pd_op op_add ?_
  refine pd_var (i := 2) rfl rfl ?_
  refine pd_int ?_
  refine vr_I ?_
  refine pd_take hT (hr.mono (by decide)) (i := 1) rfl rfl (hB _) ?_
  refine pd_int ?_
  refine ⟨rfl, _, rfl, by decide, by decide, fun x b9 g6 g7 => ?_⟩
  rw [pp]
  refine vr_I ?_
  refine pd_int ?_
  refine vr_IC (by decide) ?_
  obtain ⟨n4, rfl⟩ := Int.eq_ofNat_of_zero_le g6
  have ew : ((way : Int) + 1 + (n4 : Int)).fmod 6 = (((way + 1 + n4) % 6 : Nat) : Int) := by
    rw [Int.fmod_eq_emod_of_nonneg _ (by decide)]
    omega
  rw [ew]
  generalize hw2 : (way + 1 + n4) % 6 = way2
  have l2 : way2 < 6 := by omega
  refine pssd_as [some (.rd (ns.map I)), some (R a), some (I (way2 : Int)), some (trD t), some (.lst [trD ta, trD tb]), some (sayD c t), some (sayD c ta), some (sayD c tb), some (sayD c (fillT (tblOf way ta tb) t)), some (trD (fillT (tblOf way ta tb) t)), none, none, none] rfl ?_
  refine pssd_cons (psd_if ?_)
  refine ptd_not ?_
  refine ptd_val ?_
  refine pd_has hSh (hr.mono (by decide)) (fun _ => pass0At) ?_
  refine pad_cons ?_
  refine pd_has hFi (hr.mono (by decide)) (fun _ => pass0At) ?_
  (refine pad_cons ?_; refine pd_var (i := 5) rfl rfl ?_)
  (refine pad_cons ?_; refine pd_var (i := 2) rfl rfl ?_)
  (refine pad_cons ?_; refine pd_var (i := 7) rfl rfl ?_)
  (refine pad_cons ?_; refine pd_var (i := 6) rfl rfl ?_)
  refine pad_nil ⟨t, way2, tb, ta, rfl, l2, tok, t12, bok, aok, b3', a3, ?_⟩
  refine pad_cons ?_
  refine pd_has hFd (hr.mono (by decide)) (fun _ => pass0At) ?_
  (refine pad_cons ?_; refine pd_var (i := 3) rfl rfl ?_)
  refine pad_cons ?_
  refine pd_has hTb (hr.mono (by decide)) (fun _ => pass0At) ?_
  (refine pad_cons ?_; refine pd_var (i := 2) rfl rfl ?_)
  refine pad_cons ?_
  refine pd_ix ix_list ?_
  refine pd_var (i := 4) rfl rfl ?_
  refine pd_int ?_
  refine vr_ixL (i := 1) (d := trD tb) rfl ?_
  refine pad_cons ?_
  refine pd_ix ix_list ?_
  refine pd_var (i := 4) rfl rfl ?_
  refine pd_int ?_
  refine vr_ixL (i := 0) (d := trD ta) rfl ?_
  refine pad_nil ⟨way2, tb, ta, rfl, l2, ?_⟩
  refine pad_nil ⟨t, tblOf way2 tb ta, rfl, by omega, ?_⟩
  have fsz2 : (fillT (tblOf way2 tb ta) t).size ≤ 36 := by
    have := fill_size (tbl_all (p := fun u => u.size ≤ 3) b3' a3 way2) t
    omega
  refine pad_nil ⟨fillT (tblOf way2 tb ta) t, rfl, fill_ok (tbl_all (p := TrOk) bok aok way2) tok, by omega, ?_⟩
  refine ⟨_, rfl, ?_⟩
  refine iteF ?_
  refine pssd_nil ?_
  -- nested
  refine pssd_cons (psd_set (i := 10) nd rfl ?_)
  refine pd_has hGr (hr.mono (by decide)) (fun _ => pass0At) ?_
  (refine pad_cons ?_; refine pd_var (i := 1) rfl rfl ?_)
  refine pad_nil ⟨a, r, b9, rfl, hB b9, fun g b10 gok => ?_⟩
  rw [pp]
  have g8 := group_len gok
  refine pssd_cons (psd_set (i := 11) nd rfl ?_)
  refine pd_take hT (hr.mono (by decide)) (i := 1) rfl rfl (hB _) ?_
  refine pd_int ?_
  refine ⟨rfl, _, rfl, by decide, by decide, fun x b11 g9 g10 => ?_⟩
  rw [pp]
  obtain ⟨m, rfl⟩ := Int.eq_ofNat_of_zero_le g9
  refine pssd_cons (psd_set (i := 12) nd rfl ?_)
  refine pd_has hNe (hr.mono (by decide)) (fun _ => passLf) ?_
  (refine pad_cons ?_; refine pd_var (i := 10) rfl rfl ?_)
  (refine pad_cons ?_; refine pd_var (i := 5) rfl rfl ?_)
  (refine pad_cons ?_; refine pd_var (i := 11) rfl rfl ?_)
  refine pad_nil ⟨g, t, m, rfl, by omega, sh_of tok, by omega, fun no => absurd gok no, fun _ out => by omega, fun _ m' e m12 => ?_⟩
  have em : m' = m := by omega
  subst em
  have nsz : (nestT g t m').size ≤ 60 := by rw [nest_size]; omega
  refine pssd_as [some (.rd (ns.map I)), some (R a), some (I (way2 : Int)), some (trD t), some (.lst [trD ta, trD tb]), some (sayD c t), some (sayD c ta), some (sayD c tb), some (sayD c (fillT (tblOf way ta tb) t)), some (trD (fillT (tblOf way ta tb) t)), some (DL.T g), some (I (m' : Int)), some (sayD c (nestT g t m'))] rfl ?_
  refine pssd_cons (psd_if ?_)
  refine ptd_not ?_
  refine ptd_val ?_
  refine pd_has hSh (hr.mono (by decide)) (fun _ => pass0At) ?_
  (refine pad_cons ?_; refine pd_var (i := 12) rfl rfl ?_)
  refine pad_cons ?_
  refine pd_has hNs (hr.mono (by decide)) (fun _ => pass0At) ?_
  (refine pad_cons ?_; refine pd_var (i := 3) rfl rfl ?_)
  (refine pad_cons ?_; refine pd_var (i := 10) rfl rfl ?_)
  (refine pad_cons ?_; refine pd_var (i := 11) rfl rfl ?_)
  refine pad_nil ⟨t, g, m', rfl, m12, ?_⟩
  refine pad_nil ⟨nestT g t m', rfl, nest_ok gok tok m', nsz, ?_⟩
  refine ⟨_, rfl, ?_⟩
  refine iteF ?_
  refine pssd_nil ?_
  -- doors
  refine pssd_cons (psd_if ?_)
  refine pwd_pt ?_
  refine pwd_or ?_
  refine ptd_not ?_
  refine ptd_val ?_
  refine pd_has hDo (hr.mono (by decide)) (fun _ => pass0At) ?_
  (refine pad_cons ?_; refine pd_var (i := 1) rfl rfl ?_)
  (refine pad_cons ?_; refine pd_var (i := 5) rfl rfl ?_)
  (refine pad_cons ?_; refine pd_var (i := 3) rfl rfl ?_)
  refine pad_nil ⟨a, r, b11, t, rfl, hB b11, tok, by omega, fun b12 => ?_⟩
  rw [pp]
  refine ⟨_, rfl, ?_⟩
  refine iteF ?_
  refine pwd_or1 ?_
  refine ptd_not ?_
  refine ptd_val ?_
  refine pd_has hDo (hr.mono (by decide)) (fun _ => pass0At) ?_
  (refine pad_cons ?_; refine pd_var (i := 1) rfl rfl ?_)
  (refine pad_cons ?_; refine pd_var (i := 8) rfl rfl ?_)
  (refine pad_cons ?_; refine pd_var (i := 9) rfl rfl ?_)
  refine pad_nil ⟨a, r, b12, _, rfl, hB b12, fok, by omega, fun b13 => ?_⟩
  rw [pp]
  refine ⟨_, rfl, ?_⟩
  refine iteF ?_
  refine pssd_nil ?_
  -- one, two
  refine pssd_cons (psd_if ?_)
  refine pwd_pt ?_
  refine pwd_or ?_
  refine ptd_not ?_
  refine ptd_val ?_
  refine pd_has hSh (hr.mono (by decide)) (fun _ => pass0At) ?_
  (refine pad_cons ?_; refine pd_var (i := 6) rfl rfl ?_)
  refine pad_cons ?_
  refine pd_ix ix_list ?_
  refine pd_var (i := 4) rfl rfl ?_
  refine pd_int ?_
  refine vr_ixL (i := 0) (d := trD ta) rfl ?_
  refine pad_nil ⟨ta, rfl, aok, by omega, ?_⟩
  refine ⟨_, rfl, ?_⟩
  refine iteF ?_
  refine pwd_or1 ?_
  refine ptd_not ?_
  refine ptd_val ?_
  refine pd_has hSh (hr.mono (by decide)) (fun _ => pass0At) ?_
  (refine pad_cons ?_; refine pd_var (i := 7) rfl rfl ?_)
  refine pad_cons ?_
  refine pd_ix ix_list ?_
  refine pd_var (i := 4) rfl rfl ?_
  refine pd_int ?_
  refine vr_ixL (i := 1) (d := trD tb) rfl ?_
  refine pad_nil ⟨tb, rfl, bok, by omega, ?_⟩
  refine ⟨_, rfl, ?_⟩
  refine iteF ?_
  refine pssd_nil ?_
  -- the end
  refine pssd_one (psd_ret ?_)
  refine pd_and ?_
  (refine pd_has hSh (hr.mono (by decide)) (fun _ => pass0At) ?_; (refine pad_cons ?_; refine pd_var (i := 5) rfl rfl ?_); (refine pad_cons ?_; refine pd_var (i := 3) rfl rfl ?_); refine pad_nil ⟨_, rfl, tok, (by omega), ?_⟩)
  refine ⟨true, rfl, ?_⟩
  refine iteT ?_
  refine pd_one ?_
  (refine pd_has hSh (hr.mono (by decide)) (fun _ => pass0At) ?_; (refine pad_cons ?_; refine pd_var (i := 8) rfl rfl ?_); (refine pad_cons ?_; refine pd_var (i := 9) rfl rfl ?_); refine pad_nil ⟨_, rfl, fok, (by omega), ?_⟩)
  exact k _
end
end Tw

set_option Elab.async false
set_option linter.all false
set_option maxRecDepth 100000
set_option maxHeartbeats 2000000
/-! What the text's module holds; the promises of all defs put together. -/
namespace Tw
open PySem PySem.Spec PyProof.Rows L2 LamX DL
/-- a def of the top -/
def TopDef (K : PySem.W.Frag) (x : Str) (st : Stmt) : Prop := ∃ f fd, PySem.W.nsIn K mainGlobals x = some (some (.ref f)) ∧ Fun K x x st f fd
def MethDef (K : PySem.W.Frag) (C : Addr) (m qual : Str) (st : Stmt) : Prop := ∃ f fd, Meth K C m f ∧ Fun K m qual st f fd
def ErrDef (P : Program) (K : PySem.W.Frag) (C : Addr) (qual f : Str) (st : Stmt) : Prop := ∃ fI cc cda fd, SupTxt P K (fun _ => none) C fI cc cda qual st fd ∧ OexC K C ∧ PySem.W.findIn K (.ref C) f = some none ∧ PySem.W.findIn K (.ref C) "__init__" = some (some (.ref fI)) ∧ PySem.W.typeIn K (.ref fI) = some (.type "function")
abbrev free (K : PySem.W.Frag) (x : Str) : Prop := PySem.W.nsIn K mainGlobals x = some none
abbrev glob (K : PySem.W.Frag) (x : Str) (C : Addr) : Prop := PySem.W.nsIn K mainGlobals x = some (some (.ref C))
section
variable {P : Program} {w : PySem.World} {K : PySem.W.Frag} {mg : Str → Option Value} {base : Heap} {T : List (Addr × Str)} {C CB CU CT CM cc Pt : Addr} {h : Heap}
/-- of a def of the top -/
theorem has_of {CX : CXT} {x : Str} {st : Stmt} {k : Nat} {ps : List Str} {sp : SpD} (X : K.In h) (G : h.Ns mainGlobals mg) (d : TopDef K x st)
    (hb : ∀ (kV doc pm : Value) (an : Option Addr) (cdv ct : Value) (us : List Value), us.length = ps.length → bindArgs (PySem.W.fnOf x x (defArgs st) (defBody st) (defScope st) .none kV doc pm an cdv ct) ⟨us, []⟩ = pure (ps.zip us))
    (ok : ∀ f fd, Fun K x x st f fd → mg x = some (.ref f) → L2.Binds K fd ps [] → FnOk P w K mg base CX k f fd ps (spOf K T sp)) : HasF P w K mg base T CX x k ps sp := by
  obtain ⟨f, fd, h1, h2⟩ := d
  have hb' := h2.binds (ps := ps) hb
  exact ⟨f, fd, ok f fd h2 (PySem.W.mg_of X G h1) hb', PySem.W.mg_of X G h1, h2.kp, hb'⟩
theorem hasm_of {CX : CXT} {m qual : Str} {st : Stmt} {k : Nat} {ps : List Str} {sp : SpD} (d : MethDef K C m qual st)
    (hb : ∀ (kV doc pm : Value) (an : Option Addr) (cdv ct : Value) (us : List Value), us.length = ps.length → bindArgs (PySem.W.fnOf m qual (defArgs st) (defBody st) (defScope st) .none kV doc pm an cdv ct) ⟨us, []⟩ = pure (ps.zip us))
    (ok : ∀ f fd, Fun K m qual st f fd → FnOk P w K mg base CX k f fd ps (spOf K T sp)) : HasM P w K mg base T CX C m k ps sp := by
  obtain ⟨f, fd, h1, h2⟩ := d
  exact ⟨f, fd, ok f fd h2, h1, h2.binds (ps := ps) hb⟩
theorem hase_of {x qual f : Str} {st : Stmt} (X : K.In h) (G : h.Ns mainGlobals mg) (gx : glob K x C) (ns : free K "super") (d : ErrDef P K C qual f st)
    (hb : ∀ (cl : List (Str × Addr)) (kV doc pm : Value) (an : Option Addr) (cdv ct : Value) (us : List Value), us.length = 2 → bindArgs (PySem.W.fnX "__init__" qual (defArgs st) (defBody st) (defScope st) cl .none kV doc pm an cdv ct) ⟨us, []⟩ = pure ((["self", f] : List Str).zip us))
    (ok : ∀ fI cc cda fd, SupTxt P K mg C fI cc cda qual st fd → OexC K C → PySem.W.findIn K (.ref C) f = some none → FnOk P w K mg base CX0 1 fI fd ["self", f] (spX1 C f intFits)) : HasE P w K mg base x C 1 f := by
  obtain ⟨fI, cc, cda, fd, h1, h2, h3, h4, h5⟩ := d
  have h1' : SupTxt P K mg C fI cc cda qual st fd := ⟨h1.ex, h1.code, h1.cell, h1.along, h1.opq, h1.sub, h1.selfc, PySem.W.mg_none_of X G ns, h1.top⟩
  refine ⟨fI, fd, ok fI cc cda fd h1' h2 h3, PySem.W.mg_of X G gx, h2, h4, h5, ?_⟩
  obtain ⟨oc, od, kV, doc, pm, an, ct, osl, rfl, _, _⟩ := h1.ex
  exact .all (hb _ kV doc pm an _ ct)
end
abbrev qFil : Str := (("Saying.filled" : Str) ++ ".<locals>.") ++ "<lambda>"
abbrev qDoo : Str := (("_law_doors" : Str) ++ ".<locals>.") ++ "<lambda>"
abbrev sSStr : Stmt := inClass (top 12) 14
section
variable {P : Program} {w : PySem.World} {K : PySem.W.Frag} {mg : Str → Option Value} {base : Heap} {T : List (Addr × Str)} {c : SC} {fS : Addr}
theorem scSStr : FnScope ["self"] ["self"] (defScope sSStr) := ⟨rfl, rfl, rfl, by decide +kernel, rfl, by decide +kernel, by decide +kernel⟩
theorem va_strS {z : Str} {κ : D → Wp → Prop} {w : Wp} (k : κ (DL.T z) w) : VRA K T (fun xs H Q => ∃ a, xs = [.str a] ∧ Q (.str a) H) [DL.T z] w κ := fun F S H xs Q hW r hK => by
  obtain ⟨y, ys, rfl, h1, h2⟩ := r
  have h1' : y = .str z := h1
  have h2' : ys = [] := h2
  subst h1' h2'
  exact ⟨z, rfl, hK _ w _ S H k (Same.refl _) hW rfl⟩
theorem ok_sstr {f : Addr} {fd : FuncData} (G : Fun K "__str__" "Saying.__str__" sSStr f fd) (hm : Nm2 mg) (A : SayAll K fS c) : FnOk P w K mg base CX0 1 f fd ["self"] (spOf K T (spSStr c)) := by
  refine fnD G scSStr (fun ds w κ χ h => ?_) (fun cdv A' outer s H E ds w0 κ χ hr h => ?_)
  · obtain ⟨t, rfl, _⟩ := h
    rfl
  obtain ⟨t, rfl, k⟩ := h
  refine pssd_one (psd_ret ?_)
  refine pd_callTy SkE.call_str_str rfl hm.str bt_str ?_
  refine pad_cons ?_
  refine pd_fld (A t).cl (A t).nT ?_
  refine pd_var (i := 0) rfl rfl ?_
  refine ⟨_, say_txt, ?_⟩
  refine pad_nil ?_
  exact va_strS k
end
def kbond : Kd → Nat
  | .tr => 3
  | .fa => 3
  | .ne => 3
  | .an => 2
  | .or => 1
  | .kn => 3
  | .wh => 3
  | .co => 3
theorem kbond_eq (t : Tr) : kbond t.kd = bond t := by
  cases t with
  | bin a l r => cases a <;> rfl
  | md k g t => cases k <;> rfl
  | _ => rfl
/-- the classes' method m -/
def MethAll (K : PySem.W.Frag) (c : SC) (m qual : Str) (st : Stmt) : Prop := ∃ f fd, (∀ j : Kd, PySem.W.findIn K (.ref (c.cls j)) m = some (some (.ref f))) ∧ PySem.W.isFn K (.ref f) = true ∧ PySem.W.keepIn K (.ref f) = true ∧ Fun K m qual st f fd
/-- the classes' property m -/
def PropAll (K : PySem.W.Frag) (c : SC) (m qual : Str) (st : Stmt) : Prop := ∃ p f fd, (∀ j : Kd, PySem.W.findIn K (.ref (c.cls j)) m = some (some (.ref p))) ∧ PySem.W.specialIn K (.ref p) "__get__" = some (some (.builtin "property.__get__")) ∧ PySem.W.takesIn K (.ref p) = some true ∧ (∃ rest, PySem.W.recIn K p "property" = some (.ref f :: rest)) ∧ Fun K m qual st f fd
/-- C's own __init__ -/
def InitDef (K : PySem.W.Frag) (C : Addr) (qual : Str) (st : Stmt) : Prop := ∃ f fd, PySem.W.findIn K (.ref C) "__init__" = some (some (.ref f)) ∧ PySem.W.isFn K (.ref f) = true ∧ Fun K "__init__" qual st f fd
structure KF (P : Program) (K : PySem.W.Frag) (c : SC) (cS fS CN CG CC CT cc Pt cc2 Pt2 : Addr) : Prop where
  gT : glob K "Truth" c.cT
  gF : glob K "Fact" c.cF
  gN : glob K "Not" c.cN
  gA : glob K "And" c.cA
  gO : glob K "Or" c.cO
  gK : glob K "Knows" c.cK
  gW : glob K "Whether" c.cW
  gC : glob K "Common" c.cC
  gS : glob K "Saying" cS
  gBN : glob K "BadName" CN
  gBG : glob K "BadGroup" CG
  gBC : glob K "BadCount" CC
  gTE : glob K "ThinwallError" CT
  n_int : free K "int"
  n_str : free K "str"
  n_bool : free K "bool"
  n_list : free K "list"
  n_tuple : free K "tuple"
  n_len : free K "len"
  n_range : free K "range"
  n_enumerate : free K "enumerate"
  n_isinstance : free K "isinstance"
  n_super : free K "super"
  n_ValueError : free K "ValueError"
  n_reversed : free K "reversed"
  n_max : free K "max"
  n_sorted : free K "sorted"
  n_set : free K "set"
  n_all : free K "all"
  n_any : free K "any"
  letters : ∃ u, PySem.W.nsIn K mainGlobals "LETTERS" = some (some u) ∧ RelV (V.str ahT) u
  most : ∃ u, PySem.W.nsIn K mainGlobals "MOST_NESTED" = some (some u) ∧ RelV (V.int 12) u
  d1 : TopDef K "is_name" sIsN
  d2 : TopDef K "is_group" sIsG
  d3 : TopDef K "check_group" sCkG
  d4 : TopDef K "nested" sNested
  d5 : TopDef K "is_knowing" sIsK
  d6 : TopDef K "folded" sFolded
  d7 : TopDef K "_bound" sBound
  d8 : TopDef K "_refilled" sRefl
  d9 : TopDef K "_law_start" sStart
  d10 : TopDef K "_law_take" sTake
  d11 : TopDef K "_law_same" sSame
  d12 : TopDef K "_law_letters" sLet
  d13 : TopDef K "_law_name" sNam
  d14 : TopDef K "_law_group" sGrp
  d15 : TopDef K "_law_parts" sPts
  d16 : TopDef K "_law_tree" sTre
  d17 : TopDef K "_law_made" sMade
  d18 : TopDef K "_law_agrees" sAgr
  d19 : TopDef K "_law_plain" sPln
  d20 : TopDef K "_law_depth" sDep
  d21 : TopDef K "_law_positive" sPos
  d22 : TopDef K "_law_due" sDue
  d23 : TopDef K "_law_kind" sKind
  d24 : TopDef K "_law_shown" sShown
  d25 : TopDef K "_law_spoil" sSpoil
  d26 : TopDef K "_law_fill" sFill
  d27 : TopDef K "_law_table" sTable
  d28 : TopDef K "_law_filled" sFld
  d29 : TopDef K "_law_nested" sNst
  d30 : TopDef K "_law_bent_name" sBentN
  d31 : TopDef K "_law_is_name" sLisN
  d32 : TopDef K "_law_bent_group" sBentG
  d33 : TopDef K "_law_is_group" sLisG
  d34 : TopDef K "_law_count" sCnt
  d35 : TopDef K "_law_told" sTold
  d36 : TopDef K "law" sLaw
  dDoors : ∃ f fd, PySem.W.nsIn K mainGlobals "_law_doors" = some (some (.ref f)) ∧ FuncC K "_law_doors" "_law_doors" sDoors f fd (.ref cc2)
  dFilled : ∃ f fd, (∀ j : Kd, PySem.W.findIn K (.ref (c.cls j)) "filled" = some (some (.ref f))) ∧ PySem.W.isFn K (.ref f) = true ∧ FuncC K "filled" "Saying.filled" sFilled f fd (.ref cc)
  m1 : MethAll K c "parts" "Saying.parts" sParts
  m2 : MethAll K c "facts" "Saying.facts" sFacts
  m3 : MethAll K c "letters" "Saying.letters" sLetters
  m4 : MethAll K c "__invert__" "Saying.__invert__" sInvt
  m5 : MethAll K c "__and__" "Saying.__and__" sAndM
  m6 : MethAll K c "__or__" "Saying.__or__" sOrM
  m7 : MethAll K c "__len__" "Saying.__len__" sLenM
  p1 : PropAll K c "plain" "Saying.plain" sPlain
  p2 : PropAll K c "depth" "Saying.depth" sDepth
  p3 : PropAll K c "positive" "Saying.positive" sPosi
  strF : ∃ fd, PySem.W.isFn K (.ref fS) = true ∧ Fun K "__str__" "Saying.__str__" sSStr fS fd
  i1 : InitDef K c.cT "Truth.__init__" sIT
  i2 : InitDef K c.cF "Fact.__init__" sIF
  i3 : InitDef K c.cN "Not.__init__" sIN
  i4 : InitDef K c.cA "And.__init__" sIA
  i5 : InitDef K c.cO "Or.__init__" sIO
  i6 : InitDef K c.cK "Knows.__init__" sIK
  i7 : InitDef K c.cW "Whether.__init__" sIW
  i8 : InitDef K c.cC "Common.__init__" sIC
  makes : ∀ j : Kd, PySem.W.makesIn K (c.cls j) = true
  kpC : ∀ j : Kd, PySem.W.keepIn K (.ref (c.cls j)) = true
  cls : ∀ j : Kd, Cls K (c.cls j)
  nT : ∀ j : Kd, NoAttr K (c.cls j) "_text"
  nB : ∀ j : Kd, NoAttr K (c.cls j) "_below"
  bo : ∀ j : Kd, ∃ u, Con K (c.cls j) "BOND" (.int (kbond j)) u
  st : ∀ j : Kd, PySem.W.findIn K (.ref (c.cls j)) "__str__" = some (some (.ref fS))
  fm : ∀ j : Kd, PySem.W.findIn K (.ref (c.cls j)) "__format__" = some (some (.builtin "object.__format__"))
  mr : ∀ j : Kd, PySem.W.mroIn K (c.cls j) (.type "object") = some true
  kcc : ∀ j : Kd, PySem.W.findIn K (.ref (c.cls j)) "__class__" = some (some (.builtin "object.__class__"))
  kcg : PySem.W.specialIn K (.builtin "object.__class__") "__get__" = some (some (.builtin "getset_descriptor.__get__"))
  kct : PySem.W.takesIn K (.builtin "object.__class__") = some true
  sI : SayI K c
  kit : ∀ i j : Kd, PySem.W.kitOne K (.ref (c.cls i)) (.ref (c.cls j)) = some (decide (i = j))
  kitS : ∀ i : Kd, PySem.W.kitOne K (.ref (c.cls i)) (.ref cS) = some true
  noA : ∀ j : Kd, PySem.W.findIn K (.ref (c.cls j)) (dunderR Operator.BitAnd.info.2) = some none
  noO : ∀ j : Kd, PySem.W.findIn K (.ref (c.cls j)) (dunderR Operator.BitOr.info.2) = some none
  sf : ∀ j : Kd, PySem.W.selfFirst K (c.cls j) = true
  sub : ∀ i j : Kd, i ≠ j → PySem.W.subIn K (.ref (c.cls j)) (.ref (c.cls i)) = some false
  eN : ErrDef P K CN "BadName.__init__" "name" sBadName
  eG : ErrDef P K CG "BadGroup.__init__" "group" sBadGroup
  eC : ErrDef P K CC "BadCount.__init__" "count" sBadCount
  xnn : PySem.W.exmOne K (.ref CN) (.ref CN) = some true
  xgn : PySem.W.exmOne K (.ref CG) (.ref CN) = some false
  xgg : PySem.W.exmOne K (.ref CG) (.ref CG) = some true
  xcn : PySem.W.exmOne K (.ref CC) (.ref CN) = some false
  xcg : PySem.W.exmOne K (.ref CC) (.ref CG) = some false
  xcc : PySem.W.exmOne K (.ref CC) (.ref CC) = some true
  ecN : L2.ExcC K CN
  ecG : L2.ExcC K CG
  ecC : L2.ExcC K CC
  xfN : XfC K CN
  xfG : XfC K CG
  xfC : XfC K CC
  kNT : PySem.W.kitOne K (.ref CN) (.ref CT) = some true
  kNV : PySem.W.kitOne K (.ref CN) (.type "ValueError") = some true
  kNG : PySem.W.kitOne K (.ref CN) (.ref CG) = some false
  kGT : PySem.W.kitOne K (.ref CG) (.ref CT) = some true
  kGV : PySem.W.kitOne K (.ref CG) (.type "ValueError") = some true
  kGC : PySem.W.kitOne K (.ref CG) (.ref CC) = some false
  kCT : PySem.W.kitOne K (.ref CC) (.ref CT) = some true
  kCV : PySem.W.kitOne K (.ref CC) (.type "ValueError") = some true
  kCG : PySem.W.kitOne K (.ref CC) (.ref CG) = some false
  neP : Pt ≠ Pt2
end Tw

set_option Elab.async false
set_option linter.all false
set_option maxRecDepth 100000
set_option maxHeartbeats 4000000
namespace Tw
open PySem PySem.Spec PyProof.Rows L2 LamX DL
section
variable {P : Program} {w : PySem.World} {K : PySem.W.Frag} {mg : Str → Option Value} {base : Heap} {T : List (Addr × Str)} {c : SC} {cS fS CN CG CC CT cc Pt cc2 Pt2 : Addr} {h : Heap}
theorem haset_of {C : Addr} {x qual f : Str} {st : Stmt} (X : K.In h) (G : h.Ns mainGlobals mg) (gx : glob K x C) (ns : free K "super") (d : ErrDef P K C qual f st)
    (hb : ∀ (cl : List (Str × Addr)) (kV doc pm : Value) (an : Option Addr) (cdv ct : Value) (us : List Value), us.length = 2 → bindArgs (PySem.W.fnX "__init__" qual (defArgs st) (defBody st) (defScope st) cl .none kV doc pm an cdv ct) ⟨us, []⟩ = pure ((["self", f] : List Str).zip us))
    (ok : ∀ fI cc cda fd, SupTxt P K mg C fI cc cda qual st fd → OexC K C → PySem.W.findIn K (.ref C) f = some none → FnOk P w K mg base CX0 1 fI fd ["self", f] (spX1 C f strFits)) : HasET P w K mg base x C 1 f := by
  obtain ⟨fI, cc, cda, fd, h1, h2, h3, h4, h5⟩ := d
  have h1' : SupTxt P K mg C fI cc cda qual st fd := ⟨h1.ex, h1.code, h1.cell, h1.along, h1.opq, h1.sub, h1.selfc, PySem.W.mg_none_of X G ns, h1.top⟩
  refine ⟨fI, fd, ok fI cc cda fd h1' h2 h3, PySem.W.mg_of X G gx, h2, h4, h5, ?_⟩
  obtain ⟨oc, od, kV, doc, pm, an, ct, osl, rfl, _, _⟩ := h1.ex
  exact .all (hb _ kV doc pm an _ ct)
theorem hasmk_of {CX : CXT} {C : Addr} {x qual : Str} {st : Stmt} {k : Nat} {ps : List Str} {sp : SpD} (X : K.In h) (G : h.Ns mainGlobals mg) (gx : glob K x C) (mk : PySem.W.makesIn K C = true) (kp : PySem.W.keepIn K (.ref C) = true) (d : InitDef K C qual st)
    (hb : ∀ (kV doc pm : Value) (an : Option Addr) (cdv ct : Value) (us : List Value), us.length = ps.length → bindArgs (PySem.W.fnOf "__init__" qual (defArgs st) (defBody st) (defScope st) .none kV doc pm an cdv ct) ⟨us, []⟩ = pure (ps.zip us))
    (ok : ∀ f fd, Fun K "__init__" qual st f fd → FnOk P w K mg base CX k f fd ps (spOf K T sp)) : HasMk P w K mg base T CX x C k ps sp := by
  obtain ⟨f, fd, h1, h2, h3⟩ := d
  exact ⟨f, fd, ok f fd h3, PySem.W.mg_of X G gx, ⟨mk, h1, h2, kp⟩, h3.binds (ps := ps) hb⟩
theorem sayM_of {m qual : Str} {st : Stmt} {k : Nat} {sp : SpD} (d : MethAll K c m qual st)
    (hb : ∀ (kV doc pm : Value) (an : Option Addr) (cdv ct : Value) (us : List Value), us.length = (["self"] : List Str).length → bindArgs (PySem.W.fnOf m qual (defArgs st) (defBody st) (defScope st) .none kV doc pm an cdv ct) ⟨us, []⟩ = pure ((["self"] : List Str).zip us))
    (ok : ∀ f fd, Fun K m qual st f fd → FnOk P w K mg base CX0 k f fd ["self"] (spOf K T sp)) : SayM P w K mg base T c m k sp := fun t => by
  obtain ⟨f, fd, h1, h2, h3, h4⟩ := d
  have e := h1 t.kd
  rw [cls_kd] at e
  exact ⟨f, fd, ok f fd h4, ⟨e, h2, h3⟩, h4.binds (ps := ["self"]) hb⟩
theorem sayP_of {m qual : Str} {st : Stmt} {k : Nat} {sp : SpD} (d : PropAll K c m qual st)
    (hb : ∀ (kV doc pm : Value) (an : Option Addr) (cdv ct : Value) (us : List Value), us.length = (["self"] : List Str).length → bindArgs (PySem.W.fnOf m qual (defArgs st) (defBody st) (defScope st) .none kV doc pm an cdv ct) ⟨us, []⟩ = pure ((["self"] : List Str).zip us))
    (ok : ∀ f fd, Fun K m qual st f fd → FnOk P w K mg base CX0 k f fd ["self"] (spOf K T sp)) : SayP P w K mg base T c m k sp := fun t => by
  obtain ⟨p, f, fd, h1, h2, h3, h4, h5⟩ := d
  have e := h1 t.kd
  rw [cls_kd] at e
  exact ⟨p, f, fd, ⟨e, h2, h3, h4⟩, ok f fd h5, h5.binds (ps := ["self"]) hb⟩
theorem fam_of {op : Operator} {m qual : Str} {st : Stmt} {f : Addr} (hm : PySem.dunder op.info.2 = m) (h1 : ∀ j : Kd, PySem.W.findIn K (.ref (c.cls j)) m = some (some (.ref f))) (h2 : PySem.W.isFn K (.ref f) = true)
    (no : ∀ j : Kd, PySem.W.findIn K (.ref (c.cls j)) (dunderR op.info.2) = some none) (sf : ∀ j : Kd, PySem.W.selfFirst K (c.cls j) = true) (sub : ∀ i j : Kd, i ≠ j → PySem.W.subIn K (.ref (c.cls j)) (.ref (c.cls i)) = some false) : Fam K (fun C => ∃ t, C = c.of t) op f := by
  refine ⟨fun C ⟨t, e⟩ => ?_, fun C ⟨t, e⟩ => ?_, fun C ⟨t, e⟩ => ?_, fun C C2 ⟨t, e⟩ ⟨t2, e2⟩ ne => ?_, h2⟩
  · rw [e, ← cls_kd, hm]
    exact h1 _
  · rw [e, ← cls_kd]
    exact no _
  · rw [e, ← cls_kd]
    exact sf _
  · rw [e, e2, ← cls_kd, ← cls_kd]
    refine sub _ _ fun z => ne ?_
    rw [e, e2, ← cls_kd, ← cls_kd, z]
theorem all_mk {fa : Addr} (X : K.In h) (G : h.Ns mainGlobals mg) (F : KF P K c cS fS CN CG CC CT cc Pt cc2 Pt2) (hfa : mg "law" = some (.ref fa)) :
    ∃ fd : FuncData, (∀ (s : Shared) (us : List Value), us.length = (["script"] : List Str).length → BindsTo s fd ⟨us, []⟩ ((["script"] : List Str).zip us)) ∧
      ∀ base : Heap, TabB base mg cc Pt → TabB base mg cc2 Pt2 → FnOk P w K mg base CX0 126 fa fd ["script"] (spOf K [(Pt, qFil), (Pt2, qDoo)] spLaw) := by
  obtain ⟨fL, fdL, l1, l2⟩ := F.d36
  have e := hfa.symm.trans (PySem.W.mg_of X G l1)
  cases e
  have nn : ∀ {x : Str}, free K x → mg x = none := fun z => PySem.W.mg_none_of X G z
  have gg : ∀ {x : Str} {C : Addr}, glob K x C → mg x = some (.ref C) := fun z => PySem.W.mg_of X G z
  have hm : Nm2 mg := ⟨nn F.n_int, nn F.n_str, nn F.n_bool, nn F.n_list, nn F.n_tuple, nn F.n_len, nn F.n_range, nn F.n_enumerate, nn F.n_isinstance⟩
  have hs : NmS mg c cS := ⟨gg F.gT, gg F.gF, gg F.gN, gg F.gA, gg F.gO, gg F.gK, gg F.gW, gg F.gC, gg F.gS⟩
  have er : ErrM K mg CN CG CC CT := by
    obtain ⟨_, _, _, _, _, _, n1, _, _⟩ := F.eN
    obtain ⟨_, _, _, _, _, _, n2, _, _⟩ := F.eG
    obtain ⟨_, _, _, _, _, _, n3, _, _⟩ := F.eC
    exact ⟨gg F.gBN, gg F.gBG, gg F.gBC, gg F.gTE, nn F.n_ValueError, F.xnn, F.xgn, F.xgg, F.xcn, F.xcg, F.xcc, F.ecN, F.ecG, F.ecC, F.xfN, F.xfG, F.xfC, n1, n2, n3, F.kNT, F.kNV, F.kNG, F.kGT, F.kGV, F.kGC, F.kCT, F.kCV, F.kCG⟩
  have A : SayAll K fS c := fun t => by
    rw [← cls_kd, ← kbond_eq]
    exact ⟨F.cls _, F.nT _, F.nB _, F.bo _, F.st _, F.fm _, F.mr _⟩
  have I := F.sI
  have Q : SayQ K c cS := by
    refine ⟨fun t => ?_, fun t j => ?_, fun t => ?_⟩
    · rw [← cls_kd]
      exact ⟨F.cls _, F.kcc _, F.kcg, F.kct, F.mr _⟩
    · rw [← cls_kd]
      exact F.kit _ _
    · rw [← cls_kd]
      exact F.kitS _
  refine ⟨fdL, fun s us hu => ?_, fun base TB TB2 => ?_⟩
  · obtain ⟨oc, od, kV, doc, pm, an, cdv, ct, osl, rfl, _, _⟩ := l2.ex
    exact match us, hu with | [_], _ => .of_eq rfl
  generalize hT : [(Pt, qFil), (Pt2, qDoo)] = T
  have hEN : HasET P w K mg base "BadName" CN 1 "name" := haset_of X G F.gBN F.n_super F.eN (fun _ _ _ _ _ _ _ us hl => match us, hl with | [_, _], _ => rfl) fun _ _ _ _ a b c => ok_bn a b c
  have hEG : HasET P w K mg base "BadGroup" CG 1 "group" := haset_of X G F.gBG F.n_super F.eG (fun _ _ _ _ _ _ _ us hl => match us, hl with | [_, _], _ => rfl) fun _ _ _ _ a b c => ok_bg a b c
  have hEC : HasE P w K mg base "BadCount" CC 1 "count" := hase_of X G F.gBC F.n_super F.eC (fun _ _ _ _ _ _ _ us hl => match us, hl with | [_, _], _ => rfl) fun _ _ _ _ a b c => ok_bc a b c
  obtain ⟨uL, vL, rL⟩ := F.letters
  obtain ⟨uM, vM, rM⟩ := F.most
  have mL : mg "LETTERS" = some uL := PySem.W.mg_of X G vL
  have mM : mg "MOST_NESTED" = some uM := PySem.W.mg_of X G vM
  have hIsN : HasF P w K mg base T CX0 "is_name" 1 ["text"] spIsN := has_of X G F.d1 (fun _ _ _ _ _ _ us hl => match us, hl with | [_], _ => rfl) fun _ _ g _ _ => ok_isn g hm (nn F.n_all)
  have hIsG : HasF P w K mg base T CX0 "is_group" 1 ["text"] spIsG := has_of X G F.d2 (fun _ _ _ _ _ _ us hl => match us, hl with | [_], _ => rfl) fun _ _ g _ _ => ok_isg g hm mL rL
  have hCk : HasF P w K mg base T (L2.CX P w) "check_group" 3 ["group"] (spCkG CG) := has_of X G F.d3 (fun _ _ _ _ _ _ us hl => match us, hl with | [_], _ => rfl) fun _ _ g _ _ => ok_ckg g hIsG hEG
  have hIsK : HasF P w K mg base T CX0 "is_knowing" 1 ["saying"] (spIsK c) := has_of X G F.d5 (fun _ _ _ _ _ _ us hl => match us, hl with | [_], _ => rfl) fun _ _ g _ _ => ok_isk g hm hs Q
  have hStr : StrK P w K mg base T c fS := by
    obtain ⟨fd, h1, h2⟩ := F.strF
    exact ⟨⟨fd, ok_sstr h2 hm A, h1, h2.binds (ps := ["self"]) (fun _ _ _ _ _ _ us hl => match us, hl with | [_], _ => rfl)⟩, A⟩
  have hBo : HasF P w K mg base T CX0 "_bound" 4 ["saying", "bond"] (spBound c) := has_of X G F.d7 (fun _ _ _ _ _ _ us hl => match us, hl with | [_, _], _ => rfl) fun _ _ g _ _ => ok_bound g hm hStr
  have kT : HasMk P w K mg base T CX0 "Truth" c.cT 1 ["self", "value"] (spIT c) := hasmk_of X G F.gT (F.makes .tr) (F.kpC .tr) F.i1 (fun _ _ _ _ _ _ us hl => match us, hl with | [_, _], _ => rfl) fun _ _ g => ok_it g A I
  have kF : HasMk P w K mg base T (L2.CX P w) "Fact" c.cF 3 ["self", "name"] (spIF c CN) := hasmk_of X G F.gF (F.makes .fa) (F.kpC .fa) F.i2 (fun _ _ _ _ _ _ us hl => match us, hl with | [_, _], _ => rfl) fun _ _ g => ok_if g A I hIsN hEN
  have kN : HasMk P w K mg base T CX0 "Not" c.cN 5 ["self", "inner"] (spIN c) := hasmk_of X G F.gN (F.makes .ne) (F.kpC .ne) F.i3 (fun _ _ _ _ _ _ us hl => match us, hl with | [_, _], _ => rfl) fun _ _ g => ok_in g A I hBo
  have kA : HasMk P w K mg base T CX0 "And" c.cA 5 ["self", "first", "second"] (spIB c true) := hasmk_of X G F.gA (F.makes .an) (F.kpC .an) F.i4 (fun _ _ _ _ _ _ us hl => match us, hl with | [_, _, _], _ => rfl) fun _ _ g => ok_iand g A I hBo
  have kO : HasMk P w K mg base T CX0 "Or" c.cO 5 ["self", "first", "second"] (spIB c false) := hasmk_of X G F.gO (F.makes .or) (F.kpC .or) F.i5 (fun _ _ _ _ _ _ us hl => match us, hl with | [_, _, _], _ => rfl) fun _ _ g => ok_ior g A I hBo
  have kK : HasMk P w K mg base T (L2.CX P w) "Knows" c.cK 5 ["self", "group", "inner"] (spIM c .kn CG) := hasmk_of X G F.gK (F.makes .kn) (F.kpC .kn) F.i6 (fun _ _ _ _ _ _ us hl => match us, hl with | [_, _, _], _ => rfl) fun _ _ g => ok_iknows g A I hBo hCk
  have kW : HasMk P w K mg base T (L2.CX P w) "Whether" c.cW 5 ["self", "group", "inner"] (spIM c .wh CG) := hasmk_of X G F.gW (F.makes .wh) (F.kpC .wh) F.i7 (fun _ _ _ _ _ _ us hl => match us, hl with | [_, _, _], _ => rfl) fun _ _ g => ok_iwhether g A I hBo hCk
  have kC : HasMk P w K mg base T (L2.CX P w) "Common" c.cC 5 ["self", "group", "inner"] (spIM c .co CG) := hasmk_of X G F.gC (F.makes .co) (F.kpC .co) F.i8 (fun _ _ _ _ _ _ us hl => match us, hl with | [_, _, _], _ => rfl) fun _ _ g => ok_icommon g A I hBo hCk
  have M : MksK P w K mg base T c CN CG := ⟨kT, kF, kN, kA, kO, kK, kW, kC⟩
  have mPa : SayM P w K mg base T c "parts" 1 (spParts c) := sayM_of F.m1 (fun _ _ _ _ _ _ us hl => match us, hl with | [_], _ => rfl) fun _ _ g => ok_parts g A
  have mFa : SayM P w K mg base T c "facts" 2 (spFacts c) := sayM_of F.m2 (fun _ _ _ _ _ _ us hl => match us, hl with | [_], _ => rfl) fun _ _ g => ok_facts g hm (nn F.n_sorted) hs Q A I mPa
  have mLe : SayM P w K mg base T c "letters" 2 (spLetters c) := sayM_of F.m3 (fun _ _ _ _ _ _ us hl => match us, hl with | [_], _ => rfl) fun _ _ g => ok_letters g hm (nn F.n_sorted) (nn F.n_set) hIsK A I mPa
  have mPl : SayP P w K mg base T c "plain" 2 (spPlain c) := sayP_of F.p1 (fun _ _ _ _ _ _ us hl => match us, hl with | [_], _ => rfl) fun _ _ g => ok_plain g (nn F.n_any) hIsK A mPa
  have mDe : SayP P w K mg base T c "depth" 2 (spDepth c) := sayP_of F.p2 (fun _ _ _ _ _ _ us hl => match us, hl with | [_], _ => rfl) fun _ _ g => ok_depth g (nn F.n_max) hIsK A
  have mPo : SayP P w K mg base T c "positive" 4 (spPosi c) := sayP_of F.p3 (fun _ _ _ _ _ _ us hl => match us, hl with | [_], _ => rfl) fun _ _ g => ok_posi g hm (nn F.n_all) hs Q A I mPa mPl
  have Z : ShowK P w K mg base T c := by
    refine ⟨mPa, mFa, mLe, mPl, mDe, mPo, ?_⟩
    obtain ⟨f, fd, h1, h2, h3, h4⟩ := F.m7
    exact ⟨f, fd, ok_lenM h4 hm A mPa, fun t => by rw [← cls_kd]; exact h1 _, h2, h4.binds (ps := ["self"]) (fun _ _ _ _ _ _ us hl => match us, hl with | [_], _ => rfl)⟩
  have O : OpsK P w K mg base T c := by
    refine ⟨?_, ?_, ?_⟩
    · obtain ⟨f, fd, h1, h2, h3, h4⟩ := F.m4
      exact ⟨f, fd, ok_invt h4 kN, fun C ⟨t, e⟩ => by rw [e, ← cls_kd]; exact h1 _, h2, h4.binds (ps := ["self"]) (fun _ _ _ _ _ _ us hl => match us, hl with | [_], _ => rfl)⟩
    · obtain ⟨f, fd, h1, h2, h3, h4⟩ := F.m5
      exact ⟨f, fd, ok_andM h4 kA, fam_of (m := "__and__") (qual := "Saying.__and__") (st := sAndM) rfl h1 h2 F.noA F.sf F.sub, h4.binds (ps := ["self", "other"]) (fun _ _ _ _ _ _ us hl => match us, hl with | [_, _], _ => rfl)⟩
    · obtain ⟨f, fd, h1, h2, h3, h4⟩ := F.m6
      exact ⟨f, fd, ok_orM h4 kO, fam_of (m := "__or__") (qual := "Saying.__or__") (st := sOrM) rfl h1 h2 F.noO F.sf F.sub, h4.binds (ps := ["self", "other"]) (fun _ _ _ _ _ _ us hl => match us, hl with | [_, _], _ => rfl)⟩
  have hNe : HasF P w K mg base T (L2.CX P w) "nested" 7 ["group", "saying", "count"] (spNested c CG CC) := has_of X G F.d4 (fun _ _ _ _ _ _ us hl => match us, hl with | [_, _, _], _ => rfl) fun _ _ g _ _ => ok_nested g mM rM hm.range hCk hEC kK
  have hRf : HasF P w K mg base T (L2.CX P w) "_refilled" 7 ["part", "below", "sayings"] (spRefl c) := has_of X G F.d8 (fun _ _ _ _ _ _ us hl => match us, hl with | [_, _, _], _ => rfl) fun _ _ g _ _ => ok_refl g hm hs Q A I kN kA kO kK kW kC
  have hFo : FoldK K mg := by
    obtain ⟨g, fd, h1, h2⟩ := F.d6
    exact ⟨g, fd, h2, gg h1, h2.binds (ps := ["saying", "combine"]) (fun _ _ _ _ _ _ us hl => match us, hl with | [_, _], _ => rfl)⟩
  have mFil : SayFil P w K mg base T c := fun t => by
    obtain ⟨f, fd, h1, h2, h3⟩ := F.dFilled
    have e := h1 t.kd
    rw [cls_kd] at e
    refine ⟨f, ⟨e, h2, h3.kp⟩, ok_filled h3 TB ?_ ?_ (nn F.n_reversed) A mPa hFo hRf⟩
    · rw [← hT]
      exact List.mem_cons_self ..
    · intro p hp e
      rw [← hT] at hp
      rcases List.mem_cons.mp hp with rfl | hp
      · rfl
      · rw [List.mem_singleton.mp hp] at e
        exact absurd e.symm F.neP
  have hSt : HasF P w K mg base T CX0 "_law_start" 1 ["script"] spStart := has_of X G F.d9 (fun _ _ _ _ _ _ us hl => match us, hl with | [_], _ => rfl) fun _ _ g _ _ => ok_start g hm.nm
  have hTk : HasF P w K mg base T CX0 "_law_take" 1 ["bag", "many"] spTake := has_of X G F.d10 (fun _ _ _ _ _ _ us hl => match us, hl with | [_, _], _ => rfl) fun _ _ g _ _ => ok_take g hm.nm
  have hSm : ∀ n, HasF P w K mg base T CX0 "_law_same" (n + 1) ["actual", "due"] (spSame n) := fun n => has_of X G F.d11 (fun _ _ _ _ _ _ us hl => match us, hl with | [_, _], _ => rfl) fun _ _ g m b => ok_same g hm m b n
  have hLe : HasF P w K mg base T CX0 "_law_letters" 2 ["bag", "text", "many"] spLet := has_of X G F.d12 (fun _ _ _ _ _ _ us hl => match us, hl with | [_, _, _], _ => rfl) fun _ _ g _ _ => ok_let g hm hTk
  have hNa : HasF P w K mg base T CX0 "_law_name" 3 ["bag"] spNam := has_of X G F.d13 (fun _ _ _ _ _ _ us hl => match us, hl with | [_], _ => rfl) fun _ _ g _ _ => ok_nam g hm hTk hLe
  have hGr : HasF P w K mg base T CX0 "_law_group" 2 ["bag"] spGrp := has_of X G F.d14 (fun _ _ _ _ _ _ us hl => match us, hl with | [_], _ => rfl) fun _ _ g _ _ => ok_grp g hm hTk
  have hPt : ∀ m, HasF P w K mg base T CX0 "_law_parts" (m + 1) ["tree"] (spPts m) := fun n => has_of X G F.d15 (fun _ _ _ _ _ _ us hl => match us, hl with | [_], _ => rfl) fun _ _ g m b => ok_pts g m b n
  have hTr : HasF P w K mg base T CX0 "_law_tree" 26 ["bag", "room"] (spTre 12) := has_of X G F.d16 (fun _ _ _ _ _ _ us hl => match us, hl with | [_, _], _ => rfl) fun _ _ g m b => ok_tre g m b hm hTk hNa hGr (hPt 12) 12
  have hMa : HasF P w K mg base T CX0 "_law_made" 69 ["tree", "way"] (spMade c 60) := has_of X G F.d17 (fun _ _ _ _ _ _ us hl => match us, hl with | [_, _], _ => rfl) fun _ _ g m b => ok_made g m b A O M 60
  have hAg : HasF P w K mg base T CX0 "_law_agrees" 62 ["saying", "tree"] (spAgr c 60) := has_of X G F.d18 (fun _ _ _ _ _ _ us hl => match us, hl with | [_, _], _ => rfl) fun _ _ g m b => ok_agr g m b hm hs Q A I hSm 60
  have hPl : HasF P w K mg base T CX0 "_law_plain" 62 ["tree"] spPln := has_of X G F.d19 (fun _ _ _ _ _ _ us hl => match us, hl with | [_], _ => rfl) fun _ _ g _ _ => ok_pln g (hPt 60)
  have hDe : HasF P w K mg base T CX0 "_law_depth" 61 ["tree"] (spDep 60) := has_of X G F.d20 (fun _ _ _ _ _ _ us hl => match us, hl with | [_], _ => rfl) fun _ _ g m b => ok_dep g m b (nn F.n_max) 60
  have hPo : HasF P w K mg base T CX0 "_law_positive" 123 ["tree"] (spPos 60) := has_of X G F.d21 (fun _ _ _ _ _ _ us hl => match us, hl with | [_], _ => rfl) fun _ _ g m b => ok_pos g m b hPl 60
  have hDu : HasF P w K mg base T CX0 "_law_due" 124 ["tree"] spDue := has_of X G F.d22 (fun _ _ _ _ _ _ us hl => match us, hl with | [_], _ => rfl) fun _ _ g _ _ => ok_due g hm (nn F.n_sorted) (hPt 60) hPl hDe hPo
  have hKi : HasF P w K mg base T CX0 "_law_kind" 1 ["saying"] (spKind c) := has_of X G F.d23 (fun _ _ _ _ _ _ us hl => match us, hl with | [_], _ => rfl) fun _ _ g _ _ => ok_kind g hm hs Q
  have hSh : HasF P w K mg base T CX0 "_law_shown" 125 ["saying", "tree"] (spShown c) := has_of X G F.d24 (fun _ _ _ _ _ _ us hl => match us, hl with | [_, _], _ => rfl) fun _ _ g _ _ => ok_shown g hm A Z hSm (hPt 60) hDu hAg hKi
  have hSp : HasF P w K mg base T CX0 "_law_spoil" 3 ["saying"] (spSpoil c) := has_of X G F.d25 (fun _ _ _ _ _ _ us hl => match us, hl with | [_], _ => rfl) fun _ _ g _ _ => ok_spoil g A Z
  have hFi : HasF P w K mg base T CX0 "_law_fill" 11 ["saying", "way", "one", "two"] (spFill c) := has_of X G F.d26 (fun _ _ _ _ _ _ us hl => match us, hl with | [_, _, _, _], _ => rfl) fun _ _ g _ _ => ok_fill g A mFil
  have hTb : HasF P w K mg base T CX0 "_law_table" 1 ["way", "one", "two"] spTbl := has_of X G F.d27 (fun _ _ _ _ _ _ us hl => match us, hl with | [_, _, _], _ => rfl) fun _ _ g _ _ => ok_table g
  have hFd : HasF P w K mg base T CX0 "_law_filled" 61 ["tree", "table"] (spFld 60) := has_of X G F.d28 (fun _ _ _ _ _ _ us hl => match us, hl with | [_, _], _ => rfl) fun _ _ g m b => ok_fld g m b 60
  have hNs : HasF P w K mg base T CX0 "_law_nested" 1 ["tree", "group", "count"] spNst := has_of X G F.d29 (fun _ _ _ _ _ _ us hl => match us, hl with | [_, _, _], _ => rfl) fun _ _ g _ _ => ok_nst g hm
  have hBn : HasF P w K mg base T CX0 "_law_bent_name" 4 ["bag"] spBent := has_of X G F.d30 (fun _ _ _ _ _ _ us hl => match us, hl with | [_], _ => rfl) fun _ _ g _ _ => ok_bentn g hm hTk hNa hLe
  have hLn : HasF P w K mg base T CX0 "_law_is_name" 1 ["text"] spLisN := has_of X G F.d31 (fun _ _ _ _ _ _ us hl => match us, hl with | [_], _ => rfl) fun _ _ g _ _ => ok_lisn g hm
  have hBg : HasF P w K mg base T CX0 "_law_bent_group" 3 ["bag"] spBent := has_of X G F.d32 (fun _ _ _ _ _ _ us hl => match us, hl with | [_], _ => rfl) fun _ _ g _ _ => ok_bentg g hm hTk hGr
  have hLg : HasF P w K mg base T CX0 "_law_is_group" 1 ["text"] spLisG := has_of X G F.d33 (fun _ _ _ _ _ _ us hl => match us, hl with | [_], _ => rfl) fun _ _ g _ _ => ok_lisg g hm
  have hCt : HasF P w K mg base T CX0 "_law_count" 2 ["bag"] spCnt := has_of X G F.d34 (fun _ _ _ _ _ _ us hl => match us, hl with | [_], _ => rfl) fun _ _ g _ _ => ok_cnt g hTk
  have tOk : ToldOk K mg := by
    obtain ⟨g, fd, h1, h2⟩ := F.d35
    exact ⟨g, fd, h2, gg h1, h2.binds (ps := ["action", "tree"]) (fun _ _ _ _ _ _ us hl => match us, hl with | [_, _], _ => rfl)⟩
  have hDo : HasF P w K mg base T CX0 "_law_doors" 64 ["bag", "saying", "tree"] (spDoors c) := by
    obtain ⟨f, fd, h1, h2⟩ := F.dDoors
    have hb := h2.fun.binds (ps := ["bag", "saying", "tree"]) (fun _ _ _ _ _ _ us hl => match us, hl with | [_, _, _], _ => rfl)
    refine ⟨f, fd, ok_doors h2 hm hs Q er tOk ⟨kF, kK, kW, kC, hNe⟩ ⟨cc2, Pt2, TB2, rfl, ?_, ?_⟩ hSm hAg hBn hBg hCt hLn hLg hNs, gg h1, h2.kp, hb⟩
    · rw [← hT]
      exact List.mem_cons_of_mem _ (List.mem_singleton.mpr rfl)
    · intro p hp e
      rw [← hT] at hp
      rcases List.mem_cons.mp hp with rfl | hp
      · exact absurd e F.neP
      · rw [List.mem_singleton.mp hp]
  exact ok_law l2 hSt hTk hTr hMa hSh hSp hFi hFd hTb hGr hNe hNs hDo
end
end Tw

set_option Elab.async false
set_option linter.all false
set_option maxRecDepth 100000
set_option maxHeartbeats 2000000
namespace Tw
open PySem PySem.Spec PyProof.Rows L2 LamX DL
theorem law_at {l : PySem.W.OpenLaw} {w : PySem.World} {K : PySem.W.Frag} {mg : Str → Option Value} {h : Heap} {fa aT aF aN aA aO aK aW aC cS fS CN CG CC CT cc Pt cc2 Pt2 : Addr} {n : Nat} (X : K.In h) (G : h.Ns mainGlobals mg) (hfa : mg "law" = some (.ref fa)) (F : KF l.prog K ⟨aT, aF, aN, aA, aO, aK, aW, aC⟩ cS fS CN CG CC CT cc Pt cc2 Pt2)
    (hT : h.get? Pt = some { cls := .none, data := .fields #[] }) (hT2 : h.get? Pt2 = some { cls := .none, data := .fields #[] }) (nT : K.lookup Pt = none) (nT2 : K.lookup Pt2 = none) (hc : PySem.W.codeHdIn K cc Pt = true) (hc2 : PySem.W.codeHdIn K cc2 Pt2 = true) : LawAtS l w K CX0 126 n "script" mg fa h := by
  obtain ⟨fd, h1, h2⟩ := all_mk (P := l.prog) (w := w) X G F hfa
  refine ⟨fd, [(cc, Pt), (cc2, Pt2)], _, ?_, ?_, ?_, fun s u => h1 s [u] rfl, ?_, fun base _ _ TB => h2 base (TB _ (List.mem_cons_self ..)) (TB _ (List.mem_cons_of_mem _ (List.mem_singleton.mpr rfl)))⟩
  · intro p hp
    rcases List.mem_cons.mp hp with rfl | hp
    · exact hT
    · rw [List.mem_singleton.mp hp]
      exact hT2
  · intro p hp
    rcases List.mem_cons.mp hp with rfl | hp
    · exact nT
    · rw [List.mem_singleton.mp hp]
      exact nT2
  · intro p hp
    rcases List.mem_cons.mp hp with rfl | hp
    · exact PySem.W.codeHd_of_K X hc
    · rw [List.mem_singleton.mp hp]
      exact PySem.W.codeHd_of_K X hc2
  · intro H a ns _ _ hH hS
    have hPt : H Pt = some (.tbl #[]) := hH _ (List.mem_cons_self ..)
    have hPt2 : H Pt2 = some (.tbl #[]) := hH _ (List.mem_cons_of_mem _ (List.mem_singleton.mpr rfl))
    obtain ⟨S, hq, hs, hn⟩ : ∃ S : Hp, SqL K S a (ns.map V.int) ∧ Same S H ∧ ∀ b ps, S b ≠ some (.tbl ps) := by
      rcases hS with hr | hk
      · refine ⟨fun b => if b = a then H a else none, .inl ?_, fun b x q => ?_, fun b ps q => ?_⟩
        · rcases hr with e | ⟨ob, e⟩
          · exact .inl ((if_pos rfl).trans e)
          · exact .inr ⟨ob, (if_pos rfl).trans e⟩
        · have q' : (if b = a then H a else none) = some x := q
          by_cases e : b = a
          · rw [if_pos e] at q'
            rw [e]
            exact q'
          · rw [if_neg e] at q'
            cases q'
        · have q' : (if b = a then H a else none) = some (.tbl ps) := q
          by_cases e : b = a
          · rw [if_pos e] at q'
            rcases hr with e | ⟨ob, e⟩
            · rw [e] at q'
              cases q'
            · rw [e] at q'
              cases q'
          · rw [if_neg e] at q'
            cases q'
      · exact ⟨fun _ => none, .inr hk, (fun b x q => by cases q), fun b ps q => by cases q⟩
    have rl : ∀ l : List Int, RepL K S (l.map I) (l.map V.int) := by
      intro l
      induction l with
      | nil => rfl
      | cons x l ih => exact ⟨V.int x, _, rfl, rfl, ih⟩
    refine ⟨[.rd (ns.map I)], fun _ => none, fun _ => none, S, fun d _ => d = B true, noX, ⟨ns, rfl, ⟨0, 1, rfl, rfl, by decide⟩, fun _ => rfl⟩, ?_, ?_, ?_, fun _ _ _ _ _ _ _ z => z.elim⟩
    · exact ⟨.ref a, [], rfl, ⟨a, ns.map V.int, rfl, hq, rl ns⟩, rfl⟩
    · refine ⟨hs, hn, (fun b k q => by cases q), (fun b x q => by cases q), ?_, fun b ps q => by cases q⟩
      intro p hp
      rcases List.mem_cons.mp hp with rfl | hp
      · exact TabS.nil hPt
      · rw [List.mem_singleton.mp hp]
        exact TabS.nil hPt2
    · rintro d w' v S' H' rfl s1 W1 r
      exact r
end Tw

set_option Elab.async false
set_option linter.all false
open PySem PySem.W PyProof.Rows
set_option maxRecDepth 100000 in
set_option maxHeartbeats 0 in
theorem PySem.Challenge.cw_thinwall_k07_parts_filled_and_nested_holds : PySem.Challenge.rw_thinwall_k07_parts_filled_and_nested.Holds := by
  w_on; o_law; k_head; (case hw => w_witness2)
  k_fill
  refine LamX.walk_ofTs (l := PySem.Challenge.rw_thinwall_k07_parts_filled_and_nested) (n := 63) (k := 126) (CX := fun _ => L2.CX0) (x := "script") rfl (by decide) rfl ⟨rfl, by decide, by decide⟩ (fun w h Y => PySem.W.km_in_of Y) ?FF (fun _ _ _ _ _ z => z)
  intro w mg fa h Y X G hfa
  refine' Tw.law_at X G hfa ⟨?gT, ?gF, ?gN, ?gA, ?gO, ?gK, ?gW, ?gC, ?gS, ?gBN, ?gBG, ?gBC, ?gTE, ?n_int, ?n_str, ?n_bool, ?n_list, ?n_tuple, ?n_len, ?n_range, ?n_enumerate, ?n_isinstance, ?n_super, ?n_ValueError, ?n_reversed, ?n_max, ?n_sorted, ?n_set, ?n_all, ?n_any, ?letters, ?most, ?d1, ?d2, ?d3, ?d4, ?d5, ?d6, ?d7, ?d8, ?d9, ?d10, ?d11, ?d12, ?d13, ?d14, ?d15, ?d16, ?d17, ?d18, ?d19, ?d20, ?d21, ?d22, ?d23, ?d24, ?d25, ?d26, ?d27, ?d28, ?d29, ?d30, ?d31, ?d32, ?d33, ?d34, ?d35, ?d36, ?dDoors, ?dFilled, ?m1, ?m2, ?m3, ?m4, ?m5, ?m6, ?m7, ?p1, ?p2, ?p3, ?strF, ?i1, ?i2, ?i3, ?i4, ?i5, ?i6, ?i7, ?i8, ?makes, ?kpC, ?cls, ?nT, ?nB, ?bo, ?st, ?fm, ?mr, ?kcc, ?kcg, ?kct, ?sI, ?kit, ?kitS, ?noA, ?noO, ?sf, ?sub, ?eN, ?eG, ?eC, ?xnn, ?xgn, ?xgg, ?xcn, ?xcg, ?xcc, ?ecN, ?ecG, ?ecC, ?xfN, ?xfG, ?xfC, ?kNT, ?kNV, ?kNG, ?kGT, ?kGV, ?kGC, ?kCT, ?kCV, ?kCG, ?neP⟩ (PySem.W.km_tabs_of Y _ (List.mem_cons_of_mem _ (List.mem_singleton.mpr rfl))) (PySem.W.km_tabs_of Y _ (List.mem_cons_self ..)) ?nTab ?nTab2 ?hcd ?hcd2
  (case gT => (first | k_is | kit_is | ks_is | rfl | decide +kernel))
  (case gF => (first | k_is | kit_is | ks_is | rfl | decide +kernel))
  (case gN => (first | k_is | kit_is | ks_is | rfl | decide +kernel))
  (case gA => (first | k_is | kit_is | ks_is | rfl | decide +kernel))
  (case gO => (first | k_is | kit_is | ks_is | rfl | decide +kernel))
  (case gK => (first | k_is | kit_is | ks_is | rfl | decide +kernel))
  (case gW => (first | k_is | kit_is | ks_is | rfl | decide +kernel))
  (case gC => (first | k_is | kit_is | ks_is | rfl | decide +kernel))
  (case gS => (first | k_is | kit_is | ks_is | rfl | decide +kernel))
  (case gBN => (first | k_is | kit_is | ks_is | rfl | decide +kernel))
  (case gBG => (first | k_is | kit_is | ks_is | rfl | decide +kernel))
  (case gBC => (first | k_is | kit_is | ks_is | rfl | decide +kernel))
  (case gTE => (first | k_is | kit_is | ks_is | rfl | decide +kernel))
  (case n_int => (first | k_is | kit_is | ks_is | rfl | decide +kernel))
  (case n_str => (first | k_is | kit_is | ks_is | rfl | decide +kernel))
  (case n_bool => (first | k_is | kit_is | ks_is | rfl | decide +kernel))
  (case n_list => (first | k_is | kit_is | ks_is | rfl | decide +kernel))
  (case n_tuple => (first | k_is | kit_is | ks_is | rfl | decide +kernel))
  (case n_len => (first | k_is | kit_is | ks_is | rfl | decide +kernel))
  (case n_range => (first | k_is | kit_is | ks_is | rfl | decide +kernel))
  (case n_enumerate => (first | k_is | kit_is | ks_is | rfl | decide +kernel))
  (case n_isinstance => (first | k_is | kit_is | ks_is | rfl | decide +kernel))
  (case n_super => (first | k_is | kit_is | ks_is | rfl | decide +kernel))
  (case n_ValueError => (first | k_is | kit_is | ks_is | rfl | decide +kernel))
  (case n_reversed => (first | k_is | kit_is | ks_is | rfl | decide +kernel))
  (case n_max => (first | k_is | kit_is | ks_is | rfl | decide +kernel))
  (case n_sorted => (first | k_is | kit_is | ks_is | rfl | decide +kernel))
  (case n_set => (first | k_is | kit_is | ks_is | rfl | decide +kernel))
  (case n_all => (first | k_is | kit_is | ks_is | rfl | decide +kernel))
  (case n_any => (first | k_is | kit_is | ks_is | rfl | decide +kernel))
  (case letters => refine' ⟨_, ?a, ?b⟩; (case a => (first | k_is | kit_is | ks_is | rfl | decide +kernel)); (case b => exact ⟨_, rfl⟩))
  (case most => refine' ⟨_, ?a, ?b⟩; (case a => (first | k_is | kit_is | ks_is | rfl | decide +kernel)); (case b => exact ⟨_, rfl⟩))
  (case d1 => (refine' ⟨_, _, ?a_1, L2.fun_mk ?l_1 ?c_1 ?k_1⟩; (case a_1 => (first | k_is | kit_is | ks_is | rfl | decide +kernel)); (case l_1 => (first | k_is | kit_is | ks_is | rfl | decide +kernel)); (case c_1 => (first | k_is | kit_is | ks_is | rfl | decide +kernel)); (case k_1 => (first | k_is | kit_is | ks_is | rfl | decide +kernel))))
  (case d2 => (refine' ⟨_, _, ?a_2, L2.fun_mk ?l_2 ?c_2 ?k_2⟩; (case a_2 => (first | k_is | kit_is | ks_is | rfl | decide +kernel)); (case l_2 => (first | k_is | kit_is | ks_is | rfl | decide +kernel)); (case c_2 => (first | k_is | kit_is | ks_is | rfl | decide +kernel)); (case k_2 => (first | k_is | kit_is | ks_is | rfl | decide +kernel))))
  (case d3 => (refine' ⟨_, _, ?a_3, L2.fun_mk ?l_3 ?c_3 ?k_3⟩; (case a_3 => (first | k_is | kit_is | ks_is | rfl | decide +kernel)); (case l_3 => (first | k_is | kit_is | ks_is | rfl | decide +kernel)); (case c_3 => (first | k_is | kit_is | ks_is | rfl | decide +kernel)); (case k_3 => (first | k_is | kit_is | ks_is | rfl | decide +kernel))))
  (case d4 => (refine' ⟨_, _, ?a_4, L2.fun_mk ?l_4 ?c_4 ?k_4⟩; (case a_4 => (first | k_is | kit_is | ks_is | rfl | decide +kernel)); (case l_4 => (first | k_is | kit_is | ks_is | rfl | decide +kernel)); (case c_4 => (first | k_is | kit_is | ks_is | rfl | decide +kernel)); (case k_4 => (first | k_is | kit_is | ks_is | rfl | decide +kernel))))
  (case d5 => (refine' ⟨_, _, ?a_5, L2.fun_mk ?l_5 ?c_5 ?k_5⟩; (case a_5 => (first | k_is | kit_is | ks_is | rfl | decide +kernel)); (case l_5 => (first | k_is | kit_is | ks_is | rfl | decide +kernel)); (case c_5 => (first | k_is | kit_is | ks_is | rfl | decide +kernel)); (case k_5 => (first | k_is | kit_is | ks_is | rfl | decide +kernel))))
  (case d6 => (refine' ⟨_, _, ?a_6, L2.fun_mk ?l_6 ?c_6 ?k_6⟩; (case a_6 => (first | k_is | kit_is | ks_is | rfl | decide +kernel)); (case l_6 => (first | k_is | kit_is | ks_is | rfl | decide +kernel)); (case c_6 => (first | k_is | kit_is | ks_is | rfl | decide +kernel)); (case k_6 => (first | k_is | kit_is | ks_is | rfl | decide +kernel))))
  (case d7 => (refine' ⟨_, _, ?a_7, L2.fun_mk ?l_7 ?c_7 ?k_7⟩; (case a_7 => (first | k_is | kit_is | ks_is | rfl | decide +kernel)); (case l_7 => (first | k_is | kit_is | ks_is | rfl | decide +kernel)); (case c_7 => (first | k_is | kit_is | ks_is | rfl | decide +kernel)); (case k_7 => (first | k_is | kit_is | ks_is | rfl | decide +kernel))))
  (case d8 => (refine' ⟨_, _, ?a_8, L2.fun_mk ?l_8 ?c_8 ?k_8⟩; (case a_8 => (first | k_is | kit_is | ks_is | rfl | decide +kernel)); (case l_8 => (first | k_is | kit_is | ks_is | rfl | decide +kernel)); (case c_8 => (first | k_is | kit_is | ks_is | rfl | decide +kernel)); (case k_8 => (first | k_is | kit_is | ks_is | rfl | decide +kernel))))
  (case d9 => (refine' ⟨_, _, ?a_9, L2.fun_mk ?l_9 ?c_9 ?k_9⟩; (case a_9 => (first | k_is | kit_is | ks_is | rfl | decide +kernel)); (case l_9 => (first | k_is | kit_is | ks_is | rfl | decide +kernel)); (case c_9 => (first | k_is | kit_is | ks_is | rfl | decide +kernel)); (case k_9 => (first | k_is | kit_is | ks_is | rfl | decide +kernel))))
  (case d10 => (refine' ⟨_, _, ?a_10, L2.fun_mk ?l_10 ?c_10 ?k_10⟩; (case a_10 => (first | k_is | kit_is | ks_is | rfl | decide +kernel)); (case l_10 => (first | k_is | kit_is | ks_is | rfl | decide +kernel)); (case c_10 => (first | k_is | kit_is | ks_is | rfl | decide +kernel)); (case k_10 => (first | k_is | kit_is | ks_is | rfl | decide +kernel))))
  (case d11 => (refine' ⟨_, _, ?a_11, L2.fun_mk ?l_11 ?c_11 ?k_11⟩; (case a_11 => (first | k_is | kit_is | ks_is | rfl | decide +kernel)); (case l_11 => (first | k_is | kit_is | ks_is | rfl | decide +kernel)); (case c_11 => (first | k_is | kit_is | ks_is | rfl | decide +kernel)); (case k_11 => (first | k_is | kit_is | ks_is | rfl | decide +kernel))))
  (case d12 => (refine' ⟨_, _, ?a_12, L2.fun_mk ?l_12 ?c_12 ?k_12⟩; (case a_12 => (first | k_is | kit_is | ks_is | rfl | decide +kernel)); (case l_12 => (first | k_is | kit_is | ks_is | rfl | decide +kernel)); (case c_12 => (first | k_is | kit_is | ks_is | rfl | decide +kernel)); (case k_12 => (first | k_is | kit_is | ks_is | rfl | decide +kernel))))
  (case d13 => (refine' ⟨_, _, ?a_13, L2.fun_mk ?l_13 ?c_13 ?k_13⟩; (case a_13 => (first | k_is | kit_is | ks_is | rfl | decide +kernel)); (case l_13 => (first | k_is | kit_is | ks_is | rfl | decide +kernel)); (case c_13 => (first | k_is | kit_is | ks_is | rfl | decide +kernel)); (case k_13 => (first | k_is | kit_is | ks_is | rfl | decide +kernel))))
  (case d14 => (refine' ⟨_, _, ?a_14, L2.fun_mk ?l_14 ?c_14 ?k_14⟩; (case a_14 => (first | k_is | kit_is | ks_is | rfl | decide +kernel)); (case l_14 => (first | k_is | kit_is | ks_is | rfl | decide +kernel)); (case c_14 => (first | k_is | kit_is | ks_is | rfl | decide +kernel)); (case k_14 => (first | k_is | kit_is | ks_is | rfl | decide +kernel))))
  (case d15 => (refine' ⟨_, _, ?a_15, L2.fun_mk ?l_15 ?c_15 ?k_15⟩; (case a_15 => (first | k_is | kit_is | ks_is | rfl | decide +kernel)); (case l_15 => (first | k_is | kit_is | ks_is | rfl | decide +kernel)); (case c_15 => (first | k_is | kit_is | ks_is | rfl | decide +kernel)); (case k_15 => (first | k_is | kit_is | ks_is | rfl | decide +kernel))))
  (case d16 => (refine' ⟨_, _, ?a_16, L2.fun_mk ?l_16 ?c_16 ?k_16⟩; (case a_16 => (first | k_is | kit_is | ks_is | rfl | decide +kernel)); (case l_16 => (first | k_is | kit_is | ks_is | rfl | decide +kernel)); (case c_16 => (first | k_is | kit_is | ks_is | rfl | decide +kernel)); (case k_16 => (first | k_is | kit_is | ks_is | rfl | decide +kernel))))
  (case d17 => (refine' ⟨_, _, ?a_17, L2.fun_mk ?l_17 ?c_17 ?k_17⟩; (case a_17 => (first | k_is | kit_is | ks_is | rfl | decide +kernel)); (case l_17 => (first | k_is | kit_is | ks_is | rfl | decide +kernel)); (case c_17 => (first | k_is | kit_is | ks_is | rfl | decide +kernel)); (case k_17 => (first | k_is | kit_is | ks_is | rfl | decide +kernel))))
  (case d18 => (refine' ⟨_, _, ?a_18, L2.fun_mk ?l_18 ?c_18 ?k_18⟩; (case a_18 => (first | k_is | kit_is | ks_is | rfl | decide +kernel)); (case l_18 => (first | k_is | kit_is | ks_is | rfl | decide +kernel)); (case c_18 => (first | k_is | kit_is | ks_is | rfl | decide +kernel)); (case k_18 => (first | k_is | kit_is | ks_is | rfl | decide +kernel))))
  (case d19 => (refine' ⟨_, _, ?a_19, L2.fun_mk ?l_19 ?c_19 ?k_19⟩; (case a_19 => (first | k_is | kit_is | ks_is | rfl | decide +kernel)); (case l_19 => (first | k_is | kit_is | ks_is | rfl | decide +kernel)); (case c_19 => (first | k_is | kit_is | ks_is | rfl | decide +kernel)); (case k_19 => (first | k_is | kit_is | ks_is | rfl | decide +kernel))))
  (case d20 => (refine' ⟨_, _, ?a_20, L2.fun_mk ?l_20 ?c_20 ?k_20⟩; (case a_20 => (first | k_is | kit_is | ks_is | rfl | decide +kernel)); (case l_20 => (first | k_is | kit_is | ks_is | rfl | decide +kernel)); (case c_20 => (first | k_is | kit_is | ks_is | rfl | decide +kernel)); (case k_20 => (first | k_is | kit_is | ks_is | rfl | decide +kernel))))
  (case d21 => (refine' ⟨_, _, ?a_21, L2.fun_mk ?l_21 ?c_21 ?k_21⟩; (case a_21 => (first | k_is | kit_is | ks_is | rfl | decide +kernel)); (case l_21 => (first | k_is | kit_is | ks_is | rfl | decide +kernel)); (case c_21 => (first | k_is | kit_is | ks_is | rfl | decide +kernel)); (case k_21 => (first | k_is | kit_is | ks_is | rfl | decide +kernel))))
  (case d22 => (refine' ⟨_, _, ?a_22, L2.fun_mk ?l_22 ?c_22 ?k_22⟩; (case a_22 => (first | k_is | kit_is | ks_is | rfl | decide +kernel)); (case l_22 => (first | k_is | kit_is | ks_is | rfl | decide +kernel)); (case c_22 => (first | k_is | kit_is | ks_is | rfl | decide +kernel)); (case k_22 => (first | k_is | kit_is | ks_is | rfl | decide +kernel))))
  (case d23 => (refine' ⟨_, _, ?a_23, L2.fun_mk ?l_23 ?c_23 ?k_23⟩; (case a_23 => (first | k_is | kit_is | ks_is | rfl | decide +kernel)); (case l_23 => (first | k_is | kit_is | ks_is | rfl | decide +kernel)); (case c_23 => (first | k_is | kit_is | ks_is | rfl | decide +kernel)); (case k_23 => (first | k_is | kit_is | ks_is | rfl | decide +kernel))))
  (case d24 => (refine' ⟨_, _, ?a_24, L2.fun_mk ?l_24 ?c_24 ?k_24⟩; (case a_24 => (first | k_is | kit_is | ks_is | rfl | decide +kernel)); (case l_24 => (first | k_is | kit_is | ks_is | rfl | decide +kernel)); (case c_24 => (first | k_is | kit_is | ks_is | rfl | decide +kernel)); (case k_24 => (first | k_is | kit_is | ks_is | rfl | decide +kernel))))
  (case d25 => (refine' ⟨_, _, ?a_25, L2.fun_mk ?l_25 ?c_25 ?k_25⟩; (case a_25 => (first | k_is | kit_is | ks_is | rfl | decide +kernel)); (case l_25 => (first | k_is | kit_is | ks_is | rfl | decide +kernel)); (case c_25 => (first | k_is | kit_is | ks_is | rfl | decide +kernel)); (case k_25 => (first | k_is | kit_is | ks_is | rfl | decide +kernel))))
  (case d26 => (refine' ⟨_, _, ?a_26, L2.fun_mk ?l_26 ?c_26 ?k_26⟩; (case a_26 => (first | k_is | kit_is | ks_is | rfl | decide +kernel)); (case l_26 => (first | k_is | kit_is | ks_is | rfl | decide +kernel)); (case c_26 => (first | k_is | kit_is | ks_is | rfl | decide +kernel)); (case k_26 => (first | k_is | kit_is | ks_is | rfl | decide +kernel))))
  (case d27 => (refine' ⟨_, _, ?a_27, L2.fun_mk ?l_27 ?c_27 ?k_27⟩; (case a_27 => (first | k_is | kit_is | ks_is | rfl | decide +kernel)); (case l_27 => (first | k_is | kit_is | ks_is | rfl | decide +kernel)); (case c_27 => (first | k_is | kit_is | ks_is | rfl | decide +kernel)); (case k_27 => (first | k_is | kit_is | ks_is | rfl | decide +kernel))))
  (case d28 => (refine' ⟨_, _, ?a_28, L2.fun_mk ?l_28 ?c_28 ?k_28⟩; (case a_28 => (first | k_is | kit_is | ks_is | rfl | decide +kernel)); (case l_28 => (first | k_is | kit_is | ks_is | rfl | decide +kernel)); (case c_28 => (first | k_is | kit_is | ks_is | rfl | decide +kernel)); (case k_28 => (first | k_is | kit_is | ks_is | rfl | decide +kernel))))
  (case d29 => (refine' ⟨_, _, ?a_29, L2.fun_mk ?l_29 ?c_29 ?k_29⟩; (case a_29 => (first | k_is | kit_is | ks_is | rfl | decide +kernel)); (case l_29 => (first | k_is | kit_is | ks_is | rfl | decide +kernel)); (case c_29 => (first | k_is | kit_is | ks_is | rfl | decide +kernel)); (case k_29 => (first | k_is | kit_is | ks_is | rfl | decide +kernel))))
  (case d30 => (refine' ⟨_, _, ?a_30, L2.fun_mk ?l_30 ?c_30 ?k_30⟩; (case a_30 => (first | k_is | kit_is | ks_is | rfl | decide +kernel)); (case l_30 => (first | k_is | kit_is | ks_is | rfl | decide +kernel)); (case c_30 => (first | k_is | kit_is | ks_is | rfl | decide +kernel)); (case k_30 => (first | k_is | kit_is | ks_is | rfl | decide +kernel))))
  (case d31 => (refine' ⟨_, _, ?a_31, L2.fun_mk ?l_31 ?c_31 ?k_31⟩; (case a_31 => (first | k_is | kit_is | ks_is | rfl | decide +kernel)); (case l_31 => (first | k_is | kit_is | ks_is | rfl | decide +kernel)); (case c_31 => (first | k_is | kit_is | ks_is | rfl | decide +kernel)); (case k_31 => (first | k_is | kit_is | ks_is | rfl | decide +kernel))))
  (case d32 => (refine' ⟨_, _, ?a_32, L2.fun_mk ?l_32 ?c_32 ?k_32⟩; (case a_32 => (first | k_is | kit_is | ks_is | rfl | decide +kernel)); (case l_32 => (first | k_is | kit_is | ks_is | rfl | decide +kernel)); (case c_32 => (first | k_is | kit_is | ks_is | rfl | decide +kernel)); (case k_32 => (first | k_is | kit_is | ks_is | rfl | decide +kernel))))
  (case d33 => (refine' ⟨_, _, ?a_33, L2.fun_mk ?l_33 ?c_33 ?k_33⟩; (case a_33 => (first | k_is | kit_is | ks_is | rfl | decide +kernel)); (case l_33 => (first | k_is | kit_is | ks_is | rfl | decide +kernel)); (case c_33 => (first | k_is | kit_is | ks_is | rfl | decide +kernel)); (case k_33 => (first | k_is | kit_is | ks_is | rfl | decide +kernel))))
  (case d34 => (refine' ⟨_, _, ?a_34, L2.fun_mk ?l_34 ?c_34 ?k_34⟩; (case a_34 => (first | k_is | kit_is | ks_is | rfl | decide +kernel)); (case l_34 => (first | k_is | kit_is | ks_is | rfl | decide +kernel)); (case c_34 => (first | k_is | kit_is | ks_is | rfl | decide +kernel)); (case k_34 => (first | k_is | kit_is | ks_is | rfl | decide +kernel))))
  (case d35 => (refine' ⟨_, _, ?a_35, L2.fun_mk ?l_35 ?c_35 ?k_35⟩; (case a_35 => (first | k_is | kit_is | ks_is | rfl | decide +kernel)); (case l_35 => (first | k_is | kit_is | ks_is | rfl | decide +kernel)); (case c_35 => (first | k_is | kit_is | ks_is | rfl | decide +kernel)); (case k_35 => (first | k_is | kit_is | ks_is | rfl | decide +kernel))))
  (case d36 => (refine' ⟨_, _, ?a_36, L2.fun_mk ?l_36 ?c_36 ?k_36⟩; (case a_36 => (first | k_is | kit_is | ks_is | rfl | decide +kernel)); (case l_36 => (first | k_is | kit_is | ks_is | rfl | decide +kernel)); (case c_36 => (first | k_is | kit_is | ks_is | rfl | decide +kernel)); (case k_36 => (first | k_is | kit_is | ks_is | rfl | decide +kernel))))
  (case dDoors => refine' ⟨_, _, ?a, ⟨⟨_, _, _, _, _, _, _, _, rfl, ?l, ?c⟩, ?k⟩⟩; (case a => (first | k_is | kit_is | ks_is | rfl | decide +kernel)); (case l => (first | k_is | kit_is | ks_is | rfl | decide +kernel)); (case c => (first | k_is | kit_is | ks_is | rfl | decide +kernel)); (case k => (first | k_is | kit_is | ks_is | rfl | decide +kernel)))
  (case dFilled => refine' ⟨_, _, ?a, ?b, ⟨⟨_, _, _, _, _, _, _, _, rfl, ?l, ?c⟩, ?k⟩⟩; (case a => (intro j; cases j <;> (dsimp only [Tw.SC.cls]; (first | k_is | kit_is | ks_is | rfl | decide +kernel)))); (case b => (first | k_is | kit_is | ks_is | rfl | decide +kernel)); (case l => (first | k_is | kit_is | ks_is | rfl | decide +kernel)); (case c => (first | k_is | kit_is | ks_is | rfl | decide +kernel)); (case k => (first | k_is | kit_is | ks_is | rfl | decide +kernel)))
  (case m1 => refine' ⟨_, _, ?a, ?b, ?e, L2.fun_mk ?l ?c ?k⟩; (case a => (intro j; cases j <;> (dsimp only [Tw.SC.cls]; (first | k_is | kit_is | ks_is | rfl | decide +kernel)))); (case b => (first | k_is | kit_is | ks_is | rfl | decide +kernel)); (case e => (first | k_is | kit_is | ks_is | rfl | decide +kernel)); (case l => (first | k_is | kit_is | ks_is | rfl | decide +kernel)); (case c => (first | k_is | kit_is | ks_is | rfl | decide +kernel)); (case k => (first | k_is | kit_is | ks_is | rfl | decide +kernel)))
  (case m2 => refine' ⟨_, _, ?a, ?b, ?e, L2.fun_mk ?l ?c ?k⟩; (case a => (intro j; cases j <;> (dsimp only [Tw.SC.cls]; (first | k_is | kit_is | ks_is | rfl | decide +kernel)))); (case b => (first | k_is | kit_is | ks_is | rfl | decide +kernel)); (case e => (first | k_is | kit_is | ks_is | rfl | decide +kernel)); (case l => (first | k_is | kit_is | ks_is | rfl | decide +kernel)); (case c => (first | k_is | kit_is | ks_is | rfl | decide +kernel)); (case k => (first | k_is | kit_is | ks_is | rfl | decide +kernel)))
  (case m3 => refine' ⟨_, _, ?a, ?b, ?e, L2.fun_mk ?l ?c ?k⟩; (case a => (intro j; cases j <;> (dsimp only [Tw.SC.cls]; (first | k_is | kit_is | ks_is | rfl | decide +kernel)))); (case b => (first | k_is | kit_is | ks_is | rfl | decide +kernel)); (case e => (first | k_is | kit_is | ks_is | rfl | decide +kernel)); (case l => (first | k_is | kit_is | ks_is | rfl | decide +kernel)); (case c => (first | k_is | kit_is | ks_is | rfl | decide +kernel)); (case k => (first | k_is | kit_is | ks_is | rfl | decide +kernel)))
  (case m4 => refine' ⟨_, _, ?a, ?b, ?e, L2.fun_mk ?l ?c ?k⟩; (case a => (intro j; cases j <;> (dsimp only [Tw.SC.cls]; (first | k_is | kit_is | ks_is | rfl | decide +kernel)))); (case b => (first | k_is | kit_is | ks_is | rfl | decide +kernel)); (case e => (first | k_is | kit_is | ks_is | rfl | decide +kernel)); (case l => (first | k_is | kit_is | ks_is | rfl | decide +kernel)); (case c => (first | k_is | kit_is | ks_is | rfl | decide +kernel)); (case k => (first | k_is | kit_is | ks_is | rfl | decide +kernel)))
  (case m5 => refine' ⟨_, _, ?a, ?b, ?e, L2.fun_mk ?l ?c ?k⟩; (case a => (intro j; cases j <;> (dsimp only [Tw.SC.cls]; (first | k_is | kit_is | ks_is | rfl | decide +kernel)))); (case b => (first | k_is | kit_is | ks_is | rfl | decide +kernel)); (case e => (first | k_is | kit_is | ks_is | rfl | decide +kernel)); (case l => (first | k_is | kit_is | ks_is | rfl | decide +kernel)); (case c => (first | k_is | kit_is | ks_is | rfl | decide +kernel)); (case k => (first | k_is | kit_is | ks_is | rfl | decide +kernel)))
  (case m6 => refine' ⟨_, _, ?a, ?b, ?e, L2.fun_mk ?l ?c ?k⟩; (case a => (intro j; cases j <;> (dsimp only [Tw.SC.cls]; (first | k_is | kit_is | ks_is | rfl | decide +kernel)))); (case b => (first | k_is | kit_is | ks_is | rfl | decide +kernel)); (case e => (first | k_is | kit_is | ks_is | rfl | decide +kernel)); (case l => (first | k_is | kit_is | ks_is | rfl | decide +kernel)); (case c => (first | k_is | kit_is | ks_is | rfl | decide +kernel)); (case k => (first | k_is | kit_is | ks_is | rfl | decide +kernel)))
  (case m7 => refine' ⟨_, _, ?a, ?b, ?e, L2.fun_mk ?l ?c ?k⟩; (case a => (intro j; cases j <;> (dsimp only [Tw.SC.cls]; (first | k_is | kit_is | ks_is | rfl | decide +kernel)))); (case b => (first | k_is | kit_is | ks_is | rfl | decide +kernel)); (case e => (first | k_is | kit_is | ks_is | rfl | decide +kernel)); (case l => (first | k_is | kit_is | ks_is | rfl | decide +kernel)); (case c => (first | k_is | kit_is | ks_is | rfl | decide +kernel)); (case k => (first | k_is | kit_is | ks_is | rfl | decide +kernel)))
  (case p1 => refine' ⟨_, _, _, ?a, ?b, ?e, ⟨_, ?r⟩, L2.fun_mk ?l ?c ?k⟩; (case a => (intro j; cases j <;> (dsimp only [Tw.SC.cls]; (first | k_is | kit_is | ks_is | rfl | decide +kernel)))); (case b => (first | k_is | kit_is | ks_is | rfl | decide +kernel)); (case e => (first | k_is | kit_is | ks_is | rfl | decide +kernel)); (case r => (first | k_is | kit_is | ks_is | rfl | decide +kernel)); (case l => (first | k_is | kit_is | ks_is | rfl | decide +kernel)); (case c => (first | k_is | kit_is | ks_is | rfl | decide +kernel)); (case k => (first | k_is | kit_is | ks_is | rfl | decide +kernel)))
  (case p2 => refine' ⟨_, _, _, ?a, ?b, ?e, ⟨_, ?r⟩, L2.fun_mk ?l ?c ?k⟩; (case a => (intro j; cases j <;> (dsimp only [Tw.SC.cls]; (first | k_is | kit_is | ks_is | rfl | decide +kernel)))); (case b => (first | k_is | kit_is | ks_is | rfl | decide +kernel)); (case e => (first | k_is | kit_is | ks_is | rfl | decide +kernel)); (case r => (first | k_is | kit_is | ks_is | rfl | decide +kernel)); (case l => (first | k_is | kit_is | ks_is | rfl | decide +kernel)); (case c => (first | k_is | kit_is | ks_is | rfl | decide +kernel)); (case k => (first | k_is | kit_is | ks_is | rfl | decide +kernel)))
  (case p3 => refine' ⟨_, _, _, ?a, ?b, ?e, ⟨_, ?r⟩, L2.fun_mk ?l ?c ?k⟩; (case a => (intro j; cases j <;> (dsimp only [Tw.SC.cls]; (first | k_is | kit_is | ks_is | rfl | decide +kernel)))); (case b => (first | k_is | kit_is | ks_is | rfl | decide +kernel)); (case e => (first | k_is | kit_is | ks_is | rfl | decide +kernel)); (case r => (first | k_is | kit_is | ks_is | rfl | decide +kernel)); (case l => (first | k_is | kit_is | ks_is | rfl | decide +kernel)); (case c => (first | k_is | kit_is | ks_is | rfl | decide +kernel)); (case k => (first | k_is | kit_is | ks_is | rfl | decide +kernel)))
  (case i1 => refine' ⟨_, _, ?a, ?b, L2.fun_mk ?l ?c ?k⟩; (case a => (first | k_is | kit_is | ks_is | rfl | decide +kernel)); (case b => (first | k_is | kit_is | ks_is | rfl | decide +kernel)); (case l => (first | k_is | kit_is | ks_is | rfl | decide +kernel)); (case c => (first | k_is | kit_is | ks_is | rfl | decide +kernel)); (case k => (first | k_is | kit_is | ks_is | rfl | decide +kernel)))
  (case i2 => refine' ⟨_, _, ?a, ?b, L2.fun_mk ?l ?c ?k⟩; (case a => (first | k_is | kit_is | ks_is | rfl | decide +kernel)); (case b => (first | k_is | kit_is | ks_is | rfl | decide +kernel)); (case l => (first | k_is | kit_is | ks_is | rfl | decide +kernel)); (case c => (first | k_is | kit_is | ks_is | rfl | decide +kernel)); (case k => (first | k_is | kit_is | ks_is | rfl | decide +kernel)))
  (case i3 => refine' ⟨_, _, ?a, ?b, L2.fun_mk ?l ?c ?k⟩; (case a => (first | k_is | kit_is | ks_is | rfl | decide +kernel)); (case b => (first | k_is | kit_is | ks_is | rfl | decide +kernel)); (case l => (first | k_is | kit_is | ks_is | rfl | decide +kernel)); (case c => (first | k_is | kit_is | ks_is | rfl | decide +kernel)); (case k => (first | k_is | kit_is | ks_is | rfl | decide +kernel)))
  (case i4 => refine' ⟨_, _, ?a, ?b, L2.fun_mk ?l ?c ?k⟩; (case a => (first | k_is | kit_is | ks_is | rfl | decide +kernel)); (case b => (first | k_is | kit_is | ks_is | rfl | decide +kernel)); (case l => (first | k_is | kit_is | ks_is | rfl | decide +kernel)); (case c => (first | k_is | kit_is | ks_is | rfl | decide +kernel)); (case k => (first | k_is | kit_is | ks_is | rfl | decide +kernel)))
  (case i5 => refine' ⟨_, _, ?a, ?b, L2.fun_mk ?l ?c ?k⟩; (case a => (first | k_is | kit_is | ks_is | rfl | decide +kernel)); (case b => (first | k_is | kit_is | ks_is | rfl | decide +kernel)); (case l => (first | k_is | kit_is | ks_is | rfl | decide +kernel)); (case c => (first | k_is | kit_is | ks_is | rfl | decide +kernel)); (case k => (first | k_is | kit_is | ks_is | rfl | decide +kernel)))
  (case i6 => refine' ⟨_, _, ?a, ?b, L2.fun_mk ?l ?c ?k⟩; (case a => (first | k_is | kit_is | ks_is | rfl | decide +kernel)); (case b => (first | k_is | kit_is | ks_is | rfl | decide +kernel)); (case l => (first | k_is | kit_is | ks_is | rfl | decide +kernel)); (case c => (first | k_is | kit_is | ks_is | rfl | decide +kernel)); (case k => (first | k_is | kit_is | ks_is | rfl | decide +kernel)))
  (case i7 => refine' ⟨_, _, ?a, ?b, L2.fun_mk ?l ?c ?k⟩; (case a => (first | k_is | kit_is | ks_is | rfl | decide +kernel)); (case b => (first | k_is | kit_is | ks_is | rfl | decide +kernel)); (case l => (first | k_is | kit_is | ks_is | rfl | decide +kernel)); (case c => (first | k_is | kit_is | ks_is | rfl | decide +kernel)); (case k => (first | k_is | kit_is | ks_is | rfl | decide +kernel)))
  (case i8 => refine' ⟨_, _, ?a, ?b, L2.fun_mk ?l ?c ?k⟩; (case a => (first | k_is | kit_is | ks_is | rfl | decide +kernel)); (case b => (first | k_is | kit_is | ks_is | rfl | decide +kernel)); (case l => (first | k_is | kit_is | ks_is | rfl | decide +kernel)); (case c => (first | k_is | kit_is | ks_is | rfl | decide +kernel)); (case k => (first | k_is | kit_is | ks_is | rfl | decide +kernel)))
  (case makes => (intro j; cases j <;> (dsimp only [Tw.SC.cls]; (first | k_is | kit_is | ks_is | rfl | decide +kernel))))
  (case kpC => (intro j; cases j <;> (dsimp only [Tw.SC.cls]; (first | k_is | kit_is | ks_is | rfl | decide +kernel))))
  (case cls => intro j; cases j <;> (dsimp only [Tw.SC.cls]; (refine' ⟨?a_37, ?b_37, ?c_37, ?d_37⟩; (case a_37 => (first | k_is | kit_is | ks_is | rfl | decide +kernel)); (case b_37 => (first | k_is | kit_is | ks_is | rfl | decide +kernel)); (case c_37 => (first | k_is | kit_is | ks_is | rfl | decide +kernel)); (case d_37 => (first | k_is | kit_is | ks_is | rfl | decide +kernel)))))
  (case nT => intro j; cases j <;> (dsimp only [Tw.SC.cls]; (unfold L2.NoAttr; (first | k_is | kit_is | ks_is | rfl | decide +kernel))))
  (case nB => intro j; cases j <;> (dsimp only [Tw.SC.cls]; (unfold L2.NoAttr; (first | k_is | kit_is | ks_is | rfl | decide +kernel))))
  (case bo => intro j; cases j <;> (dsimp only [Tw.SC.cls, Tw.kbond]; refine' ⟨_, ?a, ?b, ?c, ?d⟩; (case a => (first | k_is | kit_is | ks_is | rfl | decide +kernel)); (case b => exact ⟨_, rfl⟩); (case c => (first | k_is | kit_is | ks_is | rfl | decide +kernel)); (case d => (first | k_is | kit_is | ks_is | rfl | decide +kernel))))
  (case st => (intro j; cases j <;> (dsimp only [Tw.SC.cls]; (first | k_is | kit_is | ks_is | rfl | decide +kernel))))
  (case strF => refine' ⟨_, ?b, L2.fun_mk ?l ?c ?k⟩; (case b => (first | k_is | kit_is | ks_is | rfl | decide +kernel)); (case l => (first | k_is | kit_is | ks_is | rfl | decide +kernel)); (case c => (first | k_is | kit_is | ks_is | rfl | decide +kernel)); (case k => (first | k_is | kit_is | ks_is | rfl | decide +kernel)))
  (case fm => (intro j; cases j <;> (dsimp only [Tw.SC.cls]; (first | k_is | kit_is | ks_is | rfl | decide +kernel))))
  (case mr => (intro j; cases j <;> (dsimp only [Tw.SC.cls]; (first | k_is | kit_is | ks_is | rfl | decide +kernel))))
  (case kcc => (intro j; cases j <;> (dsimp only [Tw.SC.cls]; (first | k_is | kit_is | ks_is | rfl | decide +kernel))))
  (case kcg => (first | k_is | kit_is | ks_is | rfl | decide +kernel))
  (case kct => (first | k_is | kit_is | ks_is | rfl | decide +kernel))
  (case sI => refine' ⟨?a, ?b, ?c, fun q => ?d, fun q => ?e, fun q => ?f, fun q => ?g⟩; (case a => (unfold L2.NoAttr; (first | k_is | kit_is | ks_is | rfl | decide +kernel))); (case b => (unfold L2.NoAttr; (first | k_is | kit_is | ks_is | rfl | decide +kernel))); (case c => (unfold L2.NoAttr; (first | k_is | kit_is | ks_is | rfl | decide +kernel))); (case d => cases q <;> (dsimp only [Tw.SC.bi]; (unfold L2.NoAttr; (first | k_is | kit_is | ks_is | rfl | decide +kernel)))); (case e => cases q <;> (dsimp only [Tw.SC.bi]; (unfold L2.NoAttr; (first | k_is | kit_is | ks_is | rfl | decide +kernel)))); (case f => cases q <;> (dsimp only [Tw.SC.md]; (unfold L2.NoAttr; (first | k_is | kit_is | ks_is | rfl | decide +kernel)))); (case g => cases q <;> (dsimp only [Tw.SC.md]; (unfold L2.NoAttr; (first | k_is | kit_is | ks_is | rfl | decide +kernel)))))
  (case kit => intro i j; cases i <;> cases j <;> (dsimp only [Tw.SC.cls]; (first | (show _ = some true; (first | k_is | kit_is | ks_is | rfl | decide +kernel)) | (show _ = some false; (first | k_is | kit_is | ks_is | rfl | decide +kernel)))))
  (case kitS => (intro j; cases j <;> (dsimp only [Tw.SC.cls]; (first | k_is | kit_is | ks_is | rfl | decide +kernel))))
  (case noA => (intro j; cases j <;> (dsimp only [Tw.SC.cls]; (first | k_is | kit_is | ks_is | rfl | decide +kernel))))
  (case noO => (intro j; cases j <;> (dsimp only [Tw.SC.cls]; (first | k_is | kit_is | ks_is | rfl | decide +kernel))))
  (case sf => (intro j; cases j <;> (dsimp only [Tw.SC.cls]; (first | k_is | kit_is | ks_is | rfl | decide +kernel))))
  (case sub => intro i j; cases i <;> cases j <;> (dsimp only [Tw.SC.cls]; (first | exact fun z => absurd rfl z | (intro _; (first | k_is | kit_is | ks_is | rfl | decide +kernel)))))
  (case eN => (refine' ⟨_, _, _, _, ⟨⟨_, _, _, _, _, _, _, _, rfl, ?l_38, ?c_38⟩, ⟨_, _, _, _, _, _, ?cl_38, ?v2_38, ?fl_38⟩, ⟨_, _, _, ?ce_38⟩, ?al_38, ?op_38, ?su_38, ?se_38, rfl, ?tp_38⟩, ⟨⟨_, _, _, _, _, _, _, _, _, _, _, _, _, _, _, ?kc_38, ?rv_38⟩, ?sa_38, ?ex_38, ?ty_38, ?kp_38⟩, ?no_38, ?ini_38, ?tf_38⟩; (case ini_38 => (first | k_is | kit_is | ks_is | rfl | decide +kernel)); (case l_38 => (first | k_is | kit_is | ks_is | rfl | decide +kernel)); (case c_38 => (first | k_is | kit_is | ks_is | rfl | decide +kernel)); (case cl_38 => (first | k_is | kit_is | ks_is | rfl | decide +kernel)); (case v2_38 => (first | k_is | kit_is | ks_is | rfl | decide +kernel)); (case fl_38 => (first | k_is | kit_is | ks_is | rfl | decide +kernel)); (case ce_38 => (first | k_is | kit_is | ks_is | rfl | decide +kernel)); (case al_38 => (first | k_is | kit_is | ks_is | rfl | decide +kernel)); (case op_38 => (first | k_is | kit_is | ks_is | rfl | decide +kernel)); (case su_38 => (first | k_is | kit_is | ks_is | rfl | decide +kernel)); (case se_38 => (first | k_is | kit_is | ks_is | rfl | decide +kernel)); (case tp_38 => (first | k_is | kit_is | ks_is | rfl | decide +kernel)); (case kc_38 => (first | k_is | kit_is | ks_is | rfl | decide +kernel)); (case rv_38 => (first | k_is | kit_is | ks_is | rfl | decide +kernel)); (case sa_38 => (first | k_is | kit_is | ks_is | rfl | decide +kernel)); (case ex_38 => (first | k_is | kit_is | ks_is | rfl | decide +kernel)); (case ty_38 => (first | k_is | kit_is | ks_is | rfl | decide +kernel)); (case kp_38 => (first | k_is | kit_is | ks_is | rfl | decide +kernel)); (case no_38 => (first | k_is | kit_is | ks_is | rfl | decide +kernel)); (case tf_38 => (first | k_is | kit_is | ks_is | rfl | decide +kernel))))
  (case eG => (refine' ⟨_, _, _, _, ⟨⟨_, _, _, _, _, _, _, _, rfl, ?l_39, ?c_39⟩, ⟨_, _, _, _, _, _, ?cl_39, ?v2_39, ?fl_39⟩, ⟨_, _, _, ?ce_39⟩, ?al_39, ?op_39, ?su_39, ?se_39, rfl, ?tp_39⟩, ⟨⟨_, _, _, _, _, _, _, _, _, _, _, _, _, _, _, ?kc_39, ?rv_39⟩, ?sa_39, ?ex_39, ?ty_39, ?kp_39⟩, ?no_39, ?ini_39, ?tf_39⟩; (case ini_39 => (first | k_is | kit_is | ks_is | rfl | decide +kernel)); (case l_39 => (first | k_is | kit_is | ks_is | rfl | decide +kernel)); (case c_39 => (first | k_is | kit_is | ks_is | rfl | decide +kernel)); (case cl_39 => (first | k_is | kit_is | ks_is | rfl | decide +kernel)); (case v2_39 => (first | k_is | kit_is | ks_is | rfl | decide +kernel)); (case fl_39 => (first | k_is | kit_is | ks_is | rfl | decide +kernel)); (case ce_39 => (first | k_is | kit_is | ks_is | rfl | decide +kernel)); (case al_39 => (first | k_is | kit_is | ks_is | rfl | decide +kernel)); (case op_39 => (first | k_is | kit_is | ks_is | rfl | decide +kernel)); (case su_39 => (first | k_is | kit_is | ks_is | rfl | decide +kernel)); (case se_39 => (first | k_is | kit_is | ks_is | rfl | decide +kernel)); (case tp_39 => (first | k_is | kit_is | ks_is | rfl | decide +kernel)); (case kc_39 => (first | k_is | kit_is | ks_is | rfl | decide +kernel)); (case rv_39 => (first | k_is | kit_is | ks_is | rfl | decide +kernel)); (case sa_39 => (first | k_is | kit_is | ks_is | rfl | decide +kernel)); (case ex_39 => (first | k_is | kit_is | ks_is | rfl | decide +kernel)); (case ty_39 => (first | k_is | kit_is | ks_is | rfl | decide +kernel)); (case kp_39 => (first | k_is | kit_is | ks_is | rfl | decide +kernel)); (case no_39 => (first | k_is | kit_is | ks_is | rfl | decide +kernel)); (case tf_39 => (first | k_is | kit_is | ks_is | rfl | decide +kernel))))
  (case eC => (refine' ⟨_, _, _, _, ⟨⟨_, _, _, _, _, _, _, _, rfl, ?l_40, ?c_40⟩, ⟨_, _, _, _, _, _, ?cl_40, ?v2_40, ?fl_40⟩, ⟨_, _, _, ?ce_40⟩, ?al_40, ?op_40, ?su_40, ?se_40, rfl, ?tp_40⟩, ⟨⟨_, _, _, _, _, _, _, _, _, _, _, _, _, _, _, ?kc_40, ?rv_40⟩, ?sa_40, ?ex_40, ?ty_40, ?kp_40⟩, ?no_40, ?ini_40, ?tf_40⟩; (case ini_40 => (first | k_is | kit_is | ks_is | rfl | decide +kernel)); (case l_40 => (first | k_is | kit_is | ks_is | rfl | decide +kernel)); (case c_40 => (first | k_is | kit_is | ks_is | rfl | decide +kernel)); (case cl_40 => (first | k_is | kit_is | ks_is | rfl | decide +kernel)); (case v2_40 => (first | k_is | kit_is | ks_is | rfl | decide +kernel)); (case fl_40 => (first | k_is | kit_is | ks_is | rfl | decide +kernel)); (case ce_40 => (first | k_is | kit_is | ks_is | rfl | decide +kernel)); (case al_40 => (first | k_is | kit_is | ks_is | rfl | decide +kernel)); (case op_40 => (first | k_is | kit_is | ks_is | rfl | decide +kernel)); (case su_40 => (first | k_is | kit_is | ks_is | rfl | decide +kernel)); (case se_40 => (first | k_is | kit_is | ks_is | rfl | decide +kernel)); (case tp_40 => (first | k_is | kit_is | ks_is | rfl | decide +kernel)); (case kc_40 => (first | k_is | kit_is | ks_is | rfl | decide +kernel)); (case rv_40 => (first | k_is | kit_is | ks_is | rfl | decide +kernel)); (case sa_40 => (first | k_is | kit_is | ks_is | rfl | decide +kernel)); (case ex_40 => (first | k_is | kit_is | ks_is | rfl | decide +kernel)); (case ty_40 => (first | k_is | kit_is | ks_is | rfl | decide +kernel)); (case kp_40 => (first | k_is | kit_is | ks_is | rfl | decide +kernel)); (case no_40 => (first | k_is | kit_is | ks_is | rfl | decide +kernel)); (case tf_40 => (first | k_is | kit_is | ks_is | rfl | decide +kernel))))
  (case xnn => (refine' PySem.W.exm_ref ?a_41 ?b_41 ?c_41 ?d_41; (case a_41 => (first | k_is | kit_is | ks_is | rfl | decide +kernel)); (case b_41 => (first | k_is | kit_is | ks_is | rfl | decide +kernel)); (case c_41 => (first | k_is | kit_is | ks_is | rfl | decide +kernel)); (case d_41 => (first | k_is | kit_is | ks_is | rfl | decide +kernel))))
  (case xgn => (refine' PySem.W.exm_ref ?a_42 ?b_42 ?c_42 ?d_42; (case a_42 => (first | k_is | kit_is | ks_is | rfl | decide +kernel)); (case b_42 => (first | k_is | kit_is | ks_is | rfl | decide +kernel)); (case c_42 => (first | k_is | kit_is | ks_is | rfl | decide +kernel)); (case d_42 => (first | k_is | kit_is | ks_is | rfl | decide +kernel))))
  (case xgg => (refine' PySem.W.exm_ref ?a_43 ?b_43 ?c_43 ?d_43; (case a_43 => (first | k_is | kit_is | ks_is | rfl | decide +kernel)); (case b_43 => (first | k_is | kit_is | ks_is | rfl | decide +kernel)); (case c_43 => (first | k_is | kit_is | ks_is | rfl | decide +kernel)); (case d_43 => (first | k_is | kit_is | ks_is | rfl | decide +kernel))))
  (case xcn => (refine' PySem.W.exm_ref ?a_44 ?b_44 ?c_44 ?d_44; (case a_44 => (first | k_is | kit_is | ks_is | rfl | decide +kernel)); (case b_44 => (first | k_is | kit_is | ks_is | rfl | decide +kernel)); (case c_44 => (first | k_is | kit_is | ks_is | rfl | decide +kernel)); (case d_44 => (first | k_is | kit_is | ks_is | rfl | decide +kernel))))
  (case xcg => (refine' PySem.W.exm_ref ?a_45 ?b_45 ?c_45 ?d_45; (case a_45 => (first | k_is | kit_is | ks_is | rfl | decide +kernel)); (case b_45 => (first | k_is | kit_is | ks_is | rfl | decide +kernel)); (case c_45 => (first | k_is | kit_is | ks_is | rfl | decide +kernel)); (case d_45 => (first | k_is | kit_is | ks_is | rfl | decide +kernel))))
  (case xcc => (refine' PySem.W.exm_ref ?a_46 ?b_46 ?c_46 ?d_46; (case a_46 => (first | k_is | kit_is | ks_is | rfl | decide +kernel)); (case b_46 => (first | k_is | kit_is | ks_is | rfl | decide +kernel)); (case c_46 => (first | k_is | kit_is | ks_is | rfl | decide +kernel)); (case d_46 => (first | k_is | kit_is | ks_is | rfl | decide +kernel))))
  (case ecN => (refine' ⟨?a_47, ?b_47, ?c_47, ?d_47, ?e_47, ?f_47, ?g_47, ?h_47⟩; (case a_47 => (first | k_is | kit_is | ks_is | rfl | decide +kernel)); (case b_47 => (first | k_is | kit_is | ks_is | rfl | decide +kernel)); (case c_47 => (first | k_is | kit_is | ks_is | rfl | decide +kernel)); (case d_47 => (first | k_is | kit_is | ks_is | rfl | decide +kernel)); (case e_47 => (first | k_is | kit_is | ks_is | rfl | decide +kernel)); (case f_47 => (first | k_is | kit_is | ks_is | rfl | decide +kernel)); (case g_47 => (first | k_is | kit_is | ks_is | rfl | decide +kernel)); (case h_47 => (first | k_is | kit_is | ks_is | rfl | decide +kernel))))
  (case ecG => (refine' ⟨?a_48, ?b_48, ?c_48, ?d_48, ?e_48, ?f_48, ?g_48, ?h_48⟩; (case a_48 => (first | k_is | kit_is | ks_is | rfl | decide +kernel)); (case b_48 => (first | k_is | kit_is | ks_is | rfl | decide +kernel)); (case c_48 => (first | k_is | kit_is | ks_is | rfl | decide +kernel)); (case d_48 => (first | k_is | kit_is | ks_is | rfl | decide +kernel)); (case e_48 => (first | k_is | kit_is | ks_is | rfl | decide +kernel)); (case f_48 => (first | k_is | kit_is | ks_is | rfl | decide +kernel)); (case g_48 => (first | k_is | kit_is | ks_is | rfl | decide +kernel)); (case h_48 => (first | k_is | kit_is | ks_is | rfl | decide +kernel))))
  (case ecC => (refine' ⟨?a_49, ?b_49, ?c_49, ?d_49, ?e_49, ?f_49, ?g_49, ?h_49⟩; (case a_49 => (first | k_is | kit_is | ks_is | rfl | decide +kernel)); (case b_49 => (first | k_is | kit_is | ks_is | rfl | decide +kernel)); (case c_49 => (first | k_is | kit_is | ks_is | rfl | decide +kernel)); (case d_49 => (first | k_is | kit_is | ks_is | rfl | decide +kernel)); (case e_49 => (first | k_is | kit_is | ks_is | rfl | decide +kernel)); (case f_49 => (first | k_is | kit_is | ks_is | rfl | decide +kernel)); (case g_49 => (first | k_is | kit_is | ks_is | rfl | decide +kernel)); (case h_49 => (first | k_is | kit_is | ks_is | rfl | decide +kernel))))
  (case xfN => (refine' ⟨?a_50, ?b_50, ?c_50, ?d_50⟩; (case a_50 => (first | k_is | kit_is | ks_is | rfl | decide +kernel)); (case b_50 => (first | k_is | kit_is | ks_is | rfl | decide +kernel)); (case c_50 => (first | k_is | kit_is | ks_is | rfl | decide +kernel)); (case d_50 => (first | k_is | kit_is | ks_is | rfl | decide +kernel))))
  (case xfG => (refine' ⟨?a_51, ?b_51, ?c_51, ?d_51⟩; (case a_51 => (first | k_is | kit_is | ks_is | rfl | decide +kernel)); (case b_51 => (first | k_is | kit_is | ks_is | rfl | decide +kernel)); (case c_51 => (first | k_is | kit_is | ks_is | rfl | decide +kernel)); (case d_51 => (first | k_is | kit_is | ks_is | rfl | decide +kernel))))
  (case xfC => (refine' ⟨?a_52, ?b_52, ?c_52, ?d_52⟩; (case a_52 => (first | k_is | kit_is | ks_is | rfl | decide +kernel)); (case b_52 => (first | k_is | kit_is | ks_is | rfl | decide +kernel)); (case c_52 => (first | k_is | kit_is | ks_is | rfl | decide +kernel)); (case d_52 => (first | k_is | kit_is | ks_is | rfl | decide +kernel))))
  (case kNT => (first | k_is | kit_is | ks_is | rfl | decide +kernel))
  (case kNV => (first | k_is | kit_is | ks_is | rfl | decide +kernel))
  (case kNG => (first | k_is | kit_is | ks_is | rfl | decide +kernel))
  (case kGT => (first | k_is | kit_is | ks_is | rfl | decide +kernel))
  (case kGV => (first | k_is | kit_is | ks_is | rfl | decide +kernel))
  (case kGC => (first | k_is | kit_is | ks_is | rfl | decide +kernel))
  (case kCT => (first | k_is | kit_is | ks_is | rfl | decide +kernel))
  (case kCV => (first | k_is | kit_is | ks_is | rfl | decide +kernel))
  (case kCG => (first | k_is | kit_is | ks_is | rfl | decide +kernel))
  (case neP => decide)
  (case nTab => (first | k_is | kit_is | ks_is | rfl | decide +kernel)); (case nTab2 => (first | k_is | kit_is | ks_is | rfl | decide +kernel)); (case hcd => (first | k_is | kit_is | ks_is | rfl | decide +kernel)); (case hcd2 => (first | k_is | kit_is | ks_is | rfl | decide +kernel))

