import PyProof.Rows.All
import Wide.All
import OpenK.AllK
import Wide.FinOn
import HandS.ForMost
import HandS.Exc
import HandS.ExcOwn
import HandS.WordsExc
import HandS.CallSlots
import HandS.Walk
import HandS.Lambda
import HandS.Wide
import HandS.IsInst
import HandS.Style
import HandS.ClsMeth
import HandS.Star
import HandS.EndTab
import HandS.OwnEq
import HandS.FStr
import PyProof.ReprHeads
import PyProof.StrHeap
import PyProof.FactsAll.list_1
import PyProof.FactsAll.list_3
import PyProof.Rows.Range3
import HandS.Text
import PyProof.StrLawsTight
import HandS.DictComp
import HandS.RevRange
import HandS.Conv
import PySem.Challenge.RW_thinwall_k35_machine_is_what_it_was_made
import PyProof.StrLawsFirst
import PyProof.StrLawsIn
import KE.KExcSuper
import HandS.ExcInit
import HandS.SetFor
import HandS.Strs
import HandS.More
import KE.GoesSet
import HandS.Comp
import HandS.MethStar
import HandS.ExcCtx
import KE.GoesEnum
import KE.GoesMore
import PyProof.ReprRoads
import PyProof.CallFns
import PyProof.ListStr
import PyProof.SetRoads
import HandS.MakeKwOnly
import KE.KExcIs
import HandS.ExcIs
import HandS.ExcField
import HandS.Codes
import KE.KOpsOwn
import HandS.Property
import HandS.NoneIn
import PyProof.StrOps2
import HandS.RaiseMore
import KE.KNestM
set_option Elab.async false
set_option linter.all false
set_option maxRecDepth 100000
set_option maxHeartbeats 1000000
/-! The data layer: values as trees of data, a stable heap S, owned cells w, a frame F; wishes in data. -/
namespace DL
open PySem PySem.Spec PyProof.Rows L2 LamX
/-- data: a value as it is, a list that stands, a tuple, a list that is only read, an instance that stands -/
inductive D where
  | val (v : V)
  | lst (ds : List D)
  | tup (ds : List D)
  | rd (ds : List D)
  | obj (C : Addr) (ns : List Str) (ds : List D)
  | exc (a dd : Addr) (ns : List Str) (ds : List D)
  | dic (kvs : List (Key × V))
  | dct (kvs : List (List Key × V))
  | dcv (ks : List Key) (ds : List D)
  | cod (f c : Addr) (q : Str) (σ : List (Option V)) (js : List Nat) (ds : List D)
abbrev I (i : Int) : D := .val (.int i)
abbrev B (b : Bool) : D := .val (.bl b)
abbrev T (s : Str) : D := .val (.str s)
abbrev N : D := .val .non
abbrev R (a : Addr) : D := .val (.ref a)
mutual
def Rep (K : PySem.W.Frag) (S : Hp) : D → V → Prop
  | .val v, x => x = v
  | .lst ds, x => ∃ a xs, x = .ref a ∧ S a = some (.lst xs) ∧ RepL K S ds xs
  | .tup ds, x => ∃ a xs, x = .ref a ∧ S a = some (.tup xs) ∧ RepL K S ds xs
  | .rd ds, x => ∃ a xs, x = .ref a ∧ SqL K S a xs ∧ RepL K S ds xs
  | .obj C ns ds, x => ∃ a dx ys, x = .ref a ∧ S a = some (.ins C dx ys) ∧ ys.map (·.1) = ns ∧ RepL K S ds (ys.map (·.2))
  | .exc a dd ns ds, x => ∃ ys, x = .ref a ∧ S dd = some (.xd ys) ∧ ys.map (·.1) = ns ∧ RepL K S ds (ys.map (·.2))
  | .dic kvs, x => ∃ a, x = .ref a ∧ S a = some (.dK kvs)
  | .dct kvs, x => ∃ a, x = .ref a ∧ S a = some (.dT kvs)
  | .dcv ks ds, x => ∃ a kvs, x = .ref a ∧ S a = some (.dK kvs) ∧ kvs.map (·.1) = ks ∧ RepL K S ds (kvs.map (·.2))
  | .cod f c q σ js ds, x => x = .ref f ∧ S c = some (CodeO c q) ∧ ∃ vs : List V, js.map (fun i => σ[i]?) = vs.map (fun v => some (some v)) ∧ RepL K S ds vs
def RepL (K : PySem.W.Frag) (S : Hp) : List D → List V → Prop
  | [], xs => xs = []
  | d :: ds, xs => ∃ y ys, xs = y :: ys ∧ Rep K S d y ∧ RepL K S ds ys
end
section
variable {K : PySem.W.Frag} {S S' H H' : Hp}
mutual
theorem Rep.mono (e : Same S S') : ∀ {d : D} {v : V}, Rep K S d v → Rep K S' d v
  | .val v, x, h => h
  | .lst ds, x, h => by
    obtain ⟨a, xs, h1, h2, h3⟩ := h
    exact ⟨a, xs, h1, e _ _ h2, RepL.mono e h3⟩
  | .tup ds, x, h => by
    obtain ⟨a, xs, h1, h2, h3⟩ := h
    exact ⟨a, xs, h1, e _ _ h2, RepL.mono e h3⟩
  | .rd ds, x, h => by
    obtain ⟨a, xs, h1, h2, h3⟩ := h
    exact ⟨a, xs, h1, e.seq h2, RepL.mono e h3⟩
  | .obj C ns ds, x, h => by
    obtain ⟨a, dx, ys, h1, h2, h3, h4⟩ := h
    exact ⟨a, dx, ys, h1, e _ _ h2, h3, RepL.mono e h4⟩
  | .exc a dd ns ds, x, h => by
    obtain ⟨ys, h1, h2, h3, h4⟩ := h
    exact ⟨ys, h1, e _ _ h2, h3, RepL.mono e h4⟩
  | .dic kvs, x, h => by
    obtain ⟨a, h1, h2⟩ := h
    exact ⟨a, h1, e _ _ h2⟩
  | .dct kvs, x, h => by
    obtain ⟨a, h1, h2⟩ := h
    exact ⟨a, h1, e _ _ h2⟩
  | .dcv ks ds, x, h => by
    obtain ⟨a, kvs, h1, h2, h3, h4⟩ := h
    exact ⟨a, kvs, h1, e _ _ h2, h3, RepL.mono e h4⟩
  | .cod f c q σ js ds, x, h => by
    obtain ⟨h1, h2, vs, h3, h4⟩ := h
    exact ⟨h1, e _ _ h2, vs, h3, RepL.mono e h4⟩
theorem RepL.mono (e : Same S S') : ∀ {ds : List D} {xs : List V}, RepL K S ds xs → RepL K S' ds xs
  | [], xs, h => h
  | d :: ds, xs, h => by
    obtain ⟨y, ys, h1, h2, h3⟩ := h
    exact ⟨y, ys, h1, Rep.mono e h2, RepL.mono e h3⟩
end
theorem RepL.length : ∀ {ds : List D} {xs : List V}, RepL K S ds xs → xs.length = ds.length
  | [], xs, h => by
    have h' : xs = [] := h
    rw [h']
    rfl
  | d :: ds, xs, h => by
    obtain ⟨y, ys, rfl, h2, h3⟩ := h
    show ys.length + 1 = ds.length + 1
    rw [RepL.length h3]
theorem RepL.get : ∀ {ds : List D} {xs : List V}, RepL K S ds xs → ∀ {i : Nat} {d : D}, ds[i]? = some d → ∃ x, xs[i]? = some x ∧ Rep K S d x
  | [], _, _, i, d, e => by simp at e
  | d0 :: ds, xs, h, i, d, e => by
    obtain ⟨y, ys, rfl, h2, h3⟩ := h
    cases i with
    | zero =>
      have e' : d0 = d := Option.some.inj e
      subst e'
      exact ⟨y, rfl, h2⟩
    | succ i => exact RepL.get h3 (i := i) e
theorem RepL.app : ∀ {ds es : List D} {xs ys : List V}, RepL K S ds xs → RepL K S es ys → RepL K S (ds ++ es) (xs ++ ys)
  | [], es, xs, ys, h, k => by
    have h' : xs = [] := h
    subst h'
    exact k
  | d :: ds, es, xs, ys, h, k => by
    obtain ⟨y, zs, rfl, h2, h3⟩ := h
    exact ⟨y, zs ++ ys, rfl, h2, RepL.app h3 k⟩
theorem RepL.one {d : D} {x : V} (h : Rep K S d x) : RepL K S [d] [x] := ⟨x, [], rfl, h, rfl⟩
theorem RepL.ints : ∀ {ns : List Int} {xs : List V}, RepL K S (ns.map I) xs → xs = ns.map V.int
  | [], xs, h => h
  | n :: ns, xs, h => by
    obtain ⟨y, ys, rfl, h2, h3⟩ := h
    have h2' : y = V.int n := h2
    rw [h2', RepL.ints h3]
    rfl
theorem RepL.vals : ∀ {vs : List V} {xs : List V}, RepL K S (vs.map D.val) xs → xs = vs
  | [], xs, h => h
  | n :: ns, xs, h => by
    obtain ⟨y, ys, rfl, h2, h3⟩ := h
    have h2' : y = n := h2
    rw [h2', RepL.vals h3]
theorem RepL.of_vals : ∀ {vs : List V}, RepL K S (vs.map D.val) vs
  | [] => rfl
  | n :: ns => ⟨n, ns, rfl, rfl, RepL.of_vals⟩
/-- a part -/
theorem RepL.drop : ∀ {ds : List D} {xs : List V} (n : Nat), RepL K S ds xs → RepL K S (ds.drop n) (xs.drop n)
  | ds, xs, 0, h => h
  | [], xs, n + 1, h => by
    have h' : xs = [] := h
    subst h'
    rfl
  | d :: ds, xs, n + 1, h => by
    obtain ⟨y, ys, rfl, h2, h3⟩ := h
    exact RepL.drop n h3
theorem RepL.take : ∀ {ds : List D} {xs : List V} (n : Nat), RepL K S ds xs → RepL K S (ds.take n) (xs.take n)
  | ds, xs, 0, h => rfl
  | [], xs, n + 1, h => by
    have h' : xs = [] := h
    subst h'
    rfl
  | d :: ds, xs, n + 1, h => by
    obtain ⟨y, ys, rfl, h2, h3⟩ := h
    exact ⟨y, ys.take n, rfl, h2, RepL.take n h3⟩
theorem RepL.set : ∀ {ds : List D} {xs : List V} (n : Nat) {d : D} {x : V}, RepL K S ds xs → Rep K S d x → RepL K S (ds.set n d) (xs.set n x)
  | [], xs, n, d, x, h, k => by
    have h' : xs = [] := h
    subst h'
    rfl
  | d0 :: ds, xs, 0, d, x, h, k => by
    obtain ⟨y, ys, rfl, h2, h3⟩ := h
    exact ⟨x, ys, rfl, k, h3⟩
  | d0 :: ds, xs, n + 1, d, x, h, k => by
    obtain ⟨y, ys, rfl, h2, h3⟩ := h
    exact ⟨y, ys.set n x, rfl, h2, RepL.set n h3 k⟩
theorem RepL.rev : ∀ {ds : List D} {xs : List V}, RepL K S ds xs → RepL K S ds.reverse xs.reverse
  | [], xs, h => by
    have h' : xs = [] := h
    subst h'
    rfl
  | d :: ds, xs, h => by
    obtain ⟨y, ys, rfl, h2, h3⟩ := h
    rw [List.reverse_cons, List.reverse_cons]
    exact RepL.app (RepL.rev h3) (RepL.one h2)
theorem RepL.dropLast : ∀ {ds : List D} {xs : List V}, RepL K S ds xs → RepL K S ds.dropLast xs.dropLast := fun {ds xs} h => by
  rw [List.dropLast_eq_take, List.dropLast_eq_take, RepL.length h]
  exact RepL.take _ h
theorem RepL.eraseIdx : ∀ {ds : List D} {xs : List V} (n : Nat), RepL K S ds xs → RepL K S (ds.eraseIdx n) (xs.eraseIdx n)
  | [], xs, n, h => by
    have h' : xs = [] := h
    subst h'
    rfl
  | d0 :: ds, xs, 0, h => by
    obtain ⟨y, ys, rfl, h2, h3⟩ := h
    exact h3
  | d0 :: ds, xs, n + 1, h => by
    obtain ⟨y, ys, rfl, h2, h3⟩ := h
    exact ⟨y, ys.eraseIdx n, rfl, h2, RepL.eraseIdx n h3⟩
end
/-- an owned cell -/
inductive HD where
  | lst (ds : List D)
  | ins (C dx : Addr) (ns : List Str) (ds : List D)
  | dic (kvs : List (Key × V))
  | dcd (ks : List Key) (ds : List D)
def RepH (K : PySem.W.Frag) (S : Hp) : HD → HO → Prop
  | .lst ds, o => ∃ xs, o = .lst xs ∧ RepL K S ds xs
  | .ins C dx ns ds, o => ∃ ys, o = .ins C dx ys ∧ ys.map (·.1) = ns ∧ RepL K S ds (ys.map (·.2))
  | .dic kvs, o => o = .dK kvs
  | .dcd ks ds, o => ∃ kvs, o = .dK kvs ∧ kvs.map (·.1) = ks ∧ RepL K S ds (kvs.map (·.2))
theorem RepH.mono {K : PySem.W.Frag} {S S' : Hp} (e : Same S S') : ∀ {h : HD} {o : HO}, RepH K S h o → RepH K S' h o
  | .lst ds, o, h => by
    obtain ⟨xs, h1, h2⟩ := h
    exact ⟨xs, h1, h2.mono e⟩
  | .ins C dx ns ds, o, h => by
    obtain ⟨ys, h1, h2, h3⟩ := h
    exact ⟨ys, h1, h2, h3.mono e⟩
  | .dic kvs, o, h => h
  | .dcd ks ds, o, h => by
    obtain ⟨kvs, h1, h2, h3⟩ := h
    exact ⟨kvs, h1, h2, h3.mono e⟩
abbrev Wp := Addr → Option HD
def wu (w : Wp) (a : Addr) (h : HD) : Wp := fun b => if b = a then some h else w b
def wd (w : Wp) (a : Addr) : Wp := fun b => if b = a then none else w b
def w0 : Wp := fun _ => none
theorem wu_same {w : Wp} {a : Addr} {h : HD} : wu w a h a = some h := if_pos rfl
theorem wu_ne {w : Wp} {a b : Addr} {h : HD} (e : b ≠ a) : wu w a h b = w b := if_neg e
theorem wu_wu {w : Wp} {a : Addr} {h k : HD} : wu (wu w a h) a k = wu w a k := by
  funext b
  by_cases e : b = a
  · rw [e, wu_same, wu_same]
  · rw [wu_ne e, wu_ne e, wu_ne e]
theorem wd_wu {w : Wp} {a : Addr} {h : HD} (e : w a = none) : wd (wu w a h) a = w := by
  funext b
  by_cases q : b = a
  · rw [q, e]
    exact if_pos rfl
  · show (if b = a then none else wu w a h b) = w b
    rw [if_neg q, wu_ne q]
/-- no table of code, no code object -/
def NTC (o : HO) : Prop := (∀ ps, o ≠ .tbl ps) ∧ ∀ c q, o ≠ CodeO c q
/-- how the heap H stands: S stands for ever, w is owned, F is somebody else's -/
structure World (K : PySem.W.Frag) (T : List (Addr × Str)) (S : Hp) (w : Wp) (F H : Hp) : Prop where
  same : Same S H
  notbl : ∀ a ps, S a ≠ some (.tbl ps)
  own : ∀ a h, w a = some h → S a = none ∧ F a = none ∧ ∃ o, H a = some o ∧ RepH K S h o
  frm : ∀ a o, F a = some o → S a = none ∧ H a = some o
  tabs : Tabs T H
  nf : ∀ a o, F a = some o → NTC o
section
variable {K : PySem.W.Frag} {T : List (Addr × Str)} {S S' F H H' : Hp} {w : Wp} {a : Addr} {o : HO} {h : HD}
theorem World.free (W : World K T S w F H) (e : H a = none) : S a = none ∧ w a = none ∧ F a = none := by
  refine ⟨W.same.free e, ?_, ?_⟩
  · cases q : w a with
    | none => rfl
    | some h =>
      obtain ⟨_, _, o, q2, _⟩ := W.own a h q
      rw [e] at q2
      cases q2
  · cases q : F a with
    | none => rfl
    | some o =>
      have q2 := (W.frm a o q).2
      rw [e] at q2
      cases q2
theorem same_upd {H : Hp} {p : Addr} {o : HO} (h : H p = none) : Same H (upd H p o) := fun b x e => by
  rw [upd_ne (ne_of_none e h)]
  exact e
/-- a new object that stands -/
theorem World.laid (W : World K T S w F H) (e : H a = none) (hn : ∀ ps, o ≠ .tbl ps) : World K T (upd S a o) w F (upd H a o) := by
  obtain ⟨e1, e2, e3⟩ := W.free e
  have sS : Same S (upd S a o) := same_upd e1
  have sH : Same H (upd H a o) := same_upd e
  refine ⟨fun b x q => ?_, fun b ps q => ?_, fun b h q => ?_, fun b x q => ?_, W.tabs.ext sH, W.nf⟩
  · by_cases hb : b = a
    · subst hb
      rw [upd_same] at q ⊢
      exact q
    · rw [upd_ne hb] at q ⊢
      exact W.same _ _ q
  · by_cases hb : b = a
    · subst hb
      rw [upd_same] at q
      exact hn ps (Option.some.inj q)
    · rw [upd_ne hb] at q
      exact W.notbl _ _ q
  · have hb : b ≠ a := fun z => by
      rw [z, e2] at q
      cases q
    obtain ⟨q1, q2, x, q3, q4⟩ := W.own b h q
    exact ⟨by rw [upd_ne hb]; exact q1, q2, x, sH _ _ q3, q4.mono sS⟩
  · have hb : b ≠ a := fun z => by
      rw [z, e3] at q
      cases q
    obtain ⟨q1, q2⟩ := W.frm b x q
    exact ⟨by rw [upd_ne hb]; exact q1, sH _ _ q2⟩
/-- a new object that nobody looks at -/
theorem World.junk (W : World K T S w F H) (e : H a = none) : World K T S w F (upd H a o) := by
  have sH : Same H (upd H a o) := same_upd e
  refine ⟨W.same.trans sH, W.notbl, fun b h q => ?_, fun b x q => ?_, W.tabs.ext sH, W.nf⟩
  · obtain ⟨q1, q2, x, q3, q4⟩ := W.own b h q
    exact ⟨q1, q2, x, sH _ _ q3, q4⟩
  · obtain ⟨q1, q2⟩ := W.frm b x q
    exact ⟨q1, sH _ _ q2⟩
/-- a new owned cell -/
theorem World.take (W : World K T S w F H) (e : H a = none) (r : RepH K S h o) : World K T S (wu w a h) F (upd H a o) := by
  obtain ⟨e1, e2, e3⟩ := W.free e
  have sH : Same H (upd H a o) := same_upd e
  refine ⟨W.same.trans sH, W.notbl, fun b k q => ?_, fun b x q => ?_, W.tabs.ext sH, W.nf⟩
  · by_cases hb : b = a
    · subst hb
      rw [wu_same] at q
      cases q
      exact ⟨e1, e3, o, upd_same, r⟩
    · rw [wu_ne hb] at q
      obtain ⟨q1, q2, x, q3, q4⟩ := W.own b k q
      exact ⟨q1, q2, x, sH _ _ q3, q4⟩
  · obtain ⟨q1, q2⟩ := W.frm b x q
    exact ⟨q1, sH _ _ q2⟩
theorem nf_upd {F : Hp} {a : Addr} {o : HO} (h : ∀ a o, F a = some o → NTC o) (hn : NTC o) : ∀ b u, upd F a o b = some u → NTC u := fun b u z => by
  by_cases e : b = a
  · rw [e, upd_same] at z
    cases z
    exact hn
  · rw [upd_ne e] at z
    exact h b u z
/-- a new cell of the frame -/
theorem World.takeF (W : World K T S w F H) (e : H a = none) (hn : ∀ ps, o ≠ .tbl ps) (hx : ∀ c q, o ≠ CodeO c q := by intro _ _ z; unfold CodeO at z; cases z) : World K T S w (upd F a o) (upd H a o) := by
  obtain ⟨e1, e2, e3⟩ := W.free e
  have sH : Same H (upd H a o) := same_upd e
  refine ⟨W.same.trans sH, W.notbl, fun b k q => ?_, fun b x q => ?_, W.tabs.ext sH, nf_upd W.nf ⟨hn, hx⟩⟩
  · have hb : b ≠ a := fun z => by
      rw [z, e2] at q
      cases q
    obtain ⟨q1, q2, x, q3, q4⟩ := W.own b k q
    exact ⟨q1, by rw [upd_ne hb]; exact q2, x, sH _ _ q3, q4⟩
  · by_cases hb : b = a
    · subst hb
      rw [upd_same] at q ⊢
      exact ⟨e1, q⟩
    · rw [upd_ne hb] at q
      obtain ⟨q1, q2⟩ := W.frm b x q
      exact ⟨q1, sH _ _ q2⟩
theorem TabS.put {H : Hp} {P a : Addr} {q : Str} {u o : HO} (t : TabS H P q) (e : H a = some u) (h1 : ∀ ps, u ≠ .tbl ps) (h2 : ∀ φ, u ≠ .ext φ) : TabS (upd H a o) P q := by
  obtain ⟨ps, k1, k2, k3⟩ := t
  refine ⟨ps, ?_, k2, fun pos cv hc => ?_⟩
  · rw [upd_ne (ne_of k1 e (fun z => h1 ps z.symm))]
    exact k1
  · obtain ⟨c, e1, e2⟩ := k3 pos cv hc
    refine ⟨c, e1, ?_⟩
    rw [upd_ne (ne_of e2 e (fun z => h2 _ z.symm))]
    exact e2
theorem RepH.notbl {h : HD} {o : HO} (r : RepH K S h o) : (∀ ps, o ≠ .tbl ps) ∧ (∀ φ, o ≠ .ext φ) := by
  cases h with
  | lst ds =>
    obtain ⟨xs, rfl, _⟩ := r
    exact ⟨fun _ z => (by cases z), fun _ z => (by cases z)⟩
  | ins C dx ns ds =>
    obtain ⟨ys, rfl, _⟩ := r
    exact ⟨fun _ z => (by cases z), fun _ z => (by cases z)⟩
  | dic kvs =>
    have r' : o = .dK kvs := r
    subst r'
    exact ⟨fun _ z => (by cases z), fun _ z => (by cases z)⟩
  | dcd ks ds =>
    obtain ⟨kvs, rfl, _⟩ := r
    exact ⟨fun _ z => (by cases z), fun _ z => (by cases z)⟩
/-- an owned cell is written -/
theorem World.put (W : World K T S w F H) {k : HD} (e : w a = some k) (r : RepH K S h o) : World K T S (wu w a h) F (upd H a o) := by
  obtain ⟨e1, e2, u, e3, e4⟩ := W.own a k e
  refine ⟨fun b x q => ?_, W.notbl, fun b k q => ?_, fun b x q => ?_, fun p hp => TabS.put (W.tabs p hp) e3 e4.notbl.1 e4.notbl.2, W.nf⟩
  · rw [upd_ne (ne_of_none q e1)]
    exact W.same _ _ q
  · by_cases hb : b = a
    · subst hb
      rw [wu_same] at q
      cases q
      exact ⟨e1, e2, o, upd_same, r⟩
    · rw [wu_ne hb] at q
      obtain ⟨q1, q2, x, q3, q4⟩ := W.own b k q
      exact ⟨q1, q2, x, by rw [upd_ne hb]; exact q3, q4⟩
  · obtain ⟨q1, q2⟩ := W.frm b x q
    refine ⟨q1, ?_⟩
    rw [upd_ne (fun z => by rw [z, e2] at q; cases q)]
    exact q2
/-- an owned cell stands from now on -/
theorem World.freeze (W : World K T S w F H) (e : w a = some h) : ∃ o, S a = none ∧ RepH K S h o ∧ World K T (upd S a o) (wd w a) F H := by
  obtain ⟨e1, e2, o, e3, e4⟩ := W.own a h e
  have sS : Same S (upd S a o) := same_upd e1
  refine ⟨o, e1, e4, fun b x q => ?_, fun b ps q => ?_, fun b k q => ?_, fun b x q => ?_, W.tabs, W.nf⟩
  · by_cases hb : b = a
    · subst hb
      rw [upd_same] at q
      rw [e3]
      exact q
    · rw [upd_ne hb] at q
      exact W.same _ _ q
  · by_cases hb : b = a
    · subst hb
      rw [upd_same] at q
      exact e4.notbl.1 ps (Option.some.inj q)
    · rw [upd_ne hb] at q
      exact W.notbl _ _ q
  · have hb : b ≠ a := fun z => by
      rw [z] at q
      have q' : (if a = a then none else w a) = some k := q
      rw [if_pos rfl] at q'
      cases q'
    have q' : w b = some k := by
      have q' : (if b = a then none else w b) = some k := q
      rw [if_neg hb] at q'
      exact q'
    obtain ⟨q1, q2, x, q3, q4⟩ := W.own b k q'
    exact ⟨by rw [upd_ne hb]; exact q1, q2, x, q3, q4.mono sS⟩
  · obtain ⟨q1, q2⟩ := W.frm b x q
    refine ⟨?_, q2⟩
    rw [upd_ne (fun z => by rw [z, e2] at q; cases q)]
    exact q1
/-- a cell of the frame is written; is taken out and stands -/
theorem World.putF (W : World K T S w F H) {u : HO} (e : F a = some u) (h1 : ∀ ps, u ≠ .tbl ps) (h2 : ∀ φ, u ≠ .ext φ) (hn : ∀ ps, o ≠ .tbl ps) (hx : ∀ c q, o ≠ CodeO c q := by intro _ _ z; unfold CodeO at z; cases z) : World K T S w (upd F a o) (upd H a o) := by
  obtain ⟨e1, e2⟩ := W.frm a u e
  refine ⟨fun b x q => ?_, W.notbl, fun b k q => ?_, fun b x q => ?_, fun p hp => TabS.put (W.tabs p hp) e2 h1 h2, nf_upd W.nf ⟨hn, hx⟩⟩
  · rw [upd_ne (ne_of_none q e1)]
    exact W.same _ _ q
  · obtain ⟨q1, q2, x, q3, q4⟩ := W.own b k q
    have hb : b ≠ a := fun z => by
      rw [z, e] at q2
      cases q2
    exact ⟨q1, by rw [upd_ne hb]; exact q2, x, by rw [upd_ne hb]; exact q3, q4⟩
  · by_cases hb : b = a
    · subst hb
      rw [upd_same] at q ⊢
      exact ⟨e1, q⟩
    · rw [upd_ne hb] at q
      obtain ⟨q1, q2⟩ := W.frm b x q
      exact ⟨q1, by rw [upd_ne hb]; exact q2⟩
theorem World.freezeF {F0 : Hp} (W : World K T S w (upd F0 a o) H) (e : F0 a = none) (h1 : ∀ ps, o ≠ .tbl ps) : S a = none ∧ World K T (upd S a o) w F0 H := by
  obtain ⟨e1, e2⟩ := W.frm a o upd_same
  have sS : Same S (upd S a o) := same_upd e1
  refine ⟨e1, fun b x q => ?_, fun b ps q => ?_, fun b k q => ?_, fun b x q => ?_, W.tabs, fun b u z => ?_⟩
  · by_cases hb : b = a
    · subst hb
      rw [upd_same] at q
      rw [e2]
      exact q
    · rw [upd_ne hb] at q
      exact W.same _ _ q
  · by_cases hb : b = a
    · subst hb
      rw [upd_same] at q
      exact h1 ps (Option.some.inj q)
    · rw [upd_ne hb] at q
      exact W.notbl _ _ q
  · obtain ⟨q1, q2, x, q3, q4⟩ := W.own b k q
    have hb : b ≠ a := fun z => by
      rw [z, upd_same] at q2
      cases q2
    refine ⟨by rw [upd_ne hb]; exact q1, ?_, x, q3, q4.mono sS⟩
    rw [upd_ne hb] at q2
    exact q2
  · have hb : b ≠ a := fun z => by
      rw [z, e] at q
      cases q
    obtain ⟨q1, q2⟩ := W.frm b x (by rw [upd_ne hb]; exact q)
    exact ⟨by rw [upd_ne hb]; exact q1, q2⟩
  · by_cases hb : b = a
    · rw [hb, e] at z
      cases z
    · exact W.nf b u (by rw [upd_ne hb]; exact z)
/-- a code object stands -/
theorem World.code {c : Addr} {q : Str} (W : World K T S w F H) (e : H c = some (CodeO c q)) : ∃ S', Same S S' ∧ S' c = some (CodeO c q) ∧ World K T S' w F H := by
  cases hS : S c with
  | some o =>
    have e2 := W.same c o hS
    rw [e] at e2
    cases e2
    exact ⟨S, Same.refl _, hS, W⟩
  | none =>
    have sS : Same S (upd S c (CodeO c q)) := same_upd hS
    refine ⟨upd S c (CodeO c q), sS, upd_same, fun b x q' => ?_, fun b ps q' => ?_, fun b k q' => ?_, fun b x q' => ?_, W.tabs, W.nf⟩
    · by_cases hb : b = c
      · subst hb
        rw [upd_same] at q'
        rw [e]
        exact q'
      · rw [upd_ne hb] at q'
        exact W.same _ _ q'
    · by_cases hb : b = c
      · subst hb
        rw [upd_same] at q'
        exact codeO_ne ps (Option.some.inj q')
      · rw [upd_ne hb] at q'
        exact W.notbl _ _ q'
    · obtain ⟨q1, q2, x, q3, q4⟩ := W.own b k q'
      have hb : b ≠ c := fun z => by
        rw [z, e] at q3
        exact q4.notbl.2 _ (Option.some.inj q3).symm
      exact ⟨by rw [upd_ne hb]; exact q1, q2, x, q3, q4.mono sS⟩
    · obtain ⟨q1, q2⟩ := W.frm b x q'
      have hb : b ≠ c := fun z => by
        rw [z] at q2 q'
        rw [e] at q2
        exact (W.nf c x q').2 c q (Option.some.inj q2).symm
      exact ⟨by rw [upd_ne hb]; exact q1, q2⟩
end
/-! ### the frame's slots, in data -/
abbrev Dn := List (Option D)
structure EnvD (K : PySem.W.Frag) (S : Hp) (δ : Dn) (σ : L2.St) : Prop where
  len : δ.length = σ.length
  at_ : ∀ (i : Nat) (d : D), δ[i]? = some (some d) → ∃ v, σ[i]? = some (some v) ∧ Rep K S d v
theorem EnvD.mono {K : PySem.W.Frag} {S S' : Hp} {δ : Dn} {σ : L2.St} (e : Same S S') (h : EnvD K S δ σ) : EnvD K S' δ σ := ⟨h.len, fun i d q => by
  obtain ⟨v, h1, h2⟩ := h.at_ i d q
  exact ⟨v, h1, h2.mono e⟩⟩
theorem EnvD.set {K : PySem.W.Frag} {S : Hp} {δ : Dn} {σ : L2.St} (h : EnvD K S δ σ) (i : Nat) {d : D} {v : V} (r : Rep K S d v) : EnvD K S (δ.set i (some d)) (σ.set i (some v)) := by
  refine ⟨by rw [List.length_set, List.length_set]; exact h.len, fun j d' q => ?_⟩
  by_cases e : i = j
  · subst e
    by_cases hl : i < δ.length
    · rw [List.getElem?_set_self hl] at q
      cases q
      exact ⟨v, by rw [List.getElem?_set_self (by rw [← h.len]; exact hl)], r⟩
    · rw [List.getElem?_eq_none (by simpa using hl)] at q
      cases q
  · rw [List.getElem?_set_ne e] at q
    obtain ⟨v', h1, h2⟩ := h.at_ j d' q
    exact ⟨v', by rw [List.getElem?_set_ne e]; exact h1, h2⟩
theorem EnvD.unset {K : PySem.W.Frag} {S : Hp} {δ : Dn} {σ : L2.St} (h : EnvD K S δ σ) (i : Nat) : EnvD K S (δ.set i none) (σ.set i none) := by
  refine ⟨by rw [List.length_set, List.length_set]; exact h.len, fun j d' q => ?_⟩
  by_cases e : i = j
  · subst e
    by_cases hl : i < δ.length
    · rw [List.getElem?_set_self hl] at q
      cases q
    · rw [List.getElem?_eq_none (by simpa using hl)] at q
      cases q
  · rw [List.getElem?_set_ne e] at q
    obtain ⟨v', h1, h2⟩ := h.at_ j d' q
    exact ⟨v', by rw [List.getElem?_set_ne e]; exact h1, h2⟩
def wipeD (δ : Dn) : List Nat → Dn
  | [] => δ
  | v :: vs => (wipeD δ vs).set v none
theorem EnvD.wipe {K : PySem.W.Frag} {S : Hp} {δ : Dn} {σ : L2.St} (h : EnvD K S δ σ) : ∀ vs : List Nat, EnvD K S (wipeD δ vs) (L2.wipe σ vs)
  | [] => h
  | v :: vs => (EnvD.wipe h vs).unset v
/-- a slot's data is told otherwise -/
theorem EnvD.tell {K : PySem.W.Frag} {S : Hp} {δ : Dn} {σ : L2.St} (h : EnvD K S δ σ) (i : Nat) {d d' : D} (q : δ[i]? = some (some d)) (r : ∀ v, Rep K S d v → Rep K S d' v) : EnvD K S (δ.set i (some d')) σ := by
  refine ⟨by rw [List.length_set]; exact h.len, fun j e q' => ?_⟩
  by_cases z : i = j
  · subst z
    have hl : i < δ.length := (List.getElem?_eq_some_iff.mp q).1
    rw [List.getElem?_set_self hl] at q'
    cases q'
    obtain ⟨v, h1, h2⟩ := h.at_ i d q
    exact ⟨v, h1, r v h2⟩
  · rw [List.getElem?_set_ne z] at q'
    exact h.at_ j e q'
end DL

set_option Elab.async false
set_option linter.all false
set_option maxRecDepth 100000
set_option maxHeartbeats 1000000
/-! The judgements in data: expressions, tests, argument lists, statements. -/
namespace DL
open PySem PySem.Spec PyProof.Rows L2 LamX
/-! ### the weakest readings -/
section
variable (X : Cx)
def wpE (e : Expr) : TE := fun σ H Q => ∀ pins s, Inv X pins σ H s → wpAny (model X.prog X.w) X.A (eval e X.env) (EP X pins σ Q) X.xe s
def wpT (e : Expr) : TT := fun σ H Q => ∀ pins s, Inv X pins σ H s → wpAny (model X.prog X.w) X.A (isTrue e X.env (eval e X.env)) (TP X pins σ Q) X.xe s
def wpA (es : List Expr) : TA := fun σ H Q => ∀ (pos : Pos) pins s, Inv X pins σ H s → wpAny (model X.prog X.w) X.A (spliced (backTo pos (starEach es X.env))) (AP X pins σ Q) X.xe s
def wpS (st : Stmt) : TS := fun D σ H => ∀ pins s, Inv X pins σ H s → wpAny (model X.prog X.w) X.A (exec st X.env) (SP X pins D) X.xe s
def wpSs (st : List Stmt) : TS := fun D σ H => ∀ pins s, Inv X pins σ H s → wpAny (model X.prog X.w) X.A (execs st X.env) (SP X pins D) X.xe s
def wpG (tg : Expr) : TG := fun v σ H Q => ∀ pins s u, Inv X pins σ H s → RelV v u → wpAny (model X.prog X.w) X.A (assign tg X.env u) (fun _ s' => ∃ σ' H', Inv X pins σ' H' s' ∧ Q σ' H') X.xe s
def wpTs (ifs : List Expr) : TT := fun σ H Q => ∀ pins s, Inv X pins σ H s → wpAny (model X.prog X.w) X.A (forIn ifs true fun c r => if r = true then do let ok ← isTrue c X.env (eval c X.env); pure (ForInStep.yield ok) else pure (ForInStep.yield r)) (TP X pins σ Q) X.xe s
end
section
variable {X : Cx}
theorem pe_wp (e : Expr) : PE X e (wpE X e) := ⟨fun pins s _ _ _ I h => h pins s I⟩
theorem pt_wp (e : Expr) : PT X e (wpT X e) := ⟨fun pins s _ _ _ I h => h pins s I⟩
theorem pa_wp (es : List Expr) : PA X es (wpA X es) := ⟨fun pos pins s _ _ _ I h => h pos pins s I⟩
theorem ps_wp (st : Stmt) : PS X st (wpS X st) := ⟨fun pins s _ _ _ I h => h pins s I⟩
theorem pss_wp (st : List Stmt) : PSs X st (wpSs X st) := ⟨fun pins s _ _ _ I h => h pins s I⟩
theorem pg_wp (tg : Expr) : PG X tg (wpG X tg) := ⟨fun pins s _ _ _ u _ I r h => h pins s u I r⟩
theorem pts_wp (ifs : List Expr) : PTs X ifs (wpTs X ifs) := ⟨fun pins s _ _ _ I h => h pins s I⟩
theorem wp_pe {e : Expr} {t : TE} (h : PE X e t) {σ : L2.St} {H : Hp} {Q : VK} (q : t σ H Q) : wpE X e σ H Q := fun pins s I => h.run pins s σ H Q I q
theorem wp_pt {e : Expr} {t : TT} (h : PT X e t) {σ : L2.St} {H : Hp} {Q : Bool → Hp → Prop} (q : t σ H Q) : wpT X e σ H Q := fun pins s I => h.run pins s σ H Q I q
theorem wp_pa {es : List Expr} {t : TA} (h : PA X es t) {σ : L2.St} {H : Hp} {Q : List V → Hp → Prop} (q : t σ H Q) : wpA X es σ H Q := fun pos pins s I => h.run pos pins s σ H Q I q
theorem wp_ps {st : Stmt} {t : TS} (h : PS X st t) {σ : L2.St} {H : Hp} {D : Ends} (q : t D σ H) : wpS X st D σ H := fun pins s I => h.run pins s σ H D I q
theorem wp_pss {st : List Stmt} {t : TS} (h : PSs X st t) {σ : L2.St} {H : Hp} {D : Ends} (q : t D σ H) : wpSs X st D σ H := fun pins s I => h.run pins s σ H D I q
theorem wp_pg {tg : Expr} {t : TG} (h : PG X tg t) {v : V} {σ : L2.St} {H : Hp} {Q : L2.St → Hp → Prop} (q : t v σ H Q) : wpG X tg v σ H Q := fun pins s u I r => h.run pins s σ H v u Q I r q
end
/-! ### wishes in data -/
/-- an exception's wish: class, fields, owned cells -/
abbrev XD := Addr → List Str → List D → Wp → Prop
abbrev noX : XD := fun _ _ _ _ => False
/-- an exception's own dict -/
def XdR (K : PySem.W.Frag) (S : Hp) (d : Addr) (ns : List Str) (ds : List D) : Prop := ∃ ys, S d = some (.xd ys) ∧ ys.map (·.1) = ns ∧ RepL K S ds (ys.map (·.2))
/-- W takes what χ tells -/
def ExD (K : PySem.W.Frag) (T : List (Addr × Str)) (W : WX) (χ : XD) (σ : L2.St) (S F : Hp) : Prop :=
  ∀ C ns ds w' d S' H', χ C ns ds w' → Same S S' → World K T S' w' F H' → XdR K S' d ns ds → W (.ref C) (some d) σ H'
def KD (K : PySem.W.Frag) (T : List (Addr × Str)) (κ : D → Wp → Prop) (S F : Hp) (Q : VK) : Prop :=
  ∀ d w' v S' H', κ d w' → Same S S' → World K T S' w' F H' → Rep K S' d v → Q v H'
def KB (K : PySem.W.Frag) (T : List (Addr × Str)) (κ : Bool → Wp → Prop) (S F : Hp) (Q : Bool → Hp → Prop) : Prop :=
  ∀ b w' S' H', κ b w' → Same S S' → World K T S' w' F H' → Q b H'
def KA (K : PySem.W.Frag) (T : List (Addr × Str)) (κ : List D → Wp → Prop) (S F : Hp) (Q : List V → Hp → Prop) : Prop :=
  ∀ ds w' vs S' H', κ ds w' → Same S S' → World K T S' w' F H' → RepL K S' ds vs → Q vs H'
def KS (K : PySem.W.Frag) (T : List (Addr × Str)) (κ : Dn → Wp → Prop) (S F : Hp) (Q : L2.St → Hp → Prop) : Prop :=
  ∀ δ' w' σ' S' H', κ δ' w' → Same S S' → EnvD K S' δ' σ' → World K T S' w' F H' → Q σ' H'
section
variable {K : PySem.W.Frag} {T : List (Addr × Str)} {W : WX} {χ : XD} {σ : L2.St} {S S' F : Hp}
theorem ExD.mono (e : Same S S') (h : ExD K T W χ σ S F) : ExD K T W χ σ S' F := fun C ns ds w' d S2 H2 x s1 wd r => h C ns ds w' d S2 H2 x (e.trans s1) wd r
theorem KD.mono {κ : D → Wp → Prop} {Q : VK} (e : Same S S') (h : KD K T κ S F Q) : KD K T κ S' F Q := fun d w' v S2 H2 x s1 wd r => h d w' v S2 H2 x (e.trans s1) wd r
theorem KB.mono {κ : Bool → Wp → Prop} {Q : Bool → Hp → Prop} (e : Same S S') (h : KB K T κ S F Q) : KB K T κ S' F Q := fun d w' S2 H2 x s1 wd => h d w' S2 H2 x (e.trans s1) wd
theorem KA.mono {κ : List D → Wp → Prop} {Q : List V → Hp → Prop} (e : Same S S') (h : KA K T κ S F Q) : KA K T κ S' F Q := fun d w' v S2 H2 x s1 wd r => h d w' v S2 H2 x (e.trans s1) wd r
theorem KS.mono {κ : Dn → Wp → Prop} {Q : L2.St → Hp → Prop} (e : Same S S') (h : KS K T κ S F Q) : KS K T κ S' F Q := fun d w' v S2 H2 x s1 en wd => h d w' v S2 H2 x (e.trans s1) en wd
end
/-! ### the judgements -/
section
variable (X : Cx) (T : List (Addr × Str)) (W : WX) (χ : XD)
def PD (e : Expr) (δ : Dn) (w : Wp) (κ : D → Wp → Prop) : Prop :=
  ∀ (F : Hp) (σ : L2.St) (S H : Hp) (Q : VK), EnvD X.K S δ σ → World X.K T S w F H → ExD X.K T W χ σ S F → KD X.K T κ S F Q → wpE X e σ H Q
def PTD (e : Expr) (δ : Dn) (w : Wp) (κ : Bool → Wp → Prop) : Prop :=
  ∀ (F : Hp) (σ : L2.St) (S H : Hp) (Q : Bool → Hp → Prop), EnvD X.K S δ σ → World X.K T S w F H → ExD X.K T W χ σ S F → KB X.K T κ S F Q → wpT X e σ H Q
/-- a test whatever its whole is -/
def PWD (e : Expr) (δ : Dn) (w : Wp) (κ : Bool → Wp → Prop) : Prop :=
  ∀ (F : Hp) (σ : L2.St) (S H : Hp) (Q : Bool → Hp → Prop), EnvD X.K S δ σ → World X.K T S w F H → ExD X.K T W χ σ S F → KB X.K T κ S F Q →
    ∀ (whole : Sem Value) pins s, Inv X pins σ H s → wpAny (model X.prog X.w) X.A (isTrue e X.env whole) (TP X pins σ Q) X.xe s
def PAD (es : List Expr) (δ : Dn) (w : Wp) (κ : List D → Wp → Prop) : Prop :=
  ∀ (F : Hp) (σ : L2.St) (S H : Hp) (Q : List V → Hp → Prop), EnvD X.K S δ σ → World X.K T S w F H → ExD X.K T W χ σ S F → KA X.K T κ S F Q → wpA X es σ H Q
def PGD (tg : Expr) (d : D) (δ : Dn) (w : Wp) (κ : Dn → Wp → Prop) : Prop :=
  ∀ (F : Hp) (v : V) (σ : L2.St) (S H : Hp) (Q : L2.St → Hp → Prop), Rep X.K S d v → EnvD X.K S δ σ → World X.K T S w F H → KS X.K T κ S F Q → wpG X tg v σ H Q
structure Fin where
  nx : Dn → Wp → Prop
  rt : D → Wp → Prop
  bk : Dn → Wp → Prop := fun _ _ => False
  ct : Dn → Wp → Prop := fun _ _ => False
structure KE (C : Fin) (S F : Hp) (E : Ends) : Prop where
  nx : KS X.K T C.nx S F E.nx
  rt : KD X.K T C.rt S F E.rt
  bk : KS X.K T C.bk S F E.bk
  ct : KS X.K T C.ct S F E.ct
def ExS (S F : Hp) : Prop := ∀ σ, ExD X.K T W χ σ S F
def PSD (st : Stmt) (δ : Dn) (w : Wp) (C : Fin) : Prop :=
  ∀ (F : Hp) (σ : L2.St) (S H : Hp) (E : Ends), EnvD X.K S δ σ → World X.K T S w F H → ExS X T W χ S F → KE X T C S F E → wpS X st E σ H
def PSsD (sts : List Stmt) (δ : Dn) (w : Wp) (C : Fin) : Prop :=
  ∀ (F : Hp) (σ : L2.St) (S H : Hp) (E : Ends), EnvD X.K S δ σ → World X.K T S w F H → ExS X T W χ S F → KE X T C S F E → wpSs X sts E σ H
end
section
variable {X : Cx} {T : List (Addr × Str)} {W : WX} {χ : XD} {δ : Dn} {w : Wp} {pos : Pos}
theorem KE.mono {C : Fin} {S S' F : Hp} {E : Ends} (e : Same S S') (h : KE X T C S F E) : KE X T C S' F E := ⟨h.nx.mono e, h.rt.mono e, h.bk.mono e, h.ct.mono e⟩
theorem ExS.mono {S S' F : Hp} (e : Same S S') (h : ExS X T W χ S F) : ExS X T W χ S' F := fun σ => (h σ).mono e
theorem PD.imp {e : Expr} {κ κ' : D → Wp → Prop} (h : PD X T W χ e δ w κ) (i : ∀ d w', κ d w' → κ' d w') : PD X T W χ e δ w κ' :=
  fun F σ S H Q hE hW hX hK => h F σ S H Q hE hW hX fun d w' v S' H' x => hK d w' v S' H' (i d w' x)
theorem PSsD.imp {sts : List Stmt} {C C' : Fin} (h : PSsD X T W χ sts δ w C) (hn : ∀ δ' w', C.nx δ' w' → C'.nx δ' w') (hr : ∀ d w', C.rt d w' → C'.rt d w') (hb : ∀ δ' w', C.bk δ' w' → C'.bk δ' w') (hc : ∀ δ' w', C.ct δ' w' → C'.ct δ' w') : PSsD X T W χ sts δ w C' :=
  fun F σ S H E hE hW hX hK => h F σ S H E hE hW hX ⟨fun δ' w' σ' S' H' x => hK.nx δ' w' σ' S' H' (hn _ _ x), fun d w' v S' H' x => hK.rt d w' v S' H' (hr _ _ x), fun δ' w' σ' S' H' x => hK.bk δ' w' σ' S' H' (hb _ _ x), fun δ' w' σ' S' H' x => hK.ct δ' w' σ' S' H' (hc _ _ x)⟩
/-! ### names and constants -/
theorem pd_var {x : Str} {i : Nat} {d : D} {κ : D → Wp → Prop} (hN : X.N[i]? = some x) (hd : δ[i]? = some (some d)) (k : κ d w)
    (hv : Vis X.env.scope x := by first | exact Or.inl rfl | exact Or.inr (Or.inl rfl) | exact Or.inr (Or.inr rfl)) (h1 : (x == ("__debug__" : Str)) = false := by decide) (h2 : (x == ("__classdict__" : Str)) = false := by decide) :
    PD X T W χ (.Name x pos) δ w κ := fun F σ S H Q hE hW hX hK => by
  obtain ⟨v, e1, r⟩ := hE.at_ i d hd
  exact wp_pe (pe_var hN hv h1 h2) ⟨v, e1, hK d w v S H k (Same.refl _) hW r⟩
theorem pd_int {i : Int} {j : Nat} {κ : D → Wp → Prop} (k : κ (I i) w) : PD X T W χ (.Constant (.int i) j pos) δ w κ := fun F σ S H Q hE hW hX hK => wp_pe pe_int (hK _ w _ S H k (Same.refl _) hW rfl)
theorem pd_bl {b : Bool} {j : Nat} {κ : D → Wp → Prop} (k : κ (B b) w) : PD X T W χ (.Constant (.bool b) j pos) δ w κ := fun F σ S H Q hE hW hX hK => wp_pe pe_bl (hK _ w _ S H k (Same.refl _) hW rfl)
theorem pd_non {j : Nat} {κ : D → Wp → Prop} (k : κ N w) : PD X T W χ (.Constant .none j pos) δ w κ := fun F σ S H Q hE hW hX hK => wp_pe pe_non (hK _ w _ S H k (Same.refl _) hW rfl)
theorem pd_str {x : Str} {j : Nat} {κ : D → Wp → Prop} (k : κ (DL.T x) w) : PD X T W χ (.Constant (.str x) j pos) δ w κ := fun F σ S H Q hE hW hX hK => wp_pe pe_str (hK _ w _ S H k (Same.refl _) hW rfl)
/-! ### argument lists -/
theorem pad_nil {κ : List D → Wp → Prop} (k : κ [] w) : PAD X T W χ [] δ w κ := fun F σ S H Q hE hW hX hK => wp_pa pa_nil (hK _ w _ S H k (Same.refl _) hW rfl)
theorem pad_cons {e : Expr} {es : List Expr} {κ : List D → Wp → Prop} (h : PD X T W χ e δ w fun d w1 => PAD X T W χ es δ w1 fun ds w2 => κ (d :: ds) w2)
    (hs : starEach (e :: es) X.env = (false, eval e X.env) :: starEach es X.env := by rfl) : PAD X T W χ (e :: es) δ w κ := fun F σ S H Q hE hW hX hK => by
  refine wp_pa (pa_cons (pe_wp e) (pa_wp es) hs) ?_
  refine h F σ S H _ hE hW hX fun d w1 v S1 H1 k s1 W1 r => ?_
  refine k F σ S1 H1 _ (hE.mono s1) W1 (hX.mono s1) fun ds w2 vs S2 H2 k2 s2 W2 r2 => ?_
  exact hK _ w2 _ S2 H2 k2 (s1.trans s2) W2 ⟨v, vs, rfl, r.mono s2, r2⟩
/-! ### operators, by values -/
/-- the value rule r, in data -/
def VR1 (K : PySem.W.Frag) (T : List (Addr × Str)) (r : V → Hp → VK → Prop) (d : D) (w : Wp) (κ : D → Wp → Prop) : Prop :=
  ∀ (F S H : Hp) (x : V) (Q : VK), World K T S w F H → Rep K S d x → KD K T κ S F Q → r x H Q
def VR2 (K : PySem.W.Frag) (T : List (Addr × Str)) (r : R2) (d e : D) (w : Wp) (κ : D → Wp → Prop) : Prop :=
  ∀ (F S H : Hp) (x y : V) (Q : VK), World K T S w F H → Rep K S d x → Rep K S e y → KD K T κ S F Q → r x y H Q
def VRA (K : PySem.W.Frag) (T : List (Addr × Str)) (r : List V → Hp → VK → Prop) (ds : List D) (w : Wp) (κ : D → Wp → Prop) : Prop :=
  ∀ (F S H : Hp) (xs : List V) (Q : VK), World K T S w F H → RepL K S ds xs → KD K T κ S F Q → r xs H Q
def VRM (K : PySem.W.Frag) (T : List (Addr × Str)) (r : V → List V → Hp → VK → Prop) (d : D) (ds : List D) (w : Wp) (κ : D → Wp → Prop) : Prop :=
  ∀ (F S H : Hp) (x : V) (xs : List V) (Q : VK), World K T S w F H → Rep K S d x → RepL K S ds xs → KD K T κ S F Q → r x xs H Q
theorem two {a b : Expr} {r : R2} {κ : D → Wp → Prop} (h : PD X T W χ a δ w fun d w1 => PD X T W χ b δ w1 fun e w2 => VR2 X.K T r d e w2 κ) {F : Hp} {σ : L2.St} {S H : Hp} {Q : VK} (hE : EnvD X.K S δ σ) (hW : World X.K T S w F H) (hX : ExD X.K T W χ σ S F) (hK : KD X.K T κ S F Q) :
    tOp r (wpE X a) (wpE X b) σ H Q := by
  refine h F σ S H _ hE hW hX fun d w1 v S1 H1 k s1 W1 r1 => ?_
  refine k F σ S1 H1 _ (hE.mono s1) W1 (hX.mono s1) fun e w2 u S2 H2 k2 s2 W2 r2 => ?_
  exact k2 F S2 H2 v u _ W2 (r1.mono s2) r2 (hK.mono (s1.trans s2))
theorem pd_op {a b : Expr} {op : Operator} {r : R2} {κ : D → Wp → Prop} (ho : OpR X (binaryOp op) r) (h : PD X T W χ a δ w fun d w1 => PD X T W χ b δ w1 fun e w2 => VR2 X.K T r d e w2 κ) : PD X T W χ (.BinOp a op b pos) δ w κ :=
  fun F σ S H Q hE hW hX hK => wp_pe (pe_op ho (pe_wp a) (pe_wp b)) (two h hE hW hX hK)
theorem pd_cmp {a b : Expr} {op : CmpOp} {r : R2} {κ : D → Wp → Prop} (ho : OpR X (compareOp op) r) (h : PD X T W χ a δ w fun d w1 => PD X T W χ b δ w1 fun e w2 => VR2 X.K T r d e w2 κ)
    (hm : behindInMarks op b = false := by first | exact nomark _ | rfl) : PD X T W χ (.Compare a [op] [b] pos) δ w κ :=
  fun F σ S H Q hE hW hX hK => wp_pe (pe_cmpR ho (pe_wp a) (pe_wp b) hm) (two h hE hW hX hK)
theorem pd_un {a : Expr} {op : UnaryOp} {r : V → Hp → VK → Prop} {κ : D → Wp → Prop} (ho : UnR X (unaryOp op) r) (h : PD X T W χ a δ w fun d w1 => VR1 X.K T r d w1 κ) : PD X T W χ (.UnaryOp op a pos) δ w κ :=
  fun F σ S H Q hE hW hX hK => wp_pe (pe_un ho (pe_wp a)) (by
    refine h F σ S H _ hE hW hX fun d w1 v S1 H1 k s1 W1 r1 => ?_
    exact k F S1 H1 v _ W1 r1 (hK.mono s1))
theorem pd_ix {a b : Expr} {r : R2} {κ : D → Wp → Prop} (ho : IxR X r) (h : PD X T W χ a δ w fun d w1 => PD X T W χ b δ w1 fun e w2 => VR2 X.K T r d e w2 κ) (hs : PlainIx b := by exact fun _ _ => rfl) : PD X T W χ (.Subscript a b pos) δ w κ :=
  fun F σ S H Q hE hW hX hK => wp_pe (pe_ix ho (pe_wp a) (pe_wp b) hs) (two h hE hW hX hK)
/-! ### tests -/
/-- an expression whose value is a bool, as a test -/
theorem ptd_val {e : Expr} {κ : Bool → Wp → Prop} (h : PD X T W χ e δ w fun d w' => ∃ b, d = B b ∧ κ b w')
    (he : ∀ whole, isTrue e X.env whole = (do let v ← whole; standAt e.pos; holding [v] (truthy v)) := by intro _; rfl) : PTD X T W χ e δ w κ :=
  fun F σ S H Q hE hW hX hK => wp_pt (pt_val (pe_wp e) he) (by
    refine h F σ S H _ hE hW hX fun d w' v S' H' k s1 W1 r => ?_
    obtain ⟨b, rfl, k⟩ := k
    have rv : v = .bl b := r
    exact ⟨b, rv, hK b w' S' H' k s1 W1⟩)
/-- a comparison, as a test -/
theorem ptd_cmp {a b : Expr} {op : CmpOp} {r : R2} {κ : Bool → Wp → Prop} (ho : OpR X (compareOp op) r) (h : PD X T W χ a δ w fun d w1 => PD X T W χ b δ w1 fun e w2 => VR2 X.K T r d e w2 fun d w' => ∃ b, d = B b ∧ κ b w')
    (hm : behindInMarks op b = false := by first | exact nomark _ | rfl) : PTD X T W χ (.Compare a [op] [b] pos) δ w κ :=
  fun F σ S H Q hE hW hX hK => wp_pt (pt_cmpR ho (pe_wp a) (pe_wp b) hm) (two (κ := fun d w' => ∃ b, d = B b ∧ κ b w') h hE hW hX fun d w' v S' H' k s1 W1 r => by
    obtain ⟨b, rfl, k⟩ := k
    have rv : v = .bl b := r
    exact ⟨b, rv, hK b w' S' H' k s1 W1⟩)
theorem ptd_not {e : Expr} {κ : Bool → Wp → Prop} (h : PTD X T W χ e δ w fun b w' => κ (!b) w') : PTD X T W χ (.UnaryOp .Not e pos) δ w κ :=
  fun F σ S H Q hE hW hX hK => wp_pt (pt_not (pt_wp e)) (by
    refine h F σ S H _ hE hW hX fun b w' S' H' k s1 W1 => ?_
    exact hK _ w' S' H' k s1 W1)
theorem pwd_pt {e : Expr} {κ : Bool → Wp → Prop} (h : PWD X T W χ e δ w κ) : PTD X T W χ e δ w κ := fun F σ S H Q hE hW hX hK pins s I => h F σ S H Q hE hW hX hK _ pins s I
theorem pwd_and1 {a : Expr} {κ : Bool → Wp → Prop} (h : PTD X T W χ a δ w κ) : PWD X T W χ (.BoolOp .And [a] pos) δ w κ := fun F σ S H Q hE hW hX hK whole pins s I =>
  (pw_and1 (pt_wp a)).run whole pins s σ H Q I (h F σ S H Q hE hW hX hK)
theorem pwd_or1 {a : Expr} {κ : Bool → Wp → Prop} (h : PTD X T W χ a δ w κ) : PWD X T W χ (.BoolOp .Or [a] pos) δ w κ := fun F σ S H Q hE hW hX hK whole pins s I =>
  (pw_or1 (pt_wp a)).run whole pins s σ H Q I (h F σ S H Q hE hW hX hK)
def wpW (X : Cx) (e : Expr) : TT := fun σ H Q => ∀ whole pins s, Inv X pins σ H s → wpAny (model X.prog X.w) X.A (isTrue e X.env whole) (TP X pins σ Q) X.xe s
theorem pw_wp (e : Expr) : PW X e (wpW X e) := ⟨fun whole pins s _ _ _ I h => h whole pins s I⟩
theorem pwd_and {a b : Expr} {rest : List Expr} {κ : Bool → Wp → Prop} (h : PTD X T W χ a δ w fun c w1 => if c = true then PWD X T W χ (.BoolOp .And (b :: rest) pos) δ w1 κ else κ false w1) : PWD X T W χ (.BoolOp .And (a :: b :: rest) pos) δ w κ :=
  fun F σ S H Q hE hW hX hK whole pins s I => (pw_and (pt_wp a) (pw_wp _)).run whole pins s σ H Q I (by
    refine h F σ S H _ hE hW hX fun c w1 S1 H1 k s1 W1 => ?_
    cases c with
    | true =>
      rw [if_pos rfl] at k ⊢
      exact fun whole pins s I => k F σ S1 H1 Q (hE.mono s1) W1 (hX.mono s1) (hK.mono s1) whole pins s I
    | false =>
      rw [if_neg Bool.false_ne_true] at k ⊢
      exact hK _ w1 S1 H1 k s1 W1)
theorem pwd_or {a b : Expr} {rest : List Expr} {κ : Bool → Wp → Prop} (h : PTD X T W χ a δ w fun c w1 => if c = true then κ true w1 else PWD X T W χ (.BoolOp .Or (b :: rest) pos) δ w1 κ) : PWD X T W χ (.BoolOp .Or (a :: b :: rest) pos) δ w κ :=
  fun F σ S H Q hE hW hX hK whole pins s I => (pw_or (pt_wp a) (pw_wp _)).run whole pins s σ H Q I (by
    refine h F σ S H _ hE hW hX fun c w1 S1 H1 k s1 W1 => ?_
    cases c with
    | true =>
      rw [if_pos rfl] at k ⊢
      exact hK _ w1 S1 H1 k s1 W1
    | false =>
      rw [if_neg Bool.false_ne_true] at k ⊢
      exact fun whole pins s I => k F σ S1 H1 Q (hE.mono s1) W1 (hX.mono s1) (hK.mono s1) whole pins s I)
/-- and, or as values -/
theorem pd_and {a b : Expr} {rest : List Expr} {κ : D → Wp → Prop} (h : PD X T W χ a δ w fun d w1 => ∃ c, d = B c ∧ if c = true then PD X T W χ (.BoolOp .And (b :: rest) pos) δ w1 κ else κ (B false) w1) : PD X T W χ (.BoolOp .And (a :: b :: rest) pos) δ w κ :=
  fun F σ S H Q hE hW hX hK => wp_pe (pe_and (pe_wp a) (pe_wp _)) (by
    refine h F σ S H _ hE hW hX fun d w1 v S1 H1 k s1 W1 r => ?_
    obtain ⟨c, rfl, k⟩ := k
    have rv : v = .bl c := r
    refine ⟨c, rv, ?_⟩
    cases c with
    | true =>
      rw [if_pos rfl] at k ⊢
      exact k F σ S1 H1 Q (hE.mono s1) W1 (hX.mono s1) (hK.mono s1)
    | false =>
      rw [if_neg Bool.false_ne_true] at k ⊢
      exact hK _ w1 _ S1 H1 k s1 W1 rfl)
theorem pd_or {a b : Expr} {rest : List Expr} {κ : D → Wp → Prop} (h : PD X T W χ a δ w fun d w1 => ∃ c, d = B c ∧ if c = true then κ (B true) w1 else PD X T W χ (.BoolOp .Or (b :: rest) pos) δ w1 κ) : PD X T W χ (.BoolOp .Or (a :: b :: rest) pos) δ w κ :=
  fun F σ S H Q hE hW hX hK => wp_pe (pe_or (pe_wp a) (pe_wp _)) (by
    refine h F σ S H _ hE hW hX fun d w1 v S1 H1 k s1 W1 r => ?_
    obtain ⟨c, rfl, k⟩ := k
    have rv : v = .bl c := r
    refine ⟨c, rv, ?_⟩
    cases c with
    | true =>
      rw [if_pos rfl] at k ⊢
      exact hK _ w1 _ S1 H1 k s1 W1 rfl
    | false =>
      rw [if_neg Bool.false_ne_true] at k ⊢
      exact k F σ S1 H1 Q (hE.mono s1) W1 (hX.mono s1) (hK.mono s1))
theorem pd_one {op : BoolOp} {a : Expr} {κ : D → Wp → Prop} (h : PD X T W χ a δ w κ) : PD X T W χ (.BoolOp op [a] pos) δ w κ := fun F σ S H Q hE hW hX hK => wp_pe (pe_one (pe_wp a)) (h F σ S H Q hE hW hX hK)
theorem pd_not {a : Expr} {κ : D → Wp → Prop} (h : PD X T W χ a δ w fun d w1 => ∃ c, d = B c ∧ κ (B (!c)) w1) : PD X T W χ (.UnaryOp .Not a pos) δ w κ := fun F σ S H Q hE hW hX hK => wp_pe (pe_not (pe_wp a)) (by
  refine h F σ S H _ hE hW hX fun d w1 v S1 H1 k s1 W1 r => ?_
  obtain ⟨c, rfl, k⟩ := k
  have rv : v = .bl c := r
  exact ⟨c, rv, hK _ w1 _ S1 H1 k s1 W1 rfl⟩)
theorem pd_if {c a b : Expr} {κ : D → Wp → Prop} (h : PTD X T W χ c δ w fun k w1 => if k = true then PD X T W χ a δ w1 κ else PD X T W χ b δ w1 κ) : PD X T W χ (.IfExp c a b pos) δ w κ := fun F σ S H Q hE hW hX hK => wp_pe (pe_ifExp (pt_wp c) (pe_wp a) (pe_wp b)) (by
  refine h F σ S H _ hE hW hX fun k w1 S1 H1 q s1 W1 => ?_
  cases k with
  | true =>
    rw [if_pos rfl] at q ⊢
    exact q F σ S1 H1 Q (hE.mono s1) W1 (hX.mono s1) (hK.mono s1)
  | false =>
    rw [if_neg Bool.false_ne_true] at q ⊢
    exact q F σ S1 H1 Q (hE.mono s1) W1 (hX.mono s1) (hK.mono s1))
/-! ### displays -/
theorem pd_lst {es : List Expr} {κ : D → Wp → Prop} (h : PAD X T W χ es δ w fun ds w1 => ds.length ≤ sizeLine ∧ κ (.lst ds) w1) : PD X T W χ (.List es pos) δ w κ := fun F σ S H Q hE hW hX hK => wp_pe (pe_lst (pa_wp es)) (by
  refine h F σ S H _ hE hW hX fun ds w1 vs S1 H1 k s1 W1 r => ?_
  refine ⟨by rw [r.length]; exact k.1, fun p hp => ?_⟩
  have s2 : Same S1 (upd S1 p (.lst vs)) := same_upd (W1.free hp).1
  exact hK _ w1 _ _ _ k.2 (s1.trans s2) (W1.laid hp fun _ z => by cases z) ⟨p, vs, rfl, upd_same, r.mono s2⟩)
/-- an owned list -/
theorem pd_lstO {es : List Expr} {κ : D → Wp → Prop} (h : PAD X T W χ es δ w fun ds w1 => ds.length ≤ sizeLine ∧ ∀ a, w1 a = none → κ (R a) (wu w1 a (.lst ds))) : PD X T W χ (.List es pos) δ w κ := fun F σ S H Q hE hW hX hK => wp_pe (pe_lst (pa_wp es)) (by
  refine h F σ S H _ hE hW hX fun ds w1 vs S1 H1 k s1 W1 r => ?_
  refine ⟨by rw [r.length]; exact k.1, fun p hp => ?_⟩
  exact hK _ _ _ _ _ (k.2 p (W1.free hp).2.1) s1 (W1.take hp ⟨vs, rfl, r⟩) rfl)
theorem pd_tup {es : List Expr} {x1 : Nat} {κ : D → Wp → Prop} (h : PAD X T W χ es δ w fun ds w1 => ds.length ≤ sizeLine ∧ κ (.tup ds) w1) : PD X T W χ (.Tuple es x1 pos) δ w κ := fun F σ S H Q hE hW hX hK => wp_pe (pe_tup (pa_wp es)) (by
  refine h F σ S H _ hE hW hX fun ds w1 vs S1 H1 k s1 W1 r => ?_
  refine ⟨by rw [r.length]; exact k.1, fun p hp => ?_⟩
  have s2 : Same S1 (upd S1 p (.tup vs)) := same_upd (W1.free hp).1
  exact hK _ w1 _ _ _ k.2 (s1.trans s2) (W1.laid hp fun _ z => by cases z) ⟨p, vs, rfl, upd_same, r.mono s2⟩)
/-! ### blocks and small statements -/
theorem pssd_nil {C : Fin} (k : C.nx δ w) : PSsD X T W χ [] δ w C := fun F σ S H E hE hW hX hK => wp_pss pss_nil (hK.nx δ w σ S H k (Same.refl _) hE hW)
theorem pssd_cons {st : Stmt} {rest : List Stmt} {C : Fin} (h : PSD X T W χ st δ w { C with nx := fun δ' w' => PSsD X T W χ rest δ' w' C }) : PSsD X T W χ (st :: rest) δ w C := fun F σ S H E hE hW hX hK => wp_pss (pss_cons (ps_wp st) (pss_wp rest)) (by
  refine h F σ S H _ hE hW hX ⟨fun δ' w' σ' S' H' k s1 hE1 W1 => ?_, hK.rt, hK.bk, hK.ct⟩
  exact k F σ' S' H' E hE1 W1 (hX.mono s1) (hK.mono s1))
theorem pssd_one {st : Stmt} {C : Fin} (h : PSD X T W χ st δ w C) : PSsD X T W χ [st] δ w C := fun F σ S H E hE hW hX hK => wp_pss (pss_one (ps_wp st)) (h F σ S H E hE hW hX hK)
theorem psd_pass {C : Fin} (k : C.nx δ w) : PSD X T W χ (.Pass pos) δ w C := fun F σ S H E hE hW hX hK => wp_ps ps_pass (hK.nx δ w σ S H k (Same.refl _) hE hW)
theorem psd_break {C : Fin} (k : C.bk δ w) : PSD X T W χ (.Break pos) δ w C := fun F σ S H E hE hW hX hK => wp_ps ps_break (hK.bk δ w σ S H k (Same.refl _) hE hW)
theorem psd_cont {C : Fin} (k : C.ct δ w) : PSD X T W χ (.Continue pos) δ w C := fun F σ S H E hE hW hX hK => wp_ps ps_continue (hK.ct δ w σ S H k (Same.refl _) hE hW)
theorem psd_ret {e : Expr} {C : Fin} (h : PD X T W χ e δ w C.rt) : PSD X T W χ (.Return (some e) pos) δ w C := fun F σ S H E hE hW hX hK => wp_ps (ps_ret (pe_wp e)) (h F σ S H _ hE hW (hX σ) hK.rt)
theorem psd_retN {C : Fin} (k : C.rt N w) : PSD X T W χ (.Return none pos) δ w C := fun F σ S H E hE hW hX hK => wp_ps ps_retN (hK.rt N w _ S H k (Same.refl _) hW rfl)
theorem psd_expr {e : Expr} {C : Fin} (h : PD X T W χ e δ w fun _ w' => C.nx δ w') (hs : swapsWith e none pos.line X.env = pure false := by rfl) : PSD X T W χ (.Expr e pos) δ w C := fun F σ S H E hE hW hX hK => wp_ps (ps_expr (pe_wp e) hs) (by
  refine h F σ S H _ hE hW (hX σ) fun d w' v S' H' k s1 W1 r => ?_
  exact hK.nx δ w' σ S' H' k s1 (hE.mono s1) W1)
theorem psd_if {c : Expr} {a b : List Stmt} {C : Fin} (h : PTD X T W χ c δ w fun k w1 => if k = true then PSsD X T W χ a δ w1 C else PSsD X T W χ b δ w1 C) : PSD X T W χ (.If c a b pos) δ w C := fun F σ S H E hE hW hX hK => wp_ps (ps_if (pt_wp c) (pss_wp a) (pss_wp b)) (by
  refine h F σ S H _ hE hW (hX σ) fun k w1 S1 H1 q s1 W1 => ?_
  cases k with
  | true =>
    rw [if_pos rfl] at q ⊢
    exact q F σ S1 H1 E (hE.mono s1) W1 (hX.mono s1) (hK.mono s1)
  | false =>
    rw [if_neg Bool.false_ne_true] at q ⊢
    exact q F σ S1 H1 E (hE.mono s1) W1 (hX.mono s1) (hK.mono s1))
/-! ### targets -/
theorem pgd_name {i : Nat} {x : Str} {d : D} {κ : Dn → Wp → Prop} (hN : X.N.Nodup) (hi : X.N[i]? = some x) (k : κ (δ.set i (some d)) w) (hx : Loc X.env.scope x := by first | exact .inl rfl | exact .inr rfl)
    (hf : X.fn x = true ∨ X.env.scope.names.lookup x = some .local := by first | exact .inl rfl | exact .inr rfl) : PGD X T (.Name x pos) d δ w κ := fun F v σ S H Q r hE hW hK => wp_pg (pg_name hN hi hx hf) (hK _ w _ S H k (Same.refl _) (hE.set i r) hW)
theorem psd_set {i : Nat} {x : Str} {e : Expr} {pos' : Pos} {C : Fin} (hN : X.N.Nodup) (hi : X.N[i]? = some x) (h : PD X T W χ e δ w fun d w' => C.nx (δ.set i (some d)) w') (hx : Loc X.env.scope x := by first | exact .inl rfl | exact .inr rfl)
    (hs : swapsWith e (some (.Name x pos')) pos.line X.env = pure false := by rfl) (hf : X.fn x = true ∨ X.env.scope.names.lookup x = some .local := by first | exact .inl rfl | exact .inr rfl) : PSD X T W χ (.Assign [.Name x pos'] e pos) δ w C :=
  fun F σ S H E hE hW hX hK => wp_ps (ps_set hN hi hx (pe_wp e) hs hf) (by
    refine h F σ S H _ hE hW (hX σ) fun d w' v S' H' k s1 W1 r => ?_
    exact hK.nx _ w' _ S' H' k s1 ((hE.mono s1).set i r) W1)
/-- o[i] = e, an owned list -/
def VRS (K : PySem.W.Frag) (T : List (Addr × Str)) (t : TSet) (o i d : D) (w : Wp) (κ : Wp → Prop) : Prop :=
  ∀ (F S H : Hp) (x y v : V) (Q : Hp → Prop), World K T S w F H → Rep K S o x → Rep K S i y → Rep K S d v → (∀ w' S' H', κ w' → Same S S' → World K T S' w' F H' → Q H') → t x y v H Q
theorem psd_sub {o i e : Expr} {t : TSet} {tp : Pos} {C : Fin} (hs : PSet X t) (h : PD X T W χ e δ w fun d w1 => PD X T W χ o δ w1 fun od w2 => PD X T W χ i δ w2 fun id w3 => VRS X.K T t od id d w3 fun w' => C.nx δ w')
    (h1 : swapsWithSole [.Subscript o i tp] e pos.line X.env = pure false := by rfl) (h2 : swappedStores [.Subscript o i tp] e X.env = pure none := by rfl) (h3 : (assignEach [.Subscript o i tp] X.env).map (·.2) = [assign (.Subscript o i tp) X.env] := by rfl)
    (ha : ∀ v, assign (.Subscript o i tp) X.env v = (do
      let ov ← holding [v] (eval o X.env)
      let iv ← holding [v, ov] (eval i X.env)
      standAt tp
      holding [v, ov, iv] (setItem ov iv v)
      release [v, ov, iv] []) := by intro _; rfl) : PSD X T W χ (.Assign [.Subscript o i tp] e pos) δ w C :=
  fun F σ S H E hE hW hX hK => wp_ps (ps_asg (pe_wp e) (pg_sub (pe_wp o) (pe_wp i) hs ha) h1 h2 h3) (by
    refine h F σ S H _ hE hW (hX σ) fun d w1 v S1 H1 k s1 W1 r => ?_
    refine k F σ S1 H1 _ (hE.mono s1) W1 ((hX σ).mono s1) fun od w2 x S2 H2 k2 s2 W2 r2 => ?_
    refine k2 F σ S2 H2 _ (hE.mono (s1.trans s2)) W2 ((hX σ).mono (s1.trans s2)) fun id w3 y S3 H3 k3 s3 W3 r3 => ?_
    refine k3 F S3 H3 x y v _ W3 (r2.mono s3) r3 (r.mono (s2.trans s3)) fun w' S' H' k' s' W' => ?_
    have ss := s1.trans (s2.trans (s3.trans s'))
    exact hK.nx δ w' σ S' H' k' ss (hE.mono ss) W')
/-! ### ghost steps -/
/-- an owned list stands from now on -/
theorem pssd_freeze {sts : List Stmt} {C : Fin} {a : Addr} {ds : List D} (i : Nat) (hi : δ[i]? = some (some (R a))) (hw : w a = some (.lst ds)) (h : PSsD X T W χ sts (δ.set i (some (.lst ds))) (wd w a) C) : PSsD X T W χ sts δ w C :=
  fun F σ S H E hE hW hX hK => by
    obtain ⟨o, e1, r, W1⟩ := hW.freeze hw
    obtain ⟨xs, rfl, r⟩ := r
    have s1 : Same S (upd S a (.lst xs)) := same_upd e1
    refine h F σ _ H E ((hE.mono s1).tell i hi fun v q => ?_) W1 (hX.mono s1) (hK.mono s1)
    have q' : v = .ref a := q
    exact ⟨a, xs, q', upd_same, r.mono s1⟩
end
end DL

set_option Elab.async false
set_option linter.all false
set_option maxRecDepth 100000
set_option maxHeartbeats 1000000
/-! Value rules in data; calls; loops; comprehensions; defs. -/
namespace DL
open PySem PySem.Spec PyProof.Rows L2 LamX
section
variable {K : PySem.W.Frag} {T : List (Addr × Str)} {w : Wp} {κ : D → Wp → Prop}
/-! ### numbers -/
theorem vr_I {f : Int → Int → V} {i j : Int} (k : κ (.val (f i j)) w) : VR2 K T (rI0 f) (I i) (I j) w κ := fun F S H x y Q hW r1 r2 hK => ⟨i, j, r1, r2, hK _ w _ S H k (Same.refl _) hW rfl⟩
theorem vr_IC {C : Int → Int → Prop} {f : Int → Int → V} {i j : Int} (c : C i j) (k : κ (.val (f i j)) w) : VR2 K T (rI C f) (I i) (I j) w κ := fun F S H x y Q hW r1 r2 hK => ⟨i, j, r1, r2, c, hK _ w _ S H k (Same.refl _) hW rfl⟩
theorem vr_U {f : Int → V} {i : Int} (k : κ (.val (f i)) w) : VR1 K T (rU f) (I i) w κ := fun F S H x Q hW r1 hK => ⟨i, r1, hK _ w _ S H k (Same.refl _) hW rfl⟩
theorem vr_eq {v u : V} (s : scal v u = true) (k : κ (B (decide (v = u))) w) : VR2 K T rEq (.val v) (.val u) w κ := fun F S H x y Q hW r1 r2 hK => by
  have e1 : x = v := r1
  have e2 : y = u := r2
  subst e1 e2
  exact ⟨s, hK _ w _ S H k (Same.refl _) hW rfl⟩
theorem vr_ne {v u : V} (s : scal v u = true) (k : κ (B (!decide (v = u))) w) : VR2 K T rNe (.val v) (.val u) w κ := fun F S H x y Q hW r1 r2 hK => by
  have e1 : x = v := r1
  have e2 : y = u := r2
  subst e1 e2
  exact ⟨s, hK _ w _ S H k (Same.refl _) hW rfl⟩
/-! ### is -/
def isV (d : D) (v : V) : Bool := match d with
  | .val u => decide (u = v)
  | _ => false
theorem Rep.isn {S : Hp} {d : D} {x : V} (r : Rep K S d x) (v : V) (hv : ∀ a, v ≠ .ref a) : decide (x = v) = isV d v := by
  cases d with
  | val u =>
    have e : x = u := r
    rw [e]
    rfl
  | lst ds =>
    obtain ⟨a, xs, rfl, _⟩ := r
    exact decide_eq_false fun z => hv a z.symm
  | tup ds =>
    obtain ⟨a, xs, rfl, _⟩ := r
    exact decide_eq_false fun z => hv a z.symm
  | rd ds =>
    obtain ⟨a, xs, rfl, _⟩ := r
    exact decide_eq_false fun z => hv a z.symm
  | obj C ns ds =>
    obtain ⟨a, dx, xs, rfl, _⟩ := r
    exact decide_eq_false fun z => hv a z.symm
  | exc a dd ns ds =>
    obtain ⟨ys, rfl, _⟩ := r
    exact decide_eq_false fun z => hv a z.symm
  | dic kvs =>
    obtain ⟨a, rfl, _⟩ := r
    exact decide_eq_false fun z => hv a z.symm
  | dct kvs =>
    obtain ⟨a, rfl, _⟩ := r
    exact decide_eq_false fun z => hv a z.symm
  | dcv ks ds =>
    obtain ⟨a, kvs, rfl, _⟩ := r
    exact decide_eq_false fun z => hv a z.symm
  | cod f c q σ js ds =>
    obtain ⟨rfl, _⟩ := r
    exact decide_eq_false fun z => hv f z.symm
theorem vr_isN {d : D} (k : κ (B (isV d .non)) w) : VR2 K T (fun x y H Q => y = .non ∧ Q (.bl (decide (x = .non))) H) d N w κ := fun F S H x y Q hW r1 r2 hK => ⟨r2, by
  rw [r1.isn .non (fun a z => by cases z)]
  exact hK _ w _ S H k (Same.refl _) hW rfl⟩
theorem vr_notN {d : D} (k : κ (B (!isV d .non)) w) : VR2 K T (fun x y H Q => y = .non ∧ Q (.bl (!decide (x = .non))) H) d N w κ := fun F S H x y Q hW r1 r2 hK => ⟨r2, by
  rw [r1.isn .non (fun a z => by cases z)]
  exact hK _ w _ S H k (Same.refl _) hW rfl⟩
def rIsBl : R2 := fun x y H Q => ∃ b : Bool, y = .bl b ∧ Q (.bl (decide (x = .bl b))) H
theorem op_isBl {X : Cx} : OpR X (compareOp .Is) rIsBl := by
  intro pins s σ H x y v u Q I rx ry h
  obtain ⟨b, rfl, q⟩ := h
  cases (show u = Value.bool b from ry)
  have hp : ∀ v : Value, (∀ z, v ≠ .builtin z) → PySem.plainIs v (.bool b) = true := fun v hv => by
    cases v <;> first | rfl | exact absurd rfl (hv _)
  have go : ∀ c : Bool, (v == Value.bool b) = c → decide (x = V.bl b) = c := fun c e => by
    rw [← e]
    by_cases z : x = .bl b
    · subst z
      cases (show v = Value.bool b from rx)
      simp
    · have : v ≠ Value.bool b := fun z2 => by
        subst z2
        cases x <;> first | exact Value.noConfusion (show Value.bool b = _ from rx) | (obtain ⟨t, q⟩ := rx; cases q) | skip
        rename_i c
        have e2 : Value.bool b = Value.bool c := rx
        cases e2
        exact z rfl
      simp [z, this]
  refine PySem.wpAny_is_plain (hp v fun z e => ?_) ?_
  · subst e
    cases x <;> first | exact Value.noConfusion (show Value.builtin z = _ from rx) | (obtain ⟨t, q⟩ := rx; cases q)
  · refine ⟨.bl (decide (x = V.bl b)), H, I, ?_, q⟩
    show Value.bool _ = Value.bool _
    rw [go _ rfl]
theorem vr_isBl {d : D} {b : Bool} (k : κ (B (isV d (.bl b))) w) : VR2 K T rIsBl d (B b) w κ := fun F S H x y Q hW r1 r2 hK => ⟨b, r2, by
  rw [r1.isn (.bl b) (fun a z => by cases z)]
  exact hK _ w _ S H k (Same.refl _) hW rfl⟩
/-! ### lists -/
theorem ix_at {α : Type} {xs : List α} {i : Nat} {v : α} (h : xs[i]? = some v) : atI xs (i : Int) = some v := atI_nat h
theorem vr_ixL {ds : List D} {i : Nat} {d : D} (h : ds[i]? = some d) (k : κ d w) : VR2 K T (rIxL K) (.lst ds) (I (i : Int)) w κ := fun F S H x y Q hW r1 r2 hK => by
  obtain ⟨a, xs, rfl, h1, h2⟩ := r1
  obtain ⟨v, h3, h4⟩ := h2.get h
  exact ⟨a, xs, i, v, rfl, r2, SqL.of (hW.same _ _ h1), ix_at h3, hK d w v S H k (Same.refl _) hW h4⟩
theorem vr_ixT {ds : List D} {i : Nat} {d : D} (h : ds[i]? = some d) (k : κ d w) : VR2 K T (rIxT K) (.tup ds) (I (i : Int)) w κ := fun F S H x y Q hW r1 r2 hK => by
  obtain ⟨a, xs, rfl, h1, h2⟩ := r1
  obtain ⟨v, h3, h4⟩ := h2.get h
  exact ⟨a, xs, i, v, rfl, r2, SqT.of (hW.same _ _ h1), ix_at h3, hK d w v S H k (Same.refl _) hW h4⟩
/-- an item of an owned list -/
theorem vr_ixO {a : Addr} {ds : List D} {i : Nat} {d : D} (hw : w a = some (.lst ds)) (h : ds[i]? = some d) (k : κ d w) : VR2 K T (rIxL K) (R a) (I (i : Int)) w κ := fun F S H x y Q hW r1 r2 hK => by
  obtain ⟨_, _, o, h1, h2⟩ := hW.own a _ hw
  obtain ⟨xs, rfl, h2⟩ := h2
  obtain ⟨v, h3, h4⟩ := h2.get h
  exact ⟨a, xs, i, v, r1, r2, SqL.of h1, ix_at h3, hK d w v S H k (Same.refl _) hW h4⟩
/-- a store into an owned list -/
theorem vr_setO {a : Addr} {ds : List D} {i : Nat} {d : D} {κ : Wp → Prop} (hw : w a = some (.lst ds)) (h : i < ds.length) (k : κ (wu w a (.lst (ds.set i d)))) : VRS K T rSetL (R a) (I (i : Int)) d w κ := fun F S H x y v Q hW r1 r2 r3 hK => by
  obtain ⟨_, _, o, h1, h2⟩ := hW.own a _ hw
  obtain ⟨xs, rfl, h2⟩ := h2
  refine ⟨a, xs, (i : Int), i, r1, r2, h1, ?_, hK _ S _ k (Same.refl _) (hW.put hw ⟨_, rfl, h2.set i r3⟩)⟩
  rw [h2.length]
  unfold ixN
  rw [if_pos (by omega), if_pos (by omega)]
  rfl
theorem vr_cat {ds es : List D} (hz : ds.length + es.length ≤ sizeLine) (k : κ (.lst (ds ++ es)) w) : VR2 K T rCat (.lst ds) (.lst es) w κ := fun F S H x y Q hW r1 r2 hK => by
  obtain ⟨a, xs, rfl, h1, h2⟩ := r1
  obtain ⟨b, ys, rfl, h3, h4⟩ := r2
  refine ⟨a, b, xs, ys, rfl, rfl, hW.same _ _ h1, hW.same _ _ h3, by rw [h2.length, h4.length]; exact hz, fun p hp => ?_⟩
  have s1 : Same S (upd S p (.lst (xs ++ ys))) := same_upd (hW.free hp).1
  exact hK _ w _ _ _ k s1 (hW.laid hp fun _ z => by cases z) ⟨p, _, rfl, upd_same, (h2.app h4).mono s1⟩
theorem RepL.rep {S : Hp} {ds : List D} {xs : List V} (h : RepL K S ds xs) : ∀ n : Nat, RepL K S (List.replicate n ds).flatten (List.replicate n xs).flatten
  | 0 => rfl
  | n + 1 => by
    rw [List.replicate_succ, List.replicate_succ, List.flatten_cons, List.flatten_cons]
    exact h.app (RepL.rep h n)
theorem vr_rep {ds : List D} {n : Nat} (h1 : (n : Int) < 2 ^ 63) (hz : ds.length * n ≤ sizeLine) (k : κ (.lst (List.replicate n ds).flatten) w) : VR2 K T rRep (.lst ds) (I (n : Int)) w κ := fun F S H x y Q hW r1 r2 hK => by
  obtain ⟨a, xs, rfl, h3, h4⟩ := r1
  refine ⟨a, n, xs, rfl, r2, hW.same _ _ h3, by omega, h1, by rw [h4.length]; exact hz, fun p hp => ?_⟩
  have s1 : Same S (upd S p (.lst (List.replicate (n : Int).toNat xs).flatten)) := same_upd (hW.free hp).1
  exact hK _ w _ _ _ k s1 (hW.laid hp fun _ z => by cases z) ⟨p, _, rfl, upd_same, (h4.rep n).mono s1⟩
/-! ### == of data -/
mutual
def pyD : D → Option PyData
  | .val .non => some .none
  | .val (.bl b) => some (.bool b)
  | .val (.int i) => some (.int i)
  | .val (.str x) => some (.str x)
  | .val _ => none
  | .lst ds => (pyDs ds).map PyData.list
  | .tup ds => (pyDs ds).map PyData.tuple
  | .rd ds => (pyDs ds).map PyData.list
  | .obj _ _ _ => none
  | .exc _ _ _ _ => none
  | .dic _ => none
  | .dct _ => none
  | .dcv _ _ => none
  | .cod _ _ _ _ _ _ => none
def pyDs : List D → Option (List PyData)
  | [] => some []
  | d :: ds => (pyD d).bind fun x => (pyDs ds).map fun xs => x :: xs
end
mutual
theorem dp_of {S H : Hp} (e : Same S H) : ∀ {d : D} {p : PyData} {x : V}, pyD d = some p → Rep K S d x → Dp K H x p
  | .val v, p, x, h, r => by
    have r' : x = v := r
    subst r'
    cases x <;> first | (cases h; constructor) | cases h
  | .lst ds, p, x, h, r => by
    obtain ⟨a, xs, rfl, h1, h2⟩ := r
    have h' : (pyDs ds).map PyData.list = some p := h
    cases q : pyDs ds with
    | none =>
      rw [q] at h'
      cases h'
    | some ps =>
      rw [q] at h'
      cases h'
      exact .lst (SqL.of (e _ _ h1)) (dp_all e q h2)
  | .tup ds, p, x, h, r => by
    obtain ⟨a, xs, rfl, h1, h2⟩ := r
    have h' : (pyDs ds).map PyData.tuple = some p := h
    cases q : pyDs ds with
    | none =>
      rw [q] at h'
      cases h'
    | some ps =>
      rw [q] at h'
      cases h'
      exact .tup (SqT.of (e _ _ h1)) (dp_all e q h2)
  | .rd ds, p, x, h, r => by
    obtain ⟨a, xs, rfl, h1, h2⟩ := r
    have h' : (pyDs ds).map PyData.list = some p := h
    cases q : pyDs ds with
    | none =>
      rw [q] at h'
      cases h'
    | some ps =>
      rw [q] at h'
      cases h'
      exact .lst (e.seq h1) (dp_all e q h2)
  | .obj _ _ _, p, x, h, r => by cases h
  | .exc _ _ _ _, p, x, h, r => by cases h
  | .dic _, p, x, h, r => by cases h
  | .dct _, p, x, h, r => by cases h
  | .dcv _ _, p, x, h, r => by cases h
  | .cod _ _ _ _ _ _, p, x, h, r => by cases h
theorem dp_all {S H : Hp} (e : Same S H) : ∀ {ds : List D} {ps : List PyData} {xs : List V}, pyDs ds = some ps → RepL K S ds xs → DpAll K H xs ps
  | [], ps, xs, h, r => by
    have r' : xs = [] := r
    subst r'
    cases h
    exact .nil
  | d :: ds, ps, xs, h, r => by
    obtain ⟨y, ys, rfl, h1, h2⟩ := r
    have h' : ((pyD d).bind fun x => (pyDs ds).map fun xs => x :: xs) = some ps := h
    cases q : pyD d with
    | none =>
      rw [q] at h'
      cases h'
    | some p =>
      cases q2 : pyDs ds with
      | none =>
        rw [q, q2] at h'
        cases h'
      | some qs =>
        rw [q, q2] at h'
        cases h'
        exact .cons (dp_of e q h1) (dp_all e q2 h2)
end
theorem vr_eqD {d e : D} {p q : PyData} (hd : pyD d = some p) (he : pyD e = some q) (s1 : SeqAt.shaped p = true) (s2 : SeqAt.shaped q = true) (k : κ (B (PyData.eqv p q)) w) : VR2 K T (rEqD K) d e w κ := fun F S H x y Q hW r1 r2 hK =>
  ⟨p, q, dp_of hW.same hd r1, dp_of hW.same he r2, s1, s2, hK _ w _ S H k (Same.refl _) hW rfl⟩
theorem vr_neD {d e : D} {p q : PyData} (hd : pyD d = some p) (he : pyD e = some q) (s1 : SeqAt.shaped p = true) (s2 : SeqAt.shaped q = true) (k : κ (B (!PyData.eqv p q)) w) : VR2 K T (rNeD K) d e w κ := fun F S H x y Q hW r1 r2 hK =>
  ⟨p, q, dp_of hW.same hd r1, dp_of hW.same he r2, s1, s2, hK _ w _ S H k (Same.refl _) hW rfl⟩
/-- an owned list against data -/
theorem vr_neDO {a : Addr} {ds : List D} {e : D} {ps : List PyData} {q : PyData} (hw : w a = some (.lst ds)) (hd : pyDs ds = some ps) (he : pyD e = some q) (s1 : SeqAt.shaped (.list ps) = true) (s2 : SeqAt.shaped q = true) (k : κ (B (!PyData.eqv (.list ps) q)) w) : VR2 K T (rNeD K) (R a) e w κ := fun F S H x y Q hW r1 r2 hK => by
  obtain ⟨_, _, o, h1, h2⟩ := hW.own a _ hw
  obtain ⟨xs, rfl, h2⟩ := h2
  have r1' : x = .ref a := r1
  subst r1'
  exact ⟨.list ps, q, .lst (SqL.of h1) (dp_all hW.same hd h2 |> fun z => z), dp_of hW.same he r2, s1, s2, hK _ w _ S H k (Same.refl _) hW rfl⟩
end
section
variable {X : Cx} {T : List (Addr × Str)} {W : WX} {χ : XD} {δ : Dn} {w : Wp} {pos : Pos}
/-! ### built-ins -/
theorem pd_callB {x : Str} {id : String} {r : List V → Hp → VK → Prop} {e : Expr} {es : List Expr} {p : Pos} {κ : D → Wp → Prop} (hc : CallR X (.builtin id) r) (hg : Gl X x) (hm : X.mg x = none) (hv : bootBuiltins x = some (.builtin id))
    (h : PAD X T W χ (e :: es) δ w fun ds w1 => VRA X.K T r ds w1 κ) (hn : x ≠ "__name__" := by decide) (hdb : (x == ("__debug__" : Str)) = false := by decide)
    (he : starEach (e :: es) X.env = (false, eval e X.env) :: starEach es X.env := by rfl) (hpl : (backTo pos (starEach es X.env)).any (·.1) = false := by rfl) : PD X T W χ (.Call (.Name x p) (e :: es) [] pos) δ w κ :=
  fun F σ S H Q hE hW hX hK => wp_pe (pe_callB hc hg hm hv (pa_wp _) hn hdb he hpl) (by
    refine h F σ S H _ hE hW hX fun ds w1 vs S1 H1 k s1 W1 r1 => ?_
    exact k F S1 H1 vs _ W1 r1 (hK.mono s1))
theorem pd_callTy {x : Str} {id : String} {r : List V → Hp → VK → Prop} {e : Expr} {es : List Expr} {p : Pos} {κ : D → Wp → Prop} (hc : CallR X (.type id) r) (hg : Gl X x) (hm : X.mg x = none) (hv : bootBuiltins x = some (.type id))
    (h : PAD X T W χ (e :: es) δ w fun ds w1 => VRA X.K T r ds w1 κ) (hn : x ≠ "__name__" := by decide) (hdb : (x == ("__debug__" : Str)) = false := by decide)
    (he : starEach (e :: es) X.env = (false, eval e X.env) :: starEach es X.env := by rfl) (hpl : (backTo pos (starEach es X.env)).any (·.1) = false := by rfl) : PD X T W χ (.Call (.Name x p) (e :: es) [] pos) δ w κ :=
  fun F σ S H Q hE hW hX hK => wp_pe (pe_callTy hc hg hm hv (pa_wp _) hn hdb he hpl) (by
    refine h F σ S H _ hE hW hX fun ds w1 vs S1 H1 k s1 W1 r1 => ?_
    exact k F S1 H1 vs _ W1 r1 (hK.mono s1))
/-- a type's method -/
def TyD (K : PySem.W.Frag) (TT : String) (d : D) (w : Wp) : Prop := match d with
  | .lst _ => TT = "list"
  | .rd _ => TT = "list"
  | .val (.ref a) => TT = "list" ∧ ∃ ds, w a = some (.lst ds)
  | .val (.str _) => TT = "str"
  | _ => False
theorem TyD.is {K : PySem.W.Frag} {TT : String} {d : D} {w : Wp} {S F H : Hp} {x : V} (t : TyD K TT d w) (hW : World K T S w F H) (r : Rep K S d x) : tyV K TT x H := by
  cases d with
  | val v =>
    have e : x = v := r
    subst e
    cases x with
    | ref a =>
      obtain ⟨t, ds, hw⟩ := t
      obtain ⟨_, _, o, h1, h2⟩ := hW.own a _ hw
      obtain ⟨xs, rfl, h2⟩ := h2
      exact .inl ⟨t, xs, SqL.of h1⟩
    | str z => exact t
    | _ => exact t.elim
  | lst ds =>
    obtain ⟨a, xs, rfl, h1, h2⟩ := r
    exact .inl ⟨t, xs, SqL.of (hW.same _ _ h1)⟩
  | rd ds =>
    obtain ⟨a, xs, rfl, h1, h2⟩ := r
    exact .inl ⟨t, xs, hW.same.seq h1⟩
  | tup ds => exact t.elim
  | obj C ns ds => exact t.elim
  | exc a dd ns ds => exact t.elim
  | dic kvs => exact t.elim
  | dct kvs => exact t.elim
  | dcv ks ds => exact t.elim
  | cod f c q σ js ds => exact t.elim
theorem pd_bm0 {TT id : String} {r : V → List V → Hp → VK → Prop} {o : Expr} {name : Str} {apos cpos : Pos} {κ : D → Wp → Prop} (pa : PlainAttrs TT) (slot : Slot TT name id) (hty : typeOf (.builtin id) = pure (.type "method_descriptor")) (hm : MtR X id r)
    (h : PD X T W χ o δ w fun d w1 => TyD X.K TT d w1 ∧ VRM X.K T r d [] w1 κ)
    (hbase : attributeBase o name X.env (eval o X.env) = eval o X.env := by rfl) (hline : (apos.endLine == cpos.line) = true := by rfl) : PD X T W χ (.Call (.Attribute o name apos) [] [] cpos) δ w κ :=
  fun F σ S H Q hE hW hX hK => wp_pe (pe_bm0 pa slot hty hm (pe_wp o) hbase hline) (by
    refine h F σ S H _ hE hW hX fun d w1 v S1 H1 k s1 W1 r1 => ?_
    exact ⟨k.1.is W1 r1, k.2 F S1 H1 v [] _ W1 r1 rfl (hK.mono s1)⟩)
theorem pd_bm {TT id : String} {r : V → List V → Hp → VK → Prop} {o e : Expr} {es : List Expr} {name : Str} {apos cpos : Pos} {κ : D → Wp → Prop} (pa : PlainAttrs TT) (slot : Slot TT name id) (hty : typeOf (.builtin id) = pure (.type "method_descriptor")) (hm : MtR X id r)
    (h : PD X T W χ o δ w fun d w1 => TyD X.K TT d w1 ∧ PAD X T W χ (e :: es) δ w1 fun ds w2 => VRM X.K T r d ds w2 κ)
    (hbase : attributeBase o name X.env (eval o X.env) = eval o X.env := by rfl)
    (hfew : ((backTo cpos (starEach (e :: es) X.env)).all (fun x => !x.1) && (backToKw cpos (keywordEach [] X.env)).all (fun x => x.1.isSome)
      && decide ((e :: es).length + ([] : List Keyword).length + (if ([] : List Keyword).isEmpty then 0 else 1) < 30)) = true := by rfl)
    (hline : (apos.endLine == cpos.line) = true := by rfl) (hs : starEach (e :: es) X.env = (false, eval e X.env) :: starEach es X.env := by rfl) (hplain : (backTo cpos (starEach es X.env)).any (·.1) = false := by rfl) : PD X T W χ (.Call (.Attribute o name apos) (e :: es) [] cpos) δ w κ :=
  fun F σ S H Q hE hW hX hK => wp_pe (pe_bm pa slot hty hm (pe_wp o) (pa_wp _) hbase hfew hline hs hplain) (by
    refine h F σ S H _ hE hW hX fun d w1 v S1 H1 k s1 W1 r1 => ?_
    refine ⟨k.1.is W1 r1, ?_⟩
    refine k.2 F σ S1 H1 _ (hE.mono s1) W1 (hX.mono s1) fun ds w2 vs S2 H2 k2 s2 W2 r2 => ?_
    exact k2 F S2 H2 v vs _ W2 (r1.mono s2) r2 (hK.mono (s1.trans s2)))
end
section
variable {K : PySem.W.Frag} {T : List (Addr × Str)} {w : Wp} {κ : D → Wp → Prop}
theorem va_int {i : Int} (k : κ (I i) w) : VRA K T (fun xs H Q => (∃ i, xs = [.int i] ∧ Q (.int i) H) ∨ ∃ k, xs = [.bl k] ∧ Q (.int (if k then 1 else 0)) H) [I i] w κ := fun F S H xs Q hW r hK => by
  obtain ⟨y, ys, rfl, h1, h2⟩ := r
  have h1' : y = .int i := h1
  have h2' : ys = [] := h2
  subst h1' h2'
  exact .inl ⟨i, rfl, hK _ w _ S H k (Same.refl _) hW rfl⟩
theorem va_len {ds : List D} (k : κ (I (ds.length : Int)) w) : VRA K T (fun xs H Q => ∃ p ys, xs = [.ref p] ∧ (SqL K H p ys ∨ SqT K H p ys) ∧ Q (.int ys.length) H) [.lst ds] w κ := fun F S H xs Q hW r hK => by
  obtain ⟨y, ys, rfl, h1, h2⟩ := r
  obtain ⟨a, zs, rfl, h3, h4⟩ := h1
  have h2' : ys = [] := h2
  subst h2'
  refine ⟨a, zs, rfl, .inl (SqL.of (hW.same _ _ h3)), ?_⟩
  rw [h4.length]
  exact hK _ w _ S H k (Same.refl _) hW rfl
theorem va_lenT {ds : List D} (k : κ (I (ds.length : Int)) w) : VRA K T (fun xs H Q => ∃ p ys, xs = [.ref p] ∧ (SqL K H p ys ∨ SqT K H p ys) ∧ Q (.int ys.length) H) [.tup ds] w κ := fun F S H xs Q hW r hK => by
  obtain ⟨y, ys, rfl, h1, h2⟩ := r
  obtain ⟨a, zs, rfl, h3, h4⟩ := h1
  have h2' : ys = [] := h2
  subst h2'
  refine ⟨a, zs, rfl, .inr (SqT.of (hW.same _ _ h3)), ?_⟩
  rw [h4.length]
  exact hK _ w _ S H k (Same.refl _) hW rfl
abbrev rListOf (K : PySem.W.Frag) : List V → Hp → VK → Prop := fun xs H Q => ∃ p ys, xs = [.ref p] ∧ (SqL K H p ys ∨ SqT K H p ys) ∧ ∀ l, H l = none → Q (.ref l) (upd H l (.lst ys))
theorem va_listS {ds : List D} (k : κ (.lst ds) w) : VRA K T (rListOf K) [.lst ds] w κ := fun F S H xs Q hW r hK => by
  obtain ⟨y, ys, rfl, h1, h2⟩ := r
  obtain ⟨a, zs, rfl, h3, h4⟩ := h1
  have h2' : ys = [] := h2
  subst h2'
  refine ⟨a, zs, rfl, .inl (SqL.of (hW.same _ _ h3)), fun p hp => ?_⟩
  have s1 : Same S (upd S p (.lst zs)) := same_upd (hW.free hp).1
  exact hK _ w _ _ _ k s1 (hW.laid hp fun _ z => by cases z) ⟨p, _, rfl, upd_same, h4.mono s1⟩
/-- list(xs), owned -/
theorem va_listO {ds : List D} (k : ∀ a, w a = none → κ (R a) (wu w a (.lst ds))) : VRA K T (rListOf K) [.lst ds] w κ := fun F S H xs Q hW r hK => by
  obtain ⟨y, ys, rfl, h1, h2⟩ := r
  obtain ⟨a, zs, rfl, h3, h4⟩ := h1
  have h2' : ys = [] := h2
  subst h2'
  refine ⟨a, zs, rfl, .inl (SqL.of (hW.same _ _ h3)), fun p hp => ?_⟩
  exact hK _ _ _ _ _ (k p (hW.free hp).2.1) (Same.refl _) (hW.take hp ⟨zs, rfl, h4⟩) rfl
abbrev rTupleOf (K : PySem.W.Frag) : List V → Hp → VK → Prop := fun xs H Q => ∃ p ys, xs = [.ref p] ∧ ((SqL K H p ys ∧ ∀ l, H l = none → Q (.ref l) (upd H l (.tup ys))) ∨ (SqT K H p ys ∧ Q (.ref p) H))
theorem va_tuple {ds : List D} (k : κ (.tup ds) w) : VRA K T (rTupleOf K) [.lst ds] w κ := fun F S H xs Q hW r hK => by
  obtain ⟨y, ys, rfl, h1, h2⟩ := r
  obtain ⟨a, zs, rfl, h3, h4⟩ := h1
  have h2' : ys = [] := h2
  subst h2'
  refine ⟨a, zs, rfl, .inl ⟨SqL.of (hW.same _ _ h3), fun p hp => ?_⟩⟩
  have s1 : Same S (upd S p (.tup zs)) := same_upd (hW.free hp).1
  exact hK _ w _ _ _ k s1 (hW.laid hp fun _ z => by cases z) ⟨p, _, rfl, upd_same, h4.mono s1⟩
/-! ### methods of lists -/
theorem vm_append {a : Addr} {ds : List D} {d : D} (hw : w a = some (.lst ds)) (hz : ds.length < sizeLine) (k : κ N (wu w a (.lst (ds ++ [d])))) : VRM K T rAppend (R a) [d] w κ := fun F S H x xs Q hW r1 r2 hK => by
  obtain ⟨_, _, o, h1, h2⟩ := hW.own a _ hw
  obtain ⟨zs, rfl, h2⟩ := h2
  obtain ⟨y, ys, rfl, h3, h4⟩ := r2
  have h4' : ys = [] := h4
  subst h4'
  refine ⟨a, zs, y, r1, rfl, h1, by rw [h2.length]; exact hz, ?_⟩
  exact hK _ _ _ S _ k (Same.refl _) (hW.put hw ⟨_, rfl, h2.app (RepL.one h3)⟩) rfl
theorem vm_pop0 {a : Addr} {d : D} {ds : List D} (hw : w a = some (.lst (d :: ds))) (k : κ d (wu w a (.lst ds))) : VRM K T rPopAt (R a) [I 0] w κ := fun F S H x xs Q hW r1 r2 hK => by
  obtain ⟨_, _, o, h1, h2⟩ := hW.own a _ hw
  obtain ⟨zs, rfl, h2⟩ := h2
  obtain ⟨y, ys, rfl, h3, h4⟩ := r2
  have h4' : ys = [] := h4
  have h3' : y = .int 0 := h3
  subst h4' h3'
  obtain ⟨v, vs, rfl, h5, h6⟩ := h2
  refine ⟨a, v :: vs, 0, 0, v, r1, rfl, h1, by omega, by omega, ?_, rfl, ?_⟩
  · unfold seqIndex?
    simp
  · exact hK _ _ _ S _ k (Same.refl _) (hW.put hw ⟨_, rfl, h6⟩) h5
theorem vm_pop {a : Addr} {d : D} {ds : List D} (hw : w a = some (.lst ds)) (hd : ds[ds.length - 1]? = some d) (k : κ d (wu w a (.lst ds.dropLast))) : VRM K T rPop (R a) [] w κ := fun F S H x xs Q hW r1 r2 hK => by
  obtain ⟨_, _, o, h1, h2⟩ := hW.own a _ hw
  obtain ⟨zs, rfl, h2⟩ := h2
  have r2' : xs = [] := r2
  subst r2'
  obtain ⟨v, h5, h6⟩ := h2.get hd
  rw [← h2.length] at h5
  exact ⟨a, zs, v, r1, rfl, h1, h5, hK _ _ _ S _ k (Same.refl _) (hW.put hw ⟨_, rfl, h2.dropLast⟩) h6⟩
theorem vm_reverse {a : Addr} {ds : List D} (hw : w a = some (.lst ds)) (k : κ N (wu w a (.lst ds.reverse))) : VRM K T rReverse (R a) [] w κ := fun F S H x xs Q hW r1 r2 hK => by
  obtain ⟨_, _, o, h1, h2⟩ := hW.own a _ hw
  obtain ⟨zs, rfl, h2⟩ := h2
  have r2' : xs = [] := r2
  subst r2'
  exact ⟨a, zs, r1, rfl, h1, hK _ _ _ S _ k (Same.refl _) (hW.put hw ⟨_, rfl, h2.rev⟩) rfl⟩
theorem vm_clear {a : Addr} {ds : List D} (hw : w a = some (.lst ds)) (k : κ N (wu w a (.lst []))) : VRM K T rClear (R a) [] w κ := fun F S H x xs Q hW r1 r2 hK => by
  obtain ⟨_, _, o, h1, h2⟩ := hW.own a _ hw
  obtain ⟨zs, rfl, h2⟩ := h2
  have r2' : xs = [] := r2
  subst r2'
  exact ⟨a, zs, r1, rfl, h1, hK _ _ _ S _ k (Same.refl _) (hW.put hw ⟨_, rfl, rfl⟩) rfl⟩
end
end DL

set_option Elab.async false
set_option linter.all false
set_option maxRecDepth 100000
set_option maxHeartbeats 1000000
/-! Loops, comprehensions, calls, fields, defs. -/
namespace DL
open PySem PySem.Spec PyProof.Rows L2 LamX
/-! ### iteration -/
section
variable (X : Cx) (T : List (Addr × Str)) (W : WX) (χ : XD)
def IterD (tg iter : Expr) (δ : Dn) (w : Wp) (κ : List D → Wp → Prop) : Prop :=
  ∃ wi, PI X tg iter wi ∧ ∀ (F : Hp) (σ : L2.St) (S H : Hp) (R : It → Hp → Prop), EnvD X.K S δ σ → World X.K T S w F H → ExD X.K T W χ σ S F →
    (∀ (ds : List D) (w1 : Wp) (S1 H1 : Hp) (J : It) (G : Hp → Prop) (Y : Nat → Hp → V → Hp → Prop), κ ds w1 → Same S S1 → World X.K T S1 w1 F H1 → Walk J ds.length G Y →
      (∀ S2 w2 F2 H2, Same S1 S2 → World X.K T S2 w2 F2 H2 → G H2) →
      (∀ (i : Nat) (d : D) S2 w2 F2 H2 x H3, ds[i]? = some d → Same S1 S2 → World X.K T S2 w2 F2 H2 → Y i H2 x H3 → ∃ S3, Same S2 S3 ∧ World X.K T S3 w2 F2 H3 ∧ Rep X.K S3 d x) → R J H1) → wi σ H R
end
section
variable {X : Cx} {T : List (Addr × Str)} {W : WX} {χ : XD} {δ : Dn} {w : Wp} {pos : Pos}
theorem it_list {tg e : Expr} {κ : List D → Wp → Prop} (h : PD X T W χ e δ w fun d w1 => ∃ ds, d = .lst ds ∧ κ ds w1) : IterD X T W χ tg e δ w κ :=
  ⟨_, pi_list (pe_wp e), fun F σ S H R hE hW hX hK => by
    refine h F σ S H _ hE hW hX fun d w1 v S1 H1 k s1 W1 r => ?_
    obtain ⟨ds, rfl, k⟩ := k
    obtain ⟨a, xs, rfl, h1, h2⟩ := r
    refine ⟨a, rfl, ⟨xs, SqL.of (W1.same _ _ h1)⟩, ?_⟩
    have ww := walk_list (K := X.K) (a := a) (xs := xs)
    rw [h2.length] at ww
    refine hK ds w1 S1 H1 _ _ _ k s1 W1 ww (fun S2 w2 F2 H2 s2 W2 => SqL.of (W2.same _ _ (s2 _ _ h1))) fun i d S2 w2 F2 H2 x H3 hd s2 W2 y => ?_
    obtain ⟨rfl, hx⟩ := y
    obtain ⟨v, h3, h4⟩ := h2.get hd
    rw [hx] at h3
    cases h3
    exact ⟨S2, Same.refl _, W2, h4.mono s2⟩⟩
theorem it_rd {tg e : Expr} {κ : List D → Wp → Prop} (h : PD X T W χ e δ w fun d w1 => ∃ ds, d = .rd ds ∧ κ ds w1) : IterD X T W χ tg e δ w κ :=
  ⟨_, pi_list (pe_wp e), fun F σ S H R hE hW hX hK => by
    refine h F σ S H _ hE hW hX fun d w1 v S1 H1 k s1 W1 r => ?_
    obtain ⟨ds, rfl, k⟩ := k
    obtain ⟨a, xs, rfl, h1, h2⟩ := r
    refine ⟨a, rfl, ⟨xs, W1.same.seq h1⟩, ?_⟩
    have ww := walk_list (K := X.K) (a := a) (xs := xs)
    rw [h2.length] at ww
    refine hK ds w1 S1 H1 _ _ _ k s1 W1 ww (fun S2 w2 F2 H2 s2 W2 => W2.same.seq (s2.seq h1)) fun i d S2 w2 F2 H2 x H3 hd s2 W2 y => ?_
    obtain ⟨rfl, hx⟩ := y
    obtain ⟨v, h3, h4⟩ := h2.get hd
    rw [hx] at h3
    cases h3
    exact ⟨S2, Same.refl _, W2, h4.mono s2⟩⟩
theorem it_tup {tg e : Expr} {κ : List D → Wp → Prop} (h : PD X T W χ e δ w fun d w1 => ∃ ds, d = .tup ds ∧ κ ds w1) : IterD X T W χ tg e δ w κ :=
  ⟨_, pi_tup (pe_wp e), fun F σ S H R hE hW hX hK => by
    refine h F σ S H _ hE hW hX fun d w1 v S1 H1 k s1 W1 r => ?_
    obtain ⟨ds, rfl, k⟩ := k
    obtain ⟨a, xs, rfl, h1, h2⟩ := r
    refine ⟨a, rfl, ⟨xs, SqT.of (W1.same _ _ h1)⟩, ?_⟩
    have ww := walk_tup (K := X.K) (a := a) (xs := xs)
    rw [h2.length] at ww
    refine hK ds w1 S1 H1 _ _ _ k s1 W1 ww (fun S2 w2 F2 H2 s2 W2 => SqT.of (W2.same _ _ (s2 _ _ h1))) fun i d S2 w2 F2 H2 x H3 hd s2 W2 y => ?_
    obtain ⟨rfl, hx⟩ := y
    obtain ⟨v, h3, h4⟩ := h2.get hd
    rw [hx] at h3
    cases h3
    exact ⟨S2, Same.refl _, W2, h4.mono s2⟩⟩
def ups (n : Nat) : List D := (List.range n).map fun (k : Nat) => I (k : Int)
theorem ups_len (n : Nat) : (ups n).length = n := by unfold ups; rw [List.length_map, List.length_range]
theorem ups_at {n i : Nat} {d : D} (h : (ups n)[i]? = some d) : i < n ∧ d = I (i : Int) := by
  unfold ups at h
  rw [List.getElem?_map] at h
  by_cases hi : i < n
  · rw [List.getElem?_range hi] at h
    exact ⟨hi, (Option.some.inj h).symm⟩
  · rw [List.getElem?_eq_none (by simpa using hi)] at h
    cases h
/-- range(n), n known not to be below 0 -/
theorem it_range {tg e : Expr} {p : Pos} {κ : List D → Wp → Prop} (hm : X.mg "range" = none) (h : PD X T W χ e δ w fun d w1 => ∃ n : Nat, d = I (n : Int) ∧ (n : Int) < 2 ^ 62 ∧ κ (ups n) w1)
    (hg : Gl X "range" := by rfl) (he : starEach [e] X.env = [(false, eval e X.env)] := by rfl) : IterD X T W χ tg (.Call (.Name "range" p) [e] [] pos) δ w κ :=
  ⟨_, pi_range1 hg hm (pa_wp [e]) he, fun F σ S H R hE hW hX hK => by
    have ha : PAD X T W χ [e] δ w fun ds w1 => ∃ n : Nat, ds = [I (n : Int)] ∧ (n : Int) < 2 ^ 62 ∧ κ (ups n) w1 := pad_cons (h.imp fun d w1 ⟨n, e1, h1, k⟩ => pad_nil ⟨n, by rw [e1], h1, k⟩) he
    refine ha F σ S H _ hE hW hX fun ds w1 vs S1 H1 k s1 W1 r => ?_
    obtain ⟨n, rfl, hn, k⟩ := k
    obtain ⟨y, ys, rfl, h1, h2⟩ := r
    have h1' : y = .int n := h1
    have h2' : ys = [] := h2
    subst h1' h2'
    refine ⟨n, rfl, by omega, by omega, ?_⟩
    have ww := walk_range (lo := 0) (n := n)
    have en : ((n : Int)).toNat = n := Int.toNat_natCast n
    rw [en]
    refine hK (ups n) w1 S1 H1 _ (fun _ => True) (YFn fun i => .int (0 + i)) k s1 W1 (by rw [ups_len]; exact ww) (fun S2 w2 F2 H2 s2 W2 => True.intro) fun i d S2 w2 F2 H2 x H3 hd s2 W2 y => ?_
    obtain ⟨rfl, hx⟩ := y
    obtain ⟨_, rfl⟩ := ups_at hd
    refine ⟨S2, Same.refl _, W2, ?_⟩
    show x = .int (i : Int)
    rw [hx]
    show V.int (0 + (i : Int)) = _
    rw [Int.zero_add]⟩
def pairs (ds : List D) : List D := (List.range ds.length).zipWith (fun (k : Nat) d => .tup [I (k : Int), d]) ds
theorem pairs_len (ds : List D) : (pairs ds).length = ds.length := by unfold pairs; rw [List.length_zipWith, List.length_range, Nat.min_self]
theorem pairs_at {ds : List D} {i : Nat} {d : D} (h : (pairs ds)[i]? = some d) : ∃ e, ds[i]? = some e ∧ d = .tup [I (i : Int), e] := by
  have hi : i < ds.length := by
    have := (List.getElem?_eq_some_iff.mp h).1
    rwa [pairs_len] at this
  refine ⟨ds[i], List.getElem?_eq_getElem hi, ?_⟩
  unfold pairs at h
  rw [List.getElem?_zipWith, List.getElem?_range hi, List.getElem?_eq_getElem hi] at h
  exact (Option.some.inj h).symm
/-- enumerate(xs) -/
theorem it_enum {elts : List Expr} {kk : Nat} {tpos : Pos} {e : Expr} {p : Pos} {κ : List D → Wp → Prop} (hm : X.mg "enumerate" = none) (h : PD X T W χ e δ w fun d w1 => ∃ ds, d = .lst ds ∧ κ (pairs ds) w1)
    (hg : Gl X "enumerate" := by rfl) (he : starEach [e] X.env = [(false, eval e X.env)] := by rfl) : IterD X T W χ (.Tuple elts kk tpos) (.Call (.Name "enumerate" p) [e] [] pos) δ w κ :=
  ⟨_, pi_enum hg hm (pa_wp [e]) he, fun F σ S H R hE hW hX hK => by
    have ha : PAD X T W χ [e] δ w fun ds w1 => ∃ es, ds = [.lst es] ∧ κ (pairs es) w1 := pad_cons (h.imp fun d w1 ⟨es, e1, k⟩ => pad_nil ⟨es, by rw [e1], k⟩) he
    refine ha F σ S H _ hE hW hX fun ds w1 vs S1 H1 k s1 W1 r => ?_
    obtain ⟨es, rfl, k⟩ := k
    obtain ⟨y, ys, rfl, h1, h2⟩ := r
    obtain ⟨a, xs, rfl, h3, h4⟩ := h1
    have h2' : ys = [] := h2
    subst h2'
    refine ⟨a, xs, rfl, SqL.of (W1.same _ _ h3), ?_⟩
    have ww := walk_enum (K := X.K) (a := a) (xs := xs)
    rw [h4.length] at ww
    refine hK (pairs es) w1 S1 H1 _ _ _ k s1 W1 (by rw [pairs_len]; exact ww) (fun S2 w2 F2 H2 s2 W2 => SqL.of (W2.same _ _ (s2 _ _ h3))) fun i d S2 w2 F2 H2 x H3 hd s2 W2 y => ?_
    obtain ⟨t, x1, x2, rfl, nt, rfl, f1, f2⟩ := y
    obtain ⟨e, he, rfl⟩ := pairs_at hd
    obtain ⟨v, h5, h6⟩ := h4.get he
    have f2' : xs[i]? = some x2 := f2
    rw [h5] at f2'
    cases f2'
    cases f1
    have s3 : Same S2 (upd S2 t (.tup [.int (i : Int), x2])) := same_upd (W2.free nt).1
    exact ⟨_, s3, W2.laid nt fun _ z => (by cases z), t, _, rfl, upd_same, V.int i, [x2], rfl, rfl, x2, [], rfl, (h6.mono s2).mono s3, rfl⟩⟩
/-! ### for -/
theorem psd_for {tg iter : Expr} {body : List Stmt} {C : Fin} (hp : PassesOwn (model X.prog X.w) X.A X.env X.xe) (hc : X.calm = true)
    (h : IterD X T W χ tg iter δ w (fun ds w1 => ∃ Pv : Nat → Dn → Wp → Prop, Pv 0 δ w1 ∧
      (∀ (i : Nat) (d : D) δ' w', ds[i]? = some d → Pv i δ' w' → PGD X T tg d δ' w' fun δ2 w2 => PSsD X T W χ body δ2 w2 { nx := Pv (i + 1), rt := C.rt, bk := C.nx, ct := Pv (i + 1) }) ∧
      ∀ δ' w', Pv ds.length δ' w' → C.nx δ' w'))
    (hs : ∀ x, foldedSetIterable iter X.env x = pure x := by intro _; rfl) : PSD X T W χ (.For tg iter body [] pos) δ w C := fun F σ S H E hE hW hX hK => by
  obtain ⟨wi, hi, h⟩ := h
  refine wp_ps (ps_for hp hc hi (pg_wp tg) (pss_wp body) hs) ?_
  refine h F σ S H _ hE hW (hX σ) fun ds w1 S1 H1 J G Y k s1 W1 ww hG hY => ?_
  obtain ⟨Pv, p0, turn, done⟩ := k
  refine for_it ww (D := E) (fun i σ' H' => ∃ δ' w' S', Pv i δ' w' ∧ Same S1 S' ∧ EnvD X.K S' δ' σ' ∧ World X.K T S' w' F H') ⟨δ, w1, S1, p0, Same.refl _, hE.mono s1, W1⟩ (fun i σ' H' _ ⟨δ', w', S', _, s2, _, W2⟩ => hG S' w' F H' s2 W2) ?_ ?_
  · rintro i x σ' H' H3 hi ⟨δ', w', S', pv, s2, hE2, W2⟩ y
    obtain ⟨S3, s3, W3, r⟩ := hY i ds[i] S' w' F H' x H3 (List.getElem?_eq_getElem hi) s2 W2 y
    refine turn i ds[i] δ' w' (List.getElem?_eq_getElem hi) pv F x σ' S3 H3 _ r (hE2.mono s3) W3 fun δ2 w2 σ2 S4 H4 k s4 hE4 W4 => ?_
    have ss := s1.trans (s2.trans (s3.trans s4))
    refine k F σ2 S4 H4 _ hE4 W4 (hX.mono ss) ⟨fun δ5 w5 σ5 S5 H5 k5 s5 hE5 W5 => ⟨δ5, w5, S5, k5, s2.trans (s3.trans (s4.trans s5)), hE5, W5⟩, hK.rt.mono ss, hK.nx.mono ss, fun δ5 w5 σ5 S5 H5 k5 s5 hE5 W5 => ⟨δ5, w5, S5, k5, s2.trans (s3.trans (s4.trans s5)), hE5, W5⟩⟩
  · rintro σ' H' ⟨δ', w', S', pv, s2, hE2, W2⟩
    exact hK.nx δ' w' σ' S' H' (done δ' w' pv) (s1.trans s2) hE2 W2
/-! ### targets that touch only some slots -/
def PGL (X : Cx) (T : List (Addr × Str)) (is : List Nat) (tg : Expr) (d : D) (δ : Dn) (w : Wp) (κ : Dn → Wp → Prop) : Prop :=
  ∀ (F : Hp) (v : V) (σ : L2.St) (S H : Hp) (Q : L2.St → Hp → Prop), Rep X.K S d v → EnvD X.K S δ σ → World X.K T S w F H →
    (∀ δ' w' σ' S' H', κ δ' w' → Same S S' → EnvD X.K S' δ' σ' → World X.K T S' w' F H' → (∀ j, j ∉ is → σ'[j]? = σ[j]?) → σ'.length = σ.length → Q σ' H') → wpG X tg v σ H Q
theorem PGL.pgd {is : List Nat} {tg : Expr} {d : D} {κ : Dn → Wp → Prop} (h : PGL X T is tg d δ w κ) : PGD X T tg d δ w κ := fun F v σ S H Q r hE hW hK => h F v σ S H Q r hE hW fun δ' w' σ' S' H' k s e W _ _ => hK δ' w' σ' S' H' k s e W
theorem pgl_name {i : Nat} {x : Str} {d : D} {κ : Dn → Wp → Prop} (hN : X.N.Nodup) (hi : X.N[i]? = some x) (k : κ (δ.set i (some d)) w) (hx : Loc X.env.scope x := by first | exact .inl rfl | exact .inr rfl)
    (hf : X.fn x = true ∨ X.env.scope.names.lookup x = some .local := by first | exact .inl rfl | exact .inr rfl) : PGL X T [i] (.Name x pos) d δ w κ := fun F v σ S H Q r hE hW hK => wp_pg (pg_name hN hi hx hf) (hK _ w _ S H k (Same.refl _) (hE.set i r) hW (fun j hj => by
  rw [List.getElem?_set_ne (fun z => hj (by rw [z]; exact List.mem_singleton.mpr rfl))]) (by rw [List.length_set]))
theorem pgl_two {i j : Nat} {a b : Expr} {k0 : Nat} {d e : D} {κ : Dn → Wp → Prop} (hc : X.calm = true) (h : PGL X T [i] a d δ w fun δ1 w1 => PGL X T [j] b e δ1 w1 κ)
    (hs1 : (assignEach [a, b] X.env).map (·.2) = assign a X.env :: (assignEach [b] X.env).map (·.2) := by rfl) (hs2 : (assignEach [b] X.env).map (·.2) = assign b X.env :: (assignEach [] X.env).map (·.2) := by rfl)
    (hn : (assignEach [a, b] X.env).length = 2 := by rfl) (hst : (assignEach [a, b] X.env).findIdx? (·.1) = none := by rfl) : PGL X T [i, j] (.Tuple [a, b] k0 pos) (.tup [d, e]) δ w κ := fun F v σ S H Q r hE hW hK => by
  refine wp_pg (pg_tup hc (pgs_cons (pg_wp a) (pgs_cons (pg_wp b) pgs_nil hs2) hs1) hn hst) ?_
  obtain ⟨t, xs, rfl, h1, y, ys, rfl, h2, z, zs, rfl, h3, h4⟩ := r
  have h4' : zs = [] := h4
  subst h4'
  refine ⟨t, [y, z], rfl, SqT.of (hW.same _ _ h1), rfl, y, [z], rfl, ?_⟩
  refine h F y σ S H _ h2 hE hW fun δ1 w1 σ1 S1 H1 k1 s1 hE1 W1 o1 l1 => ?_
  refine ⟨z, [], rfl, ?_⟩
  refine k1 F z σ1 S1 H1 _ (h3.mono s1) hE1 W1 fun δ2 w2 σ2 S2 H2 k2 s2 hE2 W2 o2 l2 => ⟨rfl, ?_⟩
  exact hK δ2 w2 σ2 S2 H2 k2 (s1.trans s2) hE2 W2 (fun n hn => by
    rw [o2 n (fun z => hn (by simp at z; simp [z])), o1 n (fun z => hn (by simp at z; simp [z]))]) (l2.trans l1)
theorem wipe_eq {σ1 σ2 : L2.St} {vs : List Nat} (hl : σ2.length = σ1.length) (h : ∀ j, j ∉ vs → σ2[j]? = σ1[j]?) : L2.wipe σ2 vs = L2.wipe σ1 vs := by
  refine List.ext_getElem? fun j => ?_
  have key : ∀ (σ : L2.St) (vs : List Nat), (L2.wipe σ vs)[j]? = if j ∈ vs then (if j < σ.length then some none else none) else σ[j]? := by
    intro σ vs
    induction vs with
    | nil => rfl
    | cons v vs ih =>
      show ((L2.wipe σ vs).set v none)[j]? = _
      by_cases e : v = j
      · subst e
        rw [if_pos (List.mem_cons_self ..)]
        by_cases hj : v < σ.length
        · rw [if_pos hj, List.getElem?_set_self (by rw [L2.wipe_length]; exact hj)]
        · rw [if_neg hj, List.getElem?_eq_none (by rw [List.length_set, L2.wipe_length]; omega)]
      · rw [List.getElem?_set_ne e, ih]
        by_cases hm : j ∈ vs
        · rw [if_pos hm, if_pos (List.mem_cons_of_mem _ hm)]
        · rw [if_neg hm, if_neg (fun z => by cases z with | head => exact e rfl | tail _ z => exact hm z)]
  rw [key, key]
  by_cases hm : j ∈ vs
  · rw [if_pos hm, if_pos hm, hl]
  · rw [if_neg hm, if_neg hm, h j hm]
/-! ### comprehensions -/
/-- the list that a comprehension made: it stands, or is owned -/
theorem fin_stay {K : PySem.W.Frag} {κ : D → Wp → Prop} {S F : Hp} {Q : VK} (hK : KD K T κ S F Q) : ∀ (L : Addr) (acc : List D) w' S' xs H', κ (.lst acc) w' → Same S S' → F L = none → World K T S' w' (upd F L (.lst xs)) H' → RepL K S' acc xs → Q (.ref L) H' := fun L acc w' S' xs H' k s1 fL W2 ra => by
  obtain ⟨e1, W3⟩ := W2.freezeF fL fun _ z => by cases z
  have s3 : Same S' (upd S' L (.lst xs)) := same_upd e1
  exact hK _ w' _ _ H' k (s1.trans s3) W3 ⟨L, xs, rfl, upd_same, ra.mono s3⟩
theorem World.moveF {K : PySem.W.Frag} {S F0 H : Hp} {w : Wp} {a : Addr} {o : HO} {h : HD} (W : World K T S w (upd F0 a o) H) (e : F0 a = none) (r : RepH K S h o) : w a = none ∧ World K T S (wu w a h) F0 H := by
  obtain ⟨e1, e2⟩ := W.frm a o upd_same
  have ew : w a = none := by
    cases q : w a with
    | none => rfl
    | some k =>
      have q2 := (W.own a k q).2.1
      rw [upd_same] at q2
      cases q2
  refine ⟨ew, W.same, W.notbl, fun b k q => ?_, fun b x q => ?_, W.tabs, fun b u z => W.nf b u (by rw [upd_ne (fun q => by rw [q, e] at z; cases z)]; exact z)⟩
  · by_cases hb : b = a
    · subst hb
      rw [wu_same] at q
      cases q
      exact ⟨e1, e, o, e2, r⟩
    · rw [wu_ne hb] at q
      obtain ⟨q1, q2, x, q3, q4⟩ := W.own b k q
      rw [upd_ne hb] at q2
      exact ⟨q1, q2, x, q3, q4⟩
  · have hb : b ≠ a := fun z => by
      rw [z, e] at q
      cases q
    exact W.frm b x (by rw [upd_ne hb]; exact q)
theorem fin_own {K : PySem.W.Frag} {κ : D → Wp → Prop} {S F : Hp} {Q : VK} (hK : KD K T κ S F Q) : ∀ (L : Addr) (acc : List D) w' S' xs H', (∀ a, w' a = none → κ (R a) (wu w' a (.lst acc))) → Same S S' → F L = none → World K T S' w' (upd F L (.lst xs)) H' → RepL K S' acc xs → Q (.ref L) H' := fun L acc w' S' xs H' k s1 fL W2 ra => by
  obtain ⟨e1, W3⟩ := W2.moveF fL (h := .lst acc) ⟨xs, rfl, ra⟩
  exact hK _ _ _ S' H' (k L e1) s1 W3 rfl
def PTsD (X : Cx) (T : List (Addr × Str)) (ifs : List Expr) (δ : Dn) (w : Wp) (κ : Bool → Wp → Prop) : Prop :=
  ∀ (F : Hp) (σ : L2.St) (S H : Hp) (Q : Bool → Hp → Prop), EnvD X.K S δ σ → World X.K T S w F H → KB X.K T κ S F Q → wpTs X ifs σ H Q
abbrev Wf : WX := fun _ _ _ _ => False
theorem ptsd_nil {κ : Bool → Wp → Prop} (k : κ true w) : PTsD X T [] δ w κ := fun F σ S H Q hE hW hK pins s I => (pts_nil).run pins s σ H Q I (hK true w S H k (Same.refl _) hW)
theorem exf {K : PySem.W.Frag} {σ : L2.St} {S F : Hp} {W : WX} : ExD K T W noX σ S F := fun _ _ _ _ _ _ _ z => z.elim
theorem exsf {S F : Hp} {W : WX} : ExS X T W noX S F := fun _ => exf
theorem ptsd_one {c : Expr} {κ : Bool → Wp → Prop} (h : PTD X T Wf noX c δ w κ) : PTsD X T [c] δ w κ := fun F σ S H Q hE hW hK pins s I => (pts_one (pt_wp c)).run pins s σ H Q I (h F σ S H Q hE hW exf hK)
abbrev bx (X : Cx) (s : Shared) (H : Hp) (scope : Scope) (cl : List (Str × Addr)) (C : Addr) (fp : List Addr) : Cx := X.blk s H scope (compEnvC scope cl C X.env) fp
/-- what a comprehension asks -/
def LcD (X : Cx) (T : List (Addr × Str)) (is : List Nat) (tg : Expr) (ifs : List Expr) (elt : Expr) (scope : Scope) (vs : List Nat) (δ : Dn) (κ : List D → Wp → Prop) (ds : List D) (w1 : Wp) : Prop :=
  ds.length < sizeLine ∧ ∃ Pv : Nat → List D → Wp → Prop, Pv 0 [] w1 ∧
    (∀ (i : Nat) (d : D) acc w', ds[i]? = some d → Pv i acc w' → ∀ s H0 C cl fp, PGL (bx X s H0 scope cl C fp) T is tg d (wipeD δ vs) w' fun δ2 w2 => ∀ s H0 C cl fp, PTsD (bx X s H0 scope cl C fp) T ifs δ2 w2 fun b w3 =>
      if b = true then ∀ s H0 C cl fp, PD (bx X s H0 scope cl C fp) T Wf noX elt δ2 w3 fun y w4 => Pv (i + 1) (acc ++ [y]) w4 else Pv (i + 1) acc w3) ∧
    ∀ acc w', Pv ds.length acc w' → κ acc w'
abbrev lcG (X : Cx) (scope : Scope) (tg : Expr) : TG := fun v σ' H' Q' => ∀ s H0 C cl fp, wpG (bx X s H0 scope cl C fp) tg v σ' H' Q'
abbrev lcT (X : Cx) (scope : Scope) (ifs : List Expr) : TT := fun σ' H' Q' => ∀ s H0 C cl fp, wpTs (bx X s H0 scope cl C fp) ifs σ' H' Q'
abbrev lcE (X : Cx) (scope : Scope) (elt : Expr) : TE := fun σ' H' Q' => ∀ s H0 C cl fp, wpE (bx X s H0 scope cl C fp) elt σ' H' Q'
theorem lc_read {tg elt : Expr} {ifs : List Expr} {scope : Scope} {vs is : List Nat} {κ : List D → Wp → Prop} {wi : TI} {F : Hp} {σ : L2.St} {S H : Hp} {Q : VK} (hsub : ∀ i ∈ is, i ∈ vs) (hE : EnvD X.K S δ σ) (hW : World X.K T S w F H)
    (h : ∀ (R : It → Hp → Prop), (∀ (ds : List D) (w1 : Wp) (S1 H1 : Hp) (J : It) (G : Hp → Prop) (Y : Nat → Hp → V → Hp → Prop), LcD X T is tg ifs elt scope vs δ κ ds w1 → Same S S1 → World X.K T S1 w1 F H1 → Walk J ds.length G Y →
      (∀ S2 w2 F2 H2, Same S1 S2 → World X.K T S2 w2 F2 H2 → G H2) →
      (∀ (i : Nat) (d : D) S2 w2 F2 H2 x H3, ds[i]? = some d → Same S1 S2 → World X.K T S2 w2 F2 H2 → Y i H2 x H3 → ∃ S3, Same S2 S3 ∧ World X.K T S3 w2 F2 H3 ∧ Rep X.K S3 d x) → R J H1) → wi σ H R)
    (hK : ∀ (L : Addr) acc w' S' xs H', κ acc w' → Same S S' → F L = none → World X.K T S' w' (upd F L (.lst xs)) H' → RepL X.K S' acc xs → Q (.ref L) H') :
    tLc wi (lcG X scope tg) (lcT X scope ifs) (lcE X scope elt) vs σ H Q := by
  refine h _ fun ds w1 S1 H1 J G Y k s1 W1 ww hG hY L nL => ?_
  obtain ⟨hz, Pv, p0, turn, done⟩ := k
  have fL : F L = none := (W1.free nL).2.2
  refine lc_it ww (g := lcG X scope tg) (tt := lcT X scope ifs) (te := lcE X scope elt) (vs := vs) (σ := σ) (H1 := H1) (D := L) (Qd := fun H => Q (.ref L) H) (fun i H' => ∃ acc w' S' xs, Pv i acc w' ∧ acc.length ≤ i ∧ Same S1 S' ∧ World X.K T S' w' (upd F L (.lst xs)) H' ∧ RepL X.K S' acc xs) ?_ (fun i H' _ ⟨acc, w', S', xs, _, _, s2, W2, _⟩ => hG S' w' _ H' s2 W2) ?_ ?_
  · exact ⟨[], w1, S1, [], p0, Nat.le_refl _, Same.refl _, W1.takeF nL (fun _ z => by cases z), rfl⟩
  · rintro i x H' H3 hi ⟨acc, w', S', xs, pv, hacc, s2, W2, ra⟩ y
    obtain ⟨S3, s3, W3, r⟩ := hY i ds[i] S' w' _ H' x H3 (List.getElem?_eq_getElem hi) s2 W2 y
    intro s H0 C cl fp
    refine turn i ds[i] acc w' (List.getElem?_eq_getElem hi) pv s H0 C cl fp (upd F L (.lst xs)) x (L2.wipe σ vs) S3 H3 _ r ((hE.mono (s1.trans (s2.trans s3))).wipe vs) W3 fun δ2 w2 σ2 S4 H4 k s4 hE4 W4 o4 l4 => ?_
    refine ⟨?_, ?_⟩
    · rw [wipe_eq (σ1 := L2.wipe σ vs) (σ2 := σ2) l4 fun j hj => o4 j fun z => hj (hsub j z)]
      exact wipe_eq (L2.wipe_length σ vs) fun j hj => L2.wipe_out hj
    · intro s H0 C cl fp
      refine k s H0 C cl fp (upd F L (.lst xs)) σ2 S4 H4 _ hE4 W4 fun b w5 S5 H5 k5 s5 W5 => ?_
      cases b with
      | false =>
        rw [if_neg Bool.false_ne_true] at k5 ⊢
        exact ⟨acc, w5, S5, xs, k5, Nat.le_succ_of_le hacc, s2.trans (s3.trans (s4.trans s5)), W5, ra.mono (s3.trans (s4.trans s5))⟩
      | true =>
        rw [if_pos rfl] at k5 ⊢
        intro s H0 C cl fp
        refine k5 s H0 C cl fp (upd F L (.lst xs)) σ2 S5 H5 _ (hE4.mono s5) W5 exf fun d6 w6 v6 S6 H6 k6 s6 W6 r6 => ?_
        have ra6 := ra.mono (s3.trans (s4.trans (s5.trans s6)))
        refine ⟨xs, (W6.frm L _ upd_same).2, by rw [ra6.length]; omega, acc ++ [d6], w6, S6, xs ++ [v6], k6, ?_, s2.trans (s3.trans (s4.trans (s5.trans s6))), ?_, ra6.app (RepL.one r6)⟩
        · rw [List.length_append]
          show acc.length + 1 ≤ i + 1
          omega
        · have W7 := W6.putF (o := .lst (xs ++ [v6])) upd_same (fun _ z => by cases z) (fun _ z => by cases z) (fun _ z => by cases z)
          rw [upd_upd] at W7
          exact W7
  · rintro H' ⟨acc, w', S', xs, pv, hacc, s2, W2, ra⟩
    exact hK L acc w' S' xs H' (done acc w' pv) (s1.trans s2) fL W2 ra
end
end DL

set_option Elab.async false
set_option linter.all false
set_option maxRecDepth 100000
set_option maxHeartbeats 1000000
/-! Comprehensions as expressions and stored; calls of own defs, methods, classes; fields; the rule for a def. -/
namespace DL
open PySem PySem.Spec PyProof.Rows L2 LamX
section
variable {X : Cx} {T : List (Addr × Str)} {W : WX} {χ : XD} {δ : Dn} {w : Wp} {pos : Pos}
theorem pg_bx {scope : Scope} {tg : Expr} (s : Shared) (H : Hp) (C : Addr) (cl : List (Str × Addr)) (fp : List Addr) : PG (X.blk s H scope (compEnvC scope cl C X.env) fp) tg (lcG X scope tg) := ⟨fun pins s1 σ H1 v u Q I r h => h s H C cl fp pins s1 u I r⟩
theorem pt_bx {scope : Scope} {ifs : List Expr} (s : Shared) (H : Hp) (C : Addr) (cl : List (Str × Addr)) (fp : List Addr) : PTs (X.blk s H scope (compEnvC scope cl C X.env) fp) ifs (lcT X scope ifs) := ⟨fun pins s1 σ H1 Q I h => h s H C cl fp pins s1 I⟩
theorem pe_bx {scope : Scope} {e : Expr} (s : Shared) (H : Hp) (C : Addr) (cl : List (Str × Addr)) (fp : List Addr) : PE (X.blk s H scope (compEnvC scope cl C X.env) fp) e (lcE X scope e) := ⟨fun pins s1 σ H1 Q I h => h s H C cl fp pins s1 I⟩
theorem pd_lc {elt tg iter : Expr} {ifs : List Expr} {scope : Scope} (own : List (Str × Nat)) (is : List Nat) {κ : D → Wp → Prop} (hc : X.calm = true) (hN : X.N.Nodup) (ok : BlkOk X.N X.env.scope scope own) (hsub : ∀ i ∈ is, i ∈ own.map (·.2))
    (h : IterD X T W χ tg iter δ w (LcD X T is tg ifs elt scope (own.map (·.2)) δ (fun acc w' => κ (.lst acc) w'))) (hs : ∀ x, foldedSetIterable iter X.env x = pure x := by intro _; rfl) : PD X T W χ (.ListComp elt [⟨tg, iter, ifs, 0⟩] scope pos) δ w κ := fun F σ S H Q hE hW hX hK => by
  obtain ⟨wi, hi, h⟩ := h
  exact wp_pe (pe_lc hc hN hi ok pg_bx pt_bx pe_bx hs) (lc_read hsub hE hW (fun R hR => h F σ S H R hE hW hX hR) (fin_stay hK))
theorem psd_setLc {i : Nat} {y : Str} {py spos : Pos} {elt tg iter : Expr} {ifs : List Expr} {scope : Scope} {C : Fin} (own : List (Str × Nat)) (is : List Nat) (hc : X.calm = true) (hN : X.N.Nodup) (hy : X.N[i]? = some y) (hyl : X.env.scope.names.lookup y = some .local)
    (hsw : swapsWith (.ListComp elt [⟨tg, iter, ifs, 0⟩] scope pos) (some (.Name y py)) spos.line X.env = pure true) (ok : BlkOk X.N X.env.scope scope own) (hsub : ∀ i ∈ is, i ∈ own.map (·.2))
    (h : IterD X T W χ tg iter δ w (LcD X T is tg ifs elt scope (own.map (·.2)) δ (fun acc w' => (fun d w' => C.nx (δ.set i (some d)) w') (.lst acc) w'))) (hs : ∀ x, foldedSetIterable iter X.env x = pure x := by intro _; rfl) : PSD X T W χ (.Assign [.Name y py] (.ListComp elt [⟨tg, iter, ifs, 0⟩] scope pos) spos) δ w C := fun F σ S H E hE hW hX hK => by
  obtain ⟨wi, hi, h⟩ := h
  refine wp_ps (ps_setLc hc hN hy hyl hsw hi ok pg_bx pt_bx pe_bx hs) ?_
  have q := lc_read (Q := fun v H' => gName i v σ H' E.nx) hsub hE hW (fun R hR => h F σ S H R hE hW (hX σ) hR) (fin_stay (κ := fun d w' => C.nx (δ.set i (some d)) w') fun d w' v S' H' k s1 W1 r => hK.nx _ w' _ S' H' k s1 ((hE.mono s1).set i r) W1)
  exact q
theorem pd_lcO {elt tg iter : Expr} {ifs : List Expr} {scope : Scope} (own : List (Str × Nat)) (is : List Nat) {κ : D → Wp → Prop} (hc : X.calm = true) (hN : X.N.Nodup) (ok : BlkOk X.N X.env.scope scope own) (hsub : ∀ i ∈ is, i ∈ own.map (·.2))
    (h : IterD X T W χ tg iter δ w (LcD X T is tg ifs elt scope (own.map (·.2)) δ (fun acc w' => ∀ a, w' a = none → κ (R a) (wu w' a (.lst acc))))) (hs : ∀ x, foldedSetIterable iter X.env x = pure x := by intro _; rfl) : PD X T W χ (.ListComp elt [⟨tg, iter, ifs, 0⟩] scope pos) δ w κ := fun F σ S H Q hE hW hX hK => by
  obtain ⟨wi, hi, h⟩ := h
  exact wp_pe (pe_lc hc hN hi ok pg_bx pt_bx pe_bx hs) (lc_read hsub hE hW (fun R hR => h F σ S H R hE hW hX hR) (fin_own hK))
theorem psd_setLcO {i : Nat} {y : Str} {py spos : Pos} {elt tg iter : Expr} {ifs : List Expr} {scope : Scope} {C : Fin} (own : List (Str × Nat)) (is : List Nat) (hc : X.calm = true) (hN : X.N.Nodup) (hy : X.N[i]? = some y) (hyl : X.env.scope.names.lookup y = some .local)
    (hsw : swapsWith (.ListComp elt [⟨tg, iter, ifs, 0⟩] scope pos) (some (.Name y py)) spos.line X.env = pure true) (ok : BlkOk X.N X.env.scope scope own) (hsub : ∀ i ∈ is, i ∈ own.map (·.2))
    (h : IterD X T W χ tg iter δ w (LcD X T is tg ifs elt scope (own.map (·.2)) δ (fun acc w' => ∀ a, w' a = none → (fun d w' => C.nx (δ.set i (some d)) w') (R a) (wu w' a (.lst acc))))) (hs : ∀ x, foldedSetIterable iter X.env x = pure x := by intro _; rfl) : PSD X T W χ (.Assign [.Name y py] (.ListComp elt [⟨tg, iter, ifs, 0⟩] scope pos) spos) δ w C := fun F σ S H E hE hW hX hK => by
  obtain ⟨wi, hi, h⟩ := h
  refine wp_ps (ps_setLc hc hN hy hyl hsw hi ok pg_bx pt_bx pe_bx hs) ?_
  have q := lc_read (Q := fun v H' => gName i v σ H' E.nx) hsub hE hW (fun R hR => h F σ S H R hE hW (hX σ) hR) (fin_own (κ := fun d w' => C.nx (δ.set i (some d)) w') fun d w' v S' H' k s1 W1 r => hK.nx _ w' _ S' H' k s1 ((hE.mono s1).set i r) W1)
  exact q
/-! ### specs in data -/
abbrev SpD := List D → Wp → (D → Wp → Prop) → XD → Prop
def spOf (K : PySem.W.Frag) (T : List (Addr × Str)) (sp : SpD) : Sp := fun vs H Q E => ∃ ds w F S κ χ, sp ds w κ χ ∧ RepL K S ds vs ∧ World K T S w F H ∧ KD K T κ S F Q ∧
  (∀ C ns fs w' d S' H', χ C ns fs w' → Same S S' → World K T S' w' F H' → XdR K S' d ns fs → E (.ref C) (some d) H')
theorem pass0At {X : Cx} {σ : L2.St} {E : XK} : PassesAt CX0 X σ E := fun _ _ _ _ _ _ h => h.elim
theorem pd_call {CX : CXT} {k : Nat} {f : Addr} {fd : FuncData} {ps : List Str} {sp : SpD} {x : Str} {p : Pos} {e : Expr} {es : List Expr} {κ : D → Wp → Prop} (G : FnOk X.prog X.w X.K X.mg X.base CX k f fd ps (spOf X.K T sp)) (hr : Room k X.A) (hm : X.mg x = some (.ref f))
    (hk : PySem.W.keepIn X.K (.ref f) = true) (hb : Binds X.K fd ps []) (hx : ∀ σ, PassesAt CX X σ (WE W σ)) (h : PAD X T W χ (e :: es) δ w fun ds w1 => sp ds w1 κ χ) (hg : Gl X x := by rfl) (hdb : (x == ("__debug__" : Str)) = false := by decide)
    (he : starEach (e :: es) X.env = (false, eval e X.env) :: starEach es X.env := by rfl) (hpl : (backTo pos (starEach es X.env)).any (·.1) = false := by rfl) : PD X T W χ (.Call (.Name x p) (e :: es) [] pos) δ w κ := fun F σ S H Q hE hW hX hK =>
  wp_pe (pe_callSD G hr hg hm hk hb .nil hx (pa_wp _) hdb he hpl) (by
    refine h F σ S H _ hE hW hX fun ds w1 vs S1 H1 k s1 W1 r => ?_
    show spOf X.K T sp (vs ++ []) H1 Q (WE W σ)
    rw [List.append_nil]
    exact ⟨ds, w1, F, S1, κ, χ, k, r, W1, hK.mono s1, fun C ns fs w' d S' H' x s2 W2 xr => hX C ns fs w' d S' H' x (s1.trans s2) W2 xr⟩)
/-- a receiver: an instance of the class at C that has no field m -/
def InsD (C : Addr) (m : Str) (d : D) (w : Wp) : Prop := match d with
  | .obj C' ns _ => C' = C ∧ m ∉ ns
  | .val (.ref a) => ∃ dx ns ds, w a = some (.ins C dx ns ds) ∧ m ∉ ns
  | _ => False
theorem lookup_no {ys : List (Str × V)} {m : Str} (h : m ∉ ys.map (·.1)) : ys.lookup m = none := by
  induction ys with
  | nil => rfl
  | cons p ys ih =>
    obtain ⟨g, x⟩ := p
    have h1 : ¬ m = g := fun z => h (by rw [z]; exact List.mem_cons_self ..)
    have hb : (m == g) = false := beq_eq_false_iff_ne.mpr h1
    simp only [List.lookup, hb]
    exact ih fun z => h (List.mem_cons_of_mem _ z)
theorem InsD.is {K : PySem.W.Frag} {C : Addr} {m : Str} {d : D} {w : Wp} {S F H : Hp} {x : V} (i : InsD C m d w) (hW : World K T S w F H) (r : Rep K S d x) : ∃ a dx fs, x = .ref a ∧ H a = some (.ins C dx fs) ∧ fs.lookup m = none := by
  cases d with
  | obj C' ns ds =>
    obtain ⟨rfl, hm⟩ := i
    obtain ⟨a, dx, ys, rfl, h1, rfl, _⟩ := r
    exact ⟨a, dx, ys, rfl, hW.same _ _ h1, lookup_no hm⟩
  | val v =>
    have e : x = v := r
    subst e
    cases x with
    | ref a =>
      obtain ⟨dx, ns, ds, hw, hm⟩ := i
      obtain ⟨_, _, o, h1, h2⟩ := hW.own a _ hw
      obtain ⟨ys, rfl, rfl, h3⟩ := h2
      exact ⟨a, dx, ys, rfl, h1, lookup_no hm⟩
    | _ => exact i.elim
  | _ => exact i.elim
def tMethSD (C : Addr) (m : Str) (sp : Sp) (E : L2.St → XK) (ta : TE) (t : TA) : TE := fun σ H Q => ta σ H fun x H1 => ∃ a dx fs, x = .ref a ∧ H1 a = some (.ins C dx fs) ∧ fs.lookup m = none ∧
  t σ H1 fun vs H2 => sp (x :: vs) H2 Q (E σ)
theorem pe_methSD {CX : CXT} {k : Nat} {f C : Addr} {fd : FuncData} {ps : List Str} {sp : Sp} {E : L2.St → XK} {m : Str} {apos : Pos} {e o : Expr} {es : List Expr} {ta : TE} {t : TA} {pl : Sem Bool} (he : PE X o ta) (c : Cls X.K C) (hm : Meth X.K C m f) (G : FnOk X.prog X.w X.K X.mg X.base CX k f fd ps sp) (hr : Room k X.A) (hb : Binds X.K fd ps [])
    (hx : ∀ σ, PassesAt CX X σ (E σ)) (ha : PA X (e :: es) t)
    (hst : starEach (e :: es) X.env = (false, eval e X.env) :: starEach es X.env := by rfl) (hpl : (backTo pos (starEach es X.env)).any (·.1) = false := by rfl)
    (ht : eval (.Call (.Attribute o m apos) (e :: es) [] pos) X.env = (do
      let ov ← eval o X.env
      standAt apos.atName
      let (f, first) ← holding [ov] (getMethod ov m pl)
      callWith pos f first (backTo pos (starEach (e :: es) X.env)) (backToKw pos (keywordEach [] X.env))) := by rfl) : PE X (.Call (.Attribute o m apos) (e :: es) [] pos) (tMethSD C m sp E ta t) := by
  refine ⟨fun pins s σ H Q I h => ?_⟩
  refine PySem.W.methodCall_KW (pl := pl) (thn (he.run pins s σ H _ I h) fun u s1 ⟨x, H1, I1, rx, a, dx, fs, ex, ea, l, q⟩ => ?_) ht
  subst ex
  obtain rfl : u = Value.ref a := rx
  refine getmeth_ok I1 ea c hm l ?_
  refine PySem.W.callWith_K (first := [.ref a]) (h₀ := X.base) I.ok.mod.kin hm.kp (thn (ha.run pos pins s1 σ H1 _ I1 q) fun us s2 ⟨vs, H2, I2, r, q2⟩ => ⟨I2.kIn, ?_⟩) hst hpl
  exact run_fnSD (us := .ref a :: us) (vs := .ref a :: vs) (dvs := []) (ds := []) G hr hb .nil (hx σ) I2 (.cons rfl r) (by rw [List.append_nil]; exact q2)
theorem pe_meth0SD {CX : CXT} {k : Nat} {f C : Addr} {fd : FuncData} {ps : List Str} {sp : Sp} {E : L2.St → XK} {m : Str} {apos : Pos} {o : Expr} {ta : TE} {pl : Sem Bool} (he : PE X o ta) (c : Cls X.K C) (hm : Meth X.K C m f) (G : FnOk X.prog X.w X.K X.mg X.base CX k f fd ps sp) (hr : Room k X.A) (hb : Binds X.K fd ps [])
    (hx : ∀ σ, PassesAt CX X σ (E σ))
    (ht : eval (.Call (.Attribute o m apos) [] [] pos) X.env = (do
      let ov ← eval o X.env
      standAt apos.atName
      let (f, first) ← holding [ov] (getMethod ov m pl)
      callWith pos f first (backTo pos (starEach [] X.env)) (backToKw pos (keywordEach [] X.env))) := by rfl) : PE X (.Call (.Attribute o m apos) [] [] pos) (tMethSD C m sp E ta tNil) := by
  refine ⟨fun pins s σ H Q I h => ?_⟩
  refine PySem.W.methodCall_KW (pl := pl) (thn (he.run pins s σ H _ I h) fun u s1 ⟨x, H1, I1, rx, a, dx, fs, ex, ea, l, q⟩ => ?_) ht
  subst ex
  obtain rfl : u = Value.ref a := rx
  refine getmeth_ok I1 ea c hm l ?_
  exact PySem.W.callWith_K0 (first := [.ref a]) I1.kIn hm.kp (run_fnSD (us := [.ref a]) (vs := [.ref a]) (dvs := []) (ds := []) G hr hb .nil (hx σ) I1 (.cons rfl .nil) q)
theorem pd_meth {CX : CXT} {k : Nat} {f C : Addr} {fd : FuncData} {ps : List Str} {sp : SpD} {m : Str} {apos : Pos} {e o : Expr} {es : List Expr} {κ : D → Wp → Prop} {pl : Sem Bool} (c : Cls X.K C) (hm : Meth X.K C m f) (G : FnOk X.prog X.w X.K X.mg X.base CX k f fd ps (spOf X.K T sp)) (hr : Room k X.A) (hb : Binds X.K fd ps [])
    (hx : ∀ σ, PassesAt CX X σ (WE W σ)) (h : PD X T W χ o δ w fun d w1 => InsD C m d w1 ∧ PAD X T W χ (e :: es) δ w1 fun ds w2 => sp (d :: ds) w2 κ χ)
    (hst : starEach (e :: es) X.env = (false, eval e X.env) :: starEach es X.env := by rfl) (hpl : (backTo pos (starEach es X.env)).any (·.1) = false := by rfl)
    (ht : eval (.Call (.Attribute o m apos) (e :: es) [] pos) X.env = (do
      let ov ← eval o X.env
      standAt apos.atName
      let (f, first) ← holding [ov] (getMethod ov m pl)
      callWith pos f first (backTo pos (starEach (e :: es) X.env)) (backToKw pos (keywordEach [] X.env))) := by rfl) : PD X T W χ (.Call (.Attribute o m apos) (e :: es) [] pos) δ w κ := fun F σ S H Q hE hW hX hK =>
  wp_pe (pe_methSD (pe_wp o) c hm G hr hb hx (pa_wp _) hst hpl ht) (by
    refine h F σ S H _ hE hW hX fun d w1 v S1 H1 k s1 W1 r => ?_
    obtain ⟨a, dx, fs, rfl, h1, h2⟩ := k.1.is W1 r
    refine ⟨a, dx, fs, rfl, h1, h2, ?_⟩
    refine k.2 F σ S1 H1 _ (hE.mono s1) W1 (hX.mono s1) fun ds w2 vs S2 H2 k2 s2 W2 r2 => ?_
    exact ⟨d :: ds, w2, F, S2, κ, χ, k2, ⟨_, vs, rfl, r.mono s2, r2⟩, W2, hK.mono (s1.trans s2), fun C ns fs w' d S' H' x s3 W3 xr => hX C ns fs w' d S' H' x (s1.trans (s2.trans s3)) W3 xr⟩)
theorem pd_meth0 {CX : CXT} {k : Nat} {f C : Addr} {fd : FuncData} {ps : List Str} {sp : SpD} {m : Str} {apos : Pos} {o : Expr} {κ : D → Wp → Prop} {pl : Sem Bool} (c : Cls X.K C) (hm : Meth X.K C m f) (G : FnOk X.prog X.w X.K X.mg X.base CX k f fd ps (spOf X.K T sp)) (hr : Room k X.A) (hb : Binds X.K fd ps [])
    (hx : ∀ σ, PassesAt CX X σ (WE W σ)) (h : PD X T W χ o δ w fun d w1 => InsD C m d w1 ∧ sp [d] w1 κ χ)
    (ht : eval (.Call (.Attribute o m apos) [] [] pos) X.env = (do
      let ov ← eval o X.env
      standAt apos.atName
      let (f, first) ← holding [ov] (getMethod ov m pl)
      callWith pos f first (backTo pos (starEach [] X.env)) (backToKw pos (keywordEach [] X.env))) := by rfl) : PD X T W χ (.Call (.Attribute o m apos) [] [] pos) δ w κ := fun F σ S H Q hE hW hX hK =>
  wp_pe (pe_meth0SD (pe_wp o) c hm G hr hb hx ht) (by
    refine h F σ S H _ hE hW hX fun d w1 v S1 H1 k s1 W1 r => ?_
    obtain ⟨a, dx, fs, rfl, h1, h2⟩ := k.1.is W1 r
    refine ⟨a, dx, fs, rfl, h1, h2, ?_⟩
    exact ⟨[d], w1, F, S1, κ, χ, k.2, ⟨_, [], rfl, r, rfl⟩, W1, hK.mono s1, fun C ns fs w' d S' H' x s3 W3 xr => hX C ns fs w' d S' H' x (s1.trans s3) W3 xr⟩)
/-- C(e, ..) -/
theorem run_makeSD {CX : CXT} {k : Nat} {f C : Addr} {fd : FuncData} {ps : List Str} {sp : Sp} {E : XK} {pins : List (Addr × Obj)} {σ : L2.St} {H : Hp} {s : Shared} {Q : VK} {us : List Value} {vs : List V} (M : Mk X.K C f) (G : FnOk X.prog X.w X.K X.mg X.base CX k f fd ps sp) (hr : Room (k + 1) X.A) (hb : Binds X.K fd ps [])
    (hx : PassesAt CX X σ E) (I : Inv X pins σ H s) (r : Vals vs us)
    (h : ∀ x dx, H x = none → H dx = none → dx ≠ x → sp (.ref x :: vs) (upd (upd H dx (.own x)) x (.ins C dx [])) (fun v H2 => v = .non ∧ Q (.ref x) H2) E) :
    wpAny (model X.prog X.w) X.A (call (.ref C) us) (EP X pins σ Q) X.xe s := by
  have hq := h (s.heap.objs.size + 1) s.heap.objs.size (I.hok.fresh (Nat.le_succ _)) (I.hok.fresh (Nat.le_refl _)) (Nat.ne_of_lt (Nat.lt_succ_self _))
  have I2 := Inv.made (C := C) I
  have r2 : Vals (V.ref (s.heap.objs.size + 1) :: vs) (Value.ref (s.heap.objs.size + 1) :: us) := .cons rfl r
  have hl : ((Value.ref (s.heap.objs.size + 1) :: us) ++ []).length = ps.length := by
    have e := r2.length
    rw [F_len G hq] at e
    rw [List.append_nil]
    exact e.symm
  have bb := hb _ (Value.ref (s.heap.objs.size + 1) :: us) I2.kIn hl
  rw [List.append_nil] at bb
  refine wpAny_call (make_map (f := f) I.kIn M.makes M.init (beq_iff_eq.mp M.fn) (codeAny_mono (G.run _ X.stack _ _ ⟨Value.ref (s.heap.objs.size + 1) :: us, []⟩ (Value.ref (s.heap.objs.size + 1) :: us) _ _ E (hr.make C us [])
    (I2.env0.make C us []) bb r2 hq) fun r s' hq' => ?_))
  cases r with
  | error e => exact hx pins _ _ e s' I2 hq'
  | ok fl =>
    cases fl with
    | ret u =>
      obtain ⟨v, H', I3, rv, ev, q3⟩ := I2.after hq'
      subst ev
      exact ⟨rv, ⟨V.ref (s.heap.objs.size + 1), H', I3, rfl, q3⟩⟩
    | next => exact False.elim hq'
    | brk => exact False.elim hq'
    | cont => exact False.elim hq'
where F_len {CX : CXT} {k : Nat} {f : Addr} {fd : FuncData} {ps : List Str} {sp : Sp} {E : XK} {Q : VK} {H : Hp} {vs : List V} (G : FnOk X.prog X.w X.K X.mg X.base CX k f fd ps sp) (h : sp vs H Q E) : vs.length = ps.length := G.len _ _ _ _ h
def tMakeSD (C : Addr) (sp : Sp) (E : L2.St → XK) (t : TA) : TE := fun σ H Q => t σ H fun vs H1 => ∀ x dx, H1 x = none → H1 dx = none → dx ≠ x →
  sp (.ref x :: vs) (upd (upd H1 dx (.own x)) x (.ins C dx [])) (fun v H2 => v = .non ∧ Q (.ref x) H2) (E σ)
theorem pe_makeSD {CX : CXT} {k : Nat} {f C : Addr} {fd : FuncData} {ps : List Str} {sp : Sp} {E : L2.St → XK} {x : Str} {p : Pos} {e : Expr} {es : List Expr} {t : TA} (M : Mk X.K C f) (G : FnOk X.prog X.w X.K X.mg X.base CX k f fd ps sp) (hr : Room (k + 1) X.A) (hg : Gl X x) (hm : X.mg x = some (.ref C)) (hb : Binds X.K fd ps []) (hx : ∀ σ, PassesAt CX X σ (E σ))
    (ha : PA X (e :: es) t) (hdb : (x == ("__debug__" : Str)) = false := by decide) (he : starEach (e :: es) X.env = (false, eval e X.env) :: starEach es X.env := by rfl) (hpl : (backTo pos (starEach es X.env)).any (·.1) = false := by rfl) :
    PE X (.Call (.Name x p) (e :: es) [] pos) (tMakeSD C sp E t) := by
  refine ⟨fun pins s σ H Q I h => ?_⟩
  refine wpAny_Call_Name_kw (ld_glob I hg hm ?_ hdb)
  refine PySem.W.callWith_K (h₀ := X.base) I.ok.mod.kin M.kp (thn (ha.run pos pins s σ H _ I h) fun us s1 ⟨vs, H1, I1, r, q⟩ => ⟨I1.kIn, ?_⟩) he hpl
  exact run_makeSD M G hr hb (hx σ) I1 r q
theorem pd_make {CX : CXT} {k : Nat} {f C : Addr} {fd : FuncData} {ps : List Str} {sp : SpD} {x : Str} {p : Pos} {e : Expr} {es : List Expr} {κ : D → Wp → Prop} (M : Mk X.K C f) (G : FnOk X.prog X.w X.K X.mg X.base CX k f fd ps (spOf X.K T sp)) (hr : Room (k + 1) X.A) (hm : X.mg x = some (.ref C)) (hb : Binds X.K fd ps []) (hx : ∀ σ, PassesAt CX X σ (WE W σ))
    (h : PAD X T W χ (e :: es) δ w fun ds w1 => ∀ a dx, w1 a = none → sp (R a :: ds) (wu w1 a (.ins C dx [] [])) (fun d w2 => d = N ∧ ∃ ns es, w2 a = some (.ins C dx ns es) ∧ κ (.obj C ns es) (wd w2 a)) χ)
    (hg : Gl X x := by rfl) (hdb : (x == ("__debug__" : Str)) = false := by decide) (he : starEach (e :: es) X.env = (false, eval e X.env) :: starEach es X.env := by rfl) (hpl : (backTo pos (starEach es X.env)).any (·.1) = false := by rfl) :
    PD X T W χ (.Call (.Name x p) (e :: es) [] pos) δ w κ := fun F σ S H Q hE hW hX hK => wp_pe (pe_makeSD M G hr hg hm hb hx (pa_wp _) hdb he hpl) (by
  refine h F σ S H _ hE hW hX fun ds w1 vs S1 H1 k s1 W1 r => ?_
  intro a dx na ndx nad
  have W2 := (W1.junk (o := .own a) ndx).take (a := a) (h := .ins C dx [] []) (o := .ins C dx []) (by rw [upd_ne (Ne.symm nad)]; exact na) ⟨[], rfl, rfl, rfl⟩
  refine ⟨R a :: ds, _, F, S1, _, χ, k a dx (W1.free na).2.1, ⟨_, vs, rfl, rfl, r⟩, W2, ?_, fun C ns fs w' d S' H' x s3 W3 xr => hX C ns fs w' d S' H' x (s1.trans s3) W3 xr⟩
  rintro d w' v S' H' ⟨rfl, ns, es, ew, kk⟩ s2 W3 rv
  refine ⟨rv, ?_⟩
  obtain ⟨o, e1, r3, W4⟩ := W3.freeze ew
  obtain ⟨ys, rfl, hys, r4⟩ := r3
  have s3 : Same S' (upd S' a (.ins C dx ys)) := same_upd e1
  exact hK _ _ _ _ _ kk (s1.trans (s2.trans s3)) W4 ⟨a, dx, ys, rfl, upd_same, hys, r4.mono s3⟩)
/-! ### fields -/
def look2 : List Str → List D → Str → Option D
  | n :: ns, d :: ds, f => if f = n then some d else look2 ns ds f
  | _, _, _ => none
theorem look2_at {K : PySem.W.Frag} {S : Hp} : ∀ {ys : List (Str × V)} {ds : List D} {f : Str} {d : D}, RepL K S ds (ys.map (·.2)) → look2 (ys.map (·.1)) ds f = some d → ∃ v, ys.lookup f = some v ∧ Rep K S d v
  | [], ds, f, d, r, h => by cases h
  | (g, x) :: ys, [], f, d, r, h => by cases h
  | (g, x) :: ys, d0 :: ds, f, d, r, h => by
    obtain ⟨y, zs, e, r1, r2⟩ := r
    have e' : x :: ys.map (·.2) = y :: zs := e
    cases e'
    have h' : (if f = g then some d0 else look2 (ys.map (·.1)) ds f) = some d := h
    by_cases q : f = g
    · rw [if_pos q] at h'
      cases h'
      subst q
      exact ⟨x, by simp [List.lookup], r1⟩
    · rw [if_neg q] at h'
      obtain ⟨v, h1, h2⟩ := look2_at r2 h'
      have hb : (f == g) = false := beq_eq_false_iff_ne.mpr q
      exact ⟨v, by simp only [List.lookup, hb]; exact h1, h2⟩
/-- the instance d of the class at C has at f the data u -/
def FldD (C : Addr) (f : Str) (d : D) (w : Wp) (u : D) : Prop := match d with
  | .obj C' ns ds => C' = C ∧ look2 ns ds f = some u
  | .val (.ref a) => ∃ dx ns ds, w a = some (.ins C dx ns ds) ∧ look2 ns ds f = some u
  | _ => False
theorem pd_fld {e : Expr} {f : Str} {C : Addr} {κ : D → Wp → Prop} (c : Cls X.K C) (n : NoAttr X.K C f) (h : PD X T W χ e δ w fun d w1 => ∃ u, FldD C f d w1 u ∧ κ u w1)
    (hb : attributeBase e f X.env (eval e X.env) = eval e X.env := by rfl) : PD X T W χ (.Attribute e f pos) δ w κ := fun F σ S H Q hE hW hX hK => wp_pe (pe_fld (pe_wp e) hb) (by
  refine h F σ S H _ hE hW hX fun d w1 v S1 H1 k s1 W1 r => ?_
  obtain ⟨u, hf, k⟩ := k
  cases d with
  | obj C' ns ds =>
    obtain ⟨rfl, hl⟩ := hf
    obtain ⟨a, dx, ys, rfl, h1, rfl, h3⟩ := r
    obtain ⟨v, h4, h5⟩ := look2_at h3 hl
    exact ⟨a, _, dx, ys, v, rfl, W1.same _ _ h1, c, n, h4, hK u w1 v S1 H1 k s1 W1 h5⟩
  | val v' =>
    have e' : v = v' := r
    subst e'
    cases v with
    | ref a =>
      obtain ⟨dx, ns, ds, hw, hl⟩ := hf
      obtain ⟨_, _, o, h1, h2⟩ := W1.own a _ hw
      obtain ⟨ys, rfl, rfl, h3⟩ := h2
      obtain ⟨v, h4, h5⟩ := look2_at h3 hl
      exact ⟨a, _, dx, ys, v, rfl, h1, c, n, h4, hK u w1 v S1 H1 k s1 W1 h5⟩
    | _ => exact hf.elim
  | _ => exact hf.elim)
theorem putF_new {f : Str} {v : V} : ∀ {ys : List (Str × V)}, f ∉ ys.map (·.1) → putF f v ys = ys ++ [(f, v)]
  | [], _ => rfl
  | (g, x) :: ys, h => by
    show (if g = f then (g, v) :: ys else (g, x) :: putF f v ys) = _
    rw [if_neg (fun z => h (by rw [← z]; exact List.mem_cons_self ..)), putF_new fun z => h (List.mem_cons_of_mem _ z)]
    rfl
/-- self.f = e, f new -/
theorem psd_fldNew {o e : Expr} {f : Str} {fp : Pos} {C : Addr} {Fi : Fin} (c : Cls X.K C) (n : NoAttr X.K C f) (h : PD X T W χ e δ w fun d w1 => PD X T W χ o δ w1 fun od w2 => ∃ a dx ns ds, od = R a ∧ w2 a = some (.ins C dx ns ds) ∧ f ∉ ns ∧ ns.length < 1000 ∧ Fi.nx δ (wu w2 a (.ins C dx (ns ++ [f]) (ds ++ [d]))))
    (hs : swapsWith e (some (.Attribute o f fp)) pos.line X.env = pure false := by rfl) : PSD X T W χ (.Assign [.Attribute o f fp] e pos) δ w Fi := fun F σ S H E hE hW hX hK => wp_ps (ps_fld (pe_wp o) (pe_wp e) hs) (by
  refine h F σ S H _ hE hW (hX σ) fun d w1 v S1 H1 k s1 W1 r => ?_
  refine k F σ S1 H1 _ (hE.mono s1) W1 ((hX σ).mono s1) fun od w2 x S2 H2 k2 s2 W2 r2 => ?_
  obtain ⟨a, dx, ns, ds, rfl, hw, hn, hl, k2⟩ := k2
  have r2' : x = .ref a := r2
  subst r2'
  obtain ⟨_, _, ob, h1, h2⟩ := W2.own a _ hw
  obtain ⟨ys, rfl, rfl, h3⟩ := h2
  refine ⟨a, C, dx, ys, rfl, h1, c, n, by rw [List.length_map] at hl; exact hl, ?_⟩
  rw [putF_new hn]
  refine hK.nx δ _ σ S2 _ k2 (s1.trans s2) (hE.mono (s1.trans s2)) (W2.put hw ⟨_, rfl, by rw [List.map_append]; rfl, ?_⟩)
  rw [List.map_append]
  exact h3.app (RepL.one (r.mono s2)))
/-- a class's constant -/
theorem pd_cval {e : Expr} {f : Str} {mc : Value} {C : Addr} {v : V} {u : Value} {κ : D → Wp → Prop} (r : ClX.CRead X.K C mc) (k : ClX.CVal X.K C mc f v u) (h : PD X T W χ e δ w fun d w1 => d = R C ∧ κ (.val v) w1)
    (hb : attributeBase e f X.env (eval e X.env) = eval e X.env := by rfl) : PD X T W χ (.Attribute e f pos) δ w κ := fun F σ S H Q hE hW hX hK => wp_pe (ClX.pe_cval (pe_wp e) hb) (by
  refine h F σ S H _ hE hW hX fun d w1 x S1 H1 q s1 W1 r1 => ?_
  obtain ⟨rfl, q⟩ := q
  exact ⟨C, mc, v, u, r1, r, k, hK _ w1 _ S1 H1 q s1 W1 rfl⟩)
theorem pd_glob {x : Str} {v : V} {u : Value} {κ : D → Wp → Prop} (hm : X.mg x = some u) (r : RelV v u) (k : κ (.val v) w) (hg : Gl X x := by rfl) (hd : (x == ("__debug__" : Str)) = false := by decide) : PD X T W χ (.Name x pos) δ w κ :=
  fun F σ S H Q hE hW hX hK => wp_pe (pe_glob hg hm r hd) (hK _ w _ S H k (Same.refl _) hW rfl)
theorem pd_bltn {x : Str} {v : V} {u : Value} {κ : D → Wp → Prop} (hm : X.mg x = none) (hv : bootBuiltins x = some u) (r : RelV v u) (k : κ (.val v) w) (hg : Gl X x := by rfl) (hn : x ≠ "__name__" := by decide) (hd : (x == ("__debug__" : Str)) = false := by decide) : PD X T W χ (.Name x pos) δ w κ :=
  fun F σ S H Q hE hW hX hK => wp_pe (pe_bltn hg hm hv r hn hd) (hK _ w _ S H k (Same.refl _) hW rfl)
end
/-! ### defs -/
def startD (N : List Str) (ds : List D) : Dn := ds.map some ++ List.replicate (N.length - ds.length) none
theorem env_start {K : PySem.W.Frag} {S : Hp} {N : List Str} {ds : List D} {vs : List V} (r : RepL K S ds vs) : EnvD K S (startD N ds) (L2.start N vs) := by
  have hl := r.length
  refine ⟨by unfold startD L2.start; rw [List.length_append, List.length_append, List.length_map, List.length_map, List.length_replicate, List.length_replicate, hl], fun i d h => ?_⟩
  unfold startD at h
  by_cases hi : i < ds.length
  · rw [List.getElem?_append_left (by rw [List.length_map]; exact hi), List.getElem?_map] at h
    cases e : ds[i]? with
    | none =>
      rw [e] at h
      cases h
    | some d' =>
      rw [e] at h
      cases h
      obtain ⟨v, h1, h2⟩ := r.get e
      refine ⟨v, ?_, h2⟩
      unfold L2.start
      rw [List.getElem?_append_left (by rw [List.length_map, hl]; exact hi), List.getElem?_map, h1]
      rfl
  · rw [List.getElem?_append_right (by rw [List.length_map]; omega), List.getElem?_replicate] at h
    split at h <;> cases h
section
variable {P : Program} {w : PySem.World} {K : PySem.W.Frag} {mg : Str → Option Value} {base : Heap} {T : List (Addr × Str)}
/-- a def that lets no error out -/
theorem fnD {x qual : Str} {st : Stmt} {f : Addr} {fd : FuncData} {N ps : List Str} {k : Nat} {sp : SpD} (G : Fun K x qual st f fd) (S : FnScope N ps (defScope st)) (len : ∀ ds w κ χ, sp ds w κ χ → ds.length = ps.length)
    (body : ∀ (cdv : Value) (A : Around) (outer : List Env) (s : Shared) (H : Hp) (E : XK) (ds : List D) (w0 : Wp) (κ : D → Wp → Prop) (χ : XD), Room k (A.deeper (envOfC qual (defScope st) s.heap.objs.size f cdv)) → sp ds w0 κ χ →
      PSsD (cxOf CX0 P w K mg base N qual (defScope st) f cdv A outer s H E).nox T Wf noX (defBody st) (startD N ds) w0 { nx := fun _ w' => κ DL.N w', rt := κ }) : FnOk P w K mg base CX0 (k + 1) f fd ps (spOf K T sp) := by
  refine G.ok S (fun vs H Q E h => ?_) (fun cdv A outer s H vs Q E hr h => ?_)
  · obtain ⟨ds, w0, F, S0, κ, χ, h1, h2, _⟩ := h
    rw [h2.length]
    exact len _ _ _ _ h1
  · obtain ⟨ds, w0, F, S0, κ, χ, h1, h2, h3, h4, h5⟩ := h
    refine ⟨_, pss_wp _, ?_⟩
    exact body cdv A outer s H E ds w0 κ χ hr h1 F _ S0 H _ (env_start h2) h3 exsf ⟨fun δ' w' σ' S' H' k s1 hE W1 => h4 _ w' _ S' H' k s1 W1 rfl, h4, fun _ _ _ _ _ z => z.elim, fun _ _ _ _ _ z => z.elim⟩
/-- a def that may raise -/
theorem fnX {x qual : Str} {st : Stmt} {f : Addr} {fd : FuncData} {N ps : List Str} {k : Nat} {sp : SpD} (G : Fun K x qual st f fd) (S : FnScope N ps (defScope st)) (len : ∀ ds w κ χ, sp ds w κ χ → ds.length = ps.length)
    (body : ∀ (cdv : Value) (A : Around) (outer : List Env) (s : Shared) (H : Hp) (E : XK) (ds : List D) (w0 : Wp) (κ : D → Wp → Prop) (χ : XD), Room k (A.deeper (envOfC qual (defScope st) s.heap.objs.size f cdv)) → sp ds w0 κ χ →
      PSsD (cxOf (L2.CX P w) P w K mg base N qual (defScope st) f cdv A outer s H E) T (fun cls d _ H => E cls d H) χ (defBody st) (startD N ds) w0 { nx := fun _ w' => κ DL.N w', rt := κ }) : FnOk P w K mg base (L2.CX P w) (k + 1) f fd ps (spOf K T sp) := by
  refine G.okX S (fun vs H Q E h => ?_) (fun cdv A outer s H vs Q E hr h => ?_)
  · obtain ⟨ds, w0, F, S0, κ, χ, h1, h2, _⟩ := h
    rw [h2.length]
    exact len _ _ _ _ h1
  · obtain ⟨ds, w0, F, S0, κ, χ, h1, h2, h3, h4, h5⟩ := h
    refine ⟨_, pss_wp _, ?_⟩
    exact body cdv A outer s H E ds w0 κ χ hr h1 F _ S0 H _ (env_start h2) h3 (fun σ C ns fs w' d S' H' x s1 W1 xr => h5 C ns fs w' d S' H' x s1 W1 xr) ⟨fun δ' w' σ' S' H' k s1 hE W1 => h4 _ w' _ S' H' k s1 W1 rfl, h4, fun _ _ _ _ _ z => z.elim, fun _ _ _ _ _ z => z.elim⟩
end
end DL

set_option Elab.async false
set_option linter.all false
set_option maxRecDepth 100000
set_option maxHeartbeats 1000000
/-! Slices, index, isinstance. -/
namespace DL
open PySem PySem.Spec PyProof.Rows L2 LamX
theorem cut_to (xs : List V) (n : Nat) : cutV xs none (some (n : Int)) = xs.take n := by
  unfold cutV
  rw [HT.sIx_none, HT.sIx_nat, List.drop_zero, Nat.sub_zero]
  by_cases h : n ≤ xs.length
  · rw [Nat.min_eq_left h]
  · rw [Nat.min_eq_right (by omega), List.take_of_length_le (Nat.le_refl _), List.take_of_length_le (by omega)]
theorem cut_from (xs : List V) (n : Nat) : cutV xs (some (n : Int)) none = xs.drop n := by
  unfold cutV
  rw [HT.sIx_none, HT.sIx_nat]
  by_cases h : n ≤ xs.length
  · rw [Nat.min_eq_left h, List.take_of_length_le (by rw [List.length_drop]; omega)]
  · rw [Nat.min_eq_right (by omega), List.drop_eq_nil_of_le (Nat.le_refl _), List.drop_eq_nil_of_le (by omega), List.take_nil]
section
variable {X : Cx} {T : List (Addr × Str)} {W : WX} {χ : XD} {δ : Dn} {w : Wp} {pos : Pos}
/-- what may be read as a list -/
def LstD (d : D) (ds : List D) : Prop := d = .lst ds ∨ d = .rd ds
theorem LstD.at_ {K : PySem.W.Frag} {S F H : Hp} {w : Wp} {d : D} {ds : List D} {x : V} (l : LstD d ds) (hW : World K T S w F H) (r : Rep K S d x) : ∃ a xs, x = .ref a ∧ SqL K H a xs ∧ RepL K S ds xs := by
  rcases l with rfl | rfl
  · obtain ⟨a, xs, rfl, h1, h2⟩ := r
    exact ⟨a, xs, rfl, SqL.of (hW.same _ _ h1), h2⟩
  · obtain ⟨a, xs, rfl, h1, h2⟩ := r
    exact ⟨a, xs, rfl, hW.same.seq h1, h2⟩
/-- xs[:n] -/
theorem pd_slTo {e : Expr} {n : Nat} {j : Nat} {p1 p2 : Pos} {κ : D → Wp → Prop} (h : PD X T W χ e δ w fun d w1 => ∃ ds, LstD d ds ∧ κ (.lst (ds.take n)) w1) : PD X T W χ (.Subscript e (.Slice none (some (.Constant (.int (n : Int)) j p1)) none p2) pos) δ w κ := fun F σ S H Q hE hW hX hK =>
  wp_pe (pe_slice sl_list (pe_wp e) po_none (po_some pe_int)) (by
    refine h F σ S H _ hE hW hX fun d w1 v S1 H1 k s1 W1 r => ?_
    obtain ⟨ds, hl, k⟩ := k
    obtain ⟨a, xs, rfl, h1, h2⟩ := hl.at_ W1 r
    refine ⟨n, rfl, a, xs, rfl, h1, fun p hp => ?_⟩
    rw [cut_to]
    have s2 : Same S1 (upd S1 p (.lst (xs.take n))) := same_upd (W1.free hp).1
    exact hK _ w1 _ _ _ k (s1.trans s2) (W1.laid hp fun _ z => by cases z) ⟨p, _, rfl, upd_same, (h2.take n).mono s2⟩)
/-- xs[n:] -/
theorem pd_slFrom {e : Expr} {n : Nat} {j : Nat} {p1 p2 : Pos} {κ : D → Wp → Prop} (h : PD X T W χ e δ w fun d w1 => ∃ ds, LstD d ds ∧ κ (.lst (ds.drop n)) w1) : PD X T W χ (.Subscript e (.Slice (some (.Constant (.int (n : Int)) j p1)) none none p2) pos) δ w κ := fun F σ S H Q hE hW hX hK =>
  wp_pe (pe_slice sl_list (pe_wp e) (po_some pe_int) po_none) (by
    refine h F σ S H _ hE hW hX fun d w1 v S1 H1 k s1 W1 r => ?_
    obtain ⟨ds, hl, k⟩ := k
    obtain ⟨a, xs, rfl, h1, h2⟩ := hl.at_ W1 r
    refine ⟨n, rfl, a, xs, rfl, h1, fun p hp => ?_⟩
    rw [cut_from]
    have s2 : Same S1 (upd S1 p (.lst (xs.drop n))) := same_upd (W1.free hp).1
    exact hK _ w1 _ _ _ k (s1.trans s2) (W1.laid hp fun _ z => by cases z) ⟨p, _, rfl, upd_same, (h2.drop n).mono s2⟩)
end
section
variable {K : PySem.W.Frag} {T : List (Addr × Str)} {w : Wp} {κ : D → Wp → Prop}
theorem before_ix : ∀ {ns : List Int} {m : Nat} {n : Int}, m < ns.idxOf n → ns[m]? ≠ some n
  | [], m, n, h => by simp at h
  | a :: ns, m, n, h => by
    rw [List.idxOf_cons] at h
    by_cases e : a = n
    · have e' : (a == n) = true := beq_iff_eq.mpr e
      rw [e'] at h
      exact absurd h (Nat.not_lt_zero _)
    · have e' : (a == n) = false := beq_eq_false_iff_ne.mpr e
      rw [e'] at h
      have h' : m < ns.idxOf n + 1 := h
      cases m with
      | zero => exact fun z => e (Option.some.inj z)
      | succ m => exact before_ix (ns := ns) (m := m) (by omega)
/-- xs.index(x), ints -/
theorem vm_index {ns : List Int} {n : Int} (hm : n ∈ ns) (k : κ (I ((ns.idxOf n : Nat) : Int)) w) : VRM K T (rIndex K) (.lst (ns.map I)) [I n] w κ := fun F S H x xs Q hW r1 r2 hK => by
  obtain ⟨a, ys, rfl, h1, h2⟩ := r1
  obtain ⟨y, zs, rfl, h3, h4⟩ := r2
  have h3' : y = .int n := h3
  have h4' : zs = [] := h4
  have h2' := h2.ints
  subst h3' h4' h2'
  have hi : ns.idxOf n < ns.length := List.idxOf_lt_length_of_mem hm
  refine ⟨a, ns.map V.int, .int n, ns.idxOf n, .int n, rfl, rfl, SqL.of (hW.same _ _ h1), rfl, ?_, ?_, ?_, ?_, hK _ w _ S H k (Same.refl _) hW rfl⟩
  · rw [List.all_eq_true]
    intro v hv
    obtain ⟨m, _, rfl⟩ := List.mem_map.mp hv
    rfl
  · rw [List.getElem?_map, List.getElem?_eq_getElem hi, List.getElem_idxOf hi]
    rfl
  · show (n == n) = true
    exact beq_self_eq_true n
  · intro m z' hlt hz
    rw [List.getElem?_map] at hz
    cases e : ns[m]? with
    | none =>
      rw [e] at hz
      cases hz
    | some z =>
      rw [e] at hz
      cases hz
      show (z == n) = false
      have hne : z ≠ n := fun q => by
        subst q
        exact before_ix hlt e
      exact beq_eq_false_iff_ne.mpr hne
/-- a datum's built-in type -/
def tyD : D → Option String
  | .val .non => some "NoneType"
  | .val (.bl _) => some "bool"
  | .val (.int _) => some "int"
  | .val (.str _) => some "str"
  | .val _ => none
  | .lst _ => some "list"
  | .rd _ => none
  | .tup _ => some "tuple"
  | .obj _ _ _ => none
  | .exc _ _ _ _ => none
  | .dic _ => none
  | .dct _ => none
  | .dcv _ _ => none
  | .cod _ _ _ _ _ _ => none
theorem tyx {S F H : Hp} {d : D} {x : V} {t : String} (hW : World K T S w F H) (h : tyD d = some t) (r : Rep K S d x) : TyX K H x (.type t) := by
  cases d with
  | val v =>
    have e : x = v := r
    subst e
    cases x <;> first | (cases h; exact .base (by constructor)) | cases h
  | lst ds =>
    obtain ⟨a, xs, rfl, h1, h2⟩ := r
    cases h
    exact .base (.lst (hW.same _ _ h1))
  | tup ds =>
    obtain ⟨a, xs, rfl, h1, h2⟩ := r
    cases h
    exact .base (.tup (hW.same _ _ h1))
  | _ => cases h
/-- isinstance(x, T), both built-in -/
theorem va_isi {d : D} {t n : String} {b : Bool} (ht : tyD d = some t) (hk : kitB t n = some b) (k : κ (B b) w) : VRA K T (rIsi K) [d, .val (.ty n)] w κ := fun F S H xs Q hW r hK => by
  obtain ⟨x, ys, rfl, h1, y, zs, rfl, h2, h3⟩ := r
  have h2' : y = .ty n := h2
  have h3' : zs = [] := h3
  subst h2' h3'
  exact ⟨x, .ty n, .type t, .type n, b, rfl, .ty n, tyx hW ht h1, kit_ty hk, hK _ w _ S H k (Same.refl _) hW rfl⟩
end
end DL

set_option Elab.async false
set_option linter.all false
set_option maxRecDepth 100000
set_option maxHeartbeats 1000000
/-! Usual comprehensions. -/
namespace DL
open PySem PySem.Spec PyProof.Rows L2 LamX
section
variable {X : Cx} {T : List (Addr × Str)} {δ : Dn} {w : Wp} {is vs : List Nat} {tg elt : Expr} {ifs : List Expr} {scope : Scope} {κ : List D → Wp → Prop}
/-- one turn: the item d, the test's answer b, the element y; w stays -/
def TurnD (X : Cx) (T : List (Addr × Str)) (is : List Nat) (tg : Expr) (ifs : List Expr) (elt : Expr) (scope : Scope) (δ : Dn) (w : Wp) (d : D) (b : Bool) (y : D) : Prop :=
  ∀ s H0 C cl fp, PGL (bx X s H0 scope cl C fp) T is tg d δ w fun δ2 w2 => ∀ s H0 C cl fp, PTsD (bx X s H0 scope cl C fp) T ifs δ2 w2 fun b' w3 =>
    if b' = true then ∀ s H0 C cl fp, PD (bx X s H0 scope cl C fp) T Wf noX elt δ2 w3 fun y' w4 => b = true ∧ y' = y ∧ w4 = w else b = false ∧ w3 = w
theorem lcd_ix {ds : List D} (p : Nat → Bool) (f : Nat → D) (hz : ds.length < sizeLine) (turn : ∀ i d, ds[i]? = some d → TurnD X T is tg ifs elt scope (wipeD δ vs) w d (p i) (f i))
    (k : κ (((List.range ds.length).filter p).map f) w) : LcD X T is tg ifs elt scope vs δ κ ds w := by
  refine ⟨hz, fun i acc w' => acc = ((List.range i).filter p).map f ∧ w' = w, ⟨rfl, rfl⟩, ?_, fun acc w' ⟨e1, e2⟩ => by rw [e1, e2]; exact k⟩
  rintro i d acc w' hd ⟨rfl, rfl⟩ s H0 C cl fp
  intro F v σ S H Q r hE hW hK
  refine turn i d hd s H0 C cl fp F v σ S H Q r hE hW fun δ' w' σ' S' H' k' s1 hE1 W1 o1 l1 => ?_
  refine hK δ' w' σ' S' H' (fun s H0 C cl fp => ?_) s1 hE1 W1 o1 l1
  intro F2 σ2 S2 H2 Q2 hE2 W2 hK2
  refine k' s H0 C cl fp F2 σ2 S2 H2 Q2 hE2 W2 fun b w3 S3 H3 k3 s3 W3 => ?_
  refine hK2 b w3 S3 H3 ?_ s3 W3
  try dsimp only at k3 ⊢
  cases b with
  | true =>
    rw [if_pos rfl] at k3 ⊢
    intro s H0 C cl fp
    refine (k3 s H0 C cl fp).imp fun y w4 ⟨e1, e2, e3⟩ => ⟨?_, e3⟩
    rw [e2, List.range_succ, List.filter_append, List.map_append, List.filter_cons, if_pos e1]
    rfl
  | false =>
    rw [if_neg Bool.false_ne_true] at k3 ⊢
    refine ⟨?_, k3.2⟩
    rw [List.range_succ, List.filter_append, List.map_append, List.filter_cons, if_neg (by rw [k3.1]; exact Bool.false_ne_true)]
    show _ = _ ++ []
    rw [List.append_nil]
theorem range_map {α β : Type} (xs : List α) (f : α → β) (g : Nat → β) (h : ∀ i x, xs[i]? = some x → g i = f x) : (List.range xs.length).map g = xs.map f := by
  refine List.ext_getElem (by simp) fun i h1 h2 => ?_
  rw [List.getElem_map, List.getElem_map, List.getElem_range]
  exact h i _ (List.getElem?_eq_getElem (by simpa using h2))
/-- over a list, all items -/
theorem lcd_map {α : Type} {xs : List α} {g : α → D} (f : α → D) (hz : xs.length < sizeLine) (turn : ∀ x ∈ xs, TurnD X T is tg ifs elt scope (wipeD δ vs) w (g x) true (f x)) (k : κ (xs.map f) w) : LcD X T is tg ifs elt scope vs δ κ (xs.map g) w := by
  refine ⟨by rw [List.length_map]; exact hz, fun i acc w' => acc = (xs.take i).map f ∧ w' = w, ⟨rfl, rfl⟩, ?_, fun acc w' ⟨e1, e2⟩ => by rw [e1, e2, List.length_map, List.take_length]; exact k⟩
  rintro i d acc w' hd ⟨rfl, rfl⟩ s H0 C cl fp
  rw [List.getElem?_map] at hd
  cases e : xs[i]? with
  | none =>
    rw [e] at hd
    cases hd
  | some x =>
    rw [e] at hd
    cases hd
    intro F v σ S H Q r hE hW hK
    refine turn x (List.mem_of_getElem? e) s H0 C cl fp F v σ S H Q r hE hW fun δ' w' σ' S' H' k' s1 hE1 W1 o1 l1 => ?_
    refine hK δ' w' σ' S' H' (fun s H0 C cl fp => ?_) s1 hE1 W1 o1 l1
    intro F2 σ2 S2 H2 Q2 hE2 W2 hK2
    refine k' s H0 C cl fp F2 σ2 S2 H2 Q2 hE2 W2 fun b w3 S3 H3 k3 s3 W3 => ?_
    refine hK2 b w3 S3 H3 ?_ s3 W3
    try dsimp only at k3 ⊢
    cases b with
    | true =>
      rw [if_pos rfl] at k3 ⊢
      intro s H0 C cl fp
      refine (k3 s H0 C cl fp).imp fun y w4 ⟨e1, e2, e3⟩ => ⟨?_, e3⟩
      rw [e2, List.take_add_one, e, List.map_append]
      rfl
    | false =>
      rw [if_neg Bool.false_ne_true] at k3
      exact absurd k3.1 (by simp)
/-- over a list, with a test -/
theorem lcd_filter {α : Type} {xs : List α} {g : α → D} (p : α → Bool) (f : α → D) (hz : xs.length < sizeLine) (turn : ∀ x ∈ xs, TurnD X T is tg ifs elt scope (wipeD δ vs) w (g x) (p x) (f x)) (k : κ ((xs.filter p).map f) w) : LcD X T is tg ifs elt scope vs δ κ (xs.map g) w := by
  refine ⟨by rw [List.length_map]; exact hz, fun i acc w' => acc = ((xs.take i).filter p).map f ∧ w' = w, ⟨rfl, rfl⟩, ?_, fun acc w' ⟨e1, e2⟩ => by rw [e1, e2, List.length_map, List.take_length]; exact k⟩
  rintro i d acc w' hd ⟨rfl, rfl⟩ s H0 C cl fp
  rw [List.getElem?_map] at hd
  cases e : xs[i]? with
  | none =>
    rw [e] at hd
    cases hd
  | some x =>
    rw [e] at hd
    cases hd
    intro F v σ S H Q r hE hW hK
    refine turn x (List.mem_of_getElem? e) s H0 C cl fp F v σ S H Q r hE hW fun δ' w' σ' S' H' k' s1 hE1 W1 o1 l1 => ?_
    refine hK δ' w' σ' S' H' (fun s H0 C cl fp => ?_) s1 hE1 W1 o1 l1
    intro F2 σ2 S2 H2 Q2 hE2 W2 hK2
    refine k' s H0 C cl fp F2 σ2 S2 H2 Q2 hE2 W2 fun b w3 S3 H3 k3 s3 W3 => ?_
    refine hK2 b w3 S3 H3 ?_ s3 W3
    have tk : xs.take (i + 1) = xs.take i ++ [x] := by rw [List.take_add_one, e]; rfl
    try dsimp only at k3 ⊢
    cases b with
    | true =>
      rw [if_pos rfl] at k3 ⊢
      intro s H0 C cl fp
      refine (k3 s H0 C cl fp).imp fun y w4 ⟨e1, e2, e3⟩ => ⟨?_, e3⟩
      rw [e2, tk, List.filter_append, List.map_append, List.filter_cons, if_pos e1]
      rfl
    | false =>
      rw [if_neg Bool.false_ne_true] at k3 ⊢
      refine ⟨?_, k3.2⟩
      rw [tk, List.filter_append, List.map_append, List.filter_cons, if_neg (by rw [k3.1]; exact Bool.false_ne_true)]
      show _ = _ ++ []
      rw [List.append_nil]
end
end DL

set_option Elab.async false
set_option linter.all false
set_option maxRecDepth 100000
set_option maxHeartbeats 1000000
/-! Lists that stand or are owned, read alike. -/
namespace DL
open PySem PySem.Spec PyProof.Rows L2 LamX
/-- a list that stands or is owned -/
def Lk (w : Wp) (d : D) (ds : List D) : Prop := d = .lst ds ∨ ∃ a, d = R a ∧ w a = some (.lst ds)
section
variable {K : PySem.W.Frag} {T : List (Addr × Str)} {w : Wp} {κ : D → Wp → Prop}
theorem Lk.at_ {S F H : Hp} {d : D} {ds : List D} {x : V} (l : Lk w d ds) (hW : World K T S w F H) (r : Rep K S d x) : ∃ a xs, x = .ref a ∧ H a = some (.lst xs) ∧ RepL K S ds xs := by
  rcases l with rfl | ⟨a, rfl, hw⟩
  · obtain ⟨a, xs, rfl, h1, h2⟩ := r
    exact ⟨a, xs, rfl, hW.same _ _ h1, h2⟩
  · obtain ⟨_, _, o, h1, h2⟩ := hW.own a _ hw
    obtain ⟨xs, rfl, h2⟩ := h2
    have r' : x = .ref a := r
    exact ⟨a, xs, r', h1, h2⟩
theorem vr_ixK {d : D} {ds : List D} {i : Nat} {e : D} (l : Lk w d ds) (h : ds[i]? = some e) (k : κ e w) : VR2 K T (rIxL K) d (I (i : Int)) w κ := fun F S H x y Q hW r1 r2 hK => by
  obtain ⟨a, xs, rfl, h1, h2⟩ := l.at_ hW r1
  obtain ⟨v, h3, h4⟩ := h2.get h
  exact ⟨a, xs, i, v, rfl, r2, SqL.of h1, ix_at h3, hK e w v S H k (Same.refl _) hW h4⟩
theorem va_lenK {d : D} {ds : List D} (l : Lk w d ds) (k : κ (I (ds.length : Int)) w) : VRA K T (fun xs H Q => ∃ p ys, xs = [.ref p] ∧ (SqL K H p ys ∨ SqT K H p ys) ∧ Q (.int ys.length) H) [d] w κ := fun F S H xs Q hW r hK => by
  obtain ⟨y, ys, rfl, h1, h2⟩ := r
  obtain ⟨a, zs, rfl, h3, h4⟩ := l.at_ hW h1
  have h2' : ys = [] := h2
  subst h2'
  refine ⟨a, zs, rfl, .inl (SqL.of h3), ?_⟩
  rw [h4.length]
  exact hK _ w _ S H k (Same.refl _) hW rfl
theorem va_isiK {d : D} {ds : List D} {n : String} {b : Bool} (l : Lk w d ds) (hk : kitB "list" n = some b) (k : κ (B b) w) : VRA K T (rIsi K) [d, .val (.ty n)] w κ := fun F S H xs Q hW r hK => by
  obtain ⟨x, ys, rfl, h1, y, zs, rfl, h2, h3⟩ := r
  have h2' : y = .ty n := h2
  have h3' : zs = [] := h3
  subst h2' h3'
  obtain ⟨a, xs, rfl, h4, h5⟩ := l.at_ hW h1
  exact ⟨_, .ty n, .type "list", .type n, b, rfl, .ty n, .base (.lst h4), kit_ty hk, hK _ w _ S H k (Same.refl _) hW rfl⟩
end
/-- the same data, n deep -/
inductive Sm : Nat → D → D → Prop
  | non {n : Nat} : Sm n N N
  | bl {n : Nat} (b : Bool) : Sm n (B b) (B b)
  | int {n : Nat} (i : Int) : Sm n (I i) (I i)
  | str {n : Nat} (x : Str) : Sm n (DL.T x) (DL.T x)
  | lst {n : Nat} {ds es : List D} (hl : ds.length = es.length) (hz : es.length ≤ sizeLine) (h : ∀ (i : Nat) (x y : D), ds[i]? = some x → es[i]? = some y → Sm n x y) : Sm (n + 1) (.lst ds) (.lst es)
  | tup {n : Nat} {ds es : List D} (hl : ds.length = es.length) (hz : es.length ≤ sizeLine) (h : ∀ (i : Nat) (x y : D), ds[i]? = some x → es[i]? = some y → Sm n x y) : Sm (n + 1) (.tup ds) (.tup es)
theorem Sm.map {α : Type} {n : Nat} {xs : List α} {f g : α → D} (hz : xs.length ≤ sizeLine) (h : ∀ x ∈ xs, Sm n (f x) (g x)) : Sm (n + 1) (.lst (xs.map f)) (.lst (xs.map g)) := by
  refine .lst (by rw [List.length_map, List.length_map]) (by rw [List.length_map]; exact hz) fun i x y h1 h2 => ?_
  rw [List.getElem?_map] at h1 h2
  cases e : xs[i]? with
  | none =>
    rw [e] at h1
    cases h1
  | some z =>
    rw [e] at h1 h2
    cases h1
    cases h2
    exact h z (List.mem_of_getElem? e)
theorem Sm.nil {n : Nat} : Sm (n + 1) (.lst []) (.lst []) := .lst rfl (Nat.zero_le _) fun i x y h _ => by simp at h
theorem Sm.cons {n : Nat} {d e : D} {ds es : List D} (h : Sm n d e) (k : Sm (n + 1) (.lst ds) (.lst es)) (hz : es.length + 1 ≤ sizeLine) : Sm (n + 1) (.lst (d :: ds)) (.lst (e :: es)) := by
  cases k with
  | lst hl hz' h' =>
    refine .lst (by simp [hl]) (by simpa using hz) fun i x y h1 h2 => ?_
    cases i with
    | zero =>
      cases h1
      cases h2
      exact h
    | succ i => exact h' i x y h1 h2
end DL

set_option Elab.async false
set_option linter.all false
set_option maxRecDepth 100000
set_option maxHeartbeats 2000000
/-! Defs whose caller is known to have no guard under way (repr of a list tells its items then); the law's end for such a def. -/
namespace DL
open PySem PySem.Spec PyProof.Rows L2 LamX
/-- as FnOk, but for callers without a guard -/
structure FnG (P : Program) (w : PySem.World) (K : PySem.W.Frag) (mg : Str → Option Value) (base : Heap) (CX : CXT) (k : Nat) (f : Addr) (fd : FuncData) (ps : List Str) (sp : Sp) : Prop where
  len : ∀ vs H Q E, sp vs H Q E → vs.length = ps.length
  go : ∀ (A : Around), A.guards = some [] → ∀ (outer : List Env) (s : Shared) (H : Hp) (args : Args) (us : List Value) (vs : List V) (Q : VK) (E : XK), Room k A → Env0 P w K mg base A outer s H →
    BindsTo s fd args (ps.zip us) → Vals vs us → sp vs H Q E → codeAny (model P w) A (.call (.ref f) args) (CR CX outer P w H s Q E) s
theorem FnG.of {P : Program} {w : PySem.World} {K : PySem.W.Frag} {mg : Str → Option Value} {base : Heap} {CX : CXT} {k : Nat} {f : Addr} {fd : FuncData} {ps : List Str} {sp : Sp} (G : FnOk P w K mg base CX k f fd ps sp) : FnG P w K mg base CX k f fd ps sp :=
  ⟨G.len, fun A _ => G.run A⟩
section
variable {P : Program} {w : PySem.World} {K : PySem.W.Frag} {mg : Str → Option Value} {base : Heap} {T : List (Addr × Str)}
/-- the rule for such a def -/
theorem fnG_of {CX : CXT} {x qual : Str} {st : Stmt} {f : Addr} {fd : FuncData} {N ps : List Str} {k : Nat} {sp : Sp} (D : Fun K x qual st f fd) (S : FnScope N ps (defScope st)) (len : ∀ vs H Q E, sp vs H Q E → vs.length = ps.length)
    (body : ∀ (cdv : Value) (A : Around) (outer : List Env) (s : Shared) (H : Hp) (vs : List V) (Q : VK) (E : XK), A.guards = some [] → Room k (A.deeper (envOfC qual (defScope st) s.heap.objs.size f cdv)) → sp vs H Q E →
      ∃ t, PSs (cxOf CX P w K mg base N qual (defScope st) f cdv A outer s H E) (defBody st) t ∧ t { nx := fun _ H' => Q .non H', rt := Q } (start N vs) H) : FnG P w K mg base CX (k + 1) f fd ps sp := by
  obtain ⟨oc, od, kV, doc, pm, an, cdv, ct, osl, rfl, lk, hcd⟩ := D.ex
  refine ⟨len, fun A hA outer s H args us vs Q E hr e0 hb r hsp => ?_⟩
  refine StX.run_bnd lk hcd S hr e0 (G := fun zs H2 => zs = vs ∧ H2 = H ∧ True) (fun A' Ex Q' hq => hb _ _ _ _ ?_) fun s2 H2 zs z hr2 => ?_
  · exact hq s H vs us e0 Un.refl rfl (fun _ _ z => z) r (len _ _ _ _ hsp) ⟨rfl, rfl, True.intro⟩
  · obtain ⟨rfl, rfl, _⟩ := z
    exact body cdv A outer s2 H2 zs Q E hA hr2 hsp
end

/-! ### the law's end for such a law -/
section
variable {P : Program} {w : PySem.World} {K : PySem.W.Frag} {h : Heap} {Hh : Hp} {a : Addr} {ts : List Addr} {vs : List Value}
/-- the script's list at a and the tables at ts are all that Hh may tell of -/
structure Hid (K : PySem.W.Frag) (h : Heap) (Hh : Hp) (a : Addr) (ts : List Addr) (vs : List Value) : Prop where
  lst : h.get? a = some { cls := .type "list", data := .seq vs.toArray }
  tab : ∀ b ∈ ts, h.get? b = some { cls := .none, data := .fields #[] }
  kin : K.In h
  noK : ∀ b ∈ ts, K.lookup b = none
  two : ∀ b, Hh b ≠ none → (b = a ∧ K.lookup a = none) ∨ b ∈ ts
theorem Hid.out (D : Hid K h Hh a ts vs) {b : Addr} {o : Obj} (e : h.get? b = some o) (n1 : ∀ us m, o.data ≠ .seq us m) (n2 : o.data ≠ .fields #[]) : Hh b = none := by
  refine Classical.byContradiction fun z => ?_
  rcases D.two b z with ⟨rfl, _⟩ | m
  · have q := D.lst.symm.trans e
    exact n1 vs.toArray _ (congrArg Obj.data (Option.some.inj q)).symm
  · have q := (D.tab b m).symm.trans e
    exact n2 (congrArg Obj.data (Option.some.inj q)).symm
theorem Hid.there (D : Hid K h Hh a ts vs) {b : Addr} {o : Obj} (e : h.get? b = some o) (n1 : ∀ us m, o.data ≠ .seq us m) (n2 : o.data ≠ .fields #[]) : (hidT h Hh).get? b = some o := hidT_get e (D.out e n1 n2)
theorem Hid.ns (D : Hid K h Hh a ts vs) {b : Addr} {m : Str → Option Value} (q : h.Ns b m) : (hidT h Hh).Ns b m := by
  obtain ⟨o, es, ep, e, d, r⟩ := q
  refine ⟨o, es, ep, D.there e (fun us m z => ?_) (fun z => ?_), d, r⟩ <;> (rw [d] at z; cases z)
theorem Hid.inK (D : Hid K h Hh a ts vs) : K.In (hidT h Hh) := fun b o e => by
  refine hidT_get (D.kin b o e) (Classical.byContradiction fun z => ?_)
  rcases D.two b z with ⟨rfl, n⟩ | m
  · rw [n] at e
    cases e
  · rw [D.noK b m] at e
    cases e
theorem Hid.tabB (D : Hid K h Hh a ts vs) {mg : Str → Option Value} {c p : Addr} (hp : p ∈ ts) (G : h.Ns mainGlobals mg) (C : PySem.W.CodeHd h c p)
    (B : ∃ (bm : Addr) (ob : Obj), mg "__builtins__" = some (.ref bm) ∧ bm ≠ builtinsNs ∧ h.get? bm = some ob ∧ ob.cls = .type "module" ∧ ob.dict = some builtinsNs ∧ ob.data = .plain) : TabB (hidT h Hh) mg c p := by
  have tp := D.tab p hp
  refine ⟨?_, ?_, ?_⟩
  · obtain ⟨o, us, fi, tf, fl, tg, iF, tx, tt, c1, q1, q2, q3, q4, q5, q6, q7, q8, q9⟩ := C
    refine ⟨o, us, fi, tf, fl, tg, iF, tx, tt, D.there c1 (fun ys m z => ?_) (fun z => ?_), q1, q2, q3, q4, q5, q6, q7, q8, q9⟩
    · rw [q2] at z
      cases z
    · rw [q2] at z
      cases z
      simp at q3
  · obtain ⟨bm, ob, d1, d2, d3, d4, d5, d6⟩ := B
    refine ⟨bm, ob, d1, d2, fun z => ?_, fun z => ?_, D.there d3 (fun ys m y => ?_) (fun y => ?_), d4, d5, d6⟩
    · obtain ⟨o, es, ep, e, dd, _⟩ := G
      rw [z] at d3
      rw [Option.some.inj (d3.symm.trans e)] at d6
      rw [dd] at d6
      cases d6
    · rw [z] at d3
      rw [← Option.some.inj (tp.symm.trans d3)] at d6
      cases d6
    · rw [d6] at y
      cases y
    · rw [d6] at y
      cases y
  · intro z
    obtain ⟨o, es, ep, e, dd, _⟩ := G
    rw [z] at e
    rw [← Option.some.inj (tp.symm.trans e)] at dd
    cases dd
end

open Classical in
/-- what is tracked at the law's start: the script (where K does not tell of it) and the empty tables -/
noncomputable def trk0 (K : PySem.W.Frag) (a : Addr) (ts : List Addr) (vs : List Value) (ns : List Int) : Hp := fun b =>
  if b ∈ ts then some (.tbl #[]) else if b = a ∧ K.lookup a = none then some (.frz { cls := .type "list", data := .seq vs.toArray } (.lst (ns.map V.int))) else none
section
variable {P : Program} {w : PySem.World} {K : PySem.W.Frag} {h : Heap} {a : Addr} {ts : List Addr} {vs : List Value} {ns : List Int}
theorem trk0_tab {b : Addr} (m : b ∈ ts) : trk0 K a ts vs ns b = some (.tbl #[]) := by
  unfold trk0
  rw [if_pos m]
theorem trk0_cases {b : Addr} {u : HO} (e : trk0 K a ts vs ns b = some u) : (b ∈ ts ∧ u = .tbl #[]) ∨ (b = a ∧ K.lookup a = none ∧ u = .frz { cls := .type "list", data := .seq vs.toArray } (.lst (ns.map V.int))) := by
  unfold trk0 at e
  split at e
  · rename_i m
    exact .inl ⟨m, (Option.some.inj e).symm⟩
  · split at e
    · rename_i m
      exact .inr ⟨m.1, m.2, (Option.some.inj e).symm⟩
    · cases e
/-- the end: a law that keeps its promise where no guard is under way -/
theorem law_callG {mg mb : Str → Option Value} {CX : CXT} {k : Nat} {fa : Addr} {cs : List (Addr × Addr)} {fd : FuncData} {x : Str} {sp : Sp} {s₁ : Shared}
    (kin : K.In s₁.heap) (G : s₁.heap.Ns mainGlobals mg) (nb : s₁.heap.Ns builtinsNs mb) (bb : ∀ y : Str, y ≠ "__name__" → mb y = bootBuiltins y) (nl : s₁.heap.NoLimit) (gs : s₁.gens = #[])
    (tb : ∀ p ∈ cs, s₁.heap.get? p.2 = some { cls := .none, data := .fields #[] }) (nk : ∀ p ∈ cs, K.lookup p.2 = none) (cd : ∀ p ∈ cs, PySem.W.CodeHd s₁.heap p.1 p.2)
    (B : ∃ (bm : Addr) (ob : Obj), mg "__builtins__" = some (.ref bm) ∧ bm ≠ builtinsNs ∧ s₁.heap.get? bm = some ob ∧ ob.cls = .type "module" ∧ ob.dict = some builtinsNs ∧ ob.data = .plain)
    (la : s₁.heap.get? a = some { cls := .type "list", data := .seq vs.toArray }) (it : IntsAre vs ns) (sz : ns.length ≤ sizeLine) (room : Room k callerA)
    (F : ∀ base : Heap, K.In base → base.Ns mainGlobals mg → (∀ p ∈ cs, TabB base mg p.1 p.2) → FnG P w K mg base CX k fa fd [x] sp) (bd : ∀ (s : Shared) (u : Value), BindsTo s fd ⟨[u], []⟩ [(x, u)])
    (start : ∀ H : Hp, (∀ p ∈ cs, H p.2 = some (.tbl #[])) → SqL K H a (ns.map V.int) → sp [.ref a] H (fun v _ => v = .bl true) fun _ _ _ => False)
    (noX : ∀ H e s', CX [] H s₁ (fun _ _ _ => False) e s' → False) :
    codeAny (model P w) callerA (.call (.ref fa) ⟨[.ref a], []⟩) (fun r s' => r = .ok (.ret (.bool true)) ∧ OldK s₁.heap s'.heap ∧ s'.os = s₁.os ∧ AllBare s'.gens) s₁ := by
  have rel := vals_ints it
  have many : vs.length = ns.length := it.length
  let ts := cs.map (·.2)
  have inT : ∀ p ∈ cs, p.2 ∈ ts := fun p hp => List.mem_map_of_mem hp
  have tbl : ∀ b ∈ ts, s₁.heap.get? b = some { cls := .none, data := .fields #[] } := fun b hb => by
    obtain ⟨p, hp, rfl⟩ := List.mem_map.mp hb
    exact tb p hp
  have D : Hid K s₁.heap (trk0 K a ts vs ns) a ts vs := ⟨la, tbl, kin, fun b hb => by
    obtain ⟨p, hp, rfl⟩ := List.mem_map.mp hb
    exact nk p hp, fun b hb => by
    cases q : trk0 K a ts vs ns b with
    | none => exact absurd q hb
    | some u =>
      rcases trk0_cases q with ⟨m, _⟩ | ⟨e, m, _⟩
      · exact .inr m
      · exact .inl ⟨e, m⟩⟩
  have nota : a ∉ ts := fun m => by
    have q := la.symm.trans (tbl a m)
    have q2 := congrArg Obj.data (Option.some.inj q)
    cases q2
  have ok : HOk P w (trk0 K a ts vs ns) s₁.heap := fun b u q => by
    rcases trk0_cases q with ⟨m, rfl⟩ | ⟨rfl, _, rfl⟩
    · exact tbl b m
    · exact ⟨la, by rw [List.length_map]; exact sz, vs, _, rel, la⟩
  have sq : SqL K (trk0 K a ts vs ns) a (ns.map V.int) := by
    cases q : K.lookup a with
    | none =>
      refine .inl (.inr ⟨{ cls := .type "list", data := .seq vs.toArray }, ?_⟩)
      unfold trk0
      rw [if_neg nota, if_pos ⟨rfl, q⟩]
    | some o =>
      have e := Option.some.inj (la.symm.trans (kin a o q))
      subst e
      refine .inr ⟨_, vs.toArray, _, q, rfl, rfl, rfl, ?_, ?_⟩
      · rw [List.size_toArray, many]
        exact sz
      · simpa using rel
  obtain ⟨mc, l1, l2⟩ := nl
  have M : L2.Mod K mg (hidT s₁.heap (trk0 K a ts vs ns)) := ⟨D.inK, D.ns G, ⟨mb, D.ns nb, bb⟩, mc, D.ns l1, l2⟩
  have e0 : Env0 P w K mg (hidT s₁.heap (trk0 K a ts vs ns)) callerA [] s₁ (trk0 K a ts vs ns) :=
    { frames := rfl, mod := M, bs := fun b o e => of_hidT e, bsz := Nat.le_of_eq (hidT_size _ _), funs := True.intro, frf := fun b hb => (List.not_mem_nil (show b ∈ ([] : List Addr) from hb)).elim, hok := ok, bare := .of_eq gs }
  have run := (F _ D.inK (D.ns G) fun p hp => D.tabB (inT p hp) G (cd p hp) B).go callerA rfl [] s₁ _ ⟨[.ref a], []⟩ [.ref a] [.ref a] (fun v _ => v = .bl true) (fun _ _ _ => False) room e0 (bd s₁ (.ref a)) (.cons rfl .nil) (start _ (fun p hp => trk0_tab (inT p hp)) sq)
  refine codeAny_mono run fun r s' z => ?_
  match r, z with
  | .error e, z => exact (noX _ e s' z).elim
  | .ok .next, z => exact (show False from z).elim
  | .ok .brk, z => exact (show False from z).elim
  | .ok .cont, z => exact (show False from z).elim
  | .ok (.ret u), z =>
    obtain ⟨v, H', os, bare, un, ok', rv, rfl⟩ := z
    have eu : u = Value.bool true := rv
    subst eu
    have kept : ∀ b o, b ∉ ts → s₁.heap.get? b = some o → s'.heap.get? b = some o := fun b o nm e => by
      cases q : trk0 K a ts vs ns b with
      | none => exact un.keep b o e q List.not_mem_nil List.not_mem_nil
      | some u =>
        rcases trk0_cases q with ⟨m, _⟩ | ⟨rfl, _, rfl⟩
        · exact absurd m nm
        · have g1 := (ok b _ q).1
          have g2 := (ok' b _ (un.frzs b _ _ q)).1
          rw [e] at g1
          rw [g2, ← Option.some.inj g1]
    have more : ∀ b ∈ ts, ∃ ms : Array Value, s'.heap.get? b = some { cls := .none, data := .fields ms } := fun b hb => by
      obtain ⟨ms, q⟩ := un.tbls b #[] (trk0_tab hb)
      exact ⟨_, ok' b _ q⟩
    refine ⟨rfl, ⟨fun b o e => ?_, fun b o e => ?_⟩, os, bare⟩
    · by_cases m : b ∈ ts
      · obtain ⟨ms, q⟩ := more b m
        have eo := Option.some.inj ((tbl b m).symm.trans e)
        subst eo
        obtain ⟨p, hp, rfl⟩ := List.mem_map.mp m
        exact .inr (.inl ⟨((cd p hp).tab (tb p hp)).isCodeTable, rfl, #[], ms, rfl, by rw [Array.empty_append]; exact q⟩)
      · exact .inl (kept b o m e)
    · by_cases m : b ∈ ts
      · obtain ⟨ms, q⟩ := more b m
        exact ⟨_, q⟩
      · exact ⟨o, kept b o m e⟩
/-- what is known of such a law's promise at the head's heap -/
def LawAtG (l : PySem.W.OpenLaw) (w : PySem.World) (K : PySem.W.Frag) (CX : CXT) (k n : Nat) (x : Str) (mg : Str → Option Value) (fa : Addr) (h : Heap) : Prop :=
  ∃ (fd : FuncData) (cs : List (Addr × Addr)) (sp : Sp), ((∀ p ∈ cs, h.get? p.2 = some { cls := .none, data := .fields #[] }) ∧ (∀ p ∈ cs, K.lookup p.2 = none) ∧ ∀ p ∈ cs, PySem.W.CodeHd h p.1 p.2) ∧ (∀ (s : Shared) (u : Value), BindsTo s fd ⟨[u], []⟩ [(x, u)]) ∧
    (∀ (H : Hp) (a : Addr) (ns : List Int), ns.length ≤ n → (∀ p ∈ cs, H p.2 = some (.tbl #[])) → SqL K H a (ns.map V.int) → sp [.ref a] H (fun v _ => v = .bl true) fun _ _ _ => False) ∧
    ∀ base : Heap, K.In base → base.Ns mainGlobals mg → (∀ p ∈ cs, TabB base mg p.1 p.2) → FnG l.prog w K mg base CX k fa fd [x] sp
theorem walk_ofG {l : PySem.W.OpenLaw} {n k : Nat} {q : Program} {loose : List Str} {XP : (Str → Option Value) → Heap → Prop} {YP : PySem.World → Heap → Prop} {d : DefRec} {KK : Params → PySem.W.Frag} {CX : PySem.World → CXT} {x : Str}
    (m1 : l.most = some n) (m2 : n ≤ sizeLine) (nd : d.params.defaults = []) (room : Room k callerA) (inY : ∀ (w : PySem.World) (h : Heap), YP w h → (KK w.params).In h)
    (F : ∀ (w : PySem.World) (mg : Str → Option Value) (fa : Addr) (h : Heap), YP w h → (KK w.params).In h → h.Ns mainGlobals mg → mg d.name = some (.ref fa) → LawAtG l w (KK w.params) (CX w) k n x mg fa h)
    (noX : ∀ (w : PySem.World) (H : Hp) (s : Shared) (e : Value) (s' : Shared), CX w [] H s (fun _ _ _ => False) e s' → False) : PySem.W.WalkO q loose XP YP l.row.toRowW d [] (fun f vs => PySem.call f vs) := by
  refine Att.attach_callB m1 nd fun w s₀ s₁ mg mb fa o pm cd doc a vs ns G Y _ _ _ hmg la it many _ gs => ?_
  have kin := inY w _ Y
  obtain ⟨fd, cs, sp, ⟨tb, nk, cdh⟩, bd, st, hF⟩ := F w mg fa _ Y kin G.T.g hmg
  exact law_callG kin G.T.g G.T.b G.T.builtins G.T.nolimit gs tb nk cdh G.T.bmain la it (Nat.le_trans many m2) room hF bd (fun H hH hS => st H a ns many hH hS) fun H e s' => noX w H s₁ e s'
end
end DL

set_option Elab.async false
set_option linter.all false
set_option maxRecDepth 100000
set_option maxHeartbeats 1000000
/-! == and != by an own method, len by an own method, isinstance of an own class, freezing within an expression. -/
namespace DL
open PySem PySem.Spec PyProof.Rows L2 LamX
/-- an own class as isinstance and type(..) see it -/
structure ClsI (K : PySem.W.Frag) (C : Addr) : Prop where
  cl : Cls K C
  cc : PySem.W.findIn K (.ref C) "__class__" = some (some (.builtin "object.__class__"))
  cg : PySem.W.specialIn K (.builtin "object.__class__") "__get__" = some (some (.builtin "getset_descriptor.__get__"))
  ct : PySem.W.takesIn K (.builtin "object.__class__") = some true
  mo : PySem.W.mroIn K C (.type "object") = some true
/-- the type of a datum, own classes too -/
def TyDD (K : PySem.W.Frag) (d : D) (t : Value) : Prop := (∃ n, tyD d = some n ∧ t = .type n) ∨ ∃ C ns ds, d = .obj C ns ds ∧ ClsI K C ∧ t = .ref C
theorem TyDD.tyx {K : PySem.W.Frag} {T : List (Addr × Str)} {w : Wp} {S F H : Hp} {d : D} {t : Value} {x : V} (h : TyDD K d t) (hW : World K T S w F H) (r : Rep K S d x) : TyX K H x t := by
  rcases h with ⟨n, h1, rfl⟩ | ⟨C, ns, ds, rfl, c, rfl⟩
  · exact DL.tyx hW h1 r
  · obtain ⟨a, dx, ys, rfl, h1, _, _⟩ := r
    exact .base (.ins (hW.same _ _ h1) c.cl c.cc c.cg c.ct c.mo)
section
variable {X : Cx}
def rOwn (C : Addr) (sp : Sp) : R2 := fun x y H Q => ∃ a dx fs t, x = .ref a ∧ H a = some (.ins C dx fs) ∧ TyX X.K H y t ∧ PySem.W.notFirst X.K C t = true ∧ sp [x, y] H (fun v H' => ∃ b, v = .bl b ∧ Q v H') E0
theorem op_own {op : CmpOp} {C f : Addr} {fd : FuncData} {ps : List Str} {k : Nat} {sp : Sp} (hop : ∀ a b, compareOp op a b = richCompare op a b) (G : FnOk X.prog X.w X.K X.mg X.base CX0 k f fd ps sp) (hr : Room k X.A) (hs : PySem.W.findIn X.K (.ref C) (cmpInfo op).2.1 = some (some (.ref f))) (hf : PySem.W.isFn X.K (.ref f) = true) (hb : Binds X.K fd ps []) :
    OpR X (compareOp op) (rOwn (X := X) C sp) := by
  intro pins s σ H x y v u Q I rx ry h
  obtain ⟨a, dx, fs, t, rfl, ha, ty, nf, hsp⟩ := h
  cases rx
  obtain ⟨mA, J, _⟩ := ins_get I.hok ha
  obtain ⟨od, J, _⟩ := J.look
  obtain ⟨m, hF⟩ := I.fr
  obtain ⟨Pz, Z, p, _⟩ := kit_of I ry ty
  show wpAny (model X.prog X.w) X.A (compareOp op (.ref a) u) (EP X pins σ Q) X.xe s
  rw [hop]
  refine PySem.W.cmp_K (op := op) (tb := t) hr.units0 hF I.ok.mod.kin J (Z.ty _ _ I.kIn p) nf hs hf ?_
  have r2 : Vals [V.ref a, y] [Value.ref a, u] := .cons rfl (.cons ry .nil)
  have q := run_fnSD (σ := σ) (E := fun _ => E0) (dvs := []) (ds := []) G hr hb .nil pass0At I r2 (by rw [List.append_nil]; exact hsp)
  refine thn q fun r s' z => ?_
  obtain ⟨v', H', I', rv, ⟨b, rfl, q⟩⟩ := z
  cases rv
  exact ⟨.bl b, H', I', rfl, q⟩
/-- len(x), x an instance with an own __len__ -/
theorem call_lenOwn {C f : Addr} {fd : FuncData} {ps : List Str} {k : Nat} {sp : Sp} (G : FnOk X.prog X.w X.K X.mg X.base CX0 k f fd ps sp) (hr : Room (k + 1) X.A) (hs : PySem.W.findIn X.K (.ref C) "__len__" = some (some (.ref f))) (hf : PySem.W.isFn X.K (.ref f) = true) (hb : Binds X.K fd ps []) :
    CallR X (.builtin "len") (fun xs H Q => ∃ a dx fs, xs = [.ref a] ∧ H a = some (.ins C dx fs) ∧ sp [.ref a] H (fun v H' => ∃ n : Int, v = .int n ∧ 0 ≤ n ∧ n < 2 ^ 63 ∧ Q v H') E0) := by
  intro pins s σ H xs us Q I r h
  obtain ⟨a, dx, fs, rfl, ha, hsp⟩ := h
  obtain ⟨u, rfl, rx⟩ := vals1 r
  cases (show u = Value.ref a from rx)
  obtain ⟨mA, J, _⟩ := ins_get I.hok ha
  obtain ⟨od, J, _⟩ := J.look
  obtain ⟨m, hF⟩ := I.fr
  refine PySem.W.len_K hF I.ok.mod.kin J hs hf ?_
  have r2 : Vals [V.ref a] [Value.ref a] := .cons rfl .nil
  have hl : ([Value.ref a] ++ []).length = ps.length := by
    have e := r2.length
    rw [G.len _ _ _ _ hsp] at e
    rw [List.append_nil]
    exact e.symm
  have bb := hb s [Value.ref a] I.kIn hl
  rw [List.append_nil] at bb
  refine wpAny_call (codeAny_mono (G.run X.A.in1 X.stack s H ⟨[.ref a], []⟩ [.ref a] [.ref a] _ E0 hr.in1 I.env0.in1 bb r2 hsp) fun r s' hq => ?_)
  cases r with
  | error e => exact hq.elim
  | ok fl =>
    cases fl with
    | ret u =>
      obtain ⟨v', H', I', rv, n, rfl, h0, h1, q⟩ := I.after hq
      obtain ⟨t, rfl⟩ := rv
      exact ⟨⟨h0, h1⟩, .int n, H', I'.tok _, ⟨_, rfl⟩, q⟩
    | next => exact False.elim hq
    | brk => exact False.elim hq
    | cont => exact False.elim hq
end
section
variable {X : Cx} {T : List (Addr × Str)} {W : WX} {χ : XD} {δ : Dn} {w : Wp} {pos : Pos}
/-- == by the own method, in data -/
theorem vr_own {C : Addr} {sp : SpD} {d e : D} {t : Value} {κ : D → Wp → Prop} (hd : ∃ ns ds, d = .obj C ns ds) (he : TyDD X.K e t) (nf : PySem.W.notFirst X.K C t = true) (h : sp [d, e] w (fun d' w' => ∃ b, d' = B b ∧ κ d' w') noX) :
    VR2 X.K T (rOwn (X := X) C (spOf X.K T sp)) d e w κ := fun F S H x y Q hW r1 r2 hK => by
  obtain ⟨ns, ds, rfl⟩ := hd
  obtain ⟨a, dx, ys, rfl, h1, h2, h3⟩ := id r1
  refine ⟨a, dx, ys, t, rfl, hW.same _ _ h1, he.tyx hW r2, nf, [.obj C ns ds, e], w, F, S, _, noX, h, ⟨_, _, rfl, r1, _, _, rfl, r2, rfl⟩, hW, ?_, fun _ _ _ _ _ _ _ z => z.elim⟩
  rintro d' w' v S' H' ⟨b, rfl, k⟩ s1 W1 r
  have r' : v = .bl b := r
  exact ⟨b, r', hK _ w' v S' H' k s1 W1 r⟩
theorem va_lenOwn {C : Addr} {sp : SpD} {d : D} {κ : D → Wp → Prop} (hd : ∃ ns ds, d = .obj C ns ds) (h : sp [d] w (fun d' w' => ∃ n : Int, d' = I n ∧ 0 ≤ n ∧ n < 2 ^ 63 ∧ κ d' w') noX) :
    VRA X.K T (fun xs H Q => ∃ a dx fs, xs = [.ref a] ∧ H a = some (.ins C dx fs) ∧ spOf X.K T sp [.ref a] H (fun v H' => ∃ n : Int, v = .int n ∧ 0 ≤ n ∧ n < 2 ^ 63 ∧ Q v H') E0) [d] w κ := fun F S H xs Q hW r1 hK => by
  obtain ⟨ns, ds, rfl⟩ := hd
  obtain ⟨y, zs, rfl, r2, r3⟩ := r1
  have r3' : zs = [] := r3
  subst r3'
  obtain ⟨a, dx, ys, rfl, h1, h2, h3⟩ := id r2
  refine ⟨a, dx, ys, rfl, hW.same _ _ h1, [.obj C ns ds], w, F, S, _, noX, h, ⟨_, _, rfl, r2, rfl⟩, hW, ?_, fun _ _ _ _ _ _ _ z => z.elim⟩
  rintro d' w' v S' H' ⟨n, rfl, h0, h1, k⟩ s1 W1 r
  have r' : v = .int n := r
  exact ⟨n, r', h0, h1, hK _ w' v S' H' k s1 W1 r⟩
/-- isinstance(x, C), C an own class -/
theorem va_isC {C : Addr} {d : D} {t : Value} {b : Bool} {κ : D → Wp → Prop} (ht : TyDD X.K d t) (hk : PySem.W.kitOne X.K t (.ref C) = some b) (k : κ (B b) w) : VRA X.K T (rIsi X.K) [d, R C] w κ := fun F S H xs Q hW r hK => by
  obtain ⟨x, ys, rfl, h1, y, zs, rfl, h2, h3⟩ := r
  have h2' : y = .ref C := h2
  have h3' : zs = [] := h3
  subst h2' h3'
  exact ⟨x, .ref C, t, .ref C, b, rfl, .own C, ht.tyx hW h1, hk, hK _ w _ S H k (Same.refl _) hW rfl⟩
/-- an owned list stands from now on, within an expression -/
theorem pd_frz {e : Expr} {κ : D → Wp → Prop} (h : PD X T W χ e δ w fun d w1 => ∃ a ds, d = R a ∧ w1 a = some (.lst ds) ∧ κ (.lst ds) (wd w1 a)) : PD X T W χ e δ w κ := fun F σ S H Q hE hW hX hK =>
  h F σ S H Q hE hW hX fun d w1 v S1 H1 k s1 W1 r => by
    obtain ⟨a, ds, rfl, hw, k⟩ := k
    obtain ⟨o, e1, r1, W2⟩ := W1.freeze hw
    obtain ⟨xs, rfl, r1⟩ := r1
    have s2 : Same S1 (upd S1 a (.lst xs)) := same_upd e1
    have r' : v = .ref a := r
    exact hK _ _ v _ H1 k (s1.trans s2) W2 ⟨a, xs, r', upd_same, r1.mono s2⟩
end
end DL

set_option Elab.async false
set_option linter.all false
set_option maxRecDepth 100000
set_option maxHeartbeats 2000000
/-! The text of a list of ints (by repr, str, an f-string) where no guard is under way; str(x), repr(x) by own methods. -/
namespace DL
open PySem PySem.Spec PyProof.Rows L2 LamX
def lText (ns : List Int) : Str := listText (ns.map fun i => (toString i : Str))
section
variable {X : Cx} {pins : List (Addr × Obj)} {σ : L2.St} {H : Hp} {s : Shared}
/-- list.__repr__ of ints -/
theorem rep_ints {A : Around} {E : Value → Shared → Prop} {a : Addr} {ns : List Int} {Q : Value → Shared → Prop} (hg : A.guards = some []) (I : Inv X pins σ H s) (h : SqL X.K H a (ns.map V.int)) (h0 : ns ≠ []) (hb : ∀ n ∈ ns, n.natAbs.log2 < 1920) (hz : (lText ns).length ≤ sizeLine)
    (q : ∀ u h' tk, Inv X pins σ H { s with heap := h', toks := tk } → Q (.str (lText ns) u) { s with heap := h', toks := tk }) : wpAny (model X.prog X.w) A (call (.builtin "list.__repr__") [.ref a]) Q E s := by
  obtain ⟨its, r, ⟨o, n, ho, hc, hd0, hd⟩, _⟩ := I.list h
  have hl := r.length
  rw [List.length_map] at hl
  cases its with
  | nil => exact absurd (List.eq_nil_of_length_eq_zero hl) h0
  | cons x l =>
    refine call_list_repr (oa := o) (x := x) (l := l) (na := n) (ts := ns.map fun i => (toString i : Str)) ⟨o, ho, hc⟩ hg (fun v rest kw m => absurd m List.not_mem_nil) ho hd ?_ (fun i y e => ?_) (fun h' u tk k => q u h' tk (I.kept k)) hz
    · rw [List.length_map, List.size_toArray]
      exact hl
    · rw [List.getElem?_toArray] at e
      have hi : i < ns.length := by
        rw [hl]
        exact (List.getElem?_eq_some_iff.mp e).1
      refine ⟨(toString ns[i] : Str), by rw [List.getElem?_map, List.getElem?_eq_getElem hi]; rfl, ?_⟩
      obtain ⟨u, hu, ru⟩ := r.get (show (ns.map V.int)[i]? = some (V.int ns[i]) by rw [List.getElem?_map, List.getElem?_eq_getElem hi]; rfl)
      rw [hu] at e
      cases e
      obtain ⟨t, rfl⟩ := ru
      exact ReprIs.int t (hb _ (List.getElem_mem hi))

/-- str(v), v no text -/
theorem str_via {prog : Program} {w : PySem.World} {A : Around} {E : Value → Shared → Prop} {v : Value} {Q : Value → Shared → Prop} {s : Shared}
    (h : wpAny (model prog w) A.in1.in1 (Builtin.Str.strOf v) (fun r s1 => s1.TypeIs r "str" ∧ Q r s1) E s) : wpAny (model prog w) A (call (.type "str") [v]) Q E s := by
  have m : MeetsIn prog w (Builtin.«str.__new__» ⟨[.type "str", v], []⟩) (fun A R s => wpAny (model prog w) A.in1 (Builtin.Str.strOf v) (fun r s' => R (.ok (.ret r)) s') (fun e s' => R (.error e) s') s) := .of_wp fun A R s h => by
    rw [str_new_tree v]
    refine wpAny_bind (wpAny_pure ?_)
    refine wpAny_bind (wpAny_of_eq isSubtype_str_str ?_)
    exact wpAny_bind (wpAny_mono h (fun r s' h' => wpAny_pure ⟨_, rfl, h'⟩) fun _ _ e => e)
  exact callType_newIn PySem.F.called_str (by decide) (PySem.F.typeCall_str_1 _) (PySem.F.newCall_str_1 _) (fun obj => PySem.F.args_object_init_2 obj _) PySem.F.entry_str_new m h
abbrev rStrL (K : PySem.W.Frag) : List V → Hp → VK → Prop := fun xs H Q => ∃ a ns, xs = [.ref a] ∧ SqL K H a (ns.map V.int) ∧ ns ≠ [] ∧ (∀ n ∈ ns, n.natAbs.log2 < 1920) ∧ (lText ns).length ≤ sizeLine ∧ Q (.str (lText ns)) H
/-- str(xs), xs a list of ints -/
theorem call_strL (hg : X.A.guards = some []) (hu : X.A.units + 65 < cLine) : CallR X (.type "str") (rStrL X.K) := by
  intro pins s σ H xs us Q I r h
  obtain ⟨a, ns, rfl, hs, h0, hb, hz, q⟩ := h
  obtain rfl := Vals.ref1 r
  have ty : s.TypeIs (.ref a) "list" := by
    obtain ⟨its, rv, ⟨o, n, ho, hc, _, _⟩, _⟩ := I.list hs
    exact ⟨o, ho, hc⟩
  refine str_via (wpAny_strOf_slot (T := "list") rfl (by show X.A.units + 1 + 1 + 1 < cLine; omega) ty PySem.F.slot_list_str PySem.F.slot_list_repr.toG ?_)
  refine rep_ints hg I hs h0 hb hz fun u h' tk I1 => ⟨_, _, rfl, ?_, ?_⟩
  · exact typeIs_str _ _ _
  · exact ⟨.str (lText ns), H, I1, ⟨_, rfl⟩, q⟩
/-- {xs} in an f-string -/
def tFmtL (K : PySem.W.Frag) (te : TE) : TE := fun σ H Q => te σ H fun x H1 => ∃ a ns, x = .ref a ∧ SqL K H1 a (ns.map V.int) ∧ ns ≠ [] ∧ (∀ n ∈ ns, n.natAbs.log2 < 1920) ∧ (lText ns).length ≤ sizeLine ∧ Q (.str (lText ns)) H1
theorem pe_fmtL {e : Expr} {te : TE} {pos : Pos} (hg : X.A.guards = some []) (hu : X.A.units + 65 < cLine) (he : PE X e te) : PE X (.FormattedValue e (-1) none pos) (tFmtL X.K te) := by
  refine ⟨fun pins s σ H Q I h => ?_⟩
  refine wpAny_FormattedValue_plain (thn (he.run pins s σ H _ I h) fun v s1 hv => ?_)
  obtain ⟨x, H1, I1, rx, a, ns, rfl, hs, h0, hb, hz, q⟩ := hv
  cases rx
  have ty : s1.TypeIs (.ref a) "list" := by
    obtain ⟨its, rv, ⟨o, n, ho, hc, _, _⟩, _⟩ := I1.list hs
    exact ⟨o, ho, hc⟩
  refine wpAny_formatField_slot (T := "list") (fun _ _ => nofun) (by omega) ty PySem.F.slot_list_format PySem.F.slot_list_str PySem.F.slot_list_repr.toG ?_
  refine rep_ints (s := { s1 with toks := s1.toks + 1 }) hg (I1.tok _) hs h0 hb hz fun u h' tk I2 => ⟨_, _, rfl, ?_⟩
  exact ⟨.str (lText ns), H1, I2, ⟨_, rfl⟩, q⟩
/-- str(x), x an instance with an own __str__ -/
theorem call_strOwn {C f : Addr} {fd : FuncData} {ps : List Str} {k : Nat} {sp : Sp} (G : FnOk X.prog X.w X.K X.mg X.base CX0 k f fd ps sp) (hr : Room (k + 2) X.A) (hs : PySem.W.findIn X.K (.ref C) "__str__" = some (some (.ref f))) (hf : PySem.W.isFn X.K (.ref f) = true) (hb : Binds X.K fd ps []) :
    CallR X (.type "str") (fun xs H Q => ∃ a dx fs, xs = [.ref a] ∧ H a = some (.ins C dx fs) ∧ sp [.ref a] H (fun v H' => ∃ z : Str, v = .str z ∧ Q v H') E0) := by
  intro pins s σ H xs us Q I r h
  obtain ⟨a, dx, fs, rfl, ha, hsp⟩ := h
  obtain ⟨u, rfl, rx⟩ := vals1 r
  cases (show u = Value.ref a from rx)
  obtain ⟨mA, J, _⟩ := ins_get I.hok ha
  obtain ⟨od, J, _⟩ := J.look
  have hu := hr.units
  refine str_via ?_
  unfold Builtin.Str.strOf
  refine wpAny_bind (m := cRoomFor _ _) (wpAny_cRoomFor (by show X.A.units + 1 + 1 < cLine; omega) ?_)
  refine wpAny_bind (m := callSpecial? (.ref a) (Str.ofString "__str__")) (PySem.W.special_fn I.kIn J hs (beq_iff_eq.mp hf) ?_)
  have r2 : Vals [V.ref a] [Value.ref a] := .cons rfl .nil
  have hl : ([Value.ref a] ++ []).length = ps.length := by
    have e := r2.length
    rw [G.len _ _ _ _ hsp] at e
    rw [List.append_nil]
    exact e.symm
  have bb := hb s [Value.ref a] I.kIn hl
  rw [List.append_nil] at bb
  refine wpAny_call (codeAny_mono (G.run X.A.in1.in1 X.stack s H ⟨[.ref a], []⟩ [.ref a] [.ref a] _ E0 hr.in1.in1 I.env0.in1.in1 bb r2 hsp) fun r s' hq => ?_)
  cases r with
  | error e => exact hq.elim
  | ok fl =>
    cases fl with
    | ret u =>
      obtain ⟨v', H', I', rv, z, rfl, q⟩ := I.after hq
      obtain ⟨t, rfl⟩ := rv
      refine wpAny_bind (wpAny_pure ?_)
      exact wpAny_pure ⟨typeIs_str _ _ _, .str z, H', I', ⟨_, rfl⟩, q⟩
    | next => exact False.elim hq
    | brk => exact False.elim hq
    | cont => exact False.elim hq
/-- repr(x), x an instance with an own __repr__ that wants no guard -/
theorem call_reprOwn {C f : Addr} {fd : FuncData} {ps : List Str} {k : Nat} {sp : Sp} (G : FnG X.prog X.w X.K X.mg X.base CX0 k f fd ps sp) (hg : X.A.guards = some []) (hr : Room (k + 1) X.A) (hs : PySem.W.findIn X.K (.ref C) "__repr__" = some (some (.ref f))) (hf : PySem.W.isFn X.K (.ref f) = true) (hb : Binds X.K fd ps []) :
    CallR X (.builtin "repr") (fun xs H Q => ∃ a dx fs, xs = [.ref a] ∧ H a = some (.ins C dx fs) ∧ sp [.ref a] H (fun v H' => ∃ z : Str, v = .str z ∧ Q v H') E0) := by
  intro pins s σ H xs us Q I r h
  obtain ⟨a, dx, fs, rfl, ha, hsp⟩ := h
  obtain ⟨u, rfl, rx⟩ := vals1 r
  cases (show u = Value.ref a from rx)
  obtain ⟨mA, J, _⟩ := ins_get I.hok ha
  obtain ⟨od, J, _⟩ := J.look
  obtain ⟨m, hF⟩ := I.fr
  have hu := hr.units
  refine PySem.W.repr_K (by show X.A.units + 1 < cLine; omega) hF I.ok.mod.kin J hs hf ?_
  have r2 : Vals [V.ref a] [Value.ref a] := .cons rfl .nil
  have hl : ([Value.ref a] ++ []).length = ps.length := by
    have e := r2.length
    rw [G.len _ _ _ _ hsp] at e
    rw [List.append_nil]
    exact e.symm
  have bb := hb s [Value.ref a] I.kIn hl
  rw [List.append_nil] at bb
  refine wpAny_call (codeAny_mono (G.go X.A.in1 hg X.stack s H ⟨[.ref a], []⟩ [.ref a] [.ref a] _ E0 hr.in1 I.env0.in1 bb r2 hsp) fun r s' hq => ?_)
  cases r with
  | error e => exact hq.elim
  | ok fl =>
    cases fl with
    | ret u =>
      obtain ⟨v', H', I', rv, z, rfl, q⟩ := I.after hq
      obtain ⟨t, rfl⟩ := rv
      exact ⟨.str z, H', I', ⟨_, rfl⟩, q⟩
    | next => exact False.elim hq
    | brk => exact False.elim hq
    | cont => exact False.elim hq
/-- f(e, ..), f a def that wants no guard -/
theorem pe_callG {CX : CXT} {k : Nat} {f : Addr} {fd : FuncData} {ps : List Str} {sp : Sp} {E : L2.St → XK} {x : Str} {p pos : Pos} {e : Expr} {es : List Expr} {t : TA} (G : FnG X.prog X.w X.K X.mg X.base CX k f fd ps sp) (hg0 : X.A.guards = some []) (hr : Room k X.A) (hg : Gl X x) (hm : X.mg x = some (.ref f)) (hk : PySem.W.keepIn X.K (.ref f) = true) (hb : Binds X.K fd ps []) (hx : ∀ σ, PassesAt CX X σ (E σ))
    (ha : PA X (e :: es) t) (hdb : (x == ("__debug__" : Str)) = false := by decide) (he : starEach (e :: es) X.env = (false, eval e X.env) :: starEach es X.env := by rfl) (hpl : (backTo pos (starEach es X.env)).any (·.1) = false := by rfl) :
    PE X (.Call (.Name x p) (e :: es) [] pos) (fun σ H Q => t σ H fun vs H1 => sp vs H1 Q (E σ)) := by
  refine ⟨fun pins s σ H Q I h => ?_⟩
  refine wpAny_Call_Name_kw (ld_glob I hg hm ?_ hdb)
  refine PySem.W.callWith_K (h₀ := X.base) I.ok.mod.kin hk (thn (ha.run pos pins s σ H _ I h) fun us s1 ⟨vs, H1, I1, r, q⟩ => ⟨I1.kIn, ?_⟩) he hpl
  have hl : (us ++ []).length = ps.length := by
    have e := r.length
    rw [G.len _ _ _ _ q] at e
    rw [List.append_nil]
    exact e.symm
  have bb := hb s1 us I1.kIn hl
  rw [List.append_nil] at bb
  refine wpAny_call (codeAny_mono (G.go X.A hg0 X.stack s1 H1 ⟨us, []⟩ us vs Q (E σ) hr I1.env0 bb r q) fun r s' hq => ?_)
  cases r with
  | error e => exact hx σ _ H1 s1 e s' I1 hq
  | ok fl =>
    cases fl with
    | ret u => exact I1.after hq
    | next => exact False.elim hq
    | brk => exact False.elim hq
    | cont => exact False.elim hq
end
end DL

set_option Elab.async false
set_option linter.all false
set_option maxRecDepth 100000
set_option maxHeartbeats 1000000
/-! while, in data. -/
namespace DL
open PySem PySem.Spec PyProof.Rows L2 LamX
section
variable {X : Cx} {T : List (Addr × Str)} {W : WX} {χ : XD} {δ : Dn} {w : Wp} {pos : Pos}
theorem psd_while {c : Expr} {body : List Stmt} {C : Fin} (hp : PassesOwn (model X.prog X.w) X.A X.env X.xe) (Pv : Nat → Dn → Wp → Prop) (h0 : ∃ m, Pv m δ w)
    (turn : ∀ m δ' w', Pv m δ' w' → PTD X T W χ c δ' w' fun b w1 => if b = true then PSsD X T W χ body δ' w1 { nx := fun δ2 w2 => ∃ m', m' < m ∧ Pv m' δ2 w2, rt := C.rt, bk := C.nx, ct := fun δ2 w2 => ∃ m', m' < m ∧ Pv m' δ2 w2 } else C.nx δ' w1) :
    PSD X T W χ (.While c body [] pos) δ w C := fun F σ S H E hE hW hX hK => by
  refine wp_ps (ps_while hp (pt_wp c) (pss_wp body)) ?_
  obtain ⟨m0, p0⟩ := h0
  refine ⟨fun m σ' H' => ∃ δ' w' S', Pv m δ' w' ∧ Same S S' ∧ EnvD X.K S' δ' σ' ∧ World X.K T S' w' F H', ⟨m0, δ, w, S, p0, Same.refl _, hE, hW⟩, ?_⟩
  rintro m σ' H' ⟨δ', w', S', pv, s1, hE1, W1⟩
  refine turn m δ' w' pv F σ' S' H' _ hE1 W1 ((hX σ').mono s1) fun b w1 S1 H1 k s2 W2 => ?_
  have ss := s1.trans s2
  cases b with
  | false =>
    rw [if_neg Bool.false_ne_true] at k ⊢
    exact hK.nx δ' w1 σ' S1 H1 k ss (hE1.mono s2) W2
  | true =>
    rw [if_pos rfl] at k ⊢
    refine ⟨fun σ2 H2 => ∃ m', m' < m ∧ ∃ δ2 w2 S2, Pv m' δ2 w2 ∧ Same S S2 ∧ EnvD X.K S2 δ2 σ2 ∧ World X.K T S2 w2 F H2, fun σ2 H2 z => z, ?_⟩
    refine k F σ' S1 H1 _ (hE1.mono s2) W2 (hX.mono ss) ⟨?_, hK.rt.mono ss, hK.nx.mono ss, ?_⟩
    · rintro δ2 w2 σ2 S2 H2 ⟨m', l, pv2⟩ s3 hE3 W3
      exact ⟨m', l, δ2, w2, S2, pv2, ss.trans s3, hE3, W3⟩
    · rintro δ2 w2 σ2 S2 H2 ⟨m', l, pv2⟩ s3 hE3 W3
      exact ⟨m', l, δ2, w2, S2, pv2, ss.trans s3, hE3, W3⟩
end
end DL

set_option Elab.async false
set_option linter.all false
set_option maxRecDepth 100000
set_option maxHeartbeats 2000000
/-! Texts in data: +, parts, signs, join, split; str of ints, lists, own instances; items of lists of texts. -/
namespace DL
open PySem PySem.Spec PyProof.Rows L2 LamX
section
variable {K : PySem.W.Frag} {T : List (Addr × Str)} {w : Wp} {κ : D → Wp → Prop}
theorem vr_addS {a b : Str} (hz : a.length + b.length ≤ sizeLine) (k : κ (DL.T (a ++ b)) w) : VR2 K T (fun x y H Q => ∃ i j, x = .str i ∧ y = .str j ∧ i.length + j.length ≤ sizeLine ∧ Q (.str (i ++ j)) H) (DL.T a) (DL.T b) w κ := fun F S H x y Q hW r1 r2 hK => ⟨a, b, r1, r2, hz, hK _ w _ S H k (Same.refl _) hW rfl⟩
theorem vr_ixS {z : Str} {i : Nat} (hz : z.length ≤ sizeLine) (hi : i < z.length) (k : ∀ c, c ∈ z.cps.toList → κ (DL.T ⟨#[c]⟩) w) : VR2 K T rIxS (DL.T z) (I (i : Int)) w κ := fun F S H x y Q hW r1 r2 hK => by
  have hl : i < z.cps.toList.length := by
    rw [Array.length_toList]
    exact hi
  exact ⟨z, i, z.cps.toList[i], r1, r2, hz, atI_nat (List.getElem?_eq_getElem hl), hK _ w _ S H (k _ (List.getElem_mem hl)) (Same.refl _) hW rfl⟩
theorem va_strI {i : Int} (hz : i.natAbs.log2 < 1920) (k : κ (DL.T (toString i)) w) : VRA K T (fun xs H Q => ∃ i : Int, xs = [.int i] ∧ i.natAbs.log2 < 1920 ∧ Q (.str (toString i)) H) [I i] w κ := fun F S H xs Q hW r hK => by
  obtain ⟨y, ys, rfl, h1, h2⟩ := r
  have h1' : y = .int i := h1
  have h2' : ys = [] := h2
  subst h1' h2'
  exact ⟨i, rfl, hz, hK _ w _ S H k (Same.refl _) hW rfl⟩
theorem va_strL {ns : List Int} (h0 : ns ≠ []) (hb : ∀ n ∈ ns, n.natAbs.log2 < 1920) (hz : (lText ns).length ≤ sizeLine) (k : κ (DL.T (lText ns)) w) : VRA K T (rStrL K) [.lst (ns.map I)] w κ := fun F S H xs Q hW r hK => by
  obtain ⟨y, ys, rfl, h1, h2⟩ := r
  obtain ⟨a, zs, rfl, h3, h4⟩ := h1
  have h2' : ys = [] := h2
  have e := h4.ints
  subst h2' e
  exact ⟨a, ns, rfl, SqL.of (hW.same _ _ h3), h0, hb, hz, hK _ w _ S H k (Same.refl _) hW rfl⟩
theorem va_lenS {z : Str} (hz : z.length ≤ sizeLine) (k : κ (I (z.length : Int)) w) : VRA K T (fun xs H Q => ∃ x n, xs = [x] ∧ LenV K x H n ∧ Q (.int n) H) [DL.T z] w κ := fun F S H xs Q hW r hK => by
  obtain ⟨y, ys, rfl, h1, h2⟩ := r
  have h1' : y = .str z := h1
  have h2' : ys = [] := h2
  subst h1' h2'
  exact ⟨_, z.length, rfl, ⟨hz, rfl⟩, hK _ w _ S H k (Same.refl _) hW rfl⟩
/-- own str and repr, in data -/
theorem va_own1 {C : Addr} {sp : SpD} {d : D} (hd : ∃ ns ds, d = .obj C ns ds) (h : sp [d] w (fun d' w' => ∃ z : Str, d' = DL.T z ∧ κ d' w') noX) :
    VRA K T (fun xs H Q => ∃ a dx fs, xs = [.ref a] ∧ H a = some (.ins C dx fs) ∧ spOf K T sp [.ref a] H (fun v H' => ∃ z : Str, v = .str z ∧ Q v H') E0) [d] w κ := fun F S H xs Q hW r1 hK => by
  obtain ⟨ns, ds, rfl⟩ := hd
  obtain ⟨y, zs, rfl, r2, r3⟩ := r1
  have r3' : zs = [] := r3
  subst r3'
  obtain ⟨a, dx, ys, rfl, h1, h2, h3⟩ := id r2
  refine ⟨a, dx, ys, rfl, hW.same _ _ h1, [.obj C ns ds], w, F, S, _, noX, h, ⟨_, _, rfl, r2, rfl⟩, hW, ?_, fun _ _ _ _ _ _ _ z => z.elim⟩
  rintro d' w' v S' H' ⟨z, rfl, k⟩ s1 W1 r
  have r' : v = .str z := r
  exact ⟨z, r', hK _ w' v S' H' k s1 W1 r⟩
/-- data of a list of texts -/
theorem RepL.txts {S : Hp} : ∀ {ns : List Str} {xs : List V}, RepL K S (ns.map DL.T) xs → xs = ns.map V.str
  | [], xs, h => h
  | n :: ns, xs, h => by
    obtain ⟨y, ys, rfl, h2, h3⟩ := h
    have h2' : y = V.str n := h2
    rw [h2', RepL.txts h3]
    rfl
theorem RepL.of_txts {S : Hp} : ∀ {ns : List Str}, RepL K S (ns.map DL.T) (ns.map V.str)
  | [] => rfl
  | n :: ns => ⟨V.str n, ns.map V.str, rfl, rfl, RepL.of_txts⟩
abbrev rJoin (K : PySem.W.Frag) : V → List V → Hp → VK → Prop := fun x xs H Q => ∃ a p, ∃ ys : List Str, x = .str a ∧ xs = [.ref p] ∧ (SqL K H p (ys.map V.str) ∨ SqT K H p (ys.map V.str)) ∧
    (ys.map (·.length)).sum + ys.length * a.length ≤ 16777216 ∧ Q (.str (Txt.join a ys)) H
theorem vm_join {a : Str} {ys : List Str} (hz : (ys.map (·.length)).sum + ys.length * a.length ≤ 16777216) (k : κ (DL.T (Txt.join a ys)) w) : VRM K T (rJoin K) (DL.T a) [.lst (ys.map DL.T)] w κ := fun F S H x xs Q hW r1 r2 hK => by
  obtain ⟨y, zs, rfl, h3, h4⟩ := r2
  obtain ⟨p, us, rfl, h5, h6⟩ := h3
  have h4' : zs = [] := h4
  have e := h6.txts
  subst h4' e
  exact ⟨a, p, ys, r1, rfl, .inl (SqL.of (hW.same _ _ h5)), hz, hK _ w _ S H k (Same.refl _) hW rfl⟩
theorem vm_joinO {a : Str} {l : Addr} {ys : List Str} (hw : w l = some (.lst (ys.map DL.T))) (hz : (ys.map (·.length)).sum + ys.length * a.length ≤ 16777216) (k : κ (DL.T (Txt.join a ys)) w) : VRM K T (rJoin K) (DL.T a) [R l] w κ := fun F S H x xs Q hW r1 r2 hK => by
  obtain ⟨y, zs, rfl, h3, h4⟩ := r2
  have h3' : y = .ref l := h3
  have h4' : zs = [] := h4
  subst h3' h4'
  obtain ⟨_, _, o, h1, h2⟩ := hW.own l _ hw
  obtain ⟨us, rfl, h6⟩ := h2
  have e := h6.txts
  subst e
  exact ⟨a, l, ys, r1, rfl, .inl (SqL.of h1), hz, hK _ w _ S H k (Same.refl _) hW rfl⟩
abbrev rSplit : V → List V → Hp → VK → Prop := fun x xs H Q => ∃ a b, x = .str a ∧ xs = [.str b] ∧ (b.length == 0) = false ∧ a.length + 2 ≤ sizeLine ∧ rNewStrs (Txt.split a b) H Q
theorem vm_split {a b : Str} (hb : (b.length == 0) = false) (hz : a.length + 2 ≤ sizeLine) (k : κ (.lst ((Txt.split a b).map DL.T)) w) : VRM K T rSplit (DL.T a) [DL.T b] w κ := fun F S H x xs Q hW r1 r2 hK => by
  obtain ⟨y, zs, rfl, h3, h4⟩ := r2
  have h3' : y = .str b := h3
  have h4' : zs = [] := h4
  subst h3' h4'
  refine ⟨a, b, r1, rfl, hb, hz, fun p hp => ?_⟩
  have s1 : Same S (upd S p (.lst ((Txt.split a b).map V.str))) := same_upd (hW.free hp).1
  exact hK _ w _ _ _ k s1 (hW.laid hp fun _ z => by cases z) ⟨p, _, rfl, upd_same, RepL.of_txts⟩
theorem vm_splitO {a b : Str} (hb : (b.length == 0) = false) (hz : a.length + 2 ≤ sizeLine) (k : ∀ l, w l = none → κ (R l) (wu w l (.lst ((Txt.split a b).map DL.T)))) : VRM K T rSplit (DL.T a) [DL.T b] w κ := fun F S H x xs Q hW r1 r2 hK => by
  obtain ⟨y, zs, rfl, h3, h4⟩ := r2
  have h3' : y = .str b := h3
  have h4' : zs = [] := h4
  subst h3' h4'
  refine ⟨a, b, r1, rfl, hb, hz, fun p hp => ?_⟩
  exact hK _ _ _ S _ (k p (hW.free hp).2.1) (Same.refl _) (hW.take hp ⟨_, rfl, RepL.of_txts⟩) rfl
theorem flat_strs : ∀ ys : List Str, (ys.map V.str).all flatV = true
  | [] => rfl
  | y :: ys => by
    rw [List.map_cons, List.all_cons, flat_strs ys]
    rfl
theorem inV_strs (y : Str) : ∀ ys : List Str, inV (.str y) (ys.map V.str) = decide (y ∈ ys)
  | [] => rfl
  | z :: zs => by
    have ih := inV_strs y zs
    unfold inV at ih ⊢
    rw [List.map_cons, List.any_cons, ih]
    have e : eqV (.str z) (.str y) = decide (z = y) := by
      show (z == y) = _
      by_cases h : z = y
      · rw [decide_eq_true h, h]
        exact beq_self_eq_true y
      · rw [decide_eq_false h]
        exact beq_eq_false_iff_ne.mpr h
    rw [e]
    by_cases h : z = y
    · rw [decide_eq_true h, decide_eq_true (p := y ∈ z :: zs) (by rw [h]; exact List.mem_cons_self ..)]
      rfl
    · rw [decide_eq_false h, Bool.false_or]
      refine decide_eq_decide.mpr ⟨fun q => List.mem_cons_of_mem _ q, fun q => ?_⟩
      cases q with
      | head => exact absurd rfl h
      | tail _ q => exact q
/-- a text among the items -/
theorem vr_inS {y : Str} {ys : List Str} (k : κ (B (decide (y ∈ ys))) w) : VR2 K T (rIn K false) (DL.T y) (.lst (ys.map DL.T)) w κ := fun F S H x z Q hW r1 r2 hK => by
  obtain ⟨p, us, rfl, h1, h2⟩ := r2
  have e := h2.txts
  have r1' : x = .str y := r1
  subst e r1'
  refine ⟨p, _, rfl, .inl (SqL.of (hW.same _ _ h1)), rfl, flat_strs ys, ?_⟩
  refine hK _ w _ S H k (Same.refl _) hW ?_
  show V.bl (inV (.str y) (ys.map V.str)) = .bl _
  rw [inV_strs]
theorem vr_ninS {y : Str} {ys : List Str} (k : κ (B (!decide (y ∈ ys))) w) : VR2 K T (rIn K true) (DL.T y) (.lst (ys.map DL.T)) w κ := fun F S H x z Q hW r1 r2 hK => by
  obtain ⟨p, us, rfl, h1, h2⟩ := r2
  have e := h2.txts
  have r1' : x = .str y := r1
  subst e r1'
  refine ⟨p, _, rfl, .inl (SqL.of (hW.same _ _ h1)), rfl, flat_strs ys, ?_⟩
  refine hK _ w _ S H k (Same.refl _) hW ?_
  show V.bl (!inV (.str y) (ys.map V.str)) = .bl _
  rw [inV_strs]
/-- an int among the items -/
theorem flat_ints : ∀ ys : List Int, (ys.map V.int).all flatV = true
  | [] => rfl
  | y :: ys => by
    rw [List.map_cons, List.all_cons, flat_ints ys]
    rfl
theorem inV_ints (y : Int) : ∀ ys : List Int, inV (.int y) (ys.map V.int) = decide (y ∈ ys)
  | [] => rfl
  | z :: zs => by
    have ih := inV_ints y zs
    unfold inV at ih ⊢
    rw [List.map_cons, List.any_cons, ih]
    have e : eqV (.int z) (.int y) = decide (z = y) := by
      show (z == y) = _
      by_cases h : z = y
      · rw [decide_eq_true h, h]
        exact beq_self_eq_true y
      · rw [decide_eq_false h]
        exact beq_eq_false_iff_ne.mpr h
    rw [e]
    by_cases h : z = y
    · rw [decide_eq_true h, decide_eq_true (p := y ∈ z :: zs) (by rw [h]; exact List.mem_cons_self ..)]
      rfl
    · rw [decide_eq_false h, Bool.false_or]
      refine decide_eq_decide.mpr ⟨fun q => List.mem_cons_of_mem _ q, fun q => ?_⟩
      cases q with
      | head => exact absurd rfl h
      | tail _ q => exact q
theorem vr_inI {y : Int} {ys : List Int} (k : κ (B (decide (y ∈ ys))) w) : VR2 K T (rIn K false) (I y) (.lst (ys.map I)) w κ := fun F S H x z Q hW r1 r2 hK => by
  obtain ⟨p, us, rfl, h1, h2⟩ := r2
  have e := h2.ints
  have r1' : x = .int y := r1
  subst e r1'
  refine ⟨p, _, rfl, .inl (SqL.of (hW.same _ _ h1)), rfl, flat_ints ys, ?_⟩
  refine hK _ w _ S H k (Same.refl _) hW ?_
  show V.bl (inV (.int y) (ys.map V.int)) = .bl _
  rw [inV_ints]
theorem idx_leS {x : Str} : ∀ {l : List Str} {m : Nat}, l[m]? = some x → l.idxOf x ≤ m
  | [], m, h => by simp at h
  | y :: l, 0, h => by
    have e : y = x := Option.some.inj h
    rw [e, List.idxOf_cons_self]
    exact Nat.le_refl _
  | y :: l, m + 1, h => by
    have ih := idx_leS (l := l) (m := m) h
    rw [List.idxOf_cons]
    cases (y == x) with
    | true => exact Nat.zero_le _
    | false => exact Nat.succ_le_succ ih
/-- names.index(word) -/
theorem vm_indexS {ns : List Str} {n : Str} (hm : n ∈ ns) (k : κ (I ((ns.idxOf n : Nat) : Int)) w) : VRM K T (rIndex K) (.lst (ns.map DL.T)) [DL.T n] w κ := fun F S H x xs Q hW r1 r2 hK => by
  obtain ⟨a, us, rfl, h1, h2⟩ := r1
  obtain ⟨y, zs, rfl, h3, h4⟩ := r2
  have h3' : y = .str n := h3
  have h4' : zs = [] := h4
  have e := h2.txts
  subst h3' h4' e
  have hi : ns.idxOf n < ns.length := List.idxOf_lt_length_of_mem hm
  refine ⟨a, _, .str n, ns.idxOf n, .str n, rfl, rfl, SqL.of (hW.same _ _ h1), rfl, flat_strs ns, ?_, ?_, ?_, hK _ w _ S H k (Same.refl _) hW rfl⟩
  · rw [List.getElem?_map, List.getElem?_eq_getElem hi, List.getElem_idxOf hi]
    rfl
  · exact beq_self_eq_true n
  · intro m z hlt hz
    rw [List.getElem?_map] at hz
    cases q : ns[m]? with
    | none =>
      rw [q] at hz
      cases hz
    | some u =>
      rw [q] at hz
      cases hz
      show (u == n) = false
      refine beq_eq_false_iff_ne.mpr fun z => ?_
      obtain ⟨hm2, em⟩ := List.getElem?_eq_some_iff.mp q
      have := idx_leS (l := ns) (m := m) (x := n) (by rw [q, z])
      omega
/-- sum(xs) -/
theorem va_sum {ns : List Int} (k : κ (I ns.sum) w) : VRA K T (rSum K) [.lst (ns.map I)] w κ := fun F S H xs Q hW r hK => by
  obtain ⟨y, ys, rfl, h1, h2⟩ := r
  obtain ⟨a, zs, rfl, h3, h4⟩ := h1
  have h2' : ys = [] := h2
  have e := h4.ints
  subst h2' e
  exact ⟨a, ns, rfl, SqL.of (hW.same _ _ h3), hK _ w _ S H k (Same.refl _) hW rfl⟩
end
section
variable {X : Cx} {T : List (Addr × Str)} {W : WX} {χ : XD} {δ : Dn} {w : Wp} {pos : Pos}
theorem cutS_len {z : Str} {lo hi : Option Int} : (cutS z lo hi).length = min (HT.sIx z.length z.length hi - HT.sIx z.length 0 lo) (z.length - HT.sIx z.length 0 lo) := by
  have e : z.cps.toList.length = z.length := Array.length_toList
  unfold cutS
  show (List.toArray _).size = _
  rw [List.size_toArray, List.length_take, List.length_drop, e]
theorem cutS_sub {z : Str} {lo hi : Option Int} : ∀ c ∈ (cutS z lo hi).cps.toList, c ∈ z.cps.toList := fun c h => by
  unfold cutS at h
  exact List.mem_of_mem_drop (List.mem_of_mem_take h)
theorem pd_slSTo {e hi : Expr} {p2 : Pos} {κ : D → Wp → Prop} (h : PD X T W χ e δ w fun d w1 => PD X T W χ hi δ w1 fun u w2 => ∃ (z : Str) (n : Nat), d = DL.T z ∧ u = I (n : Int) ∧ z.length ≤ sizeLine ∧ ∀ y : Str, y.length = min n z.length → (∀ c ∈ y.cps.toList, c ∈ z.cps.toList) → κ (DL.T y) w2) : PD X T W χ (.Subscript e (.Slice none (some hi) none p2) pos) δ w κ := fun F σ S H Q hE hW hX hK =>
  wp_pe (pe_slice sl_str (pe_wp e) po_none (po_some (pe_wp hi))) (by
    refine h F σ S H _ hE hW hX fun d w1 v S1 H1 k s1 W1 r => ?_
    refine k F σ S1 H1 _ (hE.mono s1) W1 (hX.mono s1) fun u w2 y S2 H2 k2 s2 W2 r2 => ?_
    obtain ⟨z, n, rfl, rfl, hz, k2⟩ := k2
    have r' : v = .str z := r
    have r2' : y = .int (n : Int) := r2
    subst r' r2'
    refine ⟨n, rfl, z, rfl, hz, hK _ w2 _ S2 H2 (k2 _ ?_ cutS_sub) (s1.trans s2) W2 rfl⟩
    rw [cutS_len, HT.sIx_nat, HT.sIx_none]
    omega)
theorem pd_slSFrom {e lo : Expr} {p2 : Pos} {κ : D → Wp → Prop} (h : PD X T W χ e δ w fun d w1 => PD X T W χ lo δ w1 fun u w2 => ∃ (z : Str) (n : Nat), d = DL.T z ∧ u = I (n : Int) ∧ z.length ≤ sizeLine ∧ ∀ y : Str, y.length = z.length - n → (∀ c ∈ y.cps.toList, c ∈ z.cps.toList) → κ (DL.T y) w2) : PD X T W χ (.Subscript e (.Slice (some lo) none none p2) pos) δ w κ := fun F σ S H Q hE hW hX hK =>
  wp_pe (pe_slice sl_str (pe_wp e) (po_some (pe_wp lo)) po_none) (by
    refine h F σ S H _ hE hW hX fun d w1 v S1 H1 k s1 W1 r => ?_
    refine k F σ S1 H1 _ (hE.mono s1) W1 (hX.mono s1) fun u w2 y S2 H2 k2 s2 W2 r2 => ?_
    obtain ⟨z, n, rfl, rfl, hz, k2⟩ := k2
    have r' : v = .str z := r
    have r2' : y = .int (n : Int) := r2
    subst r' r2'
    refine ⟨n, rfl, z, rfl, hz, hK _ w2 _ S2 H2 (k2 _ ?_ cutS_sub) (s1.trans s2) W2 rfl⟩
    rw [cutS_len, HT.sIx_nat, HT.sIx_none]
    omega)
theorem pd_slSMid {e lo hi : Expr} {p2 : Pos} {κ : D → Wp → Prop} (h : PD X T W χ e δ w fun d w1 => PD X T W χ lo δ w1 fun u w2 => ∃ m : Nat, u = I (m : Int) ∧ PD X T W χ hi δ w2 fun t w3 => ∃ (z : Str) (n : Nat), d = DL.T z ∧ t = I (n : Int) ∧ z.length ≤ sizeLine ∧ ∀ y : Str, y.length = min n z.length - min m z.length → (∀ c ∈ y.cps.toList, c ∈ z.cps.toList) → κ (DL.T y) w3) : PD X T W χ (.Subscript e (.Slice (some lo) (some hi) none p2) pos) δ w κ := fun F σ S H Q hE hW hX hK =>
  wp_pe (pe_slice sl_str (pe_wp e) (po_some (pe_wp lo)) (po_some (pe_wp hi))) (by
    refine h F σ S H _ hE hW hX fun d w1 v S1 H1 k s1 W1 r => ?_
    refine k F σ S1 H1 _ (hE.mono s1) W1 (hX.mono s1) fun u w2 y S2 H2 k2 s2 W2 r2 => ?_
    obtain ⟨m, rfl, k2⟩ := k2
    have r2' : y = .int (m : Int) := r2
    refine ⟨m, r2', ?_⟩
    refine k2 F σ S2 H2 _ (hE.mono (s1.trans s2)) W2 (hX.mono (s1.trans s2)) fun t w3 x S3 H3 k3 s3 W3 r3 => ?_
    obtain ⟨z, n, rfl, rfl, hz, k3⟩ := k3
    have r' : v = .str z := r
    have r3' : x = .int (n : Int) := r3
    subst r' r3'
    refine ⟨n, rfl, z, rfl, hz, hK _ w3 _ S3 H3 (k3 _ ?_ cutS_sub) (s1.trans (s2.trans s3)) W3 rfl⟩
    rw [cutS_len, HT.sIx_nat, HT.sIx_nat]
    omega)
end
end DL

set_option Elab.async false
set_option linter.all false
set_option maxRecDepth 100000
set_option maxHeartbeats 1000000
/-! a op b by an own method, both of one class. -/
namespace DL
open PySem PySem.Spec PyProof.Rows L2 LamX
section
variable {X : Cx}
def rBin (C : Addr) (sp : Sp) (E : XK) : R2 := fun x y H Q => ∃ a dx fs b dy gs, x = .ref a ∧ H a = some (.ins C dx fs) ∧ y = .ref b ∧ H b = some (.ins C dy gs) ∧ sp [x, y] H (fun v H' => ∃ p, v = .ref p ∧ Q v H') E
theorem op_bin {op : Operator} {C f : Addr} {fd : FuncData} {ps : List Str} {k : Nat} {sp : Sp} {CX : CXT} {E : XK} (G : FnOk X.prog X.w X.K X.mg X.base CX k f fd ps sp) (hr : Room k X.A) (hs : PySem.W.findIn X.K (.ref C) (PySem.dunder op.info.2) = some (some (.ref f))) (hf : PySem.W.isFn X.K (.ref f) = true) (hc : PySem.W.selfFirst X.K C = true) (hb : Binds X.K fd ps [])
    (hx : ∀ σ, PassesAt CX X σ E) : OpR X (binaryOp op) (rBin C sp E) := by
  intro pins s σ H x y v u Q I rx ry h
  obtain ⟨a, dx, fs, b, dy, gs, rfl, ha, rfl, hbb, hsp⟩ := h
  cases rx
  cases ry
  obtain ⟨mA, J, _⟩ := ins_get I.hok ha
  obtain ⟨od, J, _⟩ := J.look
  obtain ⟨mB, J2, _⟩ := ins_get I.hok hbb
  obtain ⟨od2, J2, _⟩ := J2.look
  obtain ⟨m, hF⟩ := I.fr
  show wpAny (model X.prog X.w) X.A (binaryOp op (.ref a) (.ref b)) (EP X pins σ Q) X.xe s
  refine PySem.W.binop_K hF I.ok.mod.kin J J2.type hc hs hf ?_
  have r2 : Vals [V.ref a, V.ref b] [Value.ref a, Value.ref b] := .cons rfl (.cons rfl .nil)
  have q := run_fnSD (σ := σ) (E := fun _ => E) (dvs := []) (ds := []) G hr hb .nil (hx σ) I r2 (by rw [List.append_nil]; exact hsp)
  refine thn q fun r s' z => ?_
  obtain ⟨v', H', I', rv, ⟨p, rfl, q⟩⟩ := z
  cases rv
  exact ⟨.ref p, H', I', rfl, q⟩
variable {T : List (Addr × Str)} {χ : XD} {δ : Dn} {w : Wp} {pos : Pos}
theorem pd_bin {a b : Expr} {op : Operator} {C f : Addr} {fd : FuncData} {ps : List Str} {k : Nat} {sp : SpD} {CX : CXT} {E : XK} {κ : D → Wp → Prop} (G : FnOk X.prog X.w X.K X.mg X.base CX k f fd ps (spOf X.K T sp)) (hr : Room k X.A) (hs : PySem.W.findIn X.K (.ref C) (PySem.dunder op.info.2) = some (some (.ref f))) (hf : PySem.W.isFn X.K (.ref f) = true) (hc : PySem.W.selfFirst X.K C = true) (hb : Binds X.K fd ps [])
    (hx : ∀ σ, PassesAt CX X σ E) (h : PD X T (fun cls d _ H => E cls d H) χ a δ w fun d w1 => PD X T (fun cls d _ H => E cls d H) χ b δ w1 fun e w2 => (∃ ns ds, d = .obj C ns ds) ∧ (∃ ns ds, e = .obj C ns ds) ∧ sp [d, e] w2 (fun d' w' => (∃ C' ns ds, d' = .obj C' ns ds) ∧ κ d' w') χ) :
    PD X T (fun cls d _ H => E cls d H) χ (.BinOp a op b pos) δ w κ := fun F σ S H Q hE hW hX hK => wp_pe (pe_op (op_bin G hr hs hf hc hb hx) (pe_wp a) (pe_wp b)) (by
  refine h F σ S H _ hE hW hX fun d w1 v S1 H1 k s1 W1 r1 => ?_
  refine k F σ S1 H1 _ (hE.mono s1) W1 (hX.mono s1) fun e w2 u S2 H2 k2 s2 W2 r2 => ?_
  obtain ⟨⟨ns, ds, rfl⟩, ⟨ms, es, rfl⟩, k2⟩ := k2
  have r1 := r1.mono s2
  have r1' := r1
  have r2' := r2
  obtain ⟨p, dx, ys, rfl, h1, _, _⟩ := r1'
  obtain ⟨q, dy, zs, rfl, h2, _, _⟩ := r2'
  refine ⟨p, dx, ys, q, dy, zs, rfl, W2.same _ _ h1, rfl, W2.same _ _ h2, ?_⟩
  refine ⟨[_, _], w2, F, S2, _, χ, k2, ⟨_, _, rfl, r1, _, [], rfl, r2, rfl⟩, W2, fun d' w' v' S' H' kk s' W' r' => ?_, fun C ns fs w' d S' H' x s3 W3 xr => hX C ns fs w' d S' H' x (s1.trans (s2.trans s3)) W3 xr⟩
  obtain ⟨⟨C', ns', ds', rfl⟩, kk⟩ := kk
  have r3 := r'
  obtain ⟨p', _, _, rfl, _⟩ := r3
  exact ⟨p', rfl, hK _ w' _ S' H' kk (s1.trans (s2.trans s')) W' r'⟩)
end
end DL

set_option Elab.async false
set_option linter.all false
set_option maxRecDepth 100000
set_option maxHeartbeats 1000000
/-! Dicts that stand: made by a comprehension, read by a key; ranges from their end. -/
namespace DL
open PySem PySem.Spec PyProof.Rows L2 LamX
section
variable {X : Cx} {T : List (Addr × Str)} {W : WX} {χ : XD} {δ : Dn} {w : Wp} {pos : Pos}
def downs (n : Nat) : List D := (List.range n).map fun (k : Nat) => I (((n - 1 - k : Nat)) : Int)
theorem downs_len (n : Nat) : (downs n).length = n := by unfold downs; rw [List.length_map, List.length_range]
theorem downs_at {n i : Nat} {d : D} (h : (downs n)[i]? = some d) : i < n ∧ d = I (((n - 1 - i : Nat)) : Int) := by
  unfold downs at h
  rw [List.getElem?_map] at h
  by_cases hi : i < n
  · rw [List.getElem?_range hi] at h
    exact ⟨hi, (Option.some.inj h).symm⟩
  · rw [List.getElem?_eq_none (by simpa using hi)] at h
    cases h
/-- reversed(range(n)) -/
theorem it_revR {tg e : Expr} {p p2 pos2 : Pos} {κ : List D → Wp → Prop} (hm : X.mg "reversed" = none) (hm2 : X.mg "range" = none) (h : PD X T W χ e δ w fun d w1 => ∃ n : Nat, d = I (n : Int) ∧ (n : Int) < 2 ^ 62 ∧ κ (downs n) w1)
    (hg : Gl X "reversed" := by rfl) (hg2 : Gl X "range" := by rfl) (he : starEach [e] X.env = (false, eval e X.env) :: starEach [] X.env := by rfl)
    (he2 : starEach [.Call (.Name "range" p2) [e] [] pos2] X.env = (false, eval (.Call (.Name "range" p2) [e] [] pos2) X.env) :: starEach [] X.env := by rfl) :
    IterD X T W χ tg (.Call (.Name "reversed" p) [.Call (.Name "range" p2) [e] [] pos2] [] pos) δ w κ :=
  ⟨_, pi_revR hg hm (prg_1 hg2 hm2 (pe_wp e) he) he2, fun F σ S H R hE hW hX hK => by
    refine h F σ S H _ hE hW hX fun d w1 v S1 H1 k s1 W1 r => ?_
    obtain ⟨n, rfl, hn, k⟩ := k
    have r' : v = .int (n : Int) := r
    refine ⟨n, r', by decide, by decide, by omega, hn, ?_⟩
    have en : (((n : Int)) - 0).toNat = n := by omega
    rw [en]
    have ww := walk_rangeC (lo := (0 : Int) + ((n : Nat) : Int) - 1) (c := -1) (n := n)
    refine hK (downs n) w1 S1 H1 _ _ _ k s1 W1 (by rw [downs_len]; exact ww) (fun S2 w2 F2 H2 s2 W2 => True.intro) fun i d S2 w2 F2 H2 x H3 hd s2 W2 y => ?_
    obtain ⟨rfl, hx⟩ := y
    obtain ⟨hi, rfl⟩ := downs_at hd
    refine ⟨S2, Same.refl _, W2, ?_⟩
    show x = .int ((n - 1 - i : Nat) : Int)
    rw [hx]
    show V.int (0 + (n : Int) - 1 + (i : Int) * (-1)) = _
    congr 1
    omega⟩
/-- d[k] -/
theorem pd_dget {o i : Expr} {κ : D → Wp → Prop} (hu : X.A.units + 1 < cLine) (h : PD X T W χ o δ w fun d w1 => PD X T W χ i δ w1 fun e w2 => ∃ kvs k v, d = .dic kvs ∧ e = .val (kV k) ∧ valV kvs k = some v ∧ κ (.val v) w2)
    (hs : NoSl i := by exact fun _ _ => rfl) : PD X T W χ (.Subscript o i pos) δ w κ := fun F σ S H Q hE hW hX hK =>
  wp_pe (pe_dget hu (pe_wp o) (pe_wp i) hs) (by
    refine h F σ S H _ hE hW hX fun d w1 x S1 H1 k s1 W1 r1 => ?_
    refine k F σ S1 H1 _ (hE.mono s1) W1 (hX.mono s1) fun e w2 y S2 H2 k2 s2 W2 r2 => ?_
    obtain ⟨kvs, ky, v, rfl, rfl, hv, k2⟩ := k2
    obtain ⟨a, rfl, ha⟩ := r1
    have r2' : y = kV ky := r2
    subst r2'
    refine ⟨a, v, rfl, .inl ⟨kvs, ky, .inl (W2.same _ _ (s2 _ _ ha)), rfl, hv.symm⟩, ?_⟩
    exact hK _ w2 _ S2 H2 k2 (s1.trans s2) W2 rfl)
/-- the turns of a dict's comprehension over what is walked -/
theorem dc_turns {J : It} {n : Nat} {G : Hp → Prop} {Y : Nat → Hp → V → Hp → Prop} (w : Walk J n G Y) {g : TG} {tt : TT} {tk tv : TE} {vs : List Nat} {σ : L2.St} {H1 : Hp} {L : Addr} {Qd : Hp → Prop} (Pv : Nat → Hp → Prop)
    (h0 : Pv 0 (upd H1 L (.dK []))) (hG : ∀ i H, i ≤ n → Pv i H → G H)
    (hs : ∀ i x H H', i < n → Pv i H → Y i H x H' → g x (L2.wipe σ vs) H' fun σ2 H2 => L2.wipe σ2 vs = L2.wipe σ vs ∧ tt σ2 H2 fun b H3 =>
      if b = true then tk σ2 H3 fun y H4 => tv σ2 H4 fun z H5 => ∃ kvs k, y = kV k ∧ H5 L = some (.dK kvs) ∧ kvs.length < sizeLine ∧ Pv (i + 1) (upd H5 L (.dK (putK kvs k z))) else Pv (i + 1) H3)
    (hd : ∀ H, Pv n H → Qd H) : ∃ W : Nat → Nat → Hp → Prop, (∃ m, W 0 m (upd H1 L (.dK []))) ∧ ∀ i m H, W i m H →
      (J.stop i H ∧ Qd H) ∨ (J.go i H ∧ ∃ Nx : Hp → Prop, (∀ H', Nx H' → ∃ m', m' < m ∧ W (i + 1) m' H') ∧ ∀ x H', J.yld i H x H' → g x (L2.wipe σ vs) H' fun σ2 H2 => L2.wipe σ2 vs = L2.wipe σ vs ∧ tt σ2 H2 fun b H3 =>
        if b = true then tk σ2 H3 fun y H4 => tv σ2 H4 fun z H5 => ∃ kvs k, y = kV k ∧ H5 L = some (.dK kvs) ∧ kvs.length < sizeLine ∧ Nx (upd H5 L (.dK (putK kvs k z))) else Nx H3) :=
  ⟨fun i m H => m = n - i ∧ i ≤ n ∧ Pv i H, ⟨n, rfl, Nat.zero_le _, h0⟩, by
    intro i m H h
    obtain ⟨hm, hi, p⟩ := h
    have gg := hG i H hi p
    cases Nat.lt_or_ge i n with
    | inl hlt =>
      exact Or.inr ⟨w.goes i H hlt gg, Pv (i + 1), (fun H' p' => ⟨n - (i + 1), (by omega), rfl, hlt, p'⟩), fun x H' y => hs i x H H' hlt p (w.yields i H x H' hlt gg y)⟩
    | inr hge =>
      obtain rfl : i = n := Nat.le_antisymm hi hge
      exact Or.inl ⟨w.stops H gg, hd H p⟩⟩
/-- what a dict's comprehension (without a test) asks -/
def DcD (X : Cx) (T : List (Addr × Str)) (is : List Nat) (tg kx vx : Expr) (scope : Scope) (vs : List Nat) (δ : Dn) (κ : List (Key × V) → Wp → Prop) (ds : List D) (w1 : Wp) : Prop :=
  ds.length < sizeLine ∧ ∃ Pv : Nat → List (Key × V) → Wp → Prop, Pv 0 [] w1 ∧
    (∀ (i : Nat) (d : D) acc w', ds[i]? = some d → Pv i acc w' → ∀ s H0 C cl fp, PGL (bx X s H0 scope cl C fp) T is tg d (wipeD δ vs) w' fun δ2 w2 => ∀ s H0 C cl fp, PD (bx X s H0 scope cl C fp) T Wf noX kx δ2 w2 fun kd w3 =>
      ∀ s H0 C cl fp, PD (bx X s H0 scope cl C fp) T Wf noX vx δ2 w3 fun vd w4 => ∃ k v, kd = .val (kV k) ∧ vd = .val v ∧ Pv (i + 1) (putK acc k v) w4) ∧
    ∀ acc w', Pv ds.length acc w' → κ acc w'
theorem ptsx_nil {scope : Scope} (s : Shared) (H : Hp) (C : Addr) (cl : List (Str × Addr)) (fp : List Addr) : PTs (X.blk s H scope (compEnvC scope cl C X.env) fp) [] (fun σ H Q => Q true H) := pts_nil
theorem pd_dc {kx vx tg iter : Expr} {scope : Scope} (own : List (Str × Nat)) (is : List Nat) {κ : D → Wp → Prop} (hc : X.calm = true) (hN : X.N.Nodup) (ok : BlkOk X.N X.env.scope scope own) (hsub : ∀ i ∈ is, i ∈ own.map (·.2))
    (h : IterD X T W χ tg iter δ w (DcD X T is tg kx vx scope (own.map (·.2)) δ (fun acc w' => κ (.dic acc) w'))) (hs : ∀ x, foldedSetIterable iter X.env x = pure x := by intro _; rfl) : PD X T W χ (.DictComp kx vx [⟨tg, iter, [], 0⟩] scope pos) δ w κ := fun F σ S H Q hE hW hX hK => by
  obtain ⟨wi, hi, h⟩ := h
  refine wp_pe (pe_dc hc hN hi ok pg_bx ptsx_nil pe_bx pe_bx hs) ?_
  refine h F σ S H _ hE hW hX fun ds w1 S1 H1 J G Y k s1 W1 ww hG hY L nL => ?_
  obtain ⟨hz, Pv, p0, turn, done⟩ := k
  have fL : F L = none := (W1.free nL).2.2
  refine dc_turns ww (g := lcG X scope tg) (tt := fun σ H Q => Q true H) (tk := lcE X scope kx) (tv := lcE X scope vx) (vs := own.map (·.2)) (σ := σ) (H1 := H1) (L := L) (Qd := fun H => Q (.ref L) H) (fun i H' => ∃ acc w' S', Pv i acc w' ∧ acc.length ≤ i ∧ Same S1 S' ∧ World X.K T S' w' (upd F L (.dK acc)) H') ?_ (fun i H' _ ⟨acc, w', S', _, _, s2, W2⟩ => hG S' w' _ H' s2 W2) ?_ ?_
  · exact ⟨[], w1, S1, p0, Nat.le_refl _, Same.refl _, W1.takeF nL (fun _ z => by cases z)⟩
  · rintro i x H' H3 hi ⟨acc, w', S', pv, hacc, s2, W2⟩ y
    obtain ⟨S3, s3, W3, r⟩ := hY i ds[i] S' w' _ H' x H3 (List.getElem?_eq_getElem hi) s2 W2 y
    intro s H0 C cl fp
    refine turn i ds[i] acc w' (List.getElem?_eq_getElem hi) pv s H0 C cl fp (upd F L (.dK acc)) x (L2.wipe σ (own.map (·.2))) S3 H3 _ r ((hE.mono (s1.trans (s2.trans s3))).wipe _) W3 fun δ2 w2 σ2 S4 H4 k s4 hE4 W4 o4 l4 => ?_
    refine ⟨?_, ?_⟩
    · rw [wipe_eq (σ1 := L2.wipe σ (own.map (·.2))) (σ2 := σ2) l4 fun j hj => o4 j fun z => hj (hsub j z)]
      exact wipe_eq (L2.wipe_length σ _) fun j hj => L2.wipe_out hj
    · show (if true = true then _ else _)
      rw [if_pos rfl]
      intro s H0 C cl fp
      refine k s H0 C cl fp (upd F L (.dK acc)) σ2 S4 H4 _ hE4 W4 exf fun kd w5 y5 S5 H5 k5 s5 W5 r5 => ?_
      intro s H0 C cl fp
      refine k5 s H0 C cl fp (upd F L (.dK acc)) σ2 S5 H5 _ (hE4.mono s5) W5 exf fun vd w6 z6 S6 H6 k6 s6 W6 r6 => ?_
      obtain ⟨ky, v, rfl, rfl, k6⟩ := k6
      have r5' : y5 = kV ky := r5
      have r6' : z6 = v := r6
      subst r5' r6'
      refine ⟨acc, ky, rfl, (W6.frm L _ upd_same).2, by omega, putK acc ky z6, w6, S6, k6, ?_, s2.trans (s3.trans (s4.trans (s5.trans s6))), ?_⟩
      · have := length_putK acc ky z6
        omega
      · have W7 := W6.putF (o := .dK (putK acc ky z6)) upd_same (fun _ z => by cases z) (fun _ z => by cases z) (fun _ z => by cases z)
        rw [upd_upd] at W7
        exact W7
  · rintro H' ⟨acc, w', S', pv, hacc, s2, W2⟩
    obtain ⟨e1, W3⟩ := W2.freezeF fL fun _ z => by cases z
    have s3 : Same S' (upd S' L (.dK acc)) := same_upd e1
    exact hK _ w' _ _ H' (done acc w' pv) (s1.trans (s2.trans s3)) W3 ⟨L, rfl, upd_same⟩
end
end DL

set_option Elab.async false
set_option linter.all false
set_option maxRecDepth 100000
set_option maxHeartbeats 1000000
/-! Dicts whose keys are tuples: made by a comprehension without a test, read by a key. -/
namespace DL
open PySem PySem.Spec PyProof.Rows L2 LamX
section
variable {X : Cx}
/-- the store of one pair, the key a tuple -/
theorem store_tk {pins : List (Addr × Obj)} {σ : L2.St} {H : Hp} {s : Shared} {E : Value → Shared → Prop} {L b : Addr} {kvs : List (List Key × V)} {ks : List Key} {z : V} {r : Value} {Q : Unit → Shared → Prop} (room : X.A.units < cLine) (I : Inv X pins σ H s)
    (atL : H L = some (.dT kvs)) (atb : H b = some (.tup (ks.map kV))) (few : kvs.length < sizeLine) (rz : RelV z r) (go : ∀ s', Inv X pins σ (upd H L (.dT (putK kvs ks z))) s' → Q () s') : wpAny (model X.prog X.w) X.A (dictSet L (.ref b) r) Q E s := by
  obtain ⟨c1, c2, xs, rel, dd⟩ := dt_of I.hok atL
  have c3 : xs.length ≤ sizeLine := (Paired.length rel).symm ▸ c1
  have c4 := length_putK kvs ks z
  refine wpAny_dictSet_heap (hsz := c3) (show (tupleKind (mixKind X.prog X.w)).room X.A from room) (key_of I.hok atb) dd (fun h' dd' sb => go _ ?_)
  obtain ⟨ob, es, ep, g1, g2, g3, g4, _, g5⟩ := dd'
  refine d_write I (by rw [atL]; exact True.intro) sb ⟨ob, g1⟩ ⟨by omega, c2, _, (rel.put ks atb rz).keeps (fun c ys ec => ?_), ob, es, ep, g1, g2, g3, g4, g5⟩
  rw [upd_ne (ne_of ec atL (fun q => nomatch q))]
  exact ec
def tDcT (wi : TI) (g : TG) (tk tv : TE) (vs : List Nat) : TE := fun σ H Q => wi σ H fun J H1 => ∀ L, H1 L = none → ∃ Wt : Nat → Nat → Hp → Prop, (∃ m, Wt 0 m (upd H1 L (.dT []))) ∧ ∀ i m Hi, Wt i m Hi →
  (J.stop i Hi ∧ Q (.ref L) Hi) ∨ (J.go i Hi ∧ ∃ Nx : Hp → Prop, (∀ Hn, Nx Hn → ∃ m', m' < m ∧ Wt (i + 1) m' Hn) ∧ ∀ x Hy, J.yld i Hi x Hy → g x (L2.wipe σ vs) Hy fun σ2 H2 => L2.wipe σ2 vs = L2.wipe σ vs ∧
    tk σ2 H2 fun y H4 => tv σ2 H4 fun z H5 => ∃ kvs ks b, y = .ref b ∧ H5 b = some (.tup (ks.map kV)) ∧ H5 L = some (.dT kvs) ∧ kvs.length < sizeLine ∧ Nx (upd H5 L (.dT (putK kvs ks z))))
theorem pe_dcT {kx vx tg iter : Expr} {scope : Scope} {own : List (Str × Nat)} {pos : Pos} {wi : TI} {g : TG} {tk tv : TE} (room : X.A.units < cLine) (hc : X.calm = true) (hN : X.N.Nodup) (hi : PI X tg iter wi) (ok : BlkOk X.N X.env.scope scope own)
    (pg0 : ∀ (s : Shared) (H : Hp) (C : Addr) (cl : List (Str × Addr)) (fp : List Addr), PG (X.blk s H scope (compEnvC scope cl C X.env) fp) tg g)
    (pk0 : ∀ (s : Shared) (H : Hp) (C : Addr) (cl : List (Str × Addr)) (fp : List Addr), PE (X.blk s H scope (compEnvC scope cl C X.env) fp) kx tk)
    (pv0 : ∀ (s : Shared) (H : Hp) (C : Addr) (cl : List (Str × Addr)) (fp : List Addr), PE (X.blk s H scope (compEnvC scope cl C X.env) fp) vx tv) (hs : ∀ x, foldedSetIterable iter X.env x = pure x := by intro _; rfl) :
    PE X (.DictComp kx vx [⟨tg, iter, [], 0⟩] scope pos) (tDcT wi g tk tv (own.map (·.2))) := ⟨fun pins s σ H Q I q0 => by
  rw [arm_eval_DictComp]
  have closes : ∀ y ∈ scope.names, y.2 = .free → ∃ c, X.env.cells.lookup y.1 = some c := by
    intro y hy e
    cases ok.free y hy e with
    | inl k => exact I.ok.has _ (Or.inl k)
    | inr k => exact I.ok.has _ (Or.inr k)
  refine wpAny_comprehension_free (use := none) rfl hs (closure_ok closes) ok.kind (fun y hy e => (ok.uniq y hy).trans (congrArg some e)) ?_
  refine thn (hi.run pins s σ H _ I q0) (fun xv sa hx => thn hx (fun itv sb hb => ?_))
  obtain ⟨it, fp, tn, J, Hb, rfl, Ib, Tr, at0, fpb, q1⟩ := hb
  refine wpAny_newObj_type (newEnv_comp ?_)
  generalize eL : sb.heap.objs.size = L
  have freeL : Hb L = none := Ib.hok.fresh (Nat.le_of_eq eL)
  obtain ⟨Wt, ⟨m0, w0⟩, turns⟩ := q1 L freeL
  generalize esc : ({ sb with heap := sb.heap.push { cls := .type "dict", data := .dict #[] } } : Shared) = sc
  have hsc : sc.heap = sb.heap.push { cls := .type "dict", data := .dict #[] } := esc ▸ rfl
  have Ic : Inv X pins σ (upd Hb L (.dT [])) sc := by
    subst esc
    subst eL
    exact Ib.laid (t' := sb.toks) (fun b o e => Heap.get?_push_of_some _ e) (Nat.le_refl _) (dt_empty sb.heap Ib.big)
  have below : ∀ b ∈ fp, b < sb.heap.objs.size := by
    intro b hb
    obtain ⟨o, e, _⟩ := Tr.obj _ _ at0 b hb
    exact Heap.lt_size e
  have fpc : ∀ b ∈ fp, FpOk X pins (upd Hb L (.dT [])) b ∧ b < sc.heap.objs.size := by
    intro b hb
    have lt := below b hb
    refine ⟨⟨?_, (fpb b hb).2⟩, ?_⟩
    · rw [upd_ne (eL ▸ Nat.ne_of_lt lt)]
      exact (fpb b hb).1
    · rw [hsc, Heap.size_push]
      exact Nat.lt_succ_of_lt lt
  have at1 : tn 0 sc.heap := Tr.keep _ _ _ at0 (fun b _ o e => hsc ▸ Heap.get?_push_of_some _ e)
  have Id := block_start Ic ok hN fpc
  generalize ecl : cellsFrom (sc.heap.objs.size + 1) scope.names (cloFrom X.env.cells scope.names []) = cl at Id
  have pg := pg0 sc (upd Hb L (.dT [])) sc.heap.objs.size cl fp
  have pk := pk0 sc (upd Hb L (.dT [])) sc.heap.objs.size cl fp
  have pv := pv0 sc (upd Hb L (.dT [])) sc.heap.objs.size cl fp
  have nfp : ∀ b ∈ fp, (upd Hb L (.dT [])) b = none := fun b hb => (fpc b hb).1.1
  have goal : codeAny (model X.prog X.w) X.A (.compStart (.DictComp kx vx [⟨tg, iter, [], 0⟩] scope pos) 0 (.ref it) (.ref L) (compEnvC scope cl sc.heap.objs.size X.env)) (compPost (model X.prog X.w) X.A X.xe none (EP X pins σ Q) (.ref L) sc.heap.objs.size) { sc with heap := pushCells (sc.heap.push { cls := .type "dict", data := .dict #[] }) scope.names } := by
    generalize ece : compEnvC scope cl sc.heap.objs.size X.env = ce at Id pg pk pv ⊢
    have ceL : ce.locals = sc.heap.objs.size := ece ▸ rfl
    generalize eH : upd Hb L (.dT []) = Hc at Ic Id pg pk pv w0 nfp fpc
    generalize esd : ({ sc with heap := pushCells (sc.heap.push { cls := .type "dict", data := .dict #[] }) scope.names } : Shared) = sd at Id ⊢
    have at2 : tn 0 sd.heap := Tr.keep _ _ _ at1 (fun b _ o e => esd ▸ pushCells_keeps _ _ _ _ (Heap.get?_push_of_some _ e))
    have calmB : (X.blk sc Hc scope ce fp).calm = true := hc
    have fpB : ∀ {σ' : L2.St} {H' : Hp} {s' : Shared}, Inv (X.blk sc Hc scope ce fp) [] σ' H' s' → (∀ b ∈ fp, H' b = none) → ∀ b ∈ fp, FpOk (X.blk sc Hc scope ce fp) [] H' b := by
      intro σ' H' s' I' n' b hb
      refine ⟨n' b hb, (I'.ok.exf b hb).1, I'.ok.exfs b hb, .inl hb, (fun x c e => (I'.ok.exf b hb).2 x c e), ?_⟩
      intro p hp
      have hp' : p ∈ ([] : List (Addr × Obj)) ++ [] := hp
      simp at hp'
    refine codeAny_compStart_dict (rest := []) ?loop (Tr.self X.A 0 _ _ _ at2 ?loop)
    case loop =>
    refine compLoop_anyD (fun n s' => ∃ i H', Inv (X.blk sc Hc scope ce fp) [] (L2.wipe σ (own.map (·.2))) H' s' ∧ tn i s'.heap ∧ (∀ b ∈ fp, H' b = none) ∧ Wt i n H') ?_ m0 ⟨0, Hc, Id, at2, nfp, w0⟩
    rintro n se ⟨i, He, Ie, ate, ne, we⟩
    cases turns i n He we with
    | inl st =>
      obtain ⟨stop, qe⟩ := st
      refine thnF (Tr.done (X.blk sc Hc scope ce fp) rfl rfl rfl calmB i [] se _ He (fun _ _ => False) Ie (fpB Ie ne) ate stop) (fun r sf hr => ?_)
      obtain ⟨rfl, If⟩ := hr
      have Ig : Inv X pins σ He sf := by
        refine Ic.call' (ch := fp) If.os If.base If.hok If.bare (fun b hb => ?_)
        obtain ⟨⟨_, y1, y2, y3, y4, y5⟩, _⟩ := fpc b hb
        exact ⟨y3, y1, y4, y5⟩
      have nC : He sc.heap.objs.size = none := by
        have q := If.free
        exact ceL ▸ q
      obtain ⟨m, hn, _⟩ := If.loc
      have hn' : sf.heap.Ns sc.heap.objs.size m := by
        have q : sf.heap.Ns ce.locals m := hn
        exact ceL ▸ q
      refine ⟨m, hn', fun h'' sbb => ?_⟩
      obtain ⟨y0, y1, y2, y3, y4, y5⟩ := Ic.fpOk (Nat.le_refl _) nC
      exact ⟨.ref L, He, Ig.turned (t' := sf.toks) (fun b o hb e => (sbb.2 b hb).trans e) y0 y1 y3 y4 y5, rfl, qe⟩
    | inr gn =>
      obtain ⟨go, Nx, hNx, step⟩ := gn
      refine thnF (Tr.item (X.blk sc Hc scope ce fp) rfl rfl rfl calmB i [] se _ He (fun _ _ => False) Ie (fpB Ie ne) ate go) (fun r sf hr => ?_)
      obtain ⟨u, rfl, hu⟩ := hr
      refine thnF hu (fun _ sg hg => ?_)
      obtain ⟨x, Hg, Ig, rg, yg, atg, ng⟩ := hg
      have Ig' := Ig.pinned (fpB Ig ng) (Tr.obj _ _ atg)
      refine thnF (pg.run _ sg _ Hg x u _ Ig' rg (step x Hg yg)) (fun _ sh hh => ?_)
      obtain ⟨σ8, Hh, Ih, wh, qh⟩ := hh
      show wpAny _ _ (pure true) _ _ _
      refine wpAny_pure ?_
      rw [if_pos rfl]
      refine thnF (pk.run _ sh σ8 Hh _ Ih qh) (fun kv si hk => ?_)
      obtain ⟨yk, Hi, Ii, ri, qi⟩ := hk
      refine thnF (pv.run _ si σ8 Hi _ Ii qi) (fun vv sj hv => ?_)
      obtain ⟨yv, Hj, Ij, rj, kvs, ks, b, rfl, atb, atL, few, nx⟩ := hv
      obtain rfl : kv = Value.ref b := ri
      refine store_tk (X := X.blk sc Hc scope ce fp) room Ij atL atb few rj (fun sk Ik => ?_)
      obtain ⟨m', lt, wn⟩ := hNx _ nx
      have stay : ∀ c ∈ fp, ∀ o, sg.heap.get? c = some o → sk.heap.get? c = some o ∧ (upd Hj L (.dT (putK kvs ks yv))) c = none := by
        intro c hc' o e
        have z := Ik.pin (c, o) (List.mem_append_right _ (List.mem_append_right _ (mem_pinsAt hc' e)))
        exact ⟨z.1, z.2.1⟩
      have len : (L2.wipe σ (own.map (·.2))).length = σ8.length := wh ▸ L2.wipe_length σ8 _
      refine ⟨m', lt, i + 1, _, (Ik.unpinned (pins := [])).weak len (fun j v e => ?_), Tr.keep _ _ _ atg (fun c hc' o e => (stay c hc' o e).1), (fun c hc' => ?_), wn⟩
      · exact (wipe_some (wh ▸ e)).1
      · obtain ⟨o, e, _⟩ := Tr.obj _ _ atg c hc'
        exact (stay c hc' o e).2
  subst ecl
  exact goal⟩
end
section
variable {X : Cx} {T : List (Addr × Str)} {W : WX} {χ : XD} {δ : Dn} {w : Wp} {pos : Pos}
/-- d[k], k a tuple -/
theorem pd_dgetT {o i : Expr} {κ : D → Wp → Prop} (hu : X.A.units + 1 < cLine) (h : PD X T W χ o δ w fun d w1 => PD X T W χ i δ w1 fun e w2 => ∃ kvs ks v, d = .dct kvs ∧ e = .tup (ks.map fun k => .val (kV k)) ∧ valV kvs ks = some v ∧ κ (.val v) w2)
    (hs : NoSl i := by exact fun _ _ => rfl) : PD X T W χ (.Subscript o i pos) δ w κ := fun F σ S H Q hE hW hX hK =>
  wp_pe (pe_dget hu (pe_wp o) (pe_wp i) hs) (by
    refine h F σ S H _ hE hW hX fun d w1 x S1 H1 k s1 W1 r1 => ?_
    refine k F σ S1 H1 _ (hE.mono s1) W1 (hX.mono s1) fun e w2 y S2 H2 k2 s2 W2 r2 => ?_
    obtain ⟨kvs, ks, v, rfl, rfl, hv, k2⟩ := k2
    obtain ⟨a, rfl, ha⟩ := r1
    obtain ⟨b, xs, rfl, hb, hxs⟩ := r2
    have ex : xs = ks.map kV := by
      have e2 : (ks.map fun k => D.val (kV k)) = (ks.map kV).map D.val := by rw [List.map_map]; rfl
      rw [e2] at hxs
      exact hxs.vals
    subst ex
    refine ⟨a, v, rfl, .inr ⟨kvs, ks, b, .inl (W2.same _ _ (s2 _ _ ha)), rfl, W2.same _ _ hb, hv.symm⟩, ?_⟩
    exact hK _ w2 _ S2 H2 k2 (s1.trans s2) W2 rfl)
/-- what a dict's comprehension with tuples as keys asks -/
def DcDT (X : Cx) (T : List (Addr × Str)) (is : List Nat) (tg kx vx : Expr) (scope : Scope) (vs : List Nat) (δ : Dn) (κ : List (List Key × V) → Wp → Prop) (ds : List D) (w1 : Wp) : Prop :=
  ds.length < sizeLine ∧ ∃ Pv : Nat → List (List Key × V) → Wp → Prop, Pv 0 [] w1 ∧
    (∀ (i : Nat) (d : D) acc w', ds[i]? = some d → Pv i acc w' → ∀ s H0 C cl fp, PGL (bx X s H0 scope cl C fp) T is tg d (wipeD δ vs) w' fun δ2 w2 => ∀ s H0 C cl fp, PD (bx X s H0 scope cl C fp) T Wf noX kx δ2 w2 fun kd w3 =>
      ∀ s H0 C cl fp, PD (bx X s H0 scope cl C fp) T Wf noX vx δ2 w3 fun vd w4 => ∃ ks v, kd = .tup (ks.map fun k => .val (kV k)) ∧ vd = .val v ∧ Pv (i + 1) (putK acc ks v) w4) ∧
    ∀ acc w', Pv ds.length acc w' → κ acc w'
theorem pd_dcT {kx vx tg iter : Expr} {scope : Scope} (own : List (Str × Nat)) (is : List Nat) {κ : D → Wp → Prop} (room : X.A.units < cLine) (hc : X.calm = true) (hN : X.N.Nodup) (ok : BlkOk X.N X.env.scope scope own) (hsub : ∀ i ∈ is, i ∈ own.map (·.2))
    (h : IterD X T W χ tg iter δ w (DcDT X T is tg kx vx scope (own.map (·.2)) δ (fun acc w' => κ (.dct acc) w'))) (hs : ∀ x, foldedSetIterable iter X.env x = pure x := by intro _; rfl) : PD X T W χ (.DictComp kx vx [⟨tg, iter, [], 0⟩] scope pos) δ w κ := fun F σ S H Q hE hW hX hK => by
  obtain ⟨wi, hi, h⟩ := h
  refine wp_pe (pe_dcT room hc hN hi ok pg_bx pe_bx pe_bx hs) ?_
  refine h F σ S H _ hE hW hX fun ds w1 S1 H1 J G Y k s1 W1 ww hG hY L nL => ?_
  obtain ⟨hz, Pv, p0, turn, done⟩ := k
  have fL : F L = none := (W1.free nL).2.2
  refine ⟨fun i m Hi => m = ds.length - i ∧ i ≤ ds.length ∧ ∃ acc w' S', Pv i acc w' ∧ acc.length ≤ i ∧ Same S1 S' ∧ World X.K T S' w' (upd F L (.dT acc)) Hi, ⟨_, rfl, Nat.zero_le _, [], w1, S1, p0, Nat.le_refl _, Same.refl _, W1.takeF nL (fun _ z => by cases z)⟩, ?_⟩
  rintro i m H' ⟨rfl, hi, acc, w', S', pv, hacc, s2, W2⟩
  have gg := hG S' w' _ H' s2 W2
  cases Nat.lt_or_ge i ds.length with
  | inr ge =>
    obtain rfl : i = ds.length := Nat.le_antisymm hi ge
    refine .inl ⟨ww.stops H' gg, ?_⟩
    obtain ⟨e1, W3⟩ := W2.freezeF fL fun _ z => by cases z
    have s3 : Same S' (upd S' L (.dT acc)) := same_upd e1
    exact hK _ w' _ _ H' (done acc w' pv) (s1.trans (s2.trans s3)) W3 ⟨L, rfl, upd_same⟩
  | inl hlt =>
    refine .inr ⟨ww.goes i H' hlt gg, fun Hn => ∃ acc w' S', Pv (i + 1) acc w' ∧ acc.length ≤ i + 1 ∧ Same S1 S' ∧ World X.K T S' w' (upd F L (.dT acc)) Hn, fun Hn p => ⟨ds.length - (i + 1), by omega, rfl, hlt, p⟩, fun x H3 y => ?_⟩
    obtain ⟨S3, s3, W3, r⟩ := hY i ds[i] S' w' _ H' x H3 (List.getElem?_eq_getElem hlt) s2 W2 (ww.yields i H' x H3 hlt gg y)
    intro s H0 C cl fp
    refine turn i ds[i] acc w' (List.getElem?_eq_getElem hlt) pv s H0 C cl fp (upd F L (.dT acc)) x (L2.wipe σ (own.map (·.2))) S3 H3 _ r ((hE.mono (s1.trans (s2.trans s3))).wipe _) W3 fun δ2 w2 σ2 S4 H4 k s4 hE4 W4 o4 l4 => ?_
    refine ⟨?_, ?_⟩
    · rw [wipe_eq (σ1 := L2.wipe σ (own.map (·.2))) (σ2 := σ2) l4 fun j hj => o4 j fun z => hj (hsub j z)]
      exact wipe_eq (L2.wipe_length σ _) fun j hj => L2.wipe_out hj
    intro s H0 C cl fp
    refine k s H0 C cl fp (upd F L (.dT acc)) σ2 S4 H4 _ hE4 W4 exf fun kd w5 y5 S5 H5 k5 s5 W5 r5 => ?_
    intro s H0 C cl fp
    refine k5 s H0 C cl fp (upd F L (.dT acc)) σ2 S5 H5 _ (hE4.mono s5) W5 exf fun vd w6 z6 S6 H6 k6 s6 W6 r6 => ?_
    obtain ⟨ks, v, rfl, rfl, k6⟩ := k6
    obtain ⟨b, xs, rfl, hb, hxs⟩ := r5
    have ex : xs = ks.map kV := by
      have e2 : (ks.map fun k => D.val (kV k)) = (ks.map kV).map D.val := by rw [List.map_map]; rfl
      rw [e2] at hxs
      exact hxs.vals
    subst ex
    have r6' : z6 = v := r6
    subst r6'
    refine ⟨acc, ks, b, rfl, W6.same _ _ (s6 _ _ hb), (W6.frm L _ upd_same).2, by omega, putK acc ks z6, w6, S6, k6, ?_, s2.trans (s3.trans (s4.trans (s5.trans s6))), ?_⟩
    · have := length_putK acc ks z6
      omega
    · have W7 := W6.putF (o := .dT (putK acc ks z6)) upd_same (fun _ z => by cases z) (fun _ z => by cases z) (fun _ z => by cases z)
      rw [upd_upd] at W7
      exact W7
end
end DL

set_option Elab.async false
set_option linter.all false
set_option maxRecDepth 100000
set_option maxHeartbeats 2000000
/-! Comprehensions of two sources, the inner one a list. -/
namespace DL
open PySem PySem.Spec PyProof.Rows L2 LamX
section
variable {X : Cx} {T : List (Addr × Str)} {W : WX} {χ : XD} {δ : Dn} {w : Wp} {pos : Pos}
/-- the inner walk, from acc on -/
def InD (X : Cx) (T : List (Addr × Str)) (is1 : List Nat) (tg1 : Expr) (ifs1 : List Expr) (elt : Expr) (scope : Scope) (vs1 : List Nat) (δ2 : Dn) (acc : List D) (κ : List D → Wp → Prop) (es : List D) (w1 : Wp) : Prop :=
  ∃ Pv : Nat → List D → Wp → Prop, Pv 0 acc w1 ∧
    (∀ (j : Nat) (d : D) acc w', es[j]? = some d → Pv j acc w' → ∀ s H0 C cl fp, PGL (bx X s H0 scope cl C fp) T is1 tg1 d (wipeD δ2 vs1) w' fun δ3 w2 => ∀ s H0 C cl fp, PTsD (bx X s H0 scope cl C fp) T ifs1 δ3 w2 fun b w3 =>
      if b = true then acc.length < sizeLine ∧ ∀ s H0 C cl fp, PD (bx X s H0 scope cl C fp) T Wf noX elt δ3 w3 fun y w4 => Pv (j + 1) (acc ++ [y]) w4 else Pv (j + 1) acc w3) ∧
    ∀ acc w', Pv es.length acc w' → κ acc w'
/-- the outer walk -/
def Lc2D (X : Cx) (T : List (Addr × Str)) (is is1 : List Nat) (tg : Expr) (ifs : List Expr) (tg1 iter1 : Expr) (ifs1 : List Expr) (elt : Expr) (scope : Scope) (vs vs1 : List Nat) (δ : Dn) (κ : List D → Wp → Prop) (ds : List D) (w1 : Wp) : Prop :=
  ∃ Pv : Nat → List D → Wp → Prop, Pv 0 [] w1 ∧
    (∀ (i : Nat) (d : D) acc w', ds[i]? = some d → Pv i acc w' → ∀ s H0 C cl fp, PGL (bx X s H0 scope cl C fp) T is tg d (wipeD δ vs) w' fun δ2 w2 => ∀ s H0 C cl fp, PTsD (bx X s H0 scope cl C fp) T ifs δ2 w2 fun b w3 =>
      if b = true then ∀ s H0 C cl fp, PD (bx X s H0 scope cl C fp) T Wf noX iter1 δ2 w3 fun y w4 => ∃ es, y = .lst es ∧ InD X T is1 tg1 ifs1 elt scope vs1 δ2 acc (Pv (i + 1)) es w4 else Pv (i + 1) acc w3) ∧
    ∀ acc w', Pv ds.length acc w' → κ acc w'
theorem pd_lc2 {elt tg iter tg1 iter1 : Expr} {ifs ifs1 : List Expr} {scope : Scope} (own : List (Str × Nat)) (is is1 vs1 : List Nat) {κ : D → Wp → Prop} (hc : X.calm = true) (hN : X.N.Nodup) (ok : BlkOk X.N X.env.scope scope own) (hsub : ∀ i ∈ is, i ∈ own.map (·.2)) (hv : ∀ i ∈ vs1, i ∈ own.map (·.2)) (hsub1 : ∀ i ∈ is1, i ∈ vs1)
    (h : IterD X T W χ tg iter δ w (Lc2D X T is is1 tg ifs tg1 iter1 ifs1 elt scope (own.map (·.2)) vs1 δ (fun acc w' => κ (.lst acc) w'))) (hs : ∀ x, foldedSetIterable iter X.env x = pure x := by intro _; rfl) (hs1 : ∀ env x, foldedSetIterable iter1 env x = pure x := by intro _ _; rfl) : PD X T W χ (.ListComp elt [⟨tg, iter, ifs, 0⟩, ⟨tg1, iter1, ifs1, 0⟩] scope pos) δ w κ := fun F σ S H Q hE hW hX hK => by
  obtain ⟨wi, hi, h⟩ := h
  refine wp_pe (pe_lc2 hc hN hi ok hv pg_bx pt_bx (wi1 := iList X.K (lcE X scope iter1)) (fun s H C cl fp => pi_list (X := X.blk s H scope (compEnvC scope cl C X.env) fp) (pe_bx s H C cl fp)) pg_bx pt_bx pe_bx hs hs1) ?_
  refine h F σ S H _ hE hW hX fun ds w1 S1 H1 J G Y k s1 W1 ww hG hY L nL => ?_
  obtain ⟨Pv, p0, turn, done⟩ := k
  have fL : F L = none := (W1.free nL).2.2
  let P : Nat → Hp → Prop := fun i H' => ∃ acc w' S' xs, Pv i acc w' ∧ Same S1 S' ∧ World X.K T S' w' (upd F L (.lst xs)) H' ∧ RepL X.K S' acc xs
  refine ⟨fun i m H => m = ds.length - i ∧ i ≤ ds.length ∧ P i H, ⟨ds.length, rfl, Nat.zero_le _, [], w1, S1, [], p0, Same.refl _, W1.takeF nL (fun _ z => by cases z), rfl⟩, ?_⟩
  rintro i m H' ⟨hm, hi', acc, w', S', xs, pv, s2, W2, ra⟩
  have gg := hG S' w' _ H' s2 W2
  cases Nat.lt_or_ge i ds.length with
  | inr hge =>
    obtain rfl : i = ds.length := Nat.le_antisymm hi' hge
    exact Or.inl ⟨ww.stops H' gg, fin_stay hK L acc w' S' xs H' (done acc w' pv) (s1.trans s2) fL W2 ra⟩
  | inl hlt =>
    refine Or.inr ⟨ww.goes i H' hlt gg, P (i + 1), fun H2 p2 => ⟨ds.length - (i + 1), by omega, rfl, hlt, p2⟩, fun x H3 y => ?_⟩
    obtain ⟨S3, s3, W3, r⟩ := hY i ds[i] S' w' _ H' x H3 (List.getElem?_eq_getElem hlt) s2 W2 (ww.yields i H' x H3 hlt gg y)
    intro s H0 C cl fp
    refine turn i ds[i] acc w' (List.getElem?_eq_getElem hlt) pv s H0 C cl fp (upd F L (.lst xs)) x (L2.wipe σ (own.map (·.2))) S3 H3 _ r ((hE.mono (s1.trans (s2.trans s3))).wipe _) W3 fun δ2 w2 σ2 S4 H4 k s4 hE4 W4 o4 l4 => ?_
    refine ⟨?_, ?_⟩
    · rw [wipe_eq (σ1 := L2.wipe σ (own.map (·.2))) (σ2 := σ2) l4 fun j hj => o4 j fun z => hj (hsub j z)]
      exact wipe_eq (L2.wipe_length σ _) fun j hj => L2.wipe_out hj
    intro s H0 C cl fp
    refine k s H0 C cl fp (upd F L (.lst xs)) σ2 S4 H4 _ hE4 W4 fun b w5 S5 H5 k5 s5 W5 => ?_
    have s25 : Same S1 S5 := s2.trans (s3.trans (s4.trans s5))
    have ra5 : RepL X.K S5 acc xs := ra.mono (s3.trans (s4.trans s5))
    cases b with
    | false =>
      rw [if_neg Bool.false_ne_true] at k5 ⊢
      exact ⟨acc, w5, S5, xs, k5, s25, W5, ra5⟩
    | true =>
      rw [if_pos rfl] at k5 ⊢
      intro s H0 C cl fp
      refine k5 s H0 C cl fp (upd F L (.lst xs)) σ2 S5 H5 _ (hE4.mono s5) W5 exf fun d6 w6 v6 S6 H6 k6 s6 W6 r6 => ?_
      obtain ⟨es, rfl, Pv1, q0, turn1, done1⟩ := k6
      obtain ⟨a, zs, rfl, h1, h2⟩ := r6
      refine ⟨a, rfl, ⟨zs, SqL.of (W6.same _ _ h1)⟩, ?_⟩
      have w2' := walk_list (K := X.K) (a := a) (xs := zs)
      rw [h2.length] at w2'
      let P1 : Nat → Hp → Prop := fun j H' => ∃ acc w' S' xs, Pv1 j acc w' ∧ Same S6 S' ∧ World X.K T S' w' (upd F L (.lst xs)) H' ∧ RepL X.K S' acc xs
      refine ⟨fun j m H => m = es.length - j ∧ j ≤ es.length ∧ P1 j H, ⟨es.length, rfl, Nat.zero_le _, acc, w6, S6, xs, q0, Same.refl _, W6, ra5.mono s6⟩, ?_⟩
      rintro j m1 H7 ⟨hm1, hj, acc7, w7, S7, xs7, pv7, s7, W7, ra7⟩
      have g7 : SqL X.K H7 a zs := SqL.of (W7.same _ _ (s7 _ _ h1))
      cases Nat.lt_or_ge j es.length with
      | inr hge =>
        obtain rfl : j = es.length := Nat.le_antisymm hj hge
        exact Or.inl ⟨w2'.stops H7 g7, acc7, w7, S7, xs7, done1 acc7 w7 pv7, s25.trans (s6.trans s7), W7, ra7⟩
      | inl hlt1 =>
        refine Or.inr ⟨w2'.goes j H7 hlt1 g7, P1 (j + 1), fun H2 p2 => ⟨es.length - (j + 1), by omega, rfl, hlt1, p2⟩, fun x H8 y => ?_⟩
        obtain ⟨rfl, hx⟩ := w2'.yields j H7 x H8 hlt1 g7 y
        obtain ⟨v, h3, h4⟩ := h2.get (List.getElem?_eq_getElem hlt1)
        rw [hx] at h3
        cases h3
        intro s H0 C cl fp
        refine turn1 j es[j] acc7 w7 (List.getElem?_eq_getElem hlt1) pv7 s H0 C cl fp (upd F L (.lst xs7)) x (L2.wipe σ2 vs1) S7 H8 _ (h4.mono s7) ((hE4.mono (s5.trans (s6.trans s7))).wipe _) W7 fun δ3 w8 σ3 S8 H9 k8 s8 hE8 W8 o8 l8 => ?_
        refine ⟨?_, ?_⟩
        · rw [wipe_eq (σ1 := L2.wipe σ2 vs1) (σ2 := σ3) l8 fun j hj => o8 j fun z => hj (hsub1 j z)]
          exact wipe_eq (L2.wipe_length σ2 _) fun j hj => L2.wipe_out hj
        intro s H0 C cl fp
        refine k8 s H0 C cl fp (upd F L (.lst xs7)) σ3 S8 H9 _ hE8 W8 fun b w9 S9 H10 k9 s9 W9 => ?_
        cases b with
        | false =>
          rw [if_neg Bool.false_ne_true] at k9 ⊢
          exact ⟨acc7, w9, S9, xs7, k9, s7.trans (s8.trans s9), W9, ra7.mono (s8.trans s9)⟩
        | true =>
          rw [if_pos rfl] at k9 ⊢
          obtain ⟨hz, k9⟩ := k9
          intro s H0 C cl fp
          refine k9 s H0 C cl fp (upd F L (.lst xs7)) σ3 S9 H10 _ (hE8.mono s9) W9 exf fun d10 w10 v10 S10 H11 k10 s10 W10 r10 => ?_
          have ra10 := ra7.mono (s8.trans (s9.trans s10))
          refine ⟨xs7, (W10.frm L _ upd_same).2, by rw [ra10.length]; exact hz, acc7 ++ [d10], w10, S10, xs7 ++ [v10], k10, s7.trans (s8.trans (s9.trans s10)), ?_, ra10.app (RepL.one r10)⟩
          have W11 := W10.putF (o := .lst (xs7 ++ [v10])) upd_same (fun _ z => by cases z) (fun _ z => by cases z) (fun _ z => by cases z)
          rw [upd_upd] at W11
          exact W11
end
end DL

set_option Elab.async false
set_option linter.all false
set_option maxRecDepth 100000
set_option maxHeartbeats 2000000
/-! k05's Law0 without the bag. -/
namespace DL
open PySem PySem.Spec PyProof.Rows L2 LamX
section
variable {X : Cx} {T : List (Addr × Str)} {W : WX} {χ : XD} {δ : Dn} {w : Wp} {pos : Pos}
/-- an owned list whose first item is an owned list: both stand from now on -/
theorem pd_frz2 {e : Expr} {κ : D → Wp → Prop} (h : PD X T W χ e δ w fun d w1 => ∃ a a1 es ds, d = R a ∧ w1 a = some (.lst (R a1 :: ds)) ∧ w1 a1 = some (.lst es) ∧ a ≠ a1 ∧ κ (.lst (.lst es :: ds)) (wd (wd w1 a1) a)) : PD X T W χ e δ w κ := fun F σ S H Q hE hW hX hK =>
  h F σ S H Q hE hW hX fun d w1 v S1 H1 k s1 W1 r => by
    obtain ⟨a, a1, es, ds, rfl, hw, hw1, ne, k⟩ := k
    obtain ⟨o, e1, r1, W2⟩ := W1.freeze hw1
    obtain ⟨ys, rfl, r1⟩ := r1
    have hw2 : (wd w1 a1) a = some (.lst (R a1 :: ds)) := by
      show (if a = a1 then none else w1 a) = _
      rw [if_neg ne]
      exact hw
    obtain ⟨o, e2, r2, W3⟩ := W2.freeze hw2
    obtain ⟨xs, rfl, y, zs, rfl, r2, r3⟩ := r2
    have s2 : Same S1 (upd S1 a1 (.lst ys)) := same_upd e1
    have r2' : y = .ref a1 := r2
    subst r2'
    have s3 : Same (upd S1 a1 (.lst ys)) (upd (upd S1 a1 (.lst ys)) a (.lst (.ref a1 :: zs))) := same_upd e2
    have r' : v = .ref a := r
    exact hK _ _ v _ H1 k (s1.trans (s2.trans s3)) W3 ⟨a, _, r', upd_same, .ref a1, zs, rfl, ⟨a1, ys, rfl, s3 _ _ upd_same, (r1.mono s2).mono s3⟩, r3.mono s3⟩
theorem World.drop {K : PySem.W.Frag} {S F H : Hp} (W : World K T S w F H) (a : Addr) : World K T S (wd w a) F H := by
  refine ⟨W.same, W.notbl, fun b k q => ?_, W.frm, W.tabs, W.nf⟩
  have q' : (if b = a then none else w b) = some k := q
  by_cases e : b = a
  · rw [if_pos e] at q'
    cases q'
  · rw [if_neg e] at q'
    exact W.own b k q'
/-- C(e, ..); what is let out comes without the unfinished instance -/
theorem pd_makeX {CX : CXT} {k : Nat} {f C : Addr} {fd : FuncData} {ps : List Str} {sp : SpD} {x : Str} {p : Pos} {e : Expr} {es : List Expr} {κ : D → Wp → Prop} (M : Mk X.K C f) (G : FnOk X.prog X.w X.K X.mg X.base CX k f fd ps (spOf X.K T sp)) (hr : Room (k + 1) X.A) (hm : X.mg x = some (.ref C)) (hb : Binds X.K fd ps []) (hx : ∀ σ, PassesAt CX X σ (WE W σ))
    (h : PAD X T W χ (e :: es) δ w fun ds w1 => ∀ a dx, w1 a = none → sp (R a :: ds) (wu w1 a (.ins C dx [] [])) (fun d w2 => d = N ∧ ∃ ns es, w2 a = some (.ins C dx ns es) ∧ κ (.obj C ns es) (wd w2 a)) (fun C ns fs w2 => χ C ns fs (wd w2 a)))
    (hg : Gl X x := by rfl) (hdb : (x == ("__debug__" : Str)) = false := by decide) (he : starEach (e :: es) X.env = (false, eval e X.env) :: starEach es X.env := by rfl) (hpl : (backTo pos (starEach es X.env)).any (·.1) = false := by rfl) :
    PD X T W χ (.Call (.Name x p) (e :: es) [] pos) δ w κ := fun F σ S H Q hE hW hX hK => wp_pe (pe_makeSD M G hr hg hm hb hx (pa_wp _) hdb he hpl) (by
  refine h F σ S H _ hE hW hX fun ds w1 vs S1 H1 k s1 W1 r => ?_
  intro a dx na ndx nad
  have W2 := (W1.junk (o := .own a) ndx).take (a := a) (h := .ins C dx [] []) (o := .ins C dx []) (by rw [upd_ne (Ne.symm nad)]; exact na) ⟨[], rfl, rfl, rfl⟩
  refine ⟨R a :: ds, _, F, S1, _, _, k a dx (W1.free na).2.1, ⟨_, vs, rfl, rfl, r⟩, W2, ?_, fun C ns fs w' d S' H' x s3 W3 xr => hX C ns fs _ d S' H' x (s1.trans s3) (W3.drop a) xr⟩
  rintro d w' v S' H' ⟨rfl, ns, es, ew, kk⟩ s2 W3 rv
  refine ⟨rv, ?_⟩
  obtain ⟨o, e1, r3, W4⟩ := W3.freeze ew
  obtain ⟨ys, rfl, hys, r4⟩ := r3
  have s3 : Same S' (upd S' a (.ins C dx ys)) := same_upd e1
  exact hK _ _ _ _ _ kk (s1.trans (s2.trans s3)) W4 ⟨a, dx, ys, rfl, upd_same, hys, r4.mono s3⟩)
/-- an owned cell is forgotten -/
theorem pssd_drop {sts : List Stmt} {C : DL.Fin} (a : Addr) (h : PSsD X T W χ sts δ (wd w a) C) : PSsD X T W χ sts δ w C := fun F σ S H E hE hW hX hK => h F σ S H E hE (hW.drop a) hX hK
theorem pd_drop {e : Expr} {κ : D → Wp → Prop} (h : PD X T W χ e δ w fun d w' => ∃ a, κ d (wd w' a)) : PD X T W χ e δ w κ := fun F σ S H Q hE hW hX hK => h F σ S H Q hE hW hX fun d w' v S' H' ⟨a, k⟩ s1 W1 r => hK d _ v S' H' k s1 (W1.drop a) r
theorem pssd_as {sts : List Stmt} {F : DL.Fin} (δ' : Dn) (e : δ = δ') (h : PSsD X T W χ sts δ' w F) : PSsD X T W χ sts δ w F := e ▸ h
theorem rg_ups {K : PySem.W.Frag} {S : Hp} (n : Nat) : RepL K S (ups n) (rgV 0 n) := by
  have e : rgV 0 (n : Int) = (List.range n).map fun (k : Nat) => V.int (k : Int) := by
    unfold rgV
    rw [Int.sub_zero, Int.toNat_natCast]
    refine List.map_congr_left fun k _ => ?_
    rw [Int.zero_add]
  rw [e]
  have h : ∀ l : List Nat, RepL K S (l.map fun (k : Nat) => I (k : Int)) (l.map fun (k : Nat) => V.int (k : Int)) := by
    intro l
    induction l with
    | nil => rfl
    | cons a l ih => exact ⟨V.int a, _, rfl, rfl, ih⟩
  exact h _
/-- list(range(n)) -/
theorem pd_listRg {e : Expr} {p p2 pos2 : Pos} {κ : D → Wp → Prop} (hc : X.calm = true) (hmL : X.mg "list" = none) (hmR : X.mg "range" = none) (h : PD X T W χ e δ w fun d w1 => ∃ n : Nat, d = I (n : Int) ∧ n ≤ 1000 ∧ κ (.lst (ups n)) w1)
    (hg1 : Gl X "list" := by rfl) (hg2 : Gl X "range" := by rfl) (na : starEach [e] X.env = (false, eval e X.env) :: starEach [] X.env := by rfl)
    (nb : starEach [.Call (.Name "range" p2) [e] [] pos2] X.env = (false, eval (.Call (.Name "range" p2) [e] [] pos2) X.env) :: starEach [] X.env := by rfl) : PD X T W χ (.Call (.Name "list" p) [.Call (.Name "range" p2) [e] [] pos2] [] pos) δ w κ := by
  intro F σ S H Q hE hW hX hK
  refine wp_pe (pe_listRg hc hg1 hmL (prg_1 hg2 hmR (pe_wp e) na) nb) ?_
  refine h F σ S H _ hE hW hX fun d w1 v S1 H1 k s1 W1 r => ?_
  obtain ⟨n, rfl, hn, k⟩ := k
  refine ⟨n, r, RgOk.of_le (by omega) (by omega) (by omega) (by omega), fun q hq => ?_⟩
  have s2 : Same S1 (upd S1 q (.lst (rgV 0 n))) := same_upd (W1.free hq).1
  exact hK _ w1 _ _ _ k (s1.trans s2) (W1.laid hq fun _ z => by cases z) ⟨q, _, rfl, upd_same, rg_ups n⟩
theorem psd_cut {st : Stmt} {C : DL.Fin} (J : Dn → Wp → Prop) (h : PSD X T W χ st δ w { C with nx := J }) (k : ∀ δ' w', J δ' w' → C.nx δ' w') : PSD X T W χ st δ w C := fun F σ S H E hE hW hX hK => h F σ S H E hE hW hX ⟨fun δ' w' σ' S' H' j s1 e W1 => hK.nx δ' w' σ' S' H' (k _ _ j) s1 e W1, hK.rt, hK.bk, hK.ct⟩
end
end DL
namespace Tw
open PySem PySem.Spec PyProof.Rows L2 LamX DL
/-- the global x is a def that keeps sp -/
def HasF (P : Program) (w : PySem.World) (K : PySem.W.Frag) (mg : Str → Option Value) (base : Heap) (T : List (Addr × Str)) (CX : CXT) (x : Str) (k : Nat) (ps : List Str) (sp : SpD) : Prop :=
  ∃ f fd, FnOk P w K mg base CX k f fd ps (spOf K T sp) ∧ mg x = some (.ref f) ∧ PySem.W.keepIn K (.ref f) = true ∧ Binds K fd ps []
section
variable {X : Cx} {T : List (Addr × Str)} {W : WX} {χ : XD} {δ : Dn} {w : Wp} {pos : Pos}
theorem pd_has {CX : CXT} {k : Nat} {ps : List Str} {sp : SpD} {x : Str} {p : Pos} {e : Expr} {es : List Expr} {κ : D → Wp → Prop} (G : HasF X.prog X.w X.K X.mg X.base T CX x k ps sp) (hr : Room k X.A)
    (hx : ∀ σ, PassesAt CX X σ (WE W σ)) (h : PAD X T W χ (e :: es) δ w fun ds w1 => sp ds w1 κ χ) (hg : Gl X x := by rfl) (hdb : (x == ("__debug__" : Str)) = false := by decide)
    (he : starEach (e :: es) X.env = (false, eval e X.env) :: starEach es X.env := by rfl) (hpl : (backTo pos (starEach es X.env)).any (·.1) = false := by rfl) : PD X T W χ (.Call (.Name x p) (e :: es) [] pos) δ w κ := by
  obtain ⟨f, fd, h1, h2, h3, h4⟩ := G
  exact pd_call h1 hr h2 h3 h4 hx h hg hdb he hpl
end
theorem log_of {x : Int} (h : x.natAbs < 2 ^ 1000) : x.natAbs.log2 < 1920 := by
  by_cases z : x.natAbs = 0
  · rw [z]
    decide
  · exact Nat.lt_trans ((Nat.log2_lt z).mpr h) (by decide)
theorem le_line {n : Nat} (h : n ≤ 1000) : n ≤ sizeLine := Nat.le_of_lt (small1000 h)
/-- the global x is the class at C, its __init__ keeps sp -/
def HasMk (P : Program) (w : PySem.World) (K : PySem.W.Frag) (mg : Str → Option Value) (base : Heap) (T : List (Addr × Str)) (CX : CXT) (x : Str) (C : Addr) (k : Nat) (ps : List Str) (sp : SpD) : Prop :=
  ∃ f fd, FnOk P w K mg base CX k f fd ps (spOf K T sp) ∧ mg x = some (.ref C) ∧ Mk K C f ∧ Binds K fd ps []
section
variable {X : Cx} {T : List (Addr × Str)} {W : WX} {χ : XD} {δ : Dn} {w : Wp} {pos : Pos}
theorem pd_hasmk {CX : CXT} {k : Nat} {C : Addr} {ps : List Str} {sp : SpD} {x : Str} {p : Pos} {e : Expr} {es : List Expr} {κ : D → Wp → Prop} (G : HasMk X.prog X.w X.K X.mg X.base T CX x C k ps sp) (hr : Room (k + 1) X.A) (hx : ∀ σ, PassesAt CX X σ (WE W σ))
    (h : PAD X T W χ (e :: es) δ w fun ds w1 => ∀ a dx, w1 a = none → sp (R a :: ds) (wu w1 a (.ins C dx [] [])) (fun d w2 => d = N ∧ ∃ ns es, w2 a = some (.ins C dx ns es) ∧ κ (.obj C ns es) (wd w2 a)) (fun C ns fs w2 => χ C ns fs (wd w2 a)))
    (hg : Gl X x := by rfl) (hdb : (x == ("__debug__" : Str)) = false := by decide) (he : starEach (e :: es) X.env = (false, eval e X.env) :: starEach es X.env := by rfl) (hpl : (backTo pos (starEach es X.env)).any (·.1) = false := by rfl) :
    PD X T W χ (.Call (.Name x p) (e :: es) [] pos) δ w κ := by
  obtain ⟨f, fd, h1, h2, h3, h4⟩ := G
  exact pd_makeX h3 h1 hr h2 h4 hx h hg hdb he hpl
end
theorem lg9' {z : Int} (h1 : 0 ≤ z) (h2 : z ≤ 1000) : z.natAbs.log2 < 9000 := Nat.lt_trans (log_of (Nat.lt_of_lt_of_le (by omega : _ < 2000) (by decide))) (by decide)
theorem sm_ints {n : Nat} {ns : List Int} (h : ns.length ≤ 1000) : Sm (n + 1) (.lst (ns.map I)) (.lst (ns.map I)) := Sm.map (le_line h) fun x _ => .int x
theorem sm_txts {n : Nat} {ns : List Str} (h : ns.length ≤ 1000) : Sm (n + 1) (.lst (ns.map DL.T)) (.lst (ns.map DL.T)) := Sm.map (le_line h) fun x _ => .str x
theorem int_eq_dec {a b : Nat} : decide (V.int (a : Int) = V.int (b : Int)) = decide (a = b) := by
  refine decide_eq_decide.mpr ⟨fun z => ?_, fun z => ?_⟩
  · have z2 := V.int.inj z
    omega
  · rw [z]
theorem str_eq_dec {a b : Str} : decide (V.str a = V.str b) = decide (a = b) := decide_eq_decide.mpr ⟨fun z => V.str.inj z, fun z => by rw [z]⟩
/-- two texts compared, the answer known -/
theorem vr_eqT {K : PySem.W.Frag} {T : List (Addr × Str)} {w : Wp} {κ : D → Wp → Prop} {a b : Str} (v : Bool) (e : decide (a = b) = v) (k : κ (B v) w) : VR2 K T rEq (DL.T a) (DL.T b) w κ := by
  refine vr_eq rfl ?_
  rw [str_eq_dec, e]
  exact k
theorem vr_neT {K : PySem.W.Frag} {T : List (Addr × Str)} {w : Wp} {κ : D → Wp → Prop} {a b : Str} (v : Bool) (e : decide (a = b) = v) (k : κ (B (!v)) w) : VR2 K T rNe (DL.T a) (DL.T b) w κ := by
  refine vr_ne rfl ?_
  rw [str_eq_dec, e]
  exact k
end Tw

set_option Elab.async false
set_option linter.all false
set_option maxRecDepth 100000
set_option maxHeartbeats 1000000
/-! The draws of k35: _law_bag, _law_take. -/
namespace DL
open PySem PySem.Spec PyProof.Rows L2 LamX
section
variable {K : PySem.W.Frag} {T : List (Addr × Str)} {w : Wp} {κ : D → Wp → Prop}
/-- a list of numbers that is only read -/
theorem RepL.vals_ints {S : Hp} : ∀ {ns : List Int} {xs : List V}, RepL K S (ns.map I) xs → xs = ns.map V.int
  | [], xs, r => r
  | n :: ns, xs, r => by
    obtain ⟨x, ys, rfl, h1, h2⟩ := r
    have h1' : x = .int n := h1
    rw [h1', RepL.vals_ints h2]
    rfl
theorem va_sumR {ns : List Int} (k : κ (I ns.sum) w) : VRA K T (rSum K) [.rd (ns.map I)] w κ := fun F S H xs Q hW r hK => by
  obtain ⟨y, ys, rfl, h1, h2⟩ := r
  obtain ⟨a, zs, rfl, h3, h4⟩ := LstD.at_ (.inr rfl) hW h1
  have h2' : ys = [] := h2
  have e := RepL.vals_ints h4
  subst h2' e
  exact ⟨a, ns, rfl, h3, hK _ w _ S H k (Same.refl _) hW rfl⟩
theorem vr_ixRd {ds : List D} {i : Nat} {d : D} (h : ds[i]? = some d) (k : κ d w) : VR2 K T (rIxL K) (.rd ds) (I (i : Int)) w κ := fun F S H x y Q hW r1 r2 hK => by
  obtain ⟨a, xs, rfl, h1, h2⟩ := LstD.at_ (.inr rfl) hW r1
  obtain ⟨v, h3, h4⟩ := h2.get h
  exact ⟨a, xs, i, v, rfl, r2, h1, ix_at h3, hK d w v S H k (Same.refl _) hW h4⟩
theorem va_lenRd {ds : List D} (k : κ (I (ds.length : Int)) w) : VRA K T (fun xs H Q => ∃ p ys, xs = [.ref p] ∧ (SqL K H p ys ∨ SqT K H p ys) ∧ Q (.int ys.length) H) [.rd ds] w κ := fun F S H xs Q hW r hK => by
  obtain ⟨y, ys, rfl, h1, h2⟩ := r
  obtain ⟨a, zs, rfl, h3, h4⟩ := LstD.at_ (.inr rfl) hW h1
  have h2' : ys = [] := h2
  subst h2'
  refine ⟨a, zs, rfl, .inl h3, ?_⟩
  rw [h4.length]
  exact hK _ w _ S H k (Same.refl _) hW rfl
theorem va_abs {i : Int} (k : κ (I (if i < 0 then -i else i)) w) : VRA K T (fun xs H Q => ∃ i, xs = [.int i] ∧ Q (.int (if i < 0 then -i else i)) H) [I i] w κ := fun F S H xs Q hW r hK => by
  obtain ⟨x, ys, rfl, h1, h2⟩ := r
  have h1' : x = .int i := h1
  have h2' : ys = [] := h2
  subst h1' h2'
  exact ⟨i, rfl, hK _ w _ S H k (Same.refl _) hW rfl⟩
theorem bt_abs : bootBuiltins "abs" = some (.builtin "abs") := by decide +kernel
theorem bt_sum : bootBuiltins "sum" = some (.builtin "sum") := by decide +kernel
end
end DL
namespace Tw
open PySem PySem.Spec PyProof.Rows L2 LamX DL
def top (i : Nat) : Stmt := PySem.Challenge.pw_thinwall_k35_machine_is_what_it_was_made.main.body.getD i (.Pass ⟨0, 0, 0, 0⟩)
abbrev sBag : Stmt := top 12
abbrev sTake : Stmt := top 13
/-- what draws are made of -/
structure Bg where
  cell : Int
  cnt : Int
  seed : Int
def Bg.row (b : Bg) : List Int := [b.cell, b.cnt, b.seed]
def BgOk (b : Bg) : Prop := 0 ≤ b.cell
abbrev BgAt (w : Wp) (a : Addr) (b : Bg) : Prop := w a = some (.lst (b.row.map I))
def bgPut (w : Wp) (a : Addr) (b : Bg) : Wp := wu w a (.lst (b.row.map I))
theorem bg_put {w : Wp} {a : Addr} {b : Bg} : BgAt (bgPut w a b) a b := wu_same
theorem bg_put2 {w : Wp} {a : Addr} {b c : Bg} : bgPut (bgPut w a b) a c = bgPut w a c := by
  unfold bgPut
  rw [wu_wu]
theorem bg_id {w : Wp} {a : Addr} {b : Bg} (e : BgAt w a b) : bgPut w a b = w := by
  funext z
  unfold bgPut
  by_cases h : z = a
  · rw [h, wu_same]
    exact e.symm
  · rw [wu_ne h]
def spBag : SpD := fun ds w κ χ => ∃ (ns : List Int) (p : Nat), ds = [.rd (ns.map I), I (p : Int)] ∧ ns.length ≤ 1000 ∧ ∀ a b, w a = none → BgOk b → κ (R a) (bgPut w a b)
def spTake : SpD := fun ds w κ χ => ∃ (a : Addr) (b : Bg) (m : Int), ds = [R a, I m] ∧ BgAt w a b ∧ BgOk b ∧ 0 < m ∧ m.natAbs.log2 < 9000 ∧ ∀ (x : Int) (c : Bg), 0 ≤ x → x < m → BgOk c → κ (I x) (bgPut w a c)
section
variable {P : Program} {w : PySem.World} {K : PySem.W.Frag} {mg : Str → Option Value} {base : Heap} {T : List (Addr × Str)}
theorem scBag : FnScope ["script", "place", "cell"] ["script", "place"] (defScope sBag) := ⟨rfl, rfl, rfl, by decide +kernel, rfl, by decide +kernel, by decide +kernel⟩
theorem ok_bag {f : Addr} {fd : FuncData} (G : Fun K "_law_bag" "_law_bag" sBag f fd) (hI : mg "int" = none) (hL : mg "len" = none) (hA : mg "abs" = none) (hS : mg "sum" = none) : FnOk P w K mg base CX0 1 f fd ["script", "place"] (spOf K T spBag) := by
  refine fnD G scBag (fun ds w κ χ h => ?_) (fun cdv A outer s H E ds w0 κ χ hr h => ?_)
  · obtain ⟨ns, p, rfl, _⟩ := h
    rfl
  obtain ⟨ns, p, rfl, hz, k⟩ := h
  have nd := scBag.nd
  refine pssd_cons (psd_set (i := 2) nd rfl ?_)
  refine pd_int ?_
  refine pssd_cons (psd_cut (fun δ' w' => ∃ c : Int, 0 ≤ c ∧ δ' = [some (.rd (ns.map I)), some (I (p : Int)), some (I c)] ∧ w' = w0) ?_ ?_)
  · refine psd_if ?_
    refine ptd_cmp op_lt ?_
    refine pd_var (i := 1) rfl rfl ?_
    refine pd_callB call_len_seq rfl hL PySem.boot_len ?_
    (refine pad_cons ?_; refine pd_var (i := 0) rfl rfl ?_)
    refine pad_nil ?_
    refine va_lenRd ?_
    rw [List.length_map]
    refine vr_I ⟨_, rfl, ?_⟩
    refine ite2 (fun c1 => ?_) (fun c1 => ?_)
    · have lt : p < ns.length := by
        have := of_decide_eq_true c1
        omega
      refine pssd_one (psd_set (i := 2) nd rfl ?_)
      refine pd_callB call_abs rfl hA bt_abs ?_
      refine pad_cons ?_
      refine pd_ix ix_list ?_
      refine pd_var (i := 0) rfl rfl ?_
      refine pd_var (i := 1) rfl rfl ?_
      refine vr_ixRd (i := p) (d := I ns[p]) (by rw [List.getElem?_map, List.getElem?_eq_getElem lt]; rfl) ?_
      refine pad_nil ?_
      refine va_abs ?_
      refine ⟨_, ?_, rfl, rfl⟩
      split <;> omega
    · exact pssd_nil ⟨0, by omega, rfl, rfl⟩
  rintro δ' w' ⟨c, c0, rfl, rfl⟩
  refine pssd_one (psd_ret ?_)
  refine pd_lstO ?_
  (refine pad_cons ?_; refine pd_var (i := 2) rfl rfl ?_)
  refine pad_cons (pd_int ?_)
  refine pad_cons ?_
  refine pd_op op_add ?_
  refine pd_op op_mul ?_
  refine pd_int ?_
  refine pd_var (i := 1) rfl rfl ?_
  refine vr_IC (.inl ⟨by decide, by decide⟩) ?_
  refine pd_op op_mod ?_
  refine pd_callTy call_int1 rfl hI PyProof.Rows.boot_int ?_
  refine pad_cons ?_
  refine pd_callB (cr_sum rfl) rfl hS bt_sum ?_
  (refine pad_cons ?_; refine pd_var (i := 0) rfl rfl ?_)
  refine pad_nil ?_
  refine va_sumR ?_
  refine pad_nil ?_
  refine va_int ?_
  refine pd_int ?_
  refine vr_IC (by decide) ?_
  refine vr_I ?_
  refine pad_nil ⟨by show 3 ≤ sizeLine; decide, fun a na => ?_⟩
  exact k a ⟨c, 0, _⟩ na c0
theorem scTake : FnScope ["bag", "size", "digit", "one", "two", "three"] ["bag", "size"] (defScope sTake) := ⟨rfl, rfl, rfl, by decide +kernel, rfl, by decide +kernel, by decide +kernel⟩
theorem ok_take {f : Addr} {fd : FuncData} (G : Fun K "_law_take" "_law_take" sTake f fd) (hI : mg "int" = none) : FnOk P w K mg base CX0 1 f fd ["bag", "size"] (spOf K T spTake) := by
  refine fnD G scTake (fun ds w κ χ h => ?_) (fun cdv A outer s H E ds w0 κ χ hr h => ?_)
  · obtain ⟨a, b, m, rfl, _⟩ := h
    rfl
  obtain ⟨a, b, m, rfl, hb, ok, m0, m9, k⟩ := h
  have nd := scTake.nd
  have e0 := bg_id hb
  rw [← e0]
  have up : ∀ b c : Bg, bgPut (bgPut w0 a b) a c = bgPut w0 a c := fun b c => bg_put2
  refine pssd_cons (psd_if ?_)
  refine ptd_cmp op_ge ?_
  (refine pd_ix ix_list ?_; refine pd_var (i := 0) rfl rfl ?_; refine pd_int ?_; refine vr_ixO (i := 0) bg_put rfl ?_)
  refine pd_op op_pow ?_
  refine pd_int ?_
  refine pd_int ?_
  refine vr_IC ⟨by decide, by decide, by decide⟩ ?_
  refine vr_I ⟨_, rfl, ?_⟩
  refine ite2 (fun c1 => ?_) (fun c1 => ?_)
  · refine pssd_cons (psd_set (i := 2) nd rfl ?_)
    refine pd_op op_mod ?_
    refine pd_callTy call_int1 rfl hI PyProof.Rows.boot_int ?_
    refine pad_cons ?_
    (refine pd_ix ix_list ?_; refine pd_var (i := 0) rfl rfl ?_; refine pd_int ?_; refine vr_ixO (i := 0) bg_put rfl ?_)
    refine pad_nil ?_
    refine va_int ?_
    refine pd_var (i := 1) rfl rfl ?_
    refine vr_IC m0 ?_
    refine pssd_cons (psd_sub set_list ?_)
    refine pd_op op_fdivW ?_
    (refine pd_ix ix_list ?_; refine pd_var (i := 0) rfl rfl ?_; refine pd_int ?_; refine vr_ixO (i := 0) bg_put rfl ?_)
    refine pd_var (i := 1) rfl rfl ?_
    refine vr_IC ⟨m0, m9⟩ ?_
    refine pd_var (i := 0) rfl rfl ?_
    refine pd_int ?_
    refine vr_setO (i := 0) bg_put (Nat.succ_pos _) ?_
    refine pssd_one (psd_ret ?_)
    refine pd_var (i := 2) rfl rfl ?_
    have e : wu (bgPut w0 a b) a (.lst ((b.row.map I).set 0 (D.val (V.int (b.cell / m))))) = bgPut w0 a { b with cell := b.cell / m } := by
      unfold bgPut
      rw [wu_wu]
      rfl
    rw [e]
    exact k _ _ (Int.emod_nonneg _ (by omega)) (Int.emod_lt_of_pos _ m0) (Int.ediv_nonneg ok (by omega))
  refine pssd_nil ?_
  refine pssd_cons (psd_sub set_list ?_)
  refine pd_op op_add ?_
  (refine pd_ix ix_list ?_; refine pd_var (i := 0) rfl rfl ?_; refine pd_int ?_; refine vr_ixO (i := 1) bg_put rfl ?_)
  refine pd_int ?_
  refine vr_I ?_
  refine pd_var (i := 0) rfl rfl ?_
  refine pd_int ?_
  refine vr_setO (i := 1) bg_put (by simp [Bg.row]) ?_
  generalize b.cnt + 1 = cn
  have e1 : wu (bgPut w0 a b) a (.lst ((b.row.map I).set 1 (D.val (V.int cn)))) = bgPut w0 a { b with cnt := cn } := by
    unfold bgPut
    rw [wu_wu]
    rfl
  rw [e1]
  refine pssd_cons (psd_set (i := 3) nd rfl ?_)
  refine pd_op op_mod ?_
  refine pd_callTy call_int1 rfl hI PyProof.Rows.boot_int ?_
  refine pad_cons ?_
  refine pd_op op_add ?_
  refine pd_op op_add ?_
  refine pd_op op_add ?_
  refine pd_op op_mul ?_
  (refine pd_ix ix_list ?_; refine pd_var (i := 0) rfl rfl ?_; refine pd_int ?_; refine vr_ixO (i := 0) bg_put rfl ?_)
  refine pd_int ?_
  refine vr_IC (.inr ⟨by decide, by decide⟩) ?_
  refine pd_op op_mul ?_
  (refine pd_ix ix_list ?_; refine pd_var (i := 0) rfl rfl ?_; refine pd_int ?_; refine vr_ixO (i := 1) bg_put rfl ?_)
  refine pd_int ?_
  refine vr_IC (.inr ⟨by decide, by decide⟩) ?_
  refine vr_I ?_
  refine pd_op op_mul ?_
  (refine pd_ix ix_list ?_; refine pd_var (i := 0) rfl rfl ?_; refine pd_int ?_; refine vr_ixO (i := 2) bg_put rfl ?_)
  refine pd_int ?_
  refine vr_IC (.inr ⟨by decide, by decide⟩) ?_
  refine vr_I ?_
  refine pd_int ?_
  refine vr_I ?_
  refine pad_nil ?_
  refine va_int ?_
  refine pd_int ?_
  refine vr_IC (by decide) ?_
  have o1 := Int.emod_nonneg (b.cell * 48271 + cn * 69621 + b.seed * 30011 + 958) (show (2147483647 : Int) ≠ 0 by decide)
  have o2 := Int.emod_lt_of_pos (b.cell * 48271 + cn * 69621 + b.seed * 30011 + 958) (show (0 : Int) < 2147483647 by decide)
  generalize (b.cell * 48271 + cn * 69621 + b.seed * 30011 + 958) % 2147483647 = on at o1 o2
  refine pssd_cons (psd_set (i := 4) nd rfl ?_)
  refine pd_op op_mod ?_
  refine pd_callTy call_int1 rfl hI PyProof.Rows.boot_int ?_
  refine pad_cons ?_
  refine pd_op op_add ?_
  refine pd_op op_mul ?_
  refine pd_var (i := 3) rfl rfl ?_
  refine pd_var (i := 3) rfl rfl ?_
  refine vr_IC (.inr ⟨by omega, by omega⟩) ?_
  refine pd_op op_mul ?_
  (refine pd_ix ix_list ?_; refine pd_var (i := 0) rfl rfl ?_; refine pd_int ?_; refine vr_ixO (i := 1) bg_put rfl ?_)
  refine pd_int ?_
  refine vr_IC (.inr ⟨by decide, by decide⟩) ?_
  refine vr_I ?_
  refine pad_nil ?_
  refine va_int ?_
  refine pd_int ?_
  refine vr_IC (by decide) ?_
  generalize (on * on + cn * 16807) % 2147483629 = tw
  refine pssd_cons (psd_set (i := 5) nd rfl ?_)
  refine pd_op op_mod ?_
  refine pd_callTy call_int1 rfl hI PyProof.Rows.boot_int ?_
  refine pad_cons ?_
  refine pd_op op_add ?_
  refine pd_op op_mul ?_
  refine pd_var (i := 4) rfl rfl ?_
  refine pd_int ?_
  refine vr_IC (.inr ⟨by decide, by decide⟩) ?_
  refine pd_var (i := 3) rfl rfl ?_
  refine vr_I ?_
  refine pad_nil ?_
  refine va_int ?_
  refine pd_int ?_
  refine vr_IC (by decide) ?_
  generalize (tw * 39373 + on) % 2147483587 = th
  refine pssd_one (psd_ret ?_)
  refine pd_op op_mod ?_
  refine pd_callTy call_int1 rfl hI PyProof.Rows.boot_int ?_
  refine pad_cons ?_
  refine pd_op op_fdivW ?_
  refine pd_var (i := 5) rfl rfl ?_
  refine pd_int ?_
  refine vr_IC ⟨by decide, by decide⟩ ?_
  refine pad_nil ?_
  refine va_int ?_
  refine pd_var (i := 1) rfl rfl ?_
  refine vr_IC m0 ?_
  exact k _ _ (Int.emod_nonneg _ (by omega)) (Int.emod_lt_of_pos _ m0) ok
end
section
variable {X : Cx} {T : List (Addr × Str)} {W : WX} {χ : XD} {δ : Dn} {w : Wp} {pos : Pos}
/-- _law_take(bag, e) -/
theorem pd_take {x y : Str} {k i : Nat} {p p1 : Pos} {e : Expr} {a : Addr} {b : Bg} {κ : D → Wp → Prop} (G : HasF X.prog X.w X.K X.mg X.base T CX0 x k ["bag", "size"] spTake) (hr : Room k X.A)
    (hN : X.N[i]? = some y) (hd : δ[i]? = some (some (R a))) (hb : BgAt w a b) (ok : BgOk b) (h : PD X T W χ e δ w fun d w1 => w1 = w ∧ ∃ m, d = I m ∧ 0 < m ∧ m.natAbs.log2 < 9000 ∧ ∀ v b', 0 ≤ v → v < m → BgOk b' → κ (I v) (bgPut w a b'))
    (hg : Gl X x := by rfl) (hdb : (x == ("__debug__" : Str)) = false := by decide)
    (he : starEach [.Name y p1, e] X.env = (false, eval (.Name y p1) X.env) :: starEach [e] X.env := by rfl) (he2 : starEach [e] X.env = (false, eval e X.env) :: starEach [] X.env := by rfl) (hpl : (backTo pos (starEach [e] X.env)).any (·.1) = false := by rfl)
    (hv : Vis X.env.scope y := by first | exact Or.inl rfl | exact Or.inr (Or.inl rfl) | exact Or.inr (Or.inr rfl)) (h1 : (y == ("__debug__" : Str)) = false := by decide) (h2 : (y == ("__classdict__" : Str)) = false := by decide) : PD X T W χ (.Call (.Name x p) [.Name y p1, e] [] pos) δ w κ := by
  refine pd_has G hr (fun _ => pass0At) ?_ hg hdb he hpl
  refine pad_cons (pd_var hN hd ?_ hv h1 h2) he
  refine pad_cons (h.imp ?_) he2
  rintro d w1 ⟨rfl, m, rfl, h3, h4, k⟩
  exact pad_nil ⟨a, b, m, rfl, hb, ok, h3, h4, k⟩
end
end Tw

set_option Elab.async false
set_option linter.all false
set_option maxRecDepth 100000
set_option maxHeartbeats 1000000
/-! k35: _law_signs_row, _law_copy. -/
namespace DL
open PySem PySem.Spec PyProof.Rows L2 LamX
abbrev cl (s : Str) : List Nat := s.cps.toList
abbrev letS (c : Nat) : Str := ⟨#[c]⟩
theorem cl_cat (a b : Str) : cl (a ++ b) = cl a ++ cl b := by
  show (a.cps ++ b.cps).toList = _
  exact Array.toList_append
theorem vr_ixSx {K : PySem.W.Frag} {T : List (Addr × Str)} {w : Wp} {κ : D → Wp → Prop} {z : Str} {i c : Nat} (hz : z.length ≤ sizeLine) (hi : z.cps.toList[i]? = some c) (k : κ (DL.T ⟨#[c]⟩) w) : VR2 K T rIxS (DL.T z) (I (i : Int)) w κ := fun F S H x y Q hW r1 r2 hK =>
  ⟨z, i, c, r1, r2, hz, atI_nat hi, hK _ w _ S H k (Same.refl _) hW rfl⟩
end DL
namespace Tw
open PySem PySem.Spec PyProof.Rows L2 LamX DL
abbrev sSgn : Stmt := top 14
abbrev sCpy : Stmt := top 17
def abcT : Str := "abcdefghijklmnopqrstuvwxyz"
theorem abc_at : ∀ j, j < 26 → (cl abcT)[j]? = some (97 + j) := by decide +kernel
theorem abc_len : abcT.length = 26 := by decide +kernel
/-- letters that rise -/
structure SgOk (s : Str) : Prop where
  up : (cl s).Pairwise (· < ·)
  az : ∀ c ∈ cl s, 97 ≤ c ∧ c ≤ 122
def spSgn : SpD := fun ds w κ χ => ∃ (a : Addr) (b : Bg), ds = [R a, I 4] ∧ BgAt w a b ∧ BgOk b ∧ ∀ (s : Str) (b' : Bg), BgOk b' → SgOk s → s.length ≤ 4 → κ (DL.T s) (bgPut w a b')
/-- a list of lists copied -/
def spCpy : SpD := fun ds w κ χ => ∃ (d : D) (xss : List (List D)), ds = [d] ∧ Lk w d (xss.map D.lst) ∧ xss.length ≤ 900 ∧ κ (.lst (xss.map D.lst)) w
section
variable {P : Program} {w : PySem.World} {K : PySem.W.Frag} {mg : Str → Option Value} {base : Heap} {T : List (Addr × Str)}
theorem scSgn : FnScope ["bag", "most", "alphabet", "signs", "place", "k"] ["bag", "most"] (defScope sSgn) := ⟨rfl, rfl, rfl, by decide +kernel, rfl, by decide +kernel, by decide +kernel⟩
theorem ok_sgn {f : Addr} {fd : FuncData} (G : Fun K "_law_signs_row" "_law_signs_row" sSgn f fd) (hrg : mg "range" = none) (hT : HasF P w K mg base T CX0 "_law_take" 1 ["bag", "size"] spTake) : FnOk P w K mg base CX0 2 f fd ["bag", "most"] (spOf K T spSgn) := by
  refine fnD G scSgn (fun ds w κ χ h => ?_) (fun cdv A outer s H E ds w0 κ χ hr h => ?_)
  · obtain ⟨a, b, rfl, _⟩ := h
    rfl
  obtain ⟨a, b, rfl, hb, ok, k⟩ := h
  have nd := scSgn.nd
  refine pssd_cons (psd_set (i := 2) nd rfl ?_)
  refine pd_str ?_
  refine pssd_cons (psd_set (i := 3) nd rfl ?_)
  refine pd_str ?_
  refine pssd_cons (psd_set (i := 4) nd rfl ?_)
  refine pd_un un_neg ?_
  refine pd_int ?_
  refine vr_U ?_
  refine pssd_cons (psd_for PassesOwn.never rfl ?_)
  refine it_range hrg ?_
  refine pd_take hT hr (i := 0) rfl rfl hb ok ?_
  refine pd_op op_add ?_
  refine pd_var (i := 1) rfl rfl ?_
  refine pd_int ?_
  refine vr_I ⟨rfl, _, rfl, by decide, by decide, fun x b1 g0 g1 ok1 => ?_⟩
  obtain ⟨n, rfl⟩ := Int.eq_ofNat_of_zero_le g0
  refine ⟨n, rfl, by omega, ?_⟩
  have c0 : cl ("" : Str) = [] := by decide +kernel
  refine ⟨fun i δ' w' => ∃ (z : Str) (q : Bg) (pl : Int) (x5 : Option D), δ' = [some (R a), some (I 4), some (DL.T abcT), some (DL.T z), some (I pl), x5] ∧ w' = bgPut w0 a q ∧ BgOk q ∧ z.length = i ∧ -1 ≤ pl ∧ pl < 5 * (i : Int) ∧ (∀ c ∈ cl z, 97 ≤ c ∧ (c : Int) ≤ 97 + pl) ∧ (cl z).Pairwise (· < ·), ⟨"", b1, -1, none, rfl, rfl, ok1, by decide +kernel, by omega, by omega, fun c hc => (by rw [c0] at hc; cases hc), (by rw [c0]; exact .nil)⟩, ?_, ?_⟩
  · rintro i d δ' w' hd ⟨z, q, pl, x5, rfl, rfl, okq, zl, p0, p1, zc, zu⟩
    obtain ⟨hi, rfl⟩ := ups_at hd
    refine pgd_name (i := 5) nd rfl ?_
    refine pssd_cons (psd_set (i := 4) nd rfl ?_)
    refine pd_op op_add ?_
    refine pd_op op_add ?_
    refine pd_var (i := 4) rfl rfl ?_
    refine pd_int ?_
    refine vr_I ?_
    refine pd_take hT hr (i := 0) rfl rfl bg_put okq ?_
    refine pd_int ?_
    refine ⟨rfl, _, rfl, by decide, by decide, fun y b2 y0 y1 ok2 => ?_⟩
    rw [bg_put2]
    refine vr_I ?_
    obtain ⟨m, em⟩ := Int.eq_ofNat_of_zero_le (show 0 ≤ pl + 1 + y by omega)
    rw [em]
    have hm : m < 26 := by omega
    refine pssd_one (psd_set (i := 3) nd rfl ?_)
    refine pd_op op_add_str ?_
    refine pd_var (i := 3) rfl rfl ?_
    refine pd_ix ix_str ?_
    refine pd_var (i := 2) rfl rfl ?_
    refine pd_var (i := 4) rfl rfl ?_
    refine vr_ixSx (by rw [abc_len, sizeLine_eq]; decide) (abc_at m hm) ?_
    have l1 : (letS (97 + m)).length = 1 := rfl
    refine vr_addS (by rw [l1, sizeLine_eq]; omega) ?_
    refine ⟨z ++ letS (97 + m), b2, (m : Int), _, rfl, rfl, ok2, by rw [Str.length_append, l1, zl], by omega, by omega, fun c hc => ?_, ?_⟩
    · rw [cl_cat] at hc
      rcases List.mem_append.mp hc with h | h
      · have := zc c h
        omega
      · have e : c = 97 + m := by simpa using h
        omega
    · rw [cl_cat, List.pairwise_append]
      refine ⟨zu, List.pairwise_singleton _ _, fun c hc d hd => ?_⟩
      have e : d = 97 + m := by simpa using hd
      have := zc c hc
      omega
  · rintro δ' w' ⟨z, q, pl, x5, rfl, rfl, okq, zl, p0, p1, zc, zu⟩
    rw [ups_len] at zl p1
    refine pssd_one (psd_ret ?_)
    refine pd_var (i := 3) rfl rfl ?_
    exact k z q okq ⟨zu, fun c hc => (by have := zc c hc; omega)⟩ (by omega)
theorem scCpy : FnScope ["lines", "line"] ["lines"] (defScope sCpy) := ⟨rfl, rfl, rfl, by decide +kernel, rfl, by decide +kernel, by decide +kernel⟩
end
end Tw

set_option Elab.async false
set_option linter.all false
set_option maxRecDepth 100000
set_option maxHeartbeats 1000000
/-! A list of owned lists: made by a comprehension, changed, standing from now on. -/
namespace DL
open PySem PySem.Spec PyProof.Rows L2 LamX
/-- one turn: a new owned list xs -/
def TurnO (X : Cx) (T : List (Addr × Str)) (is : List Nat) (tg : Expr) (ifs : List Expr) (elt : Expr) (scope : Scope) (δ : Dn) (w : Wp) (d : D) (xs : List D) : Prop :=
  ∀ s H0 C cl fp, PGL (bx X s H0 scope cl C fp) T is tg d δ w fun δ2 w2 => ∀ s H0 C cl fp, PTsD (bx X s H0 scope cl C fp) T ifs δ2 w2 fun b' w3 =>
    if b' = true then ∀ s H0 C cl fp, PD (bx X s H0 scope cl C fp) T Wf noX elt δ2 w3 fun y w4 => ∃ b, y = R b ∧ w b = none ∧ w4 = wu w b (.lst xs) else False
/-- beside w: the lists bs are owned -/
structure Owns (w : Wp) (bs : List Addr) (xss : List (List D)) (w' : Wp) : Prop where
  len : bs.length = xss.length
  nd : bs.Nodup
  at_ : ∀ (j : Nat) (b : Addr) (x : List D), bs[j]? = some b → xss[j]? = some x → w' b = some (.lst x)
  fresh : ∀ b ∈ bs, w b = none
  rest : ∀ z, z ∉ bs → w' z = w z
theorem Owns.nil {w : Wp} : Owns w [] [] w := ⟨rfl, List.nodup_nil, fun j b x h => (by simp at h), fun b h => (by cases h), fun z _ => rfl⟩
theorem Owns.snoc {w w' : Wp} {bs : List Addr} {xss : List (List D)} {b : Addr} {x : List D} (o : Owns w bs xss w') (n : w' b = none) : Owns w (bs ++ [b]) (xss ++ [x]) (wu w' b (.lst x)) := by
  have nb : b ∉ bs := fun z => by
    obtain ⟨j, hj⟩ := List.getElem?_of_mem z
    have lj := (List.getElem?_eq_some_iff.mp hj).1
    have := o.at_ j b _ hj (List.getElem?_eq_getElem (by rw [← o.len]; exact lj))
    rw [n] at this
    cases this
  refine ⟨by rw [List.length_append, List.length_append, o.len]; rfl, ?_, fun j c y h1 h2 => ?_, fun c h => ?_, fun z h => ?_⟩
  · rw [List.nodup_append]
    exact ⟨o.nd, List.nodup_cons.mpr ⟨fun z => (by cases z), List.nodup_nil⟩, fun a ha c hc => fun z => nb (by rw [← List.mem_singleton.mp hc, ← z]; exact ha)⟩
  · by_cases lt : j < bs.length
    · rw [List.getElem?_append_left lt] at h1
      rw [List.getElem?_append_left (by rw [← o.len]; exact lt)] at h2
      rw [wu_ne fun z => nb (by rw [← z]; exact List.mem_of_getElem? h1)]
      exact o.at_ j c y h1 h2
    · rw [List.getElem?_append_right (by omega)] at h1
      rw [List.getElem?_append_right (by rw [← o.len]; omega)] at h2
      have lj := (List.getElem?_eq_some_iff.mp h1).1
      have e : j - bs.length = 0 := by
        have : j - bs.length < 1 := lj
        omega
      rw [e] at h1
      rw [← o.len, e] at h2
      cases h1
      cases h2
      exact wu_same
  · rcases List.mem_append.mp h with h | h
    · exact o.fresh c h
    · rw [List.mem_singleton.mp h, ← o.rest b nb]
      exact n
  · have h1 : z ∉ bs := fun q => h (List.mem_append_left _ q)
    have h2 : z ≠ b := fun q => h (List.mem_append_right _ (List.mem_singleton.mpr q))
    rw [wu_ne h2]
    exact o.rest z h1
theorem Owns.set {w w' : Wp} {bs : List Addr} {xss : List (List D)} {b : Addr} {j : Nat} (o : Owns w bs xss w') (hj : bs[j]? = some b) (y : List D) : Owns w bs (xss.set j y) (wu w' b (.lst y)) := by
  refine ⟨by rw [List.length_set]; exact o.len, o.nd, fun i c x h1 h2 => ?_, o.fresh, fun z h => ?_⟩
  · have li := (List.getElem?_eq_some_iff.mp h1).1
    by_cases e : i = j
    · subst e
      rw [hj] at h1
      cases h1
      rw [List.getElem?_set_self (by rw [← o.len]; exact li)] at h2
      cases h2
      exact wu_same
    · rw [List.getElem?_set_ne (Ne.symm e)] at h2
      have ne : c ≠ b := fun z => by
        rw [z] at h1
        exact e ((List.getElem?_inj li o.nd).mp (h1.trans hj.symm))
      rw [wu_ne ne]
      exact o.at_ i c x h1 h2
  · rw [wu_ne fun q => h (by rw [q]; exact List.mem_of_getElem? hj)]
    exact o.rest z h
/-- all of bs forgotten -/
def wds (w : Wp) : List Addr → Wp
  | [] => w
  | b :: bs => wds (wd w b) bs
theorem wds_at (w : Wp) : ∀ (bs : List Addr) (z : Addr), wds w bs z = if z ∈ bs then none else w z
  | [], z => by rw [if_neg (fun q => by cases q)]; rfl
  | b :: bs, z => by
    show wds (wd w b) bs z = _
    rw [wds_at (wd w b) bs z]
    by_cases h : z ∈ bs
    · rw [if_pos h, if_pos (List.mem_cons_of_mem _ h)]
    · rw [if_neg h]
      by_cases e : z = b
      · rw [if_pos (by rw [e]; exact List.mem_cons_self), e]
        exact if_pos rfl
      · rw [if_neg fun q => (List.mem_cons.mp q).elim e h]
        exact if_neg e
theorem Owns.out {w w' : Wp} {bs : List Addr} {xss : List (List D)} (o : Owns w bs xss w') : wds w' bs = w := by
  funext z
  rw [wds_at]
  by_cases h : z ∈ bs
  · rw [if_pos h, o.fresh z h]
  · rw [if_neg h]
    exact o.rest z h
/-- all of bs stand from now on -/
theorem World.freezeL {K : PySem.W.Frag} {T : List (Addr × Str)} {F H : Hp} : ∀ {bs : List Addr} {xss : List (List D)} {S : Hp} {w : Wp}, World K T S w F H → bs.length = xss.length → bs.Nodup → (∀ (j : Nat) (b : Addr) (x : List D), bs[j]? = some b → xss[j]? = some x → w b = some (.lst x)) →
    ∃ S', Same S S' ∧ World K T S' (wds w bs) F H ∧ RepL K S' (xss.map D.lst) (bs.map V.ref)
  | [], [], S, w, W, _, _, _ => ⟨S, Same.refl _, W, rfl⟩
  | b :: bs, x :: xss, S, w, W, l, nd, h => by
    obtain ⟨o, e1, r, W1⟩ := W.freeze (h 0 b x rfl rfl)
    obtain ⟨ys, rfl, r⟩ := r
    obtain ⟨n1, n2⟩ := List.nodup_cons.mp nd
    have s1 : Same S (upd S b (.lst ys)) := same_upd e1
    obtain ⟨S', s2, W2, r2⟩ := World.freezeL W1 (Nat.succ.inj l) n2 fun j c y h1 h2 => by
      have ne : c ≠ b := fun z => n1 (by rw [← z]; exact List.mem_of_getElem? h1)
      show (if c = b then none else w c) = _
      rw [if_neg ne]
      exact h (j + 1) c y h1 h2
    exact ⟨S', s1.trans s2, W2, .ref b, _, rfl, ⟨b, ys, rfl, s2 _ _ upd_same, (r.mono s1).mono s2⟩, r2⟩
theorem refs_rep {K : PySem.W.Frag} {S : Hp} : ∀ {bs : List Addr} {xs : List V}, RepL K S (bs.map R) xs → xs = bs.map V.ref
  | [], xs, r => r
  | b :: bs, xs, r => by
    obtain ⟨x, ys, rfl, h1, h2⟩ := r
    have h1' : x = .ref b := h1
    rw [h1', refs_rep h2]
    rfl
section
variable {X : Cx} {T : List (Addr × Str)} {W : WX} {χ : XD} {δ : Dn} {w : Wp} {pos : Pos}
/-- a list of owned lists, all stand from now on -/
theorem pssd_freezeL {sts : List Stmt} {C : Fin} {w0 : Wp} {bs : List Addr} {xss : List (List D)} (i : Nat) (hi : δ[i]? = some (some (.lst (bs.map R)))) (o : Owns w0 bs xss w) (h : PSsD X T W χ sts (δ.set i (some (.lst (xss.map D.lst)))) w0 C) : PSsD X T W χ sts δ w C :=
  fun F σ S H E hE hW hX hK => by
    obtain ⟨S', s1, W1, r⟩ := World.freezeL hW o.len o.nd o.at_
    rw [o.out] at W1
    refine h F σ S' H E ((hE.mono s1).tell i hi fun v q => ?_) W1 (hX.mono s1) (hK.mono s1)
    obtain ⟨p, ys, rfl, h1, h2⟩ := q
    have e := refs_rep h2
    subst e
    exact ⟨p, _, rfl, h1, r⟩
end
section
variable {X : Cx} {T : List (Addr × Str)} {W : WX} {χ : XD} {δ : Dn} {w : Wp} {pos : Pos}
/-- owned cells are forgotten -/
theorem pssd_drops {sts : List Stmt} {C : Fin} : ∀ (bs : List Addr) {w : Wp}, PSsD X T W χ sts δ (wds w bs) C → PSsD X T W χ sts δ w C
  | [], w, h => h
  | b :: bs, w, h => pssd_drop b (pssd_drops bs h)
end
section
variable {X : Cx} {T : List (Addr × Str)} {δ : Dn} {w : Wp} {is vs : List Nat} {tg elt : Expr} {ifs : List Expr} {scope : Scope} {κ : List D → Wp → Prop}
theorem lcd_own {xss : List (List D)} (hz : xss.length < sizeLine) (turn : ∀ x ∈ xss, ∀ w', TurnO X T is tg ifs elt scope (wipeD δ vs) w' (.lst x) x) (k : ∀ bs w', Owns w bs xss w' → κ (bs.map R) w') : LcD X T is tg ifs elt scope vs δ κ (xss.map D.lst) w := by
  refine ⟨by rw [List.length_map]; exact hz, fun i acc w' => ∃ bs, acc = bs.map R ∧ Owns w bs (xss.take i) w', ⟨[], rfl, by rw [List.take_zero]; exact Owns.nil⟩, ?_, fun acc w' ⟨bs, e1, o⟩ => by
    rw [List.length_map, List.take_length] at o
    rw [e1]
    exact k bs w' o⟩
  rintro i d acc w' hd ⟨bs, rfl, o⟩ s H0 C cl fp
  rw [List.getElem?_map] at hd
  cases e : xss[i]? with
  | none =>
    rw [e] at hd
    cases hd
  | some x =>
    rw [e] at hd
    cases hd
    intro F v σ S H Q r hE hW hK
    refine turn x (List.mem_of_getElem? e) w' s H0 C cl fp F v σ S H Q r hE hW fun δ' w2 σ' S' H' k' s1 hE1 W1 o1 l1 => ?_
    refine hK δ' w2 σ' S' H' (fun s H0 C cl fp => ?_) s1 hE1 W1 o1 l1
    intro F2 σ2 S2 H2 Q2 hE2 W2 hK2
    refine k' s H0 C cl fp F2 σ2 S2 H2 Q2 hE2 W2 fun b w3 S3 H3 k3 s3 W3 => ?_
    refine hK2 b w3 S3 H3 ?_ s3 W3
    cases b with
    | true =>
      have k3' := (if_pos (c := true = true) rfl) ▸ k3
      rw [if_pos rfl]
      intro s H0 C cl fp
      refine (k3' s H0 C cl fp).imp fun y w4 ⟨b, e1, e2, e3⟩ => ⟨bs ++ [b], ?_, ?_⟩
      · rw [e1, List.map_append]
        rfl
      · have et : xss.take (i + 1) = xss.take i ++ [x] := by
          rw [List.take_succ, e]
          rfl
        rw [et, e3]
        exact o.snoc e2
    | false => exact (show False from k3).elim
end
end DL

set_option Elab.async false
set_option linter.all false
set_option maxRecDepth 100000
set_option maxHeartbeats 1000000
/-! k35: _law_copy: standing, owned. -/
namespace Tw
open PySem PySem.Spec PyProof.Rows L2 LamX DL
/-- copied, all that is new is owned -/
def spCpyO : SpD := fun ds w κ χ => ∃ xss : List (List D), ds = [.lst (xss.map D.lst)] ∧ xss.length ≤ 900 ∧ ∀ (bs : List Addr) (w1 : Wp) (a : Addr), Owns w bs xss w1 → w1 a = none → κ (R a) (wu w1 a (.lst (bs.map R)))
def spCpyS : SpD := fun ds w κ χ => ∃ xss : List (List D), ds = [.lst (xss.map D.lst)] ∧ xss.length ≤ 900 ∧ κ (.lst (xss.map D.lst)) w
section
variable {P : Program} {w : PySem.World} {K : PySem.W.Frag} {mg : Str → Option Value} {base : Heap} {T : List (Addr × Str)}
theorem bt_listC : bootBuiltins "list" = some (.type "list") := by decide +kernel
theorem ok_cpyS {f : Addr} {fd : FuncData} (G : Fun K "_law_copy" "_law_copy" sCpy f fd) (hL : mg "list" = none) : FnOk P w K mg base CX0 1 f fd ["lines"] (spOf K T spCpyS) := by
  refine fnD G scCpy (fun ds w κ χ h => ?_) (fun cdv A outer s H E ds w0 κ χ hr h => ?_)
  · obtain ⟨xss, rfl, _⟩ := h
    rfl
  obtain ⟨xss, rfl, hz, k⟩ := h
  have nd := scCpy.nd
  refine pssd_one (psd_ret ?_)
  refine pd_lc (own := [("line", 1)]) (is := [1]) rfl nd (blkOk_by rfl) (by decide) ?_
  refine it_list ?_
  refine pd_var (i := 0) rfl rfl ?_
  refine ⟨_, rfl, ?_⟩
  refine lcd_map D.lst (by rw [sizeLine_eq]; omega) (fun m hm0 s H0 C cl fp => ?_) k
  refine pgl_name (i := 1) nd rfl ?_
  intro s H0 C cl fp
  refine ptsd_nil ?_
  rw [if_pos rfl]
  intro s H0 C cl fp
  refine pd_callTy call_list_of rfl hL bt_listC ?_
  (refine pad_cons ?_; refine pd_var (i := 1) rfl rfl ?_)
  refine pad_nil ?_
  exact va_listS ⟨rfl, rfl, rfl⟩
theorem ok_cpyO {f : Addr} {fd : FuncData} (G : Fun K "_law_copy" "_law_copy" sCpy f fd) (hL : mg "list" = none) : FnOk P w K mg base CX0 1 f fd ["lines"] (spOf K T spCpyO) := by
  refine fnD G scCpy (fun ds w κ χ h => ?_) (fun cdv A outer s H E ds w0 κ χ hr h => ?_)
  · obtain ⟨xss, rfl, _⟩ := h
    rfl
  obtain ⟨xss, rfl, hz, k⟩ := h
  have nd := scCpy.nd
  refine pssd_one (psd_ret ?_)
  refine pd_lcO (own := [("line", 1)]) (is := [1]) rfl nd (blkOk_by rfl) (by decide) ?_
  refine it_list ?_
  refine pd_var (i := 0) rfl rfl ?_
  refine ⟨_, rfl, ?_⟩
  refine lcd_own (by rw [sizeLine_eq]; omega) (fun x hx w' s H0 C cl fp => ?_) fun bs w1 ow a na => k bs w1 a ow na
  refine pgl_name (i := 1) nd rfl ?_
  intro s H0 C cl fp
  refine ptsd_nil ?_
  rw [if_pos rfl]
  intro s H0 C cl fp
  refine pd_callTy call_list_of rfl hL bt_listC ?_
  (refine pad_cons ?_; refine pd_var (i := 1) rfl rfl ?_)
  refine pad_nil ?_
  exact va_listO fun b n => ⟨b, rfl, n, rfl⟩
end
end Tw

set_option Elab.async false
set_option linter.all false
set_option maxRecDepth 100000
set_option maxHeartbeats 2000000
/-! k35: _law_word, _law_parts. -/
namespace Tw
open PySem PySem.Spec PyProof.Rows L2 LamX DL
abbrev sWrd : Stmt := top 15
abbrev sPrt : Stmt := top 16
def menW : List Str := ["yes", "no", "-", "unsure", "", "ac", "yes+no", " ", "Yes", "no ", "+", "-"]
def mrkA : Str := " !\"#$&'()*+,-./0123456789:;<=>?@ABCDEFGHIJKLMNOPQRSTUVWXYZ[\\]^_`"
def mrkB : Str := "abcdefghijklmnopqrstuvwxyz{|}~"
/-- a word of the law -/
structure WdOk (s : Str) : Prop where
  len : s.length ≤ 6
  sg : ∀ c ∈ cl s, 32 ≤ c ∧ c ≤ 126
theorem men_ok : ∀ s ∈ menW, s.length ≤ 6 ∧ ∀ c ∈ cl s, 32 ≤ c ∧ c ≤ 126 := by decide +kernel
theorem mrk_ok : ∀ c ∈ cl (mrkA ++ mrkB), 32 ≤ c ∧ c ≤ 126 := by decide +kernel
theorem mrk_len : (mrkA ++ mrkB).length ≤ 100 ∧ 0 < (mrkA ++ mrkB).length ∧ mrkA.length ≤ 100 ∧ mrkB.length ≤ 100 := by decide +kernel
def spWrd : SpD := fun ds w κ χ => ∃ (a : Addr) (b : Bg), ds = [R a] ∧ BgAt w a b ∧ BgOk b ∧ ∀ (s : Str) (b' : Bg), BgOk b' → WdOk s → κ (DL.T s) (bgPut w a b')
/-- steps and words of a machine -/
structure PtOk (n m : Nat) (pool : List Str) (st : List (List Int)) (wo : List (List Str)) : Prop where
  ls : st.length = m
  lw : wo.length = m
  rs : ∀ x ∈ st, x.length = n ∧ ∀ y ∈ x, 0 ≤ y ∧ y < (m : Int)
  rw : ∀ x ∈ wo, x.length = n ∧ ∀ y ∈ x, y ∈ pool
def stD (st : List (List Int)) : D := .lst (st.map fun x => .lst (x.map I))
def woD (wo : List (List Str)) : D := .lst (wo.map fun x => .lst (x.map DL.T))
def spPrt : SpD := fun ds w κ χ => ∃ (a : Addr) (b : Bg) (sg : Str) (pool : List Str) (m : Nat), ds = [R a, DL.T sg, .lst (pool.map DL.T), I (m : Int)] ∧ BgAt w a b ∧ BgOk b ∧ sg.length ≤ 26 ∧ 0 < pool.length ∧ pool.length ≤ 900 ∧ 1 ≤ m ∧ m ≤ 40 ∧
  ∀ (st : List (List Int)) (wo : List (List Str)) (f : Int) (b' : Bg), BgOk b' → PtOk sg.length m pool st wo → 0 ≤ f → f < (m : Int) → κ (.lst [DL.T sg, stD st, woD wo, I f]) (bgPut w a b')
section
variable {P : Program} {w : PySem.World} {K : PySem.W.Frag} {mg : Str → Option Value} {base : Heap} {T : List (Addr × Str)}
theorem scWrd : FnScope ["bag", "menu", "pick", "marks", "word", "k"] ["bag"] (defScope sWrd) := ⟨rfl, rfl, rfl, by decide +kernel, rfl, by decide +kernel, by decide +kernel⟩
theorem ok_wrd {f : Addr} {fd : FuncData} (G : Fun K "_law_word" "_law_word" sWrd f fd) (hrg : mg "range" = none) (hL : mg "len" = none) (hT : HasF P w K mg base T CX0 "_law_take" 1 ["bag", "size"] spTake) : FnOk P w K mg base CX0 2 f fd ["bag"] (spOf K T spWrd) := by
  refine fnD G scWrd (fun ds w κ χ h => ?_) (fun cdv A outer s H E ds w0 κ χ hr h => ?_)
  · obtain ⟨a, b, rfl, _⟩ := h
    rfl
  obtain ⟨a, b, rfl, hb, ok, k⟩ := h
  have nd := scWrd.nd
  refine pssd_cons ?_
  with_reducible refine psd_set (i := 1) ?_ ?_ ?_ ?_ ?_ ?_
  · exact nd
  · rfl
  rotate_left
  · first | exact .inl rfl | exact .inr rfl
  · rfl
  · first | exact .inl rfl | exact .inr rfl
  with_reducible refine pd_lst ?_
  with_reducible refine pad_cons (pd_str ?_) (by with_unfolding_all rfl)
  with_reducible refine pad_cons (pd_str ?_) (by with_unfolding_all rfl)
  with_reducible refine pad_cons (pd_str ?_) (by with_unfolding_all rfl)
  with_reducible refine pad_cons (pd_str ?_) (by with_unfolding_all rfl)
  with_reducible refine pad_cons (pd_str ?_) (by with_unfolding_all rfl)
  with_reducible refine pad_cons (pd_str ?_) (by with_unfolding_all rfl)
  with_reducible refine pad_cons (pd_str ?_) (by with_unfolding_all rfl)
  with_reducible refine pad_cons (pd_str ?_) (by with_unfolding_all rfl)
  with_reducible refine pad_cons (pd_str ?_) (by with_unfolding_all rfl)
  with_reducible refine pad_cons (pd_str ?_) (by with_unfolding_all rfl)
  with_reducible refine pad_cons (pd_str ?_) (by with_unfolding_all rfl)
  with_reducible refine pad_cons (pd_str ?_) (by with_unfolding_all rfl)
  refine pad_nil ⟨by show 12 ≤ sizeLine; decide, ?_⟩
  refine pssd_cons (psd_set (i := 2) nd rfl ?_)
  refine pd_take hT hr (i := 0) rfl rfl hb ok ?_
  refine pd_int ?_
  refine ⟨rfl, _, rfl, by decide, by decide, fun x b1 g0 g1 ok1 => ?_⟩
  obtain ⟨j, rfl⟩ := Int.eq_ofNat_of_zero_le g0
  refine pssd_cons (psd_if ?_)
  refine ptd_cmp op_lt ?_
  refine pd_var (i := 2) rfl rfl ?_
  refine pd_int ?_
  refine vr_I ⟨_, rfl, ?_⟩
  refine ite2 (fun c1 => ?_) (fun c1 => ?_)
  · have lt : j < menW.length := by
      have := of_decide_eq_true c1
      show j < 12
      omega
    refine pssd_one (psd_ret ?_)
    refine pd_ix ix_list ?_
    refine pd_var (i := 1) rfl rfl ?_
    refine pd_var (i := 2) rfl rfl ?_
    have ej : (menW.map DL.T)[j]? = some (DL.T menW[j]) := by
      rw [List.getElem?_map, List.getElem?_eq_getElem lt]
      rfl
    refine vr_ixL (i := j) (d := DL.T menW[j]) ej ?_
    obtain ⟨q1, q2⟩ := men_ok _ (List.getElem_mem lt)
    exact k _ b1 ok1 ⟨q1, q2⟩
  refine pssd_nil ?_
  obtain ⟨ml, ml0, mla, mlb⟩ := mrk_len
  refine pssd_cons (psd_set (i := 3) nd rfl ?_)
  refine pd_str ?_
  refine pssd_cons (psd_set (i := 3) nd rfl ?_)
  refine pd_op op_add_str ?_
  refine pd_var (i := 3) rfl rfl ?_
  refine pd_str ?_
  refine vr_addS (a := mrkA) (b := mrkB) (by rw [sizeLine_eq]; omega) ?_
  refine pssd_cons (psd_set (i := 4) nd rfl ?_)
  refine pd_str ?_
  refine pssd_cons (psd_for PassesOwn.never rfl ?_)
  refine it_range hrg ?_
  refine pd_op op_add ?_
  refine pd_int ?_
  refine pd_take hT hr (i := 0) rfl rfl bg_put ok1 ?_
  refine pd_int ?_
  refine ⟨rfl, _, rfl, by decide, by decide, fun x b2 g2 g3 ok2 => ?_⟩
  rw [bg_put2]
  refine vr_I ?_
  obtain ⟨n, en⟩ := Int.eq_ofNat_of_zero_le (show 0 ≤ 1 + x by omega)
  refine ⟨n, by rw [en], by omega, ?_⟩
  have c0 : cl ("" : Str) = [] := by decide +kernel
  refine ⟨fun i δ' w' => ∃ (z : Str) (q : Bg) (x5 : Option D), δ' = [some (R a), some (.lst (menW.map DL.T)), some (I (j : Int)), some (DL.T (mrkA ++ mrkB)), some (DL.T z), x5] ∧ w' = bgPut w0 a q ∧ BgOk q ∧ z.length = i ∧ ∀ c ∈ cl z, 32 ≤ c ∧ c ≤ 126, ⟨"", b2, none, rfl, rfl, ok2, by decide +kernel, fun c hc => (by rw [c0] at hc; cases hc)⟩, ?_, ?_⟩
  · rintro i d δ' w' hd ⟨z, q, x5, rfl, rfl, okq, zl, zc⟩
    obtain ⟨hi, rfl⟩ := ups_at hd
    refine pgd_name (i := 5) nd rfl ?_
    refine pssd_one (psd_set (i := 4) nd rfl ?_)
    refine pd_op op_add_str ?_
    refine pd_var (i := 4) rfl rfl ?_
    refine pd_ix ix_str ?_
    refine pd_var (i := 3) rfl rfl ?_
    refine pd_take hT hr (i := 0) rfl rfl bg_put okq ?_
    refine pd_callB call_len rfl hL PySem.boot_len ?_
    (refine pad_cons ?_; refine pd_var (i := 3) rfl rfl ?_)
    refine pad_nil ?_
    refine va_lenS (by rw [sizeLine_eq]; omega) ?_
    refine ⟨rfl, _, rfl, by omega, lg9' (by omega) (by omega), fun y b3 y0 y1 ok3 => ?_⟩
    rw [bg_put2]
    obtain ⟨m, rfl⟩ := Int.eq_ofNat_of_zero_le y0
    refine vr_ixS (by rw [sizeLine_eq]; omega) (by omega) fun ch hch => ?_
    have l1 : (⟨#[ch]⟩ : Str).length = 1 := rfl
    refine vr_addS (by rw [l1, sizeLine_eq]; omega) ?_
    refine ⟨z ++ ⟨#[ch]⟩, b3, _, rfl, rfl, ok3, by rw [Str.length_append, l1, zl], fun c hc => ?_⟩
    rw [cl_cat] at hc
    rcases List.mem_append.mp hc with h | h
    · exact zc c h
    · have e : c = ch := by simpa using h
      rw [e]
      exact mrk_ok ch hch
  · rintro δ' w' ⟨z, q, x5, rfl, rfl, okq, zl, zc⟩
    rw [ups_len] at zl
    refine pssd_one (psd_ret ?_)
    refine pd_var (i := 4) rfl rfl ?_
    exact k z q okq ⟨by omega, zc⟩
end
end Tw

set_option Elab.async false
set_option linter.all false
set_option maxRecDepth 100000
set_option maxHeartbeats 2000000
/-! k35: _law_parts. -/
namespace DL
open PySem PySem.Spec PyProof.Rows L2 LamX
section
variable {X : Cx} {T : List (Addr × Str)} {W : WX} {χ : XD} {δ : Dn} {w : Wp} {pos : Pos}
theorem it_str {tg e : Expr} {κ : List D → Wp → Prop} (h : PD X T W χ e δ w fun d w1 => ∃ z : Str, d = DL.T z ∧ κ (z.cps.toList.map fun c => DL.T ⟨#[c]⟩) w1) : IterD X T W χ tg e δ w κ :=
  ⟨_, pi_str (pe_wp e), fun F σ S H R hE hW hX hK => by
    refine h F σ S H _ hE hW hX fun d w1 v S1 H1 k s1 W1 r => ?_
    obtain ⟨z, rfl, k⟩ := k
    have r' : v = .str z := r
    subst r'
    refine ⟨z, rfl, ?_⟩
    have ww := walk_str (z := z)
    have el : z.cps.size = (z.cps.toList.map fun c => DL.T ⟨#[c]⟩).length := by rw [List.length_map, Array.length_toList]
    rw [el] at ww
    refine hK _ w1 S1 H1 _ _ _ k s1 W1 ww (fun _ _ _ _ _ _ => trivial) fun i d S2 w2 F2 H2 x H3 hd s2 W2 y => ?_
    obtain ⟨rfl, c, hc, rfl⟩ := y
    rw [List.getElem?_map, Array.getElem?_toList, hc] at hd
    cases hd
    exact ⟨S2, Same.refl _, W2, rfl⟩⟩
end
end DL
namespace Tw
open PySem PySem.Spec PyProof.Rows L2 LamX DL
theorem wd_ne {w : Wp} {a b : Addr} (h : b ≠ a) : wd w a b = w b := if_neg h
theorem wd_same {w : Wp} {a : Addr} : wd w a a = none := if_pos rfl
theorem none_ne {w : Wp} {a b : Addr} {h : HD} (n : w a = none) (s : w b = some h) : a ≠ b := fun z => by
  rw [z, s] at n
  cases n
/-- beside w0: the bag at a is q, and two lists are owned -/
structure F2 (w0 w : Wp) (a a1 a2 : Addr) (q : Bg) (x1 x2 : List D) : Prop where
  pa : BgAt w a q
  h1 : w a1 = some (.lst x1)
  h2 : w a2 = some (.lst x2)
  d1 : a1 ≠ a
  d2 : a2 ≠ a
  d12 : a2 ≠ a1
  n1 : w0 a1 = none
  n2 : w0 a2 = none
  rest : ∀ z, z ≠ a → z ≠ a1 → z ≠ a2 → w z = w0 z
theorem f2_new {w0 : Wp} {a a1 a2 : Addr} {q : Bg} {x1 x2 : List D} (hp : BgAt w0 a q) (n1 : w0 a1 = none) (n2 : wu w0 a1 (.lst x1) a2 = none) : F2 w0 (wu (wu w0 a1 (.lst x1)) a2 (.lst x2)) a a1 a2 q x1 x2 := by
  have e12 : a2 ≠ a1 := none_ne n2 wu_same
  have m2 : w0 a2 = none := by rw [wu_ne e12] at n2; exact n2
  have d1 : a1 ≠ a := none_ne n1 hp
  have d2 : a2 ≠ a := none_ne m2 hp
  refine ⟨?_, ?_, wu_same, d1, d2, e12, n1, m2, fun z z0 z1 z2 => ?_⟩
  · show _ = _
    rw [wu_ne (Ne.symm d2), wu_ne (Ne.symm d1)]
    exact hp
  · rw [wu_ne (Ne.symm e12)]
    exact wu_same
  · rw [wu_ne z2, wu_ne z1]
section
variable {w0 w : Wp} {a a1 a2 : Addr} {q : Bg} {x1 x2 : List D}
theorem F2.take (f : F2 w0 w a a1 a2 q x1 x2) (q' : Bg) : F2 w0 (bgPut w a q') a a1 a2 q' x1 x2 := by
  obtain ⟨pa, h1, h2, d1, d2, d12, n1, n2, rest⟩ := f
  unfold bgPut
  refine ⟨wu_same, ?_, ?_, d1, d2, d12, n1, n2, fun z z0 z1 z2 => ?_⟩
  · rw [wu_ne d1]
    exact h1
  · rw [wu_ne d2]
    exact h2
  · rw [wu_ne z0]
    exact rest z z0 z1 z2
theorem F2.set1 (f : F2 w0 w a a1 a2 q x1 x2) (y : List D) : F2 w0 (wu w a1 (.lst y)) a a1 a2 q y x2 := by
  obtain ⟨pa, h1, h2, d1, d2, d12, n1, n2, rest⟩ := f
  refine ⟨?_, wu_same, ?_, d1, d2, d12, n1, n2, fun z z0 z1 z2 => ?_⟩
  · show _ = _
    rw [wu_ne (Ne.symm d1)]
    exact pa
  · rw [wu_ne d12]
    exact h2
  · rw [wu_ne z1]
    exact rest z z0 z1 z2
theorem F2.set2 (f : F2 w0 w a a1 a2 q x1 x2) (y : List D) : F2 w0 (wu w a2 (.lst y)) a a1 a2 q x1 y := by
  obtain ⟨pa, h1, h2, d1, d2, d12, n1, n2, rest⟩ := f
  refine ⟨?_, ?_, wu_same, d1, d2, d12, n1, n2, fun z z0 z1 z2 => ?_⟩
  · show _ = _
    rw [wu_ne (Ne.symm d2)]
    exact pa
  · rw [wu_ne (Ne.symm d12)]
    exact h1
  · rw [wu_ne z2]
    exact rest z z0 z1 z2
theorem F2.out (f : F2 w0 w a a1 a2 q x1 x2) : wd (wd w a1) a2 = bgPut w0 a q := by
  obtain ⟨pa, h1, h2, d1, d2, d12, n1, n2, rest⟩ := f
  funext z
  unfold bgPut
  by_cases e2 : z = a2
  · rw [e2, wd_same, wu_ne d2, n2]
  · rw [wd_ne e2]
    by_cases e1 : z = a1
    · rw [e1, wd_same, wu_ne d1, n1]
    · rw [wd_ne e1]
      by_cases e : z = a
      · rw [e, wu_same]
        exact pa
      · rw [wu_ne e]
        exact rest z e e1 e2
end
section
variable {P : Program} {w : PySem.World} {K : PySem.W.Frag} {mg : Str → Option Value} {base : Heap} {T : List (Addr × Str)}
theorem scPrt : FnScope ["bag", "signs", "pool", "count", "steps", "words", "state", "sign"] ["bag", "signs", "pool", "count"] (defScope sPrt) := ⟨rfl, rfl, rfl, by decide +kernel, rfl, by decide +kernel, by decide +kernel⟩
theorem ok_prt {f : Addr} {fd : FuncData} (G : Fun K "_law_parts" "_law_parts" sPrt f fd) (hrg : mg "range" = none) (hL : mg "len" = none) (hT : HasF P w K mg base T CX0 "_law_take" 1 ["bag", "size"] spTake) : FnOk P w K mg base CX0 2 f fd ["bag", "signs", "pool", "count"] (spOf K T spPrt) := by
  refine fnD G scPrt (fun ds w κ χ h => ?_) (fun cdv A outer s H E ds w0 κ χ hr h => ?_)
  · obtain ⟨a, b, sg, pool, m, rfl, _⟩ := h
    rfl
  obtain ⟨a, b, sg, pool, m, rfl, hb, ok, sl, p0, p9, m1, m40, k⟩ := h
  have nd := scPrt.nd
  refine pssd_cons (psd_set (i := 4) nd rfl ?_)
  refine pd_lstO ?_
  refine pad_nil ⟨by show 0 ≤ sizeLine; decide, fun a1 n1 => ?_⟩
  refine pssd_cons (psd_set (i := 5) nd rfl ?_)
  refine pd_lstO ?_
  refine pad_nil ⟨by show 0 ≤ sizeLine; decide, fun a2 n2 => ?_⟩
  have F0 := f2_new (x1 := []) (x2 := []) hb n1 n2
  generalize wu (wu w0 a1 (.lst [])) a2 (.lst []) = w1 at F0 ⊢
  have lsg : (sg.cps.toList.map fun c => DL.T ⟨#[c]⟩).length = sg.length := by
    rw [List.length_map, Array.length_toList]
    rfl
  refine pssd_cons (psd_for PassesOwn.never rfl ?_)
  refine it_range hrg ?_
  refine pd_var (i := 3) rfl rfl ?_
  refine ⟨m, rfl, by omega, ?_⟩
  refine ⟨fun i δ' w' => ∃ (st : List (List Int)) (wo : List (List Str)) (q : Bg) (x6 : Option D), δ' = [some (R a), some (DL.T sg), some (.lst (pool.map DL.T)), some (I (m : Int)), some (R a1), some (R a2), x6, none] ∧ BgOk q ∧ F2 w0 w' a a1 a2 q (st.map fun x => .lst (x.map I)) (wo.map fun x => .lst (x.map DL.T)) ∧ st.length = i ∧ wo.length = i ∧ (∀ x ∈ st, x.length = sg.length ∧ ∀ y ∈ x, 0 ≤ y ∧ y < (m : Int)) ∧ ∀ x ∈ wo, x.length = sg.length ∧ ∀ y ∈ x, y ∈ pool, ⟨[], [], b, none, rfl, ok, F0, rfl, rfl, fun x h => (by cases h), fun x h => (by cases h)⟩, ?_, ?_⟩
  · rintro i d δ' w' hd ⟨st, wo, q, x6, rfl, okq, F1, ls, lw, hs, hw⟩
    obtain ⟨hi, rfl⟩ := ups_at hd
    refine pgd_name (i := 6) nd rfl ?_
    refine pssd_cons (psd_expr ?_)
    refine pd_bm PySem.F.plainAttrs_list PySem.F.slot_list_append PySem.F.type_list_append mt_append ?_
    refine pd_var (i := 4) rfl rfl ?_
    refine ⟨⟨rfl, _, F1.h1⟩, ?_⟩
    refine pad_cons ?_
    refine pd_lc (own := [("sign", 7)]) (is := [7]) rfl nd (blkOk_by rfl) (by decide) ?_
    refine it_str ?_
    refine pd_var (i := 1) rfl rfl ?_
    refine ⟨sg, rfl, ?_⟩
    refine ⟨by rw [lsg, sizeLine_eq]; omega, fun j acc w2 => ∃ (xs : List Int) (q : Bg), acc = xs.map I ∧ xs.length = j ∧ (∀ y ∈ xs, 0 ≤ y ∧ y < (m : Int)) ∧ BgOk q ∧ F2 w0 w2 a a1 a2 q (st.map fun x => .lst (x.map I)) (wo.map fun x => .lst (x.map DL.T)), ⟨[], q, rfl, rfl, fun y h => (by cases h), okq, F1⟩, ?_, ?_⟩
    · rintro j d acc w2 hd ⟨xs, q, rfl, xl, xo, okq, F2'⟩ s H0 C cl fp
      refine pgl_name (i := 7) nd rfl ?_
      intro s H0 C cl fp
      refine ptsd_nil ?_
      rw [if_pos rfl]
      intro s H0 C cl fp
      refine pd_take hT hr (i := 0) rfl rfl F2'.pa okq ?_
      refine pd_var (i := 3) rfl rfl ?_
      refine ⟨rfl, _, rfl, by omega, lg9' (by omega) (by omega), fun y b3 y0 y1 ok3 => ?_⟩
      refine ⟨xs ++ [y], b3, by rw [List.map_append]; rfl, by rw [List.length_append, xl]; rfl, fun z hz => ?_, ok3, F2'.take b3⟩
      rcases List.mem_append.mp hz with h | h
      · exact xo z h
      · rw [List.mem_singleton.mp h]
        exact ⟨y0, y1⟩
    rintro acc w2 ⟨xs, q2, rfl, xl, xo, ok2, F3⟩
    rw [lsg] at xl
    refine pad_nil ?_
    refine vm_append F3.h1 (by rw [List.length_map, sizeLine_eq]; omega) ?_
    have e1 : (st.map fun x => D.lst (x.map I)) ++ [D.lst (xs.map I)] = (st ++ [xs]).map fun x => D.lst (x.map I) := by
      rw [List.map_append]
      rfl
    rw [e1]
    have F4 := F3.set1 ((st ++ [xs]).map fun x => D.lst (x.map I))
    generalize wu w2 a1 (.lst ((st ++ [xs]).map fun x => D.lst (x.map I))) = w3 at F4 ⊢
    refine pssd_one (psd_expr ?_)
    refine pd_bm PySem.F.plainAttrs_list PySem.F.slot_list_append PySem.F.type_list_append mt_append ?_
    refine pd_var (i := 5) rfl rfl ?_
    refine ⟨⟨rfl, _, F4.h2⟩, ?_⟩
    refine pad_cons ?_
    refine pd_lc (own := [("sign", 7)]) (is := [7]) rfl nd (blkOk_by rfl) (by decide) ?_
    refine it_str ?_
    refine pd_var (i := 1) rfl rfl ?_
    refine ⟨sg, rfl, ?_⟩
    refine ⟨by rw [lsg, sizeLine_eq]; omega, fun j acc w2 => ∃ (ys : List Str) (q : Bg), acc = ys.map DL.T ∧ ys.length = j ∧ (∀ y ∈ ys, y ∈ pool) ∧ BgOk q ∧ F2 w0 w2 a a1 a2 q ((st ++ [xs]).map fun x => .lst (x.map I)) (wo.map fun x => .lst (x.map DL.T)), ⟨[], q2, rfl, rfl, fun y h => (by cases h), ok2, F4⟩, ?_, ?_⟩
    · rintro j d acc w2 hd ⟨ys, q, rfl, yl, yo, okq, F2'⟩ s H0 C cl fp
      refine pgl_name (i := 7) nd rfl ?_
      intro s H0 C cl fp
      refine ptsd_nil ?_
      rw [if_pos rfl]
      intro s H0 C cl fp
      refine pd_ix ix_list ?_
      refine pd_var (i := 2) rfl rfl ?_
      refine pd_take hT hr (i := 0) rfl rfl F2'.pa okq ?_
      refine pd_callB call_len_seq rfl hL PySem.boot_len ?_
      (refine pad_cons ?_; refine pd_var (i := 2) rfl rfl ?_)
      refine pad_nil ?_
      refine va_len ?_
      rw [List.length_map]
      refine ⟨rfl, _, rfl, by omega, lg9' (by omega) (by omega), fun y b3 y0 y1 ok3 => ?_⟩
      obtain ⟨n, rfl⟩ := Int.eq_ofNat_of_zero_le y0
      have hn : n < pool.length := by omega
      refine vr_ixL (i := n) (d := DL.T pool[n]) (by rw [List.getElem?_map, List.getElem?_eq_getElem hn]; rfl) ?_
      refine ⟨ys ++ [pool[n]], b3, by rw [List.map_append]; rfl, by rw [List.length_append, yl]; rfl, fun z hz => ?_, ok3, F2'.take b3⟩
      rcases List.mem_append.mp hz with h | h
      · exact yo z h
      · rw [List.mem_singleton.mp h]
        exact List.getElem_mem hn
    rintro acc w2 ⟨ys, q3, rfl, yl, yo, ok3, F5⟩
    rw [lsg] at yl
    refine pad_nil ?_
    refine vm_append F5.h2 (by rw [List.length_map, sizeLine_eq]; omega) ?_
    have e2 : (wo.map fun x => D.lst (x.map DL.T)) ++ [D.lst (ys.map DL.T)] = (wo ++ [ys]).map fun x => D.lst (x.map DL.T) := by
      rw [List.map_append]
      rfl
    rw [e2]
    refine ⟨st ++ [xs], wo ++ [ys], q3, _, rfl, ok3, F5.set2 _, by rw [List.length_append, ls]; rfl, by rw [List.length_append, lw]; rfl, fun x hx => ?_, fun x hx => ?_⟩
    · rcases List.mem_append.mp hx with h | h
      · exact hs x h
      · rw [List.mem_singleton.mp h]
        exact ⟨xl, xo⟩
    · rcases List.mem_append.mp hx with h | h
      · exact hw x h
      · rw [List.mem_singleton.mp h]
        exact ⟨yl, yo⟩
  · rintro δ' w' ⟨st, wo, q, x6, rfl, okq, F1, ls, lw, hs, hw⟩
    rw [ups_len] at ls lw
    refine pssd_freeze 4 rfl F1.h1 ?_
    refine pssd_freeze 5 rfl (by rw [wd_ne F1.d12]; exact F1.h2) ?_
    rw [F1.out]
    refine pssd_one (psd_ret ?_)
    refine pd_lst ?_
    (refine pad_cons ?_; refine pd_var (i := 1) rfl rfl ?_)
    (refine pad_cons ?_; refine pd_var (i := 4) rfl rfl ?_)
    (refine pad_cons ?_; refine pd_var (i := 5) rfl rfl ?_)
    refine pad_cons ?_
    refine pd_take hT hr (i := 0) rfl rfl bg_put okq ?_
    refine pd_var (i := 3) rfl rfl ?_
    refine ⟨rfl, _, rfl, by omega, lg9' (by omega) (by omega), fun y b3 y0 y1 ok3 => ?_⟩
    rw [bg_put2]
    refine pad_nil ⟨by show 4 ≤ sizeLine; decide, ?_⟩
    exact k st wo y b3 ok3 ⟨ls, lw, hs, hw⟩ y0 y1
end
end Tw

set_option Elab.async false
set_option linter.all false
set_option maxRecDepth 100000
set_option maxHeartbeats 2000000
/-! text.find(sign); _law_run of k35. -/
namespace DL
open PySem PySem.Spec PyProof.Rows L2 LamX
theorem idx_first {c : Nat} : ∀ {l : List Nat} {i : Nat}, l[i]? = some c → l.idxOf c ≤ i
  | [], i, h => by simp at h
  | a :: l, 0, h => by
    cases h
    rw [List.idxOf_cons_self]
    exact Nat.le_refl _
  | a :: l, i + 1, h => by
    rw [List.idxOf_cons]
    cases e : a == c with
    | true => exact Nat.zero_le _
    | false => exact Nat.succ_le_succ (idx_first (l := l) (by simpa using h))
/-- where a sign of the text stands first -/
theorem find_one {s : Str} {c : Nat} (h : c ∈ cl s) : Txt.find s (letS c) = (((cl s).idxOf c : Nat) : Int) := by
  unfold Txt.find
  have lt : (cl s).idxOf c < (cl s).length := List.idxOf_lt_length_of_mem h
  have at_ : (cl s)[(cl s).idxOf c]? = some c := by rw [List.getElem?_eq_getElem lt, List.getElem_idxOf lt]
  rcases StrLaws.occ_head s (letS c) 1 (Nat.le_refl _) with ⟨h0, hn⟩ | ⟨i, r, h0, ha, hn⟩
  · exact absurd ((StrLaws.subAt_one s c _).mpr at_) (hn _)
  · rw [h0]
    show (i : Int) = _
    have hi : (cl s)[i]? = some c := (StrLaws.subAt_one s c i).mp ha
    have l1 := idx_first hi
    have l2 : ¬ (cl s).idxOf c < i := fun z => hn _ z ((StrLaws.subAt_one s c _).mpr at_)
    omega
theorem vm_find1 {a : Str} {c : Nat} {κ : D → Wp → Prop} {K : PySem.W.Frag} {T : List (Addr × Str)} {w : Wp} (h : c ∈ cl a) (k : κ (I (((cl a).idxOf c : Nat) : Int)) w) : VRM K T (fun x xs H Q => ∃ a b, x = .str a ∧ xs = [.str b] ∧ Q (.int (Txt.find a b)) H) (DL.T a) [DL.T (letS c)] w κ := fun F S H x xs Q hW r1 r2 hK => by
  obtain ⟨y, ys, rfl, h1, h2⟩ := r2
  have h1' : y = .str (letS c) := h1
  have h2' : ys = [] := h2
  subst h1' h2'
  refine ⟨a, _, r1, rfl, ?_⟩
  rw [find_one h]
  exact hK _ w _ S H k (Same.refl _) hW rfl
end DL
namespace Tw
open PySem PySem.Spec PyProof.Rows L2 LamX DL
abbrev sRun : Stmt := top 20
abbrev sRow : Stmt := top 21
/-- the states and words of a row -/
def runS (sg : Str) (st : List (List Int)) (wo : List (List Str)) : Nat → List Nat → List Str × Nat
  | s, [] => ([], s)
  | s, c :: cs =>
    let p := (cl sg).idxOf c
    let r := runS sg st wo ((st.getD s []).getD p 0).toNat cs
    ((wo.getD s []).getD p "" :: r.1, r.2)
theorem run_snoc {sg : Str} {st : List (List Int)} {wo : List (List Str)} {c : Nat} : ∀ {cs : List Nat} {s : Nat}, runS sg st wo s (cs ++ [c]) = ((runS sg st wo s cs).1 ++ [(wo.getD (runS sg st wo s cs).2 []).getD ((cl sg).idxOf c) ""], ((st.getD (runS sg st wo s cs).2 []).getD ((cl sg).idxOf c) 0).toNat)
  | [], s => rfl
  | d :: cs, s => by
    show (_ :: (runS sg st wo _ (cs ++ [c])).1, (runS sg st wo _ (cs ++ [c])).2) = _
    rw [run_snoc]
    rfl
theorem run_lt {sg : Str} {m : Nat} {pool : List Str} {st : List (List Int)} {wo : List (List Str)} (P : PtOk sg.length m pool st wo) : ∀ {cs : List Nat} {s : Nat}, s < m → (∀ c ∈ cs, c ∈ cl sg) → (runS sg st wo s cs).2 < m
  | [], s, hs, _ => hs
  | c :: cs, s, hs, h => by
    show (runS sg st wo ((st.getD s []).getD ((cl sg).idxOf c) 0).toNat cs).2 < m
    refine run_lt P (cs := cs) ?_ fun d hd => h d (List.mem_cons_of_mem _ hd)
    have hst : s < st.length := by rw [P.ls]; exact hs
    have r := P.rs _ (List.getElem_mem hst)
    have lp : (cl sg).idxOf c < (cl sg).length := List.idxOf_lt_length_of_mem (h c List.mem_cons_self)
    have ll : (cl sg).length = sg.length := Array.length_toList
    have lq : (cl sg).idxOf c < st[s].length := by rw [r.1]; omega
    have e1 : st.getD s [] = st[s] := by
      rw [List.getD_eq_getElem?_getD, List.getElem?_eq_getElem hst]
      rfl
    have e2 : st[s].getD ((cl sg).idxOf c) 0 = st[s][(cl sg).idxOf c] := by
      rw [List.getD_eq_getElem?_getD, List.getElem?_eq_getElem lq]
      rfl
    rw [e1, e2]
    have := r.2 _ (List.getElem_mem lq)
    omega
def partD (sg : Str) (st : List (List Int)) (wo : List (List Str)) (f : Int) : D := .lst [DL.T sg, stD st, woD wo, I f]
def spRun : SpD := fun ds w κ χ => ∃ (sg row : Str) (m f : Nat) (pool : List Str) (st : List (List Int)) (wo : List (List Str)), ds = [partD sg st wo (f : Int), DL.T row] ∧ PtOk sg.length m pool st wo ∧ f < m ∧ row.length ≤ 900 ∧ (∀ c ∈ cl row, c ∈ cl sg) ∧
  κ (.tup [.lst ((runS sg st wo f (cl row)).1.map DL.T), I ((runS sg st wo f (cl row)).2 : Int)]) w
section
variable {P : Program} {w : PySem.World} {K : PySem.W.Frag} {mg : Str → Option Value} {base : Heap} {T : List (Addr × Str)}
theorem scRun : FnScope ["parts", "row", "state", "words", "sign", "place"] ["parts", "row"] (defScope sRun) := ⟨rfl, rfl, rfl, by decide +kernel, rfl, by decide +kernel, by decide +kernel⟩
theorem ok_run {f : Addr} {fd : FuncData} (G : Fun K "_law_run" "_law_run" sRun f fd) : FnOk P w K mg base CX0 1 f fd ["parts", "row"] (spOf K T spRun) := by
  refine fnD G scRun (fun ds w κ χ h => ?_) (fun cdv A outer s H E ds w0 κ χ hr h => ?_)
  · obtain ⟨sg, row, m, f, pool, st, wo, rfl, _⟩ := h
    rfl
  obtain ⟨sg, row, m, f, pool, st, wo, rfl, hP, hf, rl, rin, k⟩ := h
  have nd := scRun.nd
  have ll : (cl sg).length = sg.length := Array.length_toList
  have lr : (cl row).length = row.length := Array.length_toList
  refine pssd_cons (psd_set (i := 2) nd rfl ?_)
  refine pd_ix ix_list ?_
  refine pd_var (i := 0) rfl rfl ?_
  refine pd_int ?_
  refine vr_ixL (i := 3) rfl ?_
  refine pssd_cons (psd_set (i := 3) nd rfl ?_)
  refine pd_lstO ?_
  refine pad_nil ⟨by show 0 ≤ sizeLine; decide, fun a na => ?_⟩
  refine pssd_cons (psd_for PassesOwn.never rfl ?_)
  refine it_str ?_
  refine pd_var (i := 1) rfl rfl ?_
  refine ⟨row, rfl, ?_⟩
  refine ⟨fun i δ' w' => ∃ x4 x5 : Option D, δ' = [some (partD sg st wo (f : Int)), some (DL.T row), some (I ((runS sg st wo f ((cl row).take i)).2 : Int)), some (R a), x4, x5] ∧ w' = wu w0 a (.lst ((runS sg st wo f ((cl row).take i)).1.map DL.T)) ∧ (runS sg st wo f ((cl row).take i)).1.length = i, ⟨none, none, rfl, rfl, rfl⟩, ?_, ?_⟩
  · rintro i d δ' w' hd ⟨x4, x5, rfl, rfl, rn⟩
    rw [List.getElem?_map] at hd
    cases e : (cl row)[i]? with
    | none =>
      rw [show row.cps.toList[i]? = none from e] at hd
      cases hd
    | some c =>
      rw [show row.cps.toList[i]? = some c from e] at hd
      cases hd
      have hc := rin c (List.mem_of_getElem? e)
      have lt := (List.getElem?_eq_some_iff.mp e).1
      have tk : (cl row).take (i + 1) = (cl row).take i ++ [c] := by rw [List.take_add_one, e]; rfl
      have inn : ∀ d ∈ (cl row).take i, d ∈ cl sg := fun d hd => rin d (List.mem_of_mem_take hd)
      have sl := run_lt hP (cs := (cl row).take i) hf inn
      have hs := run_snoc (sg := sg) (st := st) (wo := wo) (c := c) (cs := (cl row).take i) (s := f)
      rw [← tk] at hs
      have lp : (cl sg).idxOf c < (cl sg).length := List.idxOf_lt_length_of_mem hc
      refine pgd_name (i := 4) nd rfl ?_
      refine pssd_cons (psd_set (i := 5) nd rfl ?_)
      refine pd_bm PySem.F.plainAttrs_str PySem.F.slot_str_find PySem.F.type_str_find mt_find ?_
      refine pd_ix ix_list ?_
      refine pd_var (i := 0) rfl rfl ?_
      refine pd_int ?_
      refine vr_ixL (i := 0) rfl ?_
      refine ⟨rfl, ?_⟩
      refine pad_cons ?_
      refine pd_var (i := 4) rfl rfl ?_
      refine pad_nil (vm_find1 hc ?_)
      generalize (cl sg).idxOf c = p at lp hs
      generalize runS sg st wo f ((cl row).take i) = r at sl hs rn
      obtain ⟨rw_, rs⟩ := r
      have rs' : rs < m := sl
      have hst : rs < st.length := by rw [hP.ls]; exact rs'
      have hwo : rs < wo.length := by rw [hP.lw]; exact rs'
      have r1 := hP.rs _ (List.getElem_mem hst)
      have r2 := hP.rw _ (List.getElem_mem hwo)
      have q1 : p < st[rs].length := by rw [r1.1]; omega
      have q2 : p < wo[rs].length := by rw [r2.1]; omega
      have g1 : (wo.map fun x => D.lst (x.map DL.T))[rs]? = some (.lst (wo[rs].map DL.T)) := by
        rw [List.getElem?_map, List.getElem?_eq_getElem hwo]
        rfl
      have g2 : (st.map fun x => D.lst (x.map I))[rs]? = some (.lst (st[rs].map I)) := by
        rw [List.getElem?_map, List.getElem?_eq_getElem hst]
        rfl
      refine pssd_cons (psd_expr ?_)
      refine pd_bm PySem.F.plainAttrs_list PySem.F.slot_list_append PySem.F.type_list_append mt_append ?_
      refine pd_var (i := 3) rfl rfl ?_
      refine ⟨⟨rfl, _, wu_same⟩, ?_⟩
      refine pad_cons ?_
      refine pd_ix ix_list ?_
      refine pd_ix ix_list ?_
      refine pd_ix ix_list ?_
      refine pd_var (i := 0) rfl rfl ?_
      refine pd_int ?_
      refine vr_ixL (i := 2) rfl ?_
      refine pd_var (i := 2) rfl rfl ?_
      refine vr_ixL (i := rs) g1 ?_
      refine pd_var (i := 5) rfl rfl ?_
      refine vr_ixL (i := p) (d := DL.T wo[rs][p]) (by rw [List.getElem?_map, List.getElem?_eq_getElem q2]; rfl) ?_
      refine pad_nil ?_
      have rn' : rw_.length = i := rn
      refine vm_append wu_same (by rw [List.length_map, sizeLine_eq]; omega) ?_
      rw [wu_wu]
      refine pssd_one (psd_set (i := 2) nd rfl ?_)
      refine pd_ix ix_list ?_
      refine pd_ix ix_list ?_
      refine pd_ix ix_list ?_
      refine pd_var (i := 0) rfl rfl ?_
      refine pd_int ?_
      refine vr_ixL (i := 1) rfl ?_
      refine pd_var (i := 2) rfl rfl ?_
      refine vr_ixL (i := rs) g2 ?_
      refine pd_var (i := 5) rfl rfl ?_
      refine vr_ixL (i := p) (d := I st[rs][p]) (by rw [List.getElem?_map, List.getElem?_eq_getElem q1]; rfl) ?_
      have v1 : (wo.getD rs []).getD p "" = wo[rs][p] := by
        have e1 : wo.getD rs [] = wo[rs] := by
          rw [List.getD_eq_getElem?_getD, List.getElem?_eq_getElem hwo]
          rfl
        rw [e1, List.getD_eq_getElem?_getD, List.getElem?_eq_getElem q2]
        rfl
      have v2 : (st.getD rs []).getD p 0 = st[rs][p] := by
        have e1 : st.getD rs [] = st[rs] := by
          rw [List.getD_eq_getElem?_getD, List.getElem?_eq_getElem hst]
          rfl
        rw [e1, List.getD_eq_getElem?_getD, List.getElem?_eq_getElem q1]
        rfl
      have hs' : runS sg st wo f ((cl row).take (i + 1)) = (rw_ ++ [wo[rs][p]], (st[rs][p]).toNat) := by
        rw [hs]
        show (rw_ ++ [(wo.getD rs []).getD p ""], ((st.getD rs []).getD p 0).toNat) = _
        rw [v1, v2]
      have pos := (r1.2 _ (List.getElem_mem q1)).1
      have e3 : ((st[rs][p]).toNat : Int) = st[rs][p] := by omega
      refine ⟨some (DL.T (letS c)), some (I (p : Int)), ?_, ?_, ?_⟩
      · rw [hs']
        show _ = [_, _, some (I ((st[rs][p]).toNat : Int)), _, _, _]
        rw [e3]
        rfl
      · rw [hs']
        show _ = wu _ a (.lst ((rw_ ++ [wo[rs][p]]).map DL.T))
        rw [List.map_append]
        rfl
      · rw [hs']
        show (rw_ ++ [wo[rs][p]]).length = i + 1
        rw [List.length_append, rn']
        rfl
  · rintro δ' w' ⟨x4, x5, rfl, rfl, rn⟩
    have e4 : (row.cps.toList.map fun c => DL.T ⟨#[c]⟩).length = (cl row).length := by rw [List.length_map]
    rw [e4, List.take_length]
    refine pssd_freeze 3 rfl wu_same ?_
    rw [wd_wu na]
    refine pssd_one (psd_ret ?_)
    refine pd_tup ?_
    (refine pad_cons ?_; refine pd_var (i := 3) rfl rfl ?_)
    (refine pad_cons ?_; refine pd_var (i := 2) rfl rfl ?_)
    exact pad_nil ⟨by show 2 ≤ sizeLine; decide, k⟩
end
end Tw

set_option Elab.async false
set_option linter.all false
set_option maxRecDepth 100000
set_option maxHeartbeats 2000000
/-! k35: is_sign, _law_row. -/
namespace DL
open PySem PySem.Spec PyProof.Rows L2 LamX
section
variable {X : Cx} {T : List (Addr × Str)} {W : WX} {χ : XD} {δ : Dn} {w : Wp} {pos : Pos}
theorem pd_chain {a b c : Expr} {op op' : CmpOp} {r r' : R2} {κ : D → Wp → Prop} (ho : OpR X (compareOp op) r) (ho' : OpR X (compareOp op') r')
    (h : PD X T W χ a δ w fun d w1 => PD X T W χ b δ w1 fun e w2 => VR2 X.K T r d e w2 fun z w3 => ∃ k : Bool, z = B k ∧ if k = true then PD X T W χ c δ w3 fun f w4 => VR2 X.K T r' e f w4 κ else κ (B false) w3)
    (hm : lastMarks [op, op'] [b, c] = false := by with_unfolding_all rfl) : PD X T W χ (.Compare a [op, op'] [b, c] pos) δ w κ := fun F σ S H Q hE hW hX hK =>
  wp_pe (pe_chain ho ho' (pe_wp a) (pe_wp b) (pe_wp c) hm) (by
    refine h F σ S H _ hE hW hX fun d w1 v S1 H1 k1 s1 W1 r1 => ?_
    refine k1 F σ S1 H1 _ (hE.mono s1) W1 (hX.mono s1) fun e w2 u S2 H2 k2 s2 W2 r2 => ?_
    refine k2 F S2 H2 v u _ W2 (r1.mono s2) r2 fun z w3 x S3 H3 k3 s3 W3 r3 => ?_
    obtain ⟨k, rfl, k3⟩ := k3
    have r3' : x = .bl k := r3
    refine ⟨k, r3', ?_⟩
    have ss := s1.trans (s2.trans s3)
    cases k with
    | true =>
      rw [if_pos rfl] at k3 ⊢
      refine k3 F σ S3 H3 _ (hE.mono ss) W3 (hX.mono ss) fun f w4 y S4 H4 k4 s4 W4 r4 => ?_
      refine k4 F S4 H4 u y _ W4 (r2.mono (s3.trans s4)) r4 fun z' w5 x5 S5 H5 k5 s5 W5 r5 => ?_
      exact hK z' w5 x5 S5 H5 k5 (ss.trans (s4.trans s5)) W5 r5
    | false =>
      rw [if_neg Bool.false_ne_true] at k3 ⊢
      exact hK _ w3 _ S3 H3 k3 ss W3 rfl)
/-- a text as a test -/
theorem ptd_txt {e : Expr} {κ : Bool → Wp → Prop} (h : PD X T W χ e δ w fun d w1 => ∃ z : Str, d = DL.T z ∧ z.length ≤ sizeLine ∧ κ (decide (0 < z.length)) w1)
    (he : ∀ whole, isTrue e X.env whole = (do let v ← whole; standAt e.pos; holding [v] (truthy v)) := by intro _; rfl) : PTD X T W χ e δ w κ := fun F σ S H Q hE hW hX hK =>
  wp_pt (pt_truth (pe_wp e) he) (by
    refine h F σ S H _ hE hW hX fun d w1 v S1 H1 k s1 W1 r => ?_
    obtain ⟨z, rfl, hz, k⟩ := k
    have r' : v = .str z := r
    subst r'
    refine ⟨decide (0 < z.length), ⟨hz, ?_⟩, hK _ w1 S1 H1 k s1 W1⟩
    by_cases h0 : 0 < z.length
    · rw [decide_eq_true h0]
      exact (bne_iff_ne.mpr (by omega)).symm
    · have e : z.length = 0 := by omega
      rw [decide_eq_false h0, e]
      rfl)
end
end DL
namespace Tw
open PySem PySem.Spec PyProof.Rows L2 LamX DL
theorem a_len : cl ("a" : Str) = [97] := by decide +kernel
theorem z_len : cl ("z" : Str) = [122] := by decide +kernel
theorem one_lt (a b : Nat) : decide ([a] < [b]) = decide (a < b) := decide_eq_decide.mpr (by simp [List.cons_lt_cons_iff])
theorem vr_leS {K : PySem.W.Frag} {T : List (Addr × Str)} {w : Wp} {κ : D → Wp → Prop} {a b : Str} (k : κ (B (!decide (cl b < cl a))) w) : VR2 K T (fun x y H Q => ∃ i j, x = .str i ∧ y = .str j ∧ Q (.bl (!decide (j.cps.toList < i.cps.toList))) H) (DL.T a) (DL.T b) w κ := fun F S H x y Q hW r1 r2 hK =>
  ⟨a, b, r1, r2, hK _ w _ S H k (Same.refl _) hW rfl⟩
theorem not_dec {a b : Nat} : (!decide (a < b)) = decide (b ≤ a) := by
  by_cases h : a < b
  · rw [decide_eq_true h, decide_eq_false (by omega)]
    rfl
  · rw [decide_eq_false h, decide_eq_true (by omega)]
    rfl
abbrev sIsSg : Stmt := top 6
def isSg (c : Nat) : Bool := decide (97 ≤ c) && decide (c ≤ 122)
def spIsSg : SpD := fun ds w κ χ => ∃ c : Nat, ds = [DL.T (letS c)] ∧ κ (B (isSg c)) w
def spRow : SpD := fun ds w κ χ => ∃ (a : Addr) (b : Bg) (sg : Str) (n : Nat), ds = [R a, DL.T sg, I (n : Int)] ∧ BgAt w a b ∧ BgOk b ∧ sg.length ≤ 26 ∧ n ≤ 20 ∧ ∀ (r : Str) (b' : Bg), BgOk b' → r.length ≤ n → (∀ c ∈ cl r, c ∈ cl sg) → κ (DL.T r) (bgPut w a b')
section
variable {P : Program} {w : PySem.World} {K : PySem.W.Frag} {mg : Str → Option Value} {base : Heap} {T : List (Addr × Str)}
theorem scIsSg : FnScope ["text"] ["text"] (defScope sIsSg) := ⟨rfl, rfl, rfl, by decide +kernel, rfl, by decide +kernel, by decide +kernel⟩
theorem ok_isSg {f : Addr} {fd : FuncData} (G : Fun K "is_sign" "is_sign" sIsSg f fd) (hL : mg "len" = none) : FnOk P w K mg base CX0 1 f fd ["text"] (spOf K T spIsSg) := by
  refine fnD G scIsSg (fun ds w κ χ h => ?_) (fun cdv A outer s H E ds w0 κ χ hr h => ?_)
  · obtain ⟨c, rfl, _⟩ := h
    rfl
  obtain ⟨c, rfl, k⟩ := h
  refine pssd_one (psd_ret ?_)
  refine pd_and ?_
  refine pd_cmp op_eq ?_
  refine pd_callB call_len rfl hL PySem.boot_len ?_
  (refine pad_cons ?_; refine pd_var (i := 0) rfl rfl ?_)
  refine pad_nil ?_
  have l1 : (letS c).length = 1 := rfl
  refine va_lenS (by rw [l1, sizeLine_eq]; decide) ?_
  refine pd_int ?_
  refine vr_eq rfl ?_
  have e0 : decide (V.int ((letS c).length : Int) = V.int 1) = true := decide_eq_true rfl
  rw [e0]
  refine ⟨_, rfl, ?_⟩
  refine iteT ?_
  refine pd_one ?_
  refine pd_chain op_le_str op_le_str ?_
  refine pd_str ?_
  refine pd_var (i := 0) rfl rfl ?_
  refine vr_leS ?_
  have e1 : cl (letS c) = [c] := rfl
  rw [a_len, e1, one_lt, not_dec]
  refine ⟨_, rfl, ?_⟩
  unfold isSg at k
  by_cases h1 : 97 ≤ c
  · rw [decide_eq_true h1] at k ⊢
    rw [if_pos rfl]
    refine pd_str ?_
    refine vr_leS ?_
    rw [z_len, e1, one_lt, not_dec]
    exact k
  · rw [decide_eq_false h1] at k ⊢
    rw [if_neg Bool.false_ne_true]
    exact k
theorem scRow : FnScope ["bag", "signs", "most", "row", "k"] ["bag", "signs", "most"] (defScope sRow) := ⟨rfl, rfl, rfl, by decide +kernel, rfl, by decide +kernel, by decide +kernel⟩
theorem ok_row {f : Addr} {fd : FuncData} (G : Fun K "_law_row" "_law_row" sRow f fd) (hrg : mg "range" = none) (hL : mg "len" = none) (hT : HasF P w K mg base T CX0 "_law_take" 1 ["bag", "size"] spTake) : FnOk P w K mg base CX0 2 f fd ["bag", "signs", "most"] (spOf K T spRow) := by
  refine fnD G scRow (fun ds w κ χ h => ?_) (fun cdv A outer s H E ds w0 κ χ hr h => ?_)
  · obtain ⟨a, b, sg, n, rfl, _⟩ := h
    rfl
  obtain ⟨a, b, sg, n, rfl, hb, ok, sl, n20, k⟩ := h
  have nd := scRow.nd
  refine pssd_cons (psd_set (i := 3) nd rfl ?_)
  refine pd_str ?_
  refine pssd_cons (psd_for PassesOwn.never rfl ?_)
  refine it_range hrg ?_
  refine pd_take hT hr (i := 0) rfl rfl hb ok ?_
  refine pd_op op_add ?_
  refine pd_var (i := 2) rfl rfl ?_
  refine pd_int ?_
  refine vr_I ⟨rfl, _, rfl, by omega, lg9' (by omega) (by omega), fun x b1 g0 g1 ok1 => ?_⟩
  obtain ⟨m, rfl⟩ := Int.eq_ofNat_of_zero_le g0
  refine ⟨m, rfl, by omega, ?_⟩
  have c0 : cl ("" : Str) = [] := by decide +kernel
  refine ⟨fun i δ' w' => ∃ (z : Str) (q : Bg) (x4 : Option D), δ' = [some (R a), some (DL.T sg), some (I (n : Int)), some (DL.T z), x4] ∧ w' = bgPut w0 a q ∧ BgOk q ∧ z.length ≤ i ∧ ∀ c ∈ cl z, c ∈ cl sg, ⟨"", b1, none, rfl, rfl, ok1, (by decide +kernel), fun c hc => (by rw [c0] at hc; cases hc)⟩, ?_, ?_⟩
  · rintro i d δ' w' hd ⟨z, q, x4, rfl, rfl, okq, zl, zc⟩
    obtain ⟨hi, rfl⟩ := ups_at hd
    refine pgd_name (i := 4) nd rfl ?_
    refine pssd_one (psd_if ?_)
    refine ptd_txt ?_
    refine pd_var (i := 1) rfl rfl ?_
    refine ⟨sg, rfl, by rw [sizeLine_eq]; omega, ?_⟩
    refine ite2 (fun c1 => ?_) (fun c1 => ?_)
    · have pos := of_decide_eq_true c1
      refine pssd_one (psd_set (i := 3) nd rfl ?_)
      refine pd_op op_add_str ?_
      refine pd_var (i := 3) rfl rfl ?_
      refine pd_ix ix_str ?_
      refine pd_var (i := 1) rfl rfl ?_
      refine pd_take hT hr (i := 0) rfl rfl bg_put okq ?_
      refine pd_callB call_len rfl hL PySem.boot_len ?_
      (refine pad_cons ?_; refine pd_var (i := 1) rfl rfl ?_)
      refine pad_nil ?_
      refine va_lenS (by rw [sizeLine_eq]; omega) ?_
      refine ⟨rfl, _, rfl, by omega, lg9' (by omega) (by omega), fun y b3 y0 y1 ok3 => ?_⟩
      rw [bg_put2]
      obtain ⟨j, rfl⟩ := Int.eq_ofNat_of_zero_le y0
      refine vr_ixS (by rw [sizeLine_eq]; omega) (by omega) fun ch hch => ?_
      have l1 : (⟨#[ch]⟩ : Str).length = 1 := rfl
      refine vr_addS (by rw [l1, sizeLine_eq]; omega) ?_
      refine ⟨z ++ ⟨#[ch]⟩, b3, _, rfl, rfl, ok3, by rw [Str.length_append, l1]; omega, fun c hc => ?_⟩
      rw [cl_cat] at hc
      rcases List.mem_append.mp hc with h | h
      · exact zc c h
      · have e : c = ch := by simpa using h
        rw [e]
        exact hch
    · exact pssd_nil ⟨z, q, _, rfl, rfl, okq, by omega, zc⟩
  · rintro δ' w' ⟨z, q, x4, rfl, rfl, okq, zl, zc⟩
    rw [ups_len] at zl
    refine pssd_one (psd_ret ?_)
    refine pd_var (i := 3) rfl rfl ?_
    exact k z q okq (by omega) zc
end
end Tw

set_option Elab.async false
set_option linter.all false
set_option maxRecDepth 100000
set_option maxHeartbeats 1000000
/-! An own error class whose __init__ begins with super().__init__(e, ..), the base's __init__ that of ValueError: the rule for that def. -/
namespace DL
open PySem PySem.Spec PyProof.Rows L2 LamX
open PySem.W (ksEnv)
structure ScopeS (N ps : List Str) (sc : Scope) : Prop where
  kind : sc.kind = .function
  co : sc.isCoroutine = false
  gen : sc.isGenerator = false
  nd : N.Nodup
  pre : N.take ps.length = ps
  par : ∀ x ∈ ps, sc.names.lookup x = some .local
  nocell : ∀ y ∈ sc.names, y.2 ≠ .cell
  nofree : ∀ x, sc.names.lookup x = some .cell ∨ sc.names.lookup x = some .free → x = "__class__"
  cls : sc.names.lookup ("__class__" : Str) = some .free
  sup : sc.names.lookup ("super" : Str) = some .globalImplicit
/-- what the written part says of the def at f, __init__ of the class at C -/
structure SupTxt (P : Program) (K : PySem.W.Frag) (mg : Str → Option Value) (C f cc cda : Addr) (qual : Str) (st : Stmt) (fd : FuncData) : Prop where
  ex : ∃ (oc : Value) (od : Option Addr) (kV doc pm : Value) (an : Option Addr) (ct : Value) (osl : Array (Option Value)),
    fd = PySem.W.fnX "__init__" qual (defArgs st) (defBody st) (defScope st) [("__class__", cc)] .none kV doc pm an (.ref cda) ct ∧ K.lookup f = some ⟨oc, od, .func fd, osl⟩ ∧ PySem.W.codeIn K (.ref cda) qual = true
  code : ∃ (ccl : Value) (cdd : Option Addr) (ccs : Array (Option Value)) (vs : Array Value) (file : Str) (tf : Tok), K.lookup cda = some ⟨ccl, cdd, .fields vs, ccs⟩ ∧ vs[2]? = some (.str file tf) ∧ ((P.main.file : Str) == file) = true
  cell : ∃ (cl : Value) (cld : Option Addr) (csl : Array (Option Value)), K.lookup cc = some ⟨cl, cld, .cell (some (.ref C)), csl⟩
  along : PySem.W.ks_superIn K C C "__init__" = some (some (.builtin "ValueError.__init__"))
  opq : PySem.W.nsIn K cStatics "thirdparty.any" = some none
  sub : PySem.W.subIn K (.ref C) (.type "ValueError") = some true
  selfc : PySem.W.mroIn K C (.ref C) = some true
  mgs : mg "super" = none
  top : (P.main.scope.names.lookup ("super" : Str)).isSome = false
theorem boot_super : bootBuiltins "super" = some (.type "super") := by decide +kernel
def cxS (CX : CXT) (P : Program) (w : PySem.World) (K : PySem.W.Frag) (mg : Str → Option Value) (base : Heap) (N : List Str) (qual : Str) (scope : Scope) (f : Addr) (cd : Value) (cc : Addr) (A : Around) (outer : List Env) (s : Shared) (H : Hp) (E : XK) : Cx where
  prog := P
  w := w
  K := K
  mg := mg
  base := base
  A := A.deeper (ksEnv qual scope s.heap.objs.size f cd cc)
  N := N
  s_0 := s
  H_0 := H
  env := ksEnv qual scope s.heap.objs.size f cd cc
  outer := outer
  stack := ksEnv qual scope s.heap.objs.size f cd cc :: outer
  ex := []
  calm := true
  fn := fun _ => false
  pn := []
  xe := fun e s' => wpAny (model P w) (A.deeper (ksEnv qual scope s.heap.objs.size f cd cc)) (leaving (ksEnv qual scope s.heap.objs.size f cd cc) e) (fun _ s'' => CX outer H s E e s'') (fun e' s'' => CX outer H s E e' s'') s'
theorem look_app {α β : Type} [BEq α] (x : α) : ∀ (a b : List (α × β)), (a ++ b).lookup x = match a.lookup x with | some v => some v | none => b.lookup x
  | [], b => rfl
  | (k, v) :: a, b => by
    have ih := look_app x a b
    cases hb : x == k with
    | true => simp only [List.cons_append, List.lookup, hb]
    | false =>
      simp only [List.cons_append, List.lookup, hb]
      exact ih
theorem look_rev_none {x : Str} : ∀ {l : List (Str × Value)}, x ∉ l.map (·.1) → l.reverse.lookup x = none
  | [], _ => rfl
  | (k, v) :: l, h => by
    rw [List.reverse_cons, look_app, look_rev_none (l := l) fun z => h (List.mem_cons_of_mem _ z)]
    have hb : (x == k) = false := beq_eq_false_iff_ne.mpr fun z => h (by rw [z]; exact List.mem_cons_self ..)
    simp only [List.lookup, hb]
theorem look_rev {x : Str} {u : Value} : ∀ {ps : List Str} {us : List Value} {i : Nat}, ps.Nodup → ps[i]? = some x → us[i]? = some u → (ps.zip us).reverse.lookup x = some u
  | [], _, _, _, h, _ => by simp at h
  | _ :: _, [], _, _, _, h => by simp at h
  | p :: ps, v :: us, 0, nd, h1, h2 => by
    have e1 : p = x := Option.some.inj h1
    have e2 : v = u := Option.some.inj h2
    subst e1 e2
    show ((p, v) :: ps.zip us).reverse.lookup p = some v
    rw [List.reverse_cons, look_app, look_rev_none]
    · simp [List.lookup]
    · intro z
      obtain ⟨q, hq, e⟩ := List.mem_map.mp z
      obtain ⟨a, b⟩ := q
      have e' : a = p := e
      subst e'
      exact (List.nodup_cons.mp nd).1 (List.of_mem_zip hq).1
  | p :: ps, v :: us, i + 1, nd, h1, h2 => by
    show ((p, v) :: ps.zip us).reverse.lookup x = some u
    rw [List.reverse_cons, look_app, look_rev (i := i) (List.nodup_cons.mp nd).2 h1 h2]
theorem inv_startS {CX : CXT} {P : Program} {w : PySem.World} {K : PySem.W.Frag} {mg : Str → Option Value} {base : Heap} {N ps : List Str} {qual : Str} {scope : Scope} {f cc : Addr} {cd : Value} {A : Around} {outer : List Env} {s : Shared} {H : Hp} {E : XK} {us : List Value} {vs : List V} {h1 : Heap} {tk : Nat}
    (S : ScopeS N ps scope) (hd : A.handled = none) (e0 : Env0 P w K mg base A outer s H) (hl : vs.length = ps.length) (r : Vals vs us) (hcc : ∃ (cl : Value) (cld : Option Addr) (csl : Array (Option Value)) (v : Option Value), K.lookup cc = some ⟨cl, cld, .cell v, csl⟩)
    (hns : h1.Ns s.heap.objs.size (fun x => (ps.zip us).reverse.lookup x)) (hk : ∀ b o, s.heap.get? b = some o → h1.get? b = some o) :
    Inv (cxS CX P w K mg base N qual scope f cd cc A outer s H E) [] (L2.start N vs) H { s with heap := h1, toks := tk } := by
  have hpl : ps.length ≤ N.length := by have := congrArg List.length S.pre; rw [List.length_take] at this; omega
  obtain ⟨cl, cld, csl, cv, hcc⟩ := hcc
  have bcc := e0.mod.kin cc _ hcc
  have lk : ∀ y c, List.lookup y [(("__class__" : Str), cc)] = some c → y = "__class__" ∧ c = cc := fun y c h => by
    by_cases e : y = "__class__"
    · subst e
      have : List.lookup ("__class__" : Str) [(("__class__" : Str), cc)] = some cc := by simp [List.lookup]
      rw [this] at h
      exact ⟨rfl, (Option.some.inj h).symm⟩
    · have hb : (y == ("__class__" : Str)) = false := beq_eq_false_iff_ne.mpr e
      simp only [List.lookup, hb] at h
      cases h
  have noA : ∀ b : Addr, b ∉ (cxS CX P w K mg base N qual scope f cd cc A outer s H E).ex := fun b z => absurd (show b ∈ ([] : List Addr) from z) (by simp)
  refine ⟨⟨e0.mod, S.kind, rfl, rfl, Nat.le_refl _, fun y z c h1 h2 => ?_, fun y hy => ?_, fun y c q h => absurd (show false = true from q) Bool.false_ne_true, fun _ => hd, Around.frames_deeper e0.frames, .inr ⟨rfl, rfl⟩, fun b z => absurd z (noA b), e0.bs, e0.bsz, fun b _ _ => noA b, fun b z => absurd z (noA b), e0.funs, e0.frf⟩,
    rfl, e0.bare, Un.kept hk, ⟨_, hns, fun i y v h1 h2 h3 => ?_⟩, fun y c h => ?_, e0.hok.fresh (Nat.le_refl _), fun y c h => ?_, fun p hp => absurd (show p ∈ ([] : List (Addr × Obj)) from hp) (by simp), e0.hok.kept hk, ?_⟩
  · rw [(lk y c h1).1, (lk z c h2).1]
  · have hy : scope.names.lookup y = some .cell ∨ scope.names.lookup y = some .free := hy
    have e := S.nofree y hy
    subst e
    exact ⟨cc, by show List.lookup ("__class__" : Str) [(("__class__" : Str), cc)] = some cc; simp [List.lookup]⟩
  · have hi : i < vs.length := by
      unfold L2.start at h2
      by_cases hi : i < vs.length
      · exact hi
      · rw [List.getElem?_append_right (by simpa using hi)] at h2
        rw [List.getElem?_replicate] at h2
        split at h2 <;> cases h2
    have ha : vs[i]? = some v := by
      unfold L2.start at h2
      rw [List.getElem?_append_left (by simpa using hi), List.getElem?_map] at h2
      cases e : vs[i]? with
      | none => rw [e] at h2; cases h2
      | some a => rw [e] at h2; cases h2; rfl
    obtain ⟨u, hu, rv⟩ := r.get ha
    have hp : ps[i]? = some y := by
      rw [← S.pre, List.getElem?_take_of_lt (by omega)]; exact h1
    have ndP : ps.Nodup := by rw [← S.pre]; exact S.nd.sublist (List.take_sublist _ _)
    exact ⟨u, rv, .inl ⟨S.par y (List.mem_of_getElem? hp), look_rev ndP hp hu⟩⟩
  · obtain ⟨_, rfl⟩ := lk y c h
    exact ⟨_, ⟨_, hk _ _ (e0.bs _ _ bcc).1, rfl⟩⟩
  · obtain ⟨_, rfl⟩ := lk y c h
    exact (e0.bs _ _ bcc).2
  · unfold L2.start
    show _ = N.length
    rw [List.length_append, List.length_map, List.length_replicate]
    omega
/-- the wrapper called -/
theorem call_mw {prog : Program} {w : PySem.World} {A : Around} {E : Value → Shared → Prop} {h : Heap} {g : Array GenState} {d : Drawn} {t : Nat} {os : OsState} {nm q : Str} {C N : Addr} {bs bm : List Value} {hdct : Bool} {sn : List Str} {sub : List Value} {ab : Bool} {col : Option Bool} {dd : Option Addr} {k0 k1 k2 k3 k5 : Option Value}
    {u e t0 : Addr} {rest : List Value} {Q : Value → Shared → Prop}
    (hC : h.get? C = some (excClassObj nm q C N bs bm hdct sn sub ab col dd k0 k1 k2 k3 k5 "ValueError.__new__")) (he : h.get? e = some (HandSPX.excO C t0)) (hu : h.get? u = some (PySem.W.kxs_mw "ValueError.__init__" e)) (hrest : rest.length ≤ sizeLine)
    (hq : ∀ h' t1, (∀ b o, b ≠ e → h.get? b = some o → h'.get? b = some o) → h'.get? e = some (HandSPX.excO C t1) → Q .none ⟨h', g, d, t, os⟩) :
    wpAny (model prog w) A (call (.ref u) rest) Q E ⟨h, g, d, t, os⟩ := by
  refine wpAny_call (codeAny_of_tree ?_)
  show wpAny _ A.in1 (callAny (.ref u) ⟨rest, []⟩) _ _ _
  simp only [callAny]
  refine wpAny_bind (wpAny_load hu ?_)
  simp only [PySem.W.kxs_mw, show (Value.type "method-wrapper" == Value.type "method" || Value.type "method-wrapper" == Value.type "builtin_function_or_method" || Value.type "method-wrapper" == Value.type "method-wrapper") = true by decide, if_true]
  refine PySem.W.KFB.if_so (by decide) ?_
  refine wpAny_bind (PySem.W.check_bound_init F.excBase_ValueError.toExcCallFacts hC he rfl ?_)
  refine wpAny_bind (wpAny_pure (wpAny_pure ?_))
  refine ⟨plainId_quiet F.excBase_ValueError.init.plain _, codeAny_builtin F.excBase_ValueError.initEntry ?_⟩
  rw [Around.under_plainId F.excBase_ValueError.init.plain _]
  wp_walk
  refine hq _ h.objs.size (fun b o hb ho => ?_) ?_
  · rw [Heap.get?_update_other _ _ (Ne.symm hb)]
    exact Heap.get?_push_of_some _ ho
  · rw [Heap.get?_update_self _ (Heap.get?_push_of_some _ he) rfl]
    rfl
end DL

set_option Elab.async false
set_option linter.all false
set_option maxRecDepth 100000
set_option maxHeartbeats 2000000
namespace DL
open PySem PySem.Spec PyProof.Rows L2 LamX
open PySem.W (ksEnv)
theorem callWith_mw {M : Model} {A : Around} {E : Value → Shared → Prop} {s : Shared} {i : String} {u x : Addr} {pos : Pos} {env : Env} {e : Expr} {rest : List Expr} {Q : Value → Shared → Prop}
    (he : starEach (e :: rest) env = (false, eval e env) :: starEach rest env) (hplain : (backTo pos (starEach rest env)).any (·.1) = false)
    (h : wpAny M A (spliced (backTo pos (starEach (e :: rest) env))) (fun vs s₁ => PySem.W.KxsAt i u x s₁.heap ∧ wpAny M A (call (.ref u) vs) Q E s₁) E s) :
    wpAny M A (callWith pos (.ref u) [] (backTo pos (starEach (e :: rest) env)) []) Q E s := by
  rw [he] at h ⊢
  refine PySem.W.kxs_callWith (i := i) (x := x) (by show (false || (backTo pos (starEach rest env)).any (·.1)) = false; rw [hplain]; rfl) ?_
  exact Calls.evalArgs_plain h
theorem fnSup {P : Program} {w : PySem.World} {K : PySem.W.Frag} {mg : Str → Option Value} {base : Heap} {CX : CXT} {N ps : List Str} {qual : Str} {st : Stmt} {f C cc cda : Addr} {fd : FuncData} {k : Nat} {sp : Sp} {p0 p1 ap cp xp : Pos} {e : Expr} {es : List Expr} {rest : List Stmt} {ar : Arg} {pl : Env → Sem Bool}
    (G : SupTxt P K mg C f cc cda qual st fd) (T : OexC K C) (S : ScopeS N ps (defScope st)) (hbody : defBody st = .Expr (.Call (.Attribute (.Call (.Name "super" p0) [] [] p1) "__init__" ap) (e :: es) [] cp) xp :: rest)
    (hp : ((defArgs st).posonlyargs ++ (defArgs st).args).head? = some ar) (hN0 : N[0]? = some ar.arg) (hpl : ps[0]? = some ar.arg) (len : ∀ vs H Q E, sp vs H Q E → vs.length = ps.length)
    (he : ∀ env, starEach (e :: es) env = (false, eval e env) :: starEach es env) (hpn : ∀ env, (backTo cp (starEach es env)).any (·.1) = false)
    (hev : ∀ env, eval (.Call (.Attribute (.Call (.Name "super" p0) [] [] p1) "__init__" ap) (e :: es) [] cp) env = (do
      let ov ← attributeBase (.Call (.Name "super" p0) [] [] p1) "__init__" env (eval (.Call (.Name "super" p0) [] [] p1) env)
      standAt ap.atName
      let (f, first) ← holding [ov] (getMethod ov "__init__" (pl env))
      callWith cp f first (backTo cp (starEach (e :: es) env)) []))
    (hsw : ∀ env, swapsWith (.Call (.Attribute (.Call (.Name "super" p0) [] [] p1) "__init__" ap) (e :: es) [] cp) none xp.line env = pure false)
    (body : ∀ (A : Around) (outer : List Env) (s : Shared) (H : Hp) (vs : List V) (Q : VK) (E : XK), Room k (A.deeper (ksEnv qual (defScope st) s.heap.objs.size f (.ref cda) cc)) → sp vs H Q E → ∃ ta t a,
      PA (cxS CX P w K mg base N qual (defScope st) f (.ref cda) cc A outer s H E) (e :: es) ta ∧ PSs (cxS CX P w K mg base N qual (defScope st) f (.ref cda) cc A outer s H E) rest t ∧ vs[0]? = some (.ref a) ∧ H a = some (exo a C none) ∧
      ta (L2.start N vs) H fun ws H1 => ws.length ≤ 1000 ∧ H1 a = some (exo a C none) ∧ t { nx := fun _ H' => Q .non H', rt := Q } (L2.start N vs) H1) : FnOk P w K mg base CX (k + 1) f fd ps sp := by
  refine ⟨len, fun A outer s H args us vs Q E hr e0 hb r hsp => ?_⟩
  obtain ⟨oc, od, kV, doc, pm, an, ct, osl, rfl, lk, hcd⟩ := G.ex
  obtain ⟨ccl, cdd, ccs, cvs, file, tf, hcode, hvs, hfile⟩ := G.code
  obtain ⟨cl, cld, csl, hcell⟩ := G.cell
  obtain ⟨nm, q, NN, bs, bm, sn, sub, ab, col, dd, k0, k1, k2, k3, k5, hC, hbm⟩ := T.cls
  have hcls : PySem.W.clsIn K C = some { name := nm, bases := bs, mro := .ref C :: bm, ns := NN, qualname := q, hasDict := true, slotNames := sn, subclasses := sub, abstract := ab, collection := col, hasDel := false } := by unfold PySem.W.clsIn; rw [hC] <;> rfl
  have halong : PySem.W.alongIn K "__init__" bm = some (some (.builtin "ValueError.__init__")) := by
    have z := G.along
    unfold PySem.W.ks_superIn at z
    rw [hcls] at z
    have z2 : PySem.W.alongIn K "__init__" (((Value.ref C :: bm).dropWhile (· != .ref C)).drop 1) = _ := z
    have e2 : ((Value.ref C :: bm).dropWhile (· != .ref C)).drop 1 = bm := by simp [List.dropWhile_cons]
    rw [e2] at z2
    exact z2
  have hl := len _ _ _ _ hsp
  have KX : K.In s.heap := e0.mod.kin.keeps fun b o e => (e0.bs b o e).1
  have lim : s.heap.NoLimit := e0.mod.nolimit.keeps fun b o e => (e0.bs b o e).1
  refine PySem.ks_codeAny_call_defAt (body := defBody st) (binds := ps.zip us) hr.depth (KX _ _ lk) rfl lim (PySem.W.codeRec_of KX hcd) rfl hb S.nocell (fun x hx => S.par _ (List.of_mem_zip hx).1) (fun h1 hns hk => ?_) S.co S.gen S.kind
  obtain ⟨ta, t, a, hta, ht, ha0, hHa, hq⟩ := body A outer s H vs Q E (hr.deeper _) hsp
  have I := inv_startS (CX := CX) (P := P) (w := w) (mg := mg) (qual := qual) (f := f) (cd := .ref cda) (E := E) (tk := s.toks + (ps.zip us).length) S hr.hd e0 hl r ⟨cl, cld, csl, _, hcell⟩ hns hk
  generalize hX : cxS CX P w K mg base N qual (defScope st) f (.ref cda) cc A outer s H E = X at I hta ht
  have xK : X.K = K := by rw [← hX]; rfl
  have xE : callEnv (PySem.W.fnX "__init__" qual (defArgs st) (defBody st) (defScope st) [("__class__", cc)] .none kV doc pm an (.ref cda) ct) s.heap.objs.size f = X.env := by rw [← hX]; rfl
  have xA : A.deeper X.env = X.A := by rw [← hX]; rfl
  have xP : X.prog = P := by rw [← hX]; rfl
  have xw : X.w = w := by rw [← hX]; rfl
  have xm : X.mg = mg := by rw [← hX]; rfl
  have xN : X.N = N := by rw [← hX]; rfl
  have xo : X.outer = outer := by rw [← hX]; rfl
  have xex : X.ex = [] := by rw [← hX]; rfl
  have xH0 : X.H_0 = H := by rw [← hX]; rfl
  have xs0 : X.s_0 = s := by rw [← hX]; rfl
  have xf : X.env.func = some f := by rw [← hX]; rfl
  have xc : X.env.code = .ref cda := by rw [← hX]; rfl
  have xs : X.env.scope = defScope st := by rw [← hX]; rfl
  have xcell : X.env.cells = [(("__class__" : Str), cc)] := by rw [← hX]; rfl
  have xk : ∀ y, X.env.kindOf y = (defScope st).names.lookup y := fun y => by rw [← hX]; rfl
  have xxe : (fun e s' => wpAny (model P w) X.A (leaving X.env e) (fun _ s'' => CR CX outer P w H s Q E (.error e) s'') (fun e' s'' => CR CX outer P w H s Q E (.error e') s'') s') = X.xe := by rw [← hX]; rfl
  rw [xE, xA, hbody]
  subst xP xw xK xm xN
  rw [xxe]
  have hlc : X.env.kindOf ar.arg = some .local := by
    rw [xk]
    exact S.par _ (List.mem_of_getElem? hpl)
  have hs0 : (L2.start X.N vs)[0]? = some (some (V.ref a)) := by
    unfold L2.start
    have hv : 0 < vs.length := (List.getElem?_eq_some_iff.mp ha0).1
    rw [List.getElem?_append_left (by rw [List.length_map]; exact hv), List.getElem?_map, ha0]
    rfl
  have hvis : Vis X.env.scope ar.arg := .inl (by rw [xs]; exact S.par _ (List.mem_of_getElem? hpl))
  refine PySem.ks_wpAt_execs_cons (PySem.ks_wpAt_Expr_any (PySem.ks_wpAt_MethodCall (pl := pl X.env) ?_ (hev _)) I.quiet (hsw _))
  have hof := I.kIn _ _ lk
  have hoc := I.kIn _ _ hcode
  have hcl2 := I.kIn _ _ hcell
  have hC2 := I.kIn _ _ hC
  refine PySem.ks_wpAt_super_base (vs := cvs) (by rw [xk]; exact S.sup) (by rw [xk]; exact S.cls) (by decide) xf hof rfl hp xc hoc rfl hvs hfile G.top ?_
  obtain ⟨mb, b1, b2⟩ := I.mod.blt
  refine PySem.W.ks_loadName_global I.ok.kind (by rw [xk]; exact S.sup) (Calls.loadGlobal_builtin (by rw [I.ok.glob]; exact I.mod.glob.keeps I.bk) G.mgs (by rw [I.ok.blt]; exact b1.keeps I.bk) ((b2 "super" (by decide)).trans boot_super) ⟨rfl, ?_⟩)
  refine wpAny_loadName_free I.ok.kind (by rw [xk]; exact S.cls) (by rw [xcell]; rfl) ⟨_, hcl2, rfl⟩ ?_
  obtain ⟨m, hn, hlo⟩ := I.loc
  obtain ⟨u0, ru, lu⟩ := hlo 0 ar.arg (.ref a) hN0 hs0 hvis
  have ru' : u0 = Value.ref a := ru
  subst ru'
  rcases lu with ⟨_, hm⟩ | ⟨hk2, _⟩
  case inr => rw [hlc] at hk2; rcases hk2 with z | z <;> cases z
  refine wpAny_loadName_local I.ok.kind hlc hn hm ?_
  obtain ⟨t1, hx⟩ := exo_at I.hok hHa
  refine PySem.ks_wpAny_isType_cls hC2 rfl ⟨rfl, ?_⟩
  refine PySem.ks_wpAny_call_super hC2 rfl hx rfl (fun c z => by cases z) (PySem.W.looks_mroIn I.kIn G.selfc) (fun h2 hso k2 => ?_)
  have I2 : L2.Inv X [] (L2.start X.N vs) H { s with heap := h2, toks := s.toks + (ps.zip us).length } := I.kept (t' := s.toks + (ps.zip us).length) k2
  have hx2 := k2 _ _ hx
  have hxC : a ≠ C := fun z => by
    rw [z, hC2] at hx
    have z2 := congrArg Obj.data (Option.some.inj hx)
    cases z2
  have hno : PySem.W.Looks (model X.prog X.w) h2 (opaqueClassAbove (.ref C)) none := PySem.W.looks_opaque I2.kIn G.opq
  have hCm : PySem.W.Looks (model X.prog X.w) h2 (mroOf (.ref C)) (.ref C :: bm) := (PySem.W.looks_clsIn I2.kIn hcls).andThen .now
  have e2 : ((Value.ref C :: bm).dropWhile (· != .ref C)).drop 1 = bm := by simp [List.dropWhile_cons]
  have IA : PySem.W.InstAt h2 a { cls := .ref C, dict := none, data := .fields #[.ref t1, .none, .none, .none, .bool false, .none] } C none := ⟨hx2, rfl, rfl, trivial⟩
  have hI : PySem.W.Looks (model X.prog X.w) h2 (isInstance (.ref a) (.type "ValueError")) true := IA.type.andThen (PySem.W.looks_subIn I2.kIn G.sub)
  refine PySem.W.kxs_getMethod PySem.W.kxs_ValueError hso hno hCm e2 I2.kIn halong hI hxC (by decide) ?_
  have I3 := ClX.pin_new (o := PySem.W.kxs_mw "ValueError.__init__" a) (a := h2.objs.size) (h' := h2.push (PySem.W.kxs_mw "ValueError.__init__" a)) (t' := s.toks + (ps.zip us).length + 1) I2 (fun b o e => Heap.get?_push_of_some _ e) (Nat.le_refl _) (Heap.get?_push_at rfl rfl) (fun v z => by cases z)
  -- the call
  show wpAny (model X.prog X.w) X.A (callWith cp (.ref h2.objs.size) [] (backTo cp (starEach (e :: es) X.env)) []) _ _ _
  refine callWith_mw (i := "ValueError.__init__") (x := a) (he _) (hpn _) ?_
  refine thn (hta.run cp _ _ _ H _ I3 hq) fun ws s3 ⟨vs3, H3, I4, r3, hz3, hH3, q3⟩ => ?_
  refine ⟨ClX.pin_at I4, ?_⟩
  obtain ⟨t2, hx3⟩ := exo_at I4.hok hH3
  obtain ⟨hp3, g3, d3, tk3, os3⟩ := s3
  show wpAny (model X.prog X.w) X.A (call (.ref h2.objs.size) ws) _ _ _
  refine call_mw (I4.kIn _ _ hC) hx3 (ClX.pin_at I4) (by rw [← Paired.length r3, sizeLine_eq]; omega) fun h4 t4 k4 hx4 => ?_
  have J := (ClX.unpin I4).write (t' := tk3) (x := a) (e := a) (o := exo a C none) (by rw [hH3]; exact True.intro) (.inl rfl) k4 ⟨_, hx4⟩ (exo_ok hx4)
  have eu : upd H3 a (exo a C none) = H3 := by
    funext b
    by_cases hb : b = a
    · rw [hb, upd_same, hH3]
    · rw [upd_ne hb]
  rw [eu] at J
  refine wpAt_of_wpAny (wpAny_mono (ht.run [] _ (L2.start X.N vs) H3 _ J q3) (fun fl s' hs => ?_) fun e s' hs => hs)
  have fin : ∀ {σ' : L2.St} {H' : Hp} {v : V} {u : Value}, L2.Inv X [] σ' H' s' → RelV v u → Q v H' → CE outer X.prog X.w H s Q u s' :=
    fun {σ' H' v u} J rv q => by
      have b : Un (frs X.outer) X.ex X.H_0 H' X.s_0.heap s'.heap := J.base
      have os : s'.os = X.s_0.os := J.os
      rw [xo, xex, xH0, xs0] at b
      rw [xs0] at os
      exact ⟨v, H', os, J.bare, b, J.hok, rv, q⟩
  cases fl with
  | ret u =>
    obtain ⟨v, σ', H', J, rv, q⟩ := hs
    exact fin J rv q
  | next =>
    obtain ⟨σ', H', J, q⟩ := hs
    exact fin (v := V.non) (u := Value.none) J rfl q
  | brk =>
    obtain ⟨_, _, _, q⟩ := hs
    exact False.elim q
  | cont =>
    obtain ⟨_, _, _, q⟩ := hs
    exact False.elim q
end DL

set_option Elab.async false
set_option linter.all false
set_option maxRecDepth 100000
set_option maxHeartbeats 4000000
/-! Sets of texts: made, added to, sorted. -/
namespace DL
open PySem PySem.Spec PyProof.Rows L2 LamX
def wordOf (e : Int × Value) : Str := match e.2 with | .str z _ => z | _ => Str.empty
def IsWd (w : PySem.World) (e : Int × Value) : Prop := ∃ z tk, e.2 = Value.str z tk ∧ e.1 = hashStr w z
/-- the set at a holds the texts zs -/
def TSet (w : PySem.World) (h : Heap) (a : Addr) (zs : List Str) : Prop :=
  ∃ o es ep t, h.get? a = some o ∧ o.ExactSet ∧ o.data = .set es ep t ∧ (∀ e ∈ es.toList, IsWd w e) ∧ (es.toList.map wordOf).Perm zs ∧ zs.Nodup ∧ zs.length < scanBound ∧ t.fits es.size = true ∧ Ris t.place.toList ∧ (w.params.followText "set-order" = true ∨ t.led = true)
section
variable {P : Program} {w : PySem.World} {A : Around} {E : Value → Shared → Prop} {s : Shared} {a : Addr} {zs : List Str} {h h' : Heap}
theorem TSet.keep (R : TSet w h a zs) (k : ∀ o, h.get? a = some o → h'.get? a = some o) : TSet w h' a zs := by
  obtain ⟨o, es, ep, t, ho, r⟩ := R
  exact ⟨o, es, ep, t, k o ho, r⟩
theorem wds_ok {l : List (Int × Value)} (g : ∀ e ∈ l, IsWd w e) : ElemsOf (PySem.strKind P w) l := fun e he => by
  obtain ⟨z, tk, h1, h2⟩ := g e he
  exact ⟨⟨z, by rw [h1]; exact PySem.strKind_is P w z tk, h2⟩, by rw [h1] <;> rfl⟩
theorem wd_is {e : Int × Value} (g : IsWd w e) (z : Str) : (PySem.strKind P w).is z e.2 = true ↔ wordOf e = z := by
  obtain ⟨y, tk, h1, _⟩ := g
  unfold wordOf
  rw [h1]
  constructor
  · intro q
    have q2 : Value.isStrOf z (Value.str y tk) = true := q
    obtain ⟨u, hu⟩ := Value.isStrOf_shape q2
    cases hu
    rfl
  · intro q
    subst q
    exact PySem.strKind_is P w _ tk
theorem wd_mem {l : List (Int × Value)} (g : ∀ e ∈ l, IsWd w e) (z : Str) : z ∈ l.map wordOf ↔ ∃ e ∈ l, (PySem.strKind P w).is z e.2 = true := by
  rw [List.mem_map]
  exact ⟨fun ⟨e, he, q⟩ => ⟨e, he, (wd_is (g e he) z).2 q⟩, fun ⟨e, he, q⟩ => ⟨e, he, (wd_is (g e he) z).1 q⟩⟩
theorem TSet.typ {s : Shared} (R : TSet w s.heap a zs) : s.TypeIs (.ref a) "set" := by
  obtain ⟨o, es, ep, t, ho, hex, _⟩ := R
  exact ⟨o, ho, hex.1⟩
theorem lay_end {gw : Bool → Sem Unit} (hgw : ∀ (b : Bool) (s₁ : Shared) (Z : Unit → Shared → Prop), Z () s₁ → wpAny (model P w) A (gw b) Z E s₁)
    {o : Obj} {es : Array (Int × Value)} {ep : Nat} {t : SetTable} (ho : s.heap.get? a = some o) (hex : o.ExactSet) (hd : o.data = .set es ep t)
    {fs : Array (Int × Value)} {u : SetTable} {ys : List Str} (g1 : ∀ e ∈ fs.toList, IsWd w e) (pm : (fs.toList.map wordOf).Perm ys) (nd : ys.Nodup) (few : ys.length < scanBound) (hf : u.fits fs.size = true) (hr : Ris u.place.toList)
    (hl : w.params.followText "set-order" = true ∨ u.led = true) {dummy : Bool} {R : Option Bool → Shared → Prop}
    (hR : ∀ h', Heap.SameBut a s.heap h' → TSet w h' a ys → R (some true) { s with heap := h' }) :
    wpAny (model P w) A (storeSet a fs u >>= fun _ => if (!dummy && u.tooFull) = true then (gw (relayAll u fs (SetTable.grown fs.size)).2.2 >>= fun _ => storeSet a (relayAll u fs (SetTable.grown fs.size)).1 (relayAll u fs (SetTable.grown fs.size)).2.1 >>= fun _ => pure (some true)) else pure (some true)) R E s := by
  have sz : fs.size = ys.length := by
    have q := pm.length_eq
    rw [List.length_map, Array.length_toList] at q
    exact q
  have fl : fs.size ≤ sizeLine := fits_of_scanBound (by rw [sz]; exact few)
  refine wpAny_bind (wpAny_storeSet_of ho hd ?_ fl)
  have o1 := store_at (es' := fs) (t' := u) ho hd
  have sb := Heap.SameBut.update s.heap a (Obj.putSet fs u)
  split
  · have q1 := relayAll_perm u fs (SetTable.grown fs.size)
    have q2 := relayAll_fits u fs (SetTable.grown fs.size)
    have q3 := relayAll_ris u fs (SetTable.grown fs.size)
    have q4 := relayAll_led u fs (SetTable.grown fs.size)
    generalize relayAll u fs (SetTable.grown fs.size) = Y at q1 q2 q3 q4 ⊢
    obtain ⟨gs, v, ok⟩ := Y
    dsimp only at q1 q2 q3 q4 ⊢
    have sz2 : gs.size = fs.size := by rw [← Array.length_toList, q1.length_eq, Array.length_toList]
    refine wpAny_bind (hgw _ _ _ ?_)
    refine wpAny_bind (wpAny_storeSet_of o1 rfl ?_ (by rw [sz2]; exact fl))
    have o2 := store_at (es' := gs) (t' := v) o1 rfl
    refine wpAny_pure (hR _ (sb.trans (Heap.SameBut.update _ a _)) ?_)
    exact ⟨_, gs, _, v, o2, hex, rfl, fun e he => g1 e (q1.mem_iff.mp he), (q1.map wordOf).trans pm, nd, few, q2, q3, hl.imp id fun z => q4.trans z⟩
  · exact wpAny_pure (hR _ sb ⟨_, fs, _, u, o1, hex, rfl, g1, pm, nd, few, hf, hr, hl⟩)
/-- the texts with one more -/
def withT (zs : List Str) (z : Str) : List Str := if z ∈ zs then zs else z :: zs
theorem withT_mem {zs : List Str} {z y : Str} : y ∈ withT zs z ↔ y = z ∨ y ∈ zs := by
  unfold withT
  split
  · rename_i h
    exact ⟨.inr, fun q => q.elim (fun e => e ▸ h) id⟩
  · exact List.mem_cons
theorem withT_len {zs : List Str} {z : Str} : (withT zs z).length ≤ zs.length + 1 := by
  unfold withT
  split
  · exact Nat.le_succ _
  · exact Nat.le_refl _
theorem tset_add {z : Str} {tk : Tok} {Q : Bool → Shared → Prop} (R : TSet w s.heap a zs) (room : zs.length + 1 < scanBound)
    (hQ : ∀ b h', Heap.SameBut a s.heap h' → TSet w h' a (withT zs z) → Q b { s with heap := h' }) :
    wpAny (model P w) A (setAddHashed a (.str z tk) ((PySem.strKind P w).hash z)) Q E s := by
  obtain ⟨o, es, ep, t, ho, hex, hd, g, pm, nd, few, hf, hr, hl⟩ := R
  have kz : (PySem.strKind P w).is z (.str z tk) = true := PySem.strKind_is P w z tk
  have sc : (Value.str z tk).scannable = true := rfl
  have el : ElemsOf (PySem.strKind P w) es.toList := wds_ok g
  have sz : es.size = zs.length := by
    have q := pm.length_eq
    rw [List.length_map, Array.length_toList] at q
    exact q
  have hb : es.size < scanBound := by rw [sz]; exact few
  unfold setAddHashed
  unfold setAddHashedIn
  refine wpAny_holding (wpAny_bind (wpAny_setState_of ho hd hf (?_)))
  dsimp only
  rw [byScan_of sc hb el]
  simp only [↓reduceIte]
  unfold setAddByScan
  refine wpAny_bind (?_)
  refine wpAny_bind (wpAny_rule (?_))
  refine wpAny_bind (wpAny_setScan_of kz ho hd hf el ?_)
  cases hfi : List.findIdx? (fun e => (PySem.strKind P w).is z e.2) es.toList with
  | some j =>
    dsimp only
    obtain ⟨hj, pj, _⟩ := List.findIdx?_eq_some_iff_getElem.mp hfi
    have zin : z ∈ zs := pm.mem_iff.mp ((wd_mem (P := P) g z).2 ⟨es.toList[j], List.getElem_mem hj, pj⟩)
    refine wpAny_pure (wpAny_pure (hQ _ s.heap (Heap.SameBut.refl a s.heap) ?_))
    unfold withT
    rw [if_pos zin]
    exact ⟨o, es, ep, t, ho, hex, hd, g, pm, nd, few, hf, hr, hl⟩
  | none =>
    dsimp only
    have zout : z ∉ zs := fun q => by
      obtain ⟨e, he, q⟩ := (wd_mem (P := P) g z).1 (pm.mem_iff.mpr q)
      have c := List.findIdx?_eq_none_iff.mp hfi e he
      rw [q] at c
      cases c
    have hgw : ∀ (b : Bool) {s₁ : Shared} {Z : Unit → Shared → Prop}, Z () s₁ → wpAny (model P w) A (match b with | true => rule "set.scan.the-table-gave-way" | false => pure ()) Z E s₁ :=
      fun b s₁ Z q => by cases b <;> first | exact wpAny_pure q | exact wpAny_rule q
    have p1 := layNew_perm t es ((PySem.strKind P w).hash z) (.str z tk)
    have f1 := layNew_fits t es ((PySem.strKind P w).hash z) (.str z tk)
    have r1 := layNew_ris t es ((PySem.strKind P w).hash z) (.str z tk) hr
    have l1 := layNew_led t es ((PySem.strKind P w).hash z) (.str z tk)
    generalize layNew t es ((PySem.strKind P w).hash z) (.str z tk) = Y at p1 f1 r1 l1 ⊢
    obtain ⟨fs, u, dummy, gave⟩ := Y
    dsimp only at p1 f1 r1 l1 ⊢
    rw [Array.toList_push] at p1
    have pc : fs.toList.Perm (((PySem.strKind P w).hash z, Value.str z tk) :: es.toList) := p1.trans (List.perm_append_singleton _ _)
    have pk : (fs.toList.map wordOf).Perm (z :: zs) := (pc.map wordOf).trans (pm.cons z)
    have g1 : ∀ e ∈ fs.toList, IsWd w e := fun e he => by
      rcases List.mem_cons.mp (pc.mem_iff.mp he) with q | q
      · rw [q]
        exact ⟨z, tk, rfl, rfl⟩
      · exact g e q
    have ew : withT zs z = z :: zs := if_neg zout
    have led1 : w.params.followText "set-order" = true ∨ u.led = true := hl.imp id fun q => l1.trans q
    have nd1 : (z :: zs).Nodup := List.nodup_cons.mpr ⟨zout, nd⟩
    have fin : ∀ b h', Heap.SameBut a s.heap h' → TSet w h' a (z :: zs) → Q b { s with heap := h' } := fun b h' sb r => hQ b h' sb (by rw [ew]; exact r)
    refine wpAny_bind (hgw _ ?_)
    split
    · refine wpAny_bind (?_)
      rw [hashByValue_scannable 8 sc]
      refine wpAny_pure (?_)
      refine lay_end (ys := z :: zs) ?_ ho hex hd g1 pk nd1 room ?_ ?_ ?_ ?_
      · intro b s₁ Z q; cases b <;> first | exact wpAny_pure q | exact wpAny_rule q
      · first | (split <;> first | exact f1 | exact SetTable.fits_plain_off f1) | exact f1
      · first | (split <;> exact r1) | exact r1
      · first | (split <;> exact led1) | exact led1
      · intro h' sb r; dsimp only; exact wpAny_pure (fin _ h' sb r)
    · refine wpAny_bind (wpAny_pure (?_))
      simp only [↓reduceIte]
      refine lay_end (ys := z :: zs) ?_ ho hex hd g1 pk nd1 room f1 r1 led1 ?_
      · intro b s₁ Z q; cases b <;> first | exact wpAny_pure q | exact wpAny_rule q
      · intro h' sb r; dsimp only; exact wpAny_pure (fin _ h' sb r)
/-- xs.add(z) -/
theorem tset_call {z : Str} {tk : Tok} {Q : Value → Shared → Prop} (R : TSet w s.heap a zs) (room : zs.length + 1 < scanBound)
    (hQ : ∀ h', Heap.SameBut a s.heap h' → TSet w h' a (withT zs z) → Q .none { s with heap := h', toks := s.toks + 1 }) :
    wpAny (model P w) A (call (.builtin "set.add") [.ref a, .str z tk]) Q E s := by
  refine wpAny_call_entry F.slot_set_add R.typ F.entry_set_add ?_ (F.args_set_add_2 _ _)
  unfold Builtin.«set.add»
  unfold Builtin.Frozenset.oneOther
  simp only [List.isEmpty_nil, bind_assoc]
  unfold Builtin.Frozenset.addrOf
  unfold setAdd
  refine wpAny_bind (wpAny_pure (?_))
  try dsimp only
  refine wpAny_bind (wpAny_pure (?_))
  try dsimp only
  refine wpAny_bind (?_)
  refine wpAny_holding ?_
  refine wpAny_bind ((PySem.strKind P w).pyHash (PySem.strKind_is P w z tk) ?_)
  refine tset_add (s := { s with toks := s.toks + 1 }) R room fun b h' sb r => ?_
  show wpAny _ _ (ret Value.none) _ _ _
  exact wpAny_pure ⟨_, rfl, hQ h' sb r⟩
theorem tset_new {h : Heap} {a : Addr} (ho : h.get? a = some { cls := .type "set", dict := none, data := .set #[] 0 (.fresh 0 0 (!w.params.followText "set-order")) }) : TSet w h a [] :=
  ⟨_, #[], 0, _, ho, ⟨rfl, rfl, rfl⟩, rfl, (fun e he => by simp at he), (by simp), List.nodup_nil, (by decide), (by rfl), List.Pairwise.nil, by
    show _ ∨ (!w.params.followText "set-order") = true
    cases w.params.followText "set-order"
    · exact .inr rfl
    · exact .inl rfl⟩
/-- sorted(xs), few texts -/
theorem tset_sorted {Q : Value → Shared → Prop} (R : TSet w s.heap a zs) (hh : A.handled = none) (h64 : zs.length < 64)
    (hQ : ∀ s' p (out : Array Value) (c : Nat) (ys : List Str), (∀ b o, s.heap.get? b = some o → s'.heap.get? b = some o) → s'.gens = s.gens → s'.os = s.os → s.heap.objs.size ≤ p →
      s'.heap.get? p = some (seqObj "list" out c) → StrsAre out.toList ys → ys.Perm zs → sortedS ys = true → Q (.ref p) s') :
    wpAny (model P w) A (call (.builtin "sorted") [.ref a]) Q E s := by
  obtain ⟨o, es, ep, t, ho, hex, hd, g, pm, nd, few, hf, hr, hl⟩ := R
  have sz : es.size = zs.length := by
    have q := pm.length_eq
    rw [List.length_map, Array.length_toList] at q
    exact q
  refine Calls.call_function_entry kind_sorted plain_sorted entry_sorted (args_sorted1 _) ?_
  unfold Builtin.«sorted»
  refine wpAny_bind (m := checkCount "sorted" 1 1 _) (wpAny_pure (?_))
  refine wpAny_bind (collect_set (A := A.in1) hh ⟨o, ho, hex.1, hd⟩ hf (by rw [sz]; exact few) hr hl fun s1 vs k1 hz g1 o1 p1 => ?_)
  have vl : vs.length = zs.length := by rw [p1.length_eq, List.length_map, Array.length_toList, sz]
  have all : ∀ l : List Value, (∀ v ∈ l, ∃ z tk, v = Value.str z tk) → StrsAre l (l.map fun v => match v with | .str z _ => z | _ => Str.empty) := by
    intro l
    induction l with
    | nil => intro _; exact .nil
    | cons v l ih =>
      intro hv
      obtain ⟨z, tk, rfl⟩ := hv v (List.mem_cons_self ..)
      exact .cons z tk (ih fun u hu => hv u (List.mem_cons_of_mem _ hu))
  have hS := all vs fun v hv => by
    obtain ⟨e, he, q⟩ := List.mem_map.mp (p1.mem_iff.mp hv)
    obtain ⟨z, tk, h1, _⟩ := g e he
    exact ⟨z, tk, by rw [← q]; exact h1⟩
  have pk := p1.map fun v => (match v with | .str z _ => z | _ => Str.empty : Str)
  rw [List.map_map] at pk
  generalize (vs.map fun v => (match v with | .str z _ => z | _ => Str.empty : Str)) = us at hS pk
  have pz : us.Perm zs := pk.trans pm
  refine wpAny_bind (wpAny_newList ?_ (by rw [vl, sizeLine_eq]; omega))
  have oL : (s1.heap.push (seqObj "list" vs.toArray 0)).get? s1.heap.objs.size = some (seqObj "list" vs.toArray 0) := Heap.get?_push_size _ rfl
  refine wpAny_bind (wpAny_holding (wpAny_call_entry PyProof.Rows.slot_list_sort ⟨_, oL, rfl⟩ PyProof.Rows.entry_list_sort
    (list_sort_treeK strKind_oneLt oL hS.keysOf (fun v₁ v₂ rest e => keyKind_strs (by rw [← e]; exact hS)) (by rw [vl]; exact h64) fun st' hp hs => ⟨_, rfl, ?_⟩) (PyProof.Rows.args_list_sort _)))
  obtain ⟨ys, y1, y2, y3⟩ := sorted_out_str hS hp hs
  obtain ⟨c, hc⟩ := PyProof.Rows.sortedHeap_at (vs := vs) (out := (arrOf st').map (·.2)) oL
  refine wpAny_pure ⟨_, rfl, hQ _ s1.heap.objs.size _ c ys (fun b u e => ?_) g1 o1 hz hc y1 (y2.trans pz) y3⟩
  have q := k1 b u e
  have lt := Heap.lt_size q
  show (sortedHeap (s1.heap.push (seqObj "list" vs.toArray 0)) s1.heap.objs.size vs _).get? b = some u
  rw [PyProof.Rows.sortedHeap_old (Nat.ne_of_lt lt) (by rw [size_push']; exact Nat.lt_succ_of_lt lt)]
  exact Heap.get?_push_of_some _ q
end
end DL

set_option Elab.async false
set_option linter.all false
set_option maxRecDepth 100000
set_option maxHeartbeats 4000000
/-! set(a text), set(a list of texts), sorted of them. -/
namespace DL
open PySem PySem.Spec PyProof.Rows L2 LamX
def gather (zs : List Str) : List Str → List Str
  | [] => zs
  | y :: ys => gather (withT zs y) ys
theorem gather_mem {y : Str} : ∀ (us zs : List Str), y ∈ gather zs us ↔ y ∈ zs ∨ y ∈ us
  | [], zs => by simp [gather]
  | u :: us, zs => by
    show y ∈ gather (withT zs u) us ↔ _
    rw [gather_mem us, withT_mem, List.mem_cons]
    constructor
    · rintro ((h | h) | h)
      · exact .inr (.inl h)
      · exact .inl h
      · exact .inr (.inr h)
    · rintro (h | h | h)
      · exact .inl (.inr h)
      · exact .inl (.inl h)
      · exact .inr h
theorem gather_len : ∀ (us zs : List Str), (gather zs us).length ≤ zs.length + us.length
  | [], zs => Nat.le_refl _
  | u :: us, zs => by
    have h1 := gather_len us (withT zs u)
    have h2 := withT_len (zs := zs) (z := u)
    show (gather (withT zs u) us).length ≤ zs.length + (us.length + 1)
    omega
theorem gather_snoc (u : Str) : ∀ (us zs : List Str), gather zs (us ++ [u]) = withT (gather zs us) u
  | [], zs => rfl
  | y :: us, zs => gather_snoc u us (withT zs y)
section
variable {P : Program} {w : PySem.World} {A : Around} {E : Value → Shared → Prop} {s : Shared}
theorem fill_texts {I : Addr} {fp wr : List Addr} {G : Array GenState → Array GenState → Prop} {n : Nat} {Pv : Nat → Value → Prop} {St : Nat → Shared → Prop} {R : Result → Shared → Prop}
    (W : WalksS P w A.in1 I fp wr G n Pv St) (D : Addr) (notD : D ∉ fp) (us : List Str) (hn : n = us.length) (few : us.length + 1 < scanBound) (each : ∀ i v, Pv i v → ∃ z t, us[i]? = some z ∧ v = .str z t) :
    ∀ (m i : Nat) (s : Shared), n - i = m → i ≤ n → St i s → TSet w s.heap D (gather [] (us.take i)) →
      (∀ s', Moved (D :: wr) G s s' → TSet w s'.heap D (gather [] us) → R (.ok (.ret .none)) s') →
      codeAny (model P w) A (.builtin "set.update.loop" ⟨[.ref D, .ref I], []⟩) R s := by
  have notW : D ∉ wr := fun h => notD (W.sub _ h)
  have into : ∀ b ∈ wr, b ∈ D :: wr := fun b hb => List.mem_cons_of_mem _ hb
  intro m
  induction m with
  | zero =>
    intro i s em hi st hS hR
    obtain rfl : i = n := by omega
    refine codeAny_builtin F.entry_set_update_loop (?_)
    rw [Around.under_plainId F.plain_set_update_loop _]
    show wpAny _ A.in1 (pyNext (.ref I) >>= _) _ _ s
    refine wpAny_bind (W.done s _ _ st fun s' mv => ?_)
    show wpAny _ A.in1 (ret Value.none) _ _ s'
    rw [List.take_of_length_le (by omega)] at hS
    exact wpAny_pure (hR s' (mv.mono into) (hS.keep fun o e => mv.heap D o notW e))
  | succ m ih =>
    intro i s em hi st hS hR
    have lt : i < n := by omega
    refine codeAny_builtin F.entry_set_update_loop (?_)
    rw [Around.under_plainId F.plain_set_update_loop _]
    show wpAny _ A.in1 (pyNext (.ref I) >>= _) _ _ s
    refine wpAny_bind (W.item i s _ _ lt st fun v s' pv st' mv => ?_)
    obtain ⟨z, t, hz, rfl⟩ := each i v pv
    have hS' : TSet w s'.heap D (gather [] (us.take i)) := hS.keep fun o e => mv.heap D o notW e
    show wpAny _ A.in1 (holding [Value.str z t] (setAdd D (.str z t)) >>= _) _ _ s'
    refine wpAny_bind (wpAny_holding (?_))
    unfold setAdd
    refine wpAny_holding (?_)
    refine wpAny_bind ((PySem.strKind P w).pyHash (k := z) (PySem.strKind_is _ _ _ _) ?_)
    have gl := gather_len (us.take i) []
    rw [List.length_take] at gl
    refine tset_add (s := { s' with toks := s'.toks + 1 }) hS' (by simp only [List.length_nil] at gl; omega) fun b h' sb hS2 => ?_
    have hS3 : TSet w h' D (gather [] (us.take (i + 1))) := by
      rw [List.take_add_one, hz]
      show TSet w h' D (gather [] (us.take i ++ [z]))
      rw [gather_snoc]
      exact hS2
    refine wpAny_pure ⟨plainId_quiet F.plain_set_update_loop _, ih (i + 1) _ (by omega) lt (W.frame _ s' _ _ st' (Nat.le_succ _) fun b hb o e => ?_) hS3 fun s'' mv2 hS4 => ?_⟩
    · rw [sb.2 b (fun q : b = D => notD (by rw [← q]; exact hb))]
      exact e
    · refine hR s'' (Moved.trans W.gtrans ((mv.mono into).then_heap (Nat.le_succ _) fun b o hb e => ?_) mv2) hS4
      rw [sb.2 b (fun q : b = D => hb (by rw [q]; exact List.mem_cons_self))]
      exact e

theorem strs_len : ∀ {vs : List Value} {us : List Str}, StrsAre vs us → vs.length = us.length
  | _, _, .nil => rfl
  | _, _, .cons z t h => congrArg (· + 1) (strs_len h)
theorem strs_get : ∀ {vs : List Value} {us : List Str}, StrsAre vs us → ∀ (i : Nat) (v : Value), vs[i]? = some v → ∃ z t, us[i]? = some z ∧ v = .str z t
  | _, _, .nil, i, v, e => by simp at e
  | _, _, .cons z t h, 0, v, e => ⟨z, t, rfl, (Option.some.inj e).symm⟩
  | _, _, .cons z t h, i + 1, v, e => strs_get h i v e
set_option maxRecDepth 100000 in

theorem set_of_text {x : Str} {t : Tok} {us : List Str} {Q : Value → Shared → Prop} (calm0 : A.handled = none) (eu : us = x.cps.toList.map fun c => ⟨#[c]⟩) (few : us.length + 1 < scanBound)
    (h : ∀ (h' : Heap) (tk : Nat), TSet w h' s.heap.objs.size (gather [] us) → (∀ b o, s.heap.get? b = some o → h'.get? b = some o) → Q (.ref s.heap.objs.size) { s with heap := h', toks := tk }) :
    wpAny (model P w) A (call (.type "set") [.str x t]) Q E s := by
  obtain ⟨c, tl, mroE⟩ := F.called_set.mro
  have mdE := F.called_set.made
  have sbE := F.called_set.sub
  refine wpAny_call (codeAny_of_tree (?_))
  show wpAny _ _ (callAny (.type "set") _) _ _ _
  refine wpAny_pure ⟨Code.quiet_builtin _ (by decide +kernel), codeAny_builtin F.entry_type_call (?_)⟩
  rw [Around.under_plain (weight_type_call_type "set" [.str x t] []) rfl]
  have n1 := F.called_set.notType
  have n2 := F.called_set.canCreate
  have tcE := F.typeCall_set_1 (.str x t)
  repeat (any_goals (first | (assumption) | wp_step))
  refine codeAny_mono (code_set_led1 (.str x t) (E := E) (Q₁ := fun ob s₁ => ob = .ref s.heap.objs.size ∧ s₁ = { s with heap := s.heap.push { cls := .type "set", dict := none, data := .set #[] 0 (.fresh 0 0 (!w.params.followText "set-order")) } }) ⟨rfl, rfl⟩) fun r s₁ rE => ?_
  cases r with
  | error e => exact rE
  | ok fl =>
    cases fl with
    | ret ob =>
      obtain ⟨rfl, rfl⟩ := rE
      have atS : (s.heap.push { cls := .type "set", dict := none, data := .set #[] 0 (.fresh 0 0 (!w.params.followText "set-order")) }).get? s.heap.objs.size = some { cls := .type "set", dict := none, data := .set #[] 0 (.fresh 0 0 (!w.params.followText "set-order")) } := Heap.get?_push_size _ rfl
      have tyS : Shared.TypeIs { s with heap := s.heap.push { cls := .type "set", dict := none, data := .set #[] 0 (.fresh 0 0 (!w.params.followText "set-order")) } } (.ref s.heap.objs.size) "set" := ⟨_, atS, rfl⟩
      have liE := F.called_set.init.lookup
      have biE := F.called_set.init.bind (.ref s.heap.objs.size)
      repeat (any_goals (first | (assumption) | wp_step))
      refine codeAny_mono (codeAny_call_builtin (R := wants (fun r s₂ => r = .none ∧ ∃ h' tk, s₂ = { s with heap := h', toks := tk } ∧ TSet w h' s.heap.objs.size (gather [] us) ∧
          (∀ b o, s.heap.get? b = some o → h'.get? b = some o)) E) F.called_set.init.plain F.entry_set_init (check_set_init_1 tyS ?_)) fun r₂ s₂ rE2 => ?_
      · have sl1 := F.sub_str_set
        have sl2 := F.sub_str_frozenset
        have neD : (Value.type "str" == Value.type "dict") = false := by decide
        unfold Builtin.«set.__init__»
        unfold noKeywords
        unfold Builtin.Frozenset.updateFrom
        generalize hPI : pyIter = PI
        wp_walk
        subst hPI
        refine wpAny_pyIter_str fun ob St W0 st0 => ?_
        refine wpAny_bind (wpAny_runValue ?_)
        have calm3 : A.in1.in1.in1.handled = none := by simp [calm0]
        have sz1 : (s.heap.push { cls := .type "set", dict := none, data := .set #[] 0 (.fresh 0 0 (!w.params.followText "set-order")) }).objs.size = s.heap.objs.size + 1 := Heap.size_push ..
        have notS : s.heap.objs.size ∉ [(s.heap.push { cls := .type "set", dict := none, data := .set #[] 0 (.fresh 0 0 (!w.params.followText "set-order")) }).objs.size] := by
          rw [Heap.size_push]
          simp
        have valE : ∀ (i : Nat) (v : Value), SignAt x i v → ∃ z t, us[i]? = some z ∧ v = .str z t := fun i v hv => by
          obtain ⟨c, u, hc, rfl⟩ := hv
          exact ⟨_, u, by rw [eu, List.getElem?_map, Array.getElem?_toList, hc] <;> rfl, rfl⟩
        have lenE : x.cps.size = us.length := by rw [eu, List.length_map, Array.length_toList]
        refine fill_texts (W0 _ calm3).toS s.heap.objs.size notS us lenE few valE (x.cps.size - 0) 0 _ (by omega) (Nat.zero_le _) st0 ?hS0 ?hR
        case hS0 =>
          exact tset_new (Heap.get?_push_of_some _ atS)
        case hR =>
          intro s' mv hS'
          obtain ⟨h', g2, d', tk', os'⟩ := s'
          have eg : g2 = s.gens := mv.gens
          have ed : d' = s.drawn := mv.drawn
          have eo : os' = s.os := mv.os
          subst eg
          subst ed
          subst eo
          show wpAny _ _ _ _ _ _
          refine wpAny_pure (?_)
          show wpAny _ _ (ret Value.none) _ _ _
          refine wpAny_pure ⟨rfl, h', tk', rfl, hS', fun b o e => ?_⟩
          have b0 : b < s.heap.objs.size := Heap.lt_size e
          have b1 : b ≠ s.heap.objs.size := Nat.ne_of_lt b0
          have b2 : b ≠ (s.heap.push { cls := .type "set", dict := none, data := .set #[] 0 (.fresh 0 0 (!w.params.followText "set-order")) }).objs.size := by
            rw [Heap.size_push]
            exact Nat.ne_of_lt (Nat.lt_succ_of_lt b0)
          exact mv.heap b o (by simp only [List.mem_cons, List.mem_singleton, List.not_mem_nil, or_false, not_or]; exact ⟨b1, b2⟩) (Heap.get?_push_of_some _ (Heap.get?_push_of_some _ e))
      · cases r₂ with
        | error e => exact rE2
        | ok fl₂ =>
          cases fl₂ with
          | ret r =>
            obtain ⟨rfl, h', tk, rfl, hS', hk'⟩ := rE2
            repeat (any_goals (first | (assumption) | wp_step))
            exact h _ _ hS' hk'
          | _ => exact rE2.elim
    | _ => exact rE.elim
set_option maxRecDepth 100000 in

theorem set_of_texts {l : Addr} {vals : Array Value} {us : List Str} {Q : Value → Shared → Prop} (calm0 : A.handled = none) (lh : s.heap.IsList l vals) (allS : StrsAre vals.toList us) (few : us.length + 1 < scanBound)
    (h : ∀ (h' : Heap) (tk : Nat), TSet w h' s.heap.objs.size (gather [] us) → (∀ b o, s.heap.get? b = some o → h'.get? b = some o) → Q (.ref s.heap.objs.size) { s with heap := h', toks := tk }) :
    wpAny (model P w) A (call (.type "set") [.ref l]) Q E s := by
  obtain ⟨c, tl, mroE⟩ := F.called_set.mro
  have mdE := F.called_set.made
  have sbE := F.called_set.sub
  refine wpAny_call (codeAny_of_tree (?_))
  show wpAny _ _ (callAny (.type "set") _) _ _ _
  refine wpAny_pure ⟨Code.quiet_builtin _ (by decide +kernel), codeAny_builtin F.entry_type_call (?_)⟩
  rw [Around.under_plain (weight_type_call_type "set" [.ref l] []) rfl]
  have n1 := F.called_set.notType
  have n2 := F.called_set.canCreate
  have tcE := F.typeCall_set_1 (.ref l)
  repeat (any_goals (first | (assumption) | wp_step))
  refine codeAny_mono (code_set_led1 (.ref l) (E := E) (Q₁ := fun ob s₁ => ob = .ref s.heap.objs.size ∧ s₁ = { s with heap := s.heap.push { cls := .type "set", dict := none, data := .set #[] 0 (.fresh 0 0 (!w.params.followText "set-order")) } }) ⟨rfl, rfl⟩) fun r s₁ rE => ?_
  cases r with
  | error e => exact rE
  | ok fl =>
    cases fl with
    | ret ob =>
      obtain ⟨rfl, rfl⟩ := rE
      have atS : (s.heap.push { cls := .type "set", dict := none, data := .set #[] 0 (.fresh 0 0 (!w.params.followText "set-order")) }).get? s.heap.objs.size = some { cls := .type "set", dict := none, data := .set #[] 0 (.fresh 0 0 (!w.params.followText "set-order")) } := Heap.get?_push_size _ rfl
      have tyS : Shared.TypeIs { s with heap := s.heap.push { cls := .type "set", dict := none, data := .set #[] 0 (.fresh 0 0 (!w.params.followText "set-order")) } } (.ref s.heap.objs.size) "set" := ⟨_, atS, rfl⟩
      have liE := F.called_set.init.lookup
      have biE := F.called_set.init.bind (.ref s.heap.objs.size)
      repeat (any_goals (first | (assumption) | wp_step))
      refine codeAny_mono (codeAny_call_builtin (R := wants (fun r s₂ => r = .none ∧ ∃ h' tk, s₂ = { s with heap := h', toks := tk } ∧ TSet w h' s.heap.objs.size (gather [] us) ∧
          (∀ b o, s.heap.get? b = some o → h'.get? b = some o)) E) F.called_set.init.plain F.entry_set_init (check_set_init_1 tyS ?_)) fun r₂ s₂ rE2 => ?_
      · obtain ⟨ob0, obL, clL, n0, dtL⟩ := lh
        obtain ⟨ocls, odict, odata, oslots⟩ := ob0
        simp only at clL dtL
        subst clL
        subst dtL
        have obL2 : (s.heap.push { cls := .type "set", dict := none, data := .set #[] 0 (.fresh 0 0 (!w.params.followText "set-order")) }).get? l = some { cls := .type "list", dict := odict, data := .seq vals n0, slots := oslots } := Heap.get?_push_of_some _ obL
        have sl1 := F.sub_list_set
        have sl2 := F.sub_list_frozenset
        have neD : (Value.type "list" == Value.type "dict") = false := by decide
        have lh1 : (s.heap.push { cls := .type "set", dict := none, data := .set #[] 0 (.fresh 0 0 (!w.params.followText "set-order")) }).IsList l vals := ⟨_, obL2, rfl, n0, rfl⟩
        unfold Builtin.«set.__init__»
        unfold noKeywords
        unfold Builtin.Frozenset.updateFrom
        generalize hPI : pyIter = PI
        wp_walk
        subst hPI
        refine wpAny_pyIter_list lh1 ?_
        refine wpAny_bind (wpAny_runValue ?_)
        have calm3 : A.in1.in1.in1.handled = none := by simp [calm0]
        have sz1 : (s.heap.push { cls := .type "set", dict := none, data := .set #[] 0 (.fresh 0 0 (!w.params.followText "set-order")) }).objs.size = s.heap.objs.size + 1 := Heap.size_push ..
        have ltS : l < s.heap.objs.size := Heap.lt_size obL
        have neI : l ≠ (s.heap.push { cls := .type "set", dict := none, data := .set #[] 0 (.fresh 0 0 (!w.params.followText "set-order")) }).objs.size := by
          rw [Heap.size_push]
          exact Nat.ne_of_lt (Nat.lt_succ_of_lt ltS)
        have notS : s.heap.objs.size ∉ [(s.heap.push { cls := .type "set", dict := none, data := .set #[] 0 (.fresh 0 0 (!w.params.followText "set-order")) }).objs.size, l] := by
          rw [Heap.size_push]
          simp only [List.mem_cons, List.mem_singleton, List.not_mem_nil, or_false, not_or]
          exact ⟨Nat.ne_of_lt (Nat.lt_succ_self _), Nat.ne_of_gt ltS⟩
        have valE : ∀ (i : Nat) (v : Value), vals[i]? = some v → ∃ z t, us[i]? = some z ∧ v = .str z t := fun i v hv => strs_get allS i v (by rw [Array.getElem?_toList]; exact hv)
        have lenE : vals.size = us.length := by
          rw [← Array.length_toList]
          exact strs_len allS
        refine fill_texts (Walks.list calm3 _ l neI vals).toS s.heap.objs.size notS us lenE few valE (vals.size - 0) 0 _ (by omega) (Nat.zero_le _)
          ⟨⟨_, Heap.get?_push_size _ rfl, rfl, rfl⟩, (lh1.push _)⟩ ?hS0 ?hR
        case hS0 =>
          exact tset_new (Heap.get?_push_of_some _ atS)
        case hR =>
          intro s' mv hS'
          obtain ⟨h', g2, d', tk', os'⟩ := s'
          have eg : g2 = s.gens := mv.gens
          have ed : d' = s.drawn := mv.drawn
          have eo : os' = s.os := mv.os
          subst eg
          subst ed
          subst eo
          show wpAny _ _ _ _ _ _
          refine wpAny_pure (?_)
          show wpAny _ _ (ret Value.none) _ _ _
          refine wpAny_pure ⟨rfl, h', tk', rfl, hS', fun b o e => ?_⟩
          have b0 : b < s.heap.objs.size := Heap.lt_size e
          have b1 : b ≠ s.heap.objs.size := Nat.ne_of_lt b0
          have b2 : b ≠ (s.heap.push { cls := .type "set", dict := none, data := .set #[] 0 (.fresh 0 0 (!w.params.followText "set-order")) }).objs.size := by
            rw [Heap.size_push]
            exact Nat.ne_of_lt (Nat.lt_succ_of_lt b0)
          exact mv.heap b o (by simp only [List.mem_cons, List.mem_singleton, List.not_mem_nil, or_false, not_or]; exact ⟨b1, b2⟩) (Heap.get?_push_of_some _ (Heap.get?_push_of_some _ e))
      · cases r₂ with
        | error e => exact rE2
        | ok fl₂ =>
          cases fl₂ with
          | ret r =>
            obtain ⟨rfl, h', tk, rfl, hS', hk'⟩ := rE2
            repeat (any_goals (first | (assumption) | wp_step))
            exact h _ _ hS' hk'
          | _ => exact rE2.elim
    | _ => exact rE.elim

end
/-! ### the rules -/
def SetTO (w : PySem.World) (a : Addr) (zs : List Str) : HO := .ext fun h => TSet w h a zs
section
variable {X : Cx}
theorem tsetO_new {w : PySem.World} {P : Program} {H : Hp} {h : Heap} {a : Addr} {zs : List Str} (R : TSet w h a zs) : ObjOk P w H h a (SetTO w a zs) := by
  have ⟨o, _, _, _, ho, _⟩ := R
  exact ⟨R, ⟨o, ho⟩, fun h1 h2 p k => TSet.keep p k⟩
theorem tsetO_get {pins : List (Addr × Obj)} {σ : L2.St} {H : Hp} {s : Shared} {a : Addr} {zs : List Str} (I : Inv X pins σ H s) (ha : H a = some (SetTO X.w a zs)) : TSet X.w s.heap a zs := (I.hok a _ ha).1
/-- set(z), set(zs) -/
def rSetT (K : PySem.W.Frag) (w : PySem.World) : List V → Hp → VK → Prop := fun xs H Q => ∃ us : List Str, ((∃ x : Str, xs = [V.str x] ∧ us = x.cps.toList.map fun c => ⟨#[c]⟩) ∨ ∃ l : Addr, xs = [V.ref l] ∧ SqL K H l (us.map V.str)) ∧ us.length ≤ 1000 ∧
  ∀ q : Addr, H q = none → Q (.ref q) (upd H q (SetTO w q (gather [] us)))
theorem cr_setT (hc : X.calm = true) : CallR X (.type "set") (rSetT X.K X.w) := by
  intro pins s σ H xs us Q I r h
  obtain ⟨ys, hx, hz, q⟩ := h
  have new : H s.heap.objs.size = none := I.hok.fresh (Nat.le_refl _)
  have few : ys.length + 1 < scanBound := by unfold scanBound; omega
  rcases hx with ⟨x, rfl, ex⟩ | ⟨l, rfl, hs⟩
  · obtain ⟨u, rfl, ru⟩ := r.one
    obtain ⟨t, rfl⟩ := ru
    refine set_of_text (I.ok.hd hc) ex few fun h' tk R kp => ?_
    exact ⟨.ref _, upd H s.heap.objs.size (SetTO X.w s.heap.objs.size (gather [] ys)), I.laid (t' := tk) kp (Nat.le_refl _) (tsetO_new R), rfl, q _ new⟩
  · rw [Vals.ref1 r]
    obtain ⟨its, rv, pl, _⟩ := I.list hs
    have al : StrsAre its.toArray.toList ys := rv.strs
    obtain ⟨o, ho, hcl, n, hd⟩ := pl.isList
    refine set_of_texts (I.ok.hd hc) ⟨o, ho, hcl, n, hd⟩ al few fun h' tk R kp => ?_
    exact ⟨.ref _, upd H s.heap.objs.size (SetTO X.w s.heap.objs.size (gather [] ys)), I.laid (t' := tk) kp (Nat.le_refl _) (tsetO_new R), rfl, q _ new⟩
/-- sorted(found) -/
def rSortT (w : PySem.World) : List V → Hp → VK → Prop := fun vs H Q => ∃ (a : Addr) (zs : List Str), vs = [V.ref a] ∧ H a = some (SetTO w a zs) ∧ zs.length < 64 ∧
  ∀ (ys : List Str) (p : Addr), ys.Perm zs → sortedS ys = true → H p = none → Q (.ref p) (upd H p (.lst (ys.map V.str)))
theorem cr_sortT (hc : X.calm = true) : CallR X (.builtin "sorted") (rSortT X.w) := by
  intro pins s σ H vs us Q I r h
  obtain ⟨a, zs, rfl, ha, h64, q⟩ := h
  have R := tsetO_get I ha
  rw [Vals.ref1 r]
  refine tset_sorted R (I.ok.hd hc) h64 fun s' p out c ys k g o hp hg hi hpm hs => ?_
  have zl : (ys.map V.str).length ≤ sizeLine := by
    rw [List.length_map, hpm.length_eq, sizeLine_eq]
    omega
  have pn : H p = none := I.hok.fresh hp
  have J : Inv X pins σ (upd H p (.lst (ys.map V.str))) { s with heap := s'.heap, gens := s'.gens, drawn := s'.drawn, toks := s'.toks } :=
    I.call (ch := []) (Un.laid k hp pn) (I.hok.laid k hp ⟨zl, out.toList, c, vals_of_strs hi, hg⟩) (by rw [g]; exact I.bare) (fun _ z => nomatch z)
  have es : s' = { s with heap := s'.heap, gens := s'.gens, drawn := s'.drawn, toks := s'.toks } := by
    cases s'
    cases s
    cases o
    rfl
  rw [es]
  exact ⟨.ref p, _, J, rfl, q ys p hpm hs pn⟩
end
end DL

set_option Elab.async false
set_option linter.all false
set_option maxRecDepth 100000
set_option maxHeartbeats 4000000
/-! {e for x in xs if t}: texts; sorted of it, in data. -/
namespace DL
open PySem PySem.Spec PyProof.Rows L2 LamX
section
variable {X : Cx}
/-- what a set's comprehension asks: D the new set -/
def tSc (w : PySem.World) (wi : TI) (g : TG) (tt : TT) (te : TE) (vs : List Nat) : TE := fun σ H Q => wi σ H fun J H1 => ∀ D, H1 D = none → ∃ V : Nat → Nat → Hp → Prop, (∃ m, V 0 m (upd H1 D (SetTO w D []))) ∧ ∀ i m H, V i m H →
  (J.stop i H ∧ Q (.ref D) H) ∨ (J.go i H ∧ ∃ Nx : Hp → Prop, (∀ H', Nx H' → ∃ m', m' < m ∧ V (i + 1) m' H') ∧ ∀ x H', J.yld i H x H' → g x (L2.wipe σ vs) H' fun σ2 H2 => L2.wipe σ2 vs = L2.wipe σ vs ∧ tt σ2 H2 fun b H3 =>
    if b = true then te σ2 H3 fun y H4 => ∃ zs z, y = .str z ∧ H4 D = some (SetTO w D zs) ∧ zs.length + 1 < scanBound ∧ Nx (upd H4 D (SetTO w D (withT zs z))) else Nx H3)
theorem tadd_at {pins : List (Addr × Obj)} {σ : L2.St} {H : Hp} {s : Shared} {E : Value → Shared → Prop} {D : Addr} {zs : List Str} {z : Str} {u : Value} {Q : Value → Shared → Prop} (I : Inv X pins σ H s) (hD : H D = some (SetTO X.w D zs)) (room : zs.length + 1 < scanBound) (ru : RelV (.str z) u)
    (h : ∀ s', Inv X pins σ (upd H D (SetTO X.w D (withT zs z))) s' → Q .none s') : wpAny (model X.prog X.w) X.A (call (.builtin "set.add") [.ref D, u]) Q E s := by
  obtain ⟨tk, rfl⟩ := ru
  have R := tsetO_get I hD
  refine tset_call R room fun h' sb new => h _ ?_
  have he : ∃ u, h'.get? D = some u := by
    have ⟨o, _, _, _, ho, _⟩ := new
    exact ⟨o, ho⟩
  exact I.write (e := D) (t' := s.toks + 1) (by rw [hD]; trivial) (.inl rfl) (fun b u hb hu => (sb.2 b hb).trans hu) he (tsetO_new new)
theorem pe_sc {elt tg iter : Expr} {ifs : List Expr} {scope : Scope} {own : List (Str × Nat)} {pos : Pos} {wi : TI} {g : TG} {tt : TT} {te : TE} (hc : X.calm = true) (nd : X.N.Nodup) (hi : PI X tg iter wi) (ok : BlkOk X.N X.env.scope scope own)
    (hg : ∀ (s : Shared) (H : Hp) (C : Addr) (cl : List (Str × Addr)) (fp : List Addr), PG (X.blk s H scope (compEnvC scope cl C X.env) fp) tg g)
    (ht : ∀ (s : Shared) (H : Hp) (C : Addr) (cl : List (Str × Addr)) (fp : List Addr), PTs (X.blk s H scope (compEnvC scope cl C X.env) fp) ifs tt)
    (he : ∀ (s : Shared) (H : Hp) (C : Addr) (cl : List (Str × Addr)) (fp : List Addr), PE (X.blk s H scope (compEnvC scope cl C X.env) fp) elt te) (hs : ∀ x, foldedSetIterable iter X.env x = pure x := by intro _; rfl) :
    PE X (.SetComp elt [⟨tg, iter, ifs, 0⟩] scope pos) (tSc X.w wi g tt te (own.map (·.2))) := by
  refine ⟨fun pins s σ H Q I h => ?_⟩
  rw [arm_eval_SetComp]
  have free_at : ∀ y ∈ scope.names, y.2 = .free → ∃ c, X.env.cells.lookup y.1 = some c := fun y hy e => by
    rcases ok.free y hy e with k | k
    · exact I.ok.has _ (.inl k)
    · exact I.ok.has _ (.inr k)
  refine wpAny_comprehension_free (use := none) rfl hs (closure_ok free_at) ok.kind (fun y hy e => by rw [ok.uniq y hy, e]) (thn (hi.run pins s σ H _ I h) fun xv s1 hx => thn hx fun itv s2 h2 => ?_)
  obtain ⟨it, fp, tn, J, H2, rfl, I2, Tu, st2, f2, q⟩ := h2
  refine wpAny_newSet_raw fun led hled => newEnv_comp ?_
  subst hled
  generalize eD : s2.heap.objs.size = D
  have newD : H2 D = none := I2.hok.fresh (Nat.le_of_eq eD)
  obtain ⟨V, ⟨m0, v0⟩, turn⟩ := q D newD
  generalize es3 : ({ s2 with heap := s2.heap.push { cls := .type "set", dict := none, data := .set #[] 0 (.fresh 0 0 (!(X.w.params.followText "set-order"))) } } : Shared) = s3
  have atD : s3.heap.get? D = some { cls := .type "set", dict := none, data := .set #[] 0 (.fresh 0 0 (!(X.w.params.followText "set-order"))) } := by
    rw [← es3, ← eD]
    exact Heap.get?_push_size _ rfl
  have I3 : Inv X pins σ (upd H2 D (SetTO X.w D [])) s3 := by
    have ob : ObjOk X.prog X.w H2 s3.heap D (SetTO X.w D []) := tsetO_new (tset_new atD)
    rw [← es3] at ob ⊢
    exact I2.laid (t' := s2.toks) (fun b o e => Heap.get?_push_of_some _ e) (Nat.le_of_eq eD) ob
  have h3 : s3.heap = s2.heap.push { cls := .type "set", dict := none, data := .set #[] 0 (.fresh 0 0 (!(X.w.params.followText "set-order"))) } := by rw [← es3]
  have small : ∀ b ∈ fp, b < s2.heap.objs.size := fun b hb => by
    obtain ⟨o, e, _⟩ := Tu.obj _ _ st2 b hb
    exact Heap.lt_size e
  have f3 : ∀ b ∈ fp, FpOk X pins (upd H2 D (SetTO X.w D [])) b ∧ b < s3.heap.objs.size := fun b hb => by
    have lt := small b hb
    refine ⟨⟨?_, (f2 b hb).2⟩, by rw [h3, Heap.size_push]; exact Nat.lt_succ_of_lt lt⟩
    rw [upd_ne (by rw [← eD]; exact Nat.ne_of_lt lt)]
    exact (f2 b hb).1
  have st3 : tn 0 s3.heap := Tu.keep _ _ _ st2 fun b _ o e => by rw [h3]; exact Heap.get?_push_of_some _ e
  have I4 := block_start I3 ok nd f3
  have pg := hg s3 (upd H2 D (SetTO X.w D [])) s3.heap.objs.size (cellsFrom (s3.heap.objs.size + 1) scope.names (cloFrom X.env.cells scope.names [])) fp
  have pt := ht s3 (upd H2 D (SetTO X.w D [])) s3.heap.objs.size (cellsFrom (s3.heap.objs.size + 1) scope.names (cloFrom X.env.cells scope.names [])) fp
  have pe := he s3 (upd H2 D (SetTO X.w D [])) s3.heap.objs.size (cellsFrom (s3.heap.objs.size + 1) scope.names (cloFrom X.env.cells scope.names [])) fp
  show codeAny _ _ (.compStart (.SetComp elt [⟨tg, iter, ifs, 0⟩] scope pos) 0 (.ref it) (.ref D) (compEnvC scope (cellsFrom (s3.heap.objs.size + 1) scope.names (cloFrom X.env.cells scope.names [])) s3.heap.objs.size X.env)) (compPost (model X.prog X.w) X.A X.xe none _ (.ref D) s3.heap.objs.size) { s3 with heap := pushCells (s3.heap.push { cls := .type "dict", data := .dict #[] }) scope.names }
  have freeF : ∀ b ∈ fp, (upd H2 D (SetTO X.w D [])) b = none := fun b hb => (f3 b hb).1.1
  generalize ece : compEnvC scope (cellsFrom (s3.heap.objs.size + 1) scope.names (cloFrom X.env.cells scope.names [])) s3.heap.objs.size X.env = ce at I4 pg pt pe ⊢
  have locC : ce.locals = s3.heap.objs.size := by subst ece; rfl
  generalize eH3 : upd H2 D (SetTO X.w D []) = H3 at I3 I4 pg pt pe v0 freeF f3
  generalize es4 : ({ s3 with heap := pushCells (s3.heap.push { cls := .type "dict", data := .dict #[] }) scope.names } : Shared) = s4 at I4 ⊢
  have st4 : tn 0 s4.heap := Tu.keep _ _ _ st3 fun b _ o e => by rw [← es4]; exact pushCells_keeps _ _ _ _ (Heap.get?_push_of_some _ e)
  have stat : ∀ {σ' : L2.St} {H' : Hp} {s' : Shared}, Inv (X.blk s3 H3 scope ce fp) [] σ' H' s' → (∀ b ∈ fp, H' b = none) → ∀ b ∈ fp, FpOk (X.blk s3 H3 scope ce fp) [] H' b := fun {σ' H' s'} I' hn b hb =>
    ⟨hn b hb, (I'.ok.exf b hb).1, I'.ok.exfs b hb, .inl hb, fun x c e => (I'.ok.exf b hb).2 x c e, fun p hp => absurd (show p ∈ ([] : List (Addr × Obj)) ++ [] from hp) (by simp)⟩
  have loop : codeAny (model X.prog X.w) X.A (.compLoop (.SetComp elt [⟨tg, iter, ifs, 0⟩] scope pos) 0 (.ref it) (.ref D) ce) (compPost (model X.prog X.w) X.A X.xe none (EP X pins σ Q) (.ref D) s3.heap.objs.size) s4 := by
    refine compLoop_set_any (fun n s' => ∃ i H', Inv (X.blk s3 H3 scope ce fp) [] (L2.wipe σ (own.map (·.2))) H' s' ∧ tn i s'.heap ∧ (∀ b ∈ fp, H' b = none) ∧ V i n H') ?_ m0 ⟨0, H3, I4, st4, freeF, v0⟩
    rintro n s5 ⟨i, H5, I5, st5, n5, v5⟩
    rcases turn i n H5 v5 with ⟨stop, qq⟩ | ⟨go, Nx, hNx, step⟩
    · have td := Tu.done (X.blk s3 H3 scope ce fp) rfl rfl rfl hc i [] s5 _ H5 (fun _ _ => False) I5 (stat I5 n5) st5 stop
      refine thnF td fun r s6 ⟨hr, I6⟩ => ?_
      subst hr
      have I7 : Inv X pins σ H5 s6 := I3.call' (ch := fp) I6.os I6.base I6.hok I6.bare fun b hb => ⟨(f3 b hb).1.2.2.2.1, (f3 b hb).1.2.1, (f3 b hb).1.2.2.2.2.1, (f3 b hb).1.2.2.2.2.2⟩
      have nC : H5 s3.heap.objs.size = none := by
        have z : H5 ce.locals = none := I6.free
        rw [locC] at z
        exact z
      obtain ⟨m, hn, _⟩ := I6.loc
      have hn : s6.heap.Ns ce.locals m := hn
      rw [locC] at hn
      refine ⟨m, hn, fun h'' sb => ?_⟩
      obtain ⟨g0, g1, g2, g3, g4, g5⟩ := I3.fpOk (Nat.le_refl _) nC
      exact ⟨.ref D, H5, I7.turned (t' := s6.toks) (fun b o hb e => (sb.2 b hb).trans e) g0 g1 g3 g4 g5, rfl, qq⟩
    · have ti := Tu.item (X.blk s3 H3 scope ce fp) rfl rfl rfl hc i [] s5 _ H5 (fun _ _ => False) I5 (stat I5 n5) st5 go
      refine thnF ti fun r s6 ⟨u, hr, h6⟩ => ?_
      subst hr
      refine thnF h6 fun _ s7 ⟨x, H7, I7, r7, y7, st7, n7⟩ => ?_
      have I7' := I7.pinned (stat I7 n7) (Tu.obj _ _ st7)
      refine thnF (pg.run _ s7 _ H7 x u _ I7' r7 (step x H7 y7)) fun _ s8 ⟨σ8, H8, I8, hw8, q8⟩ => ?_
      refine thnF (pt.run _ s8 σ8 H8 _ I8 q8) fun b s9 ⟨H9, I9, q9⟩ => ?_
      have fin : ∀ {s' : Shared} {H' : Hp}, Inv (X.blk s3 H3 scope ce fp) ([] ++ pinsAt fp s7.heap) σ8 H' s' → Nx H' → ∃ m, m < n ∧ ∃ i H', Inv (X.blk s3 H3 scope ce fp) [] (L2.wipe σ (own.map (·.2))) H' s' ∧ tn i s'.heap ∧ (∀ b ∈ fp, H' b = none) ∧ V i m H' := fun {s' H'} I' nx => by
        obtain ⟨m', hm, v'⟩ := hNx H' nx
        have pin' : ∀ b ∈ fp, ∀ o, s7.heap.get? b = some o → s'.heap.get? b = some o ∧ H' b = none := fun b hb o e =>
          have z := I'.pin (b, o) (List.mem_append_right _ (List.mem_append_right _ (mem_pinsAt hb e)))
          ⟨z.1, z.2.1⟩
        have hl : (L2.wipe σ (own.map (·.2))).length = σ8.length := by rw [← hw8, wipe_length]
        refine ⟨m', hm, i + 1, H', (I'.unpinned (pins := [])).weak hl (fun j v e => ?_), Tu.keep _ _ _ st7 fun b hb o e => (pin' b hb o e).1, fun b hb => ?_, v'⟩
        · rw [← hw8] at e
          exact (wipe_some e).1
        · obtain ⟨o, e, _⟩ := Tu.obj _ _ st7 b hb
          exact (pin' b hb o e).2
      cases b with
      | false =>
        simp only [Bool.false_eq_true, if_false] at q9 ⊢
        exact fin I9 q9
      | true =>
        simp only [if_true] at q9 ⊢
        refine thnF (pe.run _ s9 σ8 H9 _ I9 q9) fun z s10 ⟨y, H10, I10, r10, zs, zt, ey, atD10, room, nx⟩ => ?_
        subst ey
        exact tadd_at (X := X.blk s3 H3 scope ce fp) I10 atD10 room r10 fun s12 I12 => fin I12 nx
  exact codeAny_compStart_set loop (Tu.self X.A 0 _ _ _ st4 loop)
end
/-! ### in data -/
theorem code_ne {w : PySem.World} {a c : Addr} {q : Str} {zs : List Str} : SetTO w a zs ≠ CodeO c q := fun z => by
  unfold SetTO CodeO at z
  have e := HO.ext.inj z
  have k := congrFun e (Heap.push ⟨Array.replicate c default, {}⟩ { cls := .none, data := .fields #[.none, .str q 0] })
  have sz : (⟨Array.replicate c default, {}⟩ : Heap).objs.size = c := Array.size_replicate
  have at_ := Heap.get?_push_size (⟨Array.replicate c default, {}⟩ : Heap) (o := ({ cls := .none, data := .fields #[.none, .str q 0] } : Obj)) rfl
  rw [sz] at at_
  have k2 := Eq.mpr k ⟨_, _, 0, at_, rfl, rfl⟩
  obtain ⟨o, es, ep, t, ho, _, hd, _⟩ := k2
  by_cases e : a = c
  · subst e
    rw [at_] at ho
    cases ho
    cases hd
  · have h0 := (Heap.get?_some_iff.mp ho).1
    have h1 : ((Array.replicate c (default : Obj)).push { cls := .none, data := .fields #[.none, .str q 0] })[a]? = some o := h0
    rw [Array.getElem?_push] at h1
    rw [if_neg (by rw [Array.size_replicate]; exact e), Array.getElem?_replicate] at h1
    split at h1
    · cases h1
      cases hd
    · cases h1
section
variable {K : PySem.W.Frag} {T : List (Addr × Str)} {S F H : Hp} {w : Wp} {a : Addr} {o u : HO}
theorem World.putFX (W : World K T S w F H) (e : F a = some u) (h1 : ∀ ps, u ≠ .tbl ps) (h2 : ∀ q, u ≠ CodeO a q) (hn : ∀ ps, o ≠ .tbl ps) (hx : ∀ c q, o ≠ CodeO c q) : World K T S w (upd F a o) (upd H a o) := by
  obtain ⟨e1, e2⟩ := W.frm a u e
  refine ⟨fun b x q => ?_, W.notbl, fun b k q => ?_, fun b x q => ?_, fun p hp => ?_, nf_upd W.nf ⟨hn, hx⟩⟩
  · rw [upd_ne (ne_of_none q e1)]
    exact W.same _ _ q
  · obtain ⟨q1, q2, x, q3, q4⟩ := W.own b k q
    have hb : b ≠ a := fun z => by
      rw [z, e] at q2
      cases q2
    exact ⟨q1, by rw [upd_ne hb]; exact q2, x, by rw [upd_ne hb]; exact q3, q4⟩
  · by_cases hb : b = a
    · subst hb
      rw [upd_same] at q ⊢
      exact ⟨e1, q⟩
    · rw [upd_ne hb] at q
      obtain ⟨q1, q2⟩ := W.frm b x q
      exact ⟨q1, by rw [upd_ne hb]; exact q2⟩
  · obtain ⟨ps, k1, k2, k3⟩ := W.tabs p hp
    refine ⟨ps, ?_, k2, fun pos cv hc => ?_⟩
    · rw [upd_ne (ne_of k1 e2 (fun z => h1 ps z.symm))]
      exact k1
    · obtain ⟨c, c1, c2⟩ := k3 pos cv hc
      refine ⟨c, c1, ?_⟩
      rw [upd_ne]
      · exact c2
      · intro z
        subst z
        rw [e2] at c2
        exact h2 _ (Option.some.inj c2)
theorem World.leaveF (W : World K T S w (upd F a o) H) (e : F a = none) : World K T S w F H := by
  refine ⟨W.same, W.notbl, fun b k q => ?_, fun b x q => ?_, W.tabs, fun b u z => ?_⟩
  · obtain ⟨q1, q2, r⟩ := W.own b k q
    refine ⟨q1, ?_, r⟩
    by_cases hb : b = a
    · rw [hb]
      exact e
    · rw [upd_ne hb] at q2
      exact q2
  · have hb : b ≠ a := fun z => by
      rw [z, e] at q
      cases q
    exact W.frm b x (by rw [upd_ne hb]; exact q)
  · have hb : b ≠ a := fun z' => by
      rw [z', e] at z
      cases z
    exact W.nf b u (by rw [upd_ne hb]; exact z)
end
section
variable {X : Cx} {T : List (Addr × Str)} {W : WX} {χ : XD} {δ : Dn} {w : Wp} {pos : Pos}
theorem sc_turns {J : It} {n : Nat} {G : Hp → Prop} {Y : Nat → Hp → V → Hp → Prop} (ww : Walk J n G Y) {w : PySem.World} {g : TG} {tt : TT} {te : TE} {vs : List Nat} {σ : L2.St} {H1 : Hp} {L : Addr} {Qd : Hp → Prop} (Pv : Nat → Hp → Prop)
    (h0 : Pv 0 (upd H1 L (SetTO w L []))) (hG : ∀ i H, i ≤ n → Pv i H → G H)
    (hs : ∀ i x H H', i < n → Pv i H → Y i H x H' → g x (L2.wipe σ vs) H' fun σ2 H2 => L2.wipe σ2 vs = L2.wipe σ vs ∧ tt σ2 H2 fun b H3 =>
      if b = true then te σ2 H3 fun y H4 => ∃ zs z, y = .str z ∧ H4 L = some (SetTO w L zs) ∧ zs.length + 1 < scanBound ∧ Pv (i + 1) (upd H4 L (SetTO w L (withT zs z))) else Pv (i + 1) H3)
    (hd : ∀ H, Pv n H → Qd H) : ∃ V : Nat → Nat → Hp → Prop, (∃ m, V 0 m (upd H1 L (SetTO w L []))) ∧ ∀ i m H, V i m H →
      (J.stop i H ∧ Qd H) ∨ (J.go i H ∧ ∃ Nx : Hp → Prop, (∀ H', Nx H' → ∃ m', m' < m ∧ V (i + 1) m' H') ∧ ∀ x H', J.yld i H x H' → g x (L2.wipe σ vs) H' fun σ2 H2 => L2.wipe σ2 vs = L2.wipe σ vs ∧ tt σ2 H2 fun b H3 =>
        if b = true then te σ2 H3 fun y H4 => ∃ zs z, y = .str z ∧ H4 L = some (SetTO w L zs) ∧ zs.length + 1 < scanBound ∧ Nx (upd H4 L (SetTO w L (withT zs z))) else Nx H3) :=
  ⟨fun i m H => m = n - i ∧ i ≤ n ∧ Pv i H, ⟨n, rfl, Nat.zero_le _, h0⟩, by
    rintro i m H ⟨hm, hi, p⟩
    have gg := hG i H hi p
    cases Nat.lt_or_ge i n with
    | inl hlt => exact Or.inr ⟨ww.goes i H hlt gg, Pv (i + 1), (fun H' p' => ⟨n - (i + 1), (by omega), rfl, hlt, p'⟩), fun x H' y => hs i x H H' hlt p (ww.yields i H x H' hlt gg y)⟩
    | inr hge =>
      obtain rfl : i = n := Nat.le_antisymm hi hge
      exact Or.inl ⟨ww.stops H gg, hd H p⟩⟩
/-- sorted({e for x in xs if t}), texts; the list is owned -/
def ScD (X : Cx) (T : List (Addr × Str)) (is : List Nat) (tg : Expr) (ifs : List Expr) (elt : Expr) (scope : Scope) (vs : List Nat) (δ : Dn) (κ : List Str → Wp → Prop) (ds : List D) (w1 : Wp) : Prop :=
  ds.length < 1000 ∧ ∃ Pv : Nat → List Str → Wp → Prop, Pv 0 [] w1 ∧
    (∀ (i : Nat) (d : D) acc w', ds[i]? = some d → Pv i acc w' → ∀ s H0 C cl fp, PGL (bx X s H0 scope cl C fp) T is tg d (wipeD δ vs) w' fun δ2 w2 => ∀ s H0 C cl fp, PTsD (bx X s H0 scope cl C fp) T ifs δ2 w2 fun b w3 =>
      if b = true then ∀ s H0 C cl fp, PD (bx X s H0 scope cl C fp) T Wf noX elt δ2 w3 fun y w4 => ∃ z, y = DL.T z ∧ Pv (i + 1) (withT acc z) w4 else Pv (i + 1) acc w3) ∧
    ∀ acc w', Pv ds.length acc w' → acc.length < 64 ∧ ∀ ys : List Str, ys.Perm acc → sortedS ys = true → κ ys w'
theorem bt_set : bootBuiltins "set" = some (.type "set") := by decide +kernel
theorem bt_sorted : bootBuiltins "sorted" = some (.builtin "sorted") := by decide +kernel
theorem rep_txts {K : PySem.W.Frag} {S : Hp} : ∀ us : List Str, RepL K S (us.map DL.T) (us.map V.str)
  | [] => rfl
  | u :: us => ⟨V.str u, us.map V.str, rfl, rfl, rep_txts us⟩
theorem pd_sortSc {elt tg iter : Expr} {ifs : List Expr} {scope : Scope} {p p2 : Pos} (own : List (Str × Nat)) (is : List Nat) {κ : D → Wp → Prop} (hc : X.calm = true) (hmS : X.mg "sorted" = none) (hN : X.N.Nodup) (ok : BlkOk X.N X.env.scope scope own) (hsub : ∀ i ∈ is, i ∈ own.map (·.2))
    (h : IterD X T W χ tg iter δ w (ScD X T is tg ifs elt scope (own.map (·.2)) δ (fun ys w' => ∀ a, w' a = none → κ (R a) (wu w' a (.lst (ys.map DL.T))))))
    (hg1 : Gl X "sorted" := by rfl) (nb : starEach [.SetComp elt [⟨tg, iter, ifs, 0⟩] scope p2] X.env = (false, eval (.SetComp elt [⟨tg, iter, ifs, 0⟩] scope p2) X.env) :: starEach [] X.env := by rfl)
    (hs : ∀ x, foldedSetIterable iter X.env x = pure x := by intro _; rfl) : PD X T W χ (.Call (.Name "sorted" p) [.SetComp elt [⟨tg, iter, ifs, 0⟩] scope p2] [] pos) δ w κ := fun F σ S H Q hE hW hX hK => by
  obtain ⟨wi, hi, h⟩ := h
  refine wp_pe (pe_callB (cr_sortT hc) hg1 hmS bt_sorted (pa_cons (pe_sc hc hN hi ok pg_bx pt_bx pe_bx hs) pa_nil nb) (by decide) (by decide) nb) ?_
  refine h F σ S H _ hE hW hX fun ds w1 S1 H1 J G Y k s1 W1 ww hG hY L nL => ?_
  obtain ⟨hz, Pv, p0, turn, done⟩ := k
  have fL : F L = none := (W1.free nL).2.2
  refine sc_turns ww (w := X.w) (g := lcG X scope tg) (tt := lcT X scope ifs) (te := lcE X scope elt) (vs := own.map (·.2)) (σ := σ) (H1 := H1) (L := L) (fun i H' => ∃ acc w' S', Pv i acc w' ∧ acc.length ≤ i ∧ Same S1 S' ∧ World X.K T S' w' (upd F L (SetTO X.w L acc)) H') ?_ (fun i H' _ ⟨acc, w', S', _, _, s2, W2⟩ => hG S' w' _ H' s2 W2) ?_ ?_
  · exact ⟨[], w1, S1, p0, Nat.le_refl _, Same.refl _, W1.takeF nL (fun _ z => by cases z) (fun _ _ => code_ne)⟩
  · rintro i x H' H3 hi ⟨acc, w', S', pv, hacc, s2, W2⟩ y
    obtain ⟨S3, s3, W3, r⟩ := hY i ds[i] S' w' _ H' x H3 (List.getElem?_eq_getElem hi) s2 W2 y
    intro s H0 C cl fp
    refine turn i ds[i] acc w' (List.getElem?_eq_getElem hi) pv s H0 C cl fp (upd F L (SetTO X.w L acc)) x (L2.wipe σ (own.map (·.2))) S3 H3 _ r ((hE.mono (s1.trans (s2.trans s3))).wipe _) W3 fun δ2 w2 σ2 S4 H4 k s4 hE4 W4 o4 l4 => ?_
    refine ⟨?_, ?_⟩
    · rw [wipe_eq (σ1 := L2.wipe σ (own.map (·.2))) (σ2 := σ2) l4 fun j hj => o4 j fun z => hj (hsub j z)]
      exact wipe_eq (L2.wipe_length σ _) fun j hj => L2.wipe_out hj
    intro s H0 C cl fp
    refine k s H0 C cl fp (upd F L (SetTO X.w L acc)) σ2 S4 H4 _ hE4 W4 fun b w5 S5 H5 k5 s5 W5 => ?_
    cases b with
    | false =>
      rw [if_neg Bool.false_ne_true] at k5 ⊢
      exact ⟨acc, w5, S5, k5, by omega, s2.trans (s3.trans (s4.trans s5)), W5⟩
    | true =>
      rw [if_pos rfl] at k5 ⊢
      intro s H0 C cl fp
      refine k5 s H0 C cl fp (upd F L (SetTO X.w L acc)) σ2 S5 H5 _ (hE4.mono s5) W5 exf fun d6 w6 v6 S6 H6 k6 s6 W6 r6 => ?_
      obtain ⟨z, rfl, k6⟩ := k6
      have wl := withT_len (zs := acc) (z := z)
      refine ⟨acc, z, r6, (W6.frm L _ upd_same).2, by unfold scanBound; omega, withT acc z, w6, S6, k6, by omega, s2.trans (s3.trans (s4.trans (s5.trans s6))), ?_⟩
      have W7 := World.putFX (o := SetTO X.w L (withT acc z)) W6 upd_same (fun _ z => by cases z) (fun _ => code_ne) (fun _ z => by cases z) (fun _ _ => code_ne)
      rw [upd_upd] at W7
      exact W7
  · rintro H' ⟨acc, w', S', pv, hacc, s2, W2⟩
    obtain ⟨h64, k⟩ := done acc w' pv
    refine ⟨L, acc, rfl, (W2.frm L _ upd_same).2, h64, fun ys p hp hs np => ?_⟩
    have W3 := W2.leaveF fL
    exact hK _ _ _ _ _ (k ys hp hs p (W3.free np).2.1) (s1.trans s2) (W3.take np ⟨_, rfl, rep_txts ys⟩) rfl
end
end DL
namespace DL
open PySem PySem.Spec PyProof.Rows L2 LamX
theorem withT_nodup {zs : List Str} {z : Str} (h : zs.Nodup) : (withT zs z).Nodup := by
  unfold withT
  split
  · exact h
  · rename_i q
    exact List.nodup_cons.mpr ⟨q, h⟩
theorem gather_nodup : ∀ (us zs : List Str), zs.Nodup → (gather zs us).Nodup
  | [], zs, h => h
  | u :: us, zs, h => gather_nodup us (withT zs u) (withT_nodup h)
def chars (x : Str) : List Str := x.cps.toList.map fun c => ⟨#[c]⟩
section
variable {X : Cx} {T : List (Addr × Str)} {W : WX} {χ : XD} {δ : Dn} {w : Wp} {pos : Pos}
/-- sorted(set(e)): a text, or a list of texts -/
theorem pd_sortSetT {e : Expr} {p p2 pos2 : Pos} {κ : D → Wp → Prop} (hc : X.calm = true) (hmS : X.mg "sorted" = none) (hmT : X.mg "set" = none)
    (h : PD X T W χ e δ w fun d w1 => ∃ us : List Str, ((∃ x, d = DL.T x ∧ us = chars x) ∨ Lk w1 d (us.map DL.T)) ∧ us.length ≤ 1000 ∧ (gather [] us).length < 64 ∧ ∀ ys : List Str, ys.Perm (gather [] us) → sortedS ys = true → κ (.lst (ys.map DL.T)) w1)
    (hg1 : Gl X "sorted" := by rfl) (hg2 : Gl X "set" := by rfl) (na : starEach [e] X.env = (false, eval e X.env) :: starEach [] X.env := by rfl)
    (nb : starEach [.Call (.Name "set" p2) [e] [] pos2] X.env = (false, eval (.Call (.Name "set" p2) [e] [] pos2) X.env) :: starEach [] X.env := by rfl) :
    PD X T W χ (.Call (.Name "sorted" p) [.Call (.Name "set" p2) [e] [] pos2] [] pos) δ w κ := fun F σ S H Q hE hW hX hK => by
  refine wp_pe (pe_callB (cr_sortT hc) hg1 hmS bt_sorted (pa_cons (pe_callTy (cr_setT hc) hg2 hmT bt_set (pa_cons (pe_wp e) pa_nil na) (by decide) (by decide) na) pa_nil nb) (by decide) (by decide) nb) ?_
  refine h F σ S H _ hE hW hX fun d w1 v S1 H1 k s1 W1 r => ?_
  obtain ⟨us, hd, hz, h64, k⟩ := k
  have fin : ∀ q, H1 q = none → ∃ (a : Addr) (zs : List Str), [V.ref q] = [V.ref a] ∧ (upd H1 q (SetTO X.w q (gather [] us))) a = some (SetTO X.w a zs) ∧ zs.length < 64 ∧ ∀ (ys : List Str) (p : Addr), ys.Perm zs → sortedS ys = true → (upd H1 q (SetTO X.w q (gather [] us))) p = none → Q (.ref p) (upd (upd H1 q (SetTO X.w q (gather [] us))) p (.lst (ys.map V.str))) := fun q hq => by
    have W2 : World X.K T S1 w1 F (upd H1 q (SetTO X.w q (gather [] us))) := W1.junk hq
    refine ⟨q, gather [] us, rfl, upd_same, h64, fun ys p hp hs np => ?_⟩
    have s2 : Same S1 (upd S1 p (.lst (ys.map V.str))) := same_upd (W2.free np).1
    exact hK _ w1 _ _ _ (k ys hp hs) (s1.trans s2) (W2.laid np fun _ z => by cases z) ⟨p, _, rfl, upd_same, rep_txts ys⟩
  rcases hd with ⟨x, rfl, ex⟩ | lk
  · have r' : v = .str x := r
    subst r'
    exact ⟨us, .inl ⟨x, rfl, ex⟩, hz, fun q hq => fin q hq⟩
  · obtain ⟨a, xs, rfl, h1, h2⟩ := lk.at_ W1 r
    have e2 : us.map DL.T = (us.map V.str).map D.val := by
      rw [List.map_map]
      rfl
    rw [e2] at h2
    have e3 := h2.vals
    subst e3
    exact ⟨us, .inr ⟨a, rfl, SqL.of h1⟩, hz, fun q hq => fin q hq⟩
end
end DL

set_option Elab.async false
set_option linter.all false
set_option maxRecDepth 100000
set_option maxHeartbeats 2000000
/-! def f(a, .., **d), and its calls with keywords. -/
namespace DL
open PySem PySem.Spec PyProof.Rows L2 LamX
/-- the dict at a holds these names in this order -/
def KwD (P : Program) (w : PySem.World) (h : Heap) (a : Addr) (kvs : List (Str × Value)) : Prop :=
  ∃ o es ep, h.get? a = some o ∧ o.ExactDict ∧ o.data = .dict es ep ∧ KeysOf (mixKind P w) es ∧ Pairs (mixKind P w) es.toList (kvs.map fun p => (Sum.inr p.1, p.2)) ∧ (kvs.map (·.1)).Nodup
section
variable {P : Program} {w : PySem.World} {A : Around} {E : Value → Shared → Prop} {s : Shared} {a : Addr} {kvs : List (Str × Value)}
theorem pairs_str : ∀ {es : List DictEntry} {kvs : List (Str × Value)}, Pairs (mixKind P w) es (kvs.map fun p => (Sum.inr p.1, p.2)) → ∀ e ∈ es, ∃ z t, e.key = .str z t ∧ z ∈ kvs.map (·.1)
  | [], [], _, e, he => by cases he
  | e0 :: es, (k, v) :: kvs, h, e, he => by
    cases h with
    | cons h1 h2 h3 =>
      rcases List.mem_cons.mp he with q | q
      · subst q
        have h1' : Value.isStrOf k e.key = true := h1
        obtain ⟨t, ht⟩ := Value.isStrOf_shape h1'
        exact ⟨k, t, ht, List.mem_cons_self⟩
      · obtain ⟨z, t, e1, e2⟩ := pairs_str h3 e q
        exact ⟨z, t, e1, List.mem_cons_of_mem _ e2⟩
theorem pairs_snoc {K : Type} [DecidableEq K] {knd : KeyKind P w K} {es : List DictEntry} {kvs : List (K × Value)} {e : DictEntry} {k : K} {v : Value} (h : Pairs knd es kvs) (h1 : knd.is k e.key = true) (h2 : e.val = v) : Pairs knd (es ++ [e]) (kvs ++ [(k, v)]) := by
  induction h with
  | nil => exact .cons h1 h2 .nil
  | cons q1 q2 _ ih => exact .cons q1 q2 ih
theorem kwd_set {name : Str} {v : Value} {Q : Unit → Shared → Prop} (R : KwD P w s.heap a kvs) (hn : name ∉ kvs.map (·.1))
    (hQ : ∀ h', Heap.SameBut a s.heap h' → KwD P w h' a (kvs ++ [(name, v)]) → Q () { s with heap := h', toks := s.toks + 1 }) : wpAny (model P w) A (nsSet a name v) Q E s := fun Γ p _ => by
  obtain ⟨o, es, ep, ho, hx, hd, hk, hp, nd⟩ := R
  simp only [nsSet, strHash, Sem.wp_bind', Sem.wp_cmd_ask, Sem.wp_pure', Sem.wp_cmd_mkText]
  rw [Sem.wp_loadPart_of _ Γ _ p { s with toks := s.toks + 1 } (o := o) _ ho]
  have keys := pairs_str hp
  have hany : es.any (·.refKey) = false := by
    rw [Array.any_eq_false']
    intro e he
    obtain ⟨z, t, e1, _⟩ := keys e (by simpa using he)
    simp [DictEntry.refKey, e1]
  simp only [hd, aRefKeyMayBeTheName_eq, aRefKeyMayBeTheNameByArray, hany, Bool.and_false, Bool.false_eq_true, if_false, Sem.wp_cmd_updatePart]
  refine ⟨by rw [ho]; rfl, hQ _ (Heap.SameBut.update ..) ?_⟩
  obtain ⟨c, d, dt, sl⟩ := o
  subst hd
  have hi : es.findIdx? (·.key.isStr name) = none := by
    rw [Array.findIdx?_eq_none_iff]
    intro e he
    obtain ⟨z, t, e1, e2⟩ := keys e (by simpa using he)
    rw [e1]
    show (z == name) = false
    exact beq_eq_false_iff_ne.mpr fun q => hn (q ▸ e2)
  have at_ : (Obj.putName name (if name.cps.isEmpty = true then 0 else reduceHash ((model P w).w.params.strHash name.cps)) (.str name s.toks) v ⟨c, d, .dict es ep, sl⟩) = ⟨c, d, .dict (es.push ⟨if name.cps.isEmpty = true then 0 else reduceHash ((model P w).w.params.strHash name.cps), .str name s.toks, v⟩) (ep + 1), sl⟩ := by
    simp only [Obj.putName_eq, Obj.putNameByArray, hi]
  refine ⟨Obj.putName name _ (.str name s.toks) v ⟨c, d, .dict es ep, sl⟩, es.push ⟨if name.cps.isEmpty = true then 0 else reduceHash ((model P w).w.params.strHash name.cps), .str name s.toks, v⟩, ep + 1, Heap.get?_update_self _ ho (by rw [at_]; rfl), ?_, ?_, ?_, ?_, ?_⟩
  · rw [at_]
    exact hx
  · rw [at_]
  · intro e he
    rcases Array.mem_push.mp he with q | q
    · exact hk e q
    · subst q
      exact ⟨Sum.inr name, PySem.strKind_is P w name s.toks, rfl⟩
  · rw [Array.toList_push, List.map_append]
    exact pairs_snoc hp (PySem.strKind_is P w name s.toks) rfl
  · rw [List.map_append]
    exact List.nodup_append.mpr ⟨nd, by simp, fun x hx y hy => by
      rw [List.mem_singleton.mp hy]
      exact fun q => hn (by rw [← (show x = name from q)]; exact hx)⟩
theorem fm_congr {α β : Type} {f g : α → Option β} : ∀ {l : List α}, (∀ x ∈ l, f x = g x) → l.filterMap f = l.filterMap g
  | [], _ => rfl
  | a :: l, h => by
    rw [List.filterMap_cons, List.filterMap_cons, h a List.mem_cons_self, fm_congr fun x hx => h x (List.mem_cons_of_mem _ hx)]
theorem lookup_zip : ∀ {ps : List Str} {us : List Value}, ps.Nodup → us.length = ps.length → (ps.filterMap fun n => ((ps.zip us).lookup n).map (n, ·)) = ps.zip us ∧ (ps.filter fun n => ((ps.zip us).lookup n).isNone) = []
  | [], _, _, _ => ⟨by cases ‹List Value› <;> rfl, rfl⟩
  | p :: ps, [], _, h => by cases h
  | p :: ps, u :: us, nd, h => by
    obtain ⟨n1, n2⟩ := List.nodup_cons.mp nd
    obtain ⟨i1, i2⟩ := lookup_zip (ps := ps) (us := us) n2 (Nat.succ.inj h)
    have e : ∀ n ∈ ps, ((p :: ps).zip (u :: us)).lookup n = (ps.zip us).lookup n := fun n hn => by
      show List.lookup n ((p, u) :: ps.zip us) = _
      have hb : (n == p) = false := beq_eq_false_iff_ne.mpr fun q => n1 (q ▸ hn)
      simp only [List.lookup, hb]
    have e0 : ((p :: ps).zip (u :: us)).lookup p = some u := by
      show List.lookup p ((p, u) :: ps.zip us) = _
      simp [List.lookup]
    constructor
    · rw [List.filterMap_cons, e0]
      show (p, u) :: _ = (p, u) :: ps.zip us
      congr 1
      rw [← i1]
      exact fm_congr fun n hn => by rw [e n hn]
    · rw [List.filter_cons, e0]
      show (if false = true then _ else _) = _
      rw [if_neg Bool.false_ne_true, ← i2]
      exact List.filter_congr fun n hn => by rw [e n hn]
theorem kwd_new {s : Shared} : KwD P w (s.heap.push ({ cls := .type "dict", data := .dict #[] } : Obj)) s.heap.objs.size [] :=
  ⟨_, #[], 0, Heap.get?_push_size _ rfl, ⟨rfl, rfl, rfl⟩, rfl, (fun e he => by simp at he), .nil, List.nodup_nil⟩
theorem kwd_fill : ∀ (l : List (Str × Value)) (kvs : List (Str × Value)) (s : Shared) (Q : PUnit → Shared → Prop), KwD P w s.heap a kvs → (kvs.map (·.1) ++ l.map (·.1)).Nodup →
    (∀ h', Heap.SameBut a s.heap h' → KwD P w h' a (kvs ++ l) → Q ⟨⟩ { s with heap := h', toks := s.toks + l.length }) → ∀ f : Str × Value → PUnit → Sem (ForInStep PUnit), (∀ x u, f x u = (nsSet a x.1 x.2 >>= fun _ => pure (.yield ⟨⟩))) → wpAny (model P w) A (forIn l ⟨⟩ f) Q E s
  | [], kvs, s, Q, R, nd, hQ, f, hf => by
    rw [List.forIn_nil]
    refine wpAny_pure ?_
    have q := hQ s.heap (Heap.SameBut.refl ..) (by rw [List.append_nil]; exact R)
    exact q
  | (k, v) :: l, kvs, s, Q, R, nd, hQ, f, hf => by
    rw [List.forIn_cons, hf]
    have nk : k ∉ kvs.map (·.1) := fun q => (List.nodup_append.mp nd).2.2 k q k List.mem_cons_self rfl
    refine wpAny_bind (wpAny_bind (kwd_set R nk fun h1 sb R1 => wpAny_pure ?_))
    refine kwd_fill l (kvs ++ [(k, v)]) _ Q R1 ?_ (fun h2 sb2 R2 => ?_) f hf
    · rw [List.map_append, List.append_assoc]
      exact nd
    · have q := hQ h2 (sb.trans sb2) (by rw [List.append_assoc] at R2; exact R2)
      have e : s.toks + (l.length + 1) = s.toks + 1 + l.length := by omega
      rw [List.length_cons, e] at q
      exact q
theorem bind_kw {name qual nv : Str} {ps : List Str} {params : Arguments} {body : List Stmt} {scope : Scope} {kV doc pm cdv ct : Value} {an : Option Addr} {us ws : List Value} {ks : List Str} {Q : List (Str × Value) → Shared → Prop}
    (h1 : params.posonlyargs = []) (h2 : params.args.map (·.arg) = ps) (h3 : params.kwonlyargs = []) (h4 : params.vararg = none) (h5 : params.kwarg.map (·.arg) = some nv) (hl : us.length = ps.length) (np : ps.Nodup) (lw : ws.length = ks.length) (nk : ks.Nodup) (few : ks.length ≤ 1000) (out : ∀ k ∈ ks, k ∉ ps)
    (hQ : ∀ h' tk, Heap.SameBut s.heap.objs.size (s.heap.push ({ cls := .type "dict", data := .dict #[] } : Obj)) h' → KwD P w h' s.heap.objs.size (ks.zip ws) → Q (ps.zip us ++ [(nv, .ref s.heap.objs.size)]) { s with heap := h', toks := tk }) :
    wpAny (model P w) A (bindArgs (PySem.W.fnOf name qual params body scope .none kV doc pm an cdv ct) ⟨us, ks.zip ws⟩) Q E s := by
  unfold bindArgs PySem.W.fnOf
  dsimp only
  rw [h1, h2, h3, h4]
  simp only [List.map_nil, List.nil_append]
  have mk : (ks.zip ws).map (·.1) = ks := by
    rw [List.map_fst_zip (by omega)]
  have hk : params.kwarg.isSome = true := by
    cases e : params.kwarg with
    | none =>
      rw [e] at h5
      cases h5
    | some x => rfl
  refine wpAny_bind (wpAny_forIn_list _ (fun rest b s' => s' = s ∧ b.1 = ps.zip us ∧ b.2 ++ rest = ks.zip ws) _ (fun x rest b s' h => ?_) (fun b s' h => ?_) _ _ ⟨rfl, rfl, rfl⟩)
  · obtain ⟨rfl, e1, e2⟩ := h
    have xin : x.1 ∈ ks := by
      rw [← mk, ← e2]
      simp
    have c1 : (ps.contains x.fst || ([] : List Str).contains x.fst) = false := by
      simp [out _ xin]
    rw [if_neg (by rw [c1]; exact Bool.false_ne_true), if_pos hk]
    refine wpAny_pure ⟨rfl, e1, ?_⟩
    show (b.2 ++ [(x.1, x.2)]) ++ rest = _
    rw [List.append_assoc]
    exact e2
  · obtain ⟨rfl, e1, e2⟩ := h
    rw [List.append_nil] at e2
    obtain ⟨l1, l2⟩ := lookup_zip (us := us) np hl
    refine wpAny_bind (wpAny_pure ?_)
    have n1 : ¬ ((decide (us.length > ps.length) && (none : Option Arg).isNone) = true) := by
      rw [decide_eq_false (by omega)]
      exact Bool.false_ne_true
    simp only [Option.getD_none, List.length_nil, Nat.sub_zero, Nat.zero_sub, List.drop_nil, List.take_length, List.drop_length]
    rw [if_neg n1]
    cases hkw : params.kwarg with
    | none =>
      rw [hkw] at h5
      cases h5
    | some a0 =>
      rw [hkw] at h5
      have ea : a0.arg = nv := Option.some.inj h5
      rw [e1, l2]
      simp only [List.isEmpty_nil, Bool.not_true, Bool.false_eq_true, if_false, List.zip_nil_left, List.forIn_nil, pure_bind, List.append_nil]
      rw [l1, e2]
      have few2 : ¬ ((ks.zip ws).length > sizeLine + 1) := by
        rw [List.length_zip, sizeLine_eq]
        omega
      rw [if_neg few2]
      refine wpAny_bind (wpAny_alloc ?_)
      refine wpAny_bind (kwd_fill (ks.zip ws) [] _ _ kwd_new (by rw [mk]; exact nk) (fun h2 sb R => ?_) _ fun x u => rfl)
      refine wpAny_pure ?_
      rw [ea]
      exact hQ h2 _ sb R
end
/-! ### the def -/
/-- as Fun, its code object named -/
structure FuncC (K : PySem.W.Frag) (x qual : Str) (st : Stmt) (f : Addr) (fd : FuncData) (cdv : Value) : Prop where
  ex : ∃ (oc : Value) (od : Option Addr) (kV doc pm : Value) (an : Option Addr) (ct : Value) (osl : Array (Option Value)),
    fd = PySem.W.fnOf x qual (defArgs st) (defBody st) (defScope st) .none kV doc pm an cdv ct ∧ K.lookup f = some ⟨oc, od, .func fd, osl⟩ ∧ PySem.W.codeIn K cdv qual = true
  kp : PySem.W.keepIn K (.ref f) = true
theorem FuncC.fun {K : PySem.W.Frag} {x qual : Str} {st : Stmt} {f : Addr} {fd : FuncData} {cdv : Value} (G : FuncC K x qual st f fd cdv) : Fun K x qual st f fd := by
  obtain ⟨oc, od, kV, doc, pm, an, ct, osl, h1, h2, h3⟩ := G.ex
  exact ⟨⟨oc, od, kV, doc, pm, an, cdv, ct, osl, h1, h2, h3⟩, G.kp⟩
abbrev SpKw := List V → List Str → List V → Hp → VK → XK → Prop
def FnKw (P : Program) (w : PySem.World) (K : PySem.W.Frag) (mg : Str → Option Value) (base : Heap) (CX : CXT) (k : Nat) (f : Addr) (ps : List Str) (sp : SpKw) : Prop :=
  ∀ (A : Around) (outer : List Env) (s : Shared) (H : Hp) (us ws : List Value) (ks : List Str) (vs zs : List V) (Q : VK) (E : XK), Room k A → Env0 P w K mg base A outer s H → Vals vs us → Vals zs ws → vs.length = ps.length → zs.length = ks.length → ks.Nodup → ks.length ≤ 1000 → (∀ k ∈ ks, k ∉ ps) → sp vs ks zs H Q E →
    codeAny (model P w) A (.call (.ref f) ⟨us, ks.zip ws⟩) (CR CX outer P w H s Q E) s
theorem nodup_inr : ∀ {l : List Str}, l.Nodup → (l.map fun z : Str => (Sum.inr z : Key)).Nodup
  | [], _ => List.nodup_nil
  | a :: l, h => by
    obtain ⟨h1, h2⟩ := List.nodup_cons.mp h
    rw [List.map_cons]
    refine List.nodup_cons.mpr ⟨fun q => ?_, nodup_inr h2⟩
    obtain ⟨b, hb, e⟩ := List.mem_map.mp q
    exact h1 (Sum.inr.inj e ▸ hb)
abbrev skeys (ks : List Str) : List Key := ks.map Sum.inr
theorem kv_zip : ∀ {ks : List Str} {zs : List V} {ws : List Value}, Vals zs ws → KV ((skeys ks).zip zs) ((ks.zip ws).map fun p => ((Sum.inr p.1 : Key), p.2))
  | [], zs, ws, _ => .nil
  | k :: ks, [], _, .nil => .nil
  | k :: ks, z :: zs, _, .cons a r => .cons ⟨rfl, a⟩ (kv_zip r)
section
variable {CX : CXT} {P : Program} {w : PySem.World} {K : PySem.W.Frag} {mg : Str → Option Value} {base : Heap} {k : Nat} {f : Addr} {N ps : List Str} {sp : Sp} {x qual nv : Str} {st : Stmt} {fd : FuncData}
theorem fn_kw {cdv : Value} (G : FuncC K x qual st f fd cdv) (S : FnScope N (ps ++ [nv]) (defScope st)) (hCX : StX.CXUp CX)
    (h1 : (defArgs st).posonlyargs = []) (h2 : (defArgs st).args.map (·.arg) = ps) (h3 : (defArgs st).kwonlyargs = []) (h4 : (defArgs st).vararg = none) (h5 : (defArgs st).kwarg.map (·.arg) = some nv) (np : ps.Nodup)
    (body : ∀ (A : Around) (outer : List Env) (s : Shared) (H : Hp) (vs : List V) (Q : VK) (E : XK), Room k (A.deeper (envOfC qual (defScope st) s.heap.objs.size f cdv)) → sp vs H Q E →
      ∃ t, PSs (cxOf CX P w K mg base N qual (defScope st) f cdv A outer s H E) (defBody st) t ∧ t { nx := fun _ H' => Q .non H', rt := Q } (start N vs) H) :
    FnKw P w K mg base CX (k + 1) f ps (fun vs ks zs H Q E => ∀ p, H p = Option.none → sp (vs ++ [V.ref p]) (upd H p (.dK ((skeys ks).zip zs))) Q E) := by
  intro A outer s H us ws ks vs zs Q E hr e0 r rz lv lz nk few out hq
  obtain ⟨oc, od, kV, doc, pm, an, ct, osl, rfl, lk, hcd⟩ := G.ex
  have new0 : H s.heap.objs.size = Option.none := e0.hok.fresh (Nat.le_refl _)
  have lu : us.length = ps.length := by rw [← r.length]; exact lv
  have lw : ws.length = ks.length := by rw [← rz.length]; exact lz
  refine StX.run_bnd lk hcd S hr e0 (G := fun xs H2 => ∃ p, H p = Option.none ∧ xs = vs ++ [V.ref p] ∧ H2 = upd H p (.dK ((skeys ks).zip zs))) (fun A' Ex Q' h => ?_) fun s2 H2 xs ⟨p, hp, ex, eH⟩ hr' => ?_
  · refine bind_kw h1 h2 h3 h4 h5 lu np lw nk few out fun h' tk sb R => ?_
    have kp : ∀ b o, s.heap.get? b = some o → h'.get? b = some o := fun b o e => (sb.2 b (Nat.ne_of_lt (Heap.lt_size e))).trans (Heap.get?_push_of_some _ e)
    have ob : ObjOk P w (upd H s.heap.objs.size (.dK ((skeys ks).zip zs))) h' s.heap.objs.size (.dK ((skeys ks).zip zs)) := by
      obtain ⟨o, es, ep, a1, a2, a3, a4, a5, a6⟩ := R
      refine ⟨?_, beq_eq_false_iff_ne.mpr (Nat.ne_of_gt (StX.env0_big e0)), _, kv_zip rz, o, es, ep, a1, a2, a3, a4, a5, ?_⟩
      · rw [List.length_zip, List.length_map, sizeLine_eq]
        omega
      · rw [List.map_map]
        have e : ((fun p : Key × Value => p.1) ∘ fun p : Str × Value => ((Sum.inr p.1 : Key), p.2)) = (fun z : Str => (Sum.inr z : Key)) ∘ fun p : Str × Value => p.1 := rfl
        rw [e, ← List.map_map]
        exact nodup_inr a6
    have sz : s.heap.objs.size ≤ h'.objs.size := Nat.le_of_lt (by
      obtain ⟨o, es, ep, a1, _⟩ := R
      exact Heap.lt_size a1)
    have un : Un (frs outer) [] H (upd H s.heap.objs.size (.dK ((skeys ks).zip zs))) s.heap h' := Un.laid kp (Nat.le_refl _) new0
    have e2 : Env0 P w K mg base A outer { s with heap := h', toks := tk } (upd H s.heap.objs.size (.dK ((skeys ks).zip zs))) := by
      refine ⟨e0.frames, e0.mod, fun b x e => ⟨kp b x (e0.bs b x e).1, ?_⟩, Nat.le_trans e0.bsz sz, Heap.FunFrames.of_keeps (fun b x e _ => ⟨x, kp b x e, rfl⟩) e0.funs, fun b hb => ?_, e0.hok.laid kp (Nat.le_refl _) ob, e0.bare⟩
      · rw [upd_ne (Nat.ne_of_lt (Heap.lt_size (e0.bs b x e).1))]
        exact (e0.bs b x e).2
      · obtain ⟨_, x, hx, _⟩ := e0.funs.mem hb
        rw [upd_ne (Nat.ne_of_lt (Heap.lt_size hx))]
        exact e0.frf b hb
    have z := h { s with heap := h', toks := tk } _ (vs ++ [V.ref s.heap.objs.size]) (us ++ [Value.ref s.heap.objs.size]) e2 un rfl (fun e s' => hCX outer s H _ _ E e s' un kp rfl) (r.append (.cons rfl .nil)) (by rw [List.length_append, List.length_append, lv] <;> rfl) ⟨_, new0, rfl, rfl⟩
    rw [List.zip_append lu.symm] at z
    exact z
  · subst ex eH
    exact body A outer s2 _ _ Q E hr' (hq p hp)
end
/-! ### in data -/
abbrev SpDK := List D → List Str → List D → Wp → (D → Wp → Prop) → XD → Prop
/-- the promise sp of a def f(.., **d), told of the data in front and of the dict's -/
def spKw (K : PySem.W.Frag) (T : List (Addr × Str)) (sp : SpD) : SpKw := fun vs ks zs H Q E => ∀ p, H p = Option.none → spOf K T sp (vs ++ [V.ref p]) (upd H p (.dK ((skeys ks).zip zs))) Q E
theorem zip_fst {α β : Type} : ∀ {xs : List α} {ys : List β}, ys.length = xs.length → (xs.zip ys).map (·.1) = xs
  | [], _, _ => rfl
  | x :: xs, [], h => by cases h
  | x :: xs, y :: ys, h => by
    show x :: (xs.zip ys).map (·.1) = _
    rw [zip_fst (Nat.succ.inj h)]
theorem zip_snd {α β : Type} : ∀ {xs : List α} {ys : List β}, ys.length = xs.length → (xs.zip ys).map (·.2) = ys
  | [], [], _ => rfl
  | [], y :: ys, h => by cases h
  | x :: xs, [], h => by cases h
  | x :: xs, y :: ys, h => by
    show y :: (xs.zip ys).map (·.2) = _
    rw [zip_snd (Nat.succ.inj h)]
section
variable {P : Program} {w : PySem.World} {K : PySem.W.Frag} {mg : Str → Option Value} {base : Heap} {T : List (Addr × Str)}
theorem fnKX {x qual nv : Str} {st : Stmt} {f : Addr} {fd : FuncData} {N ps : List Str} {k : Nat} {sp : SpD} {cdv : Value} (G : FuncC K x qual st f fd cdv) (S : FnScope N (ps ++ [nv]) (defScope st))
    (h1 : (defArgs st).posonlyargs = []) (h2 : (defArgs st).args.map (·.arg) = ps) (h3 : (defArgs st).kwonlyargs = []) (h4 : (defArgs st).vararg = none) (h5 : (defArgs st).kwarg.map (·.arg) = some nv) (np : ps.Nodup)
    (body : ∀ (A : Around) (outer : List Env) (s : Shared) (H : Hp) (E : XK) (ds : List D) (w0 : Wp) (κ : D → Wp → Prop) (χ : XD), Room k (A.deeper (envOfC qual (defScope st) s.heap.objs.size f cdv)) → sp ds w0 κ χ →
      PSsD (cxOf (L2.CX P w) P w K mg base N qual (defScope st) f cdv A outer s H E) T (fun cls d _ H => E cls d H) χ (defBody st) (startD N ds) w0 { nx := fun _ w' => κ DL.N w', rt := κ }) : FnKw P w K mg base (L2.CX P w) (k + 1) f ps (spKw K T sp) := by
  refine fn_kw (sp := spOf K T sp) G S StX.cxUp h1 h2 h3 h4 h5 np fun A outer s H vs Q E hr h => ?_
  obtain ⟨ds, w0, F, S0, κ, χ, q1, q2, q3, q4, q5⟩ := h
  refine ⟨_, pss_wp _, ?_⟩
  exact body A outer s H E ds w0 κ χ hr q1 F _ S0 H _ (env_start q2) q3 (fun σ C ns fs w' d S' H' x s1 W1 xr => q5 C ns fs w' d S' H' x s1 W1 xr) ⟨fun δ' w' σ' S' H' k s1 hE W1 => q4 _ w' _ S' H' k s1 W1 rfl, q4, fun _ _ _ _ _ z => z.elim, fun _ _ _ _ _ z => z.elim⟩
end
/-- the values of keywords, in data -/
def PKD (X : Cx) (T : List (Addr × Str)) (W : WX) (χ : XD) : List Keyword → Dn → Wp → (List D → Wp → Prop) → Prop
  | [], δ, w, κ => κ [] w
  | ⟨_, e, _⟩ :: ks, δ, w, κ => PD X T W χ e δ w fun d w1 => PKD X T W χ ks δ w1 fun ds w2 => κ (d :: ds) w2
def wpK (X : Cx) : List Keyword → TA
  | [] => tNil
  | ⟨_, e, _⟩ :: ks => tCons (wpE X e) (wpK X ks)
theorem pk_wp {X : Cx} : ∀ ks : List Keyword, PK X ks (wpK X ks)
  | [] => pk_nil
  | ⟨_, e, _⟩ :: ks => pk_cons (pe_wp e) (pk_wp ks)
theorem pkd_wp {X : Cx} {T : List (Addr × Str)} {W : WX} {χ : XD} {δ : Dn} : ∀ {ks : List Keyword} {w : Wp} {κ : List D → Wp → Prop}, PKD X T W χ ks δ w κ → ∀ (F : Hp) (σ : L2.St) (S H : Hp) (Q : List V → Hp → Prop), EnvD X.K S δ σ → World X.K T S w F H → ExD X.K T W χ σ S F → KA X.K T κ S F Q → wpK X ks σ H Q
  | [], w, κ, h, F, σ, S, H, Q, hE, hW, hX, hK => hK [] w [] S H h (Same.refl _) hW rfl
  | ⟨_, e, _⟩ :: ks, w, κ, h, F, σ, S, H, Q, hE, hW, hX, hK => by
    refine h F σ S H _ hE hW hX fun d w1 v S1 H1 k s1 W1 r => ?_
    refine pkd_wp k F σ S1 H1 _ (hE.mono s1) W1 (hX.mono s1) fun ds w2 vs S2 H2 k2 s2 W2 r2 => ?_
    exact hK (d :: ds) w2 (v :: vs) S2 H2 k2 (s1.trans s2) W2 ⟨v, vs, rfl, r.mono s2, r2⟩
section
variable {X : Cx} {T : List (Addr × Str)} {W : WX} {χ : XD} {δ : Dn} {w : Wp} {pos : Pos}
theorem run_kw {CX : CXT} {k : Nat} {f : Addr} {ps ks : List Str} {sp : SpKw} {E : XK} {pins : List (Addr × Obj)} {σ : L2.St} {H : Hp} {s : Shared} {Q : VK} {us ws : List Value} {vs zs : List V} (G : FnKw X.prog X.w X.K X.mg X.base CX k f ps sp) (hr : Room k X.A)
    (hx : PassesAt CX X σ E) (I : Inv X pins σ H s) (r : Vals vs us) (rz : Vals zs ws) (lv : vs.length = ps.length) (lz : zs.length = ks.length) (nk : ks.Nodup) (few : ks.length ≤ 1000) (out : ∀ k ∈ ks, k ∉ ps) (h : sp vs ks zs H Q E) : wpAny (model X.prog X.w) X.A (call (.ref f) us (ks.zip ws)) (EP X pins σ Q) X.xe s := by
  refine wpAny_call (codeAny_mono (G X.A X.stack s H us ws ks vs zs Q E hr I.env0 r rz lv lz nk few out h) fun r s' hq => ?_)
  cases r with
  | error e => exact hx pins H s e s' I hq
  | ok fl =>
    cases fl with
    | ret u => exact I.after hq
    | next => exact False.elim hq
    | brk => exact False.elim hq
    | cont => exact False.elim hq
/-- o.m(k = e, ..) -/
theorem pd_methKw {CX : CXT} {k : Nat} {C f : Addr} {m : Str} {ks : List Str} {sp : SpD} {o : Expr} {kws : List Keyword} {apos : Pos} {pl : Sem Bool} {κ : D → Wp → Prop} (c : Cls X.K C) (hm : Meth X.K C m f) (G : FnKw X.prog X.w X.K X.mg X.base CX k f (["self"] : List Str) (spKw X.K T sp)) (hr : Room k X.A) (hx : ∀ σ, PassesAt CX X σ (WE W σ))
    (h : PD X T W χ o δ w fun d w1 => InsD C m d w1 ∧ PKD X T W χ kws δ w1 fun ds w2 => ds.length = ks.length ∧ sp [d, .dcv (skeys ks) ds] w2 κ χ) (nk : ks.Nodup := by decide +kernel) (few : ks.length ≤ 1000 := by decide) (out : ∀ k ∈ ks, k ∉ (["self"] : List Str) := by decide +kernel)
    (hall : (backToKw pos (keywordEach kws X.env)).all (·.1.isSome) = true := by rfl) (hks : (backToKw pos (keywordEach kws X.env)).filterMap (·.1) = ks := by rfl)
    (hpl : ((backTo pos (starEach [] X.env)).any (·.1) || (backToKw pos (keywordEach kws X.env)).any (·.1.isNone)) = false := by rfl)
    (ht : eval (.Call (.Attribute o m apos) [] kws pos) X.env = (do
      let ov ← eval o X.env
      standAt apos.atName
      let (f, first) ← holding [ov] (getMethod ov m pl)
      callWith pos f first (backTo pos (starEach [] X.env)) (backToKw pos (keywordEach kws X.env))) := by rfl) :
    PD X T W χ (.Call (.Attribute o m apos) [] kws pos) δ w κ := fun F σ S H Q hE hW hX hK => by
  intro pins s I
  refine PySem.W.methodCall_KW (pl := pl) (thn ((pe_wp o).run pins s σ H (fun x H1 => ∃ d w1 S1, InsD C m d w1 ∧ (PKD X T W χ kws δ w1 fun ds w2 => ds.length = ks.length ∧ sp [d, .dcv (skeys ks) ds] w2 κ χ) ∧ Same S S1 ∧ World X.K T S1 w1 F H1 ∧ Rep X.K S1 d x) I (h F σ S H _ hE hW hX fun d w1 v S1 H1 k s1 W1 r => ⟨d, w1, S1, k.1, k.2, s1, W1, r⟩)) fun u s1 ⟨x, H1, I1, rx, d, w1, S1, ki, kk, sm1, W1, r1⟩ => ?_) ht
  obtain ⟨a, dx, fs, rfl, ea, el⟩ := ki.is W1 r1
  obtain rfl : u = Value.ref a := rx
  refine getmeth_ok I1 ea c hm el ?_
  refine PySem.W.callWith_KW0 (h₀ := X.base) I1.ok.mod.kin hm.kp hall (thn ((pk_wp kws).run pos pins s1 σ H1 (fun zs H2 => ∃ ds w2 S2, (ds.length = ks.length ∧ sp [d, .dcv (skeys ks) ds] w2 κ χ) ∧ Same S1 S2 ∧ World X.K T S2 w2 F H2 ∧ RepL X.K S2 ds zs) I1 (pkd_wp kk F σ S1 H1 _ (hE.mono sm1) W1 (hX.mono sm1) fun ds w2 vs S2 H2 k2 s2 W2 r2 => ⟨ds, w2, S2, k2, s2, W2, r2⟩)) fun ws s2 ⟨zs, H2, I2, rz, ds, w2, S2, ⟨ld, hsp⟩, sm2, W2, r2⟩ => ⟨I2.kIn, ?_⟩) hpl
  rw [hks]
  have lz : zs.length = ks.length := by rw [r2.length]; exact ld
  refine run_kw (us := [Value.ref a]) (vs := [V.ref a]) G hr (hx σ) I2 (.cons rfl .nil) rz rfl lz nk few out fun p np => ?_
  have e1 := W2.free np
  have sS : Same S2 (upd S2 p (.dK ((skeys ks).zip zs))) := same_upd e1.1
  have lz2 : zs.length = (skeys ks).length := by rw [List.length_map]; exact lz
  refine ⟨[d, .dcv (skeys ks) ds], w2, F, _, κ, χ, hsp, ⟨.ref a, [.ref p], rfl, (r1.mono sm2).mono sS, .ref p, [], rfl, ⟨p, _, rfl, upd_same, zip_fst lz2, ?_⟩, rfl⟩, W2.laid np fun _ z => (by cases z), hK.mono (sm1.trans (sm2.trans sS)), fun C ns fs w' d S' H' x s3 W3 xr => hX C ns fs w' d S' H' x (sm1.trans (sm2.trans (sS.trans s3))) W3 xr⟩
  rw [zip_snd lz2]
  exact r2.mono sS
end
end DL

set_option Elab.async false
set_option linter.all false
set_option maxRecDepth 100000
set_option maxHeartbeats 2000000
/-! C(e, .., k = e, ..), __init__ with **d. -/
namespace DL
open PySem PySem.Spec PyProof.Rows L2 LamX
section
variable {X : Cx} {T : List (Addr × Str)} {W : WX} {χ : XD} {δ : Dn} {w : Wp} {pos : Pos}
theorem run_makeKw {CX : CXT} {k : Nat} {f C : Addr} {ps ks : List Str} {sp : SpKw} {E : XK} {pins : List (Addr × Obj)} {σ : L2.St} {H : Hp} {s : Shared} {Q : VK} {us ws : List Value} {vs zs : List V} (M : Mk X.K C f) (G : FnKw X.prog X.w X.K X.mg X.base CX k f ps sp) (hr : Room (k + 1) X.A)
    (hx : PassesAt CX X σ E) (I : Inv X pins σ H s) (r : Vals vs us) (rz : Vals zs ws) (lv : vs.length + 1 = ps.length) (lz : zs.length = ks.length) (nk : ks.Nodup) (few : ks.length ≤ 1000) (out : ∀ k ∈ ks, k ∉ ps)
    (h : ∀ x dx, H x = none → H dx = none → dx ≠ x → sp (.ref x :: vs) ks zs (upd (upd H dx (.own x)) x (.ins C dx [])) (fun v H2 => v = .non ∧ Q (.ref x) H2) E) :
    wpAny (model X.prog X.w) X.A (call (.ref C) us (ks.zip ws)) (EP X pins σ Q) X.xe s := by
  have hq := h (s.heap.objs.size + 1) s.heap.objs.size (I.hok.fresh (Nat.le_succ _)) (I.hok.fresh (Nat.le_refl _)) (Nat.ne_of_lt (Nat.lt_succ_self _))
  have I2 := Inv.made (C := C) I
  refine wpAny_call (make_map (f := f) I.kIn M.makes M.init (beq_iff_eq.mp M.fn) (codeAny_mono (G _ X.stack _ _ (Value.ref (s.heap.objs.size + 1) :: us) ws ks _ zs _ E (hr.make C us (ks.zip ws)) (I2.env0.make C us (ks.zip ws)) (Paired.cons (show RelV (V.ref (s.heap.objs.size + 1)) (Value.ref (s.heap.objs.size + 1)) from rfl) r) rz (by show vs.length + 1 = _; exact lv) lz nk few out hq) fun r s' hq' => ?_))
  cases r with
  | error e => exact hx pins _ _ e s' I2 hq'
  | ok fl =>
    cases fl with
    | ret u =>
      obtain ⟨v, H', I3, rv, ev, q3⟩ := I2.after hq'
      subst ev
      exact ⟨rv, ⟨V.ref (s.heap.objs.size + 1), H', I3, rfl, q3⟩⟩
    | next => exact False.elim hq'
    | brk => exact False.elim hq'
    | cont => exact False.elim hq'
/-- C(e, .., k = e, ..) -/
theorem pd_makeKw {CX : CXT} {k : Nat} {f C : Addr} {ps ks : List Str} {sp : SpD} {x : Str} {p : Pos} {e : Expr} {es : List Expr} {kws : List Keyword} {κ : D → Wp → Prop} (M : Mk X.K C f) (G : FnKw X.prog X.w X.K X.mg X.base CX k f ps (spKw X.K T sp)) (hr : Room (k + 1) X.A) (hm : X.mg x = some (.ref C)) (hx : ∀ σ, PassesAt CX X σ (WE W σ))
    (h : PAD X T W χ (e :: es) δ w fun ds w1 => ds.length + 1 = ps.length ∧ PKD X T W χ kws δ w1 fun zs w2 => zs.length = ks.length ∧ ∀ a dx p, w2 a = none → w2 p = none → p ≠ a → sp (R a :: (ds ++ [R p])) (wu (wu w2 a (.ins C dx [] [])) p (.dcd (skeys ks) zs)) (fun d w3 => d = N ∧ ∃ ns es, w3 a = some (.ins C dx ns es) ∧ κ (.obj C ns es) (wd (wd w3 a) p)) (fun C ns fs w3 => χ C ns fs (wd (wd w3 a) p)))
    (nk : ks.Nodup := by decide +kernel) (few : ks.length ≤ 1000 := by decide) (out : ∀ k ∈ ks, k ∉ ps := by decide +kernel) (hg : Gl X x := by rfl) (hdb : (x == ("__debug__" : Str)) = false := by decide)
    (hall : (backToKw pos (keywordEach kws X.env)).all (·.1.isSome) = true := by rfl) (hks : (backToKw pos (keywordEach kws X.env)).filterMap (·.1) = ks := by rfl)
    (he : starEach (e :: es) X.env = (false, eval e X.env) :: starEach es X.env := by rfl) (hpl : ((backTo pos (starEach es X.env)).any (·.1) || (backToKw pos (keywordEach kws X.env)).any (·.1.isNone)) = false := by rfl) :
    PD X T W χ (.Call (.Name x p) (e :: es) kws pos) δ w κ := fun F σ S H Q hE hW hX hK => by
  intro pins s I
  refine wpAny_Call_Name_kw (ld_glob I hg hm ?_ hdb)
  refine PySem.W.callWith_KW (h₀ := X.base) I.ok.mod.kin M.kp hall (thn ((pa_wp (e :: es)).run pos pins s σ H (fun vs H1 => ∃ ds w1 S1, (ds.length + 1 = ps.length ∧ PKD X T W χ kws δ w1 fun zs w2 => zs.length = ks.length ∧ ∀ a dx p, w2 a = none → w2 p = none → p ≠ a → sp (R a :: (ds ++ [R p])) (wu (wu w2 a (.ins C dx [] [])) p (.dcd (skeys ks) zs)) (fun d w3 => d = N ∧ ∃ ns es, w3 a = some (.ins C dx ns es) ∧ κ (.obj C ns es) (wd (wd w3 a) p)) (fun C ns fs w3 => χ C ns fs (wd (wd w3 a) p))) ∧ Same S S1 ∧ World X.K T S1 w1 F H1 ∧ RepL X.K S1 ds vs) I
    (h F σ S H _ hE hW hX fun ds w1 vs S1 H1 k s1 W1 r => ⟨ds, w1, S1, k, s1, W1, r⟩)) fun us s1 ⟨vs, H1, I1, r, ds, w1, S1, ⟨ld, hk⟩, sm1, W1, rd⟩ => ?_) (by rw [he]; exact hpl) he
  refine thn ((pk_wp kws).run pos pins s1 σ H1 (fun zs H2 => ∃ zd w2 S2, (zd.length = ks.length ∧ ∀ a dx p, w2 a = none → w2 p = none → p ≠ a → sp (R a :: (ds ++ [R p])) (wu (wu w2 a (.ins C dx [] [])) p (.dcd (skeys ks) zd)) (fun d w3 => d = N ∧ ∃ ns es, w3 a = some (.ins C dx ns es) ∧ κ (.obj C ns es) (wd (wd w3 a) p)) (fun C ns fs w3 => χ C ns fs (wd (wd w3 a) p))) ∧ Same S1 S2 ∧ World X.K T S2 w2 F H2 ∧ RepL X.K S2 zd zs) I1
    (pkd_wp hk F σ S1 H1 _ (hE.mono sm1) W1 (hX.mono sm1) fun zd w2 zs S2 H2 k2 s2 W2 r2 => ⟨zd, w2, S2, k2, s2, W2, r2⟩)) fun ws s2 ⟨zs, H2, I2, rz, zd, w2, S2, ⟨lz, hsp⟩, sm2, W2, rzd⟩ => ⟨I2.kIn, ?_⟩
  rw [hks]
  have lz1 : zs.length = ks.length := by rw [rzd.length]; exact lz
  refine run_makeKw M G hr (hx σ) I2 r rz (by rw [rd.length]; exact ld) lz1 nk few out fun a dx na ndx nad p np => ?_
  have W3 := (W2.junk (o := .own a) ndx).take (a := a) (h := .ins C dx [] []) (o := .ins C dx []) (by rw [upd_ne (Ne.symm nad)]; exact na) ⟨[], rfl, rfl, rfl⟩
  have pa : p ≠ a := fun z => by
    rw [z, upd_same] at np
    cases np
  have wp : w2 p = none := by
    have e := (W3.free np).2.1
    rw [wu_ne pa] at e
    exact e
  have lz2 : zs.length = (skeys ks).length := by rw [List.length_map]; exact lz1
  have W4 := W3.take (a := p) (h := .dcd (skeys ks) zd) (o := .dK ((skeys ks).zip zs)) np ⟨_, rfl, zip_fst lz2, by rw [zip_snd lz2]; exact rzd⟩
  refine ⟨_, _, F, S2, _, _, hsp a dx p (W2.free na).2.1 wp pa, ⟨_, vs ++ [.ref p], rfl, rfl, (rd.mono sm2).app ⟨.ref p, [], rfl, rfl, rfl⟩⟩, W4, ?_, fun C ns fs w' d S' H' x s3 W5 xr => hX C ns fs _ d S' H' x (sm1.trans (sm2.trans s3)) ((W5.drop a).drop p) xr⟩
  rintro d w' v S' H' ⟨rfl, ns, es, ew, kk⟩ s3 W5 rv
  refine ⟨rv, ?_⟩
  obtain ⟨o, e1, r3, W6⟩ := W5.freeze ew
  obtain ⟨ys, rfl, hys, r4⟩ := r3
  have s4 : Same S' (upd S' a (.ins C dx ys)) := same_upd e1
  exact hK _ _ _ _ _ kk (sm1.trans (sm2.trans (s3.trans s4))) (W6.drop p) ⟨a, dx, ys, rfl, upd_same, hys, r4.mono s4⟩
end
end DL

set_option Elab.async false
set_option linter.all false
set_option maxRecDepth 100000
set_option maxHeartbeats 2000000
/-! k35: errors (their context is None), UnknownDeed, BadMachine. -/
namespace DL
open PySem PySem.Spec PyProof.Rows L2 LamX
section
variable {P : Program} {w : PySem.World} {K : PySem.W.Frag} {mg : Str → Option Value} {base : Heap} {T : List (Addr × Str)}
theorem okXN {x qual : Str} {st : Stmt} {f : Addr} {fd : FuncData} {N ps : List Str} {k : Nat} {sp : Sp} (G : Fun K x qual st f fd) (S : FnScope N ps (defScope st)) (ln : ∀ vs H Q E, sp vs H Q E → vs.length = ps.length)
    (hb : ∀ (cdv : Value) (A : Around) (outer : List Env) (s : Shared) (H : Hp) (vs : List V) (Q : VK) (E : XK), Room k (A.deeper (envOfC qual (defScope st) s.heap.objs.size f cdv)) → sp vs H Q E →
      ∃ t, PSs (cxOf (L2N.CX P w) P w K mg base N qual (defScope st) f cdv A outer s H E) (defBody st) t ∧ t { nx := fun _ H' => Q .non H', rt := Q } (L2.start N vs) H) : FnOk P w K mg base (L2N.CX P w) (k + 1) f fd ps sp := by
  obtain ⟨oc, od, kV, doc, pm, an, cdv, ct, osl, rfl, e1, e2⟩ := G.ex
  exact fn_of e1 e2 S ln fun A outer s H vs Q E hr q => hb cdv A outer s H vs Q E hr q
/-- a def that may raise -/
theorem fnXN {x qual : Str} {st : Stmt} {f : Addr} {fd : FuncData} {N ps : List Str} {k : Nat} {sp : SpD} (G : Fun K x qual st f fd) (S : FnScope N ps (defScope st)) (len : ∀ ds w κ χ, sp ds w κ χ → ds.length = ps.length)
    (body : ∀ (cdv : Value) (A : Around) (outer : List Env) (s : Shared) (H : Hp) (E : XK) (ds : List D) (w0 : Wp) (κ : D → Wp → Prop) (χ : XD), Room k (A.deeper (envOfC qual (defScope st) s.heap.objs.size f cdv)) → sp ds w0 κ χ →
      PSsD (cxOf (L2N.CX P w) P w K mg base N qual (defScope st) f cdv A outer s H E) T (fun cls d _ H => E cls d H) χ (defBody st) (startD N ds) w0 { nx := fun _ w' => κ DL.N w', rt := κ }) : FnOk P w K mg base (L2N.CX P w) (k + 1) f fd ps (spOf K T sp) := by
  refine okXN G S (fun vs H Q E h => ?_) (fun cdv A outer s H vs Q E hr h => ?_)
  · obtain ⟨ds, w0, F, S0, κ, χ, h1, h2, _⟩ := h
    rw [h2.length]
    exact len _ _ _ _ h1
  · obtain ⟨ds, w0, F, S0, κ, χ, h1, h2, h3, h4, h5⟩ := h
    refine ⟨_, pss_wp _, ?_⟩
    exact body cdv A outer s H E ds w0 κ χ hr h1 F _ S0 H _ (env_start h2) h3 (fun σ C ns fs w' d S' H' x s1 W1 xr => h5 C ns fs w' d S' H' x s1 W1 xr) ⟨fun δ' w' σ' S' H' k s1 hE W1 => h4 _ w' _ S' H' k s1 W1 rfl, h4, fun _ _ _ _ _ z => z.elim, fun _ _ _ _ _ z => z.elim⟩
theorem takesX {N : List Str} {qual : Str} {sc : Scope} {f : Addr} {cdv : Value} {A : Around} {outer : List Env} {s : Shared} {H : Hp} {E : XK} : L2N.Takes (cxOf (L2N.CX P w) P w K mg base N qual sc f cdv A outer s H E) (fun cls d _ H => E cls d H) := L2N.takes_of rfl rfl rfl rfl
theorem passX {N : List Str} {qual : Str} {sc : Scope} {f : Addr} {cdv : Value} {A : Around} {outer : List Env} {s : Shared} {H : Hp} {E : XK} (σ : L2.St) : PassesAt (L2N.CX P w) (cxOf (L2N.CX P w) P w K mg base N qual sc f cdv A outer s H E) σ (WE (fun cls d _ H => E cls d H) σ) := L2N.passAt takesX σ
end
theorem passLf {X : Cx} {σ : L2.St} : PassesAt (L2N.CX X.prog X.w) X σ (WE Wf σ) := fun pins H s e s' I h => by
  obtain ⟨_, _, _, _, _, _, _, _, _, _, _, _, z⟩ := h
  exact z.elim
theorem passesL {X : Cx} : Passes (L2N.CX X.prog X.w) X (fun _ _ _ => False) := fun pins σ H s e s' I h => by
  obtain ⟨_, _, _, _, _, _, _, _, _, _, _, _, z⟩ := h
  exact z.elim
/-- an error told with less, and its context known -/
theorem cxn_of {P : Program} {w : PySem.World} {outer : List Env} {H : Hp} {s : Shared} {E : XK} {u : Value} {s' : Shared} (h : L2.CX P w outer H s E u s') (c : ∀ a oe, u = .ref a → s'.heap.get? a = some oe → PXN.CtxN oe) : L2N.CX P w outer H s E u s' := by
  obtain ⟨a, B, H', cls, d, rfl, ⟨f1, f2, f3, oe, vs, T, oT, ts, e1, e2, e3⟩, r⟩ := h
  exact ⟨a, B, H', cls, d, rfl, ⟨f1, f2, f3, oe, vs, T, oT, ts, e1, ⟨e2.1, e2.2, c a oe rfl e1⟩, e3⟩, r⟩
theorem cxn_to {P : Program} {w : PySem.World} {outer : List Env} {H : Hp} {s : Shared} {E : XK} {u : Value} {s' : Shared} (h : L2N.CX P w outer H s E u s') : L2.CX P w outer H s E u s' ∧ ∀ a oe, u = .ref a → s'.heap.get? a = some oe → PXN.CtxN oe := by
  obtain ⟨a, B, H', cls, d, rfl, ⟨f1, f2, f3, oe, vs, T, oT, ts, e1, e2, e3⟩, r⟩ := h
  refine ⟨⟨a, B, H', cls, d, rfl, ⟨f1, f2, f3, oe, vs, T, oT, ts, e1, e2.zc, e3⟩, r⟩, fun a' oe' q q2 => ?_⟩
  cases q
  rw [e1] at q2
  cases q2
  exact e2.2.2
theorem cxUpN {P : Program} {w : PySem.World} : StX.CXUp (L2N.CX P w) := fun outer s H s2 H2 E e s' un kp ho h => cxn_of (StX.cxUp outer s H s2 H2 E e s' un kp ho (cxn_to h).1) (cxn_to h).2
theorem fnKXN {P : Program} {w : PySem.World} {K : PySem.W.Frag} {mg : Str → Option Value} {base : Heap} {T : List (Addr × Str)} {x qual nv : Str} {st : Stmt} {f : Addr} {fd : FuncData} {N ps : List Str} {k : Nat} {sp : SpD} {cdv : Value} (G : FuncC K x qual st f fd cdv) (S : FnScope N (ps ++ [nv]) (defScope st))
    (h1 : (defArgs st).posonlyargs = []) (h2 : (defArgs st).args.map (·.arg) = ps) (h3 : (defArgs st).kwonlyargs = []) (h4 : (defArgs st).vararg = none) (h5 : (defArgs st).kwarg.map (·.arg) = some nv) (np : ps.Nodup)
    (body : ∀ (A : Around) (outer : List Env) (s : Shared) (H : Hp) (E : XK) (ds : List D) (w0 : Wp) (κ : D → Wp → Prop) (χ : XD), Room k (A.deeper (envOfC qual (defScope st) s.heap.objs.size f cdv)) → sp ds w0 κ χ →
      PSsD (cxOf (L2N.CX P w) P w K mg base N qual (defScope st) f cdv A outer s H E) T (fun cls d _ H => E cls d H) χ (defBody st) (startD N ds) w0 { nx := fun _ w' => κ DL.N w', rt := κ }) : FnKw P w K mg base (L2N.CX P w) (k + 1) f ps (spKw K T sp) := by
  refine fn_kw (sp := spOf K T sp) G S cxUpN h1 h2 h3 h4 h5 np fun A outer s H vs Q E hr h => ?_
  obtain ⟨ds, w0, F, S0, κ, χ, q1, q2, q3, q4, q5⟩ := h
  refine ⟨_, pss_wp _, ?_⟩
  exact body A outer s H E ds w0 κ χ hr q1 F _ S0 H _ (env_start q2) q3 (fun σ C ns fs w' d S' H' x s1 W1 xr => q5 C ns fs w' d S' H' x s1 W1 xr) ⟨fun δ' w' σ' S' H' k s1 hE W1 => q4 _ w' _ S' H' k s1 W1 rfl, q4, fun _ _ _ _ _ z => z.elim, fun _ _ _ _ _ z => z.elim⟩
section
variable {X : Cx} {T : List (Addr × Str)} {W : WX} {χ : XD} {δ : Dn} {w : Wp} {pos : Pos}
/-- an own error made: its context is None -/
theorem pmk_oexN {CX : CXT} {x : Str} {C fI : Addr} {k : Nat} {fd : FuncData} {ps : List Str} {sp : Sp} {e0 : Expr} {rest : List Expr} {ta : TA} {p0 : Pos} (TC : OexC X.K C) (iC : PySem.W.findIn X.K (.ref C) "__init__" = some (some (.ref fI))) (tI : PySem.W.typeIn X.K (.ref fI) = some (.type "function"))
    (G : FnOk X.prog X.w X.K X.mg X.base CX k fI fd ps sp) (hr : Room (k + 1) X.A) (hb : Binds X.K fd ps []) (hx : Passes CX X (fun _ _ _ => False)) (hg : Gl X x) (hm : X.mg x = some (.ref C)) (ha : PA X (e0 :: rest) ta)
    (hdb : (x == ("__debug__" : Str)) = false := by decide) (he : starEach (e0 :: rest) X.env = (false, eval e0 X.env) :: starEach rest X.env := by rfl) (hpl : (backTo pos (starEach rest X.env)).any (·.1) = false := by rfl) :
    L2N.PMk X (.Call (.Name x p0) (e0 :: rest) [] pos) (tMkO C sp [] ta) := fun pn s σ H Q I h => by
  obtain ⟨_, _, _, _, bm, _, _, _, _, _, _, _, _, _, _, clsO, veB⟩ := TC.cls
  refine wpAny_Call_Name_kw (ld_glob I hg hm ?_ hdb)
  refine PySem.W.callWith_K (h₀ := X.base) I.ok.mod.kin TC.kC (thn (ha.run pos pn s σ H _ I h) fun us t1 ⟨vs, H1, J1, rv, lv, q1⟩ => ⟨J1.kIn, ?_⟩) he hpl
  show wpAny _ _ (call (.ref C) us) _ _ _
  obtain ⟨h1, g1, d1, k1, o1⟩ := t1
  have big : h1.objs.size ≤ h1.objs.size + 1 := Nat.le_succ _
  have todo := q1 (h1.objs.size + 1) (J1.hok.fresh big)
  have kp : ∀ b o, h1.get? b = some o → ((h1.push (PySem.W.kdv_tup us)).push (PySem.HandSPX.excO C h1.objs.size)).get? b = some o := fun b o z => Heap.get?_push_of_some _ (Heap.get?_push_of_some _ z)
  have here : ((h1.push (PySem.W.kdv_tup us)).push (PySem.HandSPX.excO C h1.objs.size)).get? (h1.objs.size + 1) = some (PySem.HandSPX.excO C h1.objs.size) := by heap_get
  have J2 : Inv X pn σ (upd H1 (h1.objs.size + 1) (exo (h1.objs.size + 1) C none)) ⟨(h1.push (PySem.W.kdv_tup us)).push (PySem.HandSPX.excO C h1.objs.size), g1, d1, k1, o1⟩ := J1.laid (t' := k1) (a := h1.objs.size + 1) (o := exo (h1.objs.size + 1) C none) kp big (exo_ok here)
  have rv2 : Vals (V.ref (h1.objs.size + 1) :: (vs ++ [])) (Value.ref (h1.objs.size + 1) :: (us ++ [])) := .cons rfl (rv.append .nil)
  have ln : (Value.ref (h1.objs.size + 1) :: us ++ []).length = ps.length := (G.len _ _ _ _ todo).symm ▸ rv2.length.symm
  have bb : BindsTo ⟨(h1.push (PySem.W.kdv_tup us)).push (PySem.HandSPX.excO C h1.objs.size), g1, d1, k1, o1⟩ fd ⟨Value.ref (h1.objs.size + 1) :: us, []⟩ (ps.zip (Value.ref (h1.objs.size + 1) :: (us ++ []))) := hb _ (Value.ref (h1.objs.size + 1) :: us) J2.kIn ln
  have few : us.length ≤ sizeLine := by
    have := Paired.length rv
    rw [sizeLine_eq]
    omega
  refine wpAny_call (PySem.HandSPX.call_own F.excBase_ValueError (fun Y => PySem.HandSPX.refsVE_contains Y bm veB) (J1.kIn _ _ clsO) (PySem.W.looks_findIn J1.kIn iC) (fun self => PySem.W.bind_fn J1.kIn self tI) few
    (codeAny_mono (G.run _ X.stack _ _ ⟨Value.ref (h1.objs.size + 1) :: us, []⟩ (Value.ref (h1.objs.size + 1) :: (us ++ [])) _ _ (fun _ _ _ => False) (hr.make C us []) (J2.env0.make C us []) bb rv2 todo) fun r s' got => ?_))
  cases r with
  | error er => exact hx pn σ _ _ er s' J2 got
  | ok fl =>
    cases fl with
    | ret u =>
      obtain ⟨v, H2, ho, hbr, un, hok, rr, ev, dx, fs, ea, ed, hn, q2⟩ := got
      subst ev
      obtain ⟨h2, g2, d2, k2, o2⟩ := s'
      obtain ⟨t0, G0, J3, kG, nG, hoe, na⟩ := mk_end0 (d2 := d2) (t2 := k2) J1 big kp un hok ho hbr ea ed hn
      exact ⟨rr, h1.objs.size + 1, _, _, ⟨G0, g2, d2, k2, o2⟩, _, .ref C, some dx, rfl, J3, kG, nG, hoe, ⟨rfl, rfl, fun vs q => by cases q; rfl⟩, rfl, rfl, na, rfl, hbr, raises_own TC.exC TC.tyC, q2⟩
    | next => exact False.elim got
    | brk => exact False.elim got
    | cont => exact False.elim got
end
end DL
namespace DL
open PySem PySem.Spec PyProof.Rows L2 LamX
theorem made_heap2 {H1 : Hp} {a dx C : Addr} {fs : List (Str × V)} (na : H1 a = none) (nd : dx ≠ a) : upd (del (upd (upd (upd H1 a (exo a C none)) dx (exd dx fs)) a (exo a C (some dx))) a) dx (.xd fs) = upd H1 dx (.xd fs) := by
  funext b
  by_cases h1 : b = dx
  · subst h1
    rw [upd_same, upd_same]
  · rw [upd_ne h1, upd_ne h1]
    by_cases h2 : b = a
    · subst h2
      rw [del_same, na]
    · rw [del_ne h2, upd_ne h2, upd_ne h1, upd_ne h2]
def spX2b (C : Addr) (f g : Str) (ok ok2 : V → Prop) : Sp := fun vs H Q _ => ∃ a v u, vs = [.ref a, v, u] ∧ H a = some (exo a C none) ∧ ok v ∧ ok2 u ∧
  ∀ dx, H dx = none → dx ≠ a → Q .non (upd (upd H dx (exd dx [(g, u), (f, v)])) a (exo a C (some dx)))
/-- __init__ of an error class of one field: what it is called with, what it leaves -/
def spX1 (C : Addr) (f : Str) (ok : V → Prop) : Sp := fun vs H Q _ => ∃ a v, vs = [.ref a, v] ∧ H a = some (exo a C none) ∧ ok v ∧
  ∀ dx, H dx = none → dx ≠ a → Q .non (upd (upd H dx (exd dx [(f, v)])) a (exo a C (some dx)))
def intFits (v : V) : Prop := ∃ i : Int, v = .int i ∧ i.natAbs.log2 < 1920
section
variable {X : Cx} {T : List (Addr × Str)} {W : WX} {χ : XD} {δ : Dn} {w : Wp} {pos : Pos}
/-- raise X(e1, e2), X an error class of two fields -/
theorem psd_raise2N {CX : CXT} {x f g : Str} {C fI : Addr} {k : Nat} {fd : FuncData} {ok ok2 : V → Prop} {e1 e2 : Expr} {p cpos : Pos} {Fi : Fin} (hc : X.calm = true) (tk : L2N.Takes X W) (TC : OexC X.K C) (iC : PySem.W.findIn X.K (.ref C) "__init__" = some (some (.ref fI))) (tI : PySem.W.typeIn X.K (.ref fI) = some (.type "function"))
    (G : FnOk X.prog X.w X.K X.mg X.base CX0 k fI fd ["self", f, g] (spX2b C f g ok ok2)) (hr : Room (k + 1) X.A) (hb : Binds X.K fd ["self", f, g] []) (hm : X.mg x = some (.ref C))
    (h : PD X T W χ e1 δ w fun d w1 => PD X T W χ e2 δ w1 fun d2 w2 => ∃ v u, d = .val v ∧ d2 = .val u ∧ ok v ∧ ok2 u ∧ χ C [g, f] [d2, d] w2) (hg : Gl X x := by rfl) (hdb : (x == ("__debug__" : Str)) = false := by decide)
    (he1 : starEach [e1, e2] X.env = (false, eval e1 X.env) :: starEach [e2] X.env := by rfl) (he2 : starEach [e2] X.env = (false, eval e2 X.env) :: starEach [] X.env := by rfl) (hpl : (backTo cpos (starEach [e2] X.env)).any (·.1) = false := by rfl) : PSD X T W χ (.Raise (some (.Call (.Name x p) [e1, e2] [] cpos)) none pos) δ w Fi := fun F σ S H E hE hW hX hK => by
  refine wp_ps (L2N.ps_raise hc tk (pmk_oexN TC iC tI G hr hb pass0 hg hm (pa_cons (pe_wp e1) (pa_cons (pe_wp e2) pa_nil he2) he1) hdb he1 hpl)) ?_
  refine h F σ S H _ hE hW (hX σ) fun d w1 v S1 H1 q s1 W1 r => ?_
  refine q F σ S1 H1 _ (hE.mono s1) W1 ((hX σ).mono s1) fun d2 w2 u S2 H2 q2 s2 W2 r2 => ?_
  obtain ⟨v', u', rfl, rfl, hv, hu, q2⟩ := q2
  have r' : v = v' := r
  have r2' : u = u' := r2
  subst r' r2'
  refine ⟨by show 2 ≤ 1000; decide, fun a na => ?_⟩
  refine ⟨a, v, u, rfl, upd_same, hv, hu, fun dx nd nda => ⟨rfl, dx, [(g, u), (f, v)], upd_same, ?_, ?_, ?_⟩⟩
  · rw [upd_ne nda, upd_same]
  · rw [upd_ne nda] at nd
    exact nd
  · rw [upd_ne nda] at nd
    rw [made_heap2 na nda]
    have s3 : Same S2 (upd S2 dx (.xd [(g, u), (f, v)])) := same_upd (W2.free nd).1
    exact hX σ C [g, f] [.val u, .val v] w2 dx _ _ q2 (s1.trans (s2.trans s3)) (W2.laid nd fun _ z => by cases z) ⟨_, upd_same, rfl, u, [v], rfl, rfl, v, [], rfl, rfl, rfl⟩
end
end DL
namespace Tw
open PySem PySem.Spec PyProof.Rows L2 LamX DL
open PySem.W (ksEnv)
theorem txt_fits {x y : Str} (h : x.length ≤ 100) (k : y.length ≤ 1921) : (x ++ y).length ≤ sizeLine := by
  have e : (x ++ y).length = x.length + y.length := Str.length_append x y
  rw [e, sizeLine_eq]
  omega
theorem txt_fits2 {x y z : Str} (h : x.length ≤ 100) (k : y.length ≤ 1921) (l : z.length ≤ 100) : (x ++ y ++ z).length ≤ sizeLine := by
  have e : (x ++ y ++ z).length = x.length + y.length + z.length := by rw [Str.length_append, Str.length_append]
  rw [e, sizeLine_eq]
  omega
def Okc (z : Str) : Prop := z.length ≤ 1000 ∧ ∀ c ∈ z.cps.toList, c < 200
theorem Okc.rep {z : Str} (h : Okc z) : (reprText z).length ≤ 10002 := by
  have := StrLaws.reprText_len z fun c hc => Nat.lt_trans (h.2 c hc) (by decide)
  have := h.1
  omega
def strFits (v : V) : Prop := ∃ z : Str, v = .str z ∧ Okc z
end Tw

set_option Elab.async false
set_option linter.all false
set_option maxRecDepth 100000
set_option maxHeartbeats 2000000
/-! k35: UnknownDeed, BadMachine. -/
namespace Tw
open PySem PySem.Spec PyProof.Rows L2 LamX DL
open PySem.W (ksEnv)
abbrev sUnkDeed : Stmt := inClass (top 3) 0
abbrev sBadMach : Stmt := inClass (top 4) 0
section
variable {P : Program} {w : PySem.World} {K : PySem.W.Frag} {mg : Str → Option Value} {base : Heap}
theorem scBM : ScopeS ["self", "part"] ["self", "part"] (defScope sBadMach) := by
  refine ⟨rfl, rfl, rfl, by decide +kernel, rfl, by decide +kernel, by decide +kernel, ?_, by decide +kernel, by decide +kernel⟩
  intro x h
  have key : ∀ y ∈ (defScope sBadMach).names, (y.2 = .cell ∨ y.2 = .free) → y.1 = "__class__" := by decide +kernel
  rcases h with h | h
  · exact key (x, _) (PySem.mem_of_lookup h) (.inl rfl)
  · exact key (x, _) (PySem.mem_of_lookup h) (.inr rfl)
theorem ok_bm {f C cc cda : Addr} {fd : FuncData} (G : SupTxt P K mg C f cc cda "BadMachine.__init__" sBadMach fd) (TC : OexC K C) (no : PySem.W.findIn K (.ref C) "part" = some none) : FnOk P w K mg base CX0 1 f fd ["self", "part"] (spX1 C "part" strFits) := by
  refine fnSup G TC scBM rfl rfl rfl rfl (fun vs H Q E h => ?_) (fun _ => rfl) (fun _ => rfl) (fun _ => rfl) (fun _ => rfl) (fun A outer s H vs Q E hr h => ?_)
  · obtain ⟨a, v, rfl, _⟩ := h
    rfl
  · obtain ⟨a, v, rfl, ha, ⟨z, rfl, hz⟩, q⟩ := h
    refine ⟨_, _, a, pa_cons (pe_joined (.cons pe_str (.cons (pe_fmt (pv 1)) .nil))) pa_nil, pss_one (ps_ost (pv 0) (pv 1)), rfl, ha, ?_⟩
    have l1 := hz.1
    refine ⟨_, rfl, by decide +kernel, ?_⟩
    refine ⟨_, rfl, .inl ⟨z, rfl, by rw [sizeLine_eq]; omega, ?_⟩⟩
    refine ⟨_, rfl, txt_fits (by decide +kernel : (Str.empty ++ ("there is no machine with these " : Str)).length ≤ 100) (by omega), ?_⟩
    refine ⟨by show 1 ≤ 1000; decide, ha, ?_⟩
    refine ⟨_, rfl, _, rfl, a, C, rfl, TC, no, .inl ⟨ha, fun dx nd nda => ?_⟩⟩
    exact q dx nd nda
theorem scUD : ScopeS ["self", "sign", "place"] ["self", "sign", "place"] (defScope sUnkDeed) := by
  refine ⟨rfl, rfl, rfl, by decide +kernel, rfl, by decide +kernel, by decide +kernel, ?_, by decide +kernel, by decide +kernel⟩
  intro x h
  have key : ∀ y ∈ (defScope sUnkDeed).names, (y.2 = .cell ∨ y.2 = .free) → y.1 = "__class__" := by decide +kernel
  rcases h with h | h
  · exact key (x, _) (PySem.mem_of_lookup h) (.inl rfl)
  · exact key (x, _) (PySem.mem_of_lookup h) (.inr rfl)
theorem ok_ud {f C cc cda : Addr} {fd : FuncData} (G : SupTxt P K mg C f cc cda "UnknownDeed.__init__" sUnkDeed fd) (TC : OexC K C) (no : PySem.W.findIn K (.ref C) "sign" = some none) (no2 : PySem.W.findIn K (.ref C) "place" = some none) : FnOk P w K mg base CX0 1 f fd ["self", "sign", "place"] (spX2b C "sign" "place" strFits intFits) := by
  refine fnSup G TC scUD rfl rfl rfl rfl (fun vs H Q E h => ?_) (fun _ => rfl) (fun _ => rfl) (fun _ => rfl) (fun _ => rfl) (fun A outer s H vs Q E hr h => ?_)
  · obtain ⟨a, v, u, rfl, _⟩ := h
    rfl
  · obtain ⟨a, v, u, rfl, ha, ⟨z, rfl, hz⟩, ⟨j, rfl, hj⟩, q⟩ := h
    refine ⟨_, _, a, pa_cons (pe_joined (.cons pe_str (.cons (pe_fmtR (pv 1)) (.cons pe_str (.cons (pe_fmt (pv 2)) .nil))))) pa_nil, pss_cons (ps_ost (pv 0) (pv 1)) (pss_one (ps_ost (pv 0) (pv 2))), rfl, ha, ?_⟩
    have hr2 := hz.rep
    have l1 : (Str.ofString (toString j)).length ≤ 1921 := by
      have e := int_text_length_le (k := 1920) (by decide) hj
      rw [PySem.ofString_length]
      omega
    have c1 : (Str.empty ++ ("there is no deed " : Str)).length ≤ 50 := by decide +kernel
    have c2 : (" for the place " : Str).length ≤ 50 := by decide +kernel
    have big : sizeLine ≥ 20000 := by decide
    refine ⟨_, rfl, by omega, ?_⟩
    refine ⟨_, rfl, .inl ⟨z, rfl, by have := hz.1; omega, ?_⟩⟩
    refine ⟨_, rfl, by rw [Str.length_append]; omega, ?_⟩
    refine ⟨_, rfl, by rw [Str.length_append, Str.length_append]; omega, ?_⟩
    refine ⟨_, rfl, .inr ⟨j, rfl, hj, ?_⟩⟩
    refine ⟨_, rfl, by rw [Str.length_append, Str.length_append, Str.length_append]; omega, ?_⟩
    refine ⟨by show 1 ≤ 1000; decide, ha, ?_⟩
    refine ⟨_, rfl, _, rfl, a, C, rfl, TC, no, .inl ⟨ha, fun dx nd nda => ?_⟩⟩
    refine ⟨_, rfl, _, rfl, a, C, rfl, TC, no2, .inr ⟨dx, _, upd_same, by rw [upd_ne nda, upd_same], by show 1 ≤ 900; decide, ?_⟩⟩
    have e : upd (upd (upd H dx (exd dx [("sign", V.str z)])) a (exo a C (some dx))) dx (exd dx [("place", V.int j), ("sign", V.str z)]) = upd (upd H dx (exd dx [("place", V.int j), ("sign", V.str z)])) a (exo a C (some dx)) := by
      funext b
      by_cases h1 : b = dx
      · subst h1
        rw [upd_same, upd_ne nda, upd_same]
      · rw [upd_ne h1]
        by_cases h2 : b = a
        · subst h2
          rw [upd_same, upd_same]
        · rw [upd_ne h2, upd_ne h2, upd_ne h1, upd_ne h1]
    show Q .non (upd (upd (upd H dx (exd dx [("sign", V.str z)])) a (exo a C (some dx))) dx (exd dx [("place", V.int j), ("sign", V.str z)]))
    rw [e]
    exact q dx nd nda
end
end Tw

set_option Elab.async false
set_option linter.all false
set_option maxRecDepth 100000
set_option maxHeartbeats 2000000
/-! zip of two, enumerate: over lists that stand and texts. -/
namespace DL
open PySem PySem.Spec PyProof.Rows L2 LamX
/-- what is walked: a list at a, or a text -/
inductive Sr where
  | l (a : Addr)
  | s (z : Str)
namespace Sr
def at_ (K : PySem.W.Frag) (H : Hp) (i : Nat) (x : V) : Sr → Prop
  | .l a => ∀ xs, SqL K H a xs → xs[i]? = some x
  | .s z => ∃ c, z.cps[i]? = some c ∧ x = .str ⟨#[c]⟩
def len (K : PySem.W.Frag) (H : Hp) (n : Nat) : Sr → Prop
  | .l a => ∃ xs, SqL K H a xs ∧ xs.length = n
  | .s z => z.cps.size = n
def it (h : Heap) (q : Addr) (i : Nat) : Sr → Prop
  | .l a => h.IsListIter q a i
  | .s z => ∃ t, h.IsStrIter q (strIterType z) z t i
def rest : Sr → List Addr
  | .l a => [a]
  | .s _ => []
def v : Sr → V
  | .l a => .ref a
  | .s z => .str z
theorem it_at {S : Sr} {h h' : Heap} {q : Addr} {i : Nat} (st : S.it h q i) (k : ∀ o, h.get? q = some o → h'.get? q = some o) : S.it h' q i := by
  cases S with
  | l a => exact Heap.IsListIter.at st k
  | s z =>
    obtain ⟨t, o, e, r⟩ := st
    exact ⟨t, o, k o e, r⟩
theorem it_obj {S : Sr} {h : Heap} {q : Addr} {i : Nat} (st : S.it h q i) : ∃ o, h.get? q = some o ∧ ∀ v, o.data ≠ .cell v := by
  cases S with
  | l a =>
    obtain ⟨o, e, _, d⟩ := st
    exact ⟨o, e, fun v z => by rw [d] at z; cases z⟩
  | s z =>
    obtain ⟨t, o, e, _, d⟩ := st
    exact ⟨o, e, fun v z => by rw [d] at z; cases z⟩
section
variable {X : Cx} {pins : List (Addr × Obj)} {σ : L2.St} {H : Hp} {s : Shared}
theorem draws (I : Inv X pins σ H s) (hh : X.A.handled = none) {S : Sr} {q : Addr} {n i : Nat} (ln : S.len X.K H n) (hne : q ∉ S.rest) (st : S.it s.heap q i) :
    ∃ P St, Draws X.prog X.w X.A.in1 q (q :: S.rest) n P St ∧ St i s.heap ∧ (i < n → ∀ x, P i x → ∃ v, RelV v x ∧ S.at_ X.K H i v) ∧ ∀ h', St (i + 1) h' → S.it h' q (i + 1) := by
  cases S with
  | l a =>
    obtain ⟨xs, hq, rfl⟩ := ln
    obtain ⟨its, rv, p, hz⟩ := I.list hq
    have hl := rv.length
    have D := Draws.list (prog := X.prog) (w := X.w) (A := X.A.in1) hh q a (fun z => hne (by rw [z]; exact List.mem_cons_self)) its.toArray
    have e : its.toArray.size = xs.length := by rw [List.size_toArray, hl]
    rw [e] at D
    refine ⟨_, _, D, ⟨st, p.isList⟩, fun hi x hx => ?_, fun h' z => z.1⟩
    have hi' : xs[i]? = some xs[i] := List.getElem?_eq_getElem hi
    obtain ⟨u, hu, ru⟩ := rv.get hi'
    rw [List.getElem?_toArray, hu] at hx
    cases hx
    exact ⟨_, ru, fun ys hy => by rw [I.list_inj hy hq]; exact hi'⟩
  | s z =>
    obtain ⟨t, st⟩ := st
    have e : z.cps.size = n := ln
    subst e
    refine ⟨_, _, Draws.text (prog := X.prog) (w := X.w) (A := X.A.in1) hh q z t, st, fun hi x hx => ?_, fun h' y => ⟨t, y⟩⟩
    obtain ⟨c, u, hc, rfl⟩ := hx
    exact ⟨.str ⟨#[c]⟩, ⟨u, rfl⟩, c, hc, rfl⟩
theorem begins (I : Inv X pins σ H s) {S : Sr} {n : Nat} {u : Value} (ln : S.len X.K H n) (r : RelV S.v u) :
    ∃ o Hb, Begins u o Hb ∧ Hb s.heap ∧ (∀ b ∈ S.rest, b < s.heap.objs.size) ∧ ∀ h' q, h'.get? q = some o → S.it h' q 0 := by
  cases S with
  | l a =>
    obtain ⟨xs, hq, rfl⟩ := ln
    obtain ⟨its, rv, p, hz⟩ := I.list hq
    have r' : u = .ref a := r
    subst r'
    refine ⟨_, _, begins_list a its.toArray, p.isList, fun b hb => ?_, fun h' q e => ⟨_, e, rfl, rfl⟩⟩
    have e : b = a := by simpa [rest] using hb
    rw [e]
    exact p.lt
  | s z =>
    obtain ⟨t, rfl⟩ := r
    refine ⟨_, _, begins_text z t, trivial, fun b hb => (by cases hb), fun h' q e => ⟨t, _, e, rfl, rfl⟩⟩
end
end Sr
/-! ### zip of two -/
def Itzs (K : PySem.W.Frag) (S1 S2 : Sr) : It :=
  ⟨fun i H => ∃ n1 n2, S1.len K H n1 ∧ S2.len K H n2 ∧ i < n1 ∧ i < n2,
    fun i H v H' => ∃ T x y, v = .ref T ∧ H T = none ∧ H' = upd H T (.tup [x, y]) ∧ S1.at_ K H i x ∧ S2.at_ K H i y,
    fun i H => ∃ n1 n2, S1.len K H n1 ∧ S2.len K H n2 ∧ i ≤ n1 ∧ i ≤ n2 ∧ (i = n1 ∨ i = n2)⟩
theorem turn_zipS {P : Program} {w : PySem.World} {K : PySem.W.Frag} {elts : List Expr} {kk : Nat} {tpos : Pos} {S1 S2 : Sr} {z TI TO i1 i2 : Addr} (D : ZipSep2 z TI TO i1 i2 (i1 :: S1.rest) (i2 :: S2.rest)) (n1 : i1 ∉ S1.rest) (n2 : i2 ∉ S2.rest) :
    Turn P w K (.Tuple elts kk tpos) (Itzs K S1 S2) [z, TI, TO, i1, i2] z (fun i h => IsZip h z TI TO .none ∧ IsTupOf2 h TI (.ref i1) (.ref i2) ∧ (∃ x y, IsTupOf2 h TO x y) ∧ S1.it h i1 i ∧ S2.it h i2 i) where
  mem := by simp
  obj := fun i h st c hc => by
    obtain ⟨hz, hTI, ⟨x, y, hTO⟩, h1, h2⟩ := st
    have e' : c = z ∨ c = TI ∨ c = TO ∨ c = i1 ∨ c = i2 := by simpa using hc
    rcases e' with q | q | q | q | q
    · rw [q]; exact ⟨_, hz, fun v q => nomatch q⟩
    · rw [q]; exact ⟨_, hTI, fun v q => nomatch q⟩
    · rw [q]; exact ⟨_, hTO, fun v q => nomatch q⟩
    · rw [q]; exact Sr.it_obj h1
    · rw [q]; exact Sr.it_obj h2
  keep := fun i h h' st k => by
    obtain ⟨hz, hTI, ⟨x, y, hTO⟩, h1, h2⟩ := st
    exact ⟨k z (by simp) _ hz, k TI (by simp) _ hTI, ⟨x, y, k TO (by simp) _ hTO⟩, Sr.it_at h1 fun o q => k i1 (by simp) o q, Sr.it_at h2 fun o q => k i2 (by simp) o q⟩
  item := by
    intro X hP hw hK hc i pins s σ H E I hf st hg
    subst hP hw hK
    obtain ⟨hz, hTI, ⟨x0, y0, hTO⟩, h1, h2⟩ := st
    obtain ⟨m1, m2, l1, l2, g1, g2⟩ := hg
    obtain ⟨P1, St1, D1, st1, r1, k1⟩ := Sr.draws I (I.ok.hd hc) l1 n1 h1
    obtain ⟨P2, St2, D2, st2, r2, k2⟩ := Sr.draws I (I.ok.hd hc) l2 n2 h2
    have hzl : z < s.heap.objs.size := Heap.lt_size hz
    refine wpAny_pyNext_zipD2_item D D1 D2 hz hTI hTO st1 st2 g1 g2 fun u u2 h' tk p1 p2 z' TO' s1' s2' hT hsz hk => ?_
    obtain ⟨x, ru, ax⟩ := r1 g1 u p1
    obtain ⟨y, ru2, ay⟩ := r2 g2 u2 p2
    refine ⟨_, rfl, wpAny_letOwnedTupleGo_zip (s := { s with heap := h', toks := tk }) z' fun h'' z'' sb => ?_⟩
    have hT2 : h''.get? s.heap.objs.size = some { cls := .type "tuple", data := .seq #[u, u2] } := (sb.2 _ (Nat.ne_of_gt hzl)).trans hT
    have new : ObjOk X.prog X.w (upd H s.heap.objs.size (.tup [x, y])) h'' s.heap.objs.size (.tup [x, y]) :=
      ⟨by show 2 ≤ sizeLine; decide, [u, u2], .cons ru (.cons ru2 .nil), ⟨_, hT2, rfl, _, rfl⟩⟩
    have I1 : Inv X pins σ (upd H s.heap.objs.size (.tup [x, y])) { s with heap := h'', toks := tk } :=
      I.turnedNew (t' := tk) (ch := [z, TI, TO, i1, i2]) (fun c o hb q => (sb.2 c (fun q' => hb (by simp [q']))).trans (hk c o (fun q' => hb (by simp [q'])) (fun q' => hb (by simp [q'])) (fun q' => hb (by simp [q'])) (fun q' => hb (by simp [q'])) q)) hf (Nat.le_refl _) new
    refine ⟨.ref s.heap.objs.size, _, I1, rfl, ⟨_, x, y, rfl, I.hok.fresh (Nat.le_refl _), rfl, ax, ay⟩, ⟨z'', ?_, ⟨u, u2, ?_⟩, ?_, ?_⟩, fun c hcm => ?_⟩
    · exact (sb.2 _ D.TIz).trans (hk _ _ D.TIz D.TITO D.TIi1 D.TIi2 hTI)
    · exact (sb.2 _ D.TOz).trans TO'
    · exact Sr.it_at (k1 _ s1') fun o q => (sb.2 _ (Ne.symm D.zi1)).trans q
    · exact Sr.it_at (k2 _ s2') fun o q => (sb.2 _ (Ne.symm D.zi2)).trans q
    · have hlt : c < s.heap.objs.size := by
        have e' : c = z ∨ c = TI ∨ c = TO ∨ c = i1 ∨ c = i2 := by simpa using hcm
        rcases e' with q | q | q | q | q
        · rw [q]; exact hzl
        · rw [q]; exact Heap.lt_size hTI
        · rw [q]; exact Heap.lt_size hTO
        · rw [q]; obtain ⟨_, e1, _⟩ := Sr.it_obj h1; exact Heap.lt_size e1
        · rw [q]; obtain ⟨_, e2, _⟩ := Sr.it_obj h2; exact Heap.lt_size e2
      rw [upd_ne (Nat.ne_of_lt hlt)]
      exact (hf c hcm).1
  done := by
    intro X hP hw hK hc i pins s σ H E I hf st hg
    subst hP hw hK
    obtain ⟨hz, hTI, ⟨x0, y0, hTO⟩, h1, h2⟩ := st
    obtain ⟨m1, m2, l1, l2, g1, g2, ge⟩ := hg
    obtain ⟨P1, St1, D1, st1, r1, k1⟩ := Sr.draws I (I.ok.hd hc) l1 n1 h1
    obtain ⟨P2, St2, D2, st2, r2, k2⟩ := Sr.draws I (I.ok.hd hc) l2 n2 h2
    exact wpAny_pyNext_zipD2_end D D1 D2 hz hTI hTO st1 st2 g1 g2 ge fun h' tk hk => ⟨rfl, I.turnedL (t' := tk) (ch := [z, TI, TO, i1, i2]) (fun c o hb q =>
      hk c o (fun q' => hb (by simp [q'])) (fun q' => hb (by simp [q'])) (fun q' => hb (by simp [q'])) (fun q' => hb (by simp [q'])) q) hf⟩
  self := fun A i s Q E st h => wpAny_pyIter_zip st.1 h
def iZipS (K : PySem.W.Frag) (ta : TA) : TI := fun σ H R => ta σ H fun vs H1 => ∃ (S1 S2 : Sr) (n1 n2 : Nat), vs = [S1.v, S2.v] ∧ S1.len K H1 n1 ∧ S2.len K H1 n2 ∧ R (Itzs K S1 S2) H1
theorem pi_zipS {X : Cx} {e e2 : Expr} {ta : TA} {p pos tpos : Pos} {elts : List Expr} {kk : Nat} (hg : Gl X "zip") (hm : X.mg "zip" = none) (ha : PA X [e, e2] ta)
    (hs : starEach [e, e2] X.env = (false, eval e X.env) :: starEach [e2] X.env := by rfl) (hpl : (backTo pos (starEach [e2] X.env)).any (·.1) = false := by rfl) :
    PI X (.Tuple elts kk tpos) (.Call (.Name "zip" p) [e, e2] [] pos) (iZipS X.K ta) := by
  refine ⟨fun pins s σ H R I h => ?_⟩
  refine Call_ (ld_blt I hg hm PyProof.Rows.boot_zip (PyProof.Rows.callWith_type1 (thn (ha.run pos pins s σ H _ I h) fun us s1 ⟨vs, H1, I1, r1, q1⟩ => ?_) hs hpl))
  obtain ⟨S1, S2, n1, n2, ex, l1, l2, q⟩ := q1
  subst ex
  cases r1 with
  | cons r rr =>
    cases rr with
    | cons r' rr =>
      cases rr
      obtain ⟨o1, Hb1, B1, b1, f1, k1⟩ := Sr.begins I1 l1 r
      obtain ⟨o2, Hb2, B2, b2, f2, k2⟩ := Sr.begins I1 l2 r'
      refine zip_begins2 B1 B2 b1 b2 fun h' hz hTI hTO g1 g2 hsz hk => wpAny_pyIter_zip hz ?_
      have I2 : Inv X pins σ H1 { s1 with heap := h' } := I1.kept (t' := s1.toks) hk
      have m1 : s1.heap.objs.size ∉ S1.rest := fun z => Nat.lt_irrefl _ (f1 _ z)
      have m2 : s1.heap.objs.size + 1 ∉ S2.rest := fun z => absurd (f2 _ z) (by show ¬ (s1.heap.objs.size + 1 < s1.heap.objs.size); omega)
      refine ⟨s1.heap.objs.size + 4, [s1.heap.objs.size + 4, s1.heap.objs.size + 2, s1.heap.objs.size + 3, s1.heap.objs.size, s1.heap.objs.size + 1], _, _, H1, rfl, I2, turn_zipS (zip_sep2 f1 f2) m1 m2, ⟨hz, hTI, ⟨_, _, hTO⟩, k1 _ _ g1, k2 _ _ g2⟩, fun c hcm => ?_, q⟩
      have e' : c = s1.heap.objs.size + 4 ∨ c = s1.heap.objs.size + 2 ∨ c = s1.heap.objs.size + 3 ∨ c = s1.heap.objs.size ∨ c = s1.heap.objs.size + 1 := by simpa using hcm
      have hle : s1.heap.objs.size ≤ c := by
        rcases e' with z | z | z | z | z
        · rw [z]; exact Nat.le_add_right _ _
        · rw [z]; exact Nat.le_add_right _ _
        · rw [z]; exact Nat.le_add_right _ _
        · rw [z]; exact Nat.le_refl _
        · rw [z]; exact Nat.le_add_right _ _
      exact I1.fpOk hle (I1.hok.fresh hle)
/-! ### enumerate -/
def Ites (K : PySem.W.Frag) (S : Sr) : It :=
  ⟨fun i H => ∃ n, S.len K H n ∧ i < n, fun i H v H' => ∃ T x, v = .ref T ∧ H T = none ∧ H' = upd H T (.tup [.int (i : Nat), x]) ∧ S.at_ K H i x, fun i H => S.len K H i⟩
theorem turn_enumS {P : Program} {w : PySem.World} {K : PySem.W.Frag} {elts : List Expr} {kk : Nat} {tpos : Pos} {S : Sr} {e q : Addr} (n1 : q ∉ S.rest) (n2 : e ∉ S.rest) :
    Turn P w K (.Tuple elts kk tpos) (Ites K S) [e, q] e (fun i h => (∃ old, IsEnum h e q ((i : Nat) : Int) old) ∧ S.it h q i ∧ e ≠ q) where
  mem := by simp
  obj := fun i h st b hb => by
    obtain ⟨⟨old, he⟩, hi, _⟩ := st
    have e' : b = e ∨ b = q := by simpa using hb
    rcases e' with z | z
    · rw [z]; exact ⟨_, he, fun v q => nomatch q⟩
    · rw [z]; exact Sr.it_obj hi
  keep := fun i h h' st k => let ⟨⟨old, he⟩, hi, hne⟩ := st; ⟨⟨old, k e (by simp) _ he⟩, Sr.it_at hi fun o y => k q (by simp) o y, hne⟩
  item := by
    intro X hP hw hK hc i pins s σ H E I hf st hg
    subst hP hw hK
    obtain ⟨⟨old, he⟩, hit, hne⟩ := st
    obtain ⟨n, ln, g⟩ := hg
    obtain ⟨P1, St1, D1, st1, r1, k1⟩ := Sr.draws I (I.ok.hd hc) ln n1 hit
    have hel : e < s.heap.objs.size := Heap.lt_size he
    have hil : q < s.heap.objs.size := by obtain ⟨_, y, _⟩ := Sr.it_obj hit; exact Heap.lt_size y
    have nef : e ∉ q :: S.rest := fun z => by
      rcases List.mem_cons.mp z with z | z
      · exact hne z
      · exact n2 z
    refine wpAny_pyNext_enum_itemC D1 he st1 g hne nef fun u h' tk p1 ho s1' hT hsz hk => ?_
    obtain ⟨x, ru, ax⟩ := r1 g u p1
    refine ⟨_, rfl, wpAny_letOwnedTupleGo_enum (s := { s with heap := h', toks := tk + 1 }) ho fun h'' he' sb => ?_⟩
    have hT2 : h''.get? s.heap.objs.size = some { cls := .type "tuple", data := .seq #[.int i tk, u] } := (sb.2 _ (Nat.ne_of_gt hel)).trans hT
    have new : ObjOk X.prog X.w (upd H s.heap.objs.size (.tup [.int (i : Nat), x])) h'' s.heap.objs.size (.tup [.int (i : Nat), x]) :=
      ⟨by show 2 ≤ sizeLine; decide, [.int i tk, u], .cons ⟨_, rfl⟩ (.cons ru .nil), ⟨_, hT2, rfl, _, rfl⟩⟩
    have I1 : Inv X pins σ (upd H s.heap.objs.size (.tup [.int (i : Nat), x])) { s with heap := h'', toks := tk + 1 } :=
      I.turnedNew (ch := [e, q]) (fun b ob hb y => (sb.2 b (fun z => hb (by simp [z]))).trans (hk b ob (fun z => hb (by simp [z])) (fun z => hb (by simp [z])) y)) hf (Nat.le_refl _) new
    refine ⟨.ref s.heap.objs.size, _, I1, rfl, ⟨_, x, rfl, I.hok.fresh (Nat.le_refl _), rfl, ax⟩, ⟨⟨u, ?_⟩, Sr.it_at (k1 _ s1') fun o y => (sb.2 q (Ne.symm hne)).trans y, hne⟩, fun b hb => ?_⟩
    · have e1 : ((i + 1 : Nat) : Int) = (i : Int) + 1 := by omega
      rw [e1]; exact he'
    · have hb' : b < s.heap.objs.size := by
        have e' : b = e ∨ b = q := by simpa using hb
        rcases e' with z | z
        · rw [z]; exact hel
        · rw [z]; exact hil
      rw [upd_ne (Nat.ne_of_lt hb')]
      exact (hf b hb).1
  done := by
    intro X hP hw hK hc i pins s σ H E I hf st hg
    subst hP hw hK
    obtain ⟨⟨old, he⟩, hit, hne⟩ := st
    obtain ⟨P1, St1, D1, st1, r1, k1⟩ := Sr.draws I (I.ok.hd hc) hg n1 hit
    obtain ⟨f0, f1, f2, f3, f4, f5⟩ := hf q (by simp)
    exact wpAny_pyNext_enum_endD D1 he st1 fun h' eb => ⟨rfl, I.turned (t' := s.toks) (fun b o hb q => eb b o hb q) f0 f1 f3 f4 f5⟩
  self := fun A i s Q E st h => let ⟨⟨_, he⟩, _⟩ := st; wpAny_pyIter_enum he h
def iEnumS (K : PySem.W.Frag) (ta : TA) : TI := fun σ H R => ta σ H fun vs H1 => ∃ (S : Sr) (n : Nat), vs = [S.v] ∧ S.len K H1 n ∧ R (Ites K S) H1
theorem pi_enumS {X : Cx} {e : Expr} {ta : TA} {p pos tpos : Pos} {elts : List Expr} {kk : Nat} (hg : Gl X "enumerate") (hm : X.mg "enumerate" = none) (ha : PA X [e] ta) (hs : starEach [e] X.env = [(false, eval e X.env)] := by rfl) :
    PI X (.Tuple elts kk tpos) (.Call (.Name "enumerate" p) [e] [] pos) (iEnumS X.K ta) := by
  refine ⟨fun pins s σ H R I h => ?_⟩
  refine Call_ (ld_blt I hg hm boot_enumerate (PyProof.Rows.callWith_type1 (thn (ha.run pos pins s σ H _ I h) fun us s1 ⟨vs, H1, I1, r1, q1⟩ => ?_) hs rfl))
  obtain ⟨S, n, ex, ln, q⟩ := q1
  subst ex
  cases r1 with
  | cons r rr =>
    cases rr
    have fin : ∀ h', IsEnum h' (s1.heap.objs.size + 1) s1.heap.objs.size 0 .none → S.it h' s1.heap.objs.size 0 → (∀ b ∈ S.rest, b < s1.heap.objs.size) → (∀ b o, s1.heap.get? b = some o → h'.get? b = some o) → wpAny (model X.prog X.w) X.A (pyIter (.ref (s1.heap.objs.size + 1))) (PIE X pins σ (.Tuple elts kk tpos) R) X.xe { s1 with heap := h' } := by
      intro h' he hit hf hk
      refine wpAny_pyIter_enum he ?_
      have I2 : Inv X pins σ H1 { s1 with heap := h' } := I1.kept (t' := s1.toks) hk
      have m1 : s1.heap.objs.size ∉ S.rest := fun z => Nat.lt_irrefl _ (hf _ z)
      have m2 : s1.heap.objs.size + 1 ∉ S.rest := fun z => absurd (hf _ z) (by show ¬ (s1.heap.objs.size + 1 < s1.heap.objs.size); omega)
      refine ⟨s1.heap.objs.size + 1, [s1.heap.objs.size + 1, s1.heap.objs.size], _, _, H1, rfl, I2, turn_enumS m1 m2, ⟨⟨.none, he⟩, hit, Nat.succ_ne_self _⟩, fun b hb => ?_, q⟩
      have e' : b = s1.heap.objs.size + 1 ∨ b = s1.heap.objs.size := by simpa using hb
      have hle : s1.heap.objs.size ≤ b := by
        rcases e' with z | z
        · rw [z]; exact Nat.le_add_right _ _
        · rw [z]; exact Nat.le_refl _
      exact I1.fpOk hle (I1.hok.fresh hle)
    cases S with
    | l a =>
      obtain ⟨xs, hq, rfl⟩ := ln
      obtain ⟨its, rv, p', hz⟩ := I1.list hq
      cases r
      refine call_enumerate_list p'.isList fun h' he hit hsz hk => fin h' he hit (fun b hb => ?_) hk
      have e : b = a := by simpa [Sr.rest] using hb
      rw [e]
      exact p'.lt
    | s z =>
      obtain ⟨t, rfl⟩ := r
      exact call_enumerate_str fun h' he hit hsz hk => fin h' he ⟨t, hit⟩ (fun b hb => by cases hb) hk
/-! ### in data -/
/-- what d gives, turn by turn -/
inductive SrD : D → List D → Prop where
  | l (ds : List D) : SrD (.lst ds) ds
  | s (z : Str) : SrD (DL.T z) (z.cps.toList.map fun c => DL.T ⟨#[c]⟩)
theorem SrD.src {K : PySem.W.Frag} {T : List (Addr × Str)} {S F H : Hp} {w : Wp} {d : D} {ds : List D} {x : V} (hs : SrD d ds) (hW : World K T S w F H) (r : Rep K S d x) :
    ∃ Z : Sr, x = Z.v ∧ (∀ S2 w2 F2 H2, Same S S2 → World K T S2 w2 F2 H2 → Z.len K H2 ds.length) ∧ ∀ S2 w2 F2 H2 i y d', Same S S2 → World K T S2 w2 F2 H2 → Z.at_ K H2 i y → ds[i]? = some d' → Rep K S2 d' y := by
  cases hs with
  | l ds =>
    obtain ⟨a, xs, rfl, h1, h2⟩ := r
    refine ⟨.l a, rfl, fun S2 w2 F2 H2 s2 W2 => ⟨xs, SqL.of (W2.same _ _ (s2 _ _ h1)), h2.length⟩, fun S2 w2 F2 H2 i y d' s2 W2 ha hd => ?_⟩
    obtain ⟨v, h3, h4⟩ := h2.get hd
    have e := ha xs (SqL.of (W2.same _ _ (s2 _ _ h1)))
    rw [h3] at e
    cases e
    exact h4.mono s2
  | s z =>
    have r' : x = .str z := r
    subst r'
    refine ⟨.s z, rfl, fun S2 w2 F2 H2 s2 W2 => (show z.cps.size = _ by rw [List.length_map, Array.length_toList]), fun S2 w2 F2 H2 i y d' s2 W2 ha hd => ?_⟩
    obtain ⟨c, hc, rfl⟩ := ha
    rw [List.getElem?_map, Array.getElem?_toList, hc] at hd
    cases hd
    exact rfl
def zipD (ds es : List D) : List D := ds.zipWith (fun a b => .tup [a, b]) es
theorem zipD_len (ds es : List D) : (zipD ds es).length = min ds.length es.length := List.length_zipWith
theorem zipD_at {ds es : List D} {i : Nat} {d : D} (h : (zipD ds es)[i]? = some d) : ∃ a b, ds[i]? = some a ∧ es[i]? = some b ∧ d = .tup [a, b] := by
  unfold zipD at h
  rw [List.getElem?_zipWith] at h
  cases e1 : ds[i]? with
  | none =>
    rw [e1] at h
    cases h
  | some a =>
    cases e2 : es[i]? with
    | none =>
      rw [e1, e2] at h
      cases h
    | some b =>
      rw [e1, e2] at h
      cases h
      exact ⟨a, b, rfl, rfl, rfl⟩
section
variable {X : Cx} {T : List (Addr × Str)} {W : WX} {χ : XD} {δ : Dn} {w : Wp} {pos : Pos}
theorem walk_zipS {K : PySem.W.Frag} {S1 S2 : Sr} {n1 n2 : Nat} : Walk (Itzs K S1 S2) (min n1 n2) (fun H => S1.len K H n1 ∧ S2.len K H n2) (Itzs K S1 S2).yld :=
  ⟨fun i _ hi q => ⟨n1, n2, q.1, q.2, by omega, by omega⟩, fun _ q => ⟨n1, n2, q.1, q.2, by omega, by omega, by omega⟩, fun _ _ _ _ _ _ y => y⟩
theorem walk_enumS {K : PySem.W.Frag} {S : Sr} {n : Nat} : Walk (Ites K S) n (fun H => S.len K H n) (Ites K S).yld :=
  ⟨fun i _ hi q => ⟨n, q, hi⟩, fun _ q => q, fun _ _ _ _ _ _ y => y⟩
/-- zip(e, e2): lists that stand, texts -/
theorem it_zipS {elts : List Expr} {kk : Nat} {tpos : Pos} {e e2 : Expr} {p : Pos} {κ : List D → Wp → Prop} (hm : X.mg "zip" = none) (h : PAD X T W χ [e, e2] δ w fun ds w1 => ∃ d1 d2 ds1 ds2, ds = [d1, d2] ∧ SrD d1 ds1 ∧ SrD d2 ds2 ∧ κ (zipD ds1 ds2) w1)
    (hg : Gl X "zip" := by rfl) (hs : starEach [e, e2] X.env = (false, eval e X.env) :: starEach [e2] X.env := by rfl) (hpl : (backTo pos (starEach [e2] X.env)).any (·.1) = false := by rfl) : IterD X T W χ (.Tuple elts kk tpos) (.Call (.Name "zip" p) [e, e2] [] pos) δ w κ :=
  ⟨_, pi_zipS hg hm (pa_wp [e, e2]) hs hpl, fun F σ S H R hE hW hX hK => by
    refine h F σ S H _ hE hW hX fun ds w1 vs S1 H1 k s1 W1 r => ?_
    obtain ⟨d1, d2, ds1, ds2, rfl, r1, r2, k⟩ := k
    obtain ⟨y1, ys, rfl, h1, y2, zs, rfl, h2, h3⟩ := r
    have h3' : zs = [] := h3
    subst h3'
    obtain ⟨Z1, e1, l1, a1⟩ := r1.src W1 h1
    obtain ⟨Z2, e2, l2, a2⟩ := r2.src W1 h2
    subst e1 e2
    refine ⟨Z1, Z2, _, _, rfl, l1 _ _ _ _ (Same.refl _) W1, l2 _ _ _ _ (Same.refl _) W1, ?_⟩
    have ww := walk_zipS (K := X.K) (S1 := Z1) (S2 := Z2) (n1 := ds1.length) (n2 := ds2.length)
    rw [← zipD_len] at ww
    refine hK (zipD ds1 ds2) w1 S1 H1 _ _ _ k s1 W1 ww (fun S2 w2 F2 H2 s2 W2 => ⟨l1 _ _ _ _ s2 W2, l2 _ _ _ _ s2 W2⟩) fun i d S2 w2 F2 H2 x H3 hd s2 W2 y => ?_
    obtain ⟨t, x1, x2, rfl, nt, rfl, f1, f2⟩ := y
    obtain ⟨a, b, ha, hb, rfl⟩ := zipD_at hd
    have q1 := a1 _ _ _ _ _ _ _ s2 W2 f1 ha
    have q2 := a2 _ _ _ _ _ _ _ s2 W2 f2 hb
    have s3 : Same S2 (upd S2 t (.tup [x1, x2])) := same_upd (W2.free nt).1
    exact ⟨_, s3, W2.laid nt fun _ z => (by cases z), t, _, rfl, upd_same, x1, [x2], rfl, q1.mono s3, x2, [], rfl, q2.mono s3, rfl⟩⟩
/-- enumerate(e): a list that stands, a text -/
theorem it_enumS {elts : List Expr} {kk : Nat} {tpos : Pos} {e : Expr} {p : Pos} {κ : List D → Wp → Prop} (hm : X.mg "enumerate" = none) (h : PD X T W χ e δ w fun d w1 => ∃ ds, SrD d ds ∧ κ (pairs ds) w1)
    (hg : Gl X "enumerate" := by rfl) (he : starEach [e] X.env = [(false, eval e X.env)] := by rfl) : IterD X T W χ (.Tuple elts kk tpos) (.Call (.Name "enumerate" p) [e] [] pos) δ w κ :=
  ⟨_, pi_enumS hg hm (pa_wp [e]) he, fun F σ S H R hE hW hX hK => by
    have ha : PAD X T W χ [e] δ w fun ds w1 => ∃ d es, ds = [d] ∧ SrD d es ∧ κ (pairs es) w1 := pad_cons (h.imp fun d w1 q => by
      obtain ⟨es, e1, k⟩ := q
      exact pad_nil ⟨d, es, rfl, e1, k⟩) he
    refine ha F σ S H _ hE hW hX fun ds w1 vs S1 H1 k s1 W1 r => ?_
    obtain ⟨d, es, rfl, hd1, k⟩ := k
    obtain ⟨y, ys, rfl, h1, h2⟩ := r
    have h2' : ys = [] := h2
    subst h2'
    obtain ⟨Z1, e1, l1, a1⟩ := hd1.src W1 h1
    subst e1
    refine ⟨Z1, _, rfl, l1 _ _ _ _ (Same.refl _) W1, ?_⟩
    have ww := walk_enumS (K := X.K) (S := Z1) (n := es.length)
    rw [← pairs_len] at ww
    refine hK (pairs es) w1 S1 H1 _ _ _ k s1 W1 ww (fun S2 w2 F2 H2 s2 W2 => by rw [pairs_len]; exact l1 _ _ _ _ s2 W2) fun i d S2 w2 F2 H2 x H3 hd s2 W2 y => ?_
    obtain ⟨t, x1, rfl, nt, rfl, f1⟩ := y
    obtain ⟨e, he, rfl⟩ := pairs_at hd
    have q1 := a1 _ _ _ _ _ _ _ s2 W2 f1 he
    have s3 : Same S2 (upd S2 t (.tup [.int (i : Int), x1])) := same_upd (W2.free nt).1
    exact ⟨_, s3, W2.laid nt fun _ z => (by cases z), t, _, rfl, upd_same, V.int i, [x1], rfl, rfl, x1, [], rfl, q1.mono s3, rfl⟩⟩
end
end DL

set_option Elab.async false
set_option linter.all false
set_option maxRecDepth 100000
set_option maxHeartbeats 2000000
/-! repr of data where no guard is under way. -/
namespace DL
open PySem PySem.Spec PyProof.Rows L2 LamX
def rRepD (K : PySem.W.Frag) : List V → Hp → VK → Prop := fun xs H Q => ∃ x d, xs = [x] ∧ Dp K H x d ∧ PyData.showable d = true ∧ PyData.hasDict d = false ∧ PyData.depth d ≤ 60 ∧ (PyData.shown d).length ≤ sizeLine ∧ Q (.str (PyData.shown d)) H
theorem call_reprD {X : Cx} (hg : X.A.guards = some []) (hu : X.A.units + 65 < cLine) : CallR X (.builtin "repr") (rRepD X.K) := by
  intro pins s σ H xs us Q I r h
  obtain ⟨x, d, rfl, dp, sh, nd, dd, sz, q⟩ := h
  obtain ⟨u, rfl, rx⟩ := vals1 r
  obtain ⟨as, rd⟩ := Dp.reads I d x u dp rx
  have fin : ∀ h' u tk, (∀ b o, s.heap.get? b = some o → h'.get? b = some o) → EP X pins σ Q (.str (PyData.shown d) u) { s with heap := h', toks := tk } := fun h' u tk hk => ⟨.str (PyData.shown d), H, I.kept hk, ⟨u, rfl⟩, q⟩
  have fin0 := fin s.heap s.toks (s.toks + 1) fun _ _ e => e
  cases rd with
  | none =>
    simp only [PyData.shown] at fin0
    exact P.repr_of_none fin0
  | bool b =>
    simp only [PyData.shown] at fin0
    exact P.repr_of_bool fin0
  | int i t =>
    simp only [PyData.shown] at fin0
    simp only [PyData.showable, decide_eq_true_eq] at sh
    exact P.repr_of_int sh fin0
  | str x t =>
    simp only [PyData.shown] at fin0 sz
    exact P.repr_of_str fin0 (hsz := sz)
  | list h1 h2 h3 h4 => exact repr_of_reads' (.list h1 h2 h3 h4) sh (PyData.noDict_hsm nd) hg (by omega) (fun _ _ e => e) fin (hsz := sz)
  | tuple h1 h2 h3 h4 => exact repr_of_reads' (.tuple h1 h2 h3 h4) sh (PyData.noDict_hsm nd) hg (by omega) (fun _ _ e => e) fin (hsz := sz)
  | dict h1 h2 h3 h4 h5 => exact repr_of_reads' (.dict h1 h2 h3 h4 h5) sh (PyData.noDict_hsm nd) hg (by omega) (fun _ _ e => e) fin (hsz := sz)
/-- data whose text is known -/
structure ShD (p : PyData) : Prop where
  sh : PyData.showable p = true
  nd : PyData.hasDict p = false
  dp : PyData.depth p ≤ 60
  sz : (PyData.shown p).length ≤ sizeLine
theorem va_reprD {K : PySem.W.Frag} {T : List (Addr × Str)} {w : Wp} {κ : D → Wp → Prop} {d : D} {p : PyData} (hd : pyD d = some p) (s : ShD p) (k : κ (DL.T (PyData.shown p)) w) : VRA K T (rRepD K) [d] w κ := fun F S H xs Q hW r hK => by
  obtain ⟨x, ys, rfl, h1, h2⟩ := r
  have h2' : ys = [] := h2
  subst h2'
  exact ⟨x, p, rfl, dp_of hW.same hd h1, s.sh, s.nd, s.dp, s.sz, hK _ w _ S H k (Same.refl _) hW rfl⟩
theorem bt_repr : bootBuiltins "repr" = some (.builtin "repr") := by decide +kernel
/-! ### how long -/
theorem textFrom_le {m : Nat} : ∀ (ts : List Str) (k : Nat) (acc : Str), (∀ t ∈ ts, t.length ≤ m) → (textFrom k acc ts).length ≤ acc.length + ts.length * (m + 2)
  | [], k, acc, _ => by
    show acc.length ≤ _
    omega
  | t :: ts, k, acc, h => by
    have ih := textFrom_le ts (k + 1) (acc ++ (if k > 0 then ", " else "" : String) ++ t) fun u hu => h u (List.mem_cons_of_mem _ hu)
    have e : (acc ++ (if k > 0 then ", " else "" : String) ++ t).length = acc.length + (if k > 0 then 2 else 0) + t.length := by
      rw [strLen_append, strLen_append]
      split <;> rfl
    rw [e] at ih
    have ht := h t List.mem_cons_self
    show (textFrom (k + 1) _ ts).length ≤ acc.length + (ts.length + 1) * (m + 2)
    rw [Nat.add_mul, Nat.one_mul]
    have b2 : (if k > 0 then 2 else 0) ≤ 2 := by split <;> omega
    omega
theorem listText_le {m : Nat} {ts : List Str} (h : ∀ t ∈ ts, t.length ≤ m) : (listText ts).length ≤ 2 + ts.length * (m + 2) := by
  have e := textFrom_le ts 0 "[" h
  have h1 : ("[" : Str).length = 1 := rfl
  have h2 : (listText ts).length = (textFrom 0 "[" ts).length + 1 := by
    show (textFrom 0 "[" ts ++ "]").length = _
    rw [strLen_append]
    rfl
  omega
theorem shownAll_map {α : Type} (f : α → PyData) : ∀ xs : List α, PyData.shownAll (xs.map f) = xs.map fun x => PyData.shown (f x)
  | [] => by simp only [List.map_nil, PyData.shownAll]
  | x :: xs => by simp only [List.map_cons, PyData.shownAll, shownAll_map f xs]
theorem showableAll_map {α : Type} (f : α → PyData) : ∀ {xs : List α}, (∀ x ∈ xs, PyData.showable (f x) = true) → PyData.showableAll (xs.map f) = true
  | [], _ => by simp only [List.map_nil, PyData.showableAll]
  | x :: xs, h => by
    simp only [List.map_cons, PyData.showableAll, h x List.mem_cons_self, showableAll_map f (xs := xs) fun y hy => h y (List.mem_cons_of_mem _ hy), Bool.and_self]
theorem hasDictAll_map {α : Type} (f : α → PyData) : ∀ {xs : List α}, (∀ x ∈ xs, PyData.hasDict (f x) = false) → PyData.hasDictAll (xs.map f) = false
  | [], _ => by simp only [List.map_nil, PyData.hasDictAll]
  | x :: xs, h => by
    simp only [List.map_cons, PyData.hasDictAll, h x List.mem_cons_self, hasDictAll_map f (xs := xs) fun y hy => h y (List.mem_cons_of_mem _ hy), Bool.or_self]
theorem depthAll_map {α : Type} (f : α → PyData) {n : Nat} : ∀ {xs : List α}, (∀ x ∈ xs, PyData.depth (f x) ≤ n) → PyData.depthAll (xs.map f) ≤ n
  | [], _ => by simp only [List.map_nil, PyData.depthAll]; omega
  | x :: xs, h => by
    have h1 := h x List.mem_cons_self
    have h2 := depthAll_map f (xs := xs) fun y hy => h y (List.mem_cons_of_mem _ hy)
    simp only [List.map_cons, PyData.depthAll]
    omega
/-- a list of such data -/
theorem ShD.list {α : Type} {f : α → PyData} {xs : List α} {n m : Nat} (h : ∀ x ∈ xs, ShD (f x) ∧ PyData.depth (f x) ≤ n ∧ (PyData.shown (f x)).length ≤ m) (hn : n + 1 ≤ 60) (hm : 2 + xs.length * (m + 2) ≤ sizeLine) :
    ShD (.list (xs.map f)) ∧ PyData.depth (.list (xs.map f)) ≤ n + 1 ∧ (PyData.shown (.list (xs.map f))).length ≤ 2 + xs.length * (m + 2) := by
  have d1 : PyData.depth (.list (xs.map f)) ≤ n + 1 := by
    have := depthAll_map f fun x hx => (h x hx).2.1
    simp only [PyData.depth]
    omega
  have l1 : (PyData.shown (.list (xs.map f))).length ≤ 2 + xs.length * (m + 2) := by
    simp only [PyData.shown]
    rw [shownAll_map]
    have := listText_le (m := m) (ts := xs.map fun x => PyData.shown (f x)) fun t ht => by
      obtain ⟨x, hx, rfl⟩ := List.mem_map.mp ht
      exact (h x hx).2.2
    rw [List.length_map] at this
    exact this
  refine ⟨⟨?_, ?_, by omega, by omega⟩, d1, l1⟩
  · simp only [PyData.showable]
    exact showableAll_map f fun x hx => (h x hx).1.sh
  · simp only [PyData.hasDict]
    exact hasDictAll_map f fun x hx => (h x hx).1.nd
theorem pyDs_map {α : Type} {f : α → D} {g : α → PyData} : ∀ {xs : List α}, (∀ x ∈ xs, pyD (f x) = some (g x)) → pyDs (xs.map f) = some (xs.map g)
  | [], _ => rfl
  | x :: xs, h => by
    show ((pyD (f x)).bind fun p => (pyDs (xs.map f)).map fun ps => p :: ps) = _
    rw [h x List.mem_cons_self, pyDs_map fun y hy => h y (List.mem_cons_of_mem _ hy)]
    rfl
theorem pyD_map {α : Type} {f : α → D} {g : α → PyData} {xs : List α} (h : ∀ x ∈ xs, pyD (f x) = some (g x)) : pyD (.lst (xs.map f)) = some (.list (xs.map g)) := by
  show (pyDs (xs.map f)).map PyData.list = _
  rw [pyDs_map h]
  rfl
theorem ShD.int {i : Int} (h : i.natAbs.log2 < 1920) : ShD (.int i) ∧ PyData.depth (.int i) ≤ 0 ∧ (PyData.shown (.int i)).length ≤ 1921 := by
  have l1 : (Str.ofString (toString i)).length ≤ 1921 := by
    have e := int_text_length_le (k := 1920) (by decide) h
    rw [PySem.ofString_length]
    omega
  have d1 : PyData.depth (.int i) ≤ 0 := by simp only [PyData.depth]; omega
  refine ⟨⟨by simp only [PyData.showable]; exact decide_eq_true h, by simp only [PyData.hasDict], by omega, ?_⟩, d1, ?_⟩
  · simp only [PyData.shown]
    exact Nat.le_trans l1 (by decide)
  · simp only [PyData.shown]
    exact l1
theorem ShD.str {z : Str} {n : Nat} (hn : z.length ≤ n) (n9 : n ≤ 100000) (h : ∀ c ∈ z.cps.toList, c < 200) : ShD (.str z) ∧ PyData.depth (.str z) ≤ 0 ∧ (PyData.shown (.str z)).length ≤ 10 * n + 2 := by
  have l1 := StrLaws.reprText_len z fun c hc => Nat.lt_trans (h c hc) (by decide)
  have d1 : PyData.depth (.str z) ≤ 0 := by simp only [PyData.depth]; omega
  have l2 : (reprText z).length ≤ 10 * n + 2 := by omega
  refine ⟨⟨by simp only [PyData.showable], by simp only [PyData.hasDict], by omega, ?_⟩, d1, ?_⟩
  · simp only [PyData.shown]
    have : sizeLine = 16777216 := by decide
    omega
  · simp only [PyData.shown]
    exact l2
end DL

set_option Elab.async false
set_option linter.all false
set_option maxRecDepth 100000
set_option maxHeartbeats 2000000
/-! k35: what raising asks, methods, any, all. -/
namespace DL
open PySem PySem.Spec PyProof.Rows L2 LamX
open PySem.W (ksEnv)
/-- what a made error leaves -/
theorem made_heap {H1 : Hp} {a dx C : Addr} {f : Str} {v : V} (na : H1 a = none) (nd : dx ≠ a) : upd (del (upd (upd (upd H1 a (exo a C none)) dx (exd dx [(f, v)])) a (exo a C (some dx))) a) dx (.xd [(f, v)]) = upd H1 dx (.xd [(f, v)]) := by
  funext b
  by_cases h1 : b = dx
  · rw [h1, upd_same, upd_same]
  · rw [upd_ne h1, upd_ne h1]
    by_cases h2 : b = a
    · rw [h2, del_same, na]
    · rw [del_ne h2, upd_ne h2, upd_ne h1, upd_ne h2]
section
variable {X : Cx} {T : List (Addr × Str)} {W : WX} {χ : XD} {δ : Dn} {w : Wp} {pos : Pos}
/-- raise X(e), X an error class of one field -/
theorem psd_raise1N {CX : CXT} {x f : Str} {C fI : Addr} {k : Nat} {fd : FuncData} {ok : V → Prop} {e : Expr} {p cpos : Pos} {Fi : Fin} (hc : X.calm = true) (tk : L2N.Takes X W) (TC : OexC X.K C) (iC : PySem.W.findIn X.K (.ref C) "__init__" = some (some (.ref fI))) (tI : PySem.W.typeIn X.K (.ref fI) = some (.type "function"))
    (G : FnOk X.prog X.w X.K X.mg X.base CX0 k fI fd ["self", f] (spX1 C f ok)) (hr : Room (k + 1) X.A) (hb : Binds X.K fd ["self", f] []) (hm : X.mg x = some (.ref C))
    (h : PD X T W χ e δ w fun d w1 => ∃ v, d = .val v ∧ ok v ∧ χ C [f] [d] w1) (hg : Gl X x := by rfl) (hdb : (x == ("__debug__" : Str)) = false := by decide)
    (he : starEach [e] X.env = (false, eval e X.env) :: starEach [] X.env := by rfl) (hpl : (backTo cpos (starEach [] X.env)).any (·.1) = false := by rfl) : PSD X T W χ (.Raise (some (.Call (.Name x p) [e] [] cpos)) none pos) δ w Fi := fun F σ S H E hE hW hX hK => by
  refine wp_ps (L2N.ps_raise hc tk (pmk_oexN TC iC tI G hr hb pass0 hg hm (pa_cons (pe_wp e) pa_nil he) hdb he hpl)) ?_
  refine h F σ S H _ hE hW (hX σ) fun d w1 v S1 H1 q s1 W1 r => ?_
  obtain ⟨v', rfl, hv, q⟩ := q
  have r' : v = v' := r
  subst r'
  refine ⟨by show 1 ≤ 1000; decide, fun a na => ?_⟩
  refine ⟨a, v, rfl, upd_same, hv, fun dx nd nda => ⟨rfl, dx, [(f, v)], upd_same, ?_, ?_, ?_⟩⟩
  · rw [upd_ne nda, upd_same]
  · rw [upd_ne nda] at nd
    exact nd
  · rw [upd_ne nda] at nd
    rw [made_heap na nda]
    have s2 : Same S1 (upd S1 dx (.xd [(f, v)])) := same_upd (W1.free nd).1
    exact hX σ C [f] [.val v] w1 dx _ _ q (s1.trans s2) (W1.laid nd fun _ z => by cases z) ⟨[(f, v)], upd_same, rfl, v, [], rfl, rfl, rfl⟩
end
end DL
namespace Tw
open PySem PySem.Spec PyProof.Rows L2 LamX DL
/-- C.m is a method that keeps sp -/
def HasM (P : Program) (w : PySem.World) (K : PySem.W.Frag) (mg : Str → Option Value) (base : Heap) (T : List (Addr × Str)) (CX : CXT) (C : Addr) (m : Str) (k : Nat) (ps : List Str) (sp : SpD) : Prop :=
  ∃ f fd, FnOk P w K mg base CX k f fd ps (spOf K T sp) ∧ Meth K C m f ∧ Binds K fd ps []
section
variable {X : Cx} {T : List (Addr × Str)} {W : WX} {χ : XD} {δ : Dn} {w : Wp} {pos : Pos}
theorem pd_hasm {CX : CXT} {k : Nat} {C : Addr} {ps : List Str} {sp : SpD} {m : Str} {apos : Pos} {e o : Expr} {es : List Expr} {κ : D → Wp → Prop} {pl : Sem Bool} (c : Cls X.K C) (G : HasM X.prog X.w X.K X.mg X.base T CX C m k ps sp) (hr : Room k X.A)
    (hx : ∀ σ, PassesAt CX X σ (WE W σ)) (h : PD X T W χ o δ w fun d w1 => InsD C m d w1 ∧ PAD X T W χ (e :: es) δ w1 fun ds w2 => sp (d :: ds) w2 κ χ)
    (hst : starEach (e :: es) X.env = (false, eval e X.env) :: starEach es X.env := by rfl) (hpl : (backTo pos (starEach es X.env)).any (·.1) = false := by rfl)
    (ht : eval (.Call (.Attribute o m apos) (e :: es) [] pos) X.env = (do
      let ov ← eval o X.env
      standAt apos.atName
      let (f, first) ← holding [ov] (getMethod ov m pl)
      callWith pos f first (backTo pos (starEach (e :: es) X.env)) (backToKw pos (keywordEach [] X.env))) := by rfl) : PD X T W χ (.Call (.Attribute o m apos) (e :: es) [] pos) δ w κ := by
  obtain ⟨f, fd, h1, h2, h3⟩ := G
  exact pd_meth c h2 h1 hr h3 hx h hst hpl ht
theorem pd_hasm0 {CX : CXT} {k : Nat} {C : Addr} {ps : List Str} {sp : SpD} {m : Str} {apos : Pos} {o : Expr} {κ : D → Wp → Prop} {pl : Sem Bool} (c : Cls X.K C) (G : HasM X.prog X.w X.K X.mg X.base T CX C m k ps sp) (hr : Room k X.A)
    (hx : ∀ σ, PassesAt CX X σ (WE W σ)) (h : PD X T W χ o δ w fun d w1 => InsD C m d w1 ∧ sp [d] w1 κ χ)
    (ht : eval (.Call (.Attribute o m apos) [] [] pos) X.env = (do
      let ov ← eval o X.env
      standAt apos.atName
      let (f, first) ← holding [ov] (getMethod ov m pl)
      callWith pos f first (backTo pos (starEach [] X.env)) (backToKw pos (keywordEach [] X.env))) := by rfl) : PD X T W χ (.Call (.Attribute o m apos) [] [] pos) δ w κ := by
  obtain ⟨f, fd, h1, h2, h3⟩ := G
  exact pd_meth0 c h2 h1 hr h3 hx h ht
end
/-- what a raise of an own error class of one field asks -/
def HasET (P : Program) (w : PySem.World) (K : PySem.W.Frag) (mg : Str → Option Value) (base : Heap) (x : Str) (C : Addr) (k : Nat) (f : Str) : Prop :=
  ∃ fI fd, FnOk P w K mg base CX0 k fI fd ["self", f] (spX1 C f strFits) ∧ mg x = some (.ref C) ∧ OexC K C ∧ PySem.W.findIn K (.ref C) "__init__" = some (some (.ref fI)) ∧ PySem.W.typeIn K (.ref fI) = some (.type "function") ∧ Binds K fd ["self", f] []
section
variable {X : Cx} {T : List (Addr × Str)} {W : WX} {χ : XD} {δ : Dn} {w : Wp} {pos : Pos}
theorem psd_raiseT {x f : Str} {C : Addr} {k : Nat} {e : Expr} {p cpos : Pos} {Fi : DL.Fin} (hc : X.calm = true) (tk : L2N.Takes X W) (G : HasET X.prog X.w X.K X.mg X.base x C k f) (hr : Room (k + 1) X.A)
    (h : PD X T W χ e δ w fun d w1 => ∃ z : Str, d = DL.T z ∧ Okc z ∧ χ C [f] [DL.T z] w1) (hg : Gl X x := by rfl) (hdb : (x == ("__debug__" : Str)) = false := by decide)
    (he : starEach [e] X.env = (false, eval e X.env) :: starEach [] X.env := by rfl) (hpl : (backTo cpos (starEach [] X.env)).any (·.1) = false := by rfl) : PSD X T W χ (.Raise (some (.Call (.Name x p) [e] [] cpos)) none pos) δ w Fi := by
  obtain ⟨fI, fd, h1, h2, h3, h4, h5, h6⟩ := G
  refine psd_raise1N (CX := CX0) hc tk h3 h4 h5 h1 hr h6 h2 (h.imp ?_) hg hdb he hpl
  rintro d w1 ⟨z, rfl, hz, k⟩
  exact ⟨.str z, rfl, ⟨z, rfl, hz⟩, k⟩
end

theorem va_all {K : PySem.W.Frag} {T : List (Addr × Str)} {w : Wp} {κ : D → Wp → Prop} {bs : List Bool} (k : κ (B (bs.all id)) w) : VRA K T (rAll K) [.lst (bs.map B)] w κ := fun F S H xs Q hW r hK => by
  obtain ⟨y, ys, rfl, h1, h2⟩ := r
  obtain ⟨a, zs, rfl, h3, h4⟩ := h1
  have h2' : ys = [] := h2
  subst h2'
  have e : bs.map B = (bs.map V.bl).map D.val := by
    rw [List.map_map]
    rfl
  rw [e] at h4
  have e2 := h4.vals
  subst e2
  exact ⟨a, bs, rfl, SqL.of (hW.same _ _ h3), hK _ w _ S H k (Same.refl _) hW rfl⟩
theorem bt_all : bootBuiltins "all" = some (.builtin "all") := by decide +kernel
section
variable {K : PySem.W.Frag} {T : List (Addr × Str)} {w : Wp} {κ : D → Wp → Prop}
theorem va_any {bs : List Bool} (k : κ (B (bs.any id)) w) : VRA K T (rAny K) [.lst (bs.map B)] w κ := fun F S H xs Q hW r hK => by
  obtain ⟨y, ys, rfl, h1, h2⟩ := r
  obtain ⟨a, zs, rfl, h3, h4⟩ := h1
  have h2' : ys = [] := h2
  subst h2'
  have e : bs.map B = (bs.map V.bl).map D.val := by
    rw [List.map_map]
    rfl
  rw [e] at h4
  have e2 := h4.vals
  subst e2
  exact ⟨a, bs, rfl, SqL.of (hW.same _ _ h3), hK _ w _ S H k (Same.refl _) hW rfl⟩
theorem va_listK {d : D} {ds : List D} (l : Lk w d ds) (k : κ (.lst ds) w) : VRA K T (rListOf K) [d] w κ := fun F S H xs Q hW r hK => by
  obtain ⟨y, ys, rfl, h1, h2⟩ := r
  obtain ⟨a, zs, rfl, h3, h4⟩ := l.at_ hW h1
  have h2' : ys = [] := h2
  subst h2'
  refine ⟨a, zs, rfl, .inl (SqL.of h3), fun p hp => ?_⟩
  have s1 : Same S (upd S p (.lst zs)) := same_upd (hW.free hp).1
  exact hK _ w _ _ _ k s1 (hW.laid hp fun _ z => by cases z) ⟨p, _, rfl, upd_same, h4.mono s1⟩
end
/-- what a raise of UnknownDeed asks -/
def HasED (P : Program) (w : PySem.World) (K : PySem.W.Frag) (mg : Str → Option Value) (base : Heap) (x : Str) (C : Addr) (k : Nat) : Prop :=
  ∃ fI fd, FnOk P w K mg base CX0 k fI fd ["self", "sign", "place"] (spX2b C "sign" "place" strFits intFits) ∧ mg x = some (.ref C) ∧ OexC K C ∧ PySem.W.findIn K (.ref C) "__init__" = some (some (.ref fI)) ∧ PySem.W.typeIn K (.ref fI) = some (.type "function") ∧ Binds K fd ["self", "sign", "place"] []
section
variable {X : Cx} {T : List (Addr × Str)} {W : WX} {χ : XD} {δ : Dn} {w : Wp} {pos : Pos}
theorem psd_raiseD {x : Str} {C : Addr} {k : Nat} {e1 e2 : Expr} {p cpos : Pos} {Fi : DL.Fin} (hc : X.calm = true) (tk : L2N.Takes X W) (G : HasED X.prog X.w X.K X.mg X.base x C k) (hr : Room (k + 1) X.A)
    (h : PD X T W χ e1 δ w fun d w1 => PD X T W χ e2 δ w1 fun d2 w2 => ∃ (z : Str) (i : Int), d = DL.T z ∧ d2 = I i ∧ Okc z ∧ i.natAbs.log2 < 1920 ∧ χ C ["place", "sign"] [I i, DL.T z] w2) (hg : Gl X x := by rfl) (hdb : (x == ("__debug__" : Str)) = false := by decide)
    (he1 : starEach [e1, e2] X.env = (false, eval e1 X.env) :: starEach [e2] X.env := by rfl) (he2 : starEach [e2] X.env = (false, eval e2 X.env) :: starEach [] X.env := by rfl) (hpl : (backTo cpos (starEach [e2] X.env)).any (·.1) = false := by rfl) : PSD X T W χ (.Raise (some (.Call (.Name x p) [e1, e2] [] cpos)) none pos) δ w Fi := by
  obtain ⟨fI, fd, h1, h2, h3, h4, h5, h6⟩ := G
  refine psd_raise2N (CX := CX0) hc tk h3 h4 h5 h1 hr h6 h2 (h.imp fun d w1 q => q.imp fun d2 w2 q2 => ?_) hg hdb he1 he2 hpl
  obtain ⟨z, i, rfl, rfl, hz, hi, k⟩ := q2
  exact ⟨.str z, .int i, rfl, rfl, ⟨z, rfl, hz⟩, ⟨i, rfl, hi⟩, k⟩
end
end Tw

set_option Elab.async false
set_option linter.all false
set_option maxRecDepth 100000
set_option maxHeartbeats 1000000
/-! Loops and comprehensions over a list of plain values that stands or is owned, and is left as it is. -/
namespace DL
open PySem PySem.Spec PyProof.Rows L2 LamX
def IterDK (X : Cx) (T : List (Addr × Str)) (W : WX) (χ : XD) (Kp : Wp → Prop) (tg iter : Expr) (δ : Dn) (w : Wp) (κ : List D → Wp → Prop) : Prop :=
  ∃ wi, PI X tg iter wi ∧ ∀ (F : Hp) (σ : L2.St) (S H : Hp) (R : It → Hp → Prop), EnvD X.K S δ σ → World X.K T S w F H → ExD X.K T W χ σ S F →
    (∀ (ds : List D) (w1 : Wp) (S1 H1 : Hp) (J : It) (G : Hp → Prop) (Y : Nat → Hp → V → Hp → Prop), κ ds w1 → Same S S1 → World X.K T S1 w1 F H1 → Walk J ds.length G Y →
      (∀ S2 w2 F2 H2, Kp w2 → Same S1 S2 → World X.K T S2 w2 F2 H2 → G H2) →
      (∀ (i : Nat) (d : D) S2 w2 F2 H2 x H3, ds[i]? = some d → Kp w2 → Same S1 S2 → World X.K T S2 w2 F2 H2 → Y i H2 x H3 → ∃ S3, Same S2 S3 ∧ World X.K T S3 w2 F2 H3 ∧ Rep X.K S3 d x) → R J H1) → wi σ H R
section
variable {X : Cx} {T : List (Addr × Str)} {W : WX} {χ : XD} {δ : Dn} {w : Wp} {pos : Pos}
theorem it_lk {tg e : Expr} {dd : D} {vs : List V} {κ : List D → Wp → Prop} (h : PD X T W χ e δ w fun d w1 => d = dd ∧ Lk w1 dd (vs.map D.val) ∧ κ (vs.map D.val) w1) : IterDK X T W χ (fun w2 => Lk w2 dd (vs.map D.val)) tg e δ w κ :=
  ⟨_, pi_list (pe_wp e), fun F σ S H R hE hW hX hK => by
    refine h F σ S H _ hE hW hX fun d w1 v S1 H1 k s1 W1 r => ?_
    obtain ⟨rfl, lk, k⟩ := k
    obtain ⟨a, xs, rfl, h1, h2⟩ := lk.at_ W1 r
    have e2 := h2.vals
    subst e2
    refine ⟨a, rfl, ⟨xs, SqL.of h1⟩, ?_⟩
    have ww := walk_list (K := X.K) (a := a) (xs := xs)
    have el : xs.length = (xs.map D.val).length := (List.length_map _).symm
    rw [el] at ww
    have at2 : ∀ S2 w2 F2 H2, Lk w2 d (xs.map D.val) → Same S1 S2 → World X.K T S2 w2 F2 H2 → H2 a = some (.lst xs) := fun S2 w2 F2 H2 l2 s2 W2 => by
      obtain ⟨a2, xs2, e3, h3, h4⟩ := l2.at_ W2 (r.mono s2)
      cases e3
      rw [h4.vals] at h3
      exact h3
    refine hK _ w1 S1 H1 _ _ _ k s1 W1 ww (fun S2 w2 F2 H2 l2 s2 W2 => SqL.of (at2 S2 w2 F2 H2 l2 s2 W2)) fun i d' S2 w2 F2 H2 x H3 hd l2 s2 W2 y => ?_
    obtain ⟨rfl, hx⟩ := y
    rw [List.getElem?_map, hx] at hd
    cases hd
    exact ⟨S2, Same.refl _, W2, rfl⟩⟩
theorem psd_forK {Kp : Wp → Prop} {tg iter : Expr} {body : List Stmt} {C : DL.Fin} (hp : PassesOwn (model X.prog X.w) X.A X.env X.xe) (hc : X.calm = true)
    (h : IterDK X T W χ Kp tg iter δ w (fun ds w1 => ∃ Pv : Nat → Dn → Wp → Prop, Pv 0 δ w1 ∧ (∀ i δ' w', Pv i δ' w' → Kp w') ∧
      (∀ (i : Nat) (d : D) δ' w', ds[i]? = some d → Pv i δ' w' → PGD X T tg d δ' w' fun δ2 w2 => PSsD X T W χ body δ2 w2 { nx := Pv (i + 1), rt := C.rt, bk := C.nx, ct := Pv (i + 1) }) ∧
      ∀ δ' w', Pv ds.length δ' w' → C.nx δ' w'))
    (hs : ∀ x, foldedSetIterable iter X.env x = pure x := by intro _; rfl) : PSD X T W χ (.For tg iter body [] pos) δ w C := fun F σ S H E hE hW hX hK => by
  obtain ⟨wi, hi, h⟩ := h
  refine wp_ps (ps_for hp hc hi (pg_wp tg) (pss_wp body) hs) ?_
  refine h F σ S H _ hE hW (hX σ) fun ds w1 S1 H1 J G Y k s1 W1 ww hG hY => ?_
  obtain ⟨Pv, p0, pk, turn, done⟩ := k
  refine for_it ww (D := E) (fun i σ' H' => ∃ δ' w' S', Pv i δ' w' ∧ Same S1 S' ∧ EnvD X.K S' δ' σ' ∧ World X.K T S' w' F H') ⟨δ, w1, S1, p0, Same.refl _, hE.mono s1, W1⟩ (fun i σ' H' _ ⟨δ', w', S', pv, s2, _, W2⟩ => hG S' w' F H' (pk _ _ _ pv) s2 W2) ?_ ?_
  · rintro i x σ' H' H3 hi ⟨δ', w', S', pv, s2, hE2, W2⟩ y
    obtain ⟨S3, s3, W3, r⟩ := hY i ds[i] S' w' F H' x H3 (List.getElem?_eq_getElem hi) (pk _ _ _ pv) s2 W2 y
    refine turn i ds[i] δ' w' (List.getElem?_eq_getElem hi) pv F x σ' S3 H3 _ r (hE2.mono s3) W3 fun δ2 w2 σ2 S4 H4 k s4 hE4 W4 => ?_
    have ss := s1.trans (s2.trans (s3.trans s4))
    refine k F σ2 S4 H4 _ hE4 W4 (hX.mono ss) ⟨fun δ5 w5 σ5 S5 H5 k5 s5 hE5 W5 => ⟨δ5, w5, S5, k5, s2.trans (s3.trans (s4.trans s5)), hE5, W5⟩, hK.rt.mono ss, hK.nx.mono ss, fun δ5 w5 σ5 S5 H5 k5 s5 hE5 W5 => ⟨δ5, w5, S5, k5, s2.trans (s3.trans (s4.trans s5)), hE5, W5⟩⟩
  · rintro σ' H' ⟨δ', w', S', pv, s2, hE2, W2⟩
    exact hK.nx δ' w' σ' S' H' (done δ' w' pv) (s1.trans s2) hE2 W2
/-- what a comprehension asks -/
def LcDK (X : Cx) (T : List (Addr × Str)) (is : List Nat) (tg : Expr) (ifs : List Expr) (elt : Expr) (scope : Scope) (vs : List Nat) (δ : Dn) (κ : List D → Wp → Prop) (ds : List D) (Kp : Wp → Prop) (w1 : Wp) : Prop :=
  ds.length < sizeLine ∧ ∃ Pv : Nat → List D → Wp → Prop, Pv 0 [] w1 ∧ (∀ i acc w', Pv i acc w' → Kp w') ∧
    (∀ (i : Nat) (d : D) acc w', ds[i]? = some d → Pv i acc w' → ∀ s H0 C cl fp, PGL (bx X s H0 scope cl C fp) T is tg d (wipeD δ vs) w' fun δ2 w2 => ∀ s H0 C cl fp, PTsD (bx X s H0 scope cl C fp) T ifs δ2 w2 fun b w3 =>
      if b = true then ∀ s H0 C cl fp, PD (bx X s H0 scope cl C fp) T Wf noX elt δ2 w3 fun y w4 => Pv (i + 1) (acc ++ [y]) w4 else Pv (i + 1) acc w3) ∧
    ∀ acc w', Pv ds.length acc w' → κ acc w'
theorem lc_readK {Kp : Wp → Prop} {tg elt : Expr} {ifs : List Expr} {scope : Scope} {vs is : List Nat} {κ : List D → Wp → Prop} {wi : TI} {F : Hp} {σ : L2.St} {S H : Hp} {Q : VK} (hsub : ∀ i ∈ is, i ∈ vs) (hE : EnvD X.K S δ σ) (hW : World X.K T S w F H)
    (h : ∀ (R : It → Hp → Prop), (∀ (ds : List D) (w1 : Wp) (S1 H1 : Hp) (J : It) (G : Hp → Prop) (Y : Nat → Hp → V → Hp → Prop), LcDK X T is tg ifs elt scope vs δ κ ds Kp w1 → Same S S1 → World X.K T S1 w1 F H1 → Walk J ds.length G Y →
      (∀ S2 w2 F2 H2, Kp w2 → Same S1 S2 → World X.K T S2 w2 F2 H2 → G H2) →
      (∀ (i : Nat) (d : D) S2 w2 F2 H2 x H3, ds[i]? = some d → Kp w2 → Same S1 S2 → World X.K T S2 w2 F2 H2 → Y i H2 x H3 → ∃ S3, Same S2 S3 ∧ World X.K T S3 w2 F2 H3 ∧ Rep X.K S3 d x) → R J H1) → wi σ H R)
    (hK : ∀ (L : Addr) acc w' S' xs H', κ acc w' → Same S S' → F L = none → World X.K T S' w' (upd F L (.lst xs)) H' → RepL X.K S' acc xs → Q (.ref L) H') :
    tLc wi (lcG X scope tg) (lcT X scope ifs) (lcE X scope elt) vs σ H Q := by
  refine h _ fun ds w1 S1 H1 J G Y k s1 W1 ww hG hY L nL => ?_
  obtain ⟨hz, Pv, p0, pk, turn, done⟩ := k
  have fL : F L = none := (W1.free nL).2.2
  refine lc_it ww (g := lcG X scope tg) (tt := lcT X scope ifs) (te := lcE X scope elt) (vs := vs) (σ := σ) (H1 := H1) (D := L) (Qd := fun H => Q (.ref L) H) (fun i H' => ∃ acc w' S' xs, Pv i acc w' ∧ acc.length ≤ i ∧ Same S1 S' ∧ World X.K T S' w' (upd F L (.lst xs)) H' ∧ RepL X.K S' acc xs) ?_ (fun i H' _ ⟨acc, w', S', xs, pv, _, s2, W2, _⟩ => hG S' w' _ H' (pk _ _ _ pv) s2 W2) ?_ ?_
  · exact ⟨[], w1, S1, [], p0, Nat.le_refl _, Same.refl _, W1.takeF nL (fun _ z => by cases z), rfl⟩
  · rintro i x H' H3 hi ⟨acc, w', S', xs, pv, hacc, s2, W2, ra⟩ y
    obtain ⟨S3, s3, W3, r⟩ := hY i ds[i] S' w' _ H' x H3 (List.getElem?_eq_getElem hi) (pk _ _ _ pv) s2 W2 y
    intro s H0 C cl fp
    refine turn i ds[i] acc w' (List.getElem?_eq_getElem hi) pv s H0 C cl fp (upd F L (.lst xs)) x (L2.wipe σ vs) S3 H3 _ r ((hE.mono (s1.trans (s2.trans s3))).wipe vs) W3 fun δ2 w2 σ2 S4 H4 k s4 hE4 W4 o4 l4 => ?_
    refine ⟨?_, ?_⟩
    · rw [wipe_eq (σ1 := L2.wipe σ vs) (σ2 := σ2) l4 fun j hj => o4 j fun z => hj (hsub j z)]
      exact wipe_eq (L2.wipe_length σ vs) fun j hj => L2.wipe_out hj
    · intro s H0 C cl fp
      refine k s H0 C cl fp (upd F L (.lst xs)) σ2 S4 H4 _ hE4 W4 fun b w5 S5 H5 k5 s5 W5 => ?_
      cases b with
      | false =>
        rw [if_neg Bool.false_ne_true] at k5 ⊢
        exact ⟨acc, w5, S5, xs, k5, Nat.le_succ_of_le hacc, s2.trans (s3.trans (s4.trans s5)), W5, ra.mono (s3.trans (s4.trans s5))⟩
      | true =>
        rw [if_pos rfl] at k5 ⊢
        intro s H0 C cl fp
        refine k5 s H0 C cl fp (upd F L (.lst xs)) σ2 S5 H5 _ (hE4.mono s5) W5 exf fun d6 w6 v6 S6 H6 k6 s6 W6 r6 => ?_
        have ra6 := ra.mono (s3.trans (s4.trans (s5.trans s6)))
        refine ⟨xs, (W6.frm L _ upd_same).2, by rw [ra6.length]; omega, acc ++ [d6], w6, S6, xs ++ [v6], k6, ?_, s2.trans (s3.trans (s4.trans (s5.trans s6))), ?_, ra6.app (RepL.one r6)⟩
        · rw [List.length_append]
          show acc.length + 1 ≤ i + 1
          omega
        · have W7 := W6.putF (o := .lst (xs ++ [v6])) upd_same (fun _ z => by cases z) (fun _ z => by cases z) (fun _ z => by cases z)
          rw [upd_upd] at W7
          exact W7
  · rintro H' ⟨acc, w', S', xs, pv, hacc, s2, W2, ra⟩
    exact hK L acc w' S' xs H' (done acc w' pv) (s1.trans s2) fL W2 ra
theorem pd_lcK {Kp : Wp → Prop} {elt tg iter : Expr} {ifs : List Expr} {scope : Scope} (own : List (Str × Nat)) (is : List Nat) {κ : D → Wp → Prop} (hc : X.calm = true) (hN : X.N.Nodup) (ok : BlkOk X.N X.env.scope scope own) (hsub : ∀ i ∈ is, i ∈ own.map (·.2))
    (h : IterDK X T W χ Kp tg iter δ w (fun ds => LcDK X T is tg ifs elt scope (own.map (·.2)) δ (fun acc w' => κ (.lst acc) w') ds Kp)) (hs : ∀ x, foldedSetIterable iter X.env x = pure x := by intro _; rfl) : PD X T W χ (.ListComp elt [⟨tg, iter, ifs, 0⟩] scope pos) δ w κ := fun F σ S H Q hE hW hX hK => by
  obtain ⟨wi, hi, h⟩ := h
  exact wp_pe (pe_lc hc hN hi ok pg_bx pt_bx pe_bx hs) (lc_readK hsub hE hW (fun R hR => h F σ S H R hE hW hX hR) (fin_stay hK))
end
section
variable {K : PySem.W.Frag} {T : List (Addr × Str)} {w : Wp} {κ : D → Wp → Prop}
/-- xs.index(x), ints, owned or not -/
theorem vm_indexK {d : D} {ns : List Int} {n : Int} (l : Lk w d (ns.map I)) (hm : n ∈ ns) (k : κ (I ((ns.idxOf n : Nat) : Int)) w) : VRM K T (rIndex K) d [I n] w κ := fun F S H x xs Q hW r1 r2 hK => by
  obtain ⟨a, ys, rfl, h1, h2⟩ := l.at_ hW r1
  obtain ⟨y, zs, rfl, h3, h4⟩ := r2
  have h3' : y = .int n := h3
  have h4' : zs = [] := h4
  have h2' := h2.ints
  subst h3' h4' h2'
  have hi : ns.idxOf n < ns.length := List.idxOf_lt_length_of_mem hm
  refine ⟨a, ns.map V.int, .int n, ns.idxOf n, .int n, rfl, rfl, SqL.of h1, rfl, ?_, ?_, ?_, ?_, hK _ w _ S H k (Same.refl _) hW rfl⟩
  · rw [List.all_eq_true]
    intro v hv
    obtain ⟨m, _, rfl⟩ := List.mem_map.mp hv
    rfl
  · rw [List.getElem?_map, List.getElem?_eq_getElem hi, List.getElem_idxOf hi]
    rfl
  · show (n == n) = true
    exact beq_self_eq_true n
  · intro m z' hlt hz
    rw [List.getElem?_map] at hz
    cases e : ns[m]? with
    | none =>
      rw [e] at hz
      cases hz
    | some z =>
      rw [e] at hz
      cases hz
      show (z == n) = false
      refine beq_eq_false_iff_ne.mpr fun q => ?_
      subst q
      exact before_ix hlt e
theorem TyD.lk {d : D} {ds : List D} (l : Lk w d ds) : TyD K "list" d w := by
  rcases l with rfl | ⟨a, rfl, h⟩
  · exact rfl
  · exact ⟨rfl, ds, h⟩
end
end DL

set_option Elab.async false
set_option linter.all false
set_option maxRecDepth 100000
set_option maxHeartbeats 2000000
/-! Walks over lists of any data that stand or are owned and stay as they are; lists of such lists. -/
namespace DL
open PySem PySem.Spec PyProof.Rows L2 LamX
theorem walk_len {K : PySem.W.Frag} {a : Addr} {n : Nat} : Walk (Itl K a) n (fun H => ∃ xs, SqL K H a xs ∧ xs.length = n) (fun i H x H' => H' = H ∧ ∀ xs, SqL K H a xs → xs[i]? = some x) :=
  ⟨fun i _ hi ⟨xs, q, e⟩ => ⟨xs, xs[i]'(by omega), q, by simp [show i < xs.length by omega]⟩, fun _ ⟨xs, q, e⟩ => ⟨xs, q, by omega⟩, fun _ _ _ _ _ _ y => y⟩
section
variable {X : Cx} {T : List (Addr × Str)} {W : WX} {χ : XD} {δ : Dn} {w : Wp} {pos : Pos}
theorem it_lkD {tg e : Expr} {dd : D} {es : List D} {κ : List D → Wp → Prop} (h : PD X T W χ e δ w fun d w1 => d = dd ∧ Lk w1 dd es ∧ κ es w1) : IterDK X T W χ (fun w2 => Lk w2 dd es) tg e δ w κ :=
  ⟨_, pi_list (pe_wp e), fun F σ S H R hE hW hX hK => by
    refine h F σ S H _ hE hW hX fun d w1 v S1 H1 k s1 W1 r => ?_
    obtain ⟨rfl, lk, k⟩ := k
    obtain ⟨a, xs, rfl, h1, h2⟩ := lk.at_ W1 r
    refine ⟨a, rfl, ⟨xs, SqL.of h1⟩, ?_⟩
    have at2 : ∀ S2 w2 F2 H2, Lk w2 d es → Same S1 S2 → World X.K T S2 w2 F2 H2 → ∃ ys, H2 a = some (.lst ys) ∧ RepL X.K S2 es ys := fun S2 w2 F2 H2 l2 s2 W2 => by
      obtain ⟨a2, xs2, e3, h3, h4⟩ := l2.at_ W2 (r.mono s2)
      cases e3
      exact ⟨xs2, h3, h4⟩
    refine hK _ w1 S1 H1 _ _ _ k s1 W1 (walk_len (K := X.K) (a := a) (n := es.length)) (fun S2 w2 F2 H2 l2 s2 W2 => ?_) fun i d' S2 w2 F2 H2 x H3 hd l2 s2 W2 y => ?_
    · obtain ⟨ys, h3, h4⟩ := at2 S2 w2 F2 H2 l2 s2 W2
      exact ⟨ys, SqL.of h3, h4.length⟩
    · obtain ⟨rfl, hx⟩ := y
      obtain ⟨ys, h3, h4⟩ := at2 S2 w2 F2 _ l2 s2 W2
      obtain ⟨v, h5, h6⟩ := h4.get hd
      have e := hx ys (SqL.of h3)
      rw [h5] at e
      cases e
      exact ⟨S2, Same.refl _, W2, h6⟩⟩
/-- the inner walk, from acc on -/
def InDK (X : Cx) (T : List (Addr × Str)) (is1 : List Nat) (tg1 : Expr) (ifs1 : List Expr) (elt : Expr) (scope : Scope) (vs1 : List Nat) (δ2 : Dn) (acc : List D) (κ : List D → Wp → Prop) (es : List D) (Kp : Wp → Prop) (w1 : Wp) : Prop :=
  ∃ Pv : Nat → List D → Wp → Prop, Pv 0 acc w1 ∧ (∀ j acc w', Pv j acc w' → Kp w') ∧
    (∀ (j : Nat) (d : D) acc w', es[j]? = some d → Pv j acc w' → ∀ s H0 C cl fp, PGL (bx X s H0 scope cl C fp) T is1 tg1 d (wipeD δ2 vs1) w' fun δ3 w2 => ∀ s H0 C cl fp, PTsD (bx X s H0 scope cl C fp) T ifs1 δ3 w2 fun b w3 =>
      if b = true then acc.length < sizeLine ∧ ∀ s H0 C cl fp, PD (bx X s H0 scope cl C fp) T Wf noX elt δ3 w3 fun y w4 => Pv (j + 1) (acc ++ [y]) w4 else Pv (j + 1) acc w3) ∧
    ∀ acc w', Pv es.length acc w' → κ acc w'
/-- the outer walk -/
def Lc2DK (X : Cx) (T : List (Addr × Str)) (is is1 : List Nat) (tg : Expr) (ifs : List Expr) (tg1 iter1 : Expr) (ifs1 : List Expr) (elt : Expr) (scope : Scope) (vs vs1 : List Nat) (δ : Dn) (κ : List D → Wp → Prop) (ds : List D) (Kp : Wp → Prop) (w1 : Wp) : Prop :=
  ∃ Pv : Nat → List D → Wp → Prop, Pv 0 [] w1 ∧ (∀ i acc w', Pv i acc w' → Kp w') ∧
    (∀ (i : Nat) (d : D) acc w', ds[i]? = some d → Pv i acc w' → ∀ s H0 C cl fp, PGL (bx X s H0 scope cl C fp) T is tg d (wipeD δ vs) w' fun δ2 w2 => ∀ s H0 C cl fp, PTsD (bx X s H0 scope cl C fp) T ifs δ2 w2 fun b w3 =>
      if b = true then ∀ s H0 C cl fp, PD (bx X s H0 scope cl C fp) T Wf noX iter1 δ2 w3 fun y w4 => ∃ es, Lk w4 y es ∧ InDK X T is1 tg1 ifs1 elt scope vs1 δ2 acc (Pv (i + 1)) es (fun w5 => Lk w5 y es) w4 else Pv (i + 1) acc w3) ∧
    ∀ acc w', Pv ds.length acc w' → κ acc w'
theorem pd_lc2K {Kp : Wp → Prop} {elt tg iter tg1 iter1 : Expr} {ifs ifs1 : List Expr} {scope : Scope} (own : List (Str × Nat)) (is is1 vs1 : List Nat) {κ : D → Wp → Prop} (hc : X.calm = true) (hN : X.N.Nodup) (ok : BlkOk X.N X.env.scope scope own) (hsub : ∀ i ∈ is, i ∈ own.map (·.2)) (hv : ∀ i ∈ vs1, i ∈ own.map (·.2)) (hsub1 : ∀ i ∈ is1, i ∈ vs1)
    (h : IterDK X T W χ Kp tg iter δ w (fun ds => Lc2DK X T is is1 tg ifs tg1 iter1 ifs1 elt scope (own.map (·.2)) vs1 δ (fun acc w' => κ (.lst acc) w') ds Kp)) (hs : ∀ x, foldedSetIterable iter X.env x = pure x := by intro _; rfl) (hs1 : ∀ env x, foldedSetIterable iter1 env x = pure x := by intro _ _; rfl) : PD X T W χ (.ListComp elt [⟨tg, iter, ifs, 0⟩, ⟨tg1, iter1, ifs1, 0⟩] scope pos) δ w κ := fun F σ S H Q hE hW hX hK => by
  obtain ⟨wi, hi, h⟩ := h
  refine wp_pe (pe_lc2 hc hN hi ok hv pg_bx pt_bx (wi1 := iList X.K (lcE X scope iter1)) (fun s H C cl fp => pi_list (X := X.blk s H scope (compEnvC scope cl C X.env) fp) (pe_bx s H C cl fp)) pg_bx pt_bx pe_bx hs hs1) ?_
  refine h F σ S H _ hE hW hX fun ds w1 S1 H1 J G Y k s1 W1 ww hG hY L nL => ?_
  obtain ⟨Pv, p0, pk, turn, done⟩ := k
  have fL : F L = none := (W1.free nL).2.2
  let P : Nat → Hp → Prop := fun i H' => ∃ acc w' S' xs, Pv i acc w' ∧ Same S1 S' ∧ World X.K T S' w' (upd F L (.lst xs)) H' ∧ RepL X.K S' acc xs
  refine ⟨fun i m H => m = ds.length - i ∧ i ≤ ds.length ∧ P i H, ⟨ds.length, rfl, Nat.zero_le _, [], w1, S1, [], p0, Same.refl _, W1.takeF nL (fun _ z => by cases z), rfl⟩, ?_⟩
  rintro i m H' ⟨hm, hi', acc, w', S', xs, pv, s2, W2, ra⟩
  have gg := hG S' w' _ H' (pk _ _ _ pv) s2 W2
  cases Nat.lt_or_ge i ds.length with
  | inr hge =>
    obtain rfl : i = ds.length := Nat.le_antisymm hi' hge
    exact Or.inl ⟨ww.stops H' gg, fin_stay hK L acc w' S' xs H' (done acc w' pv) (s1.trans s2) fL W2 ra⟩
  | inl hlt =>
    refine Or.inr ⟨ww.goes i H' hlt gg, P (i + 1), fun H2 p2 => ⟨ds.length - (i + 1), by omega, rfl, hlt, p2⟩, fun x H3 y => ?_⟩
    obtain ⟨S3, s3, W3, r⟩ := hY i ds[i] S' w' _ H' x H3 (List.getElem?_eq_getElem hlt) (pk _ _ _ pv) s2 W2 (ww.yields i H' x H3 hlt gg y)
    intro s H0 C cl fp
    refine turn i ds[i] acc w' (List.getElem?_eq_getElem hlt) pv s H0 C cl fp (upd F L (.lst xs)) x (L2.wipe σ (own.map (·.2))) S3 H3 _ r ((hE.mono (s1.trans (s2.trans s3))).wipe _) W3 fun δ2 w2 σ2 S4 H4 k s4 hE4 W4 o4 l4 => ?_
    refine ⟨?_, ?_⟩
    · rw [wipe_eq (σ1 := L2.wipe σ (own.map (·.2))) (σ2 := σ2) l4 fun j hj => o4 j fun z => hj (hsub j z)]
      exact wipe_eq (L2.wipe_length σ _) fun j hj => L2.wipe_out hj
    intro s H0 C cl fp
    refine k s H0 C cl fp (upd F L (.lst xs)) σ2 S4 H4 _ hE4 W4 fun b w5 S5 H5 k5 s5 W5 => ?_
    have s25 : Same S1 S5 := s2.trans (s3.trans (s4.trans s5))
    have ra5 : RepL X.K S5 acc xs := ra.mono (s3.trans (s4.trans s5))
    cases b with
    | false =>
      rw [if_neg Bool.false_ne_true] at k5 ⊢
      exact ⟨acc, w5, S5, xs, k5, s25, W5, ra5⟩
    | true =>
      rw [if_pos rfl] at k5 ⊢
      intro s H0 C cl fp
      refine k5 s H0 C cl fp (upd F L (.lst xs)) σ2 S5 H5 _ (hE4.mono s5) W5 exf fun d6 w6 v6 S6 H6 k6 s6 W6 r6 => ?_
      obtain ⟨es, lk6, Pv1, q0, qk, turn1, done1⟩ := k6
      obtain ⟨a, zs, rfl, h1, h2⟩ := lk6.at_ W6 r6
      refine ⟨a, rfl, ⟨zs, SqL.of h1⟩, ?_⟩
      have w2' := walk_len (K := X.K) (a := a) (n := es.length)
      let P1 : Nat → Hp → Prop := fun j H' => ∃ acc w' S' xs, Pv1 j acc w' ∧ Same S6 S' ∧ World X.K T S' w' (upd F L (.lst xs)) H' ∧ RepL X.K S' acc xs
      refine ⟨fun j m H => m = es.length - j ∧ j ≤ es.length ∧ P1 j H, ⟨es.length, rfl, Nat.zero_le _, acc, w6, S6, xs, q0, Same.refl _, W6, ra5.mono s6⟩, ?_⟩
      rintro j m1 H7 ⟨hm1, hj, acc7, w7, S7, xs7, pv7, s7, W7, ra7⟩
      obtain ⟨a7, zs7, e7, h17, h27⟩ := (qk _ _ _ pv7).at_ W7 (r6.mono s7)
      cases e7
      have g7 : ∃ xs, SqL X.K H7 a xs ∧ xs.length = es.length := ⟨zs7, SqL.of h17, h27.length⟩
      cases Nat.lt_or_ge j es.length with
      | inr hge =>
        obtain rfl : j = es.length := Nat.le_antisymm hj hge
        exact Or.inl ⟨w2'.stops H7 g7, acc7, w7, S7, xs7, done1 acc7 w7 pv7, s25.trans (s6.trans s7), W7, ra7⟩
      | inl hlt1 =>
        refine Or.inr ⟨w2'.goes j H7 hlt1 g7, P1 (j + 1), fun H2 p2 => ⟨es.length - (j + 1), by omega, rfl, hlt1, p2⟩, fun x H8 y => ?_⟩
        obtain ⟨rfl, hx⟩ := w2'.yields j H7 x H8 hlt1 g7 y
        obtain ⟨v, h3, h4⟩ := h27.get (List.getElem?_eq_getElem hlt1)
        have hx7 := hx zs7 (SqL.of h17)
        rw [h3] at hx7
        cases hx7
        intro s H0 C cl fp
        refine turn1 j es[j] acc7 w7 (List.getElem?_eq_getElem hlt1) pv7 s H0 C cl fp (upd F L (.lst xs7)) x (L2.wipe σ2 vs1) S7 H8 _ h4 ((hE4.mono (s5.trans (s6.trans s7))).wipe _) W7 fun δ3 w8 σ3 S8 H9 k8 s8 hE8 W8 o8 l8 => ?_
        refine ⟨?_, ?_⟩
        · rw [wipe_eq (σ1 := L2.wipe σ2 vs1) (σ2 := σ3) l8 fun j hj => o8 j fun z => hj (hsub1 j z)]
          exact wipe_eq (L2.wipe_length σ2 _) fun j hj => L2.wipe_out hj
        intro s H0 C cl fp
        refine k8 s H0 C cl fp (upd F L (.lst xs7)) σ3 S8 H9 _ hE8 W8 fun b w9 S9 H10 k9 s9 W9 => ?_
        cases b with
        | false =>
          rw [if_neg Bool.false_ne_true] at k9 ⊢
          exact ⟨acc7, w9, S9, xs7, k9, s7.trans (s8.trans s9), W9, ra7.mono (s8.trans s9)⟩
        | true =>
          rw [if_pos rfl] at k9 ⊢
          obtain ⟨hz, k9⟩ := k9
          intro s H0 C cl fp
          refine k9 s H0 C cl fp (upd F L (.lst xs7)) σ3 S9 H10 _ (hE8.mono s9) W9 exf fun d10 w10 v10 S10 H11 k10 s10 W10 r10 => ?_
          have ra10 := ra7.mono (s8.trans (s9.trans s10))
          refine ⟨xs7, (W10.frm L _ upd_same).2, by rw [ra10.length]; exact hz, acc7 ++ [d10], w10, S10, xs7 ++ [v10], k10, s7.trans (s8.trans (s9.trans s10)), ?_, ra10.app (RepL.one r10)⟩
          have W11 := W10.putF (o := .lst (xs7 ++ [v10])) upd_same (fun _ z => by cases z) (fun _ z => by cases z) (fun _ z => by cases z)
          rw [upd_upd] at W11
          exact W11
end
section
variable {X : Cx} {T : List (Addr × Str)} {δ : Dn} {w : Wp} {is vs : List Nat} {tg elt : Expr} {ifs : List Expr} {scope : Scope} {κ : List D → Wp → Prop} {Kp : Wp → Prop}
/-- over a list that is left as it is: item by item, nothing changes -/
theorem lcK_map {es ys : List D} (hl : ys.length = es.length) (hz : es.length < sizeLine) (kp : Kp w) (turn : ∀ (j : Nat) (e y : D), es[j]? = some e → ys[j]? = some y → TurnD X T is tg ifs elt scope (wipeD δ vs) w e true y) (k : κ ys w) : LcDK X T is tg ifs elt scope vs δ κ es Kp w := by
  refine ⟨hz, fun i acc w' => acc = ys.take i ∧ w' = w, ⟨rfl, rfl⟩, fun i acc w' ⟨_, e⟩ => by rw [e]; exact kp, ?_, fun acc w' ⟨e1, e2⟩ => by rw [e1, e2, ← hl, List.take_length]; exact k⟩
  rintro i d acc w' hd ⟨rfl, rfl⟩ s H0 C cl fp
  have li := (List.getElem?_eq_some_iff.mp hd).1
  have hy : ys[i]? = some (ys[i]'(by omega)) := List.getElem?_eq_getElem (by omega)
  intro F v σ S H Q r hE hW hK
  refine turn i d _ hd hy s H0 C cl fp F v σ S H Q r hE hW fun δ' w2 σ' S' H' k' s1 hE1 W1 o1 l1 => ?_
  refine hK δ' w2 σ' S' H' (fun s H0 C cl fp => ?_) s1 hE1 W1 o1 l1
  intro F2 σ2 S2 H2 Q2 hE2 W2 hK2
  refine k' s H0 C cl fp F2 σ2 S2 H2 Q2 hE2 W2 fun b w3 S3 H3 k3 s3 W3 => ?_
  refine hK2 b w3 S3 H3 ?_ s3 W3
  cases b with
  | true =>
    have k3' := (if_pos (c := true = true) rfl) ▸ k3
    rw [if_pos rfl]
    intro s H0 C cl fp
    refine (k3' s H0 C cl fp).imp fun y w4 ⟨_, e1, e2⟩ => ⟨?_, e2⟩
    rw [e1, List.take_add_one, hy]
    rfl
  | false => exact absurd (show true = false ∧ _ from k3).1 (by decide)
end
/-- a list of lists; each stands or is owned -/
def LL (w : Wp) (d : D) (xss : List (List D)) : Prop := ∃ es, Lk w d es ∧ es.length = xss.length ∧ ∀ (j : Nat) (e : D) (x : List D), es[j]? = some e → xss[j]? = some x → Lk w e x
theorem LL.stand {w : Wp} {xss : List (List D)} : LL w (.lst (xss.map D.lst)) xss := by
  refine ⟨xss.map D.lst, .inl rfl, List.length_map _, fun j e x h1 h2 => ?_⟩
  rw [List.getElem?_map, h2] at h1
  cases h1
  exact .inl rfl
end DL

set_option Elab.async false
set_option linter.all false
set_option maxRecDepth 100000
set_option maxHeartbeats 2000000
/-! == of lists of lists of plain data, by the mathematics' own equality. -/
namespace DL
open PySem PySem.Spec PyProof.Rows L2 LamX
structure Py {α : Type} [DecidableEq α] (f : α → D) (g : α → PyData) (ok : α → Prop) (n : Nat) : Prop where
  d : ∀ x, pyD (f x) = some (g x)
  e : ∀ x y, PyData.eqv (g x) (g y) = decide (x = y)
  l : ∀ x, ok x → PyData.canLay0 (g x) = true
  n : ∀ x, PyData.depth (g x) ≤ n
def Oc (z : Str) : Prop := ∀ c ∈ z.cps.toList, c < 200
theorem Py.int : Py I PyData.int (fun _ => True) 0 := ⟨fun _ => rfl, fun _ _ => rfl, fun _ _ => rfl, fun _ => Nat.le_refl _⟩
theorem Py.str : Py DL.T PyData.str Oc 0 := ⟨fun _ => rfl, fun _ _ => rfl, fun y h => by
  show PyData.strOk y = true
  unfold PyData.strOk
  rw [← Array.all_toList, List.all_eq_true]
  intro c hc
  exact decide_eq_true (Nat.lt_trans (h c hc) (by decide)), fun _ => Nat.le_refl _⟩
section
variable {α : Type} [DecidableEq α] {f : α → D} {g : α → PyData} {ok : α → Prop} {n : Nat}
theorem Py.eqvAll (p : Py f g ok n) : ∀ xs ys : List α, PyData.eqvAll (xs.map g) (ys.map g) = decide (xs = ys)
  | [], [] => rfl
  | [], y :: ys => rfl
  | x :: xs, [] => rfl
  | x :: xs, y :: ys => by
    show (PyData.eqv (g x) (g y) && PyData.eqvAll (xs.map g) (ys.map g)) = _
    rw [Py.eqvAll p xs ys, p.e]
    by_cases h1 : x = y
    · by_cases h2 : xs = ys
      · simp [h1, h2]
      · simp [h1, h2]
    · simp [h1]
theorem Py.layAll (p : Py f g ok n) : ∀ {xs : List α}, (∀ x ∈ xs, ok x) → PyData.canLayAll0 (xs.map g) = true
  | [], _ => rfl
  | x :: xs, h => by
    show (PyData.canLay0 (g x) && PyData.canLayAll0 (xs.map g)) = true
    rw [p.l x (h x List.mem_cons_self), Py.layAll p fun y hy => h y (List.mem_cons_of_mem _ hy)]
    rfl
theorem Py.list (p : Py f g ok n) : Py (fun xs : List α => .lst (xs.map f)) (fun xs => .list (xs.map g)) (fun xs => ∀ x ∈ xs, ok x) (n + 1) :=
  ⟨fun xs => pyD_map fun x _ => p.d x, fun xs ys => p.eqvAll xs ys, fun xs h => p.layAll h, fun xs => by
    have := depthAll_map g (n := n) (xs := xs) fun x _ => p.n x
    simp only [PyData.depth]
    omega⟩
theorem Py.shaped (p : Py f g ok n) (hn : n ≤ 60) {x : α} (h : ok x) : SeqAt.shaped (g x) = true := by
  show (PyData.canLay0 (g x) && decide (PyData.depth (g x) ≤ 64)) = true
  rw [p.l x h, decide_eq_true (by have := p.n x; omega)]
  rfl
variable {K : PySem.W.Frag} {T : List (Addr × Str)} {w : Wp} {κ : D → Wp → Prop} {x y : α}
theorem vr_eqP (p : Py f g ok n) (hn : n ≤ 60) (hx : ok x) (hy : ok y) (k : κ (B (decide (x = y))) w) : VR2 K T (rEqD K) (f x) (f y) w κ :=
  vr_eqD (p.d x) (p.d y) (p.shaped hn hx) (p.shaped hn hy) (by rw [p.e]; exact k)
theorem vr_neP (p : Py f g ok n) (hn : n ≤ 60) (hx : ok x) (hy : ok y) (k : κ (B (!decide (x = y))) w) : VR2 K T (rNeD K) (f x) (f y) w κ :=
  vr_neD (p.d x) (p.d y) (p.shaped hn hx) (p.shaped hn hy) (by rw [p.e]; exact k)
theorem vr_eqLP {xs ys : List α} (p : Py f g ok n) (hn : n + 1 ≤ 60) (hx : ∀ x ∈ xs, ok x) (hy : ∀ x ∈ ys, ok x) (k : κ (B (decide (xs = ys))) w) : VR2 K T (rEqD K) (.lst (xs.map f)) (.lst (ys.map f)) w κ := by
  have h := vr_eqP (K := K) (T := T) (w := w) (κ := κ) (x := xs) (y := ys) p.list hn hx hy k
  exact h
theorem vr_neLP {xs ys : List α} (p : Py f g ok n) (hn : n + 1 ≤ 60) (hx : ∀ x ∈ xs, ok x) (hy : ∀ x ∈ ys, ok x) (k : κ (B (!decide (xs = ys))) w) : VR2 K T (rNeD K) (.lst (xs.map f)) (.lst (ys.map f)) w κ := by
  have h := vr_neP (K := K) (T := T) (w := w) (κ := κ) (x := xs) (y := ys) p.list hn hx hy k
  exact h
end
/-- lists of lists -/
def lstI (xs : List Int) : D := .lst (xs.map I)
def lstT (xs : List Str) : D := .lst (xs.map DL.T)
theorem pyI1 : Py lstI (fun ys => .list (ys.map PyData.int)) (fun xs => ∀ x ∈ xs, True) 1 := Py.int.list
theorem pyT1 : Py lstT (fun ys => .list (ys.map PyData.str)) (fun xs => ∀ x ∈ xs, Oc x) 1 := Py.str.list
theorem pyII : Py (fun xs : List (List Int) => .lst (xs.map lstI)) (fun xs => .list (xs.map fun ys => .list (ys.map PyData.int))) (fun xs => ∀ x ∈ xs, ∀ y ∈ x, True) 2 := Py.int.list.list
theorem pyTT : Py (fun xs : List (List Str) => .lst (xs.map lstT)) (fun xs => .list (xs.map fun ys => .list (ys.map PyData.str))) (fun xs => ∀ x ∈ xs, ∀ y ∈ x, Oc y) 2 := Py.str.list.list
end DL

set_option Elab.async false
set_option linter.all false
/-! Sorted lists of texts: one list only. -/
namespace DL
open PySem PySem.Spec PyProof.Rows L2 LamX
theorem ltCps_iff : ∀ {a b : List Nat}, ltCps a b = true ↔ a < b
  | [], [] => by simp [ltCps]
  | [], _ :: _ => by simp [ltCps]
  | _ :: _, [] => by simp [ltCps]
  | x :: a, y :: b => by
    show (decide (x < y) || (x == y && ltCps a b)) = true ↔ _
    rw [List.cons_lt_cons_iff, Bool.or_eq_true, Bool.and_eq_true, decide_eq_true_eq, beq_iff_eq, ltCps_iff (a := a) (b := b)]
theorem ltCps_not {a b : List Nat} : (!ltCps b a) = true ↔ a ≤ b := by
  rw [Bool.not_eq_true', ← Bool.not_eq_true, ltCps_iff, List.not_lt]
theorem rising_le : ∀ {x : Str} {l : List Str}, risingS x l = true → ∀ y ∈ l, x.cps.toList ≤ y.cps.toList
  | x, [], h, y, hy => by cases hy
  | x, z :: l, h, y, hy => by
    have h' : (!ltCps z.cps.toList x.cps.toList && risingS z l) = true := h
    rw [Bool.and_eq_true, ltCps_not] at h'
    rcases List.mem_cons.mp hy with rfl | q
    · exact h'.1
    · exact List.le_trans h'.1 (rising_le h'.2 y q)
theorem rising_tail {x : Str} {l : List Str} (h : risingS x l = true) : sortedS l = true := by
  cases l with
  | nil => rfl
  | cons y l =>
    have h' : (!ltCps y.cps.toList x.cps.toList && risingS y l) = true := h
    exact (Bool.and_eq_true _ _ ▸ h').2
theorem sorted_one : ∀ {xs ys : List Str}, xs.Perm ys → sortedS xs = true → sortedS ys = true → xs = ys
  | [], ys, p, _, _ => (List.nil_perm.mp p).symm
  | x :: xs, [], p, _, _ => by
    have := p.length_eq
    cases this
  | x :: xs, y :: ys, p, h1, h2 => by
    have e : x = y := by
      have hx : x ∈ y :: ys := p.mem_iff.mp List.mem_cons_self
      have hy : y ∈ x :: xs := p.mem_iff.mpr List.mem_cons_self
      rcases List.mem_cons.mp hx with q | q
      · exact q
      rcases List.mem_cons.mp hy with q2 | q2
      · exact q2.symm
      have l1 := rising_le (show risingS y ys = true from h2) x q
      have l2 := rising_le (show risingS x xs = true from h1) y q2
      have e : x.cps.toList = y.cps.toList := List.le_antisymm l2 l1
      cases x
      cases y
      simp only [Str.mk.injEq]
      exact Array.toList_inj.mp e
    subst e
    rw [sorted_one (List.perm_cons x |>.mp p) (rising_tail h1) (rising_tail h2)]
theorem sorted_of : ∀ {l : List Str}, l.Pairwise (fun a b => a.cps.toList ≤ b.cps.toList) → sortedS l = true
  | [], _ => rfl
  | x :: l, h => by
    have go : ∀ (x : Str) (l : List Str), (x :: l).Pairwise (fun a b => a.cps.toList ≤ b.cps.toList) → risingS x l = true := by
      intro x l
      induction l generalizing x with
      | nil => intro _; rfl
      | cons y l ih =>
        intro h
        obtain ⟨h1, h2⟩ := List.pairwise_cons.mp h
        show (!ltCps y.cps.toList x.cps.toList && risingS y l) = true
        rw [Bool.and_eq_true, ltCps_not]
        exact ⟨h1 y List.mem_cons_self, ih y h2⟩
    exact go x l h
/-- a list without doubles with the same members is a rearrangement -/
theorem perm_of_mem {xs ys : List Str} (h1 : xs.Nodup) (h2 : ys.Nodup) (h : ∀ z, z ∈ xs ↔ z ∈ ys) : xs.Perm ys := (List.perm_ext_iff_of_nodup h1 h2).mpr h
end DL

set_option Elab.async false
set_option linter.all false
set_option maxRecDepth 100000
set_option maxHeartbeats 2000000
/-! len(set(e)), list(text). -/
namespace DL
open PySem PySem.Spec PyProof.Rows L2 LamX
section
variable {X : Cx}
def rLenT (w : PySem.World) : List V → Hp → VK → Prop := fun vs H Q => ∃ (a : Addr) (zs : List Str), vs = [V.ref a] ∧ H a = some (SetTO w a zs) ∧ zs.length ≤ 1000 ∧ Q (.int zs.length) H
theorem cr_lenT : CallR X (.builtin "len") (rLenT X.w) := by
  intro pins s σ H vs us Q I r h
  obtain ⟨a, zs, rfl, ha, hz, q⟩ := h
  obtain ⟨o, es, ep, t, ho, hx, hd, _, hp, _, _, hf, _⟩ := tsetO_get I ha
  rw [Vals.ref1 r]
  have hn : es.size = zs.length := by
    have e := hp.length_eq
    rw [List.length_map, Array.length_toList] at e
    exact e
  exact call_len_set ho hx hd hf (by rw [hn]; omega) ⟨.int zs.length, H, I.tok _, ⟨_, by rw [hn]⟩, q⟩
def rListS : List V → Hp → VK → Prop := fun vs H Q => ∃ x : Str, vs = [.str x] ∧ x.length ≤ sizeLine ∧ ∀ l, H l = none → Q (.ref l) (upd H l (.lst ((chars x).map V.str)))
theorem cr_listS (hc : X.calm = true) : CallR X (.type "list") rListS := by
  intro pins s σ H vs us Q I r h
  obtain ⟨x, rfl, hz, q⟩ := h
  obtain ⟨u, rfl, t, rfl⟩ := r.one
  have mk : ∀ (l : List Nat) (vs : List Value), vs.length = l.length → (∀ (j : Nat) (v : Value), vs[j]? = some v → ∃ (c : Nat) (u : Tok), l[j]? = some c ∧ v = Value.str ⟨#[c]⟩ u) → Vals ((l.map fun c => (⟨#[c]⟩ : Str)).map V.str) vs := by
    intro l
    induction l with
    | nil =>
      intro vs hl _
      cases vs with
      | nil => exact .nil
      | cons v vs => cases hl
    | cons c l ih =>
      intro vs hl h
      cases vs with
      | nil => cases hl
      | cons v vs =>
        refine .cons ?_ (ih vs (Nat.succ.inj hl) fun j v' e => h (j + 1) v' e)
        obtain ⟨c', u, e1, rfl⟩ := h 0 v rfl
        cases e1
        exact ⟨u, rfl⟩
  refine call_list_str (I.ok.hd hc) x t (fun h' tk acc c kp ha hi => ?_) hz
  have new : H s.heap.objs.size = none := I.hok.fresh (Nat.le_refl _)
  have vv : Vals ((chars x).map V.str) acc.toList := by
    refine mk _ _ (by rw [Array.length_toList, hi.1, Array.length_toList]) fun j v e => ?_
    obtain ⟨c, u, e1, e2⟩ := hi.2 j v (by rw [← Array.getElem?_toList]; exact e)
    exact ⟨c, u, by rw [Array.getElem?_toList]; exact e1, e2⟩
  have lz : ((chars x).map V.str).length ≤ sizeLine := by
    unfold chars
    rw [List.length_map, List.length_map, Array.length_toList]
    exact hz
  exact ⟨.ref s.heap.objs.size, _, I.laid (t' := tk) kp (Nat.le_refl _) (show ObjOk X.prog X.w _ h' _ (.lst ((chars x).map V.str)) from ⟨lz, acc.toList, c, vv, ha⟩), rfl, q _ new⟩
end
section
variable {X : Cx} {T : List (Addr × Str)} {W : WX} {χ : XD} {δ : Dn} {w : Wp} {pos : Pos}
theorem va_listTxt {K : PySem.W.Frag} {x : Str} {κ : D → Wp → Prop} (hz : x.length ≤ sizeLine) (k : κ (.lst ((chars x).map DL.T)) w) : VRA K T rListS [DL.T x] w κ := fun F S H xs Q hW r hK => by
  obtain ⟨y, ys, rfl, h1, h2⟩ := r
  have h1' : y = .str x := h1
  have h2' : ys = [] := h2
  subst h1' h2'
  refine ⟨x, rfl, hz, fun l nl => ?_⟩
  have s1 : Same S (upd S l (.lst ((chars x).map V.str))) := same_upd (hW.free nl).1
  exact hK _ w _ _ _ k s1 (hW.laid nl fun _ z => by cases z) ⟨l, _, rfl, upd_same, rep_txts _⟩
/-- len(set(e)) of a list of texts -/
theorem pd_lenSetT {e : Expr} {p p2 pos2 : Pos} {κ : D → Wp → Prop} (hc : X.calm = true) (hmS : X.mg "len" = none) (hmT : X.mg "set" = none)
    (h : PD X T W χ e δ w fun d w1 => ∃ us : List Str, Lk w1 d (us.map DL.T) ∧ us.length ≤ 900 ∧ κ (I ((gather [] us).length : Int)) w1)
    (hg1 : Gl X "len" := by rfl) (hg2 : Gl X "set" := by rfl) (na : starEach [e] X.env = (false, eval e X.env) :: starEach [] X.env := by rfl)
    (nb : starEach [.Call (.Name "set" p2) [e] [] pos2] X.env = (false, eval (.Call (.Name "set" p2) [e] [] pos2) X.env) :: starEach [] X.env := by rfl) :
    PD X T W χ (.Call (.Name "len" p) [.Call (.Name "set" p2) [e] [] pos2] [] pos) δ w κ := fun F σ S H Q hE hW hX hK => by
  refine wp_pe (pe_callB cr_lenT hg1 hmS PySem.boot_len (pa_cons (pe_callTy (cr_setT hc) hg2 hmT bt_set (pa_cons (pe_wp e) pa_nil na) (by decide) (by decide) na) pa_nil nb) (by decide) (by decide) nb) ?_
  refine h F σ S H _ hE hW hX fun d w1 v S1 H1 k s1 W1 r => ?_
  obtain ⟨us, lk, hz, k⟩ := k
  obtain ⟨a, xs, rfl, h1, h2⟩ := lk.at_ W1 r
  have e2 : us.map DL.T = (us.map V.str).map D.val := by
    rw [List.map_map]
    rfl
  rw [e2] at h2
  have e3 := h2.vals
  subst e3
  have gl := gather_len us []
  rw [List.length_nil, Nat.zero_add] at gl
  refine ⟨us, .inr ⟨a, rfl, SqL.of h1⟩, by omega, fun q hq => ?_⟩
  exact ⟨q, gather [] us, rfl, upd_same, by omega, hK _ w1 _ _ _ k s1 (W1.junk hq) rfl⟩
end
/-- how many a set keeps -/
theorem gather_full : ∀ (us zs : List Str), (zs ++ us).Nodup → (gather zs us).length = zs.length + us.length
  | [], zs, _ => rfl
  | u :: us, zs, h => by
    have nu : u ∉ zs := fun z => (List.nodup_append.mp h).2.2 u z u List.mem_cons_self rfl
    show (gather (withT zs u) us).length = _
    have e : withT zs u = u :: zs := if_neg nu
    rw [e, gather_full us (u :: zs)]
    · show zs.length + 1 + us.length = zs.length + (us.length + 1)
      omega
    · have p : (u :: zs ++ us).Perm (zs ++ u :: us) := by
        rw [List.cons_append]
        exact List.perm_middle.symm
      exact p.nodup_iff.mpr h
theorem gather_less : ∀ (us zs : List Str), zs.Nodup → ¬ (zs ++ us).Nodup → (gather zs us).length < zs.length + us.length
  | [], zs, h1, h2 => by
    rw [List.append_nil] at h2
    exact absurd h1 h2
  | u :: us, zs, h1, h2 => by
    show (gather (withT zs u) us).length < _
    by_cases m : u ∈ zs
    · have e : withT zs u = zs := if_pos m
      rw [e]
      have := gather_len us zs
      show _ < zs.length + (us.length + 1)
      omega
    · have e : withT zs u = u :: zs := if_neg m
      rw [e]
      have := gather_less us (u :: zs) (List.nodup_cons.mpr ⟨m, h1⟩) fun z => h2 (by
        have p : (u :: zs ++ us).Perm (zs ++ u :: us) := by
          rw [List.cons_append]
          exact List.perm_middle.symm
        exact p.nodup_iff.mp z)
      have e2 : (u :: zs).length = zs.length + 1 := rfl
      rw [e2] at this
      show _ < zs.length + (us.length + 1)
      omega
theorem gather_dec (us : List Str) : decide (((gather [] us).length : Int) < (us.length : Int)) = !decide us.Nodup := by
  by_cases h : us.Nodup
  · have e := gather_full us [] h
    rw [decide_eq_true h, decide_eq_false (by rw [e, List.length_nil]; omega)]
    rfl
  · have e := gather_less us [] List.nodup_nil h
    rw [List.length_nil] at e
    rw [decide_eq_false h, decide_eq_true (by omega)]
    rfl
end DL

set_option Elab.async false
set_option linter.all false
set_option maxRecDepth 100000
set_option maxHeartbeats 4000000
/-! k35: check_row, _check_machine. -/
namespace Tw
open PySem PySem.Spec PyProof.Rows L2 LamX DL
abbrev sCkRow : Stmt := top 7
abbrev sCkM : Stmt := top 10
/-- where the first sign stands that is none of sg -/
def spCkRow (CU : Addr) : SpD := fun ds w κ χ => ∃ row sg : Str, ds = [DL.T row, DL.T sg] ∧ row.length ≤ 900 ∧ Oc row ∧ ((∀ c ∈ cl row, c ∈ cl sg) → κ N w) ∧
  ∀ (i c : Nat), (cl row)[i]? = some c → c ∉ cl sg → (∀ (j d : Nat), j < i → (cl row)[j]? = some d → d ∈ cl sg) → χ CU ["place", "sign"] [I (i : Int), DL.T (letS c)] w
theorem vr_ninSg {K : PySem.W.Frag} {T : List (Addr × Str)} {w : Wp} {κ : D → Wp → Prop} {c : Nat} {z : Str} (k : κ (B (!decide (c ∈ z.cps.toList))) w) : VR2 K T (fun x y H Q => ∃ (c : Nat) (z : Str), x = .str ⟨#[c]⟩ ∧ y = .str z ∧ Q (.bl (!decide (c ∈ z.cps.toList))) H) (DL.T ⟨#[c]⟩) (DL.T z) w κ := fun F S H x y Q hW r1 r2 hK =>
  ⟨c, z, r1, r2, hK _ w _ S H k (Same.refl _) hW rfl⟩
section
variable {P : Program} {w : PySem.World} {K : PySem.W.Frag} {mg : Str → Option Value} {base : Heap} {T : List (Addr × Str)} {CU CB : Addr}
theorem scCkRow : FnScope ["row", "signs", "place", "sign"] ["row", "signs"] (defScope sCkRow) := ⟨rfl, rfl, rfl, by decide +kernel, rfl, by decide +kernel, by decide +kernel⟩
theorem okc_let {row : Str} (h : Oc row) {c : Nat} (hc : c ∈ cl row) : Okc (letS c) := ⟨by show 1 ≤ 1000; decide, fun d hd => by
  have e : d = c := by simpa using hd
  rw [e]
  exact h c hc⟩
theorem ok_ckrow {f : Addr} {fd : FuncData} (G : Fun K "check_row" "check_row" sCkRow f fd) (hEn : mg "enumerate" = none) (hE : HasED P w K mg base "UnknownDeed" CU 1) : FnOk P w K mg base (L2N.CX P w) 3 f fd ["row", "signs"] (spOf K T (spCkRow CU)) := by
  refine fnXN G scCkRow (fun ds w κ χ h => ?_) (fun cdv A outer s H E ds w0 κ χ hr h => ?_)
  · obtain ⟨row, sg, rfl, _⟩ := h
    rfl
  obtain ⟨row, sg, rfl, rl, oc, k1, k2⟩ := h
  have nd := scCkRow.nd
  refine pssd_one (psd_for (passes_of rfl) rfl ?_)
  refine it_enumS hEn ?_
  refine pd_var (i := 0) rfl rfl ?_
  refine ⟨_, .s row, ?_⟩
  refine ⟨fun i δ' w' => ∃ x2 x3 : Option D, δ' = [some (DL.T row), some (DL.T sg), x2, x3] ∧ w' = w0 ∧ ∀ (j d : Nat), j < i → (cl row)[j]? = some d → d ∈ cl sg, ⟨none, none, rfl, rfl, fun j d h => (by omega)⟩, ?_, ?_⟩
  · rintro i d δ' w' hd ⟨x2, x3, rfl, rfl, hin⟩
    obtain ⟨e, he, rfl⟩ := pairs_at hd
    rw [List.getElem?_map] at he
    cases ec : (cl row)[i]? with
    | none =>
      rw [show row.cps.toList[i]? = none from ec] at he
      cases he
    | some c =>
      rw [show row.cps.toList[i]? = some c from ec] at he
      cases he
      refine PGL.pgd (pgl_two (i := 2) (j := 3) rfl ?_)
      refine pgl_name (i := 2) nd rfl ?_
      refine pgl_name (i := 3) nd rfl ?_
      refine pssd_one (psd_if ?_)
      refine ptd_cmp op_notIn_sign ?_
      refine pd_var (i := 3) rfl rfl ?_
      refine pd_var (i := 1) rfl rfl ?_
      refine vr_ninSg ⟨_, rfl, ?_⟩
      refine ite2 (fun c1 => ?_) (fun c1 => ?_)
      · have hn : c ∉ cl sg := by simpa using c1
        refine pssd_one (psd_raiseD rfl takesX hE hr ?_)
        refine pd_var (i := 3) rfl rfl ?_
        refine pd_var (i := 2) rfl rfl ?_
        have li := (List.getElem?_eq_some_iff.mp ec).1
        rw [show (cl row).length = row.length from Array.length_toList] at li
        exact ⟨letS c, i, rfl, rfl, okc_let oc (List.mem_of_getElem? ec), log_of (Nat.lt_of_lt_of_le (by omega : _ < 2000) (by decide)), k2 i c ec hn hin⟩
      · have hc : c ∈ cl sg := by simpa using c1
        refine pssd_nil ⟨_, _, rfl, rfl, fun j d hj hd2 => ?_⟩
        by_cases e : j = i
        · subst e
          rw [ec] at hd2
          cases hd2
          exact hc
        · exact hin j d (by omega) hd2
  · rintro δ' w' ⟨x2, x3, rfl, rfl, hin⟩
    rw [DL.pairs_len, List.length_map] at hin
    refine k1 fun c hc => ?_
    obtain ⟨j, hj⟩ := List.getElem?_of_mem hc
    exact hin j c (List.getElem?_eq_some_iff.mp hj).1 hj
end
/-! ### _check_machine -/
def signsB (sg : Str) : Bool := (cl sg).all isSg && decide ((cl sg).Pairwise (· < ·))
def lensB (n : Nat) {α : Type} (xs : List (List α)) : Bool := !(xs.any fun x => !decide (x.length = n))
def gosB (m : Nat) (st : List (List Int)) : Bool := !(st.flatten.any fun s => decide (s < 0) || decide (s ≥ (m : Int)))
def faultM (sg : Str) (st : List (List Int)) (wo : List (List Str)) (f : Int) : Option Str :=
  if signsB sg = true then if (!decide (st.length = 0) && lensB sg.length st && gosB st.length st) = true then if (decide (wo.length = st.length) && lensB sg.length wo) = true then if (decide (f < 0) || decide (f ≥ (st.length : Int))) = true then some ("first" : Str) else none else some ("words" : Str) else some ("steps" : Str) else some ("signs" : Str)
def spCkM (CB : Addr) : SpD := fun ds w κ χ => ∃ (sg : Str) (dS dW : D) (f : Int) (st : List (List Int)) (wo : List (List Str)), ds = [DL.T sg, dS, dW, I f] ∧ LL w dS (st.map fun x => x.map I) ∧ LL w dW (wo.map fun x => x.map DL.T) ∧ sg.length ≤ 60 ∧ st.length ≤ 900 ∧ wo.length ≤ 900 ∧ (∀ x ∈ st, x.length ≤ 900) ∧ (∀ x ∈ wo, x.length ≤ 900) ∧ Oc sg ∧
  (faultM sg st wo f = none → κ N w) ∧ ∀ x, faultM sg st wo f = some x → χ CB ["part"] [DL.T x] w
theorem bt_anyB : bootBuiltins "any" = some (.builtin "any") := by decide +kernel
structure Nm35 (mg : Str → Option Value) : Prop where
  len : mg "len" = none
  list : mg "list" = none
  set : mg "set" = none
  sorted : mg "sorted" = none
  all : mg "all" = none
  any : mg "any" = none
  isinstance : mg "isinstance" = none
  range : mg "range" = none
  repr : mg "repr" = none
  enumerate : mg "enumerate" = none
  zip : mg "zip" = none
  int : mg "int" = none
  abs : mg "abs" = none
  sum : mg "sum" = none
theorem LL_get {α : Type} {w : Wp} {d : D} {g : α → List D} {xs : List α} (l : LL w d (xs.map g)) : ∃ es, Lk w d es ∧ es.length = xs.length ∧ ∀ (j : Nat) (e : D) (x : α), es[j]? = some e → xs[j]? = some x → Lk w e (g x) := by
  obtain ⟨es, h1, h2, h3⟩ := l
  refine ⟨es, h1, by rw [h2, List.length_map], fun j e x he hx => h3 j e (g x) he ?_⟩
  rw [List.getElem?_map, hx]
  rfl
theorem sorted_chars : ∀ {l : List Nat}, sortedS (l.map fun c => (⟨#[c]⟩ : Str)) = true → l.Pairwise (· ≤ ·)
  | [], _ => .nil
  | x :: l, h => by
    have r := rising_le (show risingS ⟨#[x]⟩ (l.map fun c => (⟨#[c]⟩ : Str)) = true from h)
    refine List.pairwise_cons.mpr ⟨fun y hy => ?_, sorted_chars (rising_tail h)⟩
    have := r ⟨#[y]⟩ (List.mem_map.mpr ⟨y, hy, rfl⟩)
    have e : ([x] : List Nat) ≤ [y] := this
    by_cases q : x ≤ y
    · exact q
    · exfalso
      have lt : ([y] : List Nat) < [x] := by rw [List.cons_lt_cons_iff]; exact .inl (by omega)
      exact (List.not_lt.mpr e) lt
theorem chars_inj : ∀ {l : List Nat}, (l.map fun c => (⟨#[c]⟩ : Str)).Nodup ↔ l.Nodup
  | [] => by simp
  | x :: l => by
    rw [List.map_cons, List.nodup_cons, List.nodup_cons, chars_inj]
    have e : (⟨#[x]⟩ : Str) ∈ l.map (fun c => (⟨#[c]⟩ : Str)) ↔ x ∈ l := by
      rw [List.mem_map]
      constructor
      · rintro ⟨y, hy, e⟩
        have : y = x := by simpa using congrArg (fun s : Str => s.cps.toList) e
        rw [← this]
        exact hy
      · intro h
        exact ⟨x, h, rfl⟩
    rw [e]
theorem sort_dec {sg : Str} {ys : List Str} (p : ys.Perm (gather [] (chars sg))) (s : sortedS ys = true) : decide (chars sg = ys) = decide ((cl sg).Pairwise (· < ·)) := by
  have nd : ys.Nodup := p.nodup_iff.mpr (gather_nodup _ _ List.nodup_nil)
  refine decide_eq_decide.mpr ⟨fun e => ?_, fun h => ?_⟩
  · rw [← e] at nd s
    have h1 : (cl sg).Pairwise (· ≤ ·) := sorted_chars s
    have h2 : (cl sg).Nodup := chars_inj.mp nd
    exact (h1.and h2).imp fun {a b} ⟨q1, q2⟩ => by omega
  · have n2 : (chars sg).Nodup := chars_inj.mpr (h.imp fun {a b} q => by omega)
    refine sorted_one (perm_of_mem n2 nd fun z => ?_) (sorted_of ?_) s
    · rw [p.mem_iff, gather_mem]
      simp
    · unfold chars
      rw [List.pairwise_map]
      refine h.imp fun {a b} q => ?_
      show ([a] : List Nat) ≤ [b]
      refine List.not_lt.mp fun z => ?_
      rw [List.cons_lt_cons_iff] at z
      rcases z with z | z
      · omega
      · exact absurd z.2 (by simp)
theorem flat_len {α : Type} {m : Nat} : ∀ {xs : List (List α)}, (∀ x ∈ xs, x.length ≤ m) → xs.flatten.length ≤ xs.length * m
  | [], _ => by simp
  | x :: xs, h => by
    have h1 := h x List.mem_cons_self
    have h2 := flat_len (xs := xs) fun y hy => h y (List.mem_cons_of_mem _ hy)
    rw [List.flatten_cons, List.length_append, List.length_cons, Nat.add_mul, Nat.one_mul]
    omega
theorem gather_le (us : List Str) : (gather [] us).length ≤ us.length := by
  have h : ∀ (us zs : List Str), (gather zs us).length ≤ zs.length + us.length := by
    intro us
    induction us with
    | nil => intro zs; exact Nat.le_refl _
    | cons u us ih =>
      intro zs
      have h1 := ih (withT zs u)
      have h2 : (withT zs u).length ≤ zs.length + 1 := by
        unfold withT
        split <;> simp
      show (gather (withT zs u) us).length ≤ _
      rw [List.length_cons]
      omega
  have := h us []
  simpa using this
theorem okc_part : ∀ x ∈ ([("signs" : Str), ("steps" : Str), ("words" : Str), ("first" : Str)] : List Str), Okc x := by
  intro x hx
  have key : ∀ x ∈ ([("signs" : Str), ("steps" : Str), ("words" : Str), ("first" : Str)] : List Str), x.length ≤ 1000 ∧ ∀ c ∈ x.cps.toList, c < 200 := by decide +kernel
  exact key x hx
section
variable {P : Program} {w : PySem.World} {K : PySem.W.Frag} {mg : Str → Option Value} {base : Heap} {T : List (Addr × Str)} {CU CB : Addr}
def NCkM : List Str := ["signs", "steps", "words", "first", "sign", "following", "state", "told"]
theorem scCkM : FnScope NCkM ["signs", "steps", "words", "first"] (defScope sCkM) := ⟨rfl, rfl, rfl, by decide +kernel, rfl, by decide +kernel, by decide +kernel⟩
theorem ok_ckm {f : Addr} {fd : FuncData} (G : Fun K "_check_machine" "_check_machine" sCkM f fd) (hm : Nm35 mg) (hI : HasF P w K mg base T CX0 "is_sign" 1 ["text"] spIsSg) (hE : HasET P w K mg base "BadMachine" CB 1 "part") : FnOk P w K mg base (L2N.CX P w) 3 f fd ["signs", "steps", "words", "first"] (spOf K T (spCkM CB)) := by
  refine fnXN G scCkM (fun ds w κ χ h => ?_) (fun cdv A outer s H E ds w0 κ χ hr h => ?_)
  · obtain ⟨sg, dS, dW, fi, st, wo, rfl, _⟩ := h
    rfl
  obtain ⟨sg, dS, dW, fi, st, wo, rfl, lS, lW, sl, stl, wol, stn, won, oc, k1, k2⟩ := h
  obtain ⟨es, lk, le, lx⟩ := LL_get lS
  obtain ⟨fs, lkw, lef, lxw⟩ := LL_get lW
  have nd := scCkM.nd
  have ll : (cl sg).length = sg.length := Array.length_toList
  have raise : ∀ (x : Str) (C : DL.Fin) (δ : Dn) (p1 p2 p3 p4 : Pos) (j : Nat), x ∈ ([("signs" : Str), ("steps" : Str), ("words" : Str), ("first" : Str)] : List Str) → faultM sg st wo fi = some x → PSsD (cxOf (L2N.CX P w) P w K mg base NCkM "_check_machine" (defScope sCkM) f cdv A outer s H E) T (fun cls d _ H => E cls d H) χ [.Raise (some (.Call (.Name "BadMachine" p1) [.Constant (.str x) j p2] [] p3)) none p4] δ w0 C := by
    intro x C δ p1 p2 p3 p4 j hx hf
    refine pssd_one (psd_raiseT rfl takesX hE hr ?_)
    refine pd_str ?_
    exact ⟨x, rfl, okc_part x hx, k2 x hf⟩
  -- signs
  refine pssd_cons (psd_if ?_)
  refine pwd_pt ?_
  refine pwd_or ?_
  refine ptd_not ?_
  refine ptd_val ?_
  refine pd_callB (cr_all rfl) rfl hm.all bt_all ?_
  refine pad_cons ?_
  refine pd_lc (own := [("sign", 4)]) (is := [4]) rfl nd (blkOk_by rfl) (by decide) ?_
  refine it_str ?_
  refine pd_var (i := 0) rfl rfl ?_
  refine ⟨sg, rfl, ?_⟩
  refine lcd_map (xs := cl sg) (g := fun c => DL.T (letS c)) (fun c => B (isSg c)) (by rw [sizeLine_eq]; omega) (fun c hc s2 H0 C1 cl1 fp1 => ?_) ?_
  · refine pgl_name (i := 4) nd rfl ?_
    intro s3 H0 C1 cl1 fp1
    refine ptsd_nil ?_
    intro s3 H0 C1 cl1 fp1
    refine pd_has hI (hr.mono (by decide)) (fun _ => pass0At) ?_
    (refine pad_cons ?_; refine pd_var (i := 4) rfl rfl ?_)
    refine pad_nil ?_
    exact ⟨c, rfl, rfl, rfl, rfl⟩
  refine pad_nil ?_
  have em : (cl sg).map (fun c => B (isSg c)) = ((cl sg).map isSg).map B := by
    rw [List.map_map]
    rfl
  rw [em]
  refine va_all ?_
  have ea : ((cl sg).map isSg).all id = (cl sg).all isSg := by rw [List.all_map]; rfl
  rw [ea]
  refine ⟨_, rfl, ?_⟩
  by_cases b1 : (cl sg).all isSg = true
  case neg =>
    have b1' := Bool.eq_false_iff.mpr b1
    rw [b1']
    refine iteT ?_
    refine iteT ?_
    refine raise "signs" _ _ _ _ _ _ _ (by simp) ?_
    unfold faultM signsB
    rw [b1']
    rfl
  rw [b1]
  refine iteF ?_
  refine pwd_or1 ?_
  refine ptd_cmp (op_neD hr.units) ?_
  refine pd_callTy (cr_listS rfl) rfl hm.list bt_listC ?_
  (refine pad_cons ?_; refine pd_var (i := 0) rfl rfl ?_)
  refine pad_nil ?_
  refine va_listTxt (by rw [sizeLine_eq]; omega) ?_
  refine pd_sortSetT rfl hm.sorted hm.set ?_
  refine pd_var (i := 0) rfl rfl ?_
  have cl8 : (chars sg).length = sg.length := by unfold chars; rw [List.length_map, ll]
  have gl : (gather [] (chars sg)).length ≤ (chars sg).length := gather_le _
  refine ⟨chars sg, .inl ⟨sg, rfl, rfl⟩, by omega, by omega, fun ys yp ysr => ?_⟩
  have ocs : ∀ z ∈ chars sg, Oc z := fun z hz d hd => by
    obtain ⟨c, hc, rfl⟩ := List.mem_map.mp hz
    have e : d = c := by simpa using hd
    rw [e]
    exact oc c hc
  have ocy : ∀ z ∈ ys, Oc z := fun z hz => ocs z (by
    have := yp.mem_iff.mp hz
    rw [gather_mem] at this
    simpa using this)
  refine vr_neLP Py.str (by decide) ocs ocy ?_
  rw [sort_dec yp ysr]
  refine ⟨_, rfl, ?_⟩
  by_cases b2 : decide ((cl sg).Pairwise (· < ·)) = true
  case neg =>
    have b2' := Bool.eq_false_iff.mpr b2
    rw [b2']
    refine iteT ?_
    refine raise "signs" _ _ _ _ _ _ _ (by simp) ?_
    unfold faultM signsB
    rw [b1, b2']
    rfl
  rw [b2]
  refine iteF ?_
  refine pssd_nil ?_
  have sB : signsB sg = true := by
    unfold signsB
    rw [b1, b2]
    rfl
  have f1 : faultM sg st wo fi = if (!decide (st.length = 0) && lensB sg.length st && gosB st.length st) = true then if (decide (wo.length = st.length) && lensB sg.length wo) = true then if (decide (fi < 0) || decide (fi ≥ (st.length : Int))) = true then some ("first" : Str) else none else some ("words" : Str) else some ("steps" : Str) := by
    unfold faultM
    rw [if_pos sB]
  -- steps
  refine pssd_cons (psd_if ?_)
  refine pwd_pt ?_
  refine pwd_or ?_
  refine ptd_cmp op_eq ?_
  refine pd_callB call_len_seq rfl hm.len PySem.boot_len ?_
  (refine pad_cons ?_; refine pd_var (i := 1) rfl rfl ?_)
  refine pad_nil ?_
  refine va_lenK lk ?_
  refine pd_int ?_
  refine vr_eq rfl ⟨_, rfl, ?_⟩
  have ez : decide (V.int (es.length : Int) = V.int 0) = decide (st.length = 0) := by
    rw [le]
    exact int_eq_dec (b := 0)
  rw [ez]
  by_cases b3 : st.length = 0
  case pos =>
    rw [decide_eq_true b3]
    refine iteT ?_
    refine iteT ?_
    refine raise "steps" _ _ _ _ _ _ _ (by simp) ?_
    rw [f1, decide_eq_true b3]
    rfl
  rw [decide_eq_false b3]
  refine iteF ?_
  refine pwd_or1 ?_
  refine ptd_val ?_
  refine pd_callB (cr_any rfl) rfl hm.any bt_anyB ?_
  refine pad_cons ?_
  refine pd_lcK (Kp := fun w2 => Lk w2 dS es) (own := [("following", 5)]) (is := [5]) rfl nd (blkOk_by rfl) (by decide) ?_
  refine it_lkD (dd := dS) (es := es) ?_
  refine pd_var (i := 1) rfl rfl ?_
  refine ⟨rfl, lk, ?_⟩
  refine lcK_map (ys := st.map fun x => B (!decide (x.length = sg.length))) (by rw [List.length_map, le]) (by rw [sizeLine_eq]; omega) lk (fun j e y he hy s2 H0 C1 cl1 fp1 => ?_) ?_
  · rw [List.getElem?_map] at hy
    cases ex : st[j]? with
    | none =>
      rw [ex] at hy
      cases hy
    | some x =>
      rw [ex] at hy
      cases hy
      refine pgl_name (i := 5) nd rfl ?_
      intro s3 H0 C1 cl1 fp1
      refine ptsd_nil ?_
      intro s3 H0 C1 cl1 fp1
      refine pd_cmp op_ne ?_
      refine pd_callB call_len_seq rfl hm.len PySem.boot_len ?_
      (refine pad_cons ?_; refine pd_var (i := 5) rfl rfl ?_)
      refine pad_nil ?_
      refine va_lenK (lx j e x he ex) ?_
      (refine pd_callB call_len rfl hm.len PySem.boot_len ?_; (refine pad_cons ?_; refine pd_var (i := 0) rfl rfl ?_); refine pad_nil ?_; refine va_lenS (by rw [sizeLine_eq]; omega) ?_)
      refine vr_ne rfl ?_
      rw [List.length_map, int_eq_dec]
      exact ⟨rfl, rfl, rfl⟩
  refine pad_nil ?_
  have em3 : (st.map fun x => B (!decide (x.length = sg.length))) = (st.map fun x => !decide (x.length = sg.length)).map B := by
    rw [List.map_map]
    rfl
  rw [em3]
  refine va_any ?_
  have ea3 : (st.map fun x => !decide (x.length = sg.length)).any id = !lensB sg.length st := by
    unfold lensB
    rw [List.any_map, Bool.not_not]
    rfl
  rw [ea3]
  refine ⟨_, rfl, ?_⟩
  by_cases b4 : lensB sg.length st = true
  case neg =>
    have b4' := Bool.eq_false_iff.mpr b4
    rw [b4']
    refine iteT ?_
    refine raise "steps" _ _ _ _ _ _ _ (by simp) ?_
    rw [f1, b4', decide_eq_false b3]
    rfl
  rw [b4]
  refine iteF ?_
  refine pssd_nil ?_
  -- any state out of place
  refine pssd_cons (psd_if ?_)
  refine ptd_val ?_
  refine pd_callB (cr_any rfl) rfl hm.any bt_anyB ?_
  refine pad_cons ?_
  refine pd_lc2K (Kp := fun w2 => Lk w2 dS es) (own := [("following", 5), ("state", 6)]) (is := [5]) (is1 := [6]) (vs1 := [6]) rfl nd (blkOk_by rfl) (by decide) (by decide) (by decide) ?_
  refine it_lkD (dd := dS) (es := es) ?_
  refine pd_var (i := 1) rfl rfl ?_
  refine ⟨rfl, lk, ?_⟩
  let bad : Int → Bool := fun s => decide (s < 0) || decide (s ≥ (st.length : Int))
  have fl : ∀ (i : Nat) (x : List Int) (j : Nat), st[i]? = some x → ((st.take i).flatten ++ x.take j).length < sizeLine := fun i x j hx => by
    have h1 := flat_len (m := 900) (xs := st.take i) fun y hy => stn y (List.mem_of_mem_take hy)
    have h2 : (st.take i).length ≤ 900 := by rw [List.length_take]; omega
    have h3 : (x.take j).length ≤ 900 := by
      have := stn x (List.mem_of_getElem? hx)
      rw [List.length_take]
      omega
    have h4 : (st.take i).length * 900 ≤ 900 * 900 := Nat.mul_le_mul_right _ h2
    rw [List.length_append, sizeLine_eq]
    omega
  refine ⟨fun i acc w' => w0 = w' ∧ acc = ((st.take i).flatten.map bad).map B, ⟨rfl, rfl⟩, fun i acc w' h => by rw [← h.1]; exact lk, ?_, ?_⟩
  · rintro i e acc w' he ⟨rfl, rfl⟩ s2 H0 C1 cl1 fp1
    have li := (List.getElem?_eq_some_iff.mp he).1
    have ex : st[i]? = some (st[i]'(by omega)) := List.getElem?_eq_getElem (by omega)
    generalize st[i]'(by omega) = x at ex
    have tk : st.take (i + 1) = st.take i ++ [x] := by rw [List.take_add_one, ex]; rfl
    refine pgl_name (i := 5) nd rfl ?_
    intro s3 H0 C1 cl1 fp1
    refine ptsd_nil ?_
    rw [if_pos rfl]
    intro s3 H0 C1 cl1 fp1
    refine pd_var (i := 5) rfl rfl ?_
    refine ⟨x.map I, lx i e x he ex, ?_⟩
    refine ⟨fun j acc w' => w0 = w' ∧ acc = (((st.take i).flatten ++ x.take j).map bad).map B, ⟨rfl, by rw [List.take_zero, List.append_nil]⟩, fun j acc w' h => by rw [← h.1]; exact lx i e x he ex, ?_, ?_⟩
    · rintro j d acc w' hd ⟨rfl, rfl⟩ s4 H0 C1 cl1 fp1
      rw [List.getElem?_map] at hd
      cases ev : x[j]? with
      | none =>
        rw [ev] at hd
        cases hd
      | some v =>
        rw [ev] at hd
        cases hd
        refine pgl_name (i := 6) nd rfl ?_
        intro s5 H0 C1 cl1 fp1
        refine ptsd_nil ?_
        rw [if_pos rfl]
        refine ⟨by rw [List.length_map, List.length_map]; exact fl i x j ex, ?_⟩
        intro s5 H0 C1 cl1 fp1
        have fin : B (bad v) = B (bad v) ∧ ((((st.take i).flatten ++ x.take j).map bad).map B ++ [B (bad v)] = (((st.take i).flatten ++ x.take (j + 1)).map bad).map B) := by
          refine ⟨rfl, ?_⟩
          rw [List.take_add_one, ev]
          simp
        refine pd_or ?_
        refine pd_cmp op_lt ?_
        refine pd_var (i := 6) rfl rfl ?_
        refine pd_int ?_
        refine vr_I ⟨_, rfl, ?_⟩
        by_cases c0 : v < 0
        · rw [decide_eq_true c0, if_pos rfl]
          have e0 : bad v = true := by show (decide (v < 0) || _) = true; rw [decide_eq_true c0]; rfl
          rw [e0] at fin
          exact ⟨rfl, fin.2⟩
        · rw [decide_eq_false c0, if_neg Bool.false_ne_true]
          refine pd_one ?_
          refine pd_cmp op_ge ?_
          refine pd_var (i := 6) rfl rfl ?_
          refine pd_callB call_len_seq rfl hm.len PySem.boot_len ?_
          (refine pad_cons ?_; refine pd_var (i := 1) rfl rfl ?_)
          refine pad_nil ?_
          refine va_lenK lk ?_
          refine vr_I ?_
          have e0 : bad v = decide (v ≥ (es.length : Int)) := by show (decide (v < 0) || decide (v ≥ (st.length : Int))) = _; rw [decide_eq_false c0, le]; rfl
          rw [e0] at fin
          exact ⟨rfl, fin.2⟩
    · rintro acc w' ⟨rfl, rfl⟩
      refine ⟨rfl, ?_⟩
      rw [List.length_map, List.take_length, tk, List.flatten_append]
      simp
  rintro acc w' ⟨rfl, rfl⟩
  rw [le, List.take_length]
  refine pad_nil ?_
  refine va_any ?_
  have ea5 : (st.flatten.map bad).any id = !gosB st.length st := by
    unfold gosB
    rw [List.any_map, Bool.not_not]
    rfl
  rw [ea5]
  refine ⟨_, rfl, ?_⟩
  by_cases b5 : gosB st.length st = true
  case neg =>
    have b5' := Bool.eq_false_iff.mpr b5
    rw [b5']
    refine iteT ?_
    refine raise "steps" _ _ _ _ _ _ _ (by simp) ?_
    rw [f1, b5', Bool.and_false]
    rfl
  rw [b5]
  refine iteF ?_
  refine pssd_nil ?_
  have f2 : faultM sg st wo fi = if (decide (wo.length = st.length) && lensB sg.length wo) = true then if (decide (fi < 0) || decide (fi ≥ (st.length : Int))) = true then some ("first" : Str) else none else some ("words" : Str) := by
    rw [f1, b4, b5, decide_eq_false b3]
    rfl
  -- words
  refine pssd_cons (psd_if ?_)
  refine pwd_pt ?_
  refine pwd_or ?_
  refine ptd_cmp op_ne ?_
  refine pd_callB call_len_seq rfl hm.len PySem.boot_len ?_
  (refine pad_cons ?_; refine pd_var (i := 2) rfl rfl ?_)
  refine pad_nil ?_
  refine va_lenK lkw ?_
  refine pd_callB call_len_seq rfl hm.len PySem.boot_len ?_
  (refine pad_cons ?_; refine pd_var (i := 1) rfl rfl ?_)
  refine pad_nil ?_
  refine va_lenK lk ?_
  refine vr_ne rfl ⟨_, rfl, ?_⟩
  rw [int_eq_dec, lef, le]
  by_cases b6 : wo.length = st.length
  case neg =>
    rw [decide_eq_false b6]
    refine iteT ?_
    refine iteT ?_
    refine raise "words" _ _ _ _ _ _ _ (by simp) ?_
    rw [f2, decide_eq_false b6]
    rfl
  rw [decide_eq_true b6]
  refine iteF ?_
  refine pwd_or1 ?_
  refine ptd_val ?_
  refine pd_callB (cr_any rfl) rfl hm.any bt_anyB ?_
  refine pad_cons ?_
  refine pd_lcK (Kp := fun w2 => Lk w2 dW fs) (own := [("told", 7)]) (is := [7]) rfl nd (blkOk_by rfl) (by decide) ?_
  refine it_lkD (dd := dW) (es := fs) ?_
  refine pd_var (i := 2) rfl rfl ?_
  refine ⟨rfl, lkw, ?_⟩
  refine lcK_map (ys := wo.map fun x => B (!decide (x.length = sg.length))) (by rw [List.length_map, lef]) (by rw [sizeLine_eq]; omega) lkw (fun j e y he hy s2 H0 C1 cl1 fp1 => ?_) ?_
  · rw [List.getElem?_map] at hy
    cases ex : wo[j]? with
    | none =>
      rw [ex] at hy
      cases hy
    | some x =>
      rw [ex] at hy
      cases hy
      refine pgl_name (i := 7) nd rfl ?_
      intro s3 H0 C1 cl1 fp1
      refine ptsd_nil ?_
      intro s3 H0 C1 cl1 fp1
      refine pd_cmp op_ne ?_
      refine pd_callB call_len_seq rfl hm.len PySem.boot_len ?_
      (refine pad_cons ?_; refine pd_var (i := 7) rfl rfl ?_)
      refine pad_nil ?_
      refine va_lenK (lxw j e x he ex) ?_
      (refine pd_callB call_len rfl hm.len PySem.boot_len ?_; (refine pad_cons ?_; refine pd_var (i := 0) rfl rfl ?_); refine pad_nil ?_; refine va_lenS (by rw [sizeLine_eq]; omega) ?_)
      refine vr_ne rfl ?_
      rw [List.length_map, int_eq_dec]
      exact ⟨rfl, rfl, rfl⟩
  refine pad_nil ?_
  have em7 : (wo.map fun x => B (!decide (x.length = sg.length))) = (wo.map fun x => !decide (x.length = sg.length)).map B := by
    rw [List.map_map]
    rfl
  rw [em7]
  refine va_any ?_
  have ea7 : (wo.map fun x => !decide (x.length = sg.length)).any id = !lensB sg.length wo := by
    unfold lensB
    rw [List.any_map, Bool.not_not]
    rfl
  rw [ea7]
  refine ⟨_, rfl, ?_⟩
  by_cases b7 : lensB sg.length wo = true
  case neg =>
    have b7' := Bool.eq_false_iff.mpr b7
    rw [b7']
    refine iteT ?_
    refine raise "words" _ _ _ _ _ _ _ (by simp) ?_
    rw [f2, b7', Bool.and_false]
    rfl
  rw [b7]
  refine iteF ?_
  refine pssd_nil ?_
  have f3 : faultM sg st wo fi = if (decide (fi < 0) || decide (fi ≥ (st.length : Int))) = true then some ("first" : Str) else none := by
    rw [f2, b7, decide_eq_true b6]
    rfl
  -- first
  refine pssd_one (psd_if ?_)
  refine pwd_pt ?_
  refine pwd_or ?_
  refine ptd_cmp op_lt ?_
  refine pd_var (i := 3) rfl rfl ?_
  refine pd_int ?_
  refine vr_I ⟨_, rfl, ?_⟩
  by_cases b8 : fi < 0
  case pos =>
    rw [decide_eq_true b8]
    refine iteT ?_
    refine iteT ?_
    refine raise "first" _ _ _ _ _ _ _ (by simp) ?_
    rw [f3, decide_eq_true b8]
    rfl
  rw [decide_eq_false b8]
  refine iteF ?_
  refine pwd_or1 ?_
  refine ptd_cmp op_ge ?_
  refine pd_var (i := 3) rfl rfl ?_
  refine pd_callB call_len_seq rfl hm.len PySem.boot_len ?_
  (refine pad_cons ?_; refine pd_var (i := 1) rfl rfl ?_)
  refine pad_nil ?_
  refine va_lenK lk ?_
  refine vr_I ⟨_, rfl, ?_⟩
  rw [le]
  by_cases b9 : fi ≥ (st.length : Int)
  case pos =>
    rw [decide_eq_true b9]
    refine iteT ?_
    refine raise "first" _ _ _ _ _ _ _ (by simp) ?_
    rw [f3, decide_eq_false b8, decide_eq_true b9]
    rfl
  rw [decide_eq_false b9]
  refine iteF ?_
  refine pssd_nil ?_
  refine k1 ?_
  rw [f3, decide_eq_false b8, decide_eq_false b9]
  rfl
end
end Tw

set_option Elab.async false
set_option linter.all false
set_option maxRecDepth 100000
set_option maxHeartbeats 2000000
/-! C(e, .., k = e) and C(e, ..) where __init__ has keyword-only parameters; calling an instance; defs with defaults. -/
namespace DL
open PySem PySem.Spec PyProof.Rows L2 LamX
section
variable {P : Program} {w : PySem.World} {K : PySem.W.Frag} {mg : Str → Option Value} {base : Heap} {T : List (Addr × Str)}
/-- a def with defaults that may raise -/
theorem fnXD {x qual : Str} {params : Arguments} {bd : List Stmt} {scope : Scope} {dvs : List V} {kws : List (Str × V)} {f : Addr} {fd : FuncData} {N ps : List Str} {k : Nat} {sp : SpD} (G : FunD K x qual params bd scope dvs kws f fd) (S : FnScope N ps scope) (len : ∀ ds w κ χ, sp ds w κ χ → ds.length = ps.length)
    (body : ∀ (cdv : Value) (A : Around) (outer : List Env) (s : Shared) (H : Hp) (E : XK) (ds : List D) (w0 : Wp) (κ : D → Wp → Prop) (χ : XD), Room k (A.deeper (envOfC qual scope s.heap.objs.size f cdv)) → sp ds w0 κ χ →
      PSsD (cxOf (L2N.CX P w) P w K mg base N qual scope f cdv A outer s H E) T (fun cls d _ H => E cls d H) χ bd (startD N ds) w0 { nx := fun _ w' => κ DL.N w', rt := κ }) : FnOk P w K mg base (L2N.CX P w) (k + 1) f fd ps (spOf K T sp) := by
  refine G.ok S (fun vs H Q E h => ?_) (fun cdv A outer s H vs Q E hr h => ?_)
  · obtain ⟨ds, w0, F, S0, κ, χ, h1, h2, _⟩ := h
    rw [h2.length]
    exact len _ _ _ _ h1
  · obtain ⟨ds, w0, F, S0, κ, χ, h1, h2, h3, h4, h5⟩ := h
    refine ⟨_, pss_wp _, ?_⟩
    exact body cdv A outer s H E ds w0 κ χ hr h1 F _ S0 H _ (env_start h2) h3 (fun σ C ns fs w' d S' H' x s1 W1 xr => h5 C ns fs w' d S' H' x s1 W1 xr) ⟨fun δ' w' σ' S' H' k s1 hE W1 => h4 _ w' _ S' H' k s1 W1 rfl, h4, fun _ _ _ _ _ z => z.elim, fun _ _ _ _ _ z => z.elim⟩
end
section
variable {X : Cx} {T : List (Addr × Str)} {W : WX} {χ : XD} {δ : Dn} {w : Wp} {pos : Pos}
theorem run_makeA {CX : CXT} {k n : Nat} {f C : Addr} {fd : FuncData} {ps ks : List Str} {sp : Sp} {E : XK} {g : List Value → List Value → List Value} {gV : List V → List V → List V} {pins : List (Addr × Obj)} {σ : L2.St} {H : Hp} {s : Shared} {Q : VK} {us ws : List Value} {vs zs : List V} (M : Mk X.K C f) (F : FnOk X.prog X.w X.K X.mg X.base CX k f fd ps sp) (hr : Room (k + 1) X.A) (hb : KBn X.K fd ps (n + 1) ks g gV) (hx : PassesAt CX X σ E)
    (I : Inv X pins σ H s) (r : Vals vs us) (rz : Vals zs ws) (l1 : vs.length = n) (l2 : zs.length = ks.length)
    (h : ∀ x dx, H x = none → H dx = none → dx ≠ x → sp (gV (.ref x :: vs) zs) (upd (upd H dx (.own x)) x (.ins C dx [])) (fun v H2 => v = .non ∧ Q (.ref x) H2) E) :
    wpAny (model X.prog X.w) X.A (call (.ref C) us (ks.zip ws)) (EP X pins σ Q) X.xe s := by
  have hq := h (s.heap.objs.size + 1) s.heap.objs.size (I.hok.fresh (Nat.le_succ _)) (I.hok.fresh (Nat.le_refl _)) (Nat.ne_of_lt (Nat.lt_succ_self _))
  have I2 := Inv.made (C := C) I
  have r1 : Vals (V.ref (s.heap.objs.size + 1) :: vs) (Value.ref (s.heap.objs.size + 1) :: us) := .cons rfl r
  have r2 := hb.rel r1 rz
  have n1 : (Value.ref (s.heap.objs.size + 1) :: us).length = n + 1 := by
    rw [List.length_cons, ← r.length, l1]
  refine wpAny_call (make_map (f := f) I.kIn M.makes M.init (beq_iff_eq.mp M.fn) (codeAny_mono (F.run _ X.stack _ _ ⟨Value.ref (s.heap.objs.size + 1) :: us, ks.zip ws⟩ (g (Value.ref (s.heap.objs.size + 1) :: us) ws) _ _ E (hr.make C us (ks.zip ws))
    (I2.env0.make C us (ks.zip ws)) (hb.to _ (Value.ref (s.heap.objs.size + 1) :: us) ws I2.kIn n1 (rz.length.symm.trans l2)) r2 hq) fun r s' hq' => ?_))
  cases r with
  | error e => exact hx pins _ _ e s' I2 hq'
  | ok fl =>
    cases fl with
    | ret u =>
      obtain ⟨v, H', I3, rv, ev, q3⟩ := I2.after hq'
      subst ev
      exact ⟨rv, ⟨V.ref (s.heap.objs.size + 1), H', I3, rfl, q3⟩⟩
    | next => exact False.elim hq'
    | brk => exact False.elim hq'
    | cont => exact False.elim hq'
theorem run_makeDA {CX : CXT} {k : Nat} {f C : Addr} {fd : FuncData} {ps : List Str} {sp : Sp} {E : XK} {dvs : List V} {ds : List Value} {pins : List (Addr × Obj)} {σ : L2.St} {H : Hp} {s : Shared} {Q : VK} {us : List Value} {vs : List V} (M : Mk X.K C f) (F : FnOk X.prog X.w X.K X.mg X.base CX k f fd ps sp) (hr : Room (k + 1) X.A) (hb : Binds X.K fd ps ds) (hd : Vals dvs ds)
    (hx : PassesAt CX X σ E) (I : Inv X pins σ H s) (r : Vals vs us)
    (h : ∀ x dx, H x = none → H dx = none → dx ≠ x → sp (.ref x :: (vs ++ dvs)) (upd (upd H dx (.own x)) x (.ins C dx [])) (fun v H2 => v = .non ∧ Q (.ref x) H2) E) :
    wpAny (model X.prog X.w) X.A (call (.ref C) us) (EP X pins σ Q) X.xe s := by
  have hq := h (s.heap.objs.size + 1) s.heap.objs.size (I.hok.fresh (Nat.le_succ _)) (I.hok.fresh (Nat.le_refl _)) (Nat.ne_of_lt (Nat.lt_succ_self _))
  have I2 := Inv.made (C := C) I
  have r2 : Vals (V.ref (s.heap.objs.size + 1) :: (vs ++ dvs)) (Value.ref (s.heap.objs.size + 1) :: (us ++ ds)) := .cons rfl (r.append hd)
  have hl : (Value.ref (s.heap.objs.size + 1) :: us ++ ds).length = ps.length := by
    have e := r2.length
    rw [F.len _ _ _ _ hq] at e
    exact e.symm
  refine wpAny_call (make_map (f := f) I.kIn M.makes M.init (beq_iff_eq.mp M.fn) (codeAny_mono (F.run _ X.stack _ _ ⟨Value.ref (s.heap.objs.size + 1) :: us, []⟩ (Value.ref (s.heap.objs.size + 1) :: (us ++ ds)) _ _ E (hr.make C us [])
    (I2.env0.make C us []) (hb _ (Value.ref (s.heap.objs.size + 1) :: us) I2.kIn hl) r2 hq) fun r s' hq' => ?_))
  cases r with
  | error e => exact hx pins _ _ e s' I2 hq'
  | ok fl =>
    cases fl with
    | ret u =>
      obtain ⟨v, H', I3, rv, ev, q3⟩ := I2.after hq'
      subst ev
      exact ⟨rv, ⟨V.ref (s.heap.objs.size + 1), H', I3, rfl, q3⟩⟩
    | next => exact False.elim hq'
    | brk => exact False.elim hq'
    | cont => exact False.elim hq'
/-- C(e, .., k = e, ..), the keywords' values behind the positional ones -/
theorem pd_makeKO {CX : CXT} {k n : Nat} {f C : Addr} {fd : FuncData} {ps ks : List Str} {sp : SpD} {x : Str} {p : Pos} {e : Expr} {es : List Expr} {kws : List Keyword} {κ : D → Wp → Prop} (M : Mk X.K C f) (G : FnOk X.prog X.w X.K X.mg X.base CX k f fd ps (spOf X.K T sp)) (hr : Room (k + 1) X.A) (hm : X.mg x = some (.ref C)) (hb : KBn X.K fd ps (n + 1) ks (fun us ws => us ++ ws) (fun vs zs => vs ++ zs)) (hx : ∀ σ, PassesAt CX X σ (WE W σ))
    (h : PAD X T W χ (e :: es) δ w fun ds w1 => ds.length = n ∧ PKD X T W χ kws δ w1 fun zs w2 => zs.length = ks.length ∧ ∀ a dx, w2 a = none → sp (R a :: (ds ++ zs)) (wu w2 a (.ins C dx [] [])) (fun d w3 => d = N ∧ ∃ ns es, w3 a = some (.ins C dx ns es) ∧ κ (.obj C ns es) (wd w3 a)) (fun C ns fs w3 => χ C ns fs (wd w3 a)))
    (hg : Gl X x := by rfl) (hdb : (x == ("__debug__" : Str)) = false := by decide)
    (hall : (backToKw pos (keywordEach kws X.env)).all (·.1.isSome) = true := by rfl) (hks : (backToKw pos (keywordEach kws X.env)).filterMap (·.1) = ks := by rfl)
    (he : starEach (e :: es) X.env = (false, eval e X.env) :: starEach es X.env := by rfl) (hpl : ((backTo pos (starEach (e :: es) X.env)).any (·.1) || (backToKw pos (keywordEach kws X.env)).any (·.1.isNone)) = false := by rfl) :
    PD X T W χ (.Call (.Name x p) (e :: es) kws pos) δ w κ := fun F σ S H Q hE hW hX hK => by
  intro pins s I
  refine wpAny_Call_Name_kw (ld_glob I hg hm ?_ hdb)
  refine PySem.W.callWith_KW (h₀ := X.base) I.ok.mod.kin M.kp hall (thn ((pa_wp (e :: es)).run pos pins s σ H (fun vs H1 => ∃ ds w1 S1, (ds.length = n ∧ PKD X T W χ kws δ w1 fun zs w2 => zs.length = ks.length ∧ ∀ a dx, w2 a = none → sp (R a :: (ds ++ zs)) (wu w2 a (.ins C dx [] [])) (fun d w3 => d = N ∧ ∃ ns es, w3 a = some (.ins C dx ns es) ∧ κ (.obj C ns es) (wd w3 a)) (fun C ns fs w3 => χ C ns fs (wd w3 a))) ∧ Same S S1 ∧ World X.K T S1 w1 F H1 ∧ RepL X.K S1 ds vs) I
    (h F σ S H _ hE hW hX fun ds w1 vs S1 H1 k s1 W1 r => ⟨ds, w1, S1, k, s1, W1, r⟩)) fun us s1 ⟨vs, H1, I1, r, ds, w1, S1, ⟨ld, hk⟩, sm1, W1, rd⟩ => ?_) hpl he
  refine thn ((pk_wp kws).run pos pins s1 σ H1 (fun zs H2 => ∃ zd w2 S2, (zd.length = ks.length ∧ ∀ a dx, w2 a = none → sp (R a :: (ds ++ zd)) (wu w2 a (.ins C dx [] [])) (fun d w3 => d = N ∧ ∃ ns es, w3 a = some (.ins C dx ns es) ∧ κ (.obj C ns es) (wd w3 a)) (fun C ns fs w3 => χ C ns fs (wd w3 a))) ∧ Same S1 S2 ∧ World X.K T S2 w2 F H2 ∧ RepL X.K S2 zd zs) I1
    (pkd_wp hk F σ S1 H1 _ (hE.mono sm1) W1 (hX.mono sm1) fun zd w2 zs S2 H2 k2 s2 W2 r2 => ⟨zd, w2, S2, k2, s2, W2, r2⟩)) fun ws s2 ⟨zs, H2, I2, rz, zd, w2, S2, ⟨lz, hsp⟩, sm2, W2, rzd⟩ => ⟨I2.kIn, ?_⟩
  rw [hks]
  have lz1 : zs.length = ks.length := by rw [rzd.length]; exact lz
  refine run_makeA M G hr hb (hx σ) I2 r rz (by rw [rd.length]; exact ld) lz1 fun a dx na ndx nad => ?_
  have W3 := (W2.junk (o := .own a) ndx).take (a := a) (h := .ins C dx [] []) (o := .ins C dx []) (by rw [upd_ne (Ne.symm nad)]; exact na) ⟨[], rfl, rfl, rfl⟩
  refine ⟨_, _, F, S2, _, _, hsp a dx (W2.free na).2.1, ⟨_, vs ++ zs, rfl, rfl, (rd.mono sm2).app rzd⟩, W3, ?_, fun C ns fs w' d S' H' x s3 W5 xr => hX C ns fs _ d S' H' x (sm1.trans (sm2.trans s3)) (W5.drop a) xr⟩
  rintro d w' v S' H' ⟨rfl, ns, es, ew, kk⟩ s3 W5 rv
  refine ⟨rv, ?_⟩
  obtain ⟨o, e1, r3, W6⟩ := W5.freeze ew
  obtain ⟨ys, rfl, hys, r4⟩ := r3
  have s4 : Same S' (upd S' a (.ins C dx ys)) := same_upd e1
  exact hK _ _ _ _ _ kk (sm1.trans (sm2.trans (s3.trans s4))) W6 ⟨a, dx, ys, rfl, upd_same, hys, r4.mono s4⟩
/-- C(e, ..), the defaults dvs behind -/
theorem pd_makeDf {CX : CXT} {k : Nat} {f C : Addr} {fd : FuncData} {ps : List Str} {sp : SpD} {x : Str} {p : Pos} {e : Expr} {es : List Expr} {dvs : List V} {dv : List Value} {κ : D → Wp → Prop} (M : Mk X.K C f) (G : FnOk X.prog X.w X.K X.mg X.base CX k f fd ps (spOf X.K T sp)) (hr : Room (k + 1) X.A) (hm : X.mg x = some (.ref C)) (hb : Binds X.K fd ps dv) (hd : Vals dvs dv) (hx : ∀ σ, PassesAt CX X σ (WE W σ))
    (h : PAD X T W χ (e :: es) δ w fun ds w1 => ∀ a dx, w1 a = none → sp (R a :: (ds ++ dvs.map D.val)) (wu w1 a (.ins C dx [] [])) (fun d w2 => d = N ∧ ∃ ns es, w2 a = some (.ins C dx ns es) ∧ κ (.obj C ns es) (wd w2 a)) (fun C ns fs w2 => χ C ns fs (wd w2 a)))
    (hg : Gl X x := by rfl) (hdb : (x == ("__debug__" : Str)) = false := by decide) (he : starEach (e :: es) X.env = (false, eval e X.env) :: starEach es X.env := by rfl) (hpl : (backTo pos (starEach es X.env)).any (·.1) = false := by rfl) :
    PD X T W χ (.Call (.Name x p) (e :: es) [] pos) δ w κ := fun F σ S H Q hE hW hX hK => by
  intro pins s I
  refine wpAny_Call_Name_kw (ld_glob I hg hm ?_ hdb)
  refine PySem.W.callWith_K (h₀ := X.base) I.ok.mod.kin M.kp (thn ((pa_wp (e :: es)).run pos pins s σ H (fun vs H1 => ∃ ds w1 S1, (∀ a dx, w1 a = none → sp (R a :: (ds ++ dvs.map D.val)) (wu w1 a (.ins C dx [] [])) (fun d w2 => d = N ∧ ∃ ns es, w2 a = some (.ins C dx ns es) ∧ κ (.obj C ns es) (wd w2 a)) (fun C ns fs w2 => χ C ns fs (wd w2 a))) ∧ Same S S1 ∧ World X.K T S1 w1 F H1 ∧ RepL X.K S1 ds vs) I
    (h F σ S H _ hE hW hX fun ds w1 vs S1 H1 k s1 W1 r => ⟨ds, w1, S1, k, s1, W1, r⟩)) fun us s1 ⟨vs, H1, I1, r, ds, w1, S1, hk, sm1, W1, rd⟩ => ⟨I1.kIn, ?_⟩) he hpl
  refine run_makeDA M G hr hb hd (hx σ) I1 r fun a dx na ndx nad => ?_
  have W2 := (W1.junk (o := .own a) ndx).take (a := a) (h := .ins C dx [] []) (o := .ins C dx []) (by rw [upd_ne (Ne.symm nad)]; exact na) ⟨[], rfl, rfl, rfl⟩
  refine ⟨_, _, F, S1, _, _, hk a dx (W1.free na).2.1, ⟨_, vs ++ dvs, rfl, rfl, rd.app RepL.of_vals⟩, W2, ?_, fun C ns fs w' d S' H' x s3 W5 xr => hX C ns fs _ d S' H' x (sm1.trans s3) (W5.drop a) xr⟩
  rintro d w' v S' H' ⟨rfl, ns, es, ew, kk⟩ s3 W5 rv
  refine ⟨rv, ?_⟩
  obtain ⟨o, e1, r3, W6⟩ := W5.freeze ew
  obtain ⟨ys, rfl, hys, r4⟩ := r3
  have s4 : Same S' (upd S' a (.ins C dx ys)) := same_upd e1
  exact hK _ _ _ _ _ kk (sm1.trans (s3.trans s4)) W6 ⟨a, dx, ys, rfl, upd_same, hys, r4.mono s4⟩
/-- f(e, ..), f an expression that gives an instance with an own __call__ -/
theorem pd_callI {CX : CXT} {k : Nat} {C g : Addr} {fd : FuncData} {ps : List Str} {sp : SpD} {fe e : Expr} {es : List Expr} {κ : D → Wp → Prop} (c : StX.CallO X.K C g) (G : FnOk X.prog X.w X.K X.mg X.base CX k g fd ps (spOf X.K T sp)) (hr : Room k X.A) (hb : Binds X.K fd ps []) (hx : ∀ σ, PassesAt CX X σ (WE W σ))
    (h : PD X T W χ fe δ w fun d w1 => (∃ ns fs, d = .obj C ns fs) ∧ PAD X T W χ (e :: es) δ w1 fun ds w2 => sp (d :: ds) w2 κ χ)
    (ht : eval (.Call fe (e :: es) [] pos) X.env = (do callWith pos (← eval fe X.env) [] (backTo pos (starEach (e :: es) X.env)) (backToKw pos (keywordEach [] X.env))) := by rfl)
    (he : starEach (e :: es) X.env = (false, eval e X.env) :: starEach es X.env := by rfl) (hpl : (backTo pos (starEach es X.env)).any (·.1) = false := by rfl) : PD X T W χ (.Call fe (e :: es) [] pos) δ w κ := fun F σ S H Q hE hW hX hK => by
  intro pins s I
  refine Call_ (thn ((pe_wp fe).run pins s σ H (fun y H1 => ∃ d w1 S1, ((∃ ns fs, d = .obj C ns fs) ∧ PAD X T W χ (e :: es) δ w1 fun ds w2 => sp (d :: ds) w2 κ χ) ∧ Same S S1 ∧ World X.K T S1 w1 F H1 ∧ Rep X.K S1 d y) I
    (h F σ S H _ hE hW hX fun d w1 v S1 H1 k s1 W1 r => ⟨d, w1, S1, k, s1, W1, r⟩)) fun u s1 ⟨y, H1, I1, ry, d, w1, S1, ⟨⟨ns, fs, ed⟩, hk⟩, sm1, W1, rd⟩ => ?_) ht
  subst ed
  obtain ⟨a, dx, ys, rfl, h1, h2, h3⟩ := id rd
  obtain rfl : u = Value.ref a := ry
  refine StX.callO_with (thn ((pa_wp (e :: es)).run pos pins s1 σ H1 (fun vs H2 => ∃ ds w2 S2, sp (.obj C ns fs :: ds) w2 κ χ ∧ Same S1 S2 ∧ World X.K T S2 w2 F H2 ∧ RepL X.K S2 ds vs) I1
    (hk F σ S1 H1 _ (hE.mono sm1) W1 (hX.mono sm1) fun ds w2 vs S2 H2 k2 s2 W2 r2 => ⟨ds, w2, S2, k2, s2, W2, r2⟩)) fun us s2 ⟨vs, H2, I2, r, ds, w2, S2, hsp, sm2, W2, rv⟩ => ?_) he hpl
  have at2 : H2 a = some (.ins C dx ys) := W2.same _ _ (sm2 _ _ h1)
  obtain ⟨mA, O, _⟩ := ins_get I2.hok at2
  obtain ⟨od, J, _⟩ := O.look
  refine ⟨⟨C, _, od, J, rfl⟩, ?_⟩
  have r2 : Vals (V.ref a :: vs) (Value.ref a :: us) := .cons rfl r
  have hsp2 : spOf X.K T sp (V.ref a :: vs) H2 Q (WE W σ) := ⟨.obj C ns fs :: ds, w2, F, S2, κ, χ, hsp, ⟨_, vs, rfl, rd.mono sm2, rv⟩, W2, hK.mono (sm1.trans sm2), fun C ns fs w' d S' H' x s3 W3 xr => hX C ns fs w' d S' H' x (sm1.trans (sm2.trans s3)) W3 xr⟩
  have hl : ((Value.ref a :: us) ++ []).length = ps.length := by
    have e := r2.length
    rw [G.len _ _ _ _ hsp2] at e
    rw [List.append_nil]
    exact e.symm
  have bb := hb s2 (Value.ref a :: us) I2.kIn hl
  rw [List.append_nil] at bb
  refine wpAny_call (PySem.W.kco_code I2.kIn J rfl c.at_ c.fn c.fi (codeAny_mono (G.run X.A X.stack s2 H2 ⟨Value.ref a :: us, []⟩ (Value.ref a :: us) _ Q (WE W σ) hr I2.env0 bb r2 hsp2) fun r s' hq => ?_))
  cases r with
  | error e => exact hx σ pins H2 s2 e s' I2 hq
  | ok fl =>
    cases fl with
    | ret u => exact I2.after hq
    | next => exact False.elim hq
    | brk => exact False.elim hq
    | cont => exact False.elim hq
end
end DL

set_option Elab.async false
set_option linter.all false
set_option maxRecDepth 100000
set_option maxHeartbeats 4000000
/-! k35: Machine: __init__, steps, words, len. -/
namespace DL
open PySem PySem.Spec PyProof.Rows L2 LamX
theorem Lk.wu_ins {w : Wp} {a C dx C' dx' : Addr} {ns ns' : List Str} {fs fs' ds : List D} {d : D} (ha : w a = some (.ins C dx ns fs)) (l : Lk w d ds) : Lk (wu w a (.ins C' dx' ns' fs')) d ds := by
  rcases l with rfl | ⟨b, rfl, hb⟩
  · exact .inl rfl
  · refine .inr ⟨b, rfl, ?_⟩
    rw [wu_ne fun z => by rw [z, ha] at hb; cases hb]
    exact hb
end DL
namespace Tw
open PySem PySem.Spec PyProof.Rows L2 LamX DL
abbrev sMc (i : Nat) : Stmt := inClass (top 9) i
abbrev sMI : Stmt := sMc 0
abbrev sMS : Stmt := sMc 1
abbrev sMW : Stmt := sMc 2
abbrev sMA : Stmt := sMc 3
abbrev sMCall : Stmt := sMc 8
abbrev sMEq : Stmt := sMc 9
abbrev sMNe : Stmt := sMc 10
abbrev sMLen : Stmt := sMc 11
abbrev sMWay : Stmt := sMc 12
def mNs : List Str := ["signs", "first", "_steps", "_words"]
/-- a machine -/
def mchD (C : Addr) (sg : Str) (st : List (List Int)) (wo : List (List Str)) (f : Int) : D := .obj C mNs [DL.T sg, I f, stD st, woD wo]
structure MchC (K : PySem.W.Frag) (C : Addr) : Prop where
  cl : Cls K C
  nSg : NoAttr K C "signs"
  nFi : NoAttr K C "first"
  nSt : NoAttr K C "_steps"
  nWo : NoAttr K C "_words"
def spMI (C CB : Addr) : SpD := fun ds w κ χ => ∃ (a dx : Addr) (sg : Str) (dS dW : D) (f : Int) (st : List (List Int)) (wo : List (List Str)), ds = [R a, DL.T sg, dS, dW, I f] ∧ w a = some (.ins C dx [] []) ∧ LL w dS (st.map fun x => x.map I) ∧ LL w dW (wo.map fun x => x.map DL.T) ∧ sg.length ≤ 60 ∧ st.length ≤ 900 ∧ wo.length ≤ 900 ∧ (∀ x ∈ st, x.length ≤ 900) ∧ (∀ x ∈ wo, x.length ≤ 900) ∧ Oc sg ∧
  (faultM sg st wo f = none → κ N (wu w a (.ins C dx mNs [DL.T sg, I f, stD st, woD wo]))) ∧ ∀ x, faultM sg st wo f = some x → χ CB ["part"] [DL.T x] w
section
variable {P : Program} {w : PySem.World} {K : PySem.W.Frag} {mg : Str → Option Value} {base : Heap} {T : List (Addr × Str)} {C CU CB : Addr}
def NMI : List Str := ["self", "signs", "steps", "words", "first", "following", "told"]
theorem scMI : FnScope NMI ["self", "signs", "steps", "words", "first"] (defScope sMI) := ⟨rfl, rfl, rfl, by decide +kernel, rfl, by decide +kernel, by decide +kernel⟩
theorem ok_mi {f : Addr} {fd : FuncData} (G : FunD K "__init__" "Machine.__init__" (defArgs sMI) (defBody sMI) (defScope sMI) [] [("first", V.int 0)] f fd) (hm : Nm35 mg) (c : MchC K C) (hC : HasF P w K mg base T (L2N.CX P w) "_check_machine" 3 ["signs", "steps", "words", "first"] (spCkM CB)) : FnOk P w K mg base (L2N.CX P w) 4 f fd ["self", "signs", "steps", "words", "first"] (spOf K T (spMI C CB)) := by
  refine fnXD G scMI (fun ds w κ χ h => ?_) (fun cdv A outer s H E ds w0 κ χ hr h => ?_)
  · obtain ⟨a, dx, sg, dS, dW, fi, st, wo, rfl, _⟩ := h
    rfl
  obtain ⟨a, dx, sg, dS, dW, fi, st, wo, rfl, ha, lS, lW, sl, stl, wol, stn, won, oc, k1, k2⟩ := h
  obtain ⟨es, lk, le, lx⟩ := LL_get lS
  obtain ⟨fs, lkw, lef, lxw⟩ := LL_get lW
  have nd := scMI.nd
  refine pssd_cons (psd_expr ?_)
  refine pd_has hC hr passX ?_
  (refine pad_cons ?_; refine pd_var (i := 1) rfl rfl ?_)
  (refine pad_cons ?_; refine pd_var (i := 2) rfl rfl ?_)
  (refine pad_cons ?_; refine pd_var (i := 3) rfl rfl ?_)
  (refine pad_cons ?_; refine pd_var (i := 4) rfl rfl ?_)
  refine pad_nil ?_
  refine ⟨sg, dS, dW, fi, st, wo, rfl, lS, lW, sl, stl, wol, stn, won, oc, fun hf => ?_, k2⟩
  refine pssd_cons (psd_fldNew c.cl c.nSg ?_)
  refine pd_var (i := 1) rfl rfl ?_
  refine pd_var (i := 0) rfl rfl ?_
  refine ⟨a, dx, [], [], rfl, ha, by decide +kernel, by decide, ?_⟩
  refine pssd_cons (psd_fldNew c.cl c.nFi ?_)
  refine pd_var (i := 4) rfl rfl ?_
  refine pd_var (i := 0) rfl rfl ?_
  refine ⟨a, dx, _, _, rfl, wu_same, by decide +kernel, by decide, ?_⟩
  rw [wu_wu]
  refine pssd_cons (psd_fldNew c.cl c.nSt ?_)
  refine pd_lcK (Kp := fun w2 => Lk w2 dS es) (own := [("following", 5)]) (is := [5]) rfl nd (blkOk_by rfl) (by decide) ?_
  refine it_lkD (dd := dS) (es := es) ?_
  refine pd_var (i := 2) rfl rfl ?_
  refine ⟨rfl, lk.wu_ins ha, ?_⟩
  refine lcK_map (ys := st.map fun x => .lst (x.map I)) (by rw [List.length_map, le]) (by rw [sizeLine_eq]; omega) (lk.wu_ins ha) (fun j e y he hy s2 H0 C1 cl1 fp1 => ?_) ?_
  · rw [List.getElem?_map] at hy
    cases ex : st[j]? with
    | none =>
      rw [ex] at hy
      cases hy
    | some x =>
      rw [ex] at hy
      cases hy
      refine pgl_name (i := 5) nd rfl ?_
      intro s3 H0 C1 cl1 fp1
      refine ptsd_nil ?_
      intro s3 H0 C1 cl1 fp1
      refine pd_callTy call_list_of rfl hm.list bt_listC ?_
      (refine pad_cons ?_; refine pd_var (i := 5) rfl rfl ?_)
      refine pad_nil ?_
      exact va_listK ((lx j e x he ex).wu_ins ha) ⟨rfl, rfl, rfl⟩
  refine pd_var (i := 0) rfl rfl ?_
  refine ⟨a, dx, _, _, rfl, wu_same, by decide +kernel, by decide, ?_⟩
  rw [wu_wu]
  refine pssd_one (psd_fldNew c.cl c.nWo ?_)
  refine pd_lcK (Kp := fun w2 => Lk w2 dW fs) (own := [("told", 6)]) (is := [6]) rfl nd (blkOk_by rfl) (by decide) ?_
  refine it_lkD (dd := dW) (es := fs) ?_
  refine pd_var (i := 3) rfl rfl ?_
  refine ⟨rfl, lkw.wu_ins ha, ?_⟩
  refine lcK_map (ys := wo.map fun x => .lst (x.map DL.T)) (by rw [List.length_map, lef]) (by rw [sizeLine_eq]; omega) (lkw.wu_ins ha) (fun j e y he hy s2 H0 C1 cl1 fp1 => ?_) ?_
  · rw [List.getElem?_map] at hy
    cases ex : wo[j]? with
    | none =>
      rw [ex] at hy
      cases hy
    | some x =>
      rw [ex] at hy
      cases hy
      refine pgl_name (i := 6) nd rfl ?_
      intro s3 H0 C1 cl1 fp1
      refine ptsd_nil ?_
      intro s3 H0 C1 cl1 fp1
      refine pd_callTy call_list_of rfl hm.list bt_listC ?_
      (refine pad_cons ?_; refine pd_var (i := 6) rfl rfl ?_)
      refine pad_nil ?_
      exact va_listK ((lxw j e x he ex).wu_ins ha) ⟨rfl, rfl, rfl⟩
  refine pd_var (i := 0) rfl rfl ?_
  refine ⟨a, dx, _, _, rfl, wu_same, by decide +kernel, by decide, ?_⟩
  rw [wu_wu]
  exact k1 hf
end
end Tw

set_option Elab.async false
set_option linter.all false
set_option maxRecDepth 100000
set_option maxHeartbeats 4000000
/-! k35: Machine's methods. -/
namespace DL
open PySem PySem.Spec PyProof.Rows L2 LamX
/-- the last item of a list that stands or is owned -/
theorem vr_ixLast {K : PySem.W.Frag} {T : List (Addr × Str)} {w : Wp} {κ : D → Wp → Prop} {dd : D} {ds : List D} {d : D} (l : Lk w dd (ds ++ [d])) (k : κ d w) : VR2 K T (rIxL K) dd (I (-1)) w κ := fun F S H x y Q hW r1 r2 hK => by
  obtain ⟨a, xs, rfl, h1, h2⟩ := l.at_ hW r1
  have key : ∀ {ds : List D} {xs : List V}, RepL K S (ds ++ [d]) xs → ∃ ys v, xs = ys ++ [v] ∧ Rep K S d v := by
    intro ds
    induction ds with
    | nil =>
      rintro xs ⟨v, us, rfl, r, e⟩
      have e' : us = [] := e
      exact ⟨[], v, by rw [e']; rfl, r⟩
    | cons b ds ih =>
      rintro xs ⟨v, us, rfl, r, e⟩
      obtain ⟨ys, u, rfl, r2⟩ := ih e
      exact ⟨v :: ys, u, rfl, r2⟩
  obtain ⟨ys, v, rfl, r⟩ := key h2
  exact ⟨a, ys ++ [v], -1, v, rfl, r2, SqL.of h1, atI_last ys v, hK d w v S H k (Same.refl _) hW r⟩
end DL
namespace Tw
open PySem PySem.Spec PyProof.Rows L2 LamX DL
def five (n : String) : Prop := n = "list" ∨ n = "NoneType" ∨ n = "int" ∨ n = "str"
structure MchQ (K : PySem.W.Frag) (C : Addr) : Prop where
  ci : ClsI K C
  nfC : PySem.W.notFirst K C (.ref C) = true
  kC : PySem.W.kitOne K (.ref C) (.ref C) = some true
  nf : ∀ n, five n → PySem.W.notFirst K C (.type n) = true
  kt : ∀ n, five n → PySem.W.kitOne K (.type n) (.ref C) = some false
theorem fld_sg {C : Addr} {sg : Str} {st : List (List Int)} {wo : List (List Str)} {f : Int} {w : Wp} : FldD C "signs" (mchD C sg st wo f) w (DL.T sg) := ⟨rfl, rfl⟩
theorem fld_fi {C : Addr} {sg : Str} {st : List (List Int)} {wo : List (List Str)} {f : Int} {w : Wp} : FldD C "first" (mchD C sg st wo f) w (I f) := ⟨rfl, rfl⟩
theorem fld_st {C : Addr} {sg : Str} {st : List (List Int)} {wo : List (List Str)} {f : Int} {w : Wp} : FldD C "_steps" (mchD C sg st wo f) w (stD st) := ⟨rfl, rfl⟩
theorem fld_wo {C : Addr} {sg : Str} {st : List (List Int)} {wo : List (List Str)} {f : Int} {w : Wp} : FldD C "_words" (mchD C sg st wo f) w (woD wo) := ⟨rfl, rfl⟩
theorem ins_m {C : Addr} {sg : Str} {st : List (List Int)} {wo : List (List Str)} {f : Int} {w : Wp} {m : Str} (h : m ∉ mNs) : InsD C m (mchD C sg st wo f) w := ⟨rfl, h⟩
/-- the state behind the first j signs -/
def sttS (sg : Str) (st : List (List Int)) (wo : List (List Str)) (f : Nat) (row : Str) (j : Nat) : Nat := (runS sg st wo f ((cl row).take j)).2
def waysD (sg : Str) (st : List (List Int)) (wo : List (List Str)) (f : Nat) (row : Str) (n : Nat) : List D := (List.range n).map fun j => I (sttS sg st wo f row j : Int)
theorem ways_succ {sg : Str} {st : List (List Int)} {wo : List (List Str)} {f : Nat} {row : Str} {n : Nat} : waysD sg st wo f row (n + 1) = waysD sg st wo f row n ++ [I (sttS sg st wo f row n : Int)] := by
  unfold waysD
  rw [List.range_succ, List.map_append]
  rfl
theorem ways_len {sg : Str} {st : List (List Int)} {wo : List (List Str)} {f : Nat} {row : Str} {n : Nat} : (waysD sg st wo f row n).length = n := by
  unfold waysD
  rw [List.length_map, List.length_range]
/-- the first sign of the row that is none of sg -/
def BadAt (sg row : Str) (i c : Nat) : Prop := (cl row)[i]? = some c ∧ c ∉ cl sg ∧ ∀ (j d : Nat), j < i → (cl row)[j]? = some d → d ∈ cl sg
def spMStS (C : Addr) : SpD := fun ds w κ χ => ∃ (sg : Str) (st : List (List Int)) (wo : List (List Str)) (f : Int), ds = [mchD C sg st wo f] ∧ st.length ≤ 900 ∧ κ (stD st) w
def spMStO (C : Addr) : SpD := fun ds w κ χ => ∃ (sg : Str) (st : List (List Int)) (wo : List (List Str)) (f : Int), ds = [mchD C sg st wo f] ∧ st.length ≤ 900 ∧ ∀ (bs : List Addr) (w1 : Wp) (a : Addr), Owns w bs (st.map fun x => x.map I) w1 → w1 a = none → κ (R a) (wu w1 a (.lst (bs.map R)))
def spMWoS (C : Addr) : SpD := fun ds w κ χ => ∃ (sg : Str) (st : List (List Int)) (wo : List (List Str)) (f : Int), ds = [mchD C sg st wo f] ∧ wo.length ≤ 900 ∧ κ (woD wo) w
def spMWoO (C : Addr) : SpD := fun ds w κ χ => ∃ (sg : Str) (st : List (List Int)) (wo : List (List Str)) (f : Int), ds = [mchD C sg st wo f] ∧ wo.length ≤ 900 ∧ ∀ (bs : List Addr) (w1 : Wp) (a : Addr), Owns w bs (wo.map fun x => x.map DL.T) w1 → w1 a = none → κ (R a) (wu w1 a (.lst (bs.map R)))
def spMLen (C : Addr) : SpD := fun ds w κ χ => ∃ (sg : Str) (st : List (List Int)) (wo : List (List Str)) (f : Int), ds = [mchD C sg st wo f] ∧ κ (I (st.length : Int)) w
/-- a machine and a row -/
structure MRow (sg : Str) (st : List (List Int)) (wo : List (List Str)) (f : Nat) (row : Str) : Prop where
  pt : ∃ m pool, PtOk sg.length m pool st wo ∧ f < m ∧ m ≤ 900
  rl : row.length ≤ 900
  oc : Oc row
def spMWay (C CU : Addr) : SpD := fun ds w κ χ => ∃ (sg : Str) (st : List (List Int)) (wo : List (List Str)) (f : Nat) (row : Str), ds = [mchD C sg st wo (f : Int), DL.T row] ∧ MRow sg st wo f row ∧ ((∀ c ∈ cl row, c ∈ cl sg) → κ (.lst (waysD sg st wo f row (row.length + 1))) w) ∧
  ∀ i c, BadAt sg row i c → χ CU ["place", "sign"] [I (i : Int), DL.T (letS c)] w
def spMAft (C CU : Addr) : SpD := fun ds w κ χ => ∃ (sg : Str) (st : List (List Int)) (wo : List (List Str)) (f : Nat) (row : Str), ds = [mchD C sg st wo (f : Int), DL.T row] ∧ MRow sg st wo f row ∧ ((∀ c ∈ cl row, c ∈ cl sg) → κ (I ((runS sg st wo f (cl row)).2 : Int)) w) ∧
  ∀ i c, BadAt sg row i c → χ CU ["place", "sign"] [I (i : Int), DL.T (letS c)] w
def spMCal (C CU : Addr) : SpD := fun ds w κ χ => ∃ (sg : Str) (st : List (List Int)) (wo : List (List Str)) (f : Nat) (row : Str), ds = [mchD C sg st wo (f : Int), DL.T row] ∧ MRow sg st wo f row ∧ ((∀ c ∈ cl row, c ∈ cl sg) → ∀ a, w a = none → κ (R a) (wu w a (.lst ((runS sg st wo f (cl row)).1.map DL.T)))) ∧
  ∀ i c, BadAt sg row i c → χ CU ["place", "sign"] [I (i : Int), DL.T (letS c)] w
/-- what two machines are compared by -/
def eqM (sg : Str) (st : List (List Int)) (wo : List (List Str)) (f : Int) (sg2 : Str) (st2 : List (List Int)) (wo2 : List (List Str)) (f2 : Int) : Bool := decide (sg = sg2) && (decide (st = st2) && (decide (wo = wo2) && decide (f = f2)))
def spMEq (C : Addr) : SpD := fun ds w κ χ => ∃ (sg : Str) (st : List (List Int)) (wo : List (List Str)) (f : Int) (e : D), ds = [mchD C sg st wo f, e] ∧ (∀ x ∈ wo, ∀ y ∈ x, Oc y) ∧ ((∃ sg2 st2 wo2 f2, e = mchD C sg2 st2 wo2 f2 ∧ (∀ x ∈ wo2, ∀ y ∈ x, Oc y) ∧ κ (B (eqM sg st wo f sg2 st2 wo2 f2)) w) ∨ (∃ n, tyD e = some n ∧ five n ∧ κ (B false) w))
def spMNe (C : Addr) : SpD := fun ds w κ χ => ∃ (sg : Str) (st : List (List Int)) (wo : List (List Str)) (f : Int) (e : D), ds = [mchD C sg st wo f, e] ∧ (∀ x ∈ wo, ∀ y ∈ x, Oc y) ∧ ((∃ sg2 st2 wo2 f2, e = mchD C sg2 st2 wo2 f2 ∧ (∀ x ∈ wo2, ∀ y ∈ x, Oc y) ∧ κ (B (!eqM sg st wo f sg2 st2 wo2 f2)) w) ∨ (∃ n, tyD e = some n ∧ five n ∧ κ (B true) w))
section
variable {P : Program} {w : PySem.World} {K : PySem.W.Frag} {mg : Str → Option Value} {base : Heap} {T : List (Addr × Str)} {C CU CB : Addr}
theorem scMS : FnScope ["self", "following"] ["self"] (defScope sMS) := ⟨rfl, rfl, rfl, by decide +kernel, rfl, by decide +kernel, by decide +kernel⟩
theorem scMW : FnScope ["self", "told"] ["self"] (defScope sMW) := ⟨rfl, rfl, rfl, by decide +kernel, rfl, by decide +kernel, by decide +kernel⟩
theorem scMLen : FnScope ["self"] ["self"] (defScope sMLen) := ⟨rfl, rfl, rfl, by decide +kernel, rfl, by decide +kernel, by decide +kernel⟩
theorem scMWay : FnScope ["self", "row", "states", "sign"] ["self", "row"] (defScope sMWay) := ⟨rfl, rfl, rfl, by decide +kernel, rfl, by decide +kernel, by decide +kernel⟩
theorem scMA : FnScope ["self", "row"] ["self", "row"] (defScope sMA) := ⟨rfl, rfl, rfl, by decide +kernel, rfl, by decide +kernel, by decide +kernel⟩
theorem scMCall : FnScope ["self", "row", "state", "sign"] ["self", "row"] (defScope sMCall) := ⟨rfl, rfl, rfl, by decide +kernel, rfl, by decide +kernel, by decide +kernel⟩
theorem scMEq : FnScope ["self", "other"] ["self", "other"] (defScope sMEq) := ⟨rfl, rfl, rfl, by decide +kernel, rfl, by decide +kernel, by decide +kernel⟩
theorem scMNe : FnScope ["self", "other"] ["self", "other"] (defScope sMNe) := ⟨rfl, rfl, rfl, by decide +kernel, rfl, by decide +kernel, by decide +kernel⟩
theorem ok_mstS {f : Addr} {fd : FuncData} (G : Fun K "steps" "Machine.steps" sMS f fd) (hm : Nm35 mg) (c : MchC K C) : FnOk P w K mg base CX0 1 f fd ["self"] (spOf K T (spMStS C)) := by
  refine fnD G scMS (fun ds w κ χ h => ?_) (fun cdv A outer s H E ds w0 κ χ hr h => ?_)
  · obtain ⟨sg, st, wo, fi, rfl, _⟩ := h
    rfl
  obtain ⟨sg, st, wo, fi, rfl, hz, k⟩ := h
  have nd := scMS.nd
  refine pssd_one (psd_ret ?_)
  refine pd_lc (own := [("following", 1)]) (is := [1]) rfl nd (blkOk_by rfl) (by decide) ?_
  refine it_list ?_
  refine pd_fld c.cl c.nSt ?_
  refine pd_var (i := 0) rfl rfl ?_
  refine ⟨_, fld_st, ?_⟩
  refine ⟨_, rfl, ?_⟩
  refine lcd_map (xs := st) (g := fun x => .lst (x.map I)) (fun x => .lst (x.map I)) (by rw [sizeLine_eq]; omega) (fun x hx s2 H0 C1 cl1 fp1 => ?_) k
  refine pgl_name (i := 1) nd rfl ?_
  intro s3 H0 C1 cl1 fp1
  refine ptsd_nil ?_
  intro s3 H0 C1 cl1 fp1
  refine pd_callTy call_list_of rfl hm.list bt_listC ?_
  (refine pad_cons ?_; refine pd_var (i := 1) rfl rfl ?_)
  refine pad_nil ?_
  exact va_listS ⟨rfl, rfl, rfl⟩
theorem ok_mstO {f : Addr} {fd : FuncData} (G : Fun K "steps" "Machine.steps" sMS f fd) (hm : Nm35 mg) (c : MchC K C) : FnOk P w K mg base CX0 1 f fd ["self"] (spOf K T (spMStO C)) := by
  refine fnD G scMS (fun ds w κ χ h => ?_) (fun cdv A outer s H E ds w0 κ χ hr h => ?_)
  · obtain ⟨sg, st, wo, fi, rfl, _⟩ := h
    rfl
  obtain ⟨sg, st, wo, fi, rfl, hz, k⟩ := h
  have nd := scMS.nd
  have e1 : stD st = .lst ((st.map fun x => x.map I).map D.lst) := by
    unfold stD
    rw [List.map_map]
    rfl
  refine pssd_one (psd_ret ?_)
  refine pd_lcO (own := [("following", 1)]) (is := [1]) rfl nd (blkOk_by rfl) (by decide) ?_
  refine it_list ?_
  refine pd_fld c.cl c.nSt ?_
  refine pd_var (i := 0) rfl rfl ?_
  refine ⟨_, fld_st, ?_⟩
  refine ⟨_, e1, ?_⟩
  refine lcd_own (by rw [List.length_map, sizeLine_eq]; omega) (fun x hx w' s H0 C cl fp => ?_) fun bs w1 ow a na => k bs w1 a ow na
  refine pgl_name (i := 1) nd rfl ?_
  intro s H0 C cl fp
  refine ptsd_nil ?_
  rw [if_pos rfl]
  intro s H0 C cl fp
  refine pd_callTy call_list_of rfl hm.list bt_listC ?_
  (refine pad_cons ?_; refine pd_var (i := 1) rfl rfl ?_)
  refine pad_nil ?_
  exact va_listO fun b n => ⟨b, rfl, n, rfl⟩
theorem ok_mwoS {f : Addr} {fd : FuncData} (G : Fun K "words" "Machine.words" sMW f fd) (hm : Nm35 mg) (c : MchC K C) : FnOk P w K mg base CX0 1 f fd ["self"] (spOf K T (spMWoS C)) := by
  refine fnD G scMW (fun ds w κ χ h => ?_) (fun cdv A outer s H E ds w0 κ χ hr h => ?_)
  · obtain ⟨sg, st, wo, fi, rfl, _⟩ := h
    rfl
  obtain ⟨sg, st, wo, fi, rfl, hz, k⟩ := h
  have nd := scMW.nd
  refine pssd_one (psd_ret ?_)
  refine pd_lc (own := [("told", 1)]) (is := [1]) rfl nd (blkOk_by rfl) (by decide) ?_
  refine it_list ?_
  refine pd_fld c.cl c.nWo ?_
  refine pd_var (i := 0) rfl rfl ?_
  refine ⟨_, fld_wo, ?_⟩
  refine ⟨_, rfl, ?_⟩
  refine lcd_map (xs := wo) (g := fun x => .lst (x.map DL.T)) (fun x => .lst (x.map DL.T)) (by rw [sizeLine_eq]; omega) (fun x hx s2 H0 C1 cl1 fp1 => ?_) k
  refine pgl_name (i := 1) nd rfl ?_
  intro s3 H0 C1 cl1 fp1
  refine ptsd_nil ?_
  intro s3 H0 C1 cl1 fp1
  refine pd_callTy call_list_of rfl hm.list bt_listC ?_
  (refine pad_cons ?_; refine pd_var (i := 1) rfl rfl ?_)
  refine pad_nil ?_
  exact va_listS ⟨rfl, rfl, rfl⟩
theorem ok_mwoO {f : Addr} {fd : FuncData} (G : Fun K "words" "Machine.words" sMW f fd) (hm : Nm35 mg) (c : MchC K C) : FnOk P w K mg base CX0 1 f fd ["self"] (spOf K T (spMWoO C)) := by
  refine fnD G scMW (fun ds w κ χ h => ?_) (fun cdv A outer s H E ds w0 κ χ hr h => ?_)
  · obtain ⟨sg, st, wo, fi, rfl, _⟩ := h
    rfl
  obtain ⟨sg, st, wo, fi, rfl, hz, k⟩ := h
  have nd := scMW.nd
  have e1 : woD wo = .lst ((wo.map fun x => x.map DL.T).map D.lst) := by
    unfold woD
    rw [List.map_map]
    rfl
  refine pssd_one (psd_ret ?_)
  refine pd_lcO (own := [("told", 1)]) (is := [1]) rfl nd (blkOk_by rfl) (by decide) ?_
  refine it_list ?_
  refine pd_fld c.cl c.nWo ?_
  refine pd_var (i := 0) rfl rfl ?_
  refine ⟨_, fld_wo, ?_⟩
  refine ⟨_, e1, ?_⟩
  refine lcd_own (by rw [List.length_map, sizeLine_eq]; omega) (fun x hx w' s H0 C cl fp => ?_) fun bs w1 ow a na => k bs w1 a ow na
  refine pgl_name (i := 1) nd rfl ?_
  intro s H0 C cl fp
  refine ptsd_nil ?_
  rw [if_pos rfl]
  intro s H0 C cl fp
  refine pd_callTy call_list_of rfl hm.list bt_listC ?_
  (refine pad_cons ?_; refine pd_var (i := 1) rfl rfl ?_)
  refine pad_nil ?_
  exact va_listO fun b n => ⟨b, rfl, n, rfl⟩
theorem ok_mlen {f : Addr} {fd : FuncData} (G : Fun K "__len__" "Machine.__len__" sMLen f fd) (hm : Nm35 mg) (c : MchC K C) : FnOk P w K mg base CX0 1 f fd ["self"] (spOf K T (spMLen C)) := by
  refine fnD G scMLen (fun ds w κ χ h => ?_) (fun cdv A outer s H E ds w0 κ χ hr h => ?_)
  · obtain ⟨sg, st, wo, fi, rfl, _⟩ := h
    rfl
  obtain ⟨sg, st, wo, fi, rfl, k⟩ := h
  refine pssd_one (psd_ret ?_)
  refine pd_callB call_len_seq rfl hm.len PySem.boot_len ?_
  refine pad_cons ?_
  refine pd_fld c.cl c.nSt ?_
  refine pd_var (i := 0) rfl rfl ?_
  refine ⟨_, fld_st, ?_⟩
  refine pad_nil ?_
  refine va_len ?_
  rw [List.length_map]
  exact k
end
end Tw

set_option Elab.async false
set_option linter.all false
set_option maxRecDepth 100000
set_option maxHeartbeats 4000000
/-! k35: Machine: _way, after, __call__. -/
namespace Tw
open PySem PySem.Spec PyProof.Rows L2 LamX DL
/-- one sign further -/
structure StepOk (sg : Str) (st : List (List Int)) (wo : List (List Str)) (f : Nat) (row : Str) (i c : Nat) : Prop where
  ex : ∃ (x : List Int) (y : List Str) (v : Str), st[sttS sg st wo f row i]? = some x ∧ wo[sttS sg st wo f row i]? = some y ∧ x[(cl sg).idxOf c]? = some (sttS sg st wo f row (i + 1) : Int) ∧ y[(cl sg).idxOf c]? = some v ∧ (runS sg st wo f ((cl row).take (i + 1))).1 = (runS sg st wo f ((cl row).take i)).1 ++ [v]
theorem step_ok {sg : Str} {st : List (List Int)} {wo : List (List Str)} {f : Nat} {row : Str} (M : MRow sg st wo f row) {i c : Nat} (hc : (cl row)[i]? = some c) (hin : ∀ d ∈ (cl row).take i, d ∈ cl sg) (hcs : c ∈ cl sg) : StepOk sg st wo f row i c := by
  obtain ⟨m, pool, hP, hf, hm9⟩ := M.pt
  have ll : (cl sg).length = sg.length := Array.length_toList
  have tk : (cl row).take (i + 1) = (cl row).take i ++ [c] := by rw [List.take_add_one, hc]; rfl
  have sl := run_lt hP (cs := (cl row).take i) hf hin
  have hs := run_snoc (sg := sg) (st := st) (wo := wo) (c := c) (cs := (cl row).take i) (s := f)
  rw [← tk] at hs
  have lp : (cl sg).idxOf c < (cl sg).length := List.idxOf_lt_length_of_mem hcs
  refine ⟨?_⟩
  unfold sttS
  rw [hs]
  generalize (cl sg).idxOf c = p at lp hs ⊢
  generalize runS sg st wo f ((cl row).take i) = r at sl hs ⊢
  obtain ⟨rw_, rs⟩ := r
  have rs' : rs < m := sl
  have hst : rs < st.length := by rw [hP.ls]; exact rs'
  have hwo : rs < wo.length := by rw [hP.lw]; exact rs'
  have r1 := hP.rs _ (List.getElem_mem hst)
  have r2 := hP.rw _ (List.getElem_mem hwo)
  have q1 : p < st[rs].length := by rw [r1.1]; omega
  have q2 : p < wo[rs].length := by rw [r2.1]; omega
  have v1 : (wo.getD rs []).getD p "" = wo[rs][p] := by
    have e1 : wo.getD rs [] = wo[rs] := by
      rw [List.getD_eq_getElem?_getD, List.getElem?_eq_getElem hwo]
      rfl
    rw [e1, List.getD_eq_getElem?_getD, List.getElem?_eq_getElem q2]
    rfl
  have v2 : (st.getD rs []).getD p 0 = st[rs][p] := by
    have e1 : st.getD rs [] = st[rs] := by
      rw [List.getD_eq_getElem?_getD, List.getElem?_eq_getElem hst]
      rfl
    rw [e1, List.getD_eq_getElem?_getD, List.getElem?_eq_getElem q1]
    rfl
  have pos := (r1.2 _ (List.getElem_mem q1)).1
  refine ⟨st[rs], wo[rs], wo[rs][p], List.getElem?_eq_getElem hst, List.getElem?_eq_getElem hwo, ?_, List.getElem?_eq_getElem q2, ?_⟩
  · rw [List.getElem?_eq_getElem q1]
    show some (st[rs][p]) = some (((st.getD rs []).getD p 0).toNat : Int)
    rw [v2]
    congr 1
    omega
  · show rw_ ++ [(wo.getD rs []).getD p ""] = rw_ ++ [wo[rs][p]]
    rw [v1]
section
variable {P : Program} {w : PySem.World} {K : PySem.W.Frag} {mg : Str → Option Value} {base : Heap} {T : List (Addr × Str)} {C CU CB : Addr}
theorem ok_mway {f : Addr} {fd : FuncData} (G : Fun K "_way" "Machine._way" sMWay f fd) (c : MchC K C) (hC : HasF P w K mg base T (L2N.CX P w) "check_row" 3 ["row", "signs"] (spCkRow CU)) : FnOk P w K mg base (L2N.CX P w) 4 f fd ["self", "row"] (spOf K T (spMWay C CU)) := by
  refine fnXN G scMWay (fun ds w κ χ h => ?_) (fun cdv A outer s H E ds w0 κ χ hr h => ?_)
  · obtain ⟨sg, st, wo, fi, row, rfl, _⟩ := h
    rfl
  obtain ⟨sg, st, wo, fi, row, rfl, hM, k1, k2⟩ := h
  have nd := scMWay.nd
  have rl := hM.rl
  have lr : (cl row).length = row.length := Array.length_toList
  refine pssd_cons (psd_expr ?_)
  refine pd_has hC hr passX ?_
  (refine pad_cons ?_; refine pd_var (i := 1) rfl rfl ?_)
  refine pad_cons ?_
  refine pd_fld c.cl c.nSg ?_
  refine pd_var (i := 0) rfl rfl ?_
  refine ⟨_, fld_sg, ?_⟩
  refine pad_nil ?_
  refine ⟨row, sg, rfl, hM.rl, hM.oc, fun hin => ?_, fun i c h1 h2 h3 => k2 i c ⟨h1, h2, h3⟩⟩
  refine pssd_cons (psd_set (i := 2) nd rfl ?_)
  refine pd_lstO ?_
  refine pad_cons ?_
  refine pd_fld c.cl c.nFi ?_
  refine pd_var (i := 0) rfl rfl ?_
  refine ⟨_, fld_fi, ?_⟩
  refine pad_nil ⟨by show 1 ≤ sizeLine; decide, fun a na => ?_⟩
  refine pssd_cons (psd_for (passes_of rfl) rfl ?_)
  refine it_str ?_
  refine pd_var (i := 1) rfl rfl ?_
  refine ⟨row, rfl, ?_⟩
  refine ⟨fun i δ' w' => ∃ x3 : Option D, δ' = [some (mchD C sg st wo (fi : Int)), some (DL.T row), some (R a), x3] ∧ w' = wu w0 a (.lst (waysD sg st wo fi row (i + 1))), ⟨none, rfl, rfl⟩, ?_, ?_⟩
  · rintro i d δ' w' hd ⟨x3, rfl, rfl⟩
    rw [List.getElem?_map] at hd
    cases e : (cl row)[i]? with
    | none =>
      rw [show row.cps.toList[i]? = none from e] at hd
      cases hd
    | some ch =>
      rw [show row.cps.toList[i]? = some ch from e] at hd
      cases hd
      have hc := hin ch (List.mem_of_getElem? e)
      have lt := (List.getElem?_eq_some_iff.mp e).1
      obtain ⟨x, y, v, g1, g2, g3, g4, g5⟩ := (step_ok hM e (fun d hd => hin d (List.mem_of_mem_take hd)) hc).ex
      refine pgd_name (i := 3) nd rfl ?_
      refine pssd_one (psd_expr ?_)
      refine pd_bm PySem.F.plainAttrs_list PySem.F.slot_list_append PySem.F.type_list_append mt_append ?_
      refine pd_var (i := 2) rfl rfl ?_
      refine ⟨⟨rfl, _, wu_same⟩, ?_⟩
      refine pad_cons ?_
      refine pd_ix ix_list ?_
      refine pd_ix ix_list ?_
      refine pd_fld c.cl c.nSt ?_
      refine pd_var (i := 0) rfl rfl ?_
      refine ⟨_, fld_st, ?_⟩
      refine pd_ix ix_list ?_
      refine pd_var (i := 2) rfl rfl ?_
      refine pd_un un_neg ?_
      refine pd_int ?_
      refine vr_U ?_
      refine vr_ixLast (ds := waysD sg st wo fi row i) (d := I (sttS sg st wo fi row i : Int)) (.inr ⟨a, rfl, by rw [wu_same, ways_succ]⟩) ?_
      refine vr_ixL (i := sttS sg st wo fi row i) (d := .lst (x.map I)) (by rw [List.getElem?_map, g1]; rfl) ?_
      refine pd_bm PySem.F.plainAttrs_str PySem.F.slot_str_find PySem.F.type_str_find mt_find ?_
      refine pd_fld c.cl c.nSg ?_
      refine pd_var (i := 0) rfl rfl ?_
      refine ⟨_, fld_sg, ?_⟩
      refine ⟨rfl, ?_⟩
      (refine pad_cons ?_; refine pd_var (i := 3) rfl rfl ?_)
      refine pad_nil (vm_find1 hc ?_)
      refine vr_ixL (i := (cl sg).idxOf ch) (d := I (sttS sg st wo fi row (i + 1) : Int)) (by rw [List.getElem?_map, g3]; rfl) ?_
      refine pad_nil ?_
      refine vm_append wu_same (by rw [ways_len, sizeLine_eq]; omega) ?_
      rw [wu_wu, ← ways_succ]
      exact ⟨_, rfl, rfl⟩
  · rintro δ' w' ⟨x3, rfl, rfl⟩
    rw [List.length_map, show row.cps.toList.length = row.length from lr]
    refine pssd_freeze 2 rfl wu_same ?_
    rw [wd_wu na]
    refine pssd_one (psd_ret ?_)
    refine pd_var (i := 2) rfl rfl ?_
    exact k1 hin
theorem ok_maft {f : Addr} {fd : FuncData} (G : Fun K "after" "Machine.after" sMA f fd) (c : MchC K C) (hW : HasM P w K mg base T (L2N.CX P w) C "_way" 4 ["self", "row"] (spMWay C CU)) : FnOk P w K mg base (L2N.CX P w) 5 f fd ["self", "row"] (spOf K T (spMAft C CU)) := by
  refine fnXN G scMA (fun ds w κ χ h => ?_) (fun cdv A outer s H E ds w0 κ χ hr h => ?_)
  · obtain ⟨sg, st, wo, fi, row, rfl, _⟩ := h
    rfl
  obtain ⟨sg, st, wo, fi, row, rfl, hM, k1, k2⟩ := h
  refine pssd_one (psd_ret ?_)
  refine pd_ix ix_list ?_
  refine pd_hasm c.cl hW hr passX ?_
  refine pd_var (i := 0) rfl rfl ?_
  refine ⟨ins_m (by decide +kernel), ?_⟩
  (refine pad_cons ?_; refine pd_var (i := 1) rfl rfl ?_)
  refine pad_nil ?_
  refine ⟨sg, st, wo, fi, row, rfl, hM, fun hin => ?_, k2⟩
  refine pd_un un_neg ?_
  refine pd_int ?_
  refine vr_U ?_
  refine vr_ixLast (ds := waysD sg st wo fi row row.length) (d := I (sttS sg st wo fi row row.length : Int)) (.inl (by rw [ways_succ])) ?_
  have e : sttS sg st wo fi row row.length = (runS sg st wo fi (cl row)).2 := by
    unfold sttS
    rw [← show (cl row).length = row.length from Array.length_toList, List.take_length]
  rw [e]
  exact k1 hin
theorem ok_mcal {f : Addr} {fd : FuncData} (G : Fun K "__call__" "Machine.__call__" sMCall f fd) (hm : Nm35 mg) (c : MchC K C) (hW : HasM P w K mg base T (L2N.CX P w) C "_way" 4 ["self", "row"] (spMWay C CU)) : FnOk P w K mg base (L2N.CX P w) 5 f fd ["self", "row"] (spOf K T (spMCal C CU)) := by
  refine fnXN G scMCall (fun ds w κ χ h => ?_) (fun cdv A outer s H E ds w0 κ χ hr h => ?_)
  · obtain ⟨sg, st, wo, fi, row, rfl, _⟩ := h
    rfl
  obtain ⟨sg, st, wo, fi, row, rfl, hM, k1, k2⟩ := h
  have nd := scMCall.nd
  have rl := hM.rl
  have lr : (cl row).length = row.length := Array.length_toList
  refine pssd_one (psd_ret ?_)
  refine pd_lcO (own := [("state", 2), ("sign", 3)]) (is := [2, 3]) rfl nd (blkOk_by rfl) (by decide) ?_
  refine it_zipS hm.zip ?_
  refine pad_cons ?_
  refine pd_hasm c.cl hW hr passX ?_
  refine pd_var (i := 0) rfl rfl ?_
  refine ⟨ins_m (by decide +kernel), ?_⟩
  (refine pad_cons ?_; refine pd_var (i := 1) rfl rfl ?_)
  refine pad_nil ?_
  refine ⟨sg, st, wo, fi, row, rfl, hM, fun hin => ?_, k2⟩
  (refine pad_cons ?_; refine pd_var (i := 1) rfl rfl ?_)
  refine pad_nil ⟨_, _, _, _, rfl, .l _, .s row, ?_⟩
  have zl : (zipD (waysD sg st wo fi row (row.length + 1)) (row.cps.toList.map fun c => DL.T ⟨#[c]⟩)).length = row.length := by
    rw [zipD_len, ways_len, List.length_map, show row.cps.toList.length = row.length from lr]
    omega
  refine ⟨by rw [zl, sizeLine_eq]; omega, fun i acc w' => w' = w0 ∧ acc = (runS sg st wo fi ((cl row).take i)).1.map DL.T, ⟨rfl, rfl⟩, ?_, ?_⟩
  · rintro i d acc w' hd ⟨rfl, rfl⟩ s2 H0 C1 cl1 fp1
    obtain ⟨d1, d2, e1, e2, rfl⟩ := zipD_at hd
    rw [List.getElem?_map] at e2
    cases e : (cl row)[i]? with
    | none =>
      rw [show row.cps.toList[i]? = none from e] at e2
      cases e2
    | some ch =>
      rw [show row.cps.toList[i]? = some ch from e] at e2
      cases e2
      have lt := (List.getElem?_eq_some_iff.mp e).1
      have ed : d1 = I (sttS sg st wo fi row i : Int) := by
        unfold waysD at e1
        rw [List.getElem?_map, List.getElem?_range (by omega)] at e1
        cases e1
        rfl
      subst ed
      have hc := hin ch (List.mem_of_getElem? e)
      obtain ⟨x, y, v, g1, g2, g3, g4, g5⟩ := (step_ok hM e (fun d hd => hin d (List.mem_of_mem_take hd)) hc).ex
      refine pgl_two (i := 2) (j := 3) rfl ?_
      refine pgl_name (i := 2) nd rfl ?_
      refine pgl_name (i := 3) nd rfl ?_
      intro s3 H0 C1 cl1 fp1
      refine ptsd_nil ?_
      rw [if_pos rfl]
      intro s3 H0 C1 cl1 fp1
      refine pd_ix ix_list ?_
      refine pd_ix ix_list ?_
      refine pd_fld c.cl c.nWo ?_
      refine pd_var (i := 0) rfl rfl ?_
      refine ⟨_, fld_wo, ?_⟩
      refine pd_var (i := 2) rfl rfl ?_
      refine vr_ixL (i := sttS sg st wo fi row i) (d := .lst (y.map DL.T)) (by rw [List.getElem?_map, g2]; rfl) ?_
      refine pd_bm PySem.F.plainAttrs_str PySem.F.slot_str_find PySem.F.type_str_find mt_find ?_
      refine pd_fld c.cl c.nSg ?_
      refine pd_var (i := 0) rfl rfl ?_
      refine ⟨_, fld_sg, ?_⟩
      refine ⟨rfl, ?_⟩
      (refine pad_cons ?_; refine pd_var (i := 3) rfl rfl ?_)
      refine pad_nil (vm_find1 hc ?_)
      refine vr_ixL (i := (cl sg).idxOf ch) (d := DL.T v) (by rw [List.getElem?_map, g4]; rfl) ?_
      refine ⟨rfl, ?_⟩
      rw [g5, List.map_append]
      rfl
  · rintro acc w' ⟨rfl, rfl⟩ a na
    have := k1 hin a na
    rw [zl, ← lr, List.take_length]
    exact this
end
end Tw

set_option Elab.async false
set_option linter.all false
set_option maxRecDepth 100000
set_option maxHeartbeats 4000000
/-! k35: Machine: ==, !=. -/
namespace Tw
open PySem PySem.Spec PyProof.Rows L2 LamX DL
section
variable {P : Program} {w : PySem.World} {K : PySem.W.Frag} {mg : Str → Option Value} {base : Heap} {T : List (Addr × Str)} {C CU CB : Addr}
theorem ok_meq {f : Addr} {fd : FuncData} (G : Fun K "__eq__" "Machine.__eq__" sMEq f fd) (hm : Nm35 mg) (c : MchC K C) (q : MchQ K C) (hS : mg "Machine" = some (.ref C)) : FnOk P w K mg base CX0 1 f fd ["self", "other"] (spOf K T (spMEq C)) := by
  refine fnD G scMEq (fun ds w κ χ h => ?_) (fun cdv A outer s H E ds w0 κ χ hr h => ?_)
  · obtain ⟨sg, st, wo, fi, e, rfl, _⟩ := h
    rfl
  obtain ⟨sg, st, wo, fi, e, rfl, oc, h⟩ := h
  have hu := hr.units
  refine pssd_one (psd_ret ?_)
  refine pd_and ?_
  refine pd_callB call_isi rfl hm.isinstance PyProof.Rows.boot_isinstance ?_
  (refine pad_cons ?_; refine pd_var (i := 1) rfl rfl ?_)
  refine pad_cons ?_
  refine pd_glob (v := .ref C) hS rfl ?_
  refine pad_nil ?_
  rcases h with ⟨sg2, st2, wo2, fi2, rfl, oc2, k⟩ | ⟨n, hn, h4, k⟩
  · refine va_isC (t := .ref C) (b := true) (.inr ⟨C, _, _, rfl, q.ci, rfl⟩) q.kC ?_
    refine ⟨_, rfl, ?_⟩
    refine iteT ?_
    unfold eqM at k
    refine pd_and ?_
    refine pd_cmp op_eq ?_
    refine pd_fld c.cl c.nSg ?_
    refine pd_var (i := 0) rfl rfl ?_
    refine ⟨_, fld_sg, ?_⟩
    refine pd_fld c.cl c.nSg ?_
    refine pd_var (i := 1) rfl rfl ?_
    refine ⟨_, fld_sg, ?_⟩
    refine vr_eqT _ rfl ⟨_, rfl, ?_⟩
    by_cases e1 : sg = sg2
    case neg =>
      rw [decide_eq_false e1] at k ⊢
      exact iteF k
    rw [decide_eq_true e1] at k ⊢
    refine iteT ?_
    refine pd_and ?_
    refine pd_cmp (op_eqD hu) ?_
    refine pd_fld c.cl c.nSt ?_
    refine pd_var (i := 0) rfl rfl ?_
    refine ⟨_, fld_st, ?_⟩
    refine pd_fld c.cl c.nSt ?_
    refine pd_var (i := 1) rfl rfl ?_
    refine ⟨_, fld_st, ?_⟩
    refine vr_eqLP (xs := st) (ys := st2) pyI1 (by decide) (fun _ _ _ _ => trivial) (fun _ _ _ _ => trivial) ⟨_, rfl, ?_⟩
    by_cases e2 : st = st2
    case neg =>
      rw [decide_eq_false e2] at k ⊢
      exact iteF k
    rw [decide_eq_true e2] at k ⊢
    refine iteT ?_
    refine pd_and ?_
    refine pd_cmp (op_eqD hu) ?_
    refine pd_fld c.cl c.nWo ?_
    refine pd_var (i := 0) rfl rfl ?_
    refine ⟨_, fld_wo, ?_⟩
    refine pd_fld c.cl c.nWo ?_
    refine pd_var (i := 1) rfl rfl ?_
    refine ⟨_, fld_wo, ?_⟩
    refine vr_eqLP (xs := wo) (ys := wo2) pyT1 (by decide) oc oc2 ⟨_, rfl, ?_⟩
    by_cases e3 : wo = wo2
    case neg =>
      rw [decide_eq_false e3] at k ⊢
      exact iteF k
    rw [decide_eq_true e3] at k ⊢
    refine iteT ?_
    refine pd_one ?_
    refine pd_cmp op_eq ?_
    refine pd_fld c.cl c.nFi ?_
    refine pd_var (i := 0) rfl rfl ?_
    refine ⟨_, fld_fi, ?_⟩
    refine pd_fld c.cl c.nFi ?_
    refine pd_var (i := 1) rfl rfl ?_
    refine ⟨_, fld_fi, ?_⟩
    refine vr_eq rfl ?_
    have e4 : decide (V.int fi = V.int fi2) = decide (fi = fi2) := decide_eq_decide.mpr ⟨fun z => V.int.inj z, fun z => by rw [z]⟩
    rw [e4]
    exact k
  · refine va_isC (t := .type n) (b := false) (.inl ⟨n, hn, rfl⟩) (q.kt n h4) ?_
    refine ⟨_, rfl, ?_⟩
    refine iteF ?_
    exact k
/-- the class's == stands -/
def HasEq (P : Program) (w : PySem.World) (K : PySem.W.Frag) (mg : Str → Option Value) (base : Heap) (T : List (Addr × Str)) (C : Addr) (m : Str) (k : Nat) (sp : SpD) : Prop :=
  ∃ f fd, FnOk P w K mg base CX0 k f fd ["self", "other"] (spOf K T sp) ∧ PySem.W.findIn K (.ref C) m = some (some (.ref f)) ∧ PySem.W.isFn K (.ref f) = true ∧ L2.Binds K fd ["self", "other"] []
theorem ok_mne {f : Addr} {fd : FuncData} (G : Fun K "__ne__" "Machine.__ne__" sMNe f fd) (q : MchQ K C) (hE : HasEq P w K mg base T C "__eq__" 1 (spMEq C)) : FnOk P w K mg base CX0 2 f fd ["self", "other"] (spOf K T (spMNe C)) := by
  refine fnD G scMNe (fun ds w κ χ h => ?_) (fun cdv A outer s H E ds w0 κ χ hr h => ?_)
  · obtain ⟨sg, st, wo, fi, e, rfl, _⟩ := h
    rfl
  obtain ⟨sg, st, wo, fi, e, rfl, oc, h⟩ := h
  obtain ⟨fE, fdE, h1, h2, h2f, h3⟩ := hE
  refine pssd_one (psd_ret ?_)
  refine pd_not ?_
  refine pd_cmp (op_own (op := .Eq) (fun _ _ => rfl) h1 hr h2 h2f h3) ?_
  refine pd_var (i := 0) rfl rfl ?_
  refine pd_var (i := 1) rfl rfl ?_
  rcases h with ⟨sg2, st2, wo2, fi2, rfl, oc2, k⟩ | ⟨n, hn, h4, k⟩
  · refine vr_own (t := .ref C) ⟨_, _, rfl⟩ (.inr ⟨C, _, _, rfl, q.ci, rfl⟩) q.nfC ?_
    exact ⟨sg, st, wo, fi, _, rfl, oc, .inl ⟨sg2, st2, wo2, fi2, rfl, oc2, _, rfl, _, rfl, k⟩⟩
  · refine vr_own (t := .type n) ⟨_, _, rfl⟩ (.inl ⟨n, hn, rfl⟩) (q.nf n h4) ?_
    exact ⟨sg, st, wo, fi, _, rfl, oc, .inr ⟨n, hn, h4, _, rfl, _, rfl, k⟩⟩
end
end Tw

set_option Elab.async false
set_option linter.all false
set_option maxRecDepth 100000
set_option maxHeartbeats 2000000
/-! try with one named clause, the error's context known; isinstance and fields of a caught error. -/
namespace DL
open PySem PySem.Spec PyProof.Rows L2 LamX
abbrev TSn := Addr → Value → Option Addr → TS
/-- a suite's weakest reading -/
def tsN (X : Cx) (sts : List Stmt) : TSn := fun a cls d D σ H => ∀ (oe : Obj) (pn : List (Addr × Obj)), L2N.Zn cls d oe → (∃ vs, oe.data = .fields vs) → wpSs (X.suite a ((a, oe) :: pn)) sts D σ H
theorem suN {X : Cx} {sts : List Stmt} (a : Addr) (oe : Obj) (cls : Value) (d : Option Addr) (pn : List (Addr × Obj)) (hz : L2N.Zn cls d oe) (hf : ∃ vs, oe.data = .fields vs) : PSs (X.suite a ((a, oe) :: pn)) sts (tsN X sts a cls d) := ⟨fun pins s _ _ _ I h => h oe pn hz hf pins s I⟩
theorem psd_tryN {X : Cx} {T : List (Addr × Str)} {W Wout : WX} {χ0 χ : XD} {δ : Dn} {w : Wp} {body r1 : List Stmt} {s1 : Stmt} {x1 n : Str} {i : Nat} {C1 : Addr} {np1 hp1 pos : Pos} {C : DL.Fin}
    (hs : X.stack = X.env :: X.outer) (hf : X.env.frame = some X.env.locals) (hN : X.N.Nodup) (tk : L2N.Takes X Wout) (nm1 : Names X x1 (.ref C1)) (hi : X.N[i]? = some n) (hl : X.env.kindOf n = some .local)
    (hb : ∀ (W' : WX) (pn : List (Addr × Obj)) (xe : Value → Shared → Prop), L2N.Takes (X.tr pn xe) W' → PSsD (X.tr pn xe) T W' χ body δ w C)
    (hc : ∀ C0 ns ds w', χ C0 ns ds w' → PySem.W.exmOne X.K (.ref C0) (.ref C1) = some true ∧ ∀ (a dd : Addr) (oe : Obj) (pn : List (Addr × Obj)), L2N.Zn (.ref C0) (some dd) oe → (∃ vs, oe.data = .fields vs) →
      PSsD (X.suite a ((a, oe) :: pn)) T Wf noX (s1 :: r1) ((List.replicate X.N.length none).set i (some (.exc a dd ns ds))) w' { nx := fun _ _ => False, rt := C.rt }) :
    PSD X T W χ0 (.Try body [.ExceptHandler (some (.Name x1 np1)) (some n) (s1 :: r1) hp1] [] [] pos) δ w C := fun F σ S H E hE hW hX hK => by
  refine wp_ps (L2N.ps_try_as (X := X) hs hf hN hi hl nm1 tk (tb := fun W' D σ1 H1 => ∃ S1, EnvD X.K S1 δ σ1 ∧ World X.K T S1 w F H1 ∧ (∀ σ2, ExD X.K T W' χ σ2 S1 F) ∧ KE X T C S1 F D)
    (fun W' pn xe tk' _ => ⟨fun pins s σ1 H1 D I ⟨S1, h1, h2, h3, h4⟩ => hb W' pn xe tk' F σ1 S1 H1 D h1 h2 h3 ⟨h4.nx, h4.rt, h4.bk, h4.ct⟩ pins s I⟩) suN) ?_
  refine ⟨S, hE, hW, fun σ2 C0 ns ds w' d S' H' hx e1 W1 xr => ?_, hK⟩
  obtain ⟨m1, m2⟩ := hc C0 ns ds w' hx
  refine ⟨true, m1, fun _ a na oe pn hz hf2 pins s I => ?_, fun z => by cases z⟩
  have hlen : σ2.length = X.N.length := by
    have e : (σ2.set i (some (V.ref a))).length = X.N.length := I.len
    rw [List.length_set] at e
    exact e
  have li : i < X.N.length := (List.getElem?_eq_some_iff.mp hi).1
  have env : EnvD X.K S' ((List.replicate X.N.length none).set i (some (.exc a d ns ds))) (σ2.set i (some (.ref a))) := by
    refine ⟨by rw [List.length_set, List.length_set, List.length_replicate]; exact hlen.symm, fun j e he => ?_⟩
    by_cases q : j = i
    · subst q
      rw [List.getElem?_set_self (by rw [List.length_replicate]; exact li)] at he
      cases he
      obtain ⟨ys, e1, e2, e3⟩ := xr
      exact ⟨.ref a, List.getElem?_set_self (by omega), ys, rfl, e1, e2, e3⟩
    · rw [List.getElem?_set_ne (Ne.symm q)] at he
      rw [List.getElem?_replicate] at he
      split at he <;> cases he
  exact m2 a d oe pn hz hf2 F _ S' H' ⟨fun σ' H' => E.nx (σ'.set i none) H', E.rt, fun σ' H' => E.bk (σ'.set i none) H', fun σ' H' => E.ct (σ'.set i none) H'⟩ env W1 exsf ⟨fun _ _ _ _ _ z => z.elim, hK.rt.mono e1, fun _ _ _ _ _ z => z.elim, fun _ _ _ _ _ z => z.elim⟩ pins s I
/-- try: e / except C as n: suite; what the names stand for is kept -/
theorem psd_tryE {X : Cx} {T : List (Addr × Str)} {W Wout : WX} {χ0 χ : XD} {δ : Dn} {w : Wp} {e : Expr} {ep : Pos} {r1 : List Stmt} {s1 : Stmt} {x1 n : Str} {i : Nat} {C1 : Addr} {np1 hp1 pos : Pos} {C : DL.Fin}
    (hs : X.stack = X.env :: X.outer) (hf : X.env.frame = some X.env.locals) (hN : X.N.Nodup) (tk : L2N.Takes X Wout) (nm1 : Names X x1 (.ref C1)) (hi : X.N[i]? = some n) (hl : X.env.kindOf n = some .local)
    (hb : ∀ (W' : WX) (pn : List (Addr × Obj)) (xe : Value → Shared → Prop), L2N.Takes (X.tr pn xe) W' → PD (X.tr pn xe) T W' χ e δ w fun _ w' => C.nx δ w')
    (hc : ∀ C0 ns ds w', χ C0 ns ds w' → PySem.W.exmOne X.K (.ref C0) (.ref C1) = some true ∧ ∀ (a dd : Addr) (oe : Obj) (pn : List (Addr × Obj)), L2N.Zn (.ref C0) (some dd) oe → (∃ vs, oe.data = .fields vs) →
      PSsD (X.suite a ((a, oe) :: pn)) T Wf noX (s1 :: r1) (δ.set i (some (.exc a dd ns ds))) w' { nx := fun δ' w2 => C.nx (δ'.set i none) w2, rt := C.rt })
    (hsw : ∀ pn xe, swapsWith e none ep.line (X.tr pn xe).env = pure false := by intros; rfl) :
    PSD X T W χ0 (.Try [.Expr e ep] [.ExceptHandler (some (.Name x1 np1)) (some n) (s1 :: r1) hp1] [] [] pos) δ w C := fun F σ S H E hE hW hX hK => by
  refine wp_ps (L2N.ps_try_as (X := X) hs hf hN hi hl nm1 tk (tb := fun W' D σ1 H1 => σ1 = σ ∧ H1 = H ∧ ExD X.K T W' χ σ S F ∧ KE X T C S F D)
    (fun W' pn xe tk' _ => ⟨fun pins s σ1 H1 D I ⟨h1, h2, h3, h4⟩ => by
      subst h1 h2
      refine wp_pss (pss_one (ps_expr (pe_wp e) (hsw pn xe))) ?_ pins s I
      exact hb W' pn xe tk' F _ S _ _ hE hW h3 fun d w' v S' H' k s1 W1 r => h4.nx δ w' _ S' H' k s1 (hE.mono s1) W1⟩) suN) ?_
  refine ⟨rfl, rfl, fun C0 ns ds w' d S' H' hx e1 W1 xr => ?_, hK⟩
  obtain ⟨m1, m2⟩ := hc C0 ns ds w' hx
  refine ⟨true, m1, fun _ a na oe pn hz hf2 pins s I => ?_, fun z => by cases z⟩
  have env : EnvD X.K S' (δ.set i (some (.exc a d ns ds))) (σ.set i (some (.ref a))) := by
    obtain ⟨ys, q1, q2, q3⟩ := xr
    exact (hE.mono e1).set i ⟨ys, rfl, q1, q2, q3⟩
  exact m2 a d oe pn hz hf2 F _ S' H' ⟨fun σ' H' => E.nx (σ'.set i none) H', E.rt, fun σ' H' => E.bk (σ'.set i none) H', fun σ' H' => E.ct (σ'.set i none) H'⟩ env W1 exsf ⟨fun δ' w2 σ' S2 H2 k s2 e2 W2 => hK.nx _ w2 _ S2 H2 k (e1.trans s2) (EnvD.unset e2 i) W2, hK.rt.mono e1, fun _ _ _ _ _ z => z.elim, fun _ _ _ _ _ z => z.elim⟩ pins s I
/-- isinstance(e, c), e a caught error with fields -/
def rIsX (K : PySem.W.Frag) (D a : Addr) (d : Option Addr) : List V → Hp → VK → Prop := fun xs H Q => ∃ (c : V) (cv : Value) (b : Bool) (dd : Addr) (fs : List (Str × V)), xs = [.ref a, c] ∧ (∀ u, RelV c u → u = cv) ∧ PySem.W.kitOne K (.ref D) cv = some b ∧ d = some dd ∧ H dd = some (.xd fs) ∧ Q (.bl b) H
theorem call_isX {X : Cx} {a D : Addr} {d : Option Addr} {oe : Obj} {pn : List (Addr × Obj)} (C : L2.ExcC X.K D) (hz : Zc (.ref D) d oe) (hf : ∃ vs, oe.data = .fields vs) : CallR (X.suite a ((a, oe) :: pn)) (.builtin "isinstance") (rIsX X.K D a d) := by
  rintro pins s σ H xs us Q I r ⟨c, cv, b, dd, fs, rfl, hcv, e, rfl, hdd, q⟩
  obtain ⟨u1, u2, rfl, rx, rt⟩ : ∃ u1 u2, us = [u1, u2] ∧ RelV (.ref a) u1 ∧ RelV c u2 := by
    cases r with
    | cons rx rr =>
      cases rr with
      | cons rt rr =>
        cases rr
        exact ⟨_, _, rfl, rx, rt⟩
  cases (show u1 = Value.ref a from rx)
  cases hcv _ rt
  have hget := (I.pin (a, oe) (List.mem_append.mpr (.inl List.mem_cons_self))).1
  obtain ⟨vs, hv⟩ := hf
  obtain ⟨mA, hns, _⟩ := (show ObjOk X.prog X.w H s.heap dd (.xd fs) from I.hok dd _ hdd)
  obtain ⟨od, ho, _⟩ := lookIn_ns hns
  have J : PySem.W.InstAt s.heap a oe D (some od) := ⟨hget, hz.1, by unfold PySem.W.notCls; rw [hv] <;> rfl, by rw [hz.2]; exact ho⟩
  have hcl : (PySem.W.clsIn X.K D).isSome = true := by
    obtain ⟨cd, hc, _⟩ := PySem.W.any_some C.hd
    rw [hc]
    rfl
  exact PySem.W.kia_one (PySem.W.kitx_exc hcl C.hg C.hk C.hs C.ha C.hn C.ht C.hm) I.kIn J e (fun z => nomatch z) fun tk => ⟨.bl b, H, I.kept (t' := tk) fun _ _ z => z, rfl, q⟩
section
variable {K : PySem.W.Frag} {T : List (Addr × Str)} {w : Wp} {κ : D → Wp → Prop}
theorem va_isX {D0 a dd : Addr} {ns : List Str} {ds : List D} {c : V} {cv : Value} {b : Bool} (hc : ∀ u, RelV c u → u = cv) (hk : PySem.W.kitOne K (.ref D0) cv = some b) (k : κ (B b) w) : VRA K T (rIsX K D0 a (some dd)) [.exc a dd ns ds, .val c] w κ := by
  intro F S H xs Q hW r hK
  obtain ⟨x, ys, rfl, ⟨zs, rfl, h1, h2, h3⟩, y, us, rfl, h4, h5⟩ := r
  have h4' : y = c := h4
  have h5' : us = [] := h5
  subst h4' h5'
  exact ⟨y, cv, b, dd, zs, rfl, hc, hk, rfl, hW.same _ _ h1, hK _ w _ S H k (Same.refl _) hW rfl⟩
end
section
variable {X : Cx} {T : List (Addr × Str)} {W : WX} {χ : XD} {δ : Dn} {w : Wp} {pos : Pos}
theorem pd_xf {a dd C : Addr} {oe : Obj} {pn : List (Addr × Obj)} {e : Expr} {f : Str} {ns : List Str} {ds : List D} {κ : D → Wp → Prop} (TX : XfC X.K C) (hno : PySem.W.findIn X.K (.ref C) f = some none) (hz : Zc (.ref C) (some dd) oe) (hf : ∃ vs, oe.data = .fields vs)
    (h : PD (X.suite a ((a, oe) :: pn)) T W χ e δ w fun d w1 => d = .exc a dd ns ds ∧ ∃ u, look2 ns ds f = some u ∧ κ u w1) (hb : attributeBase e f X.env (eval e X.env) = eval e X.env := by rfl) : PD (X.suite a ((a, oe) :: pn)) T W χ (.Attribute e f pos) δ w κ := fun F σ S H Q hE hW hX hK => wp_pe (pe_xf TX hno hz hf (pe_wp e) hb) (by
  refine h F σ S H _ hE hW hX fun d w1 v S1 H1 k s1 W1 r => ?_
  obtain ⟨rfl, u, hl, k⟩ := k
  obtain ⟨ys, rfl, h1, rfl, h3⟩ := r
  obtain ⟨v, h4, h5⟩ := look2_at h3 hl
  exact ⟨rfl, rfl, dd, ys, v, rfl, W1.same _ _ h1, h4, hK u w1 v S1 H1 k s1 W1 h5⟩)
end
theorem takesN0 {X : Cx} : L2N.Takes X Wf := fun _ _ x => by
  obtain ⟨_, _, _, _, _, _, _, _, _, _, _, _, _, _, _, _, z⟩ := x
  exact z.elim
theorem bt_ve : bootBuiltins "ValueError" = some (.type "ValueError") := by decide +kernel
theorem rel_ref {C : Addr} : ∀ u, RelV (V.ref C) u → u = Value.ref C := fun u h => h
theorem rel_ty {n : String} : ∀ u, RelV (V.ty n) u → u = Value.type n := fun u h => h
end DL

set_option Elab.async false
set_option linter.all false
set_option maxRecDepth 100000
set_option maxHeartbeats 4000000
/-! k35: making machines; _law_machine. -/
namespace DL
open PySem PySem.Spec PyProof.Rows L2 LamX
theorem Lk.wu_new {w : Wp} {a : Addr} {h : HD} {ds : List D} {d : D} (ha : w a = none) (l : Lk w d ds) : Lk (wu w a h) d ds := by
  rcases l with rfl | ⟨b, rfl, hb⟩
  · exact .inl rfl
  · refine .inr ⟨b, rfl, ?_⟩
    rw [wu_ne fun z => by rw [z, ha] at hb; cases hb]
    exact hb
theorem LL.wu_new {w : Wp} {a : Addr} {h : HD} {xss : List (List D)} {d : D} (ha : w a = none) (l : LL w d xss) : LL (wu w a h) d xss := by
  obtain ⟨es, h1, h2, h3⟩ := l
  exact ⟨es, h1.wu_new ha, h2, fun j e x he hx => (h3 j e x he hx).wu_new ha⟩
end DL
namespace Tw
open PySem PySem.Spec PyProof.Rows L2 LamX DL
abbrev sLM : Stmt := top 18
/-- sizes that all checks can read -/
structure MPre (sg : Str) (st : List (List Int)) (wo : List (List Str)) : Prop where
  sl : sg.length ≤ 60
  stl : st.length ≤ 900
  wol : wo.length ≤ 900
  stn : ∀ x ∈ st, x.length ≤ 900
  won : ∀ x ∈ wo, x.length ≤ 900
  oc : Oc sg
/-- the class as it is made -/
def HasMi (P : Program) (w : PySem.World) (K : PySem.W.Frag) (mg : Str → Option Value) (base : Heap) (T : List (Addr × Str)) (C CB : Addr) : Prop :=
  ∃ f fd dv, FnOk P w K mg base (L2N.CX P w) 4 f fd ["self", "signs", "steps", "words", "first"] (spOf K T (spMI C CB)) ∧ mg "Machine" = some (.ref C) ∧ Mk K C f ∧ KBn K fd ["self", "signs", "steps", "words", "first"] 4 ["first"] (fun us ws => us ++ ws) (fun vs zs => vs ++ zs) ∧ Vals [V.int 0] dv ∧ L2.Binds K fd ["self", "signs", "steps", "words", "first"] dv
section
variable {X : Cx} {T : List (Addr × Str)} {W : WX} {χ : XD} {δ : Dn} {w : Wp} {pos : Pos} {C CB : Addr}
theorem mk_sp {w2 : Wp} {a dx : Addr} {sg : Str} {dS dW : D} {f : Int} {st : List (List Int)} {wo : List (List Str)} {κ : D → Wp → Prop} {χ : XD} (na : w2 a = none) (lS : LL w2 dS (st.map fun x => x.map I)) (lW : LL w2 dW (wo.map fun x => x.map DL.T)) (pre : MPre sg st wo)
    (k1 : faultM sg st wo f = none → κ (mchD C sg st wo f) w2) (k2 : ∀ x, faultM sg st wo f = some x → χ CB ["part"] [DL.T x] w2) :
    spMI C CB (R a :: ([DL.T sg, dS, dW] ++ [I f])) (wu w2 a (.ins C dx [] [])) (fun d w3 => d = N ∧ ∃ ns es, w3 a = some (.ins C dx ns es) ∧ κ (.obj C ns es) (wd w3 a)) (fun C ns fs w3 => χ C ns fs (wd w3 a)) := by
  obtain ⟨sl, stl, wol, stn, won, oc⟩ := pre
  refine ⟨a, dx, sg, dS, dW, f, st, wo, rfl, wu_same, lS.wu_new na, lW.wu_new na, sl, stl, wol, stn, won, oc, fun hf => ⟨rfl, _, _, wu_same, ?_⟩, fun x hx => ?_⟩
  · rw [wu_wu, wd_wu na]
    exact k1 hf
  · show χ CB ["part"] [DL.T x] (wd (wu w2 a _) a)
    rw [wd_wu na]
    exact k2 x hx
/-- Machine(e, e2, e3, first=e4) -/
theorem pd_mkM {e e2 e3 e4 : Expr} {p kp : Pos} {κ : D → Wp → Prop} (G : HasMi X.prog X.w X.K X.mg X.base T C CB) (hr : Room 5 X.A) (hx : ∀ σ, PassesAt (L2N.CX X.prog X.w) X σ (WE W σ))
    (h : PAD X T W χ [e, e2, e3] δ w fun ds w1 => ∃ (sg : Str) (dS dW : D), ds = [DL.T sg, dS, dW] ∧ PD X T W χ e4 δ w1 fun d w2 => ∃ (f : Int) (st : List (List Int)) (wo : List (List Str)), d = I f ∧ LL w2 dS (st.map fun x => x.map I) ∧ LL w2 dW (wo.map fun x => x.map DL.T) ∧ MPre sg st wo ∧
      (faultM sg st wo f = none → κ (mchD C sg st wo f) w2) ∧ ∀ x, faultM sg st wo f = some x → χ CB ["part"] [DL.T x] w2)
    (hg : Gl X "Machine" := by rfl) (hall : (backToKw pos (keywordEach [⟨some ("first" : Str), e4, kp⟩] X.env)).all (·.1.isSome) = true := by rfl) (hks : (backToKw pos (keywordEach [⟨some ("first" : Str), e4, kp⟩] X.env)).filterMap (·.1) = (["first"] : List Str) := by rfl)
    (he : starEach [e, e2, e3] X.env = (false, eval e X.env) :: starEach [e2, e3] X.env := by rfl) (hpl : ((backTo pos (starEach [e, e2, e3] X.env)).any (·.1) || (backToKw pos (keywordEach [⟨some ("first" : Str), e4, kp⟩] X.env)).any (·.1.isNone)) = false := by rfl) :
    PD X T W χ (.Call (.Name "Machine" p) [e, e2, e3] [⟨some ("first" : Str), e4, kp⟩] pos) δ w κ := by
  obtain ⟨f, fd, dv, g1, g2, g3, g4, g5, g6⟩ := G
  refine pd_makeKO (n := 3) g3 g1 hr g2 g4 hx ?_ hg (by decide) hall hks he hpl
  intro F σ S H Q hE hW hX hK
  refine h F σ S H Q hE hW hX fun ds w1 vs S1 H1 k s1 W1 r => ?_
  obtain ⟨sg, dS, dW, rfl, k⟩ := k
  refine hK _ w1 vs S1 H1 ⟨rfl, k.imp fun d w2 ⟨f, st, wo, e1, lS, lW, pre, k1, k2⟩ => ?_⟩ s1 W1 r
  subst e1
  exact ⟨rfl, fun a dx na => mk_sp na lS lW pre k1 k2⟩
/-- Machine(e, e2, e3) -/
theorem pd_mkD {e e2 e3 : Expr} {p : Pos} {κ : D → Wp → Prop} (G : HasMi X.prog X.w X.K X.mg X.base T C CB) (hr : Room 5 X.A) (hx : ∀ σ, PassesAt (L2N.CX X.prog X.w) X σ (WE W σ))
    (h : PAD X T W χ [e, e2, e3] δ w fun ds w2 => ∃ (sg : Str) (dS dW : D) (st : List (List Int)) (wo : List (List Str)), ds = [DL.T sg, dS, dW] ∧ LL w2 dS (st.map fun x => x.map I) ∧ LL w2 dW (wo.map fun x => x.map DL.T) ∧ MPre sg st wo ∧
      (faultM sg st wo 0 = none → κ (mchD C sg st wo 0) w2) ∧ ∀ x, faultM sg st wo 0 = some x → χ CB ["part"] [DL.T x] w2)
    (hg : Gl X "Machine" := by rfl) (he : starEach [e, e2, e3] X.env = (false, eval e X.env) :: starEach [e2, e3] X.env := by rfl) (hpl : (backTo pos (starEach [e2, e3] X.env)).any (·.1) = false := by rfl) :
    PD X T W χ (.Call (.Name "Machine" p) [e, e2, e3] [] pos) δ w κ := by
  obtain ⟨f, fd, dv, g1, g2, g3, g4, g5, g6⟩ := G
  refine pd_makeDf g3 g1 hr g2 g6 g5 hx ?_ hg (by decide) he hpl
  intro F σ S H Q hE hW hX hK
  refine h F σ S H Q hE hW hX fun ds w1 vs S1 H1 k s1 W1 r => ?_
  obtain ⟨sg, dS, dW, st, wo, rfl, lS, lW, pre, k1, k2⟩ := k
  exact hK _ w1 vs S1 H1 (fun a dx na => mk_sp na lS lW pre k1 k2) s1 W1 r
end
/-- a machine whose parts are without fault -/
def spLM (C : Addr) : SpD := fun ds w κ χ => ∃ (sg : Str) (st : List (List Int)) (wo : List (List Str)) (f : Int), ds = [partD sg st wo f] ∧ MPre sg st wo ∧ faultM sg st wo f = none ∧ κ (mchD C sg st wo f) w
section
variable {P : Program} {w : PySem.World} {K : PySem.W.Frag} {mg : Str → Option Value} {base : Heap} {T : List (Addr × Str)} {C CU CB : Addr}
theorem LL.st {w : Wp} {st : List (List Int)} : LL w (stD st) (st.map fun x => x.map I) := by
  have e : stD st = .lst ((st.map fun x => x.map I).map D.lst) := by
    unfold stD
    rw [List.map_map]
    rfl
  rw [e]
  exact LL.stand
theorem LL.wo {w : Wp} {wo : List (List Str)} : LL w (woD wo) (wo.map fun x => x.map DL.T) := by
  have e : woD wo = .lst ((wo.map fun x => x.map DL.T).map D.lst) := by
    unfold woD
    rw [List.map_map]
    rfl
  rw [e]
  exact LL.stand
theorem cpy_st {st : List (List Int)} {w : Wp} {κ : D → Wp → Prop} {χ : XD} (h : st.length ≤ 900) (k : κ (stD st) w) : spCpyS [stD st] w κ χ := by
  have e : stD st = .lst ((st.map fun x => x.map I).map D.lst) := by
    unfold stD
    rw [List.map_map]
    rfl
  exact ⟨_, by rw [e], by rw [List.length_map]; exact h, e ▸ k⟩
theorem cpy_wo {wo : List (List Str)} {w : Wp} {κ : D → Wp → Prop} {χ : XD} (h : wo.length ≤ 900) (k : κ (woD wo) w) : spCpyS [woD wo] w κ χ := by
  have e : woD wo = .lst ((wo.map fun x => x.map DL.T).map D.lst) := by
    unfold woD
    rw [List.map_map]
    rfl
  exact ⟨_, by rw [e], by rw [List.length_map]; exact h, e ▸ k⟩
theorem scLM : FnScope ["parts"] ["parts"] (defScope sLM) := ⟨rfl, rfl, rfl, by decide +kernel, rfl, by decide +kernel, by decide +kernel⟩
theorem ok_lm {f : Addr} {fd : FuncData} (G : Fun K "_law_machine" "_law_machine" sLM f fd) (hC : HasF P w K mg base T CX0 "_law_copy" 1 ["lines"] spCpyS) (hM : HasMi P w K mg base T C CB) : FnOk P w K mg base CX0 6 f fd ["parts"] (spOf K T (spLM C)) := by
  refine fnD G scLM (fun ds w κ χ h => ?_) (fun cdv A outer s H E ds w0 κ χ hr h => ?_)
  · obtain ⟨sg, st, wo, fi, rfl, _⟩ := h
    rfl
  obtain ⟨sg, st, wo, fi, rfl, pre, hf, k⟩ := h
  refine pssd_one (psd_ret ?_)
  refine pd_mkM (C := C) (CB := CB) hM hr (fun _ => passLf) ?_
  refine pad_cons ?_
  (refine pd_ix ix_list ?_; refine pd_var (i := 0) rfl rfl ?_; refine pd_int ?_; refine vr_ixL (i := 0) rfl ?_)
  refine pad_cons ?_
  refine pd_has hC (hr.mono (by decide)) (fun _ => pass0At) ?_
  refine pad_cons ?_
  (refine pd_ix ix_list ?_; refine pd_var (i := 0) rfl rfl ?_; refine pd_int ?_; refine vr_ixL (i := 1) rfl ?_)
  refine pad_nil (cpy_st pre.stl ?_)
  refine pad_cons ?_
  refine pd_has hC (hr.mono (by decide)) (fun _ => pass0At) ?_
  refine pad_cons ?_
  (refine pd_ix ix_list ?_; refine pd_var (i := 0) rfl rfl ?_; refine pd_int ?_; refine vr_ixL (i := 2) rfl ?_)
  refine pad_nil (cpy_wo pre.wol ?_)
  refine pad_nil ⟨sg, _, _, rfl, ?_⟩
  (refine pd_ix ix_list ?_; refine pd_var (i := 0) rfl rfl ?_; refine pd_int ?_; refine vr_ixL (i := 3) rfl ?_)
  exact ⟨fi, st, wo, rfl, LL.st, LL.wo, pre, fun _ => k, fun x hx => by rw [hf] at hx; cases hx⟩
end
end Tw

set_option Elab.async false
set_option linter.all false
set_option maxRecDepth 100000
set_option maxHeartbeats 2000000
/-! Defs that want no guard, in data. -/
namespace DL
open PySem PySem.Spec PyProof.Rows L2 LamX
section
variable {P : Program} {w : PySem.World} {K : PySem.W.Frag} {mg : Str → Option Value} {base : Heap} {T : List (Addr × Str)}
/-- as fnD, for callers without a guard -/
theorem fnGD {x qual : Str} {st : Stmt} {f : Addr} {fd : FuncData} {N ps : List Str} {k : Nat} {sp : SpD} (G : Fun K x qual st f fd) (S : FnScope N ps (defScope st)) (len : ∀ ds w κ χ, sp ds w κ χ → ds.length = ps.length)
    (body : ∀ (cdv : Value) (A : Around) (outer : List Env) (s : Shared) (H : Hp) (E : XK) (ds : List D) (w0 : Wp) (κ : D → Wp → Prop) (χ : XD), A.guards = some [] → Room k (A.deeper (envOfC qual (defScope st) s.heap.objs.size f cdv)) → sp ds w0 κ χ →
      PSsD (cxOf CX0 P w K mg base N qual (defScope st) f cdv A outer s H E).nox T Wf noX (defBody st) (startD N ds) w0 { nx := fun _ w' => κ DL.N w', rt := κ }) : FnG P w K mg base CX0 (k + 1) f fd ps (spOf K T sp) := by
  refine fnG_of G S (fun vs H Q E h => ?_) (fun cdv A outer s H vs Q E hA hr h => ?_)
  · obtain ⟨ds, w0, F, S0, κ, χ, h1, h2, _⟩ := h
    rw [h2.length]
    exact len _ _ _ _ h1
  · obtain ⟨ds, w0, F, S0, κ, χ, h1, h2, h3, h4, h5⟩ := h
    refine ⟨_, (pss_wp _).nox, ?_⟩
    exact body cdv A outer s H E ds w0 κ χ hA hr h1 F _ S0 H _ (env_start h2) h3 exsf ⟨fun δ' w' σ' S' H' k s1 hE W1 => h4 _ w' _ S' H' k s1 W1 rfl, h4, fun _ _ _ _ _ z => z.elim, fun _ _ _ _ _ z => z.elim⟩
variable {X : Cx} {W : WX} {χ : XD} {δ : Dn} {w : Wp} {pos : Pos}
/-- f(e, ..), f a def that wants no guard, in data -/
theorem pd_callG {CX : CXT} {k : Nat} {f : Addr} {fd : FuncData} {ps : List Str} {sp : SpD} {x : Str} {p : Pos} {e : Expr} {es : List Expr} {κ : D → Wp → Prop} (G : FnG X.prog X.w X.K X.mg X.base CX k f fd ps (spOf X.K T sp)) (hA : X.A.guards = some []) (hr : Room k X.A) (hm : X.mg x = some (.ref f))
    (hk : PySem.W.keepIn X.K (.ref f) = true) (hb : Binds X.K fd ps []) (hx : ∀ σ, PassesAt CX X σ (WE W σ)) (h : PAD X T W χ (e :: es) δ w fun ds w1 => sp ds w1 κ χ) (hg : Gl X x := by rfl) (hdb : (x == ("__debug__" : Str)) = false := by decide)
    (he : starEach (e :: es) X.env = (false, eval e X.env) :: starEach es X.env := by rfl) (hpl : (backTo pos (starEach es X.env)).any (·.1) = false := by rfl) : PD X T W χ (.Call (.Name x p) (e :: es) [] pos) δ w κ := fun F σ S H Q hE hW hX hK =>
  wp_pe (pe_callG G hA hr hg hm hk hb hx (pa_wp _) hdb he hpl) (by
    refine h F σ S H _ hE hW hX fun ds w1 vs S1 H1 k s1 W1 r => ?_
    exact ⟨ds, w1, F, S1, κ, χ, k, r, W1, hK.mono s1, fun C ns fs w' d S' H' x s2 W2 xr => hX C ns fs w' d S' H' x (s1.trans s2) W2 xr⟩)
end
end DL
namespace Tw
open PySem PySem.Spec PyProof.Rows L2 LamX DL
/-- the global x is a def for callers without a guard -/
def HasG (P : Program) (w : PySem.World) (K : PySem.W.Frag) (mg : Str → Option Value) (base : Heap) (T : List (Addr × Str)) (CX : CXT) (x : Str) (k : Nat) (ps : List Str) (sp : SpD) : Prop :=
  ∃ f fd, FnG P w K mg base CX k f fd ps (spOf K T sp) ∧ mg x = some (.ref f) ∧ PySem.W.keepIn K (.ref f) = true ∧ L2.Binds K fd ps []
theorem HasG.of {P : Program} {w : PySem.World} {K : PySem.W.Frag} {mg : Str → Option Value} {base : Heap} {T : List (Addr × Str)} {CX : CXT} {x : Str} {k : Nat} {ps : List Str} {sp : SpD} (h : HasF P w K mg base T CX x k ps sp) : HasG P w K mg base T CX x k ps sp := by
  obtain ⟨f, fd, h1, h2, h3, h4⟩ := h
  exact ⟨f, fd, FnG.of h1, h2, h3, h4⟩
section
variable {X : Cx} {T : List (Addr × Str)} {W : WX} {χ : XD} {δ : Dn} {w : Wp} {pos : Pos}
theorem pd_hasG {CX : CXT} {k : Nat} {ps : List Str} {sp : SpD} {x : Str} {p : Pos} {e : Expr} {es : List Expr} {κ : D → Wp → Prop} (G : HasG X.prog X.w X.K X.mg X.base T CX x k ps sp) (hA : X.A.guards = some []) (hr : Room k X.A)
    (hx : ∀ σ, PassesAt CX X σ (WE W σ)) (h : PAD X T W χ (e :: es) δ w fun ds w1 => sp ds w1 κ χ) (hg : Gl X x := by rfl) (hdb : (x == ("__debug__" : Str)) = false := by decide)
    (he : starEach (e :: es) X.env = (false, eval e X.env) :: starEach es X.env := by rfl) (hpl : (backTo pos (starEach es X.env)).any (·.1) = false := by rfl) : PD X T W χ (.Call (.Name x p) (e :: es) [] pos) δ w κ := by
  obtain ⟨f, fd, h1, h2, h3, h4⟩ := G
  exact pd_callG h1 hA hr h2 h3 h4 hx h hg hdb he hpl
end
end Tw

set_option Elab.async false
set_option linter.all false
set_option maxRecDepth 100000
set_option maxHeartbeats 4000000
/-! k35: _law_is. -/
namespace Tw
open PySem PySem.Spec PyProof.Rows L2 LamX DL
abbrev sLIs : Stmt := top 19
/-- sizes whose texts are known -/
structure RpOk (sg : Str) (st : List (List Int)) (wo : List (List Str)) (f : Int) : Prop where
  sl : sg.length ≤ 60
  oc : Oc sg
  f0 : 0 ≤ f
  f1 : f ≤ 1000
  stl : st.length ≤ 60
  stn : ∀ x ∈ st, x.length ≤ 60 ∧ ∀ y ∈ x, 0 ≤ y ∧ y ≤ 1000
  wol : wo.length ≤ 60
  won : ∀ x ∈ wo, x.length ≤ 60 ∧ ∀ y ∈ x, y.length ≤ 60 ∧ Oc y
def stP (st : List (List Int)) : PyData := .list (st.map fun x => .list (x.map PyData.int))
def woP (wo : List (List Str)) : PyData := .list (wo.map fun x => .list (x.map PyData.str))
theorem py_st {st : List (List Int)} : pyD (stD st) = some (stP st) := pyII.d st
theorem py_wo {wo : List (List Str)} : pyD (woD wo) = some (woP wo) := pyTT.d wo
theorem lg19 {z : Int} (h1 : 0 ≤ z) (h2 : z ≤ 1000) : z.natAbs.log2 < 1920 := log_of (Nat.lt_of_lt_of_le (by omega : _ < 2000) (by decide))
section
variable {sg : Str} {st : List (List Int)} {wo : List (List Str)} {f : Int}
theorem RpOk.sgS (r : RpOk sg st wo f) : ShD (.str sg) := (ShD.str (n := 60) r.sl (by decide) r.oc).1
theorem RpOk.fS (r : RpOk sg st wo f) : ShD (.int f) := (ShD.int (lg19 r.f0 r.f1)).1
theorem RpOk.stS (r : RpOk sg st wo f) : ShD (stP st) := by
  have h : ∀ x ∈ st, ShD (.list (x.map PyData.int)) ∧ PyData.depth (.list (x.map PyData.int)) ≤ 1 ∧ (PyData.shown (.list (x.map PyData.int))).length ≤ 115382 := fun x hx => by
    obtain ⟨h1, h2⟩ := r.stn x hx
    obtain ⟨a, b, c⟩ := ShD.list (f := PyData.int) (xs := x) (n := 0) (m := 1921) (fun y hy => ShD.int (lg19 (h2 y hy).1 (h2 y hy).2)) (by decide) (by rw [sizeLine_eq]; omega)
    exact ⟨a, b, by omega⟩
  have := r.stl
  exact (ShD.list (f := fun x : List Int => .list (x.map PyData.int)) (xs := st) (n := 1) (m := 115382) h (by decide) (by rw [sizeLine_eq]; omega)).1
theorem RpOk.woS (r : RpOk sg st wo f) : ShD (woP wo) := by
  have h : ∀ x ∈ wo, ShD (.list (x.map PyData.str)) ∧ PyData.depth (.list (x.map PyData.str)) ≤ 1 ∧ (PyData.shown (.list (x.map PyData.str))).length ≤ 36242 := fun x hx => by
    obtain ⟨h1, h2⟩ := r.won x hx
    obtain ⟨a, b, c⟩ := ShD.list (f := PyData.str) (xs := x) (n := 0) (m := 602) (fun y hy => ShD.str (n := 60) (h2 y hy).1 (by decide) (h2 y hy).2) (by decide) (by rw [sizeLine_eq]; omega)
    exact ⟨a, b, by omega⟩
  have := r.wol
  exact (ShD.list (f := fun x : List Str => .list (x.map PyData.str)) (xs := wo) (n := 1) (m := 36242) h (by decide) (by rw [sizeLine_eq]; omega)).1
end
def spLIs (C : Addr) : SpD := fun ds w κ χ => ∃ (sg : Str) (st : List (List Int)) (wo : List (List Str)) (f : Int), ds = [mchD C sg st wo f, partD sg st wo f] ∧ RpOk sg st wo f ∧ κ (B true) w
/-- len of a machine -/
def HasLn (P : Program) (w : PySem.World) (K : PySem.W.Frag) (mg : Str → Option Value) (base : Heap) (T : List (Addr × Str)) (C : Addr) (k : Nat) (sp : SpD) : Prop :=
  ∃ f fd, FnOk P w K mg base CX0 k f fd ["self"] (spOf K T sp) ∧ PySem.W.findIn K (.ref C) "__len__" = some (some (.ref f)) ∧ PySem.W.isFn K (.ref f) = true ∧ L2.Binds K fd ["self"] []
section
variable {P : Program} {w : PySem.World} {K : PySem.W.Frag} {mg : Str → Option Value} {base : Heap} {T : List (Addr × Str)} {C CU CB : Addr}
theorem scLIs : FnScope ["machine", "parts"] ["machine", "parts"] (defScope sLIs) := ⟨rfl, rfl, rfl, by decide +kernel, rfl, by decide +kernel, by decide +kernel⟩
theorem ok_lis {f : Addr} {fd : FuncData} (G : Fun K "_law_is" "_law_is" sLIs f fd) (hm : Nm35 mg) (c : MchC K C) (q : MchQ K C) (hS : mg "Machine" = some (.ref C)) (hL : HasLn P w K mg base T C 1 (spMLen C)) (hSt : HasM P w K mg base T CX0 C "steps" 1 ["self"] (spMStS C)) (hWo : HasM P w K mg base T CX0 C "words" 1 ["self"] (spMWoS C)) :
    FnG P w K mg base CX0 3 f fd ["machine", "parts"] (spOf K T (spLIs C)) := by
  refine fnGD G scLIs (fun ds w κ χ h => ?_) (fun cdv A outer s H E ds w0 κ χ hA hr h => ?_)
  · obtain ⟨sg, st, wo, fi, rfl, _⟩ := h
    rfl
  obtain ⟨sg, st, wo, fi, rfl, rp, k⟩ := h
  obtain ⟨fL, fdL, l1, l2, l3, l4⟩ := hL
  have hu : (A.deeper (envOfC "_law_is" (defScope sLIs) s.heap.objs.size f cdv)).units + 65 < cLine := by
    have := hr.un
    omega
  refine pssd_cons (psd_if ?_)
  refine pwd_pt ?_
  refine pwd_or ?_
  refine ptd_not ?_
  refine ptd_val ?_
  refine pd_callB call_isi rfl hm.isinstance PyProof.Rows.boot_isinstance ?_
  (refine pad_cons ?_; refine pd_var (i := 0) rfl rfl ?_)
  refine pad_cons ?_
  refine pd_glob (v := .ref C) hS rfl ?_
  refine pad_nil ?_
  refine va_isC (t := .ref C) (b := true) (.inr ⟨C, _, _, rfl, q.ci, rfl⟩) q.kC ?_
  refine ⟨_, rfl, ?_⟩
  refine iteF ?_
  refine pwd_or1 ?_
  refine ptd_cmp op_ne ?_
  (refine pd_callB (call_reprD hA hu) rfl hm.repr bt_repr ?_; refine pad_cons ?_)
  refine pd_fld c.cl c.nSg ?_
  refine pd_var (i := 0) rfl rfl ?_
  refine ⟨_, fld_sg, ?_⟩
  refine pad_nil (va_reprD (p := .str sg) rfl rp.sgS ?_)
  (refine pd_callB (call_reprD hA hu) rfl hm.repr bt_repr ?_; refine pad_cons ?_)
  (refine pd_ix ix_list ?_; refine pd_var (i := 1) rfl rfl ?_; refine pd_int ?_; refine vr_ixL (i := 0) rfl ?_)
  refine pad_nil (va_reprD (p := .str sg) rfl rp.sgS ?_)
  refine vr_neT true (decide_eq_true rfl) ⟨_, rfl, ?_⟩
  refine iteF ?_
  refine pssd_nil ?_
  refine pssd_cons (psd_if ?_)
  refine pwd_pt ?_
  refine pwd_or ?_
  refine ptd_cmp op_ne ?_
  (refine pd_callB (call_reprD hA hu) rfl hm.repr bt_repr ?_; refine pad_cons ?_)
  refine pd_fld c.cl c.nFi ?_
  refine pd_var (i := 0) rfl rfl ?_
  refine ⟨_, fld_fi, ?_⟩
  refine pad_nil (va_reprD (p := .int fi) rfl rp.fS ?_)
  (refine pd_callB (call_reprD hA hu) rfl hm.repr bt_repr ?_; refine pad_cons ?_)
  (refine pd_ix ix_list ?_; refine pd_var (i := 1) rfl rfl ?_; refine pd_int ?_; refine vr_ixL (i := 3) rfl ?_)
  refine pad_nil (va_reprD (p := .int fi) rfl rp.fS ?_)
  refine vr_neT true (decide_eq_true rfl) ⟨_, rfl, ?_⟩
  refine iteF ?_
  refine pwd_or1 ?_
  refine ptd_cmp op_ne ?_
  refine pd_callB (call_lenOwn l1 (hr.mono (by decide)) l2 l3 l4) rfl hm.len PySem.boot_len ?_
  (refine pad_cons ?_; refine pd_var (i := 0) rfl rfl ?_)
  refine pad_nil ?_
  have s60 := rp.stl
  refine va_lenOwn ⟨_, _, rfl⟩ ⟨sg, st, wo, fi, rfl, _, rfl, by omega, by omega, ?_⟩
  refine pd_callB call_len_seq rfl hm.len PySem.boot_len ?_
  refine pad_cons ?_
  (refine pd_ix ix_list ?_; refine pd_var (i := 1) rfl rfl ?_; refine pd_int ?_; refine vr_ixL (i := 1) rfl ?_)
  refine pad_nil ?_
  refine va_len ?_
  rw [List.length_map]
  refine vr_ne rfl ⟨_, rfl, ?_⟩
  rw [decide_eq_true rfl]
  refine iteF ?_
  refine pssd_nil ?_
  refine pssd_one (psd_ret ?_)
  refine pd_and ?_
  refine pd_cmp op_eq ?_
  (refine pd_callB (call_reprD hA hu) rfl hm.repr bt_repr ?_; refine pad_cons ?_)
  refine pd_hasm0 c.cl hSt (hr.mono (by decide)) (fun _ => pass0At) ?_
  refine pd_var (i := 0) rfl rfl ?_
  refine ⟨ins_m (by decide +kernel), sg, st, wo, fi, rfl, by omega, ?_⟩
  refine pad_nil (va_reprD py_st rp.stS ?_)
  (refine pd_callB (call_reprD hA hu) rfl hm.repr bt_repr ?_; refine pad_cons ?_)
  (refine pd_ix ix_list ?_; refine pd_var (i := 1) rfl rfl ?_; refine pd_int ?_; refine vr_ixL (i := 1) rfl ?_)
  refine pad_nil (va_reprD py_st rp.stS ?_)
  refine vr_eqT true (decide_eq_true rfl) ⟨_, rfl, ?_⟩
  refine iteT ?_
  refine pd_one ?_
  refine pd_cmp op_eq ?_
  (refine pd_callB (call_reprD hA hu) rfl hm.repr bt_repr ?_; refine pad_cons ?_)
  have w60 := rp.wol
  refine pd_hasm0 c.cl hWo (hr.mono (by decide)) (fun _ => pass0At) ?_
  refine pd_var (i := 0) rfl rfl ?_
  refine ⟨ins_m (by decide +kernel), sg, st, wo, fi, rfl, by omega, ?_⟩
  refine pad_nil (va_reprD py_wo rp.woS ?_)
  (refine pd_callB (call_reprD hA hu) rfl hm.repr bt_repr ?_; refine pad_cons ?_)
  (refine pd_ix ix_list ?_; refine pd_var (i := 1) rfl rfl ?_; refine pd_int ?_; refine vr_ixL (i := 2) rfl ?_)
  refine pad_nil (va_reprD py_wo rp.woS ?_)
  exact vr_eqT true (decide_eq_true rfl) k
end
end Tw

set_option Elab.async false
set_option linter.all false
set_option maxRecDepth 100000
set_option maxHeartbeats 4000000
/-! k35: _law_refused, _law_default_refused. -/
namespace Tw
open PySem PySem.Spec PyProof.Rows L2 LamX DL
abbrev sRfs : Stmt := top 22
abbrev sDrf : Stmt := top 23
/-- the error classes -/
structure ErrM (K : PySem.W.Frag) (mg : Str → Option Value) (CT CU CB : Addr) : Prop where
  mT : mg "ThinwallError" = some (.ref CT)
  mU : mg "UnknownDeed" = some (.ref CU)
  mB : mg "BadMachine" = some (.ref CB)
  mV : mg "ValueError" = none
  exB : PySem.W.exmOne K (.ref CB) (.ref CB) = some true
  exT : PySem.W.exmOne K (.ref CB) (.ref CT) = some true
  exU : PySem.W.exmOne K (.ref CU) (.ref CU) = some true
  eB : L2.ExcC K CB
  eU : L2.ExcC K CU
  xB : XfC K CB
  xU : XfC K CU
  nP : PySem.W.findIn K (.ref CB) "part" = some none
  nS : PySem.W.findIn K (.ref CU) "sign" = some none
  nPl : PySem.W.findIn K (.ref CU) "place" = some none
  bV : PySem.W.kitOne K (.ref CB) (.type "ValueError") = some true
  bT : PySem.W.kitOne K (.ref CB) (.ref CT) = some true
  bU : PySem.W.kitOne K (.ref CB) (.ref CU) = some false
  bB : PySem.W.kitOne K (.ref CB) (.ref CB) = some true
  uV : PySem.W.kitOne K (.ref CU) (.type "ValueError") = some true
  uT : PySem.W.kitOne K (.ref CU) (.ref CT) = some true
  uB : PySem.W.kitOne K (.ref CU) (.ref CB) = some false
/-- the part that is wrong, or None -/
def toldF (x : Option Str) : D := match x with
  | some y => DL.T y
  | none => N
def spRfs : SpD := fun ds w κ χ => ∃ (sg : Str) (st : List (List Int)) (wo : List (List Str)) (f : Int), ds = [DL.T sg, stD st, woD wo, I f] ∧ MPre sg st wo ∧ (∀ x ∈ wo, ∀ y ∈ x, Oc y) ∧ κ (toldF (faultM sg st wo f)) w
def spDrf : SpD := fun ds w κ χ => ∃ (sg : Str) (st : List (List Int)) (wo : List (List Str)), ds = [DL.T sg, stD st, woD wo] ∧ MPre sg st wo ∧ faultM sg st wo 0 = some ("words" : Str) ∧ κ (B true) w
def XBm (CB : Addr) (w : Wp) (x : Option Str) : XD := fun C0 ns ds w' => C0 = CB ∧ ns = (["part"] : List Str) ∧ (∃ y, x = some y ∧ ds = [DL.T y]) ∧ w' = w
theorem lay_st {st : List (List Int)} : PyData.canLay0 (stP st) = true := pyII.l st fun _ _ _ _ => trivial
theorem lay_wo {wo : List (List Str)} (h : ∀ x ∈ wo, ∀ y ∈ x, Oc y) : PyData.canLay0 (woP wo) = true := pyTT.l wo h
theorem py_two {st : List (List Int)} {wo : List (List Str)} : pyD (.lst [stD st, woD wo]) = some (.list [stP st, woP wo]) := by
  show (((pyD (stD st)).bind fun x => ((pyD (woD wo)).bind fun y => some [y]).map fun xs => x :: xs)).map PyData.list = _
  rw [py_st, py_wo]
  rfl
theorem shaped_two {st : List (List Int)} {wo : List (List Str)} (h : ∀ x ∈ wo, ∀ y ∈ x, Oc y) : SeqAt.shaped (.list [stP st, woP wo]) = true := by
  show ((PyData.canLay0 (stP st) && (PyData.canLay0 (woP wo) && true)) && decide (PyData.depth (.list [stP st, woP wo]) ≤ 64)) = true
  have h1 := pyII.n st
  have h2 := pyTT.n wo
  have h1' : PyData.depth (stP st) ≤ 2 := h1
  have h2' : PyData.depth (woP wo) ≤ 2 := h2
  rw [lay_st, lay_wo h, decide_eq_true (by simp only [PyData.depth, PyData.depthAll]; omega)]
  rfl
theorem eqv_two {st : List (List Int)} {wo : List (List Str)} : PyData.eqv (.list [stP st, woP wo]) (.list [stP st, woP wo]) = true := by
  show (PyData.eqv (stP st) (stP st) && (PyData.eqv (woP wo) (woP wo) && true)) = true
  have h1 : PyData.eqv (stP st) (stP st) = decide (st = st) := pyII.e st st
  have h2 : PyData.eqv (woP wo) (woP wo) = decide (wo = wo) := pyTT.e wo wo
  rw [h1, h2, decide_eq_true rfl, decide_eq_true rfl]
  rfl
section
variable {P : Program} {w : PySem.World} {K : PySem.W.Frag} {mg : Str → Option Value} {base : Heap} {T : List (Addr × Str)} {C CU CB CT : Addr}
def NRfs : List Str := ["signs", "steps", "words", "first", "held", "told", "e"]
theorem scRfs : FnScope NRfs ["signs", "steps", "words", "first"] (defScope sRfs) := ⟨rfl, rfl, rfl, by decide +kernel, rfl, by decide +kernel, by decide +kernel⟩
theorem ok_rfs {f : Addr} {fd : FuncData} (G : Fun K "_law_refused" "_law_refused" sRfs f fd) (hm : Nm35 mg) (er : ErrM K mg CT CU CB) (hC : HasF P w K mg base T CX0 "_law_copy" 1 ["lines"] spCpyS) (hM : HasMi P w K mg base T C CB) : FnOk P w K mg base CX0 6 f fd ["signs", "steps", "words", "first"] (spOf K T spRfs) := by
  refine fnD G scRfs (fun ds w κ χ h => ?_) (fun cdv A outer s H E ds w0 κ χ hr h => ?_)
  · obtain ⟨sg, st, wo, fi, rfl, _⟩ := h
    rfl
  obtain ⟨sg, st, wo, fi, rfl, pre, ocw, k⟩ := h
  have nd := scRfs.nd
  refine pssd_cons (psd_set (i := 4) nd rfl ?_)
  refine pd_lst ?_
  refine pad_cons ?_
  refine pd_has hC (hr.mono (by decide)) (fun _ => pass0At) ?_
  (refine pad_cons ?_; refine pd_var (i := 1) rfl rfl ?_)
  refine pad_nil (cpy_st pre.stl ?_)
  refine pad_cons ?_
  refine pd_has hC (hr.mono (by decide)) (fun _ => pass0At) ?_
  (refine pad_cons ?_; refine pd_var (i := 2) rfl rfl ?_)
  refine pad_nil (cpy_wo pre.wol ?_)
  refine pad_nil ⟨by show 2 ≤ sizeLine; decide, ?_⟩
  refine pssd_cons (psd_set (i := 5) nd rfl ?_)
  refine pd_non ?_
  refine pssd_cons (psd_cut (fun δ' w' => δ' = [some (DL.T sg), some (stD st), some (woD wo), some (I fi), some (.lst [stD st, woD wo]), some (toldF (faultM sg st wo fi)), none] ∧ w' = w0) ?_ ?_)
  · refine psd_tryE (χ := XBm CB w0 (faultM sg st wo fi)) (i := 6) (C1 := CB) rfl rfl nd takesN0 ⟨rfl, by decide, .inl er.mB⟩ rfl rfl (fun W' pn xe tk => ?_) (fun C0 ns ds w' hx => ?_)
    · refine pd_mkM (C := C) (CB := CB) hM hr (fun σ => L2N.passAt tk σ) ?_
      (refine pad_cons ?_; refine pd_var (i := 0) rfl rfl ?_)
      (refine pad_cons ?_; refine pd_var (i := 1) rfl rfl ?_)
      (refine pad_cons ?_; refine pd_var (i := 2) rfl rfl ?_)
      refine pad_nil ⟨sg, _, _, rfl, ?_⟩
      refine pd_var (i := 3) rfl rfl ?_
      refine ⟨fi, st, wo, rfl, LL.st, LL.wo, pre, fun hf => ⟨?_, rfl⟩, fun x hx => ⟨rfl, rfl, ⟨x, hx, rfl⟩, rfl⟩⟩
      rw [hf]
      rfl
    · obtain ⟨rfl, rfl, ⟨x, hx, rfl⟩, rfl⟩ := hx
      refine ⟨er.exB, fun a dd oe pn hz hf2 => ?_⟩
      refine pssd_cons (psd_if ?_)
      refine pwd_pt ?_
      refine pwd_or ?_
      refine ptd_val ?_
      (refine pd_callB (call_isX er.eB hz.zc hf2) rfl hm.isinstance PyProof.Rows.boot_isinstance ?_; refine pad_cons ?_; refine pd_var (i := 6) rfl rfl ?_; refine pad_cons ?_; refine pd_glob (v := .ref CU) er.mU rfl ?_; refine pad_nil ?_; refine va_isX rel_ref er.bU ?_)
      refine ⟨_, rfl, ?_⟩
      refine iteF ?_
      refine pwd_or ?_
      refine ptd_not ?_
      refine ptd_val ?_
      (refine pd_callB (call_isX er.eB hz.zc hf2) rfl hm.isinstance PyProof.Rows.boot_isinstance ?_; refine pad_cons ?_; refine pd_var (i := 6) rfl rfl ?_; refine pad_cons ?_; refine pd_glob (v := .ref CT) er.mT rfl ?_; refine pad_nil ?_; refine va_isX rel_ref er.bT ?_)
      refine ⟨_, rfl, ?_⟩
      refine iteF ?_
      refine pwd_or1 ?_
      refine ptd_not ?_
      refine ptd_val ?_
      (refine pd_callB (call_isX er.eB hz.zc hf2) rfl hm.isinstance PyProof.Rows.boot_isinstance ?_; refine pad_cons ?_; refine pd_var (i := 6) rfl rfl ?_; refine pad_cons ?_; refine pd_bltn (v := .ty "ValueError") er.mV bt_ve rfl ?_; refine pad_nil ?_; refine va_isX rel_ty er.bV ?_)
      refine ⟨_, rfl, ?_⟩
      refine iteF ?_
      refine pssd_nil ?_
      refine pssd_one (psd_set (i := 5) nd rfl ?_)
      refine pd_xf (ns := ["part"]) (ds := [DL.T x]) er.xB er.nP hz.zc hf2 ?_
      refine pd_var (i := 6) rfl rfl ?_
      refine ⟨rfl, _, rfl, ?_, rfl⟩
      rw [hx]
      rfl
  rintro δ' w' ⟨rfl, rfl⟩
  refine pssd_cons (psd_if ?_)
  refine ptd_cmp (op_neD hr.units) ?_
  refine pd_var (i := 4) rfl rfl ?_
  refine pd_lst ?_
  (refine pad_cons ?_; refine pd_var (i := 1) rfl rfl ?_)
  (refine pad_cons ?_; refine pd_var (i := 2) rfl rfl ?_)
  refine pad_nil ⟨by show 2 ≤ sizeLine; decide, ?_⟩
  refine vr_neD py_two py_two (shaped_two ocw) (shaped_two ocw) ⟨_, rfl, ?_⟩
  rw [eqv_two]
  refine iteF ?_
  refine pssd_nil ?_
  refine pssd_one (psd_ret ?_)
  refine pd_var (i := 5) rfl rfl ?_
  exact k
def NDrf : List Str := ["signs", "steps", "words", "e"]
theorem scDrf : FnScope NDrf ["signs", "steps", "words"] (defScope sDrf) := ⟨rfl, rfl, rfl, by decide +kernel, rfl, by decide +kernel, by decide +kernel⟩
theorem ok_drf {f : Addr} {fd : FuncData} (G : Fun K "_law_default_refused" "_law_default_refused" sDrf f fd) (hm : Nm35 mg) (er : ErrM K mg CT CU CB) (hM : HasMi P w K mg base T C CB) : FnOk P w K mg base CX0 6 f fd ["signs", "steps", "words"] (spOf K T spDrf) := by
  refine fnD G scDrf (fun ds w κ χ h => ?_) (fun cdv A outer s H E ds w0 κ χ hr h => ?_)
  · obtain ⟨sg, st, wo, rfl, _⟩ := h
    rfl
  obtain ⟨sg, st, wo, rfl, pre, hw, k⟩ := h
  have nd := scDrf.nd
  refine pssd_cons ?_
  refine psd_tryE (χ := XBm CB w0 (faultM sg st wo 0)) (i := 3) (C1 := CT) rfl rfl nd takesN0 ⟨rfl, by decide, .inl er.mT⟩ rfl rfl (fun W' pn xe tk => ?_) (fun C0 ns ds w' hx => ?_)
  · refine pd_mkD (C := C) (CB := CB) hM hr (fun σ => L2N.passAt tk σ) ?_
    (refine pad_cons ?_; refine pd_var (i := 0) rfl rfl ?_)
    (refine pad_cons ?_; refine pd_var (i := 1) rfl rfl ?_)
    (refine pad_cons ?_; refine pd_var (i := 2) rfl rfl ?_)
    exact pad_nil ⟨sg, _, _, st, wo, rfl, LL.st, LL.wo, pre, fun hf => (by rw [hw] at hf; cases hf), fun x hx => ⟨rfl, rfl, ⟨x, hx, rfl⟩, rfl⟩⟩
  · obtain ⟨rfl, rfl, ⟨x, hx, rfl⟩, rfl⟩ := hx
    rw [hw] at hx
    cases hx
    refine ⟨er.exT, fun a dd oe pn hz hf2 => ?_⟩
    refine pssd_one (psd_ret ?_)
    refine pd_and ?_
    (refine pd_callB (call_isX er.eB hz.zc hf2) rfl hm.isinstance PyProof.Rows.boot_isinstance ?_; refine pad_cons ?_; refine pd_var (i := 3) rfl rfl ?_; refine pad_cons ?_; refine pd_glob (v := .ref C0) er.mB rfl ?_; refine pad_nil ?_; refine va_isX rel_ref er.bB ?_)
    refine ⟨_, rfl, ?_⟩
    refine iteT ?_
    refine pd_one ?_
    refine pd_cmp op_eq ?_
    refine pd_xf (ns := ["part"]) (ds := [DL.T "words"]) er.xB er.nP hz.zc hf2 ?_
    refine pd_var (i := 3) rfl rfl ?_
    refine ⟨rfl, _, rfl, ?_⟩
    refine pd_str ?_
    exact vr_eqT true (decide_eq_true rfl) k
end
end Tw

set_option Elab.async false
set_option linter.all false
set_option maxRecDepth 100000
set_option maxHeartbeats 2000000
/-! Slices of texts, told exactly. -/
namespace L2
open PySem PySem.Spec PyProof.Rows
theorem down_is (n : Nat) : Builtin.Str.strSliceIndices none none (-1) n = (List.range n).map fun k => n - 1 - k := by
  unfold Builtin.Str.strSliceIndices
  simp only [sliceRange]
  have e : ¬ ((-1 : Int) > 0) := by decide
  simp only [if_neg e]
  have ec : (if (n : Int) - 1 > -1 then ((n : Int) - 1 - -1 - -1 - 1) / (- -1) else 0) = (n : Int) := by
    by_cases h : ((n : Int) - 1 > -1)
    · rw [if_pos h]
      have e1 : ((n : Int) - 1 - -1 - -1 - 1) = n := by omega
      rw [e1]
      simp
    · rw [if_neg h]
      omega
  rw [ec, Int.toNat_natCast]
  refine List.map_congr_left fun k hk => ?_
  have := List.mem_range.mp hk
  omega
theorem pick_map {α β : Type} {f : α → Option β} {g : α → β} : ∀ {L : List α}, (∀ x ∈ L, f x = some (g x)) → L.filterMap f = L.map g
  | [], _ => rfl
  | x :: L, h => by
    rw [List.filterMap_cons, h x List.mem_cons_self, List.map_cons, pick_map fun y hy => h y (List.mem_cons_of_mem _ hy)]
theorem pick_rev (l : List Nat) : ((List.range l.length).map fun k => l.length - 1 - k).filterMap (l[·]?) = l.reverse := by
  have h : ∀ x ∈ (List.range l.length).map (fun k => l.length - 1 - k), l[x]? = some (l.getD x 0) := fun x hx => by
    obtain ⟨k, hk, rfl⟩ := List.mem_map.mp hx
    have := List.mem_range.mp hk
    rw [List.getD_eq_getElem?_getD, List.getElem?_eq_getElem (by omega)]
    rfl
  rw [pick_map h, List.map_map]
  refine List.ext_getElem (by simp) fun i h1 h2 => ?_
  have h3 : i < l.length := by simpa using h1
  rw [List.getElem_map, List.getElem_range, List.getElem_reverse]
  show l.getD (l.length - 1 - i) 0 = _
  rw [List.getD_eq_getElem?_getD, List.getElem?_eq_getElem (by omega)]
  rfl
section
variable {X : Cx}
def tRevX (te : TE) : TE := fun σ H Q => te σ H fun x H1 => ∃ z : Str, x = .str z ∧ z.length ≤ sizeLine ∧ Q (.str ⟨z.cps.toList.reverse.toArray⟩) H1
theorem pe_revX {e : Expr} {te : TE} {k : Nat} {p1 p2 p3 pos : Pos} (he : PE X e te) : PE X (.Subscript e (.Slice none none (some (.UnaryOp .USub (.Constant (.int 1) k p1) p2)) p3) pos) (tRevX te) := by
  refine ⟨fun pins s σ H Q I h => ?_⟩
  refine Subscript_ (thn (he.run pins s σ H _ I h) fun v s1 ⟨x, H1, I1, r1, q1⟩ => ?_)
  obtain ⟨z, ex, hz, q⟩ := q1
  subst ex
  obtain ⟨tz, rfl⟩ := r1
  have hst : PO X (some (.UnaryOp .USub (.Constant (.int 1) k p1) p2)) (tPart (tUn (rU fun i => .int (-i)) (tC (.int 1)))) := po_some (pe_un un_neg pe_int)
  refine wpAny_Slice (thn (po_none.run pins s1 σ H1 (fun o H2 => o = none ∧ H2 = H1) I1 ⟨rfl, rfl⟩) fun vl s2 ⟨l, H2, I2, pl, el, e2⟩ => ?_)
  subst el e2
  refine thn (po_none.run pins s2 σ H2 (fun o H3 => o = none ∧ H3 = H2) I2 ⟨rfl, rfl⟩) fun vu s3 ⟨u, H3, I3, pu, eu, e3⟩ => ?_
  subst eu e3
  refine thn (hst.run pins s3 σ H3 (fun o H4 => o = some (-1) ∧ H4 = H3) I3 ⟨1, rfl, -1, rfl, rfl, rfl⟩) fun vs s4 ⟨o, H4, I4, ps, eo, e4⟩ => ?_
  subst eo e4
  have I5 : Inv X pins σ H4 { s4 with heap := s4.heap.push { cls := .type "slice", data := .fields #[vl, vu, vs] } } := I4.kept (t' := s4.toks) fun b ob q => Heap.get?_push_of_some _ q
  cases pl
  cases pu
  cases ps with
  | int _ ts =>
  show wpAny (model X.prog X.w) X.A (subscriptTail e (.Slice none none (some (.UnaryOp .USub (.Constant (.int 1) k p1) p2)) p3) (.str z tz) (.ref s4.heap.objs.size)) (EP X pins σ Q) X.xe { s4 with heap := s4.heap.push { cls := .type "slice", data := .fields #[.none, .none, .int (-1) ts] } }
  refine tail_any (ops := [.str z tz, .ref s4.heap.objs.size]) (typeIs_str _ _ _) (F.slot_str_getitem.lookup) ?_ (by with_unfolding_all rfl)
  refine wpAny_getItem_str_slice (l := none) (u := none) (st := some (-1, ts)) ⟨_, Heap.get?_push_size _ rfl, rfl, rfl⟩ rfl ?_
  have d1 : (Builtin.Str.strSliceIndices none none (-1) z.length).filterMap (z.cps[·]?) = z.cps.toList.reverse := by
    have hl : z.length = z.cps.toList.length := Array.length_toList.symm
    have e : (fun x : Nat => z.cps[x]?) = fun x => z.cps.toList[x]? := funext fun x => Array.getElem?_toList.symm
    rw [down_is, hl, ← pick_rev, e]
  show Made.post (if ((-1 : Int) == 1 && (Builtin.Str.strSliceIndices none none (-1) z.length).length == z.length) = true then Made.val (.str z tz)
    else Made.str ⟨((Builtin.Str.strSliceIndices none none (-1) z.length).filterMap (z.cps[·]?)).toArray⟩) (EP X pins σ Q) _
  rw [if_neg (by rw [show ((-1 : Int) == 1) = false from by decide, Bool.false_and]; exact Bool.false_ne_true), d1]
  have hl : (⟨z.cps.toList.reverse.toArray⟩ : Str).length ≤ z.length := by
    show (List.toArray _).size ≤ _
    rw [List.size_toArray, List.length_reverse, Array.length_toList]
    exact Nat.le_refl _
  exact ⟨Nat.le_trans hl hz, .str _, H4, I5.tok _, ⟨_, rfl⟩, q⟩
end
end L2
namespace DL
open PySem PySem.Spec PyProof.Rows L2 LamX
def toS (l : List Nat) : Str := ⟨l.toArray⟩
theorem toS_cl (l : List Nat) : (toS l).cps.toList = l := List.toList_toArray
theorem toS_len (l : List Nat) : (toS l).length = l.length := List.size_toArray
theorem cut_toS {z : Str} {n : Nat} : cutS z none (some (n : Int)) = toS (z.cps.toList.take n) := by
  have hl : z.cps.toList.length = z.length := Array.length_toList
  unfold cutS toS
  rw [HT.sIx_none, HT.sIx_nat, List.drop_zero, Nat.sub_zero]
  congr 2
  by_cases h : n ≤ z.length
  · rw [Nat.min_eq_left h]
  · rw [Nat.min_eq_right (by omega), List.take_of_length_le (by omega), List.take_of_length_le (by omega)]
theorem cut_fromS {z : Str} {n : Nat} : cutS z (some (n : Int)) none = toS (z.cps.toList.drop n) := by
  have hl : z.cps.toList.length = z.length := Array.length_toList
  unfold cutS toS
  rw [HT.sIx_none, HT.sIx_nat]
  congr 2
  by_cases h : n ≤ z.length
  · rw [Nat.min_eq_left h, List.take_of_length_le (by rw [List.length_drop]; omega)]
  · rw [Nat.min_eq_right (by omega), List.drop_eq_nil_of_le (by omega), List.drop_eq_nil_of_le (by omega), List.take_nil]
theorem sIx_neg1 (n d : Nat) : HT.sIx n d (some (-1)) = n - 1 := by
  unfold HT.sIx
  simp
  omega
theorem cut_lastS {z : Str} : cutS z none (some (-1)) = toS z.cps.toList.dropLast := by
  have hl : z.cps.toList.length = z.length := Array.length_toList
  unfold cutS toS
  rw [HT.sIx_none, sIx_neg1, List.drop_zero, Nat.sub_zero, List.dropLast_eq_take, hl]
section
variable {X : Cx} {T : List (Addr × Str)} {W : WX} {χ : XD} {δ : Dn} {w : Wp} {pos : Pos}
theorem pd_slTC {e hi : Expr} {p2 : Pos} {κ : D → Wp → Prop} (h : PD X T W χ e δ w fun d w1 => PD X T W χ hi δ w1 fun t w3 => ∃ (z : Str) (n : Int), d = DL.T z ∧ t = I n ∧ z.length ≤ sizeLine ∧ κ (DL.T (cutS z none (some n))) w3) :
    PD X T W χ (.Subscript e (.Slice none (some hi) none p2) pos) δ w κ := fun F σ S H Q hE hW hX hK =>
  wp_pe (pe_slice sl_str (pe_wp e) po_none (po_some (pe_wp hi))) (by
    refine h F σ S H _ hE hW hX fun d w1 v S1 H1 k s1 W1 r => ?_
    refine k F σ S1 H1 _ (hE.mono s1) W1 (hX.mono s1) fun t w3 q S3 H3 k3 s3 W3 r3 => ?_
    obtain ⟨z, n, rfl, rfl, hz, k3⟩ := k3
    have r' : v = .str z := r
    have r3' : q = .int n := r3
    subst r' r3'
    refine ⟨n, rfl, z, rfl, hz, ?_⟩
    exact hK _ w3 _ S3 H3 k3 (s1.trans s3) W3 rfl)
theorem pd_slFC {e lo : Expr} {p2 : Pos} {κ : D → Wp → Prop} (h : PD X T W χ e δ w fun d w1 => PD X T W χ lo δ w1 fun t w3 => ∃ (z : Str) (n : Int), d = DL.T z ∧ t = I n ∧ z.length ≤ sizeLine ∧ κ (DL.T (cutS z (some n) none)) w3) :
    PD X T W χ (.Subscript e (.Slice (some lo) none none p2) pos) δ w κ := fun F σ S H Q hE hW hX hK =>
  wp_pe (pe_slice sl_str (pe_wp e) (po_some (pe_wp lo)) po_none) (by
    refine h F σ S H _ hE hW hX fun d w1 v S1 H1 k s1 W1 r => ?_
    refine k F σ S1 H1 _ (hE.mono s1) W1 (hX.mono s1) fun t w3 q S3 H3 k3 s3 W3 r3 => ?_
    obtain ⟨z, n, rfl, rfl, hz, k3⟩ := k3
    have r' : v = .str z := r
    have r3' : q = .int n := r3
    subst r' r3'
    refine ⟨n, rfl, z, rfl, hz, ?_⟩
    exact hK _ w3 _ S3 H3 k3 (s1.trans s3) W3 rfl)
/-- z[::-1] -/
theorem pd_revX {e : Expr} {j : Nat} {p1 p2 p3 : Pos} {κ : D → Wp → Prop} (h : PD X T W χ e δ w fun d w1 => ∃ z : Str, d = DL.T z ∧ z.length ≤ sizeLine ∧ κ (DL.T (toS z.cps.toList.reverse)) w1) : PD X T W χ (.Subscript e (.Slice none none (some (.UnaryOp .USub (.Constant (.int 1) j p1) p2)) p3) pos) δ w κ := fun F σ S H Q hE hW hX hK =>
  wp_pe (pe_revX (pe_wp e)) (by
    refine h F σ S H _ hE hW hX fun d w1 v S1 H1 k s1 W1 r => ?_
    obtain ⟨z, rfl, hz, k⟩ := k
    have r' : v = .str z := r
    subst r'
    exact ⟨z, rfl, hz, hK _ w1 _ S1 H1 k s1 W1 rfl⟩)
end
section
variable {K : PySem.W.Frag} {T : List (Addr × Str)} {w : Wp} {κ : D → Wp → Prop}
/-- z[-1] -/
theorem vr_ixSLast {z : Str} {l : List Nat} {c : Nat} (hz : z.length ≤ sizeLine) (h : z.cps.toList = l ++ [c]) (k : κ (DL.T ⟨#[c]⟩) w) : VR2 K T rIxS (DL.T z) (I (-1)) w κ := fun F S H x y Q hW r1 r2 hK =>
  ⟨z, -1, c, r1, r2, hz, by rw [h]; exact atI_last l c, hK _ w _ S H k (Same.refl _) hW rfl⟩
/-- xs + ys, owned -/
theorem vr_catO {ds es : List D} (hz : ds.length + es.length ≤ sizeLine) (k : ∀ a, w a = none → κ (R a) (wu w a (.lst (ds ++ es)))) : VR2 K T rCat (.lst ds) (.lst es) w κ := fun F S H x y Q hW r1 r2 hK => by
  obtain ⟨a, xs, rfl, h1, h2⟩ := r1
  obtain ⟨b, ys, rfl, h3, h4⟩ := r2
  refine ⟨a, b, xs, ys, rfl, rfl, hW.same _ _ h1, hW.same _ _ h3, by rw [h2.length, h4.length]; exact hz, fun p hp => ?_⟩
  exact hK _ _ _ S _ (k p (hW.free hp).2.1) (Same.refl _) (hW.take hp ⟨xs ++ ys, rfl, h2.app h4⟩) rfl
end
end DL

set_option Elab.async false
set_option linter.all false
set_option maxRecDepth 100000
set_option maxHeartbeats 4000000
/-! k35: _law_bad_signs. -/
namespace Tw
open PySem PySem.Spec PyProof.Rows L2 LamX DL
abbrev sBsg : Stmt := top 24
/-- signs of which there is no machine -/
structure BadSg (b : Str) : Prop where
  no : signsB b = false
  sl : b.length ≤ 60
  oc : Oc b
def base9 (sg : Str) : List Str := ["ba", "aa", "abca", sg ++ "A", " " ++ sg, sg ++ "{", "a-c", "`" ++ sg, sg ++ "1"]
def bads (sg : Str) : List Str := base9 sg ++ (if 0 < sg.length then [sg ++ toS ((cl sg).take 1), toS [(cl sg).getLastD 0] ++ sg] else []) ++ (if 1 < sg.length then [toS (cl sg).reverse] else [])
theorem cl_toS (l : List Nat) : cl (toS l) = l := toS_cl l
theorem noSg_mem {b : Str} {c : Nat} (h : c ∈ cl b) (hc : isSg c = false) : signsB b = false := by
  unfold signsB
  have e : (cl b).all isSg = false := by
    rw [Bool.eq_false_iff]
    intro z
    have := List.all_eq_true.mp z c h
    rw [hc] at this
    cases this
  rw [e]
  rfl
theorem noSg_up {b : Str} (h : ¬ (cl b).Pairwise (· < ·)) : signsB b = false := by
  unfold signsB
  rw [decide_eq_false h, Bool.and_false]
theorem oc_cat {a b : Str} (h1 : Oc a) (h2 : Oc b) : Oc (a ++ b) := fun c hc => by
  have e : c ∈ cl a ++ cl b := by rw [← cl_cat]; exact hc
  rcases List.mem_append.mp e with h | h
  · exact h1 c h
  · exact h2 c h
theorem SgOk.oc {sg : Str} (h : SgOk sg) : Oc sg := fun c hc => by
  have := h.az c hc
  omega
theorem fix_ok : ∀ b ∈ ([("ba" : Str), ("aa" : Str), ("abca" : Str), ("a-c" : Str)] : List Str), signsB b = false ∧ b.length ≤ 60 ∧ ∀ c ∈ b.cps.toList, c < 200 := by decide +kernel
theorem one_ok : ∀ b ∈ ([("A" : Str), (" " : Str), ("{" : Str), ("`" : Str), ("1" : Str)] : List Str), b.length = 1 ∧ (∀ c ∈ b.cps.toList, c < 200) ∧ ∃ c ∈ b.cps.toList, isSg c = false := by decide +kernel
theorem bad_cat {a b : Str} (sa : a.length ≤ 30) (sb : b.length ≤ 30) (ha : Oc a) (hb : Oc b) (h : (∃ c ∈ cl a, isSg c = false) ∨ ∃ c ∈ cl b, isSg c = false) : BadSg (a ++ b) := by
  refine ⟨?_, by rw [Str.length_append]; omega, oc_cat ha hb⟩
  rcases h with ⟨c, h1, h2⟩ | ⟨c, h1, h2⟩
  · exact noSg_mem (by rw [cl_cat]; exact List.mem_append_left _ h1) h2
  · exact noSg_mem (by rw [cl_cat]; exact List.mem_append_right _ h1) h2
theorem bads_ok {sg : Str} (h : SgOk sg) (hl : sg.length ≤ 26) : ∀ b ∈ bads sg, BadSg b := by
  have ll : (cl sg).length = sg.length := Array.length_toList
  have ocs := h.oc
  have fx : ∀ b ∈ ([("ba" : Str), ("aa" : Str), ("abca" : Str), ("a-c" : Str)] : List Str), BadSg b := fun b hb => by
    obtain ⟨h1, h2, h3⟩ := fix_ok b hb
    exact ⟨h1, h2, h3⟩
  have on : ∀ b ∈ ([("A" : Str), (" " : Str), ("{" : Str), ("`" : Str), ("1" : Str)] : List Str), BadSg (sg ++ b) ∧ BadSg (b ++ sg) := fun b hb => by
    obtain ⟨h1, h2, h3⟩ := one_ok b hb
    exact ⟨bad_cat (by omega) (by omega) ocs h2 (.inr h3), bad_cat (by omega) (by omega) h2 ocs (.inl h3)⟩
  intro b hb
  unfold bads at hb
  rcases List.mem_append.mp hb with hb | hb
  · rcases List.mem_append.mp hb with hb | hb
    · unfold base9 at hb
      simp only [List.mem_cons, List.not_mem_nil, or_false] at hb
      rcases hb with rfl | rfl | rfl | rfl | rfl | rfl | rfl | rfl | rfl
      · exact fx _ (by simp)
      · exact fx _ (by simp)
      · exact fx _ (by simp)
      · exact (on "A" (by simp)).1
      · exact (on " " (by simp)).2
      · exact (on "{" (by simp)).1
      · exact fx _ (by simp)
      · exact (on "`" (by simp)).2
      · exact (on "1" (by simp)).1
    · split at hb
      · rename_i h0
        cases e : cl sg with
        | nil =>
          rw [e] at ll
          have : sg.length = 0 := ll.symm
          omega
        | cons x l =>
          simp only [List.mem_cons, List.not_mem_nil, or_false] at hb
          have hx : Oc (toS [x]) := fun c hc => by
            rw [toS_cl] at hc
            rw [List.mem_singleton.mp hc]
            exact ocs x (show x ∈ cl sg by rw [e]; exact List.mem_cons_self)
          rcases hb with rfl | rfl
          · rw [e]
            refine ⟨noSg_up ?_, by rw [Str.length_append, toS_len]; simp; omega, oc_cat ocs hx⟩
            rw [cl_cat, cl_toS, e]
            intro p
            have := (List.pairwise_append.mp p).2.2 x List.mem_cons_self x (by simp)
            omega
          · have hg : (cl sg).getLastD 0 ∈ cl sg := by
              rw [e]
              have : (x :: l).getLastD 0 = (x :: l).getLast (by simp) := by
                rw [List.getLastD_eq_getLast?, List.getLast?_eq_getLast (by simp)]
                rfl
              rw [this]
              exact List.getLast_mem _
            generalize (cl sg).getLastD 0 = y at hg
            have hy : Oc (toS [y]) := fun c hc => by
              rw [toS_cl] at hc
              rw [List.mem_singleton.mp hc]
              exact ocs y hg
            refine ⟨noSg_up ?_, by rw [Str.length_append, toS_len]; simp; omega, oc_cat hy ocs⟩
            rw [cl_cat, cl_toS]
            intro p
            have := (List.pairwise_append.mp p).2.2 y (by simp) y hg
            omega
      · cases hb
  · split at hb
    · rename_i h1
      simp only [List.mem_cons, List.not_mem_nil, or_false] at hb
      subst hb
      refine ⟨noSg_up ?_, by rw [toS_len, List.length_reverse]; omega, fun c hc => ?_⟩
      · rw [cl_toS]
        intro p
        have up := h.up
        rw [List.pairwise_reverse] at p
        cases e : cl sg with
        | nil =>
          rw [e] at ll
          have : sg.length = 0 := ll.symm
          omega
        | cons x l =>
          cases l with
          | nil =>
            rw [e] at ll
            have : sg.length = 1 := ll.symm
            omega
          | cons y l =>
            rw [e] at p up
            have h3 := (List.pairwise_cons.mp p).1 y List.mem_cons_self
            have h4 := (List.pairwise_cons.mp up).1 y List.mem_cons_self
            omega
      · rw [toS_cl] at hc
        exact ocs c (List.mem_reverse.mp hc)
    · cases hb
theorem bads_len (sg : Str) : 9 ≤ (bads sg).length ∧ (bads sg).length ≤ 12 := by
  unfold bads base9
  split <;> split <;> simp
def spBsg : SpD := fun ds w κ χ => ∃ sg : Str, ds = [DL.T sg] ∧ SgOk sg ∧ sg.length ≤ 26 ∧ κ (.lst ((bads sg).map DL.T)) w
section
variable {P : Program} {w : PySem.World} {K : PySem.W.Frag} {mg : Str → Option Value} {base : Heap} {T : List (Addr × Str)}
theorem scBsg : FnScope ["signs", "found"] ["signs"] (defScope sBsg) := ⟨rfl, rfl, rfl, by decide +kernel, rfl, by decide +kernel, by decide +kernel⟩
theorem ok_bsg {f : Addr} {fd : FuncData} (G : Fun K "_law_bad_signs" "_law_bad_signs" sBsg f fd) (hm : Nm35 mg) : FnOk P w K mg base CX0 1 f fd ["signs"] (spOf K T spBsg) := by
  refine fnD G scBsg (fun ds w κ χ h => ?_) (fun cdv A outer s H E ds w0 κ χ hr h => ?_)
  · obtain ⟨sg, rfl, _⟩ := h
    rfl
  obtain ⟨sg, rfl, ok, sl, k⟩ := h
  have nd := scBsg.nd
  have ll : (cl sg).length = sg.length := Array.length_toList
  have l1 : ("A" : Str).length = 1 := rfl
  have l2 : (" " : Str).length = 1 := rfl
  have l3 : ("{" : Str).length = 1 := rfl
  have l4 : ("`" : Str).length = 1 := rfl
  have l5 : ("1" : Str).length = 1 := rfl
  refine pssd_cons ?_
  with_reducible refine psd_set (i := 1) ?_ ?_ ?_ ?_ ?_ ?_
  · exact nd
  · rfl
  rotate_left
  · first | exact .inl rfl | exact .inr rfl
  · rfl
  · first | exact .inl rfl | exact .inr rfl
  with_reducible refine pd_lst ?_
  (with_reducible refine pad_cons (pd_str ?_) (by with_unfolding_all rfl))
  (with_reducible refine pad_cons (pd_str ?_) (by with_unfolding_all rfl))
  (with_reducible refine pad_cons (pd_str ?_) (by with_unfolding_all rfl))
  ((with_reducible refine pad_cons ?_ (by with_unfolding_all rfl)); refine pd_op op_add_str ?_; refine pd_var (i := 0) rfl rfl ?_; refine pd_str ?_; refine vr_addS (by rw [sizeLine_eq]; omega) ?_)
  ((with_reducible refine pad_cons ?_ (by with_unfolding_all rfl)); refine pd_op op_add_str ?_; refine pd_str ?_; refine pd_var (i := 0) rfl rfl ?_; refine vr_addS (by rw [sizeLine_eq]; omega) ?_)
  ((with_reducible refine pad_cons ?_ (by with_unfolding_all rfl)); refine pd_op op_add_str ?_; refine pd_var (i := 0) rfl rfl ?_; refine pd_str ?_; refine vr_addS (by rw [sizeLine_eq]; omega) ?_)
  (with_reducible refine pad_cons (pd_str ?_) (by with_unfolding_all rfl))
  ((with_reducible refine pad_cons ?_ (by with_unfolding_all rfl)); refine pd_op op_add_str ?_; refine pd_str ?_; refine pd_var (i := 0) rfl rfl ?_; refine vr_addS (by rw [sizeLine_eq]; omega) ?_)
  ((with_reducible refine pad_cons ?_ (by with_unfolding_all rfl)); refine pd_op op_add_str ?_; refine pd_var (i := 0) rfl rfl ?_; refine pd_str ?_; refine vr_addS (by rw [sizeLine_eq]; omega) ?_)
  refine pad_nil ⟨by show 9 ≤ sizeLine; decide, ?_⟩
  refine pssd_as [some (DL.T sg), some (.lst ((base9 sg).map DL.T))] rfl ?_
  by_cases h0 : 0 < sg.length
  case neg =>
    have e0 : sg.length = 0 := by omega
    refine pssd_cons (psd_if ?_)
    refine ptd_cmp op_gt ?_
    (refine pd_callB call_len rfl hm.len PySem.boot_len ?_; (refine pad_cons ?_; refine pd_var (i := 0) rfl rfl ?_); refine pad_nil ?_; refine va_lenS (by rw [sizeLine_eq]; omega) ?_)
    refine pd_int ?_
    refine vr_I ⟨_, rfl, ?_⟩
    rw [decide_eq_false (by omega)]
    refine iteF ?_
    refine pssd_nil ?_
    refine pssd_cons (psd_if ?_)
    refine ptd_cmp op_gt ?_
    (refine pd_callB call_len rfl hm.len PySem.boot_len ?_; (refine pad_cons ?_; refine pd_var (i := 0) rfl rfl ?_); refine pad_nil ?_; refine va_lenS (by rw [sizeLine_eq]; omega) ?_)
    refine pd_int ?_
    refine vr_I ⟨_, rfl, ?_⟩
    rw [decide_eq_false (by omega)]
    refine iteF ?_
    refine pssd_nil ?_
    refine pssd_one (psd_ret ?_)
    refine pd_var (i := 1) rfl rfl ?_
    have eb : bads sg = base9 sg := by
      unfold bads
      rw [if_neg h0, if_neg (by omega), List.append_nil, List.append_nil]
    rw [← eb]
    exact k
  have tl : (toS ((cl sg).take 1)).length = 1 := by rw [toS_len, List.length_take]; omega
  have lastE : cl sg = (cl sg).dropLast ++ [(cl sg).getLastD 0] := by
    cases e : cl sg with
    | nil =>
      rw [e] at ll
      have : sg.length = 0 := ll.symm
      omega
    | cons x l =>
      rw [List.getLastD_eq_getLast?, List.getLast?_eq_getLast (by simp)]
      exact (List.dropLast_concat_getLast (by simp)).symm
  have l9 : ((base9 sg).map DL.T).length = 9 := rfl
  by_cases h1 : 1 < sg.length
  case neg =>
    refine pssd_cons (psd_if ?_)
    refine ptd_cmp op_gt ?_
    (refine pd_callB call_len rfl hm.len PySem.boot_len ?_; (refine pad_cons ?_; refine pd_var (i := 0) rfl rfl ?_); refine pad_nil ?_; refine va_lenS (by rw [sizeLine_eq]; omega) ?_)
    refine pd_int ?_
    refine vr_I ⟨_, rfl, ?_⟩
    rw [decide_eq_true (by omega)]
    refine iteT ?_
    refine pssd_one (psd_set (i := 1) nd rfl ?_)
    refine pd_op op_cat ?_
    refine pd_var (i := 1) rfl rfl ?_
    refine pd_lst ?_
    refine pad_cons ?_
    refine pd_op op_add_str ?_
    refine pd_var (i := 0) rfl rfl ?_
    refine pd_slTC ?_
    refine pd_var (i := 0) rfl rfl ?_
    refine pd_int ?_
    refine ⟨sg, 1, rfl, rfl, by rw [sizeLine_eq]; omega, ?_⟩
    rw [show (1 : Int) = ((1 : Nat) : Int) from rfl, cut_toS]
    refine vr_addS (by rw [tl, sizeLine_eq]; omega) ?_
    refine pad_cons ?_
    refine pd_op op_add_str ?_
    refine pd_ix ix_str ?_
    refine pd_var (i := 0) rfl rfl ?_
    refine pd_un un_neg ?_
    refine pd_int ?_
    refine vr_U ?_
    refine vr_ixSLast (by rw [sizeLine_eq]; omega) lastE ?_
    refine pd_var (i := 0) rfl rfl ?_
    refine vr_addS (by show 1 + sg.length ≤ _; rw [sizeLine_eq]; omega) ?_
    refine pad_nil ⟨by show 2 ≤ sizeLine; decide, ?_⟩
    refine vr_cat (by rw [l9]; show 9 + 2 ≤ sizeLine; decide) ?_
    refine pssd_cons (psd_if ?_)
    refine ptd_cmp op_gt ?_
    (refine pd_callB call_len rfl hm.len PySem.boot_len ?_; (refine pad_cons ?_; refine pd_var (i := 0) rfl rfl ?_); refine pad_nil ?_; refine va_lenS (by rw [sizeLine_eq]; omega) ?_)
    refine pd_int ?_
    refine vr_I ⟨_, rfl, ?_⟩
    rw [decide_eq_false (by omega)]
    refine iteF ?_
    refine pssd_nil ?_
    refine pssd_one (psd_ret ?_)
    refine pd_var (i := 1) rfl rfl ?_
    have eb : bads sg = base9 sg ++ [sg ++ toS ((cl sg).take 1), toS [(cl sg).getLastD 0] ++ sg] := by
      unfold bads
      rw [if_pos h0, if_neg h1, List.append_nil]
    rw [eb, List.map_append] at k
    exact k
  refine pssd_cons (psd_if ?_)
  refine ptd_cmp op_gt ?_
  (refine pd_callB call_len rfl hm.len PySem.boot_len ?_; (refine pad_cons ?_; refine pd_var (i := 0) rfl rfl ?_); refine pad_nil ?_; refine va_lenS (by rw [sizeLine_eq]; omega) ?_)
  refine pd_int ?_
  refine vr_I ⟨_, rfl, ?_⟩
  rw [decide_eq_true (by omega)]
  refine iteT ?_
  refine pssd_one (psd_set (i := 1) nd rfl ?_)
  refine pd_op op_cat ?_
  refine pd_var (i := 1) rfl rfl ?_
  refine pd_lst ?_
  refine pad_cons ?_
  refine pd_op op_add_str ?_
  refine pd_var (i := 0) rfl rfl ?_
  refine pd_slTC ?_
  refine pd_var (i := 0) rfl rfl ?_
  refine pd_int ?_
  refine ⟨sg, 1, rfl, rfl, by rw [sizeLine_eq]; omega, ?_⟩
  rw [show (1 : Int) = ((1 : Nat) : Int) from rfl, cut_toS]
  refine vr_addS (by rw [tl, sizeLine_eq]; omega) ?_
  refine pad_cons ?_
  refine pd_op op_add_str ?_
  refine pd_ix ix_str ?_
  refine pd_var (i := 0) rfl rfl ?_
  refine pd_un un_neg ?_
  refine pd_int ?_
  refine vr_U ?_
  refine vr_ixSLast (by rw [sizeLine_eq]; omega) lastE ?_
  refine pd_var (i := 0) rfl rfl ?_
  refine vr_addS (by show 1 + sg.length ≤ _; rw [sizeLine_eq]; omega) ?_
  refine pad_nil ⟨by show 2 ≤ sizeLine; decide, ?_⟩
  refine vr_catO (by rw [l9]; show 9 + 2 ≤ sizeLine; decide) fun a na => ?_
  refine pssd_cons (psd_if ?_)
  refine ptd_cmp op_gt ?_
  (refine pd_callB call_len rfl hm.len PySem.boot_len ?_; (refine pad_cons ?_; refine pd_var (i := 0) rfl rfl ?_); refine pad_nil ?_; refine va_lenS (by rw [sizeLine_eq]; omega) ?_)
  refine pd_int ?_
  refine vr_I ⟨_, rfl, ?_⟩
  rw [decide_eq_true (by omega)]
  refine iteT ?_
  refine pssd_one (psd_expr ?_)
  refine pd_bm PySem.F.plainAttrs_list PySem.F.slot_list_append PySem.F.type_list_append mt_append ?_
  refine pd_var (i := 1) rfl rfl ?_
  refine ⟨⟨rfl, _, wu_same⟩, ?_⟩
  refine pad_cons ?_
  refine pd_revX ?_
  refine pd_var (i := 0) rfl rfl ?_
  refine ⟨sg, rfl, by rw [sizeLine_eq]; omega, ?_⟩
  refine pad_nil ?_
  refine vm_append wu_same (by rw [List.length_append, l9]; show 9 + 2 < sizeLine; decide) ?_
  rw [wu_wu]
  refine pssd_freeze 1 rfl wu_same ?_
  rw [wd_wu na]
  refine pssd_one (psd_ret ?_)
  refine pd_var (i := 1) rfl rfl ?_
  have eb : bads sg = base9 sg ++ [sg ++ toS ((cl sg).take 1), toS [(cl sg).getLastD 0] ++ sg] ++ [toS (cl sg).reverse] := by
    unfold bads
    rw [if_pos h0, if_pos h1]
  rw [eb, List.map_append, List.map_append] at k
  exact k
end
end Tw

set_option Elab.async false
set_option linter.all false
set_option maxRecDepth 100000
set_option maxHeartbeats 1000000
/-! A list of lists, all owned: a row is changed, then all stand. -/
namespace DL
open PySem PySem.Spec PyProof.Rows L2 LamX
theorem wu_comm {w : Wp} {a b : Addr} {h k : HD} (n : a ≠ b) : wu (wu w a h) b k = wu (wu w b k) a h := by
  funext z
  by_cases e1 : z = a
  · rw [e1, wu_same, wu_ne n, wu_same]
  · by_cases e2 : z = b
    · rw [e2, wu_same, wu_ne (Ne.symm n), wu_same]
    · rw [wu_ne e2, wu_ne e1, wu_ne e1, wu_ne e2]
/-- beside w: the outer list at a, the rows at bs -/
def CpO (w w2 : Wp) (a : Addr) (bs : List Addr) (xss : List (List D)) : Prop := ∃ w1, Owns w bs xss w1 ∧ w1 a = none ∧ w2 = wu w1 a (.lst (bs.map R))
section
variable {w w2 : Wp} {a : Addr} {bs : List Addr} {xss : List (List D)}
theorem CpO.outer (c : CpO w w2 a bs xss) : w2 a = some (.lst (bs.map R)) := by
  obtain ⟨w1, o, n, rfl⟩ := c
  exact wu_same
theorem CpO.len (c : CpO w w2 a bs xss) : bs.length = xss.length := by
  obtain ⟨w1, o, n, rfl⟩ := c
  exact o.len
theorem CpO.row (c : CpO w w2 a bs xss) {j : Nat} {x : List D} (hx : xss[j]? = some x) : ∃ b, (bs.map R)[j]? = some (R b) ∧ w2 b = some (.lst x) ∧ ∀ y, CpO w (wu w2 b (.lst y)) a bs (xss.set j y) := by
  obtain ⟨w1, o, n, rfl⟩ := c
  have lj := (List.getElem?_eq_some_iff.mp hx).1
  have hb : bs[j]? = some (bs[j]'(by rw [o.len]; exact lj)) := List.getElem?_eq_getElem _
  have hw := o.at_ j _ x hb hx
  have ne : a ≠ bs[j]'(by rw [o.len]; exact lj) := fun z => by
    rw [← z, n] at hw
    cases hw
  refine ⟨_, by rw [List.getElem?_map, hb]; rfl, by rw [wu_ne (Ne.symm ne)]; exact hw, fun y => ⟨wu w1 _ (.lst y), o.set hb y, by rw [wu_ne ne]; exact n, wu_comm ne⟩⟩
/-- a row is joined to the list -/
theorem CpO.out (c : CpO w w2 a bs xss) : ∀ z, z ∉ bs → z ≠ a → w2 z = w z := by
  obtain ⟨w1, o, n, rfl⟩ := c
  intro z h1 h2
  rw [wu_ne h2]
  exact o.rest z h1
end
section
variable {X : Cx} {T : List (Addr × Str)} {W : WX} {χ : XD} {δ : Dn} {pos : Pos}
/-- all of it stands from now on -/
theorem pssd_frzC {sts : List Stmt} {C : Fin} {w w2 : Wp} {a : Addr} {bs : List Addr} {xss : List (List D)} (i : Nat) (hi : δ[i]? = some (some (R a))) (c : CpO w w2 a bs xss) (h : PSsD X T W χ sts (δ.set i (some (.lst (xss.map D.lst)))) w C) : PSsD X T W χ sts δ w2 C := by
  have ho := c.outer
  obtain ⟨w1, o, n, rfl⟩ := c
  refine pssd_freeze i hi ho ?_
  rw [wd_wu n]
  have li := (List.getElem?_eq_some_iff.mp hi).1
  refine pssd_freezeL i (List.getElem?_set_self li) o ?_
  rw [List.set_set]
  exact h
end
end DL

set_option Elab.async false
set_option linter.all false
set_option maxRecDepth 100000
set_option maxHeartbeats 4000000
/-! k35: _law_bad_steps. -/
namespace Tw
open PySem PySem.Spec PyProof.Rows L2 LamX DL
abbrev sBst : Stmt := top 25
/-- steps of which there is no machine -/
structure BadSt (n : Nat) (st : List (List Int)) : Prop where
  no : (!decide (st.length = 0) && lensB n st && gosB st.length st) = false
  stl : st.length ≤ 900
  stn : ∀ x ∈ st, x.length ≤ 900
/-- good steps -/
structure GoodSt (n : Nat) (st : List (List Int)) : Prop where
  n26 : n ≤ 26
  l0 : 0 < st.length
  l40 : st.length ≤ 40
  ln : ∀ x ∈ st, x.length = n
  go : ∀ x ∈ st, ∀ y ∈ x, 0 ≤ y ∧ y < (st.length : Int)
theorem lens_iff {n : Nat} {α : Type} {xs : List (List α)} : lensB n xs = true ↔ ∀ x ∈ xs, x.length = n := by
  unfold lensB
  rw [Bool.not_eq_true', ← Bool.not_eq_true, List.any_eq_true]
  constructor
  · intro h x hx
    exact Classical.byContradiction fun z => h ⟨x, hx, by simpa using z⟩
  · rintro h ⟨x, hx, z⟩
    have := h x hx
    simp [this] at z
theorem gos_iff {m : Nat} {xs : List (List Int)} : gosB m xs = true ↔ ∀ x ∈ xs, ∀ y ∈ x, 0 ≤ y ∧ y < (m : Int) := by
  unfold gosB
  rw [Bool.not_eq_true', ← Bool.not_eq_true, List.any_eq_true]
  constructor
  · intro h x hx y hy
    refine Classical.byContradiction fun z => h ⟨y, List.mem_flatten.mpr ⟨x, hx, hy⟩, ?_⟩
    simp
    omega
  · rintro h ⟨y, hy, z⟩
    obtain ⟨x, hx, hxy⟩ := List.mem_flatten.mp hy
    have := h x hx y hxy
    simp at z
    omega
theorem bad_len {n : Nat} {st : List (List Int)} (g : GoodSt n st) {i : Nat} (hi : i < st.length) {y : List Int} (hy : y.length ≠ n) (h9 : y.length ≤ 900) : BadSt n (st.set i y) := by
  have n26 := g.n26
  have l40 := g.l40
  refine ⟨?_, by rw [List.length_set]; omega, fun x hx => ?_⟩
  · have e : lensB n (st.set i y) = false := by
      rw [Bool.eq_false_iff]
      intro z
      exact hy (lens_iff.mp z y (List.mem_set hi y))
    rw [e, Bool.and_false, Bool.false_and]
  · rcases List.mem_or_eq_of_mem_set hx with h | h
    · rw [g.ln x h]
      omega
    · rw [h]
      exact h9
theorem bad_go {n : Nat} {st : List (List Int)} (g : GoodSt n st) {i p : Nat} (hi : i < st.length) (hp : p < n) {v : Int} (hv : v < 0 ∨ v ≥ (st.length : Int)) : BadSt n (st.set i (st[i].set p v)) := by
  have n26 := g.n26
  have l40 := g.l40
  have lx := g.ln _ (List.getElem_mem hi)
  refine ⟨?_, by rw [List.length_set]; omega, fun x hx => ?_⟩
  · have e : gosB (st.set i (st[i].set p v)).length (st.set i (st[i].set p v)) = false := by
      rw [Bool.eq_false_iff, List.length_set]
      intro z
      have := gos_iff.mp z _ (List.mem_set hi (st[i].set p v)) v (List.mem_set (by rw [lx]; exact hp) v)
      omega
    rw [e, Bool.and_false]
  · rcases List.mem_or_eq_of_mem_set hx with h | h
    · rw [g.ln x h]
      omega
    · rw [h, List.length_set, lx]
      omega
theorem bad_nil {n : Nat} : BadSt n [] := ⟨rfl, by decide, fun x hx => by cases hx⟩
theorem st_map {st : List (List Int)} : stD st = .lst ((st.map fun x => x.map I).map D.lst) := by
  unfold stD
  rw [List.map_map]
  rfl
theorem st_set {st : List (List Int)} {i : Nat} {y : List Int} : (st.map fun x => x.map I).set i (y.map I) = (st.set i y).map fun x => x.map I := by
  rw [List.map_set]
def spBst : SpD := fun ds w κ χ => ∃ (a : Addr) (b : Bg) (sg : Str) (st : List (List Int)) (wo : List (List Str)) (f : Int), ds = [R a, partD sg st wo f] ∧ BgAt w a b ∧ BgOk b ∧ GoodSt sg.length st ∧
  ∀ (bs : List (List (List Int))) (b' : Bg), BgOk b' → bs ≠ [] → bs.length ≤ 20 → (∀ x ∈ bs, BadSt sg.length x) → κ (.lst (bs.map stD)) (bgPut w a b')
theorem cpy_stO {st : List (List Int)} {w : Wp} {κ : D → Wp → Prop} {χ : XD} (h : st.length ≤ 900) (k : ∀ bs w2 a, CpO w w2 a bs (st.map fun x => x.map I) → w a = none → κ (R a) w2) : spCpyO [stD st] w κ χ := by
  refine ⟨_, by rw [st_map], by rw [List.length_map]; exact h, fun bs w1 a ow na => k bs _ a ⟨w1, ow, na, rfl⟩ ?_⟩
  by_cases e : a ∈ bs
  · exact ow.fresh a e
  · rw [← ow.rest a e]
    exact na
/-- beside w0: the bag at a is q, a list is owned at a1 -/
structure F1 (w0 w : Wp) (a a1 : Addr) (q : Bg) (x1 : List D) : Prop where
  d1 : a1 ≠ a
  n1 : w0 a1 = none
  eq : w = wu (bgPut w0 a q) a1 (.lst x1)
theorem F1.pa {w0 w : Wp} {a a1 : Addr} {q : Bg} {x1 : List D} (f : F1 w0 w a a1 q x1) : BgAt w a q := by
  rw [f.eq]
  show wu _ _ _ _ = _
  rw [wu_ne (Ne.symm f.d1)]
  exact bg_put
theorem F1.h1 {w0 w : Wp} {a a1 : Addr} {q : Bg} {x1 : List D} (f : F1 w0 w a a1 q x1) : w a1 = some (.lst x1) := by
  rw [f.eq]
  exact wu_same
theorem F1.take {w0 w : Wp} {a a1 : Addr} {q : Bg} {x1 : List D} (f : F1 w0 w a a1 q x1) (q' : Bg) : F1 w0 (bgPut w a q') a a1 q' x1 := by
  refine ⟨f.d1, f.n1, ?_⟩
  rw [f.eq]
  unfold bgPut
  rw [wu_comm f.d1, wu_wu]
theorem F1.set {w0 w : Wp} {a a1 : Addr} {q : Bg} {x1 : List D} (f : F1 w0 w a a1 q x1) (y : List D) : F1 w0 (wu w a1 (.lst y)) a a1 q y := by
  refine ⟨f.d1, f.n1, ?_⟩
  rw [f.eq, wu_wu]
theorem F1.out {w0 w : Wp} {a a1 : Addr} {q : Bg} {x1 : List D} (f : F1 w0 w a a1 q x1) : wd w a1 = bgPut w0 a q := by
  rw [f.eq]
  refine wd_wu ?_
  unfold bgPut
  rw [wu_ne f.d1]
  exact f.n1
theorem F1.new {w0 : Wp} {a a1 : Addr} {q : Bg} {x1 : List D} (n : bgPut w0 a q a1 = none) : F1 w0 (wu (bgPut w0 a q) a1 (.lst x1)) a a1 q x1 := by
  have d : a1 ≠ a := none_ne n bg_put
  refine ⟨d, ?_, rfl⟩
  unfold bgPut at n
  rw [wu_ne d] at n
  exact n
section
variable {P : Program} {w : PySem.World} {K : PySem.W.Frag} {mg : Str → Option Value} {base : Heap} {T : List (Addr × Str)}
def NBst : List Str := ["bag", "parts", "count", "state", "longer", "found", "place", "shorter", "goal", "spoilt"]
theorem scBst : FnScope NBst ["bag", "parts"] (defScope sBst) := ⟨rfl, rfl, rfl, by decide +kernel, rfl, by decide +kernel, by decide +kernel⟩
theorem ok_bst {f : Addr} {fd : FuncData} (G : Fun K "_law_bad_steps" "_law_bad_steps" sBst f fd) (hm : Nm35 mg) (hC : HasF P w K mg base T CX0 "_law_copy" 1 ["lines"] spCpyO) (hT : HasF P w K mg base T CX0 "_law_take" 1 ["bag", "size"] spTake) : FnOk P w K mg base CX0 2 f fd ["bag", "parts"] (spOf K T spBst) := by
  refine fnD G scBst (fun ds w κ χ h => ?_) (fun cdv A outer s H E ds w0 κ χ hr h => ?_)
  · obtain ⟨a, b, sg, st, wo, fi, rfl, _⟩ := h
    rfl
  obtain ⟨a, b, sg, st, wo, fi, rfl, hb, ok, g, k⟩ := h
  have nd := scBst.nd
  have n26 := g.n26
  have l40 := g.l40
  have l0 := g.l0
  have e0 := bg_id hb
  refine pssd_cons (psd_set (i := 2) nd rfl ?_)
  refine pd_callB call_len_seq rfl hm.len PySem.boot_len ?_
  refine pad_cons ?_
  (refine pd_ix ix_list ?_; refine pd_var (i := 1) rfl rfl ?_; refine pd_int ?_; refine vr_ixL (i := 1) rfl ?_)
  refine pad_nil ?_
  refine va_len ?_
  rw [List.length_map]
  refine pssd_cons (psd_set (i := 3) nd rfl ?_)
  refine pd_take hT hr (i := 0) rfl rfl hb ok ?_
  refine pd_var (i := 2) rfl rfl ?_
  refine ⟨rfl, _, rfl, by omega, lg9' (by omega) (by omega), fun x b1 x0 x1 ok1 => ?_⟩
  obtain ⟨i, rfl⟩ := Int.eq_ofNat_of_zero_le x0
  have hi : i < st.length := by omega
  have gi : st[i]? = some st[i] := List.getElem?_eq_getElem hi
  have lx := g.ln _ (List.getElem_mem hi)
  refine pssd_cons (psd_set (i := 4) nd rfl ?_)
  refine pd_has hC hr (fun _ => pass0At) ?_
  refine pad_cons ?_
  (refine pd_ix ix_list ?_; refine pd_var (i := 1) rfl rfl ?_; refine pd_int ?_; refine vr_ixL (i := 1) rfl ?_)
  refine pad_nil (cpy_stO (by omega) fun bs w2 aL c na => ?_)
  obtain ⟨bb, q1, q2, q3⟩ := c.row (j := i) (x := st[i].map I) (by rw [List.getElem?_map, gi]; rfl)
  refine pssd_cons (psd_expr ?_)
  refine pd_bm PySem.F.plainAttrs_list PySem.F.slot_list_append PySem.F.type_list_append mt_append ?_
  refine pd_ix ix_list ?_
  refine pd_var (i := 4) rfl rfl ?_
  refine pd_var (i := 3) rfl rfl ?_
  refine vr_ixO c.outer q1 ?_
  refine ⟨⟨rfl, _, q2⟩, ?_⟩
  refine pad_cons (pd_int ?_)
  refine pad_nil ?_
  refine vm_append q2 (by rw [List.length_map, lx, sizeLine_eq]; omega) ?_
  have e1 : st[i].map I ++ [I 0] = (st[i] ++ [0]).map I := by rw [List.map_append]; rfl
  rw [e1]
  have c2 := q3 ((st[i] ++ [0]).map I)
  rw [st_set] at c2
  refine pssd_frzC 4 rfl c2 ?_
  rw [← st_map]
  have bL : BadSt sg.length (st.set i (st[i] ++ [0])) := bad_len g hi (by rw [List.length_append, lx]; simp) (by rw [List.length_append, lx]; simp; omega)
  generalize st.set i (st[i] ++ [0]) = sL at bL
  refine pssd_cons (psd_set (i := 5) nd rfl ?_)
  refine pd_lstO ?_
  refine pad_cons ?_
  refine pd_lst ?_
  refine pad_nil ⟨by show 0 ≤ sizeLine; decide, ?_⟩
  refine pad_cons ?_
  refine pd_var (i := 4) rfl rfl ?_
  refine pad_nil ⟨by show 2 ≤ sizeLine; decide, fun af naf => ?_⟩
  have f0 : F1 w0 (wu (bgPut w0 a b1) af (.lst [.lst [], stD sL])) a af b1 (([[], sL] : List (List (List Int))).map stD) := F1.new naf
  generalize wu (bgPut w0 a b1) af (.lst [.lst [], stD sL]) = w3 at f0
  refine pssd_as [some (R a), some (partD sg st wo fi), some (I (st.length : Int)), some (I (i : Int)), some (stD sL), some (R af), none, none, none, none] rfl ?_
  have fin : ∀ (bs : List (List (List Int))) (q : Bg) (w' : Wp) (x6 x7 x8 x9 : Option D), F1 w0 w' a af q (bs.map stD) → BgOk q → bs ≠ [] → bs.length ≤ 20 → (∀ x ∈ bs, BadSt sg.length x) → PSsD (cxOf CX0 P w K mg base NBst "_law_bad_steps" (defScope sBst) f cdv A outer s H E).nox T Wf noX ((defBody sBst).drop 6)
      [some (R a), some (partD sg st wo fi), some (I (st.length : Int)), some (I (i : Int)), some (stD sL), some (R af), x6, x7, x8, x9] w' { nx := fun _ w' => κ DL.N w', rt := κ } := by
    intro bs q w' x6 x7 x8 x9 F hq hne hlen hbad
    refine pssd_freeze 5 rfl F.h1 ?_
    rw [F.out]
    refine pssd_one (psd_ret ?_)
    refine pd_var (i := 5) rfl rfl ?_
    exact k bs q hq hne hlen hbad
  refine pssd_cons (psd_if ?_)
  refine ptd_txt ?_
  (refine pd_ix ix_list ?_; refine pd_var (i := 1) rfl rfl ?_; refine pd_int ?_; refine vr_ixL (i := 0) rfl ?_)
  refine ⟨sg, rfl, by rw [sizeLine_eq]; omega, ?_⟩
  by_cases n0 : 0 < sg.length
  case neg =>
    rw [decide_eq_false n0]
    refine iteF ?_
    refine pssd_nil ?_
    exact fin [[], sL] b1 w3 _ _ _ _ f0 ok1 (by simp) (by simp) fun x hx => by
      simp only [List.mem_cons, List.not_mem_nil, or_false] at hx
      rcases hx with rfl | rfl
      · exact bad_nil
      · exact bL
  rw [decide_eq_true n0]
  refine iteT ?_
  refine pssd_cons (psd_set (i := 6) nd rfl ?_)
  refine pd_take hT hr (i := 0) rfl rfl f0.pa ok1 ?_
  refine pd_callB call_len rfl hm.len PySem.boot_len ?_
  refine pad_cons ?_
  (refine pd_ix ix_list ?_; refine pd_var (i := 1) rfl rfl ?_; refine pd_int ?_; refine vr_ixL (i := 0) rfl ?_)
  refine pad_nil ?_
  refine va_lenS (by rw [sizeLine_eq]; omega) ?_
  refine ⟨rfl, _, rfl, by omega, lg9' (by omega) (by omega), fun x b2 y0 y1 ok2 => ?_⟩
  obtain ⟨p, rfl⟩ := Int.eq_ofNat_of_zero_le y0
  have hp : p < sg.length := by omega
  have f1 := f0.take b2
  generalize bgPut w3 a b2 = w4 at f1
  refine pssd_cons (psd_set (i := 7) nd rfl ?_)
  refine pd_has hC hr (fun _ => pass0At) ?_
  refine pad_cons ?_
  (refine pd_ix ix_list ?_; refine pd_var (i := 1) rfl rfl ?_; refine pd_int ?_; refine vr_ixL (i := 1) rfl ?_)
  refine pad_nil (cpy_stO (by omega) fun bs2 w5 aS c3 na3 => ?_)
  obtain ⟨bb2, r1, r2, r3⟩ := c3.row (j := i) (x := st[i].map I) (by rw [List.getElem?_map, gi]; rfl)
  refine pssd_cons (psd_expr ?_)
  refine pd_bm0 PySem.F.plainAttrs_list PySem.F.slot_list_pop PySem.F.type_list_pop mt_pop ?_
  refine pd_ix ix_list ?_
  refine pd_var (i := 7) rfl rfl ?_
  refine pd_var (i := 3) rfl rfl ?_
  refine vr_ixO c3.outer r1 ?_
  refine ⟨⟨rfl, _, r2⟩, ?_⟩
  refine vm_pop (d := I (st[i].getLastD 0)) r2 ?_ ?_
  · rw [List.getElem?_map, List.length_map, List.getElem?_eq_getElem (by omega), List.getLastD_eq_getLast?, List.getLast?_eq_getElem?, List.getElem?_eq_getElem (by omega)]
    rfl
  have e2 : (st[i].map I).dropLast = st[i].dropLast.map I := by rw [List.map_dropLast]
  rw [e2]
  have c4 := r3 (st[i].dropLast.map I)
  rw [st_set] at c4
  refine pssd_frzC 7 rfl c4 ?_
  rw [← st_map]
  have bS : BadSt sg.length (st.set i st[i].dropLast) := bad_len g hi (by rw [List.length_dropLast, lx]; omega) (by rw [List.length_dropLast, lx]; omega)
  generalize st.set i st[i].dropLast = sS at bS
  refine pssd_cons (psd_expr ?_)
  refine pd_bm PySem.F.plainAttrs_list PySem.F.slot_list_append PySem.F.type_list_append mt_append ?_
  refine pd_var (i := 5) rfl rfl ?_
  refine ⟨⟨rfl, _, f1.h1⟩, ?_⟩
  refine pad_cons ?_
  refine pd_var (i := 7) rfl rfl ?_
  refine pad_nil ?_
  refine vm_append f1.h1 (by show 2 < sizeLine; decide) ?_
  have f2 := f1.set ((([[], sL] : List (List (List Int))) ++ [sS]).map stD)
  have e3 : (([[], sL] : List (List (List Int))).map stD ++ [stD sS]) = (([[], sL] : List (List (List Int))) ++ [sS]).map stD := by rw [List.map_append]; rfl
  rw [e3]
  generalize wu w4 af (.lst ((([[], sL] : List (List (List Int))) ++ [sS]).map stD)) = w6 at f2
  refine pssd_one (psd_for PassesOwn.never rfl ?_)
  refine it_list ?_
  refine pd_lst ?_
  (refine pad_cons ?_; refine pd_var (i := 2) rfl rfl ?_)
  refine pad_cons ?_
  refine pd_un un_neg ?_
  refine pd_int ?_
  refine vr_U ?_
  refine pad_cons ?_
  refine pd_un un_neg ?_
  refine pd_var (i := 2) rfl rfl ?_
  refine vr_U ?_
  refine pad_cons ?_
  refine pd_op op_pow ?_
  refine pd_int ?_
  refine pd_int ?_
  refine vr_IC ⟨by decide, by decide, by decide⟩ ?_
  refine pad_cons ?_
  refine pd_op op_add ?_
  refine pd_var (i := 2) rfl rfl ?_
  refine pd_take hT hr (i := 0) rfl rfl f2.pa ok2 ?_
  refine pd_int ?_
  refine ⟨rfl, _, rfl, by decide, by decide, fun x b3 z0 z1 ok3 => ?_⟩
  refine vr_I ?_
  refine pad_nil ⟨by show 5 ≤ sizeLine; decide, ?_⟩
  have f3 := f2.take b3
  generalize bgPut w6 a b3 = w7 at f3
  let goals : List Int := [(st.length : Int), -1, -(st.length : Int), 10 ^ 30, (st.length : Int) + x]
  have hg : ∀ v ∈ goals, v < 0 ∨ v ≥ (st.length : Int) := fun v hv => by
    simp only [goals, List.mem_cons, List.not_mem_nil, or_false] at hv
    rcases hv with rfl | rfl | rfl | rfl | rfl
    · omega
    · omega
    · omega
    · right
      have : (st.length : Int) ≤ 40 := by omega
      have h40 : (40 : Int) ≤ 10 ^ 30 := by decide
      omega
    · omega
  refine ⟨goals.map I, rfl, ?_⟩
  refine ⟨fun j δ' w' => ∃ x8 x9 : Option D, δ' = [some (R a), some (partD sg st wo fi), some (I (st.length : Int)), some (I (i : Int)), some (stD sL), some (R af), some (I (p : Int)), some (stD sS), x8, x9] ∧ F1 w0 w' a af b3 ((([[], sL] : List (List (List Int))) ++ [sS] ++ (goals.take j).map fun v => st.set i (st[i].set p v)).map stD), ⟨none, none, rfl, by rw [List.take_zero, List.map_nil, List.append_nil]; exact f3⟩, ?_, ?_⟩
  · rintro j d δ' w' hd ⟨x8, x9, rfl, F⟩
    rw [List.getElem?_map] at hd
    cases ev : goals[j]? with
    | none =>
      rw [ev] at hd
      cases hd
    | some v =>
      rw [ev] at hd
      cases hd
      have lj := (List.getElem?_eq_some_iff.mp ev).1
      have lj5 : j < 5 := lj
      refine pgd_name (i := 8) nd rfl ?_
      refine pssd_cons (psd_set (i := 9) nd rfl ?_)
      refine pd_has hC hr (fun _ => pass0At) ?_
      refine pad_cons ?_
      (refine pd_ix ix_list ?_; refine pd_var (i := 1) rfl rfl ?_; refine pd_int ?_; refine vr_ixL (i := 1) rfl ?_)
      refine pad_nil (cpy_stO (by omega) fun bs3 w8 aP c5 na5 => ?_)
      obtain ⟨bb3, t1, t2, t3⟩ := c5.row (j := i) (x := st[i].map I) (by rw [List.getElem?_map, gi]; rfl)
      refine pssd_cons (psd_sub set_list ?_)
      refine pd_var (i := 8) rfl rfl ?_
      refine pd_ix ix_list ?_
      refine pd_var (i := 9) rfl rfl ?_
      refine pd_var (i := 3) rfl rfl ?_
      refine vr_ixO c5.outer t1 ?_
      refine pd_var (i := 6) rfl rfl ?_
      refine vr_setO (i := p) t2 (by rw [List.length_map, lx]; exact hp) ?_
      have e4 : (st[i].map I).set p (I v) = (st[i].set p v).map I := by rw [List.map_set]
      rw [e4]
      have c6 := t3 ((st[i].set p v).map I)
      rw [st_set] at c6
      refine pssd_frzC 9 rfl c6 ?_
      rw [← st_map]
      refine pssd_one (psd_expr ?_)
      refine pd_bm PySem.F.plainAttrs_list PySem.F.slot_list_append PySem.F.type_list_append mt_append ?_
      refine pd_var (i := 5) rfl rfl ?_
      refine ⟨⟨rfl, _, F.h1⟩, ?_⟩
      refine pad_cons ?_
      refine pd_var (i := 9) rfl rfl ?_
      refine pad_nil ?_
      refine vm_append F.h1 (by rw [List.length_map, List.length_append, List.length_map, List.length_take, sizeLine_eq]; simp; omega) ?_
      refine ⟨_, _, rfl, ?_⟩
      have e5 : (([[], sL] : List (List (List Int))) ++ [sS] ++ (goals.take j).map fun v => st.set i (st[i].set p v)).map stD ++ [stD (st.set i (st[i].set p v))] = (([[], sL] : List (List (List Int))) ++ [sS] ++ (goals.take (j + 1)).map fun v => st.set i (st[i].set p v)).map stD := by
        rw [List.take_add_one, ev]
        simp
      rw [e5]
      exact F.set _
  · rintro δ' w' ⟨x8, x9, rfl, F⟩
    rw [List.length_map, List.take_length] at F
    refine fin _ b3 w' _ _ _ _ F ok3 (by simp) (by simp [goals]) fun y hy => ?_
    rcases List.mem_append.mp hy with hy | hy
    · simp only [List.cons_append, List.nil_append, List.mem_cons, List.not_mem_nil, or_false] at hy
      rcases hy with rfl | rfl | rfl
      · exact bad_nil
      · exact bL
      · exact bS
    · obtain ⟨v, hv, rfl⟩ := List.mem_map.mp hy
      exact bad_go g hi hp (hg v hv)
end
end Tw

set_option Elab.async false
set_option linter.all false
set_option maxRecDepth 100000
set_option maxHeartbeats 4000000
/-! k35: _law_bad_words. -/
namespace Tw
open PySem PySem.Spec PyProof.Rows L2 LamX DL
abbrev sBwo : Stmt := top 26
structure BadWo (n m : Nat) (wo : List (List Str)) : Prop where
  no : (decide (wo.length = m) && lensB n wo) = false
  wol : wo.length ≤ 900
  won : ∀ x ∈ wo, x.length ≤ 900
  oc : ∀ x ∈ wo, ∀ y ∈ x, Oc y
structure GoodWo (n m : Nat) (wo : List (List Str)) : Prop where
  n26 : n ≤ 26
  l0 : 0 < m
  l40 : m ≤ 40
  le : wo.length = m
  ln : ∀ x ∈ wo, x.length = n
  oc : ∀ x ∈ wo, ∀ y ∈ x, y.length ≤ 10 ∧ Oc y
theorem wo_map {wo : List (List Str)} : woD wo = .lst ((wo.map fun x => x.map DL.T).map D.lst) := by
  unfold woD
  rw [List.map_map]
  rfl
theorem wo_set {wo : List (List Str)} {i : Nat} {y : List Str} : (wo.map fun x => x.map DL.T).set i (y.map DL.T) = (wo.set i y).map fun x => x.map DL.T := by
  rw [List.map_set]
theorem cpy_woO {wo : List (List Str)} {w : Wp} {κ : D → Wp → Prop} {χ : XD} (h : wo.length ≤ 900) (k : ∀ bs w2 a, CpO w w2 a bs (wo.map fun x => x.map DL.T) → w a = none → κ (R a) w2) : spCpyO [woD wo] w κ χ := by
  refine ⟨_, by rw [wo_map], by rw [List.length_map]; exact h, fun bs w1 a ow na => k bs _ a ⟨w1, ow, na, rfl⟩ ?_⟩
  by_cases e : a ∈ bs
  · exact ow.fresh a e
  · rw [← ow.rest a e]
    exact na
theorem badW_n {n m : Nat} {wo : List (List Str)} (h : wo.length ≠ m) (h9 : wo.length ≤ 900) (hx : ∀ x ∈ wo, x.length ≤ 900 ∧ ∀ y ∈ x, Oc y) : BadWo n m wo := ⟨by rw [decide_eq_false h]; rfl, h9, fun x h => (hx x h).1, fun x h => (hx x h).2⟩
theorem badW_l {n m : Nat} {wo : List (List Str)} (g : GoodWo n m wo) {i : Nat} (hi : i < wo.length) {y : List Str} (hy : y.length ≠ n) (h9 : y.length ≤ 900) (hoc : ∀ z ∈ y, Oc z) : BadWo n m (wo.set i y) := by
  have n26 := g.n26
  have l40 := g.l40
  have le := g.le
  have e : lensB n (wo.set i y) = false := by
    rw [Bool.eq_false_iff]
    intro z
    exact hy (lens_iff.mp z y (List.mem_set hi y))
  refine ⟨by rw [e, Bool.and_false], by rw [List.length_set]; omega, fun x hx => ?_, fun x hx => ?_⟩
  · rcases List.mem_or_eq_of_mem_set hx with h | h
    · rw [g.ln x h]
      omega
    · rw [h]
      exact h9
  · rcases List.mem_or_eq_of_mem_set hx with h | h
    · exact fun z hz => (g.oc x h z hz).2
    · rw [h]
      exact hoc
def spBwo : SpD := fun ds w κ χ => ∃ (a : Addr) (b : Bg) (sg : Str) (st : List (List Int)) (wo : List (List Str)) (f : Int) (m : Nat), ds = [R a, partD sg st wo f] ∧ BgAt w a b ∧ BgOk b ∧ GoodWo sg.length m wo ∧
  ∀ (bs : List (List (List Str))) (b' : Bg), BgOk b' → bs ≠ [] → bs.length ≤ 20 → (∀ x ∈ bs, BadWo sg.length m x) → κ (.lst (bs.map woD)) (bgPut w a b')
theorem oc_no : Oc "no" := by
  have h : ∀ c ∈ ("no" : Str).cps.toList, c < 200 := by decide +kernel
  exact h
section
variable {P : Program} {w : PySem.World} {K : PySem.W.Frag} {mg : Str → Option Value} {base : Heap} {T : List (Addr × Str)}
def NBwo : List Str := ["bag", "parts", "state", "longer", "found", "shorter"]
theorem scBwo : FnScope NBwo ["bag", "parts"] (defScope sBwo) := ⟨rfl, rfl, rfl, by decide +kernel, rfl, by decide +kernel, by decide +kernel⟩
theorem ok_bwo {f : Addr} {fd : FuncData} (G : Fun K "_law_bad_words" "_law_bad_words" sBwo f fd) (hm : Nm35 mg) (hC : HasF P w K mg base T CX0 "_law_copy" 1 ["lines"] spCpyO) (hT : HasF P w K mg base T CX0 "_law_take" 1 ["bag", "size"] spTake) : FnOk P w K mg base CX0 2 f fd ["bag", "parts"] (spOf K T spBwo) := by
  refine fnD G scBwo (fun ds w κ χ h => ?_) (fun cdv A outer s H E ds w0 κ χ hr h => ?_)
  · obtain ⟨a, b, sg, st, wo, fi, m, rfl, _⟩ := h
    rfl
  obtain ⟨a, b, sg, st, wo, fi, m, rfl, hb, ok, g, k⟩ := h
  have nd := scBwo.nd
  have n26 := g.n26
  have l40 := g.l40
  have l0 := g.l0
  have le := g.le
  refine pssd_cons (psd_set (i := 2) nd rfl ?_)
  refine pd_take hT hr (i := 0) rfl rfl hb ok ?_
  refine pd_callB call_len_seq rfl hm.len PySem.boot_len ?_
  refine pad_cons ?_
  (refine pd_ix ix_list ?_; refine pd_var (i := 1) rfl rfl ?_; refine pd_int ?_; refine vr_ixL (i := 2) rfl ?_)
  refine pad_nil ?_
  refine va_len ?_
  rw [List.length_map]
  refine ⟨rfl, _, rfl, by omega, lg9' (by omega) (by omega), fun x b1 x0 x1 ok1 => ?_⟩
  obtain ⟨i, rfl⟩ := Int.eq_ofNat_of_zero_le x0
  have hi : i < wo.length := by omega
  have gi : wo[i]? = some wo[i] := List.getElem?_eq_getElem hi
  have lx := g.ln _ (List.getElem_mem hi)
  have ocx := g.oc _ (List.getElem_mem hi)
  refine pssd_cons (psd_set (i := 3) nd rfl ?_)
  refine pd_has hC hr (fun _ => pass0At) ?_
  refine pad_cons ?_
  (refine pd_ix ix_list ?_; refine pd_var (i := 1) rfl rfl ?_; refine pd_int ?_; refine vr_ixL (i := 2) rfl ?_)
  refine pad_nil (cpy_woO (by omega) fun bs w2 aL c na => ?_)
  obtain ⟨bb, q1, q2, q3⟩ := c.row (j := i) (x := wo[i].map DL.T) (by rw [List.getElem?_map, gi]; rfl)
  refine pssd_cons (psd_expr ?_)
  refine pd_bm PySem.F.plainAttrs_list PySem.F.slot_list_append PySem.F.type_list_append mt_append ?_
  refine pd_ix ix_list ?_
  refine pd_var (i := 3) rfl rfl ?_
  refine pd_var (i := 2) rfl rfl ?_
  refine vr_ixO c.outer q1 ?_
  refine ⟨⟨rfl, _, q2⟩, ?_⟩
  refine pad_cons (pd_str ?_)
  refine pad_nil ?_
  refine vm_append q2 (by rw [List.length_map, lx, sizeLine_eq]; omega) ?_
  have e1 : wo[i].map DL.T ++ [DL.T "no"] = (wo[i] ++ [("no" : Str)]).map DL.T := by rw [List.map_append]; rfl
  rw [e1]
  have c2 := q3 ((wo[i] ++ [("no" : Str)]).map DL.T)
  rw [wo_set] at c2
  refine pssd_frzC 3 rfl c2 ?_
  rw [← wo_map]
  have bL : BadWo sg.length m (wo.set i (wo[i] ++ [("no" : Str)])) := badW_l g hi (by rw [List.length_append, lx]; simp) (by rw [List.length_append, lx]; simp; omega) fun z hz => by
    rcases List.mem_append.mp hz with h | h
    · exact (ocx z h).2
    · rw [List.mem_singleton.mp h]
      exact oc_no
  generalize wo.set i (wo[i] ++ [("no" : Str)]) = sL at bL
  refine pssd_cons (psd_set (i := 4) nd rfl ?_)
  refine pd_lstO ?_
  refine pad_cons ?_
  refine pd_slFrom (n := 1) ?_
  (refine pd_ix ix_list ?_; refine pd_var (i := 1) rfl rfl ?_; refine pd_int ?_; refine vr_ixL (i := 2) rfl ?_)
  refine ⟨_, .inl rfl, ?_⟩
  refine pad_cons ?_
  refine pd_op op_cat ?_
  (refine pd_ix ix_list ?_; refine pd_var (i := 1) rfl rfl ?_; refine pd_int ?_; refine vr_ixL (i := 2) rfl ?_)
  refine pd_slTo (n := 1) ?_
  (refine pd_ix ix_list ?_; refine pd_var (i := 1) rfl rfl ?_; refine pd_int ?_; refine vr_ixL (i := 2) rfl ?_)
  refine ⟨_, .inl rfl, ?_⟩
  refine vr_cat (by rw [List.length_take, List.length_map, sizeLine_eq]; omega) ?_
  refine pad_cons ?_
  refine pd_lst ?_
  refine pad_nil ⟨by show 0 ≤ sizeLine; decide, ?_⟩
  refine pad_cons ?_
  refine pd_var (i := 3) rfl rfl ?_
  refine pad_nil ⟨by show 4 ≤ sizeLine; decide, fun af naf => ?_⟩
  have w1 : D.lst ((wo.map fun x => D.lst (x.map DL.T)).drop 1) = woD (wo.drop 1) := by
    unfold woD
    rw [List.map_drop]
  have w2' : D.lst ((wo.map fun x => D.lst (x.map DL.T)) ++ (wo.map fun x => D.lst (x.map DL.T)).take 1) = woD (wo ++ wo.take 1) := by
    unfold woD
    rw [List.map_append, List.map_take]
  have f0 : F1 w0 (wu (bgPut w0 a b1) af (.lst [D.lst ((wo.map fun x => D.lst (x.map DL.T)).drop 1), D.lst ((wo.map fun x => D.lst (x.map DL.T)) ++ (wo.map fun x => D.lst (x.map DL.T)).take 1), .lst [], woD sL])) a af b1 (([wo.drop 1, wo ++ wo.take 1, [], sL] : List (List (List Str))).map woD) := by
    rw [w1, w2']
    exact F1.new naf
  generalize wu (bgPut w0 a b1) af (.lst [D.lst ((wo.map fun x => D.lst (x.map DL.T)).drop 1), D.lst ((wo.map fun x => D.lst (x.map DL.T)) ++ (wo.map fun x => D.lst (x.map DL.T)).take 1), .lst [], woD sL]) = w3 at f0
  refine pssd_as [some (R a), some (partD sg st wo fi), some (I (i : Int)), some (woD sL), some (R af), none] rfl ?_
  have sub : ∀ x ∈ wo, x.length ≤ 900 ∧ ∀ y ∈ x, Oc y := fun x hx => ⟨by rw [g.ln x hx]; omega, fun y hy => (g.oc x hx y hy).2⟩
  have four : ∀ x ∈ ([wo.drop 1, wo ++ wo.take 1, [], sL] : List (List (List Str))), BadWo sg.length m x := fun x hx => by
    simp only [List.mem_cons, List.not_mem_nil, or_false] at hx
    rcases hx with rfl | rfl | rfl | rfl
    · exact badW_n (by rw [List.length_drop]; omega) (by rw [List.length_drop]; omega) fun x hx => sub x (List.mem_of_mem_drop hx)
    · refine badW_n (by rw [List.length_append, List.length_take]; omega) (by rw [List.length_append, List.length_take]; omega) fun x hx => ?_
      rcases List.mem_append.mp hx with h | h
      · exact sub x h
      · exact sub x (List.mem_of_mem_take h)
    · exact badW_n (by show (0 : Nat) ≠ m; omega) (by decide) fun x hx => by cases hx
    · exact bL
  have fin : ∀ (bs : List (List (List Str))) (q : Bg) (w' : Wp) (x5 : Option D), F1 w0 w' a af q (bs.map woD) → BgOk q → bs ≠ [] → bs.length ≤ 20 → (∀ x ∈ bs, BadWo sg.length m x) → PSsD (cxOf CX0 P w K mg base NBwo "_law_bad_words" (defScope sBwo) f cdv A outer s H E).nox T Wf noX ((defBody sBwo).drop 5)
      [some (R a), some (partD sg st wo fi), some (I (i : Int)), some (woD sL), some (R af), x5] w' { nx := fun _ w' => κ DL.N w', rt := κ } := by
    intro bs q w' x5 F hq hne hlen hbad
    refine pssd_freeze 4 rfl F.h1 ?_
    rw [F.out]
    refine pssd_one (psd_ret ?_)
    refine pd_var (i := 4) rfl rfl ?_
    exact k bs q hq hne hlen hbad
  refine pssd_cons (psd_if ?_)
  refine ptd_txt ?_
  (refine pd_ix ix_list ?_; refine pd_var (i := 1) rfl rfl ?_; refine pd_int ?_; refine vr_ixL (i := 0) rfl ?_)
  refine ⟨sg, rfl, by rw [sizeLine_eq]; omega, ?_⟩
  by_cases n0 : 0 < sg.length
  case neg =>
    rw [decide_eq_false n0]
    refine iteF ?_
    refine pssd_nil ?_
    exact fin _ b1 w3 _ f0 ok1 (by simp) (by simp) four
  rw [decide_eq_true n0]
  refine iteT ?_
  refine pssd_cons (psd_set (i := 5) nd rfl ?_)
  refine pd_has hC hr (fun _ => pass0At) ?_
  refine pad_cons ?_
  (refine pd_ix ix_list ?_; refine pd_var (i := 1) rfl rfl ?_; refine pd_int ?_; refine vr_ixL (i := 2) rfl ?_)
  refine pad_nil (cpy_woO (by omega) fun bs2 w5 aS c3 na3 => ?_)
  obtain ⟨bb2, r1, r2, r3⟩ := c3.row (j := i) (x := wo[i].map DL.T) (by rw [List.getElem?_map, gi]; rfl)
  refine pssd_cons (psd_expr ?_)
  refine pd_bm0 PySem.F.plainAttrs_list PySem.F.slot_list_pop PySem.F.type_list_pop mt_pop ?_
  refine pd_ix ix_list ?_
  refine pd_var (i := 5) rfl rfl ?_
  refine pd_var (i := 2) rfl rfl ?_
  refine vr_ixO c3.outer r1 ?_
  refine ⟨⟨rfl, _, r2⟩, ?_⟩
  refine vm_pop (d := DL.T (wo[i].getLastD "")) r2 ?_ ?_
  · rw [List.getElem?_map, List.length_map, List.getElem?_eq_getElem (by omega), List.getLastD_eq_getLast?, List.getLast?_eq_getElem?, List.getElem?_eq_getElem (by omega)]
    rfl
  have e2 : (wo[i].map DL.T).dropLast = wo[i].dropLast.map DL.T := by rw [List.map_dropLast]
  rw [e2]
  have c4 := r3 (wo[i].dropLast.map DL.T)
  rw [wo_set] at c4
  refine pssd_frzC 5 rfl c4 ?_
  rw [← wo_map]
  have bS : BadWo sg.length m (wo.set i wo[i].dropLast) := badW_l g hi (by rw [List.length_dropLast, lx]; omega) (by rw [List.length_dropLast, lx]; omega) fun z hz => by rw [List.dropLast_eq_take] at hz; exact (ocx z (List.mem_of_mem_take hz)).2
  generalize wo.set i wo[i].dropLast = sS at bS
  refine pssd_one (psd_expr ?_)
  refine pd_bm PySem.F.plainAttrs_list PySem.F.slot_list_append PySem.F.type_list_append mt_append ?_
  refine pd_var (i := 4) rfl rfl ?_
  refine ⟨⟨rfl, _, f0.h1⟩, ?_⟩
  refine pad_cons ?_
  refine pd_var (i := 5) rfl rfl ?_
  refine pad_nil ?_
  refine vm_append f0.h1 (by show 4 < sizeLine; decide) ?_
  have f2 := f0.set ((([wo.drop 1, wo ++ wo.take 1, [], sL] : List (List (List Str))) ++ [sS]).map woD)
  have e3 : (([wo.drop 1, wo ++ wo.take 1, [], sL] : List (List (List Str))).map woD ++ [woD sS]) = (([wo.drop 1, wo ++ wo.take 1, [], sL] : List (List (List Str))) ++ [sS]).map woD := by rw [List.map_append]; rfl
  rw [e3]
  refine fin _ b1 _ _ f2 ok1 (by simp) (by simp) fun y hy => ?_
  rcases List.mem_append.mp hy with hy | hy
  · exact four y hy
  · rw [List.mem_singleton.mp hy]
    exact bS
end
end Tw

set_option Elab.async false
set_option linter.all false
set_option maxRecDepth 100000
set_option maxHeartbeats 1000000
/-! a op b by an own method, of two different classes, neither above the other. -/
namespace DL
open PySem PySem.Spec PyProof.Rows PySem.W
section
variable {prog : Program} {w : PySem.World} {A : Around} {E : Value → Shared → Prop} {s : Shared} {K : Frag} {x C C2 L f g : Addr} {h₀ : Heap} {m : Str → Option Value} {ox : Obj} {od : Option Obj}
theorem binop_K2 {op : Operator} {b : Value} {Q : Value → Shared → Prop} (F : Fr h₀ L s.heap m) (X₀ : K.In h₀) (I : InstAt s.heap x ox C od) (hb : Looks (model prog w) s.heap (typeOf b) (.ref C2)) (hne : C ≠ C2) (hc : selfFirst K C = true) (hc2 : selfFirst K C2 = true)
    (hs : findIn K (.ref C) (PySem.dunder op.info.2) = some (some (.ref f))) (hf : isFn K (.ref f) = true) (hr : findIn K (.ref C) (dunderR op.info.2) = some none)
    (hs2 : findIn K (.ref C2) (PySem.dunder op.info.2) = some (some (.ref g))) (hr2 : findIn K (.ref C2) (dunderR op.info.2) = some none) (hsub : subIn K (.ref C2) (.ref C) = some false)
    (h : wpAny (model prog w) A (call (.ref f) [.ref x, b]) (PySem.W.CmpBack Q) E s) : wpAny (model prog w) A (binaryOp op (.ref x) b) Q E s := by
  have X := X₀.keeps F.keep
  obtain ⟨cd, rest, hcd, hm⟩ := ksp_first hc
  obtain ⟨cd2, rest2, hcd2, hm2⟩ := ksp_first hc2
  rcases hi : op.info with ⟨sym, nm'⟩
  rw [hi] at hs hr hs2 hr2
  dsimp only at hs hr hs2 hr2
  have one := ksp_try X I hs hf h
  obtain ⟨hh, gg, d, tt, os⟩ := s
  have L1 : Looks (model prog w) hh (typeOf (.ref x)) (.ref C) := I.type
  have L2 : Looks (model prog w) hh (typeOf b) (.ref C2) := hb
  have L3 : Looks (model prog w) hh (fillsNumberSlot (.ref C) nm') true := fills_K X hcd hm hs
  have L4 : Looks (model prog w) hh (fillsNumberSlot (.ref C2) nm') true := fills_K X hcd2 hm2 hs2
  have L5 : Looks (model prog w) hh (isSubtype (.ref C2) (.ref C)) false := looks_subIn X hsub
  have L6 : Looks (model prog w) hh (numberSlotInPython (.ref C) nm') true := ksp_inPy X hs hr (.inl rfl)
  have L7 : Looks (model prog w) hh (numberSlotInPython (.ref C2) nm') true := ksp_inPy X hs2 hr2 (.inl rfl)
  have hne' : (Value.ref C == Value.ref C2) = false := Bool.eq_false_iff.mpr fun q => by cases beq_iff_eq.mp q; exact hne rfl
  simp only [binaryOp, hi]
  refine wpAny_holding (wpAny_bind ?_)
  unfold binaryOp1
  refine wpAny_bind (L1.at (wpAny_bind (L2.at (wpAny_bind (L3.at ?_)))))
  simp only [hne', Bool.false_eq_true, if_false]
  ksp_lk
  refine wpAny_mono one (fun r s' hr' => ?_) fun _ _ e => e
  obtain ⟨v, rfl, hq⟩ := hr'
  ksp_lk
  exact hq
end
end DL

set_option Elab.async false
set_option linter.all false
set_option maxRecDepth 100000
set_option maxHeartbeats 2000000
/-! More rules in data: extend, properties, isinstance of several classes, xs[::-1], any, max, get with a default, ~x. -/
namespace DL
open PySem PySem.Spec PyProof.Rows L2 LamX
section
variable {K : PySem.W.Frag} {T : List (Addr × Str)} {w : Wp} {κ : D → Wp → Prop}
theorem vm_extend {a : Addr} {ds es : List D} (hw : w a = some (.lst ds)) (hz : ds.length + es.length ≤ sizeLine) (k : κ N (wu w a (.lst (ds ++ es)))) : VRM K T rExtend (R a) [.lst es] w κ := fun F S H x xs Q hW r1 r2 hK => by
  obtain ⟨_, _, o, h1, h2⟩ := hW.own a _ hw
  obtain ⟨zs, rfl, h2⟩ := h2
  obtain ⟨y, ys, rfl, h3, h4⟩ := r2
  have h4' : ys = [] := h4
  subst h4'
  obtain ⟨b, us, rfl, h5, h6⟩ := h3
  exact ⟨a, b, zs, us, r1, rfl, h1, hW.same _ _ h5, by rw [h2.length, h6.length]; exact hz, hK _ _ _ S _ k (Same.refl _) (hW.put hw ⟨_, rfl, h2.app h6⟩) rfl⟩
theorem va_isT {d : D} {t : Value} {Cs : List Addr} {b : Bool} (ht : TyDD K d t) (hk : PySem.W.kitAny K t (Cs.map Value.ref) = some b) (k : κ (B b) w) : VRA K T (rIsiT K) [d, .tup (Cs.map R)] w κ := fun F S H xs Q hW r hK => by
  obtain ⟨x, ys, rfl, h1, y, zs, rfl, h2, h3⟩ := r
  have h3' : zs = [] := h3
  subst h3'
  obtain ⟨a, us, rfl, h4, h5⟩ := h2
  have e : Cs.map R = (Cs.map V.ref).map D.val := by
    rw [List.map_map]
    rfl
  rw [e] at h5
  have e2 := h5.vals
  subst e2
  have pc : ∀ l : List Addr, Paired ClsV (l.map V.ref) (l.map Value.ref) := by
    intro l
    induction l with
    | nil => exact .nil
    | cons c l ih => exact .cons (.own c) ih
  exact ⟨x, a, Cs.map V.ref, t, Cs.map Value.ref, b, rfl, hW.same _ _ h4, pc Cs, ht.tyx hW h1, hk, hK _ w _ S H k (Same.refl _) hW rfl⟩
theorem kit_any {t : Value} : ∀ {Cs : List Addr} {bs : List Bool}, Cs.map (fun C => PySem.W.kitOne K t (.ref C)) = bs.map some → PySem.W.kitAny K t (Cs.map Value.ref) = some (bs.any id)
  | [], [], _ => rfl
  | [], b :: bs, h => by cases h
  | C :: Cs, [], h => by cases h
  | C :: Cs, b :: bs, h => by
    obtain ⟨h1, h2⟩ := List.cons.inj h
    have ih := kit_any h2
    cases b with
    | true => exact kitAny_cons h1 (fun z => by cases z) fun _ => rfl
    | false => exact kitAny_cons h1 (fun _ => ih) fun z => by cases z
theorem va_anyB {bs : List Bool} (k : κ (B (bs.any id)) w) : VRA K T (rAny K) [.lst (bs.map B)] w κ := fun F S H xs Q hW r hK => by
  obtain ⟨y, ys, rfl, h1, h2⟩ := r
  obtain ⟨a, zs, rfl, h3, h4⟩ := h1
  have h2' : ys = [] := h2
  subst h2'
  have e : bs.map B = (bs.map V.bl).map D.val := by
    rw [List.map_map]
    rfl
  rw [e] at h4
  have e2 := h4.vals
  subst e2
  exact ⟨a, bs, rfl, SqL.of (hW.same _ _ h3), hK _ w _ S H k (Same.refl _) hW rfl⟩
theorem va_max2 {i j : Int} (k : κ (I (if j > i then j else i)) w) : VRA K T (fun xs H Q => ∃ i j, xs = [.int i, .int j] ∧ Q (.int (if j > i then j else i)) H) [I i, I j] w κ := fun F S H xs Q hW r hK => by
  obtain ⟨x, ys, rfl, h1, y, zs, rfl, h2, h3⟩ := r
  have h1' : x = .int i := h1
  have h2' : y = .int j := h2
  have h3' : zs = [] := h3
  subst h1' h2' h3'
  exact ⟨i, j, rfl, hK _ w _ S H k (Same.refl _) hW rfl⟩
/-- the first entry of a key, in data -/
def lkD : List Key → List D → Key → Option D
  | k' :: ks, d :: ds, k => if k' = k then some d else lkD ks ds k
  | _, _, _ => none
theorem lkD_rel {S : Hp} : ∀ {kvs : List (Key × V)} {ks : List Key} {ds : List D} {k : Key}, kvs.map (·.1) = ks → RepL K S ds (kvs.map (·.2)) → (∀ d, lkD ks ds k = some d → ∃ v, valV kvs k = some v ∧ Rep K S d v) ∧ (lkD ks ds k = none → valV kvs k = none)
  | [], ks, ds, k, e, r => by
    subst e
    cases ds with
    | nil => exact ⟨fun d h => (by cases h), fun _ => rfl⟩
    | cons d ds =>
      obtain ⟨y, ys, z, _⟩ := r
      cases z
  | (k0, v0) :: kvs, ks, ds, k, e, r => by
    subst e
    cases ds with
    | nil => cases r
    | cons d ds =>
      obtain ⟨y, ys, z, r1, r2⟩ := r
      obtain ⟨rfl, rfl⟩ := List.cons.inj z
      obtain ⟨i1, i2⟩ := lkD_rel (k := k) (rfl : kvs.map (·.1) = _) r2
      have ev : valV ((k0, v0) :: kvs) k = if k0 = k then some v0 else valV kvs k := by
        unfold valV
        rw [List.find?_cons]
        by_cases h : k0 = k
        · simp [h]
        · simp [h]
      rw [ev]
      show (∀ d', (if k0 = k then some d else lkD (kvs.map (·.1)) ds k) = some d' → _) ∧ ((if k0 = k then some d else lkD (kvs.map (·.1)) ds k) = none → _)
      by_cases h : k0 = k
      · rw [if_pos h, if_pos h]
        exact ⟨fun d' q => ⟨v0, rfl, by cases q; exact r1⟩, fun q => by cases q⟩
      · rw [if_neg h, if_neg h]
        exact ⟨i1, i2⟩
theorem bt_anyB : bootBuiltins "any" = some (.builtin "any") := by decide +kernel
theorem bt_max : bootBuiltins "max" = some (.builtin "max") := by decide +kernel
end
section
variable {X : Cx} {T : List (Addr × Str)} {W : WX} {χ : XD} {δ : Dn} {w : Wp} {pos : Pos}
/-- xs[::-1] -/
theorem pd_rev {e : Expr} {j : Nat} {p1 p2 p3 : Pos} {κ : D → Wp → Prop} (h : PD X T W χ e δ w fun d w1 => ∃ ds, Lk w1 d ds ∧ κ (.lst ds.reverse) w1) : PD X T W χ (.Subscript e (.Slice none none (some (.UnaryOp .USub (.Constant (.int 1) j p1) p2)) p3) pos) δ w κ := fun F σ S H Q hE hW hX hK =>
  wp_pe (pe_revL (pe_wp e)) (by
    refine h F σ S H _ hE hW hX fun d w1 v S1 H1 k s1 W1 r => ?_
    obtain ⟨ds, hl, k⟩ := k
    obtain ⟨a, xs, rfl, h1, h2⟩ := hl.at_ W1 r
    refine ⟨a, xs, rfl, SqL.of h1, fun p hp => ?_⟩
    have s2 : Same S1 (upd S1 p (.lst xs.reverse)) := same_upd (W1.free hp).1
    exact hK _ w1 _ _ _ k (s1.trans s2) (W1.laid hp fun _ z => by cases z) ⟨p, _, rfl, upd_same, h2.rev.mono s2⟩)
/-- the truth of a list -/
theorem ptd_lst {e : Expr} {κ : Bool → Wp → Prop} (h : PD X T W χ e δ w fun d w1 => ∃ ds, Lk w1 d ds ∧ κ (!ds.isEmpty) w1)
    (he : ∀ whole, isTrue e X.env whole = (do let v ← whole; standAt e.pos; holding [v] (truthy v)) := by intro _; rfl) : PTD X T W χ e δ w κ := fun F σ S H Q hE hW hX hK =>
  wp_pt (pt_truth (pe_wp e) he) (by
    refine h F σ S H _ hE hW hX fun d w1 v S1 H1 k s1 W1 r => ?_
    obtain ⟨ds, lk, k⟩ := k
    obtain ⟨a, xs, rfl, h1, h2⟩ := lk.at_ W1 r
    refine ⟨!ds.isEmpty, .inl ⟨xs, SqL.of h1, ?_⟩, hK _ w1 S1 H1 k s1 W1⟩
    have e := h2.length
    cases xs <;> cases ds <;> first | rfl | (simp at e))
/-- e.f, a property of e's class; its getter lets no error out -/
theorem pd_prop {e : Expr} {f : Str} {k : Nat} {C p g : Addr} {fd : FuncData} {ps : List Str} {sp : SpD} {κ : D → Wp → Prop} (c : Cls X.K C) (hp : PropOf X.K C f p g) (G : FnOk X.prog X.w X.K X.mg X.base CX0 k g fd ps (spOf X.K T sp)) (hr : Room (k + 1) X.A) (hb : Binds X.K fd ps [])
    (h : PD X T W χ e δ w fun d w1 => (∃ ns ds, d = .obj C ns ds) ∧ sp [d] w1 κ noX) (hab : attributeBase e f X.env (eval e X.env) = eval e X.env := by rfl) : PD X T W χ (.Attribute e f pos) δ w κ := fun F σ S H Q hE hW hX hK =>
  wp_pe (pe_prop (E := E0) (pe_wp e) c hp G hr hb .nil pass0 hab) (by
    refine h F σ S H _ hE hW hX fun d w1 v S1 H1 k s1 W1 r => ?_
    obtain ⟨⟨ns, ds, rfl⟩, k⟩ := k
    obtain ⟨a, dx, ys, rfl, h1, h2, h3⟩ := id r
    exact ⟨a, dx, ys, rfl, W1.same _ _ h1, [.obj C ns ds], w1, F, S1, κ, noX, k, ⟨_, [], rfl, r, rfl⟩, W1, hK.mono s1, fun _ _ _ _ _ _ _ z => z.elim⟩)
/-- get of a dict that stands, with a default: found or not -/
theorem pd_getD {o i x : Expr} {κ : D → Wp → Prop} {apos : Pos} (hu : X.A.units + 1 < cLine) (h : PD X T W χ o δ w fun d w1 => ∃ ks ds, d = .dcv ks ds ∧ PD X T W χ i δ w1 fun e w2 => PD X T W χ x δ w2 fun u w3 => ∃ k, e = .val (kV k) ∧ κ ((lkD ks ds k).getD u) w3)
    (m : M2 X o "get" apos i x pos := by exact ⟨rfl, rfl, rfl, rfl⟩) : PD X T W χ (.Call (.Attribute o "get" apos) [i, x] [] pos) δ w κ := fun F σ S H Q hE hW hX hK =>
  wp_pe (pe_dget2 hu (pe_wp o) (pe_wp i) (pe_wp x) m) (by
    refine h F σ S H _ hE hW hX fun d w1 v S1 H1 k1 s1 W1 r1 => ?_
    obtain ⟨ks, ds, rfl, k1⟩ := k1
    obtain ⟨a, kvs, rfl, e2, e3, e4⟩ := r1
    refine ⟨a, rfl, .inl ⟨kvs, .inl (W1.same _ _ e2)⟩, ?_⟩
    refine k1 F σ S1 H1 _ (hE.mono s1) W1 (hX.mono s1) fun e w2 y S2 H2 k2 s2 W2 r2 => ?_
    have ss := s1.trans s2
    refine k2 F σ S2 H2 _ (hE.mono ss) W2 (hX.mono ss) fun u w3 z S3 H3 k3 s3 W3 r3 => ?_
    obtain ⟨k, rfl, k3⟩ := k3
    have r2' : y = kV k := r2
    subst r2'
    have at3 := W3.same _ _ ((s2.trans s3) _ _ e2)
    refine ⟨valV kvs k, .inl ⟨kvs, k, .inl at3, rfl, rfl⟩, ?_⟩
    obtain ⟨q1, q2⟩ := lkD_rel (k := k) e3 (e4.mono (s2.trans s3))
    cases el : lkD ks ds k with
    | none =>
      rw [el] at k3
      rw [q2 el]
      exact hK _ w3 _ S3 H3 k3 (ss.trans s3) W3 r3
    | some d' =>
      rw [el] at k3
      obtain ⟨v', hv, rv⟩ := q1 d' el
      rw [hv]
      exact hK _ w3 _ S3 H3 k3 (ss.trans s3) W3 rv)
/-- operators by own methods of a family of classes -/
structure Fam (K : PySem.W.Frag) (ok : Addr → Prop) (op : Operator) (f : Addr) : Prop where
  at_ : ∀ C, ok C → PySem.W.findIn K (.ref C) (PySem.dunder op.info.2) = some (some (.ref f))
  no_ : ∀ C, ok C → PySem.W.findIn K (.ref C) (dunderR op.info.2) = some none
  sf : ∀ C, ok C → PySem.W.selfFirst K C = true
  sub : ∀ C C2, ok C → ok C2 → C ≠ C2 → PySem.W.subIn K (.ref C2) (.ref C) = some false
  fn : PySem.W.isFn K (.ref f) = true
def rBinF (ok : Addr → Prop) (sp : Sp) (E : XK) : R2 := fun x y H Q => ∃ C C2 a dx fs b dy gs, ok C ∧ ok C2 ∧ x = .ref a ∧ H a = some (.ins C dx fs) ∧ y = .ref b ∧ H b = some (.ins C2 dy gs) ∧ sp [x, y] H (fun v H' => ∃ p, v = .ref p ∧ Q v H') E
theorem op_binF {op : Operator} {ok : Addr → Prop} {f : Addr} {fd : FuncData} {ps : List Str} {k : Nat} {sp : Sp} {CX : CXT} {E : XK} (M : Fam X.K ok op f) (G : FnOk X.prog X.w X.K X.mg X.base CX k f fd ps sp) (hr : Room k X.A) (hb : Binds X.K fd ps [])
    (hx : ∀ σ, PassesAt CX X σ E) : OpR X (binaryOp op) (rBinF ok sp E) := by
  intro pins s σ H x y v u Q I rx ry h
  obtain ⟨C, C2, a, dx, fs, b, dy, gs, o1, o2, rfl, ha, rfl, hbb, hsp⟩ := h
  cases rx
  cases ry
  obtain ⟨mA, J, _⟩ := ins_get I.hok ha
  obtain ⟨od, J, _⟩ := J.look
  obtain ⟨mB, J2, _⟩ := ins_get I.hok hbb
  obtain ⟨od2, J2, _⟩ := J2.look
  obtain ⟨m, hF⟩ := I.fr
  show wpAny (model X.prog X.w) X.A (binaryOp op (.ref a) (.ref b)) (EP X pins σ Q) X.xe s
  have r2 : Vals [V.ref a, V.ref b] [Value.ref a, Value.ref b] := .cons rfl (.cons rfl .nil)
  have q := run_fnSD (σ := σ) (E := fun _ => E) (dvs := []) (ds := []) G hr hb .nil (hx σ) I r2 (by rw [List.append_nil]; exact hsp)
  have q2 : wpAny (model X.prog X.w) X.A (call (.ref f) [.ref a, .ref b]) (PySem.W.CmpBack (EP X pins σ Q)) X.xe s := by
    refine thn q fun r s' z => ?_
    obtain ⟨v', H', I', rv, ⟨p, rfl, q⟩⟩ := z
    cases rv
    exact ⟨.ref p, H', I', rfl, q⟩
  by_cases e : C = C2
  · subst e
    exact PySem.W.binop_K hF I.ok.mod.kin J J2.type (M.sf C o1) (M.at_ C o1) M.fn q2
  · exact binop_K2 hF I.ok.mod.kin J J2.type e (M.sf C o1) (M.sf C2 o2) (M.at_ C o1) M.fn (M.no_ C o1) (M.at_ C2 o2) (M.no_ C2 o2) (M.sub C C2 o1 o2 e) q2
theorem pd_binF {a b : Expr} {op : Operator} {ok : Addr → Prop} {f : Addr} {fd : FuncData} {ps : List Str} {k : Nat} {sp : SpD} {κ : D → Wp → Prop} (M : Fam X.K ok op f) (G : FnOk X.prog X.w X.K X.mg X.base CX0 k f fd ps (spOf X.K T sp)) (hr : Room k X.A) (hb : Binds X.K fd ps [])
    (h : PD X T W χ a δ w fun d w1 => PD X T W χ b δ w1 fun e w2 => (∃ C ns ds, ok C ∧ d = .obj C ns ds) ∧ (∃ C ns ds, ok C ∧ e = .obj C ns ds) ∧ sp [d, e] w2 (fun d' w' => (∃ C' ns ds, d' = .obj C' ns ds) ∧ κ d' w') noX) :
    PD X T W χ (.BinOp a op b pos) δ w κ := fun F σ S H Q hE hW hX hK => wp_pe (pe_op (op_binF (E := E0) M G hr hb (fun _ => pass0At)) (pe_wp a) (pe_wp b)) (by
  refine h F σ S H _ hE hW hX fun d w1 v S1 H1 k s1 W1 r1 => ?_
  refine k F σ S1 H1 _ (hE.mono s1) W1 (hX.mono s1) fun e w2 u S2 H2 k2 s2 W2 r2 => ?_
  obtain ⟨⟨C, ns, ds, o1, rfl⟩, ⟨C2, ms, es, o2, rfl⟩, k2⟩ := k2
  have r1 := r1.mono s2
  have r1' := r1
  have r2' := r2
  obtain ⟨p, dx, ys, rfl, h1, _, _⟩ := r1'
  obtain ⟨q, dy, zs, rfl, h2, _, _⟩ := r2'
  refine ⟨C, C2, p, dx, ys, q, dy, zs, o1, o2, rfl, W2.same _ _ h1, rfl, W2.same _ _ h2, ?_⟩
  refine ⟨[_, _], w2, F, S2, _, noX, k2, ⟨_, _, rfl, r1, _, [], rfl, r2, rfl⟩, W2, fun d' w' v' S' H' kk s' W' r' => ?_, fun _ _ _ _ _ _ _ z => z.elim⟩
  obtain ⟨⟨C', ns', ds', rfl⟩, kk⟩ := kk
  have r3 := r'
  obtain ⟨p', _, _, rfl, _⟩ := r3
  exact ⟨p', rfl, hK _ w' _ S' H' kk (s1.trans (s2.trans s')) W' r'⟩)
/-- ~x by an own method -/
def rInv (ok : Addr → Prop) (sp : Sp) (E : XK) : V → Hp → VK → Prop := fun x H Q => ∃ C a dx fs, ok C ∧ x = .ref a ∧ H a = some (.ins C dx fs) ∧ sp [x] H Q E
theorem un_inv_own {ok : Addr → Prop} {f : Addr} {fd : FuncData} {ps : List Str} {k : Nat} {sp : Sp} {CX : CXT} {E : XK} (G : FnOk X.prog X.w X.K X.mg X.base CX k f fd ps sp) (hr : Room k X.A) (hs : ∀ C, ok C → PySem.W.findIn X.K (.ref C) "__invert__" = some (some (.ref f))) (hf : PySem.W.isFn X.K (.ref f) = true) (hb : Binds X.K fd ps [])
    (hx : ∀ σ, PassesAt CX X σ E) : UnR X (unaryOp .Invert) (rInv ok sp E) := by
  intro pins s σ H x v Q I rx h
  obtain ⟨C, a, dx, fs, o1, rfl, ha, hsp⟩ := h
  cases rx
  obtain ⟨mA, J, _⟩ := ins_get I.hok ha
  obtain ⟨od, J, _⟩ := J.look
  obtain ⟨m, hF⟩ := I.fr
  show wpAny (model X.prog X.w) X.A (unaryOp .Invert (.ref a)) (EP X pins σ Q) X.xe s
  have r2 : Vals [V.ref a] [Value.ref a] := .cons rfl .nil
  exact PySem.W.ksp_inv hF I.ok.mod.kin J (hs C o1) hf (run_fnSD (σ := σ) (E := fun _ => E) (dvs := []) (ds := []) G hr hb .nil (hx σ) I r2 (by rw [List.append_nil]; exact hsp))
theorem pd_inv {e : Expr} {ok : Addr → Prop} {f : Addr} {fd : FuncData} {ps : List Str} {k : Nat} {sp : SpD} {κ : D → Wp → Prop} (G : FnOk X.prog X.w X.K X.mg X.base CX0 k f fd ps (spOf X.K T sp)) (hr : Room k X.A) (hs : ∀ C, ok C → PySem.W.findIn X.K (.ref C) "__invert__" = some (some (.ref f))) (hf : PySem.W.isFn X.K (.ref f) = true) (hb : Binds X.K fd ps [])
    (h : PD X T W χ e δ w fun d w1 => (∃ C ns ds, ok C ∧ d = .obj C ns ds) ∧ sp [d] w1 κ noX) : PD X T W χ (.UnaryOp .Invert e pos) δ w κ := fun F σ S H Q hE hW hX hK =>
  wp_pe (pe_un (un_inv_own (E := E0) G hr hs hf hb (fun _ => pass0At)) (pe_wp e)) (by
    refine h F σ S H _ hE hW hX fun d w1 v S1 H1 k s1 W1 r1 => ?_
    obtain ⟨⟨C, ns, ds, o1, rfl⟩, k2⟩ := k
    have r1' := r1
    obtain ⟨p, dx, ys, rfl, h1, _, _⟩ := r1'
    exact ⟨C, p, dx, ys, o1, rfl, W1.same _ _ h1, [_], w1, F, S1, _, noX, k2, ⟨_, [], rfl, r1, rfl⟩, W1, hK.mono s1, fun _ _ _ _ _ _ _ z => z.elim⟩)
/-- a, b = e and other targets -/
theorem psd_asgT {tg e : Expr} {C : DL.Fin} (h : PD X T W χ e δ w fun d w1 => PGD X T tg d δ w1 C.nx) (hs : swapsWithSole [tg] e pos.line X.env = pure false := by rfl) (hw : swappedStores [tg] e X.env = pure none := by rfl)
    (h1 : (assignEach [tg] X.env).map (·.2) = [assign tg X.env] := by rfl) : PSD X T W χ (.Assign [tg] e pos) δ w C := fun F σ S H E hE hW hX hK => wp_ps (ps_asg (pe_wp e) (pg_wp tg) hs hw h1) (by
  refine h F σ S H _ hE hW (hX σ) fun d w1 v S1 H1 k s1 W1 r => ?_
  exact k F v σ S1 H1 _ r (hE.mono s1) W1 (hK.nx.mono s1))
/-- x += e, whole numbers -/
theorem psd_augI {i : Nat} {x : Str} {e : Expr} {a : Int} {pos' : Pos} {C : DL.Fin} (hN : X.N.Nodup) (hi : X.N[i]? = some x) (hd : δ[i]? = some (some (I a))) (h : PD X T W χ e δ w fun d w1 => ∃ b, d = I b ∧ C.nx (δ.set i (some (I (a + b)))) w1) (hx : Loc X.env.scope x := by first | exact .inl rfl | exact .inr rfl)
    (hf : X.fn x = true ∨ X.env.scope.names.lookup x = some .local := by first | exact .inl rfl | exact .inr rfl) : PSD X T W χ (.AugAssign (.Name x pos') .Add e pos) δ w C := fun F σ S H E hE hW hX hK => wp_ps (ps_aug hN hi hx (pe_wp e) ip_add hf) (by
  obtain ⟨v, e1, r⟩ := hE.at_ i _ hd
  refine ⟨v, e1, ?_⟩
  refine h F σ S H _ hE hW (hX σ) fun d w1 y S1 H1 k s1 W1 r1 => ?_
  obtain ⟨b, rfl, k⟩ := k
  exact ⟨a, b, r, r1, hK.nx _ w1 _ S1 H1 k s1 ((hE.mono s1).set i (d := I (a + b)) (v := .int (a + b)) rfl) W1⟩)
/-- reversed(xs) -/
theorem it_rev {tg e : Expr} {p : Pos} {κ : List D → Wp → Prop} (hm : X.mg "reversed" = none) (h : PD X T W χ e δ w fun d w1 => ∃ ds, d = .lst ds ∧ κ ds.reverse w1)
    (hg : Gl X "reversed" := by rfl) (he : starEach [e] X.env = [(false, eval e X.env)] := by rfl) : IterD X T W χ tg (.Call (.Name "reversed" p) [e] [] pos) δ w κ :=
  ⟨_, pi_reversed hg hm (pa_wp [e]) he, fun F σ S H R hE hW hX hK => by
    have ha : PAD X T W χ [e] δ w fun ds w1 => ∃ es, ds = [.lst es] ∧ κ es.reverse w1 := pad_cons (h.imp fun d w1 ⟨es, e1, k⟩ => pad_nil ⟨es, by rw [e1], k⟩) he
    refine ha F σ S H _ hE hW hX fun ds w1 vs S1 H1 k s1 W1 r => ?_
    obtain ⟨es, rfl, k⟩ := k
    obtain ⟨y, ys, rfl, h1, h2⟩ := r
    obtain ⟨a, xs, rfl, h3, h4⟩ := h1
    have h2' : ys = [] := h2
    subst h2'
    refine ⟨a, xs, rfl, SqL.of (W1.same _ _ h3), ?_⟩
    have ww := walk_rev (K := X.K) (a := a) (xs := xs)
    have el := h4.length
    refine hK es.reverse w1 S1 H1 _ _ _ k s1 W1 (by rw [List.length_reverse, ← el]; exact ww) (fun S2 w2 F2 H2 s2 W2 => SqL.of (W2.same _ _ (s2 _ _ h3))) fun i d S2 w2 F2 H2 x H3 hd s2 W2 y => ?_
    obtain ⟨rfl, hx⟩ := y
    have hi : i < es.length := by
      have := (List.getElem?_eq_some_iff.mp hd).1
      rwa [List.length_reverse] at this
    rw [List.getElem?_reverse hi] at hd
    obtain ⟨v, h5, h6⟩ := h4.get hd
    rw [el, h5] at hx
    cases hx
    exact ⟨S2, Same.refl _, W2, h6.mono s2⟩⟩
end
end DL

set_option Elab.async false
set_option linter.all false
set_option maxRecDepth 100000
set_option maxHeartbeats 4000000
/-! k35: _law_refusals_good. -/
namespace DL
open PySem PySem.Spec PyProof.Rows L2 LamX
section
variable {X : Cx} {T : List (Addr × Str)} {W : WX} {χ : XD} {δ : Dn} {w : Wp} {pos : Pos}
/-- a, b, c, d = a list of four that stands -/
theorem pgd_unl4 {a b c d : Expr} {k0 : Nat} {d1 d2 d3 d4 : D} {κ : Dn → Wp → Prop} (hc : X.calm = true) (h : PGD X T a d1 δ w fun δ1 w1 => PGD X T b d2 δ1 w1 fun δ2 w2 => PGD X T c d3 δ2 w2 fun δ3 w3 => PGD X T d d4 δ3 w3 κ)
    (hs1 : (assignEach [a, b, c, d] X.env).map (·.2) = assign a X.env :: (assignEach [b, c, d] X.env).map (·.2) := by rfl) (hs2 : (assignEach [b, c, d] X.env).map (·.2) = assign b X.env :: (assignEach [c, d] X.env).map (·.2) := by rfl)
    (hs3 : (assignEach [c, d] X.env).map (·.2) = assign c X.env :: (assignEach [d] X.env).map (·.2) := by rfl) (hs4 : (assignEach [d] X.env).map (·.2) = assign d X.env :: (assignEach [] X.env).map (·.2) := by rfl)
    (hn : (assignEach [a, b, c, d] X.env).length = 4 := by rfl) (hst : (assignEach [a, b, c, d] X.env).findIdx? (·.1) = none := by rfl) : PGD X T (.Tuple [a, b, c, d] k0 pos) (.lst [d1, d2, d3, d4]) δ w κ := fun F v σ S H Q r hE hW hK => by
  refine wp_pg (pg_unl hc (pgs_cons (pg_wp a) (pgs_cons (pg_wp b) (pgs_cons (pg_wp c) (pgs_cons (pg_wp d) pgs_nil hs4) hs3) hs2) hs1) hn hst) ?_
  obtain ⟨t, xs, rfl, h1, y1, ys1, rfl, r1, y2, ys2, rfl, r2, y3, ys3, rfl, r3, y4, ys4, rfl, r4, r5⟩ := r
  have r5' : ys4 = [] := r5
  subst r5'
  refine ⟨t, [y1, y2, y3, y4], rfl, SqL.of (hW.same _ _ h1), rfl, y1, [y2, y3, y4], rfl, ?_⟩
  refine h F y1 σ S H _ r1 hE hW fun δ1 w1 σ1 S1 H1 k1 s1 hE1 W1 => ?_
  refine ⟨y2, [y3, y4], rfl, ?_⟩
  refine k1 F y2 σ1 S1 H1 _ (r2.mono s1) hE1 W1 fun δ2 w2 σ2 S2 H2 k2 s2 hE2 W2 => ?_
  refine ⟨y3, [y4], rfl, ?_⟩
  refine k2 F y3 σ2 S2 H2 _ (r3.mono (s1.trans s2)) hE2 W2 fun δ3 w3 σ3 S3 H3 k3 s3 hE3 W3 => ?_
  refine ⟨y4, [], rfl, ?_⟩
  refine k3 F y4 σ3 S3 H3 _ (r4.mono (s1.trans (s2.trans s3))) hE3 W3 fun δ4 w4 σ4 S4 H4 k4 s4 hE4 W4 => ⟨rfl, ?_⟩
  exact hK δ4 w4 σ4 S4 H4 k4 (s1.trans (s2.trans (s3.trans s4))) hE4 W4
end
end DL
namespace Tw
open PySem PySem.Spec PyProof.Rows L2 LamX DL
abbrev sRfg : Stmt := top 27
/-- the parts of a machine as the law makes them -/
structure GoodM (sg : Str) (st : List (List Int)) (wo : List (List Str)) (f : Int) : Prop where
  so : SgOk sg
  gs : GoodSt sg.length st
  gw : GoodWo sg.length st.length wo
  f0 : 0 ≤ f
  f1 : f < (st.length : Int)
theorem sgB_ok {sg : Str} (h : SgOk sg) : signsB sg = true := by
  unfold signsB
  rw [decide_eq_true h.up, Bool.and_true, List.all_eq_true]
  intro c hc
  have := h.az c hc
  unfold isSg
  rw [decide_eq_true this.1, decide_eq_true this.2]
  rfl
section
variable {sg : Str} {st : List (List Int)} {wo : List (List Str)} {f : Int}
theorem fault_sg (h : signsB sg = false) : faultM sg st wo f = some ("signs" : Str) := by
  unfold faultM
  rw [h]
  rfl
theorem fault_st (h : signsB sg = true) (h2 : (!decide (st.length = 0) && lensB sg.length st && gosB st.length st) = false) : faultM sg st wo f = some ("steps" : Str) := by
  unfold faultM
  rw [h, h2]
  rfl
theorem stB_ok (g : GoodSt sg.length st) : (!decide (st.length = 0) && lensB sg.length st && gosB st.length st) = true := by
  have l0 := g.l0
  rw [decide_eq_false (by omega), lens_iff.mpr g.ln, gos_iff.mpr g.go]
  rfl
theorem fault_wo (h : signsB sg = true) (g : GoodSt sg.length st) (h3 : (decide (wo.length = st.length) && lensB sg.length wo) = false) : faultM sg st wo f = some ("words" : Str) := by
  unfold faultM
  rw [h, stB_ok g, h3]
  rfl
theorem woB_ok (g : GoodWo sg.length st.length wo) : (decide (wo.length = st.length) && lensB sg.length wo) = true := by
  rw [decide_eq_true g.le, lens_iff.mpr g.ln]
  rfl
theorem fault_fi (h : signsB sg = true) (g : GoodSt sg.length st) (gw : GoodWo sg.length st.length wo) (hf : f < 0 ∨ f ≥ (st.length : Int)) : faultM sg st wo f = some ("first" : Str) := by
  unfold faultM
  rw [h, stB_ok g, woB_ok gw, if_pos rfl, if_pos rfl, if_pos rfl, if_pos]
  rcases hf with z | z
  · rw [decide_eq_true z]
    rfl
  · rw [decide_eq_true z, Bool.or_true]
theorem fault_ok (g : GoodM sg st wo f) : faultM sg st wo f = none := by
  have := g.f0
  have := g.f1
  unfold faultM
  rw [sgB_ok g.so, stB_ok g.gs, woB_ok g.gw, if_pos rfl, if_pos rfl, if_pos rfl, decide_eq_false (by omega), decide_eq_false (by omega)]
  rfl
theorem GoodSt.sz (g : GoodSt sg.length st) : st.length ≤ 900 ∧ ∀ x ∈ st, x.length ≤ 900 := by
  have n26 := g.n26
  have l40 := g.l40
  exact ⟨by omega, fun x hx => by rw [g.ln x hx]; omega⟩
theorem GoodWo.sz {m : Nat} (g : GoodWo sg.length m wo) : wo.length ≤ 900 ∧ (∀ x ∈ wo, x.length ≤ 900) ∧ ∀ x ∈ wo, ∀ y ∈ x, Oc y := by
  have n26 := g.n26
  have l40 := g.l40
  have le := g.le
  exact ⟨by omega, fun x hx => by rw [g.ln x hx]; omega, fun x hx y hy => (g.oc x hx y hy).2⟩
end
def spRfg : SpD := fun ds w κ χ => ∃ (a : Addr) (b : Bg) (sg : Str) (st : List (List Int)) (wo : List (List Str)) (f : Int), ds = [R a, partD sg st wo f] ∧ BgAt w a b ∧ BgOk b ∧ GoodM sg st wo f ∧ ∀ b' : Bg, BgOk b' → κ (B true) (bgPut w a b')
section
variable {P : Program} {w : PySem.World} {K : PySem.W.Frag} {mg : Str → Option Value} {base : Heap} {T : List (Addr × Str)}
def NRfg : List Str := ["bag", "parts", "signs", "steps", "words", "first", "count", "seen", "bad", "picks", "bads"]
theorem scRfg : FnScope NRfg ["bag", "parts"] (defScope sRfg) := ⟨rfl, rfl, rfl, by decide +kernel, rfl, by decide +kernel, by decide +kernel⟩
theorem ok_rfg {f : Addr} {fd : FuncData} (G : Fun K "_law_refusals_good" "_law_refusals_good" sRfg f fd) (hm : Nm35 mg) (hC : HasF P w K mg base T CX0 "_law_copy" 1 ["lines"] spCpyS) (hT : HasF P w K mg base T CX0 "_law_take" 1 ["bag", "size"] spTake)
    (hBs : HasF P w K mg base T CX0 "_law_bad_signs" 1 ["signs"] spBsg) (hBt : HasF P w K mg base T CX0 "_law_bad_steps" 2 ["bag", "parts"] spBst) (hBw : HasF P w K mg base T CX0 "_law_bad_words" 2 ["bag", "parts"] spBwo)
    (hR : HasF P w K mg base T CX0 "_law_refused" 6 ["signs", "steps", "words", "first"] spRfs) (hDr : HasF P w K mg base T CX0 "_law_default_refused" 6 ["signs", "steps", "words"] spDrf) : FnOk P w K mg base CX0 7 f fd ["bag", "parts"] (spOf K T spRfg) := by
  refine fnD G scRfg (fun ds w κ χ h => ?_) (fun cdv A outer s H E ds w0 κ χ hr h => ?_)
  · obtain ⟨a, b, sg, st, wo, fi, rfl, _⟩ := h
    rfl
  obtain ⟨a, b, sg, st, wo, fi, rfl, hb, ok, g, k⟩ := h
  have nd := scRfg.nd
  have n26 := g.gs.n26
  have l40 := g.gs.l40
  have l0 := g.gs.l0
  obtain ⟨z1, z2⟩ := g.gs.sz
  obtain ⟨z3, z4, z5⟩ := g.gw.sz
  have sB := sgB_ok g.so
  have oc := g.so.oc
  refine pssd_cons (psd_asgT ?_)
  refine pd_var (i := 1) rfl rfl ?_
  refine pgd_unl4 rfl ?_
  refine pgd_name (i := 2) nd rfl ?_
  refine pgd_name (i := 3) nd rfl ?_
  refine pgd_name (i := 4) nd rfl ?_
  refine pgd_name (i := 5) nd rfl ?_
  refine pssd_cons (psd_set (i := 6) nd rfl ?_)
  refine pd_callB call_len_seq rfl hm.len PySem.boot_len ?_
  (refine pad_cons ?_; refine pd_var (i := 3) rfl rfl ?_)
  refine pad_nil ?_
  refine va_len ?_
  rw [List.length_map]
  refine pssd_cons (psd_set (i := 7) nd rfl ?_)
  refine pd_lstO ?_
  refine pad_cons ?_
  refine pd_has hBs (hr.mono (by decide)) (fun _ => pass0At) ?_
  (refine pad_cons ?_; refine pd_var (i := 2) rfl rfl ?_)
  refine pad_nil ⟨sg, rfl, g.so, n26, ?_⟩
  refine pad_cons ?_
  refine pd_has hBt (hr.mono (by decide)) (fun _ => pass0At) ?_
  (refine pad_cons ?_; refine pd_var (i := 0) rfl rfl ?_)
  (refine pad_cons ?_; refine pd_var (i := 1) rfl rfl ?_)
  refine pad_nil ⟨a, b, sg, st, wo, fi, rfl, hb, ok, g.gs, fun B2 b1 ok1 ne2 le2 h2 => ?_⟩
  refine pad_cons ?_
  refine pd_has hBw (hr.mono (by decide)) (fun _ => pass0At) ?_
  (refine pad_cons ?_; refine pd_var (i := 0) rfl rfl ?_)
  (refine pad_cons ?_; refine pd_var (i := 1) rfl rfl ?_)
  refine pad_nil ⟨a, b1, sg, st, wo, fi, st.length, rfl, bg_put, ok1, g.gw, fun B3 b2 ok2 ne3 le3 h3 => ?_⟩
  rw [bg_put2]
  refine pad_nil ⟨by show 3 ≤ sizeLine; decide, fun af naf => ?_⟩
  have f0 : F1 w0 (wu (bgPut w0 a b2) af (.lst [.lst ((bads sg).map DL.T), .lst (B2.map stD), .lst (B3.map woD)])) a af b2 [.lst ((bads sg).map DL.T), .lst (B2.map stD), .lst (B3.map woD)] := F1.new naf
  generalize wu (bgPut w0 a b2) af (.lst [.lst ((bads sg).map DL.T), .lst (B2.map stD), .lst (B3.map woD)]) = w1 at f0
  refine pssd_cons (psd_expr ?_)
  refine pd_bm PySem.F.plainAttrs_list PySem.F.slot_list_append PySem.F.type_list_append mt_append ?_
  refine pd_var (i := 7) rfl rfl ?_
  refine ⟨⟨rfl, _, f0.h1⟩, ?_⟩
  refine pad_cons ?_
  refine pd_lst ?_
  refine pad_cons ?_
  refine pd_un un_neg ?_
  refine pd_int ?_
  refine vr_U ?_
  (refine pad_cons ?_; refine pd_var (i := 6) rfl rfl ?_)
  refine pad_cons ?_
  refine pd_un un_neg ?_
  refine pd_var (i := 6) rfl rfl ?_
  refine vr_U ?_
  refine pad_cons ?_
  refine pd_op op_pow ?_
  refine pd_int ?_
  refine pd_int ?_
  refine vr_IC ⟨by decide, by decide, by decide⟩ ?_
  refine pad_cons ?_
  refine pd_op op_add ?_
  refine pd_var (i := 6) rfl rfl ?_
  refine pd_take hT (hr.mono (by decide)) (i := 0) rfl rfl f0.pa ok2 ?_
  refine pd_int ?_
  refine ⟨rfl, _, rfl, by decide, by decide, fun x b3 x0 x1 ok3 => ?_⟩
  refine vr_I ?_
  refine pad_nil ⟨by show 5 ≤ sizeLine; decide, ?_⟩
  have f1 := f0.take b3
  generalize bgPut w1 a b3 = w2 at f1
  let B4 : List Int := [-1, (st.length : Int), -(st.length : Int), 10 ^ 30, (st.length : Int) + x]
  have h4 : ∀ v ∈ B4, v < 0 ∨ v ≥ (st.length : Int) := fun v hv => by
    simp only [B4, List.mem_cons, List.not_mem_nil, or_false] at hv
    rcases hv with rfl | rfl | rfl | rfl | rfl
    · omega
    · omega
    · omega
    · right
      have : (st.length : Int) ≤ 40 := by omega
      have h40 : (40 : Int) ≤ 10 ^ 30 := by decide
      omega
    · omega
  refine pad_nil ?_
  refine vm_append f1.h1 (by show 3 < sizeLine; decide) ?_
  refine pssd_freeze 7 rfl wu_same ?_
  rw [(f1.set _).out]
  let seenD : List D := [.lst ((bads sg).map DL.T), .lst (B2.map stD), .lst (B3.map woD), .lst (B4.map I)]
  refine pssd_as [some (R a), some (partD sg st wo fi), some (DL.T sg), some (stD st), some (woD wo), some (I fi), some (I (st.length : Int)), some (.lst seenD), none, none, none] rfl ?_
  have bO := bads_ok g.so n26
  -- seen[0]
  refine pssd_cons (psd_for PassesOwn.never rfl ?_)
  refine it_list ?_
  refine pd_ix ix_list ?_
  refine pd_var (i := 7) rfl rfl ?_
  refine pd_int ?_
  refine vr_ixL (i := 0) rfl ?_
  refine ⟨_, rfl, fun i δ' w' => ∃ x8 : Option D, δ' = [some (R a), some (partD sg st wo fi), some (DL.T sg), some (stD st), some (woD wo), some (I fi), some (I (st.length : Int)), some (.lst seenD), x8, none, none] ∧ w' = bgPut w0 a b3, ⟨none, rfl, rfl⟩, ?_, ?_⟩
  · rintro i d δ' w' hd ⟨x8, rfl, rfl⟩
    rw [List.getElem?_map] at hd
    cases ev : (bads sg)[i]? with
    | none =>
      rw [ev] at hd
      cases hd
    | some v =>
      rw [ev] at hd
      cases hd
      have hv := bO v (List.mem_of_getElem? ev)
      refine pgd_name (i := 8) nd rfl ?_
      refine pssd_one (psd_if ?_)
      (refine ptd_cmp op_ne ?_; refine pd_has hR hr (fun _ => pass0At) ?_)
      (refine pad_cons ?_; refine pd_var (i := 8) rfl rfl ?_)
      (refine pad_cons ?_; refine pd_has hC (hr.mono (by decide)) (fun _ => pass0At) ?_; (refine pad_cons ?_; refine pd_var (i := 3) rfl rfl ?_); refine pad_nil (cpy_st z1 ?_))
      (refine pad_cons ?_; refine pd_has hC (hr.mono (by decide)) (fun _ => pass0At) ?_; (refine pad_cons ?_; refine pd_var (i := 4) rfl rfl ?_); refine pad_nil (cpy_wo z3 ?_))
      (refine pad_cons ?_; refine pd_var (i := 5) rfl rfl ?_)
      refine pad_nil ⟨v, st, wo, fi, rfl, ⟨hv.sl, z1, z3, z2, z4, hv.oc⟩, z5, ?_⟩
      rw [fault_sg hv.no]
      refine pd_str ?_
      refine vr_neT true (decide_eq_true rfl) ⟨_, rfl, ?_⟩
      refine iteF ?_
      exact pssd_nil ⟨_, rfl, rfl⟩
  rintro δ' w' ⟨x8, rfl, rfl⟩
  -- seen[1]
  refine pssd_cons (psd_for PassesOwn.never rfl ?_)
  refine it_list ?_
  refine pd_ix ix_list ?_
  refine pd_var (i := 7) rfl rfl ?_
  refine pd_int ?_
  refine vr_ixL (i := 1) rfl ?_
  refine ⟨_, rfl, fun i δ' w' => ∃ x8 : Option D, δ' = [some (R a), some (partD sg st wo fi), some (DL.T sg), some (stD st), some (woD wo), some (I fi), some (I (st.length : Int)), some (.lst seenD), x8, none, none] ∧ w' = bgPut w0 a b3, ⟨_, rfl, rfl⟩, ?_, ?_⟩
  · rintro i d δ' w' hd ⟨x8, rfl, rfl⟩
    rw [List.getElem?_map] at hd
    cases ev : B2[i]? with
    | none =>
      rw [ev] at hd
      cases hd
    | some v =>
      rw [ev] at hd
      cases hd
      have hv := h2 v (List.mem_of_getElem? ev)
      refine pgd_name (i := 8) nd rfl ?_
      refine pssd_one (psd_if ?_)
      (refine ptd_cmp op_ne ?_; refine pd_has hR hr (fun _ => pass0At) ?_)
      (refine pad_cons ?_; refine pd_var (i := 2) rfl rfl ?_)
      (refine pad_cons ?_; refine pd_has hC (hr.mono (by decide)) (fun _ => pass0At) ?_; (refine pad_cons ?_; refine pd_var (i := 8) rfl rfl ?_); refine pad_nil (cpy_st hv.stl ?_))
      (refine pad_cons ?_; refine pd_has hC (hr.mono (by decide)) (fun _ => pass0At) ?_; (refine pad_cons ?_; refine pd_var (i := 4) rfl rfl ?_); refine pad_nil (cpy_wo z3 ?_))
      (refine pad_cons ?_; refine pd_var (i := 5) rfl rfl ?_)
      refine pad_nil ⟨sg, v, wo, fi, rfl, ⟨by omega, hv.stl, z3, hv.stn, z4, oc⟩, z5, ?_⟩
      rw [fault_st sB hv.no]
      refine pd_str ?_
      refine vr_neT true (decide_eq_true rfl) ⟨_, rfl, ?_⟩
      refine iteF ?_
      exact pssd_nil ⟨_, rfl, rfl⟩
  rintro δ' w' ⟨x8, rfl, rfl⟩
  -- seen[2]
  refine pssd_cons (psd_for PassesOwn.never rfl ?_)
  refine it_list ?_
  refine pd_ix ix_list ?_
  refine pd_var (i := 7) rfl rfl ?_
  refine pd_int ?_
  refine vr_ixL (i := 2) rfl ?_
  refine ⟨_, rfl, fun i δ' w' => ∃ x8 : Option D, δ' = [some (R a), some (partD sg st wo fi), some (DL.T sg), some (stD st), some (woD wo), some (I fi), some (I (st.length : Int)), some (.lst seenD), x8, none, none] ∧ w' = bgPut w0 a b3, ⟨_, rfl, rfl⟩, ?_, ?_⟩
  · rintro i d δ' w' hd ⟨x8, rfl, rfl⟩
    rw [List.getElem?_map] at hd
    cases ev : B3[i]? with
    | none =>
      rw [ev] at hd
      cases hd
    | some v =>
      rw [ev] at hd
      cases hd
      have hv := h3 v (List.mem_of_getElem? ev)
      refine pgd_name (i := 8) nd rfl ?_
      refine pssd_cons (psd_if ?_)
      (refine ptd_cmp op_ne ?_; refine pd_has hR hr (fun _ => pass0At) ?_)
      (refine pad_cons ?_; refine pd_var (i := 2) rfl rfl ?_)
      (refine pad_cons ?_; refine pd_has hC (hr.mono (by decide)) (fun _ => pass0At) ?_; (refine pad_cons ?_; refine pd_var (i := 3) rfl rfl ?_); refine pad_nil (cpy_st z1 ?_))
      (refine pad_cons ?_; refine pd_has hC (hr.mono (by decide)) (fun _ => pass0At) ?_; (refine pad_cons ?_; refine pd_var (i := 8) rfl rfl ?_); refine pad_nil (cpy_wo hv.wol ?_))
      (refine pad_cons ?_; refine pd_var (i := 5) rfl rfl ?_)
      refine pad_nil ⟨sg, st, v, fi, rfl, ⟨by omega, z1, hv.wol, z2, hv.won, oc⟩, hv.oc, ?_⟩
      rw [fault_wo sB g.gs hv.no]
      refine pd_str ?_
      refine vr_neT true (decide_eq_true rfl) ⟨_, rfl, ?_⟩
      refine iteF ?_
      refine pssd_nil ?_
      refine pssd_one (psd_if ?_)
      refine ptd_not ?_
      refine ptd_val ?_
      refine pd_has hDr hr (fun _ => pass0At) ?_
      (refine pad_cons ?_; refine pd_var (i := 2) rfl rfl ?_)
      (refine pad_cons ?_; refine pd_has hC (hr.mono (by decide)) (fun _ => pass0At) ?_; (refine pad_cons ?_; refine pd_var (i := 3) rfl rfl ?_); refine pad_nil (cpy_st z1 ?_))
      (refine pad_cons ?_; refine pd_has hC (hr.mono (by decide)) (fun _ => pass0At) ?_; (refine pad_cons ?_; refine pd_var (i := 8) rfl rfl ?_); refine pad_nil (cpy_wo hv.wol ?_))
      refine pad_nil ⟨sg, st, v, rfl, ⟨by omega, z1, hv.wol, z2, hv.won, oc⟩, fault_wo sB g.gs hv.no, ?_⟩
      refine ⟨_, rfl, ?_⟩
      refine iteF ?_
      exact pssd_nil ⟨_, rfl, rfl⟩
  rintro δ' w' ⟨x8, rfl, rfl⟩
  -- seen[3]
  refine pssd_cons (psd_for PassesOwn.never rfl ?_)
  refine it_list ?_
  refine pd_ix ix_list ?_
  refine pd_var (i := 7) rfl rfl ?_
  refine pd_int ?_
  refine vr_ixL (i := 3) rfl ?_
  refine ⟨_, rfl, fun i δ' w' => ∃ x8 : Option D, δ' = [some (R a), some (partD sg st wo fi), some (DL.T sg), some (stD st), some (woD wo), some (I fi), some (I (st.length : Int)), some (.lst seenD), x8, none, none] ∧ w' = bgPut w0 a b3, ⟨_, rfl, rfl⟩, ?_, ?_⟩
  · rintro i d δ' w' hd ⟨x8, rfl, rfl⟩
    rw [List.getElem?_map] at hd
    cases ev : B4[i]? with
    | none =>
      rw [ev] at hd
      cases hd
    | some v =>
      rw [ev] at hd
      cases hd
      have hv := h4 v (List.mem_of_getElem? ev)
      refine pgd_name (i := 8) nd rfl ?_
      refine pssd_one (psd_if ?_)
      (refine ptd_cmp op_ne ?_; refine pd_has hR hr (fun _ => pass0At) ?_)
      (refine pad_cons ?_; refine pd_var (i := 2) rfl rfl ?_)
      (refine pad_cons ?_; refine pd_has hC (hr.mono (by decide)) (fun _ => pass0At) ?_; (refine pad_cons ?_; refine pd_var (i := 3) rfl rfl ?_); refine pad_nil (cpy_st z1 ?_))
      (refine pad_cons ?_; refine pd_has hC (hr.mono (by decide)) (fun _ => pass0At) ?_; (refine pad_cons ?_; refine pd_var (i := 4) rfl rfl ?_); refine pad_nil (cpy_wo z3 ?_))
      (refine pad_cons ?_; refine pd_var (i := 8) rfl rfl ?_)
      refine pad_nil ⟨sg, st, wo, v, rfl, ⟨by omega, z1, z3, z2, z4, oc⟩, z5, ?_⟩
      rw [fault_fi sB g.gs g.gw hv]
      refine pd_str ?_
      refine vr_neT true (decide_eq_true rfl) ⟨_, rfl, ?_⟩
      refine iteF ?_
      exact pssd_nil ⟨_, rfl, rfl⟩
  rintro δ' w' ⟨x8, rfl, rfl⟩
  -- picks
  obtain ⟨v2, hv2⟩ := List.exists_mem_of_ne_nil B2 ne2
  obtain ⟨v3, hv3⟩ := List.exists_mem_of_ne_nil B3 ne3
  obtain ⟨bl1, bl2⟩ := bads_len sg
  refine pssd_cons (psd_setLc (i := 9) (own := [("bads", 10)]) (is := [10]) rfl nd rfl rfl rfl (blkOk_by rfl) (by decide) ?_)
  refine it_list ?_
  refine pd_var (i := 7) rfl rfl ?_
  refine ⟨seenD, rfl, ?_⟩
  refine ⟨by show 4 < sizeLine; decide, fun i acc w' => ∃ (q : Bg) (p1 : Str) (p2 : List (List Int)) (p3 : List (List Str)) (p4 : Int), BgOk q ∧ w' = bgPut w0 a q ∧ p1 ∈ bads sg ∧ p2 ∈ B2 ∧ p3 ∈ B3 ∧ p4 ∈ B4 ∧ acc = [DL.T p1, stD p2, woD p3, I p4].take i, ⟨b3, "ba", v2, v3, -1, ok3, rfl, ?_, hv2, hv3, ?_, rfl⟩, ?_, ?_⟩
  · unfold bads base9
    simp
  · simp [B4]
  · rintro i d acc w' hd ⟨q, p1, p2, p3, p4, okq, rfl, m1, m2, m3, m4, rfl⟩ s2 H0 C1 cl1 fp1
    have li := (List.getElem?_eq_some_iff.mp hd).1
    have li4 : i < 4 := li
    refine pgl_name (i := 10) nd rfl ?_
    intro s3 H0 C1 cl1 fp1
    refine ptsd_nil ?_
    rw [if_pos rfl]
    intro s3 H0 C1 cl1 fp1
    have b2l : 0 < B2.length := List.length_pos_of_mem hv2
    have b3l : 0 < B3.length := List.length_pos_of_mem hv3
    have b4l : B4.length = 5 := rfl
    match i, li4 with
    | 0, _ =>
      have ed : d = .lst ((bads sg).map DL.T) := (Option.some.inj hd).symm
      subst ed
      refine pd_ix ix_list ?_
      refine pd_var (i := 10) rfl rfl ?_
      refine pd_take hT (hr.mono (by decide)) (i := 0) rfl rfl bg_put okq ?_
      refine pd_callB call_len_seq rfl hm.len PySem.boot_len ?_
      (refine pad_cons ?_; refine pd_var (i := 10) rfl rfl ?_)
      refine pad_nil ?_
      refine va_len ?_
      rw [List.length_map]
      refine ⟨rfl, _, rfl, by omega, lg9' (by omega) (by omega), fun y q' y0 y1 okq' => ?_⟩
      rw [bg_put2]
      obtain ⟨n, rfl⟩ := Int.eq_ofNat_of_zero_le y0
      have hn : n < (bads sg).length := by omega
      refine vr_ixL (i := n) (d := DL.T (bads sg)[n]) (by rw [List.getElem?_map, List.getElem?_eq_getElem hn]; rfl) ?_
      exact ⟨q', (bads sg)[n], p2, p3, p4, okq', rfl, List.getElem_mem hn, m2, m3, m4, rfl⟩
    | 1, _ =>
      have ed : d = .lst (B2.map stD) := (Option.some.inj hd).symm
      subst ed
      refine pd_ix ix_list ?_
      refine pd_var (i := 10) rfl rfl ?_
      refine pd_take hT (hr.mono (by decide)) (i := 0) rfl rfl bg_put okq ?_
      refine pd_callB call_len_seq rfl hm.len PySem.boot_len ?_
      (refine pad_cons ?_; refine pd_var (i := 10) rfl rfl ?_)
      refine pad_nil ?_
      refine va_len ?_
      rw [List.length_map]
      refine ⟨rfl, _, rfl, by omega, lg9' (by omega) (by omega), fun y q' y0 y1 okq' => ?_⟩
      rw [bg_put2]
      obtain ⟨n, rfl⟩ := Int.eq_ofNat_of_zero_le y0
      have hn : n < B2.length := by omega
      refine vr_ixL (i := n) (d := stD B2[n]) (by rw [List.getElem?_map, List.getElem?_eq_getElem hn]; rfl) ?_
      exact ⟨q', p1, B2[n], p3, p4, okq', rfl, m1, List.getElem_mem hn, m3, m4, rfl⟩
    | 2, _ =>
      have ed : d = .lst (B3.map woD) := (Option.some.inj hd).symm
      subst ed
      refine pd_ix ix_list ?_
      refine pd_var (i := 10) rfl rfl ?_
      refine pd_take hT (hr.mono (by decide)) (i := 0) rfl rfl bg_put okq ?_
      refine pd_callB call_len_seq rfl hm.len PySem.boot_len ?_
      (refine pad_cons ?_; refine pd_var (i := 10) rfl rfl ?_)
      refine pad_nil ?_
      refine va_len ?_
      rw [List.length_map]
      refine ⟨rfl, _, rfl, by omega, lg9' (by omega) (by omega), fun y q' y0 y1 okq' => ?_⟩
      rw [bg_put2]
      obtain ⟨n, rfl⟩ := Int.eq_ofNat_of_zero_le y0
      have hn : n < B3.length := by omega
      refine vr_ixL (i := n) (d := woD B3[n]) (by rw [List.getElem?_map, List.getElem?_eq_getElem hn]; rfl) ?_
      exact ⟨q', p1, p2, B3[n], p4, okq', rfl, m1, m2, List.getElem_mem hn, m4, rfl⟩
    | 3, _ =>
      have ed : d = .lst (B4.map I) := (Option.some.inj hd).symm
      subst ed
      refine pd_ix ix_list ?_
      refine pd_var (i := 10) rfl rfl ?_
      refine pd_take hT (hr.mono (by decide)) (i := 0) rfl rfl bg_put okq ?_
      refine pd_callB call_len_seq rfl hm.len PySem.boot_len ?_
      (refine pad_cons ?_; refine pd_var (i := 10) rfl rfl ?_)
      refine pad_nil ?_
      refine va_len ?_
      rw [List.length_map]
      refine ⟨rfl, _, rfl, by omega, lg9' (by omega) (by omega), fun y q' y0 y1 okq' => ?_⟩
      rw [bg_put2]
      obtain ⟨n, rfl⟩ := Int.eq_ofNat_of_zero_le y0
      have hn : n < B4.length := by omega
      refine vr_ixL (i := n) (d := I B4[n]) (by rw [List.getElem?_map, List.getElem?_eq_getElem hn]; rfl) ?_
      exact ⟨q', p1, p2, p3, B4[n], okq', rfl, m1, m2, m3, List.getElem_mem hn, rfl⟩
  rintro acc w' ⟨q, p1, p2, p3, p4, okq, rfl, m1, m2, m3, m4, rfl⟩
  have hp1 := bO p1 m1
  have hp2 := h2 p2 m2
  have hp3 := h3 p3 m3
  have hp4 := h4 p4 m4
  refine pssd_as [some (R a), some (partD sg st wo fi), some (DL.T sg), some (stD st), some (woD wo), some (I fi), some (I (st.length : Int)), some (.lst seenD), x8, some (.lst [DL.T p1, stD p2, woD p3, I p4]), none] rfl ?_
  refine pssd_cons (psd_if ?_)
  (refine ptd_cmp op_ne ?_; refine pd_has hR hr (fun _ => pass0At) ?_)
  refine pad_cons ?_; (refine pd_ix ix_list ?_; refine pd_var (i := 9) rfl rfl ?_; refine pd_int ?_; refine vr_ixL (i := 0) rfl ?_)
  refine pad_cons ?_; refine pd_has hC (hr.mono (by decide)) (fun _ => pass0At) ?_; refine pad_cons ?_; (refine pd_ix ix_list ?_; refine pd_var (i := 9) rfl rfl ?_; refine pd_int ?_; refine vr_ixL (i := 1) rfl ?_); refine pad_nil (cpy_st hp2.stl ?_)
  refine pad_cons ?_; refine pd_has hC (hr.mono (by decide)) (fun _ => pass0At) ?_; refine pad_cons ?_; (refine pd_ix ix_list ?_; refine pd_var (i := 9) rfl rfl ?_; refine pd_int ?_; refine vr_ixL (i := 2) rfl ?_); refine pad_nil (cpy_wo hp3.wol ?_)
  refine pad_cons ?_; (refine pd_ix ix_list ?_; refine pd_var (i := 9) rfl rfl ?_; refine pd_int ?_; refine vr_ixL (i := 3) rfl ?_)
  refine pad_nil ⟨p1, p2, p3, p4, rfl, ⟨hp1.sl, hp2.stl, hp3.wol, hp2.stn, hp3.won, hp1.oc⟩, hp3.oc, ?_⟩
  rw [fault_sg hp1.no]
  refine pd_str ?_
  refine vr_neT true (decide_eq_true rfl) ⟨_, rfl, ?_⟩
  refine iteF ?_
  refine pssd_nil ?_
  refine pssd_cons (psd_if ?_)
  (refine ptd_cmp op_ne ?_; refine pd_has hR hr (fun _ => pass0At) ?_)
  refine pad_cons ?_; (refine pd_ix ix_list ?_; refine pd_var (i := 9) rfl rfl ?_; refine pd_int ?_; refine vr_ixL (i := 0) rfl ?_)
  (refine pad_cons ?_; refine pd_has hC (hr.mono (by decide)) (fun _ => pass0At) ?_; (refine pad_cons ?_; refine pd_var (i := 3) rfl rfl ?_); refine pad_nil (cpy_st z1 ?_))
  (refine pad_cons ?_; refine pd_has hC (hr.mono (by decide)) (fun _ => pass0At) ?_; (refine pad_cons ?_; refine pd_var (i := 4) rfl rfl ?_); refine pad_nil (cpy_wo z3 ?_))
  refine pad_cons ?_; (refine pd_ix ix_list ?_; refine pd_var (i := 9) rfl rfl ?_; refine pd_int ?_; refine vr_ixL (i := 3) rfl ?_)
  refine pad_nil ⟨p1, st, wo, p4, rfl, ⟨hp1.sl, z1, z3, z2, z4, hp1.oc⟩, z5, ?_⟩
  rw [fault_sg hp1.no]
  refine pd_str ?_
  refine vr_neT true (decide_eq_true rfl) ⟨_, rfl, ?_⟩
  refine iteF ?_
  refine pssd_nil ?_
  refine pssd_cons (psd_if ?_)
  (refine ptd_cmp op_ne ?_; refine pd_has hR hr (fun _ => pass0At) ?_)
  (refine pad_cons ?_; refine pd_var (i := 2) rfl rfl ?_)
  refine pad_cons ?_; refine pd_has hC (hr.mono (by decide)) (fun _ => pass0At) ?_; refine pad_cons ?_; (refine pd_ix ix_list ?_; refine pd_var (i := 9) rfl rfl ?_; refine pd_int ?_; refine vr_ixL (i := 1) rfl ?_); refine pad_nil (cpy_st hp2.stl ?_)
  refine pad_cons ?_; refine pd_has hC (hr.mono (by decide)) (fun _ => pass0At) ?_; refine pad_cons ?_; (refine pd_ix ix_list ?_; refine pd_var (i := 9) rfl rfl ?_; refine pd_int ?_; refine vr_ixL (i := 2) rfl ?_); refine pad_nil (cpy_wo hp3.wol ?_)
  refine pad_cons ?_; (refine pd_ix ix_list ?_; refine pd_var (i := 9) rfl rfl ?_; refine pd_int ?_; refine vr_ixL (i := 3) rfl ?_)
  refine pad_nil ⟨sg, p2, p3, p4, rfl, ⟨by omega, hp2.stl, hp3.wol, hp2.stn, hp3.won, oc⟩, hp3.oc, ?_⟩
  rw [fault_st sB hp2.no]
  refine pd_str ?_
  refine vr_neT true (decide_eq_true rfl) ⟨_, rfl, ?_⟩
  refine iteF ?_
  refine pssd_nil ?_
  refine pssd_cons (psd_if ?_)
  (refine ptd_cmp op_ne ?_; refine pd_has hR hr (fun _ => pass0At) ?_)
  (refine pad_cons ?_; refine pd_var (i := 2) rfl rfl ?_)
  refine pad_cons ?_; refine pd_has hC (hr.mono (by decide)) (fun _ => pass0At) ?_; refine pad_cons ?_; (refine pd_ix ix_list ?_; refine pd_var (i := 9) rfl rfl ?_; refine pd_int ?_; refine vr_ixL (i := 1) rfl ?_); refine pad_nil (cpy_st hp2.stl ?_)
  (refine pad_cons ?_; refine pd_has hC (hr.mono (by decide)) (fun _ => pass0At) ?_; (refine pad_cons ?_; refine pd_var (i := 4) rfl rfl ?_); refine pad_nil (cpy_wo z3 ?_))
  refine pad_cons ?_; (refine pd_ix ix_list ?_; refine pd_var (i := 9) rfl rfl ?_; refine pd_int ?_; refine vr_ixL (i := 3) rfl ?_)
  refine pad_nil ⟨sg, p2, wo, p4, rfl, ⟨by omega, hp2.stl, z3, hp2.stn, z4, oc⟩, z5, ?_⟩
  rw [fault_st sB hp2.no]
  refine pd_str ?_
  refine vr_neT true (decide_eq_true rfl) ⟨_, rfl, ?_⟩
  refine iteF ?_
  refine pssd_nil ?_
  refine pssd_cons (psd_if ?_)
  (refine ptd_cmp op_ne ?_; refine pd_has hR hr (fun _ => pass0At) ?_)
  (refine pad_cons ?_; refine pd_var (i := 2) rfl rfl ?_)
  (refine pad_cons ?_; refine pd_has hC (hr.mono (by decide)) (fun _ => pass0At) ?_; (refine pad_cons ?_; refine pd_var (i := 3) rfl rfl ?_); refine pad_nil (cpy_st z1 ?_))
  refine pad_cons ?_; refine pd_has hC (hr.mono (by decide)) (fun _ => pass0At) ?_; refine pad_cons ?_; (refine pd_ix ix_list ?_; refine pd_var (i := 9) rfl rfl ?_; refine pd_int ?_; refine vr_ixL (i := 2) rfl ?_); refine pad_nil (cpy_wo hp3.wol ?_)
  refine pad_cons ?_; (refine pd_ix ix_list ?_; refine pd_var (i := 9) rfl rfl ?_; refine pd_int ?_; refine vr_ixL (i := 3) rfl ?_)
  refine pad_nil ⟨sg, st, p3, p4, rfl, ⟨by omega, z1, hp3.wol, z2, hp3.won, oc⟩, hp3.oc, ?_⟩
  rw [fault_wo sB g.gs hp3.no]
  refine pd_str ?_
  refine vr_neT true (decide_eq_true rfl) ⟨_, rfl, ?_⟩
  refine iteF ?_
  refine pssd_nil ?_
  refine pssd_one (psd_ret ?_)
  refine pd_cmp op_isN ?_
  refine pd_has hR hr (fun _ => pass0At) ?_
  (refine pad_cons ?_; refine pd_var (i := 2) rfl rfl ?_)
  (refine pad_cons ?_; refine pd_has hC (hr.mono (by decide)) (fun _ => pass0At) ?_; (refine pad_cons ?_; refine pd_var (i := 3) rfl rfl ?_); refine pad_nil (cpy_st z1 ?_))
  (refine pad_cons ?_; refine pd_has hC (hr.mono (by decide)) (fun _ => pass0At) ?_; (refine pad_cons ?_; refine pd_var (i := 4) rfl rfl ?_); refine pad_nil (cpy_wo z3 ?_))
  (refine pad_cons ?_; refine pd_var (i := 5) rfl rfl ?_)
  refine pad_nil ⟨sg, st, wo, fi, rfl, ⟨by omega, z1, z3, z2, z4, oc⟩, z5, ?_⟩
  rw [fault_ok g]
  refine pd_non ?_
  refine vr_isN ?_
  exact k q okq
end
end Tw

set_option Elab.async false
set_option linter.all false
set_option maxRecDepth 100000
set_option maxHeartbeats 4000000
/-! k35: machines with one thing changed: mathematics. -/
namespace Tw
open PySem PySem.Spec PyProof.Rows L2 LamX DL
/-- parts without fault, of any size that the law makes -/
structure OkM (sg : Str) (st : List (List Int)) (wo : List (List Str)) (f : Int) : Prop where
  sB : signsB sg = true
  oc : Oc sg
  sl : sg.length ≤ 60
  s0 : 0 < st.length
  s60 : st.length ≤ 60
  ln : ∀ x ∈ st, x.length = sg.length
  go : ∀ x ∈ st, ∀ y ∈ x, 0 ≤ y ∧ y < (st.length : Int)
  wl : wo.length = st.length
  wn : ∀ x ∈ wo, x.length = sg.length
  wc : ∀ x ∈ wo, ∀ y ∈ x, y.length ≤ 60 ∧ Oc y
  f0 : 0 ≤ f
  f1 : f < (st.length : Int)
section
variable {sg : Str} {st : List (List Int)} {wo : List (List Str)} {f : Int}
theorem GoodM.ok (g : GoodM sg st wo f) : OkM sg st wo f := by
  have n26 := g.gs.n26
  have l40 := g.gs.l40
  exact ⟨sgB_ok g.so, g.so.oc, by omega, g.gs.l0, by omega, g.gs.ln, g.gs.go, g.gw.le, g.gw.ln, fun x hx y hy => ⟨by have := (g.gw.oc x hx y hy).1; omega, (g.gw.oc x hx y hy).2⟩, g.f0, g.f1⟩
theorem OkM.fault (g : OkM sg st wo f) : faultM sg st wo f = none := by
  have s0 := g.s0
  have f0 := g.f0
  have f1 := g.f1
  unfold faultM
  rw [g.sB, if_pos rfl, decide_eq_false (by omega), lens_iff.mpr g.ln, gos_iff.mpr g.go, decide_eq_true g.wl, lens_iff.mpr g.wn, decide_eq_false (by omega), decide_eq_false (by omega)]
  rfl
theorem OkM.pre (g : OkM sg st wo f) : MPre sg st wo := by
  have s60 := g.s60
  have wl := g.wl
  have sl := g.sl
  exact ⟨g.sl, by omega, by omega, fun x hx => by rw [g.ln x hx]; omega, fun x hx => by rw [g.wn x hx]; omega, g.oc⟩
theorem OkM.rp (g : OkM sg st wo f) : RpOk sg st wo f := by
  have s60 := g.s60
  have wl := g.wl
  have sl := g.sl
  have f1 := g.f1
  exact ⟨g.sl, g.oc, g.f0, by omega, g.s60, fun x hx => ⟨by rw [g.ln x hx]; omega, fun y hy => by have := g.go x hx y hy; omega⟩, by omega, fun x hx => ⟨by rw [g.wn x hx]; omega, g.wc x hx⟩⟩
theorem OkM.ocw (g : OkM sg st wo f) : ∀ x ∈ wo, ∀ y ∈ x, Oc y := fun x hx y hy => (g.wc x hx y hy).2
end
abbrev Pts := Str × List (List Int) × List (List Str) × Int
def ptD (c : Pts) : D := partD c.1 c.2.1 c.2.2.1 c.2.2.2
/-- parts of another machine than sg, st, wo, f -/
structure ChOk (sg : Str) (st : List (List Int)) (wo : List (List Str)) (f : Int) (c : Pts) : Prop where
  ok : OkM c.1 c.2.1 c.2.2.1 c.2.2.2
  ne : eqM sg st wo f c.1 c.2.1 c.2.2.1 c.2.2.2 = false
section
variable {sg : Str} {st : List (List Int)} {wo : List (List Str)} {f : Int}
theorem eqM_f {sg2 : Str} {st2 : List (List Int)} {wo2 : List (List Str)} {f2 : Int} (h : sg ≠ sg2 ∨ st ≠ st2 ∨ wo ≠ wo2 ∨ f ≠ f2) : eqM sg st wo f sg2 st2 wo2 f2 = false := by
  unfold eqM
  rcases h with h | h | h | h
  · rw [decide_eq_false h]
    rfl
  · rw [decide_eq_false h, Bool.false_and, Bool.and_false]
  · rw [decide_eq_false h, Bool.false_and, Bool.and_false, Bool.and_false]
  · rw [decide_eq_false h, Bool.and_false, Bool.and_false, Bool.and_false]
theorem ch_more (g : GoodM sg st wo f) {x : List Int} {y : List Str} (hx : x ∈ st) (hy : y ∈ wo) : ChOk sg st wo f (sg, st ++ [x], wo ++ [y], f) := by
  have o := g.ok
  have l40 := g.gs.l40
  have f1 := g.f1
  refine ⟨⟨o.sB, o.oc, o.sl, by simp, by rw [List.length_append]; simp; omega, fun z hz => ?_, fun z hz v hv => ?_, by rw [List.length_append, List.length_append, o.wl]; rfl, fun z hz => ?_, fun z hz => ?_, o.f0, by rw [List.length_append]; simp; omega⟩, eqM_f (.inr (.inl fun e => ?_))⟩
  · rcases List.mem_append.mp hz with h | h
    · exact o.ln z h
    · rw [List.mem_singleton.mp h]
      exact o.ln x hx
  · have hm : z ∈ st := by
      rcases List.mem_append.mp hz with h | h
      · exact h
      · rw [List.mem_singleton.mp h]
        exact hx
    have := o.go z hm v hv
    refine ⟨this.1, ?_⟩
    rw [List.length_append]
    simp
    omega
  · rcases List.mem_append.mp hz with h | h
    · exact o.wn z h
    · rw [List.mem_singleton.mp h]
      exact o.wn y hy
  · rcases List.mem_append.mp hz with h | h
    · exact o.wc z h
    · rw [List.mem_singleton.mp h]
      exact o.wc y hy
  · have := congrArg List.length e
    simp at this
theorem oc_ex : Oc "!" := by
  have h : ∀ c ∈ ("!" : Str).cps.toList, c < 200 := by decide +kernel
  exact h
theorem ch_word (g : GoodM sg st wo f) {i p : Nat} (hi : i < wo.length) (hp : p < wo[i].length) : ChOk sg st wo f (sg, st, wo.set i (wo[i].set p (wo[i][p] ++ "!")), f) := by
  have o := g.ok
  have l1 : ("!" : Str).length = 1 := rfl
  refine ⟨⟨o.sB, o.oc, o.sl, o.s0, o.s60, o.ln, o.go, by rw [List.length_set]; exact o.wl, fun z hz => ?_, fun z hz y hy => ?_, o.f0, o.f1⟩, eqM_f (.inr (.inr (.inl fun e => ?_)))⟩
  · rcases List.mem_or_eq_of_mem_set hz with h | h
    · exact o.wn z h
    · rw [h, List.length_set]
      exact o.wn _ (List.getElem_mem hi)
  · rcases List.mem_or_eq_of_mem_set hz with h | h
    · exact o.wc z h y hy
    · rw [h] at hy
      have old := g.gw.oc _ (List.getElem_mem hi)
      rcases List.mem_or_eq_of_mem_set hy with h2 | h2
      · exact ⟨by have := (old y h2).1; omega, (old y h2).2⟩
      · have := old _ (List.getElem_mem hp)
        rw [h2, Str.length_append]
        exact ⟨by omega, oc_cat this.2 oc_ex⟩
  · have h1 := congrArg (fun l : List (List Str) => l[i]?) e
    simp only [List.getElem?_eq_getElem hi, List.getElem?_set_self hi] at h1
    have h2 := Option.some.inj h1
    have h3 := congrArg (fun l : List Str => l[p]?) h2
    simp only [List.getElem?_eq_getElem hp, List.getElem?_set_self hp] at h3
    have h4 := congrArg (·.length) (Option.some.inj h3)
    simp only [Str.length_append, l1] at h4
    omega
theorem ch_sign (g : GoodM sg st wo f) {l : List Nat} {c : Nat} (e : cl sg = l ++ [c]) (hc : c < 122) : ChOk sg st wo f (toS l ++ "z", st, wo, f) := by
  have o := g.ok
  have cz : cl ("z" : Str) = [122] := by decide +kernel
  have ez : cl (toS l ++ "z") = l ++ [122] := by rw [cl_cat, cl_toS, cz]
  have ll : (cl sg).length = sg.length := Array.length_toList
  have l2 : (toS l ++ "z").length = sg.length := by
    have h1 : (cl (toS l ++ "z")).length = (toS l ++ "z").length := Array.length_toList
    rw [← h1, ← ll, ez, e]
    simp
  have up := g.so.up
  have az := g.so.az
  rw [e] at up az
  have up2 := List.pairwise_append.mp up
  have ok : SgOk (toS l ++ "z") := by
    refine ⟨?_, fun d hd => ?_⟩
    · rw [ez, List.pairwise_append]
      refine ⟨up2.1, List.pairwise_singleton _ _, fun x hx y hy => ?_⟩
      have := up2.2.2 x hx c (by simp)
      rw [List.mem_singleton.mp hy]
      omega
    · rw [ez] at hd
      rcases List.mem_append.mp hd with h | h
      · exact az d (List.mem_append_left _ h)
      · rw [List.mem_singleton.mp h]
        omega
  refine ⟨⟨sgB_ok ok, ok.oc, by rw [l2]; exact o.sl, o.s0, o.s60, fun x hx => by rw [l2]; exact o.ln x hx, o.go, o.wl, fun x hx => by rw [l2]; exact o.wn x hx, o.wc, o.f0, o.f1⟩, eqM_f (.inl fun z => ?_)⟩
  have h := congrArg cl z
  show False
  rw [show cl (toS l ++ "z", st, wo, f).1 = l ++ [122] from ez, e] at h
  have := List.append_cancel_left h
  injection this with h1
  omega
theorem ch_step (g : GoodM sg st wo f) {i p : Nat} (hi : i < st.length) (hp : p < st[i].length) {v : Int} (v0 : 0 ≤ v) (v1 : v < (st.length : Int)) (ne : v ≠ st[i][p]) : ChOk sg st wo f (sg, st.set i (st[i].set p v), wo, f) := by
  have o := g.ok
  refine ⟨⟨o.sB, o.oc, o.sl, by rw [List.length_set]; exact o.s0, by rw [List.length_set]; exact o.s60, fun z hz => ?_, fun z hz y hy => ?_, by rw [List.length_set]; exact o.wl, o.wn, o.wc, o.f0, by rw [List.length_set]; exact o.f1⟩, eqM_f (.inr (.inl fun e => ?_))⟩
  · rcases List.mem_or_eq_of_mem_set hz with h | h
    · exact o.ln z h
    · rw [h, List.length_set]
      exact o.ln _ (List.getElem_mem hi)
  · rw [List.length_set]
    rcases List.mem_or_eq_of_mem_set hz with h | h
    · exact o.go z h y hy
    · rw [h] at hy
      rcases List.mem_or_eq_of_mem_set hy with h2 | h2
      · exact o.go _ (List.getElem_mem hi) y h2
      · rw [h2]
        exact ⟨v0, v1⟩
  · have h1 := congrArg (fun l : List (List Int) => l[i]?) e
    simp only [List.getElem?_eq_getElem hi, List.getElem?_set_self hi] at h1
    have h2 := Option.some.inj h1
    have h3 := congrArg (fun l : List Int => l[p]?) h2
    simp only [List.getElem?_eq_getElem hp, List.getElem?_set_self hp] at h3
    exact ne (Option.some.inj h3).symm
theorem ch_first (g : GoodM sg st wo f) {v : Int} (v0 : 0 ≤ v) (v1 : v < (st.length : Int)) (ne : v ≠ f) : ChOk sg st wo f (sg, st, wo, v) := by
  have o := g.ok
  exact ⟨⟨o.sB, o.oc, o.sl, o.s0, o.s60, o.ln, o.go, o.wl, o.wn, o.wc, v0, v1⟩, eqM_f (.inr (.inr (.inr (Ne.symm ne))))⟩
end
/-- one further, round -/
theorem round_ne {x m : Int} (h0 : 0 ≤ x) (h1 : x < m) (hm : 1 < m) : 0 ≤ (x + 1) % m ∧ (x + 1) % m < m ∧ (x + 1) % m ≠ x := by
  refine ⟨Int.emod_nonneg _ (by omega), Int.emod_lt_of_pos _ (by omega), ?_⟩
  by_cases e : x + 1 = m
  · rw [e, Int.emod_self]
    omega
  · rw [Int.emod_eq_of_lt (by omega) (by omega)]
    omega
end Tw

set_option Elab.async false
set_option linter.all false
set_option maxRecDepth 100000
set_option maxHeartbeats 4000000
/-! k35: _law_changed. -/
namespace Tw
open PySem PySem.Spec PyProof.Rows L2 LamX DL
abbrev sChg : Stmt := top 28
theorem vr_ltS {K : PySem.W.Frag} {T : List (Addr × Str)} {w : Wp} {κ : D → Wp → Prop} {a b : Str} (k : κ (B (decide (cl a < cl b))) w) : VR2 K T (fun x y H Q => ∃ i j, x = .str i ∧ y = .str j ∧ Q (.bl (decide (i.cps.toList < j.cps.toList))) H) (DL.T a) (DL.T b) w κ := fun F S H x y Q hW r1 r2 hK =>
  ⟨a, b, r1, r2, hK _ w _ S H k (Same.refl _) hW rfl⟩
def spChg : SpD := fun ds w κ χ => ∃ (a : Addr) (b : Bg) (sg : Str) (st : List (List Int)) (wo : List (List Str)) (f : Int), ds = [R a, partD sg st wo f] ∧ BgAt w a b ∧ BgOk b ∧ GoodM sg st wo f ∧
  ∀ (cs : List Pts) (b' : Bg), BgOk b' → cs.length ≤ 20 → (∀ c ∈ cs, ChOk sg st wo f c) → κ (.lst (cs.map ptD)) (bgPut w a b')
section
variable {P : Program} {w : PySem.World} {K : PySem.W.Frag} {mg : Str → Option Value} {base : Heap} {T : List (Addr × Str)}
def NChg : List Str := ["bag", "parts", "signs", "steps", "words", "first", "count", "found", "state", "place", "other", "goals"]
theorem scChg : FnScope NChg ["bag", "parts"] (defScope sChg) := ⟨rfl, rfl, rfl, by decide +kernel, rfl, by decide +kernel, by decide +kernel⟩
theorem ok_chg {f : Addr} {fd : FuncData} (G : Fun K "_law_changed" "_law_changed" sChg f fd) (hm : Nm35 mg) (hC : HasF P w K mg base T CX0 "_law_copy" 1 ["lines"] spCpyO) (hT : HasF P w K mg base T CX0 "_law_take" 1 ["bag", "size"] spTake) : FnOk P w K mg base CX0 2 f fd ["bag", "parts"] (spOf K T spChg) := by
  refine fnD G scChg (fun ds w κ χ h => ?_) (fun cdv A outer s H E ds w0 κ χ hr h => ?_)
  · obtain ⟨a, b, sg, st, wo, fi, rfl, _⟩ := h
    rfl
  obtain ⟨a, b, sg, st, wo, fi, rfl, hb, ok, g, k⟩ := h
  have nd := scChg.nd
  have n26 := g.gs.n26
  have l40 := g.gs.l40
  have l0 := g.gs.l0
  have wl := g.gw.le
  have f0 := g.f0
  have f1 := g.f1
  have ll : (cl sg).length = sg.length := Array.length_toList
  have e0 := bg_id hb
  refine pssd_cons (psd_asgT ?_)
  refine pd_var (i := 1) rfl rfl ?_
  refine pgd_unl4 rfl ?_
  refine pgd_name (i := 2) nd rfl ?_
  refine pgd_name (i := 3) nd rfl ?_
  refine pgd_name (i := 4) nd rfl ?_
  refine pgd_name (i := 5) nd rfl ?_
  refine pssd_cons (psd_set (i := 6) nd rfl ?_)
  refine pd_callB call_len_seq rfl hm.len PySem.boot_len ?_
  (refine pad_cons ?_; refine pd_var (i := 3) rfl rfl ?_)
  refine pad_nil ?_
  refine va_len ?_
  rw [List.length_map]
  have g0 : st[0]? = some st[0] := List.getElem?_eq_getElem l0
  have h0 : wo[0]? = some (wo[0]'(by omega)) := List.getElem?_eq_getElem (by omega)
  refine pssd_cons (psd_set (i := 7) nd rfl ?_)
  refine pd_lstO ?_
  refine pad_cons ?_
  refine pd_lst ?_
  (refine pad_cons ?_; refine pd_var (i := 2) rfl rfl ?_)
  refine pad_cons ?_
  refine pd_op op_cat ?_
  refine pd_var (i := 3) rfl rfl ?_
  refine pd_lst ?_
  refine pad_cons ?_
  refine pd_callTy call_list_of rfl hm.list bt_listC ?_
  refine pad_cons ?_
  refine pd_ix ix_list ?_
  refine pd_var (i := 3) rfl rfl ?_
  refine pd_int ?_
  refine vr_ixL (i := 0) (d := .lst (st[0].map I)) (by rw [List.getElem?_map, g0]; rfl) ?_
  refine pad_nil ?_
  refine va_listS ?_
  refine pad_nil ⟨by show 1 ≤ sizeLine; decide, ?_⟩
  refine vr_cat (by rw [List.length_map, sizeLine_eq]; simp; omega) ?_
  refine pad_cons ?_
  refine pd_op op_cat ?_
  refine pd_var (i := 4) rfl rfl ?_
  refine pd_lst ?_
  refine pad_cons ?_
  refine pd_callTy call_list_of rfl hm.list bt_listC ?_
  refine pad_cons ?_
  refine pd_ix ix_list ?_
  refine pd_var (i := 4) rfl rfl ?_
  refine pd_int ?_
  refine vr_ixL (i := 0) (d := .lst ((wo[0]'(by omega)).map DL.T)) (by rw [List.getElem?_map, h0]; rfl) ?_
  refine pad_nil ?_
  refine va_listS ?_
  refine pad_nil ⟨by show 1 ≤ sizeLine; decide, ?_⟩
  refine vr_cat (by rw [List.length_map, sizeLine_eq]; simp; omega) ?_
  (refine pad_cons ?_; refine pd_var (i := 5) rfl rfl ?_)
  refine pad_nil ⟨by show 4 ≤ sizeLine; decide, ?_⟩
  refine pad_nil ⟨by show 1 ≤ sizeLine; decide, fun af naf => ?_⟩
  have ec : D.lst [DL.T sg, D.lst ((st.map fun x => D.lst (x.map I)) ++ [D.lst (st[0].map I)]), D.lst ((wo.map fun x => D.lst (x.map DL.T)) ++ [D.lst ((wo[0]'(by omega)).map DL.T)]), I fi] = ptD (sg, st ++ [st[0]], wo ++ [wo[0]'(by omega)], fi) := by
    show _ = D.lst [DL.T sg, stD (st ++ [st[0]]), woD (wo ++ [wo[0]'(by omega)]), I fi]
    unfold stD woD
    rw [List.map_append, List.map_append]
    rfl
  rw [ec]
  have c0 : ChOk sg st wo fi (sg, st ++ [st[0]], wo ++ [wo[0]'(by omega)], fi) := ch_more g (List.getElem_mem _) (List.getElem_mem _)
  generalize (sg, st ++ [st[0]], wo ++ [wo[0]'(by omega)], fi) = p0 at c0
  have F0 : F1 w0 (wu w0 af (.lst [ptD p0])) a af b (([p0] : List Pts).map ptD) := by
    have n2 : bgPut w0 a b af = none := by rw [e0]; exact naf
    have := F1.new (x1 := ([p0] : List Pts).map ptD) n2
    rw [e0] at this
    exact this
  generalize wu w0 af (.lst [ptD p0]) = w1 at F0
  refine pssd_as [some (R a), some (partD sg st wo fi), some (DL.T sg), some (stD st), some (woD wo), some (I fi), some (I (st.length : Int)), some (R af), none, none, none, none] rfl ?_
  -- the last two statements
  have fin : ∀ (cs : List Pts) (q : Bg) (w' : Wp) (x8 x9 x10 x11 : Option D), F1 w0 w' a af q (cs.map ptD) → BgOk q → cs.length ≤ 10 → (∀ c ∈ cs, ChOk sg st wo fi c) → PSsD (cxOf CX0 P w K mg base NChg "_law_changed" (defScope sChg) f cdv A outer s H E).nox T Wf noX ((defBody sChg).drop 4)
      [some (R a), some (partD sg st wo fi), some (DL.T sg), some (stD st), some (woD wo), some (I fi), some (I (st.length : Int)), some (R af), x8, x9, x10, x11] w' { nx := fun _ w' => κ DL.N w', rt := κ } := by
    intro cs q w' x8 x9 x10 x11 F hq hl hall
    refine pssd_cons (psd_if ?_)
    refine ptd_cmp op_gt ?_
    refine pd_var (i := 6) rfl rfl ?_
    refine pd_int ?_
    refine vr_I ⟨_, rfl, ?_⟩
    by_cases m1 : (st.length : Int) > 1
    case neg =>
      rw [decide_eq_false m1]
      refine iteF ?_
      refine pssd_nil ?_
      refine pssd_freeze 7 rfl F.h1 ?_
      rw [F.out]
      refine pssd_one (psd_ret ?_)
      refine pd_var (i := 7) rfl rfl ?_
      exact k cs q hq (by omega) hall
    rw [decide_eq_true m1]
    refine iteT ?_
    refine pssd_one (psd_expr ?_)
    (refine pd_bm PySem.F.plainAttrs_list PySem.F.slot_list_append PySem.F.type_list_append mt_append ?_; refine pd_var (i := 7) rfl rfl ?_)
    refine ⟨⟨rfl, _, F.h1⟩, ?_⟩
    refine pad_cons ?_
    refine pd_lst ?_
    (refine pad_cons ?_; refine pd_var (i := 2) rfl rfl ?_)
    (refine pad_cons ?_; refine pd_var (i := 3) rfl rfl ?_)
    (refine pad_cons ?_; refine pd_var (i := 4) rfl rfl ?_)
    refine pad_cons ?_
    refine pd_op op_mod ?_
    refine pd_callTy call_int1 rfl hm.int PyProof.Rows.boot_int ?_
    refine pad_cons ?_
    refine pd_op op_add ?_
    refine pd_var (i := 5) rfl rfl ?_
    refine pd_int ?_
    refine vr_I ?_
    refine pad_nil ?_
    refine va_int ?_
    refine pd_var (i := 6) rfl rfl ?_
    refine vr_IC (by omega) ?_
    refine pad_nil ⟨by show 4 ≤ sizeLine; decide, ?_⟩
    refine pad_nil ?_
    refine vm_append F.h1 (by rw [List.length_map, sizeLine_eq]; omega) ?_
    obtain ⟨r1, r2, r3⟩ := round_ne f0 f1 m1
    have F2 := F.set ((cs ++ [(sg, st, wo, (fi + 1) % (st.length : Int))]).map ptD)
    have e1 : cs.map ptD ++ [D.lst [DL.T sg, stD st, woD wo, I ((fi + 1) % (st.length : Int))]] = (cs ++ [(sg, st, wo, (fi + 1) % (st.length : Int))]).map ptD := by rw [List.map_append]; rfl
    rw [e1]
    refine pssd_freeze 7 rfl F2.h1 ?_
    rw [F2.out]
    refine pssd_one (psd_ret ?_)
    refine pd_var (i := 7) rfl rfl ?_
    refine k _ q hq (by rw [List.length_append]; simp; omega) fun c hc => ?_
    rcases List.mem_append.mp hc with h | h
    · exact hall c h
    · rw [List.mem_singleton.mp h]
      exact ch_first g r1 r2 r3
  refine pssd_cons (psd_if ?_)
  refine ptd_txt ?_
  refine pd_var (i := 2) rfl rfl ?_
  refine ⟨sg, rfl, by rw [sizeLine_eq]; omega, ?_⟩
  by_cases n0 : 0 < sg.length
  case neg =>
    rw [decide_eq_false n0]
    refine iteF ?_
    refine pssd_nil ?_
    exact fin [p0] b w1 _ _ _ _ F0 ok (by simp) fun c hc => by rw [List.mem_singleton.mp hc]; exact c0
  rw [decide_eq_true n0]
  refine iteT ?_
  refine pssd_cons (psd_set (i := 8) nd rfl ?_)
  refine pd_take hT hr (i := 0) rfl rfl F0.pa ok ?_
  refine pd_var (i := 6) rfl rfl ?_
  refine ⟨rfl, _, rfl, by omega, lg9' (by omega) (by omega), fun x b1 x0 x1 ok1 => ?_⟩
  obtain ⟨i, rfl⟩ := Int.eq_ofNat_of_zero_le x0
  have hi : i < st.length := by omega
  have F1' := F0.take b1
  generalize bgPut w1 a b1 = w2 at F1'
  refine pssd_cons (psd_set (i := 9) nd rfl ?_)
  refine pd_take hT hr (i := 0) rfl rfl F1'.pa ok1 ?_
  refine pd_callB call_len rfl hm.len PySem.boot_len ?_
  (refine pad_cons ?_; refine pd_var (i := 2) rfl rfl ?_)
  refine pad_nil ?_
  refine va_lenS (by rw [sizeLine_eq]; omega) ?_
  refine ⟨rfl, _, rfl, by omega, lg9' (by omega) (by omega), fun x b2 y0 y1 ok2 => ?_⟩
  obtain ⟨p, rfl⟩ := Int.eq_ofNat_of_zero_le y0
  have F2' := F1'.take b2
  generalize bgPut w2 a b2 = w3 at F2'
  have hiw : i < wo.length := by omega
  have lx := g.gs.ln _ (List.getElem_mem hi)
  have lw := g.gw.ln _ (List.getElem_mem hiw)
  have hp : p < st[i].length := by omega
  have hpw : p < wo[i].length := by omega
  have gi : st[i]? = some st[i] := List.getElem?_eq_getElem hi
  have wi : wo[i]? = some wo[i] := List.getElem?_eq_getElem hiw
  have wp : (wo[i].map DL.T)[p]? = some (DL.T wo[i][p]) := by rw [List.getElem?_map, List.getElem?_eq_getElem hpw]; rfl
  have sp : (st[i].map I)[p]? = some (I st[i][p]) := by rw [List.getElem?_map, List.getElem?_eq_getElem hp]; rfl
  have wlen := (g.gw.oc _ (List.getElem_mem hiw) _ (List.getElem_mem hpw)).1
  -- other
  refine pssd_cons (psd_set (i := 10) nd rfl ?_)
  refine pd_has hC hr (fun _ => pass0At) ?_
  (refine pad_cons ?_; refine pd_var (i := 4) rfl rfl ?_)
  refine pad_nil (cpy_woO (by omega) fun bs w4 aL c na => ?_)
  obtain ⟨bb, q1, q2, q3⟩ := c.row (j := i) (x := wo[i].map DL.T) (by rw [List.getElem?_map, wi]; rfl)
  refine pssd_cons (psd_sub set_list ?_)
  refine pd_op op_add_str ?_
  refine pd_ix ix_list ?_
  refine pd_ix ix_list ?_
  refine pd_var (i := 10) rfl rfl ?_
  refine pd_var (i := 8) rfl rfl ?_
  refine vr_ixO c.outer q1 ?_
  refine pd_var (i := 9) rfl rfl ?_
  refine vr_ixO q2 wp ?_
  refine pd_str ?_
  refine vr_addS (by rw [sizeLine_eq]; show wo[i][p].length + 1 ≤ _; omega) ?_
  refine pd_ix ix_list ?_
  refine pd_var (i := 10) rfl rfl ?_
  refine pd_var (i := 8) rfl rfl ?_
  refine vr_ixO c.outer q1 ?_
  refine pd_var (i := 9) rfl rfl ?_
  refine vr_setO (i := p) q2 (by rw [List.length_map]; exact hpw) ?_
  have e4 : (wo[i].map DL.T).set p (DL.T (wo[i][p] ++ "!")) = (wo[i].set p (wo[i][p] ++ "!")).map DL.T := by rw [List.map_set]
  rw [e4]
  have c6 := q3 ((wo[i].set p (wo[i][p] ++ "!")).map DL.T)
  rw [wo_set] at c6
  refine pssd_frzC 10 rfl c6 ?_
  rw [← wo_map]
  have k1 := ch_word g hiw hpw
  generalize wo.set i (wo[i].set p (wo[i][p] ++ "!")) = wo2 at k1
  refine pssd_cons (psd_expr ?_)
  (refine pd_bm PySem.F.plainAttrs_list PySem.F.slot_list_append PySem.F.type_list_append mt_append ?_; refine pd_var (i := 7) rfl rfl ?_)
  refine ⟨⟨rfl, _, F2'.h1⟩, ?_⟩
  refine pad_cons ?_
  refine pd_lst ?_
  (refine pad_cons ?_; refine pd_var (i := 2) rfl rfl ?_)
  (refine pad_cons ?_; refine pd_var (i := 3) rfl rfl ?_)
  (refine pad_cons ?_; refine pd_var (i := 10) rfl rfl ?_)
  (refine pad_cons ?_; refine pd_var (i := 5) rfl rfl ?_)
  refine pad_nil ⟨by show 4 ≤ sizeLine; decide, ?_⟩
  refine pad_nil ?_
  refine vm_append F2'.h1 (by show 1 < sizeLine; decide) ?_
  have F3 := F2'.set (([p0, (sg, st, wo2, fi)] : List Pts).map ptD)
  have e5 : ([p0] : List Pts).map ptD ++ [D.lst [DL.T sg, stD st, woD wo2, I fi]] = ([p0, (sg, st, wo2, fi)] : List Pts).map ptD := rfl
  rw [e5]
  generalize wu w3 af (.lst (([p0, (sg, st, wo2, fi)] : List Pts).map ptD)) = w5 at F3
  have two : ∀ c ∈ ([p0, (sg, st, wo2, fi)] : List Pts), ChOk sg st wo fi c := fun c hc => by
    simp only [List.mem_cons, List.not_mem_nil, or_false] at hc
    rcases hc with rfl | rfl
    · exact c0
    · exact k1
  refine pssd_as [some (R a), some (partD sg st wo fi), some (DL.T sg), some (stD st), some (woD wo), some (I fi), some (I (st.length : Int)), some (R af), some (I (i : Int)), some (I (p : Int)), some (woD wo2), none] rfl ?_
  -- signs
  have lastE : ∃ l c, cl sg = l ++ [c] := by
    cases e : cl sg with
    | nil =>
      rw [e] at ll
      have : sg.length = 0 := ll.symm
      omega
    | cons x l => exact ⟨_, _, (List.dropLast_concat_getLast (by simp)).symm⟩
  obtain ⟨l, c, el⟩ := lastE
  have cz : cl ("z" : Str) = [122] := by decide +kernel
  refine pssd_cons (psd_cut (fun δ' w' => ∃ cs : List Pts, δ' = [some (R a), some (partD sg st wo fi), some (DL.T sg), some (stD st), some (woD wo), some (I fi), some (I (st.length : Int)), some (R af), some (I (i : Int)), some (I (p : Int)), some (woD wo2), none] ∧ F1 w0 w' a af b2 (cs.map ptD) ∧ cs.length ≤ 5 ∧ ∀ c ∈ cs, ChOk sg st wo fi c) ?_ ?_)
  · refine psd_if ?_
    refine ptd_cmp op_lt_str ?_
    refine pd_ix ix_str ?_
    refine pd_var (i := 2) rfl rfl ?_
    refine pd_un un_neg ?_
    refine pd_int ?_
    refine vr_U ?_
    refine vr_ixSLast (by rw [sizeLine_eq]; omega) el ?_
    refine pd_str ?_
    refine vr_ltS ⟨_, rfl, ?_⟩
    have el2 : decide (cl (letS c) < cl ("z" : Str)) = decide (c < 122) := by
      rw [cz]
      exact one_lt c 122
    rw [show (⟨#[c]⟩ : Str) = letS c from rfl, el2]
    by_cases hc : c < 122
    case neg =>
      rw [decide_eq_false hc]
      refine iteF ?_
      exact pssd_nil ⟨_, rfl, F3, by simp, two⟩
    rw [decide_eq_true hc]
    refine iteT ?_
    refine pssd_one (psd_expr ?_)
    (refine pd_bm PySem.F.plainAttrs_list PySem.F.slot_list_append PySem.F.type_list_append mt_append ?_; refine pd_var (i := 7) rfl rfl ?_)
    refine ⟨⟨rfl, _, F3.h1⟩, ?_⟩
    refine pad_cons ?_
    refine pd_lst ?_
    refine pad_cons ?_
    refine pd_op op_add_str ?_
    refine pd_slTC ?_
    refine pd_var (i := 2) rfl rfl ?_
    refine pd_un un_neg ?_
    refine pd_int ?_
    refine vr_U ?_
    refine ⟨sg, -1, rfl, rfl, by rw [sizeLine_eq]; omega, ?_⟩
    refine pd_str ?_
    have el3 : cutS sg none (some (-1)) = toS l := by
      rw [cut_lastS, show sg.cps.toList = l ++ [c] from el, List.dropLast_concat]
    rw [el3]
    have l4 : (toS l).length ≤ 26 := by
      rw [toS_len]
      have := congrArg List.length el
      rw [ll, List.length_append] at this
      simp at this
      omega
    refine vr_addS (by rw [sizeLine_eq]; show (toS l).length + 1 ≤ _; omega) ?_
    (refine pad_cons ?_; refine pd_var (i := 3) rfl rfl ?_)
    (refine pad_cons ?_; refine pd_var (i := 4) rfl rfl ?_)
    (refine pad_cons ?_; refine pd_var (i := 5) rfl rfl ?_)
    refine pad_nil ⟨by show 4 ≤ sizeLine; decide, ?_⟩
    refine pad_nil ?_
    refine vm_append F3.h1 (by show 2 < sizeLine; decide) ?_
    refine ⟨[p0, (sg, st, wo2, fi), (toS l ++ "z", st, wo, fi)], rfl, F3.set _, by simp, fun c' hc' => ?_⟩
    simp only [List.mem_cons, List.not_mem_nil, or_false] at hc'
    rcases hc' with rfl | rfl | rfl
    · exact c0
    · exact k1
    · exact ch_sign g el hc
  rintro δ' w' ⟨cs, rfl, F4, cl5, call⟩
  -- goals
  refine pssd_cons (psd_set (i := 11) nd rfl ?_)
  refine pd_has hC hr (fun _ => pass0At) ?_
  (refine pad_cons ?_; refine pd_var (i := 3) rfl rfl ?_)
  refine pad_nil (cpy_stO (by omega) fun bs2 w6 aS d na2 => ?_)
  obtain ⟨bb2, t1, t2, t3⟩ := d.row (j := i) (x := st[i].map I) (by rw [List.getElem?_map, gi]; rfl)
  refine pssd_cons (psd_sub set_list ?_)
  refine pd_op op_mod ?_
  refine pd_callTy call_int1 rfl hm.int PyProof.Rows.boot_int ?_
  refine pad_cons ?_
  refine pd_op op_add ?_
  refine pd_ix ix_list ?_
  refine pd_ix ix_list ?_
  refine pd_var (i := 11) rfl rfl ?_
  refine pd_var (i := 8) rfl rfl ?_
  refine vr_ixO d.outer t1 ?_
  refine pd_var (i := 9) rfl rfl ?_
  refine vr_ixO t2 sp ?_
  refine pd_int ?_
  refine vr_I ?_
  refine pad_nil ?_
  refine va_int ?_
  refine pd_var (i := 6) rfl rfl ?_
  refine vr_IC (by omega) ?_
  refine pd_ix ix_list ?_
  refine pd_var (i := 11) rfl rfl ?_
  refine pd_var (i := 8) rfl rfl ?_
  refine vr_ixO d.outer t1 ?_
  refine pd_var (i := 9) rfl rfl ?_
  refine vr_setO (i := p) t2 (by rw [List.length_map]; exact hp) ?_
  have e6 : (st[i].map I).set p (I ((st[i][p] + 1) % (st.length : Int))) = (st[i].set p ((st[i][p] + 1) % (st.length : Int))).map I := by rw [List.map_set]
  have d6 := t3 ((st[i].set p ((st[i][p] + 1) % (st.length : Int))).map I)
  rw [st_set] at d6
  rw [← e6] at d6
  refine pssd_frzC 11 rfl d6 ?_
  rw [← st_map]
  have stp := g.gs.go _ (List.getElem_mem hi) _ (List.getElem_mem hp)
  have k2 : (st.length : Int) > 1 → ChOk sg st wo fi (sg, st.set i (st[i].set p ((st[i][p] + 1) % (st.length : Int))), wo, fi) := fun m1 => by
    obtain ⟨r1, r2, r3⟩ := round_ne stp.1 stp.2 m1
    exact ch_step g hi hp r1 r2 r3
  generalize st.set i (st[i].set p ((st[i][p] + 1) % (st.length : Int))) = st2 at k2
  refine pssd_one (psd_if ?_)
  refine ptd_cmp op_gt ?_
  refine pd_var (i := 6) rfl rfl ?_
  refine pd_int ?_
  refine vr_I ⟨_, rfl, ?_⟩
  by_cases m1 : (st.length : Int) > 1
  case neg =>
    rw [decide_eq_false m1]
    refine iteF ?_
    refine pssd_nil ?_
    exact fin cs b2 w' _ _ _ _ F4 ok2 (by omega) call
  rw [decide_eq_true m1]
  refine iteT ?_
  refine pssd_one (psd_expr ?_)
  (refine pd_bm PySem.F.plainAttrs_list PySem.F.slot_list_append PySem.F.type_list_append mt_append ?_; refine pd_var (i := 7) rfl rfl ?_)
  refine ⟨⟨rfl, _, F4.h1⟩, ?_⟩
  refine pad_cons ?_
  refine pd_lst ?_
  (refine pad_cons ?_; refine pd_var (i := 2) rfl rfl ?_)
  (refine pad_cons ?_; refine pd_var (i := 11) rfl rfl ?_)
  (refine pad_cons ?_; refine pd_var (i := 4) rfl rfl ?_)
  (refine pad_cons ?_; refine pd_var (i := 5) rfl rfl ?_)
  refine pad_nil ⟨by show 4 ≤ sizeLine; decide, ?_⟩
  refine pad_nil ?_
  refine vm_append F4.h1 (by rw [List.length_map, sizeLine_eq]; omega) ?_
  have e7 : cs.map ptD ++ [D.lst [DL.T sg, stD st2, woD wo, I fi]] = (cs ++ [(sg, st2, wo, fi)]).map ptD := by rw [List.map_append]; rfl
  rw [e7]
  refine fin (cs ++ [(sg, st2, wo, fi)]) b2 _ _ _ _ _ (F4.set _) ok2 (by rw [List.length_append]; simp; omega) fun c' hc' => ?_
  rcases List.mem_append.mp hc' with h | h
  · exact call c' h
  · rw [List.mem_singleton.mp h]
    exact k2 m1
end
end Tw

set_option Elab.async false
set_option linter.all false
set_option maxRecDepth 100000
set_option maxHeartbeats 4000000
/-! k35: _law_equal_good. -/
namespace Tw
open PySem PySem.Spec PyProof.Rows L2 LamX DL
abbrev sEqg : Stmt := top 29
def spEqg (C : Addr) : SpD := fun ds w κ χ => ∃ (a : Addr) (b : Bg) (sg : Str) (st : List (List Int)) (wo : List (List Str)) (f : Int), ds = [R a, mchD C sg st wo f, partD sg st wo f] ∧ BgAt w a b ∧ BgOk b ∧ GoodM sg st wo f ∧ ∀ b' : Bg, BgOk b' → κ (B true) (bgPut w a b')
theorem eqM_refl {sg : Str} {st : List (List Int)} {wo : List (List Str)} {f : Int} : eqM sg st wo f sg st wo f = true := by
  unfold eqM
  rw [decide_eq_true rfl, decide_eq_true rfl, decide_eq_true rfl, decide_eq_true rfl]
  rfl
section
variable {P : Program} {w : PySem.World} {K : PySem.W.Frag} {mg : Str → Option Value} {base : Heap} {T : List (Addr × Str)} {C : Addr}
def NEqg : List Str := ["bag", "machine", "parts", "twin", "changed", "other", "nothing"]
theorem scEqg : FnScope NEqg ["bag", "machine", "parts"] (defScope sEqg) := ⟨rfl, rfl, rfl, by decide +kernel, rfl, by decide +kernel, by decide +kernel⟩
theorem ok_eqg {f : Addr} {fd : FuncData} (G : Fun K "_law_equal_good" "_law_equal_good" sEqg f fd) (q : MchQ K C) (hMk : HasF P w K mg base T CX0 "_law_machine" 6 ["parts"] (spLM C)) (hCh : HasF P w K mg base T CX0 "_law_changed" 2 ["bag", "parts"] spChg) (hIs : HasG P w K mg base T CX0 "_law_is" 3 ["machine", "parts"] (spLIs C))
    (hE : HasEq P w K mg base T C "__eq__" 1 (spMEq C)) (hN : HasEq P w K mg base T C "__ne__" 2 (spMNe C)) : FnG P w K mg base CX0 7 f fd ["bag", "machine", "parts"] (spOf K T (spEqg C)) := by
  refine fnGD G scEqg (fun ds w κ χ h => ?_) (fun cdv A outer s H E ds w0 κ χ hA hr h => ?_)
  · obtain ⟨a, b, sg, st, wo, fi, rfl, _⟩ := h
    rfl
  obtain ⟨a, b, sg, st, wo, fi, rfl, hb, ok, g, k⟩ := h
  obtain ⟨fE, fdE, e1, e2, e3, e4⟩ := hE
  obtain ⟨fN, fdN, y1, y2, y3, y4⟩ := hN
  have nd := scEqg.nd
  have o := g.ok
  refine pssd_cons (psd_set (i := 3) nd rfl ?_)
  refine pd_has hMk hr (fun _ => pass0At) ?_
  (refine pad_cons ?_; refine pd_var (i := 2) rfl rfl ?_)
  refine pad_nil ⟨sg, st, wo, fi, rfl, o.pre, o.fault, ?_⟩
  refine pssd_cons (psd_if ?_)
  refine pwd_pt ?_
  refine pwd_or ?_
  refine ptd_not ?_
  refine ptd_cmp (op_own (op := .Eq) (fun _ _ => rfl) e1 (hr.mono (by decide)) e2 e3 e4) ?_
  refine pd_var (i := 1) rfl rfl ?_
  refine pd_var (i := 3) rfl rfl ?_
  refine vr_own (t := .ref C) ⟨_, _, rfl⟩ (.inr ⟨C, _, _, rfl, q.ci, rfl⟩) q.nfC ?_
  refine ⟨sg, st, wo, fi, _, rfl, o.ocw, .inl ⟨sg, st, wo, fi, rfl, o.ocw, _, rfl, _, rfl, ?_⟩⟩
  rw [eqM_refl]
  refine iteF ?_
  refine pwd_or1 ?_
  refine ptd_cmp (op_own (op := .NotEq) (fun _ _ => rfl) y1 (hr.mono (by decide)) y2 y3 y4) ?_
  refine pd_var (i := 1) rfl rfl ?_
  refine pd_var (i := 3) rfl rfl ?_
  refine vr_own (t := .ref C) ⟨_, _, rfl⟩ (.inr ⟨C, _, _, rfl, q.ci, rfl⟩) q.nfC ?_
  refine ⟨sg, st, wo, fi, _, rfl, o.ocw, .inl ⟨sg, st, wo, fi, rfl, o.ocw, _, rfl, _, rfl, ?_⟩⟩
  rw [eqM_refl]
  refine iteF ?_
  refine pssd_nil ?_
  refine pssd_cons (psd_for PassesOwn.never rfl ?_)
  refine it_list ?_
  refine pd_has hCh (hr.mono (by decide)) (fun _ => pass0At) ?_
  (refine pad_cons ?_; refine pd_var (i := 0) rfl rfl ?_)
  (refine pad_cons ?_; refine pd_var (i := 2) rfl rfl ?_)
  refine pad_nil ⟨a, b, sg, st, wo, fi, rfl, hb, ok, g, fun cs b1 ok1 cl20 call => ?_⟩
  refine ⟨_, rfl, fun i δ' w' => ∃ x4 x5 : Option D, δ' = [some (R a), some (mchD C sg st wo fi), some (partD sg st wo fi), some (mchD C sg st wo fi), x4, x5, none] ∧ w' = bgPut w0 a b1, ⟨none, none, rfl, rfl⟩, ?_, ?_⟩
  · rintro i d δ' w' hd ⟨x4, x5, rfl, rfl⟩
    rw [List.getElem?_map] at hd
    cases ev : cs[i]? with
    | none =>
      rw [ev] at hd
      cases hd
    | some c =>
      rw [ev] at hd
      cases hd
      obtain ⟨o2, ne⟩ := call c (List.mem_of_getElem? ev)
      obtain ⟨sg2, st2, wo2, fi2⟩ := c
      refine pgd_name (i := 4) nd rfl ?_
      refine pssd_cons (psd_set (i := 5) nd rfl ?_)
      refine pd_has hMk hr (fun _ => pass0At) ?_
      (refine pad_cons ?_; refine pd_var (i := 4) rfl rfl ?_)
      refine pad_nil ⟨sg2, st2, wo2, fi2, rfl, o2.pre, o2.fault, ?_⟩
      refine pssd_one (psd_if ?_)
      refine pwd_pt ?_
      refine pwd_or ?_
      refine ptd_cmp (op_own (op := .Eq) (fun _ _ => rfl) e1 (hr.mono (by decide)) e2 e3 e4) ?_
      refine pd_var (i := 1) rfl rfl ?_
      refine pd_var (i := 5) rfl rfl ?_
      refine vr_own (t := .ref C) ⟨_, _, rfl⟩ (.inr ⟨C, _, _, rfl, q.ci, rfl⟩) q.nfC ?_
      refine ⟨sg, st, wo, fi, _, rfl, o.ocw, .inl ⟨sg2, st2, wo2, fi2, rfl, o2.ocw, _, rfl, _, rfl, ?_⟩⟩
      rw [ne]
      refine iteF ?_
      refine pwd_or ?_
      refine ptd_not ?_
      refine ptd_cmp (op_own (op := .NotEq) (fun _ _ => rfl) y1 (hr.mono (by decide)) y2 y3 y4) ?_
      refine pd_var (i := 1) rfl rfl ?_
      refine pd_var (i := 5) rfl rfl ?_
      refine vr_own (t := .ref C) ⟨_, _, rfl⟩ (.inr ⟨C, _, _, rfl, q.ci, rfl⟩) q.nfC ?_
      refine ⟨sg, st, wo, fi, _, rfl, o.ocw, .inl ⟨sg2, st2, wo2, fi2, rfl, o2.ocw, _, rfl, _, rfl, ?_⟩⟩
      rw [ne]
      refine iteF ?_
      refine pwd_or1 ?_
      refine ptd_not ?_
      refine ptd_val ?_
      refine pd_hasG hIs hA (hr.mono (by decide)) (fun _ => pass0At) ?_
      (refine pad_cons ?_; refine pd_var (i := 5) rfl rfl ?_)
      (refine pad_cons ?_; refine pd_var (i := 4) rfl rfl ?_)
      refine pad_nil ⟨sg2, st2, wo2, fi2, rfl, o2.rp, ?_⟩
      refine ⟨_, rfl, ?_⟩
      refine iteF ?_
      exact pssd_nil ⟨_, _, rfl, rfl⟩
  rintro δ' w' ⟨x4, x5, rfl, rfl⟩
  refine pssd_cons (psd_set (i := 6) nd rfl ?_)
  refine pd_non ?_
  refine pssd_one (psd_ret ?_)
  refine pd_and ?_
  refine pd_not ?_
  refine pd_cmp (op_own (op := .Eq) (fun _ _ => rfl) e1 (hr.mono (by decide)) e2 e3 e4) ?_
  refine pd_var (i := 1) rfl rfl ?_
  refine pd_var (i := 6) rfl rfl ?_
  refine vr_own (t := .type "NoneType") ⟨_, _, rfl⟩ (.inl ⟨"NoneType", rfl, rfl⟩) (q.nf _ (.inr (.inl rfl))) ?_
  refine ⟨sg, st, wo, fi, _, rfl, o.ocw, .inr ⟨"NoneType", rfl, .inr (.inl rfl), _, rfl, _, rfl, _, rfl, ?_⟩⟩
  refine iteT ?_
  refine pd_and ?_
  refine pd_cmp (op_own (op := .NotEq) (fun _ _ => rfl) y1 (hr.mono (by decide)) y2 y3 y4) ?_
  refine pd_var (i := 1) rfl rfl ?_
  (refine pd_ix ix_list ?_; refine pd_var (i := 2) rfl rfl ?_; refine pd_int ?_; refine vr_ixL (i := 0) rfl ?_)
  refine vr_own (t := .type "str") ⟨_, _, rfl⟩ (.inl ⟨"str", rfl, rfl⟩) (q.nf _ (.inr (.inr (.inr rfl)))) ?_
  refine ⟨sg, st, wo, fi, _, rfl, o.ocw, .inr ⟨"str", rfl, .inr (.inr (.inr rfl)), _, rfl, _, rfl, ?_⟩⟩
  refine iteT ?_
  refine pd_and ?_
  refine pd_cmp (op_own (op := .NotEq) (fun _ _ => rfl) y1 (hr.mono (by decide)) y2 y3 y4) ?_
  refine pd_var (i := 1) rfl rfl ?_
  refine pd_var (i := 2) rfl rfl ?_
  refine vr_own (t := .type "list") ⟨_, _, rfl⟩ (.inl ⟨"list", rfl, rfl⟩) (q.nf _ (.inl rfl)) ?_
  refine ⟨sg, st, wo, fi, _, rfl, o.ocw, .inr ⟨"list", rfl, .inl rfl, _, rfl, _, rfl, ?_⟩⟩
  refine iteT ?_
  refine pd_one ?_
  refine pd_not ?_
  refine pd_cmp (op_own (op := .Eq) (fun _ _ => rfl) e1 (hr.mono (by decide)) e2 e3 e4) ?_
  refine pd_var (i := 1) rfl rfl ?_
  (refine pd_ix ix_list ?_; refine pd_var (i := 2) rfl rfl ?_; refine pd_int ?_; refine vr_ixL (i := 3) rfl ?_)
  refine vr_own (t := .type "int") ⟨_, _, rfl⟩ (.inl ⟨"int", rfl, rfl⟩) (q.nf _ (.inr (.inr (.inl rfl)))) ?_
  refine ⟨sg, st, wo, fi, _, rfl, o.ocw, .inr ⟨"int", rfl, .inr (.inr (.inl rfl)), _, rfl, _, rfl, ?_⟩⟩
  exact k b1 ok1
end
end Tw

set_option Elab.async false
set_option linter.all false
set_option maxRecDepth 100000
set_option maxHeartbeats 4000000
/-! k35: _law_unknown. -/
namespace Tw
open PySem PySem.Spec PyProof.Rows L2 LamX DL
abbrev sUnk : Stmt := top 30
def spUnk (C : Addr) : SpD := fun ds w κ χ => ∃ (sg : Str) (st : List (List Int)) (wo : List (List Str)) (f : Nat) (row : Str) (way : Int) (i c : Nat), ds = [mchD C sg st wo (f : Int), I way, DL.T row] ∧ MRow sg st wo f row ∧ BadAt sg row i c ∧ κ (.tup [DL.T (letS c), I (i : Int)]) w
def XUd (CU : Addr) (w : Wp) (i c : Nat) : XD := fun C0 ns ds w' => C0 = CU ∧ ns = (["place", "sign"] : List Str) ∧ ds = [I (i : Int), DL.T (letS c)] ∧ w' = w
theorem BadAt.uniq {sg row : Str} {i c j d : Nat} (h : BadAt sg row i c) (k : BadAt sg row j d) : i = j ∧ c = d := by
  obtain ⟨h1, h2, h3⟩ := h
  obtain ⟨k1, k2, k3⟩ := k
  have e : i = j := by
    rcases Nat.lt_trichotomy i j with l | l | l
    · exact absurd (k3 i c l h1) h2
    · exact l
    · exact absurd (h3 j d l k1) k2
  subst e
  rw [h1] at k1
  exact ⟨rfl, Option.some.inj k1⟩
/-- an instance that is called -/
def HasCl (P : Program) (w : PySem.World) (K : PySem.W.Frag) (mg : Str → Option Value) (base : Heap) (T : List (Addr × Str)) (CX : CXT) (C : Addr) (k : Nat) (ps : List Str) (sp : SpD) : Prop :=
  ∃ g fd, FnOk P w K mg base CX k g fd ps (spOf K T sp) ∧ StX.CallO K C g ∧ L2.Binds K fd ps []
section
variable {P : Program} {w : PySem.World} {K : PySem.W.Frag} {mg : Str → Option Value} {base : Heap} {T : List (Addr × Str)} {C CU CB CT : Addr}
def NUnk : List Str := ["machine", "way", "row", "e"]
theorem scUnk : FnScope NUnk ["machine", "way", "row"] (defScope sUnk) := ⟨rfl, rfl, rfl, by decide +kernel, rfl, by decide +kernel, by decide +kernel⟩
theorem ok_unk {f : Addr} {fd : FuncData} (G : Fun K "_law_unknown" "_law_unknown" sUnk f fd) (hm : Nm35 mg) (cM : MchC K C) (er : ErrM K mg CT CU CB) (hCl : HasCl P w K mg base T (L2N.CX P w) C 5 ["self", "row"] (spMCal C CU)) (hAf : HasM P w K mg base T (L2N.CX P w) C "after" 5 ["self", "row"] (spMAft C CU)) : FnOk P w K mg base CX0 6 f fd ["machine", "way", "row"] (spOf K T (spUnk C)) := by
  refine fnD G scUnk (fun ds w κ χ h => ?_) (fun cdv A outer s H E ds w0 κ χ hr h => ?_)
  · obtain ⟨sg, st, wo, fi, row, way, i, c, rfl, _⟩ := h
    rfl
  obtain ⟨sg, st, wo, fi, row, way, i, c, rfl, hM, hB, k⟩ := h
  obtain ⟨g, fdg, g1, g2, g3⟩ := hCl
  have nd := scUnk.nd
  have no : ¬ ∀ d ∈ cl row, d ∈ cl sg := fun z => hB.2.1 (z c (List.mem_of_getElem? hB.1))
  refine pssd_cons ?_
  refine psd_tryN (χ := XUd CU w0 i c) (i := 3) (C1 := CU) rfl rfl nd takesN0 ⟨rfl, by decide, .inl er.mU⟩ rfl rfl (fun W' pn xe tk => ?_) (fun C0 ns ds w' hx => ?_)
  · refine pssd_one (psd_if ?_)
    refine ptd_cmp op_eq ?_
    refine pd_var (i := 1) rfl rfl ?_
    refine pd_int ?_
    refine vr_eq rfl ⟨_, rfl, ?_⟩
    refine ite2 (fun _ => ?_) (fun _ => ?_)
    · refine pssd_one (psd_expr ?_)
      refine pd_callI g2 g1 hr g3 (fun σ => L2N.passAt tk σ) ?_
      refine pd_var (i := 0) rfl rfl ?_
      refine ⟨⟨_, _, rfl⟩, ?_⟩
      (refine pad_cons ?_; refine pd_var (i := 2) rfl rfl ?_)
      refine pad_nil ⟨sg, st, wo, fi, row, rfl, hM, fun z => absurd z no, fun j d hj => ?_⟩
      obtain ⟨rfl, rfl⟩ := hB.uniq hj
      exact ⟨rfl, rfl, rfl, rfl⟩
    · refine pssd_one (psd_expr ?_)
      refine pd_hasm cM.cl hAf hr (fun σ => L2N.passAt tk σ) ?_
      refine pd_var (i := 0) rfl rfl ?_
      refine ⟨ins_m (by decide +kernel), ?_⟩
      (refine pad_cons ?_; refine pd_var (i := 2) rfl rfl ?_)
      refine pad_nil ⟨sg, st, wo, fi, row, rfl, hM, fun z => absurd z no, fun j d hj => ?_⟩
      obtain ⟨rfl, rfl⟩ := hB.uniq hj
      exact ⟨rfl, rfl, rfl, rfl⟩
  · obtain ⟨rfl, rfl, rfl, rfl⟩ := hx
    refine ⟨er.exU, fun a dd oe pn hz hf2 => ?_⟩
    refine pssd_cons (psd_if ?_)
    refine pwd_pt ?_
    refine pwd_or ?_
    refine ptd_val ?_
    (refine pd_callB (call_isX er.eU hz.zc hf2) rfl hm.isinstance PyProof.Rows.boot_isinstance ?_; refine pad_cons ?_; refine pd_var (i := 3) rfl rfl ?_; refine pad_cons ?_; refine pd_glob (v := .ref CB) er.mB rfl ?_; refine pad_nil ?_; refine va_isX rel_ref er.uB ?_)
    refine ⟨_, rfl, ?_⟩
    refine iteF ?_
    refine pwd_or ?_
    refine ptd_not ?_
    refine ptd_val ?_
    (refine pd_callB (call_isX er.eU hz.zc hf2) rfl hm.isinstance PyProof.Rows.boot_isinstance ?_; refine pad_cons ?_; refine pd_var (i := 3) rfl rfl ?_; refine pad_cons ?_; refine pd_glob (v := .ref CT) er.mT rfl ?_; refine pad_nil ?_; refine va_isX rel_ref er.uT ?_)
    refine ⟨_, rfl, ?_⟩
    refine iteF ?_
    refine pwd_or1 ?_
    refine ptd_not ?_
    refine ptd_val ?_
    (refine pd_callB (call_isX er.eU hz.zc hf2) rfl hm.isinstance PyProof.Rows.boot_isinstance ?_; refine pad_cons ?_; refine pd_var (i := 3) rfl rfl ?_; refine pad_cons ?_; refine pd_bltn (v := .ty "ValueError") er.mV bt_ve rfl ?_; refine pad_nil ?_; refine va_isX rel_ty er.uV ?_)
    refine ⟨_, rfl, ?_⟩
    refine iteF ?_
    refine pssd_nil ?_
    refine pssd_one (psd_ret ?_)
    refine pd_tup ?_
    refine pad_cons ?_
    refine pd_xf (ns := ["place", "sign"]) (ds := [I (i : Int), DL.T (letS c)]) er.xU er.nS hz.zc hf2 ?_
    refine pd_var (i := 3) rfl rfl ?_
    refine ⟨rfl, DL.T (letS c), rfl, ?_⟩
    refine pad_cons ?_
    refine pd_xf (ns := ["place", "sign"]) (ds := [I (i : Int), DL.T (letS c)]) er.xU er.nPl hz.zc hf2 ?_
    refine pd_var (i := 3) rfl rfl ?_
    refine ⟨rfl, I (i : Int), rfl, ?_⟩
    exact pad_nil ⟨by show 2 ≤ sizeLine; decide, k⟩
end
end Tw

set_option Elab.async false
set_option linter.all false
set_option maxRecDepth 100000
set_option maxHeartbeats 4000000
/-! k35: _law_rows_good. -/
namespace DL
open PySem PySem.Spec PyProof.Rows L2 LamX
/-- repr of a list that stands or is owned -/
theorem va_reprK {K : PySem.W.Frag} {T : List (Addr × Str)} {w : Wp} {κ : D → Wp → Prop} {d : D} {ds : List D} {ps : List PyData} (l : Lk w d ds) (hd : pyDs ds = some ps) (s : ShD (.list ps)) (k : κ (DL.T (PyData.shown (.list ps))) w) : VRA K T (rRepD K) [d] w κ := fun F S H xs Q hW r hK => by
  obtain ⟨x, ys, rfl, h1, h2⟩ := r
  have h2' : ys = [] := h2
  subst h2'
  obtain ⟨a, zs, rfl, h3, h4⟩ := l.at_ hW h1
  exact ⟨_, .list ps, rfl, .lst (SqL.of h3) (dp_all hW.same hd h4), s.sh, s.nd, s.dp, s.sz, hK _ w _ S H k (Same.refl _) hW rfl⟩
end DL
namespace Tw
open PySem PySem.Spec PyProof.Rows L2 LamX DL
abbrev sRwg : Stmt := top 31
/-- machine, parts, row, the row with a sign that is none -/
structure RwOk (sg : Str) (st : List (List Int)) (wo : List (List Str)) (f : Nat) (row spo : Str) (i c : Nat) : Prop where
  ok : OkM sg st wo (f : Int)
  r3 : row.length ≤ 300
  ri : ∀ c ∈ cl row, c ∈ cl sg
  s4 : spo.length ≤ 400
  so : Oc spo
  ba : BadAt sg spo i c
def spRwg (C : Addr) : SpD := fun ds w κ χ => ∃ (sg : Str) (st : List (List Int)) (wo : List (List Str)) (f : Nat) (row spo : Str) (i c : Nat), ds = [mchD C sg st wo (f : Int), partD sg st wo (f : Int), DL.T row, DL.T spo, I (i : Int)] ∧ RwOk sg st wo f row spo i c ∧ κ (B true) w
section
variable {sg : Str} {st : List (List Int)} {wo : List (List Str)} {f : Nat} {row : Str}
theorem OkM.pt (g : OkM sg st wo (f : Int)) : ∃ pool, PtOk sg.length st.length pool st wo ∧ f < st.length := by
  refine ⟨wo.flatten, ⟨rfl, g.wl, fun x hx => ⟨g.ln x hx, g.go x hx⟩, fun x hx => ⟨g.wn x hx, fun y hy => List.mem_flatten.mpr ⟨x, hx, hy⟩⟩⟩, ?_⟩
  have := g.f1
  omega
theorem OkM.mrow (g : OkM sg st wo (f : Int)) (h9 : row.length ≤ 900) (hc : Oc row) : MRow sg st wo f row := by
  obtain ⟨pool, h1, h2⟩ := g.pt
  have := g.s60
  exact ⟨⟨st.length, pool, h1, h2, by omega⟩, h9, hc⟩
/-- what a run tells: its words and its state -/
theorem run_words (g : OkM sg st wo (f : Int)) : ∀ {cs : List Nat}, (∀ c ∈ cs, c ∈ cl sg) → (runS sg st wo f cs).1.length = cs.length ∧ (∀ y ∈ (runS sg st wo f cs).1, y.length ≤ 60 ∧ Oc y) ∧ (runS sg st wo f cs).2 < st.length := by
  obtain ⟨pool, hP, hf⟩ := g.pt
  intro cs h
  refine ⟨?_, ?_, run_lt hP hf h⟩
  · have : ∀ (cs : List Nat) (s : Nat), (runS sg st wo s cs).1.length = cs.length := by
      intro cs
      induction cs with
      | nil => intro s; rfl
      | cons c cs ih =>
        intro s
        show ((runS sg st wo _ cs).1).length + 1 = cs.length + 1
        rw [ih]
    exact this cs f
  · have : ∀ (cs : List Nat) (s : Nat), s < st.length → (∀ c ∈ cs, c ∈ cl sg) → ∀ y ∈ (runS sg st wo s cs).1, y.length ≤ 60 ∧ Oc y := by
      intro cs
      induction cs with
      | nil => intro s _ _ y hy; cases hy
      | cons c cs ih =>
        intro s hs hc y hy
        have hw : s < wo.length := by rw [g.wl]; exact hs
        have ll : (cl sg).length = sg.length := Array.length_toList
        have lp : (cl sg).idxOf c < (cl sg).length := List.idxOf_lt_length_of_mem (hc c List.mem_cons_self)
        have hp : (cl sg).idxOf c < wo[s].length := by rw [g.wn _ (List.getElem_mem hw)]; omega
        have v1 : (wo.getD s []).getD ((cl sg).idxOf c) "" = wo[s][(cl sg).idxOf c] := by
          have e1 : wo.getD s [] = wo[s] := by
            rw [List.getD_eq_getElem?_getD, List.getElem?_eq_getElem hw]
            rfl
          rw [e1, List.getD_eq_getElem?_getD, List.getElem?_eq_getElem hp]
          rfl
        have hy' : y ∈ (wo.getD s []).getD ((cl sg).idxOf c) "" :: (runS sg st wo ((st.getD s []).getD ((cl sg).idxOf c) 0).toNat cs).1 := hy
        rcases List.mem_cons.mp hy' with q | q
        · rw [q, v1]
          exact g.wc _ (List.getElem_mem hw) _ (List.getElem_mem hp)
        · have nx := run_lt hP (cs := [c]) hs (fun d hd => by rw [List.mem_singleton.mp hd]; exact hc c List.mem_cons_self)
          exact ih _ nx (fun d hd => hc d (List.mem_cons_of_mem _ hd)) y q
    exact this cs f hf h
end
theorem words_shD {ws : List Str} (h3 : ws.length ≤ 300) (h : ∀ y ∈ ws, y.length ≤ 60 ∧ Oc y) : ShD (.list (ws.map PyData.str)) :=
  (ShD.list (f := PyData.str) (xs := ws) (n := 0) (m := 602) (fun y hy => ShD.str (n := 60) (h y hy).1 (by decide) (h y hy).2) (by decide) (by rw [sizeLine_eq]; omega)).1
theorem py_txts (ws : List Str) : pyDs (ws.map DL.T) = some (ws.map PyData.str) := pyDs_map fun _ _ => rfl
section
variable {P : Program} {w : PySem.World} {K : PySem.W.Frag} {mg : Str → Option Value} {base : Heap} {T : List (Addr × Str)} {C CU CB CT : Addr}
def NRwg : List Str := ["machine", "parts", "row", "spoilt", "place", "words", "state", "told", "due"]
theorem scRwg : FnScope NRwg ["machine", "parts", "row", "spoilt", "place"] (defScope sRwg) := ⟨rfl, rfl, rfl, by decide +kernel, rfl, by decide +kernel, by decide +kernel⟩
theorem bt_list0 : bootBuiltins "list" = some (.type "list") := by decide +kernel
theorem ok_rwg {f : Addr} {fd : FuncData} (G : Fun K "_law_rows_good" "_law_rows_good" sRwg f fd) (hm : Nm35 mg) (cM : MchC K C) (hRun : HasF P w K mg base T CX0 "_law_run" 1 ["parts", "row"] spRun) (hUn : HasF P w K mg base T CX0 "_law_unknown" 6 ["machine", "way", "row"] (spUnk C))
    (hCl : HasCl P w K mg base T (L2N.CX P w) C 5 ["self", "row"] (spMCal C CU)) (hAf : HasM P w K mg base T (L2N.CX P w) C "after" 5 ["self", "row"] (spMAft C CU)) : FnG P w K mg base CX0 7 f fd ["machine", "parts", "row", "spoilt", "place"] (spOf K T (spRwg C)) := by
  refine fnGD G scRwg (fun ds w κ χ h => ?_) (fun cdv A outer s H E ds w0 κ χ hA hr h => ?_)
  · obtain ⟨sg, st, wo, fi, row, spo, i, c, rfl, _⟩ := h
    rfl
  obtain ⟨sg, st, wo, fi, row, spo, i, c, rfl, o, k⟩ := h
  obtain ⟨g, fdg, g1, g2, g3⟩ := hCl
  have nd := scRwg.nd
  have hu : (A.deeper (envOfC "_law_rows_good" (defScope sRwg) s.heap.objs.size f cdv)).units + 65 < cLine := by
    have := hr.un
    omega
  have r3 := o.r3
  have s4 := o.s4
  have lr : (cl row).length = row.length := Array.length_toList
  have ls : (cl spo).length = spo.length := Array.length_toList
  have ocr : Oc row := fun d hd => o.ok.oc d (o.ri d hd)
  have hM := o.ok.mrow (row := row) (by omega) ocr
  have hM2 := o.ok.mrow (row := spo) (by omega) o.so
  obtain ⟨pool, hP, hf⟩ := o.ok.pt
  obtain ⟨w1, w2, w3⟩ := run_words o.ok (cs := cl row) o.ri
  have noBad : ∀ {j d : Nat}, ¬ BadAt sg row j d := fun h => h.2.1 (o.ri _ (List.mem_of_getElem? h.1))
  refine pssd_cons (psd_asgT ?_)
  refine pd_has hRun (hr.mono (by decide)) (fun _ => pass0At) ?_
  (refine pad_cons ?_; refine pd_var (i := 1) rfl rfl ?_)
  (refine pad_cons ?_; refine pd_var (i := 2) rfl rfl ?_)
  refine pad_nil ⟨sg, row, st.length, fi, pool, st, wo, rfl, hP, hf, by omega, o.ri, ?_⟩
  generalize hrr : runS sg st wo fi (cl row) = rr at w1 w2 w3
  obtain ⟨ws, sts⟩ := rr
  have w1' : ws.length = row.length := w1.trans lr
  have w2' : ∀ y ∈ ws, y.length ≤ 60 ∧ Oc y := w2
  have w3' : sts < st.length := w3
  have s60 := o.ok.s60
  have shW := words_shD (ws := ws) (by omega) w2'
  refine PGL.pgd (pgl_two (i := 5) (j := 6) rfl ?_)
  refine pgl_name (i := 5) nd rfl ?_
  refine pgl_name (i := 6) nd rfl ?_
  refine pssd_cons (psd_set (i := 7) nd rfl ?_)
  refine pd_callI g2 g1 (hr.mono (by decide)) g3 (fun _ => passLf) ?_
  refine pd_var (i := 0) rfl rfl ?_
  refine ⟨⟨_, _, rfl⟩, ?_⟩
  (refine pad_cons ?_; refine pd_var (i := 2) rfl rfl ?_)
  refine pad_nil ⟨sg, st, wo, fi, row, rfl, hM, fun _ a na => ?_, fun j d hj => absurd hj noBad⟩
  rw [hrr]
  refine pssd_cons (psd_if ?_)
  refine pwd_pt ?_
  refine pwd_or ?_
  refine ptd_not ?_
  refine ptd_val ?_
  refine pd_callB call_isi rfl hm.isinstance PyProof.Rows.boot_isinstance ?_
  (refine pad_cons ?_; refine pd_var (i := 7) rfl rfl ?_)
  refine pad_cons ?_
  refine pd_bltn (v := .ty "list") hm.list bt_list0 rfl ?_
  refine pad_nil ?_
  refine va_isiK (b := true) (.inr ⟨a, rfl, wu_same⟩) (by decide +kernel) ?_
  refine ⟨_, rfl, ?_⟩
  refine iteF ?_
  refine pwd_or ?_
  refine ptd_cmp op_ne ?_
  (refine pd_callB (call_reprD hA hu) rfl hm.repr bt_repr ?_; refine pad_cons ?_)
  refine pd_var (i := 7) rfl rfl ?_
  refine pad_nil (va_reprK (.inr ⟨a, rfl, wu_same⟩) (py_txts ws) shW ?_)
  (refine pd_callB (call_reprD hA hu) rfl hm.repr bt_repr ?_; refine pad_cons ?_)
  refine pd_var (i := 5) rfl rfl ?_
  refine pad_nil (va_reprK (.inl rfl) (py_txts ws) shW ?_)
  refine vr_neT true (decide_eq_true rfl) ⟨_, rfl, ?_⟩
  refine iteF ?_
  refine pwd_or1 ?_
  refine ptd_cmp op_ne ?_
  (refine pd_callB (call_reprD hA hu) rfl hm.repr bt_repr ?_; refine pad_cons ?_)
  refine pd_hasm cM.cl hAf (hr.mono (by decide)) (fun _ => passLf) ?_
  refine pd_var (i := 0) rfl rfl ?_
  refine ⟨ins_m (by decide +kernel), ?_⟩
  (refine pad_cons ?_; refine pd_var (i := 2) rfl rfl ?_)
  refine pad_nil ⟨sg, st, wo, fi, row, rfl, hM, fun _ => ?_, fun j d hj => absurd hj noBad⟩
  rw [hrr]
  have shS : ShD (.int (sts : Int)) := (ShD.int (lg19 (by omega) (by omega))).1
  refine pad_nil (va_reprD (p := .int (sts : Int)) rfl shS ?_)
  (refine pd_callB (call_reprD hA hu) rfl hm.repr bt_repr ?_; refine pad_cons ?_)
  refine pd_var (i := 6) rfl rfl ?_
  refine pad_nil (va_reprD (p := .int (sts : Int)) rfl shS ?_)
  refine vr_neT true (decide_eq_true rfl) ⟨_, rfl, ?_⟩
  refine iteF ?_
  refine pssd_nil ?_
  refine pssd_cons (psd_expr ?_)
  refine pd_bm PySem.F.plainAttrs_list PySem.F.slot_list_append PySem.F.type_list_append mt_append ?_
  refine pd_var (i := 7) rfl rfl ?_
  refine ⟨⟨rfl, _, wu_same⟩, ?_⟩
  refine pad_cons (pd_str ?_)
  refine pad_nil ?_
  refine vm_append wu_same (by rw [List.length_map, sizeLine_eq]; omega) ?_
  rw [wu_wu]
  refine pssd_freeze 7 rfl wu_same ?_
  rw [wd_wu na]
  -- due
  have li := (List.getElem?_eq_some_iff.mp o.ba.1).1
  have oc1 := okc_let o.so (List.mem_of_getElem? o.ba.1)
  have shD : ShD (.tuple [.str (letS c), .int (i : Int)]) := by
    have a1 := (ShD.str (n := 1) (z := letS c) (Nat.le_refl _) (by decide) oc1.2)
    have a2 := (ShD.int (i := (i : Int)) (lg19 (by omega) (by omega)))
    refine ⟨?_, ?_, ?_, ?_⟩
    · simp only [PyData.showable, PyData.showableAll]
      have := a2.1.sh
      simp only [PyData.showable] at this
      simpa using this
    · simp only [PyData.hasDict, PyData.hasDictAll]
      rfl
    · simp only [PyData.depth, PyData.depthAll]
      omega
    · simp only [PyData.shown, PyData.shownAll]
      have hl := tupleText_len_le [(PyData.str (letS c)).shown, (PyData.int (i : Int)).shown]
      simp only [PyData.shown, List.map_cons, List.map_nil, List.sum_cons, List.sum_nil, List.length_cons, List.length_nil] at hl
      have b1 := a1.2
      have b2 := a2.2
      simp only [PyData.shown] at b1 b2
      rw [sizeLine_eq]
      omega
  refine pssd_cons (psd_set (i := 8) nd rfl ?_)
  (refine pd_callB (call_reprD hA hu) rfl hm.repr bt_repr ?_; refine pad_cons ?_)
  refine pd_tup ?_
  refine pad_cons ?_
  refine pd_ix ix_str ?_
  refine pd_var (i := 3) rfl rfl ?_
  refine pd_var (i := 4) rfl rfl ?_
  refine vr_ixSx (c := c) (by rw [sizeLine_eq]; omega) o.ba.1 ?_
  (refine pad_cons ?_; refine pd_var (i := 4) rfl rfl ?_)
  refine pad_nil ⟨by show 2 ≤ sizeLine; decide, ?_⟩
  refine pad_nil (va_reprD (p := .tuple [.str (letS c), .int (i : Int)]) rfl shD ?_)
  refine pssd_cons (psd_if ?_)
  refine pwd_pt ?_
  refine pwd_or ?_
  refine ptd_cmp op_ne ?_
  (refine pd_callB (call_reprD hA hu) rfl hm.repr bt_repr ?_; refine pad_cons ?_)
  refine pd_has hUn (hr.mono (by decide)) (fun _ => pass0At) ?_
  (refine pad_cons ?_; refine pd_var (i := 0) rfl rfl ?_)
  refine pad_cons (pd_int ?_)
  (refine pad_cons ?_; refine pd_var (i := 3) rfl rfl ?_)
  refine pad_nil ⟨sg, st, wo, fi, spo, 0, i, c, rfl, hM2, o.ba, ?_⟩
  refine pad_nil (va_reprD (p := .tuple [.str (letS c), .int (i : Int)]) rfl shD ?_)
  refine pd_var (i := 8) rfl rfl ?_
  refine vr_neT true (decide_eq_true rfl) ⟨_, rfl, ?_⟩
  refine iteF ?_
  refine pwd_or1 ?_
  refine ptd_cmp op_ne ?_
  (refine pd_callB (call_reprD hA hu) rfl hm.repr bt_repr ?_; refine pad_cons ?_)
  refine pd_has hUn (hr.mono (by decide)) (fun _ => pass0At) ?_
  (refine pad_cons ?_; refine pd_var (i := 0) rfl rfl ?_)
  refine pad_cons (pd_int ?_)
  (refine pad_cons ?_; refine pd_var (i := 3) rfl rfl ?_)
  refine pad_nil ⟨sg, st, wo, fi, spo, 1, i, c, rfl, hM2, o.ba, ?_⟩
  refine pad_nil (va_reprD (p := .tuple [.str (letS c), .int (i : Int)]) rfl shD ?_)
  refine pd_var (i := 8) rfl rfl ?_
  refine vr_neT true (decide_eq_true rfl) ⟨_, rfl, ?_⟩
  refine iteF ?_
  refine pssd_nil ?_
  refine pssd_one (psd_ret ?_)
  refine pd_cmp op_eq ?_
  (refine pd_callB (call_reprD hA hu) rfl hm.repr bt_repr ?_; refine pad_cons ?_)
  refine pd_frz ?_
  refine pd_callI g2 g1 (hr.mono (by decide)) g3 (fun _ => passLf) ?_
  refine pd_var (i := 0) rfl rfl ?_
  refine ⟨⟨_, _, rfl⟩, ?_⟩
  (refine pad_cons ?_; refine pd_var (i := 2) rfl rfl ?_)
  refine pad_nil ⟨sg, st, wo, fi, row, rfl, hM, fun _ a2 na2 => ?_, fun j d hj => absurd hj noBad⟩
  rw [hrr]
  refine ⟨a2, _, rfl, wu_same, ?_⟩
  rw [wd_wu na2]
  refine pad_nil (va_reprK (.inl rfl) (py_txts ws) shW ?_)
  (refine pd_callB (call_reprD hA hu) rfl hm.repr bt_repr ?_; refine pad_cons ?_)
  refine pd_var (i := 5) rfl rfl ?_
  refine pad_nil (va_reprK (.inl rfl) (py_txts ws) shW ?_)
  exact vr_eqT true (decide_eq_true rfl) k
end
end Tw

set_option Elab.async false
set_option linter.all false
set_option maxRecDepth 100000
set_option maxHeartbeats 2000000
/-! A part of a list between two numbers; a text some times; texts joined by nothing. -/
namespace DL
open PySem PySem.Spec PyProof.Rows L2 LamX
theorem cut_mid (xs : List V) (m n : Nat) : cutV xs (some (m : Int)) (some (n : Int)) = (xs.drop m).take (n - m) := by
  unfold cutV
  rw [HT.sIx_nat, HT.sIx_nat]
  by_cases hm : m ≤ xs.length
  · rw [Nat.min_eq_left hm]
    by_cases hn : n ≤ xs.length
    · rw [Nat.min_eq_left hn]
    · rw [Nat.min_eq_right (by omega), List.take_of_length_le (by rw [List.length_drop]; omega), List.take_of_length_le (by rw [List.length_drop]; omega)]
  · rw [Nat.min_eq_right (by omega : xs.length ≤ m), List.drop_eq_nil_of_le (Nat.le_refl _), List.drop_eq_nil_of_le (by omega), List.take_nil, List.take_nil]
section
variable {X : Cx} {T : List (Addr × Str)} {W : WX} {χ : XD} {δ : Dn} {w : Wp} {pos : Pos}
/-- xs[m:n] -/
theorem pd_slMidL {e : Expr} {m n : Nat} {i j : Nat} {p1 p2 p3 : Pos} {κ : D → Wp → Prop} (h : PD X T W χ e δ w fun d w1 => ∃ ds, LstD d ds ∧ κ (.lst ((ds.drop m).take (n - m))) w1) : PD X T W χ (.Subscript e (.Slice (some (.Constant (.int (m : Int)) i p1)) (some (.Constant (.int (n : Int)) j p3)) none p2) pos) δ w κ := fun F σ S H Q hE hW hX hK =>
  wp_pe (pe_slice sl_list (pe_wp e) (po_some pe_int) (po_some pe_int)) (by
    refine h F σ S H _ hE hW hX fun d w1 v S1 H1 k s1 W1 r => ?_
    obtain ⟨ds, hl, k⟩ := k
    obtain ⟨a, xs, rfl, h1, h2⟩ := hl.at_ W1 r
    refine ⟨m, rfl, n, rfl, a, xs, rfl, h1, fun p hp => ?_⟩
    rw [cut_mid]
    have s2 : Same S1 (upd S1 p (.lst ((xs.drop m).take (n - m)))) := same_upd (W1.free hp).1
    exact hK _ w1 _ _ _ k (s1.trans s2) (W1.laid hp fun _ z => by cases z) ⟨p, _, rfl, upd_same, ((h2.drop m).take (n - m)).mono s2⟩)
end
def mulN (z : Str) (k : Nat) : Str := ⟨(List.replicate k z.cps.toList).flatten.toArray⟩
theorem mulN_len (z : Str) (k : Nat) : (mulN z k).length = z.length * k := by
  show (List.replicate k z.cps.toList).flatten.toArray.size = _
  rw [List.size_toArray, List.length_flatten, List.map_replicate, List.sum_replicate_nat, Array.length_toList]
  exact Nat.mul_comm _ _
theorem mulN_mem {z : Str} {k c : Nat} (h : c ∈ (mulN z k).cps.toList) : c ∈ z.cps.toList := by
  have h' : c ∈ (List.replicate k z.cps.toList).flatten := by
    unfold mulN at h
    rwa [List.toList_toArray] at h
  obtain ⟨l, h1, h2⟩ := List.mem_flatten.mp h'
  rw [List.eq_of_mem_replicate h1] at h2
  exact h2
theorem fold_repN {α : Type} (a : Array α) : ∀ (k : Nat) (acc : Array α), ((List.replicate k a).foldl (fun x y => x ++ y) acc).toList = acc.toList ++ (List.replicate k a.toList).flatten
  | 0, acc => by simp
  | k + 1, acc => by
    rw [List.replicate_succ, List.foldl_cons, fold_repN a k, Array.toList_append, List.replicate_succ, List.flatten_cons, List.append_assoc]
def rMulN : R2 := fun x y H Q => ∃ (z : Str) (k : Nat), x = .str z ∧ y = .int (k : Int) ∧ z.length ≤ 1000 ∧ k ≤ 100 ∧ Q (.str (mulN z k)) H
section
variable {X : Cx}
theorem op_mulN : OpR X (binaryOp .Mult) rMulN := by
  intro pins s σ H x y v u Q I rx ry h
  obtain ⟨z, k, rfl, rfl, hz, h1, q⟩ := h
  obtain ⟨t, rfl⟩ := rx
  obtain ⟨t', rfl⟩ := ry
  have done : ∀ (y : Str) t' tk, y = mulN z k → EP X pins σ Q (.str y t') { s with toks := tk } := fun y t' tk e => by
    rw [e]
    exact ⟨.str (mulN z k), H, I.tok _, ⟨_, rfl⟩, q⟩
  have n1 : ¬ (k : Int) < -(2 ^ 63 : Int) := by omega
  have n2 : ¬ (k : Int) ≥ 2 ^ 63 := by omega
  have hzk : z.length * k ≤ 100000 := Nat.mul_le_mul hz h1
  have ek : (k : Int).toNat = k := Int.toNat_natCast k
  refine PySem.P.mul_str (by rw [decide_eq_false n1, decide_eq_false n2]; rfl) (fun g _ z1 => ?_) (fun g _ => ?_) ?_
  · have h3 : (1000 : Int) ≤ (2 ^ 63 - 1) / (k : Int) := Int.le_ediv_of_mul_le (by omega) (by omega)
    omega
  · rw [ek]
    unfold Builtin.Str.tooLong
    rw [decide_eq_false_iff_not, sizeLine_eq]
    omega
  · by_cases g : (k : Int) < 1
    · rw [if_pos g]
      refine ⟨by decide, done _ _ _ ?_⟩
      unfold mulN
      have e : k = 0 := by omega
      rw [e]
      rfl
    · rw [if_neg g]
      by_cases g2 : ((k : Int) == 1 || z.length == 0) = true
      · rw [if_pos g2]
        refine done z t s.toks ?_
        unfold mulN
        have e : (List.replicate k z.cps.toList).flatten = z.cps.toList := by
          rcases (Bool.or_eq_true _ _).mp g2 with g3 | g3
          · have e1 : (k : Int) = 1 := beq_iff_eq.mp g3
            have e1 : k = 1 := by omega
            rw [e1]
            simp
          · have e1 : z.length = 0 := beq_iff_eq.mp g3
            have e2 : z.cps.toList = [] := List.eq_nil_of_length_eq_zero (by rw [Array.length_toList]; exact e1)
            rw [e2]
            simp
        rw [e]
      · rw [if_neg g2]
        have e : (⟨(List.replicate (k : Int).toNat z.cps).foldl (fun x y => x ++ y) #[]⟩ : Str) = mulN z k := by
          unfold mulN
          have := fold_repN z.cps k #[]
          rw [List.nil_append] at this
          rw [ek, ← this]
        refine ⟨?_, done _ _ _ e⟩
        rw [e, mulN_len, sizeLine_eq]
        omega
end
section
variable {K : PySem.W.Frag} {T : List (Addr × Str)} {w : Wp} {κ : D → Wp → Prop}
theorem vr_mulN {z : Str} {k : Nat} (hz : z.length ≤ 1000) (hk : k ≤ 100) (q : κ (DL.T (mulN z k)) w) : VR2 K T rMulN (DL.T z) (I (k : Int)) w κ := fun F S H x y Q hW r1 r2 hK =>
  ⟨z, k, r1, r2, hz, hk, hK _ w _ S H q (Same.refl _) hW rfl⟩
end
theorem jn0_two (x y : Str) (r : List Str) : Str.join Str.empty (x :: y :: r) = x ++ Str.empty ++ Str.join Str.empty (y :: r) := rfl
theorem cps_cat (a b : Str) : (a ++ b).cps.toList = a.cps.toList ++ b.cps.toList := by
  show (a.cps ++ b.cps).toList = _
  exact Array.toList_append
theorem cl_jn0 : ∀ ys : List Str, (Str.join Str.empty ys).cps.toList = ys.flatMap (·.cps.toList)
  | [] => rfl
  | [x] => by
    show x.cps.toList = x.cps.toList ++ []
    rw [List.append_nil]
  | x :: y :: r => by
    rw [jn0_two, cps_cat, cps_cat, cl_jn0 (y :: r)]
    show x.cps.toList ++ [] ++ _ = _
    rw [List.append_nil]
    rfl
theorem txt_jn0 (ys : List Str) : (Txt.join ("" : Str) ys).cps.toList = ys.flatMap (·.cps.toList) := by
  have e : ("" : Str) = Str.empty := by decide +kernel
  have e2 : Txt.join Str.empty ys = Str.join Str.empty ys := StrLaws.glued_eq_join _ _
  rw [e, e2, cl_jn0]
/-- single signs joined by nothing -/
theorem txt_ones (cs : List Nat) : (Txt.join ("" : Str) (cs.map fun c => (⟨#[c]⟩ : Str))).cps.toList = cs := by
  rw [txt_jn0, List.flatMap_map]
  induction cs with
  | nil => rfl
  | cons c cs ih =>
    rw [List.flatMap_cons, ih]
    rfl
theorem sum_ones (cs : List Nat) : ((cs.map fun c => (⟨#[c]⟩ : Str)).map (·.length)).sum = cs.length := by
  induction cs with
  | nil => rfl
  | cons c cs ih =>
    rw [List.map_cons, List.map_cons, List.sum_cons, ih, List.length_cons]
    show 1 + _ = _
    omega
end DL

set_option Elab.async false
set_option linter.all false
set_option maxRecDepth 100000
set_option maxHeartbeats 4000000
/-! k35: what the law needs beside the program. -/
namespace DL
open PySem PySem.Spec PyProof.Rows L2 LamX
theorem Lk.keep {w w2 : Wp} (m : ∀ z h, w z = some h → w2 z = some h) {d : D} {ds : List D} (l : Lk w d ds) : Lk w2 d ds := by
  rcases l with rfl | ⟨b, rfl, hb⟩
  · exact .inl rfl
  · exact .inr ⟨b, rfl, m _ _ hb⟩
theorem LL.keep {w w2 : Wp} (m : ∀ z h, w z = some h → w2 z = some h) {d : D} {xss : List (List D)} (l : LL w d xss) : LL w2 d xss := by
  obtain ⟨es, h1, h2, h3⟩ := l
  exact ⟨es, h1.keep m, h2, fun j e x he hx => (h3 j e x he hx).keep m⟩
section
variable {w w2 : Wp} {a : Addr} {bs : List Addr} {xss : List (List D)}
theorem CpO.keep (c : CpO w w2 a bs xss) : ∀ z h, w z = some h → w2 z = some h := by
  obtain ⟨w1, o, n, rfl⟩ := c
  intro z h hz
  have n1 : z ∉ bs := fun q => by
    rw [o.fresh z q] at hz
    cases hz
  have n2 : z ≠ a := fun q => by
    rw [← q, o.rest z n1, hz] at n
    cases n
  rw [wu_ne n2, o.rest z n1]
  exact hz
theorem CpO.new (c : CpO w w2 a bs xss) : ∀ z, z = a ∨ z ∈ bs → w z = none := by
  obtain ⟨w1, o, n, rfl⟩ := c
  intro z hz
  by_cases q : z ∈ bs
  · exact o.fresh z q
  · rcases hz with rfl | h
    · rw [← o.rest z q]
      exact n
    · exact absurd h q
theorem CpO.apart (c : CpO w w2 a bs xss) : a ∉ bs := by
  obtain ⟨w1, o, n, rfl⟩ := c
  intro h
  obtain ⟨j, hj⟩ := List.getElem?_of_mem h
  have lj := (List.getElem?_eq_some_iff.mp hj).1
  have := o.at_ j a _ hj (List.getElem?_eq_getElem (by rw [← o.len]; exact lj))
  rw [n] at this
  cases this
theorem CpO.LL (c : CpO w w2 a bs xss) : LL w2 (R a) xss := by
  have ho := c.outer
  have lb := c.len
  refine ⟨bs.map R, .inr ⟨a, rfl, ho⟩, by rw [List.length_map]; exact lb, fun j e x he hx => ?_⟩
  obtain ⟨b, h1, h2, _⟩ := c.row hx
  rw [h1] at he
  cases he
  exact .inr ⟨b, rfl, h2⟩
end
/-- a list of lists, all owned -/
structure LnOk (w : Wp) (a : Addr) (bs : List Addr) : Prop where
  o : w a = some (.lst (bs.map R))
  r : ∀ b ∈ bs, ∃ xs, w b = some (.lst xs) ∧ xs.length ≤ 900
  p : 0 < bs.length
  s : bs.length ≤ 900
  n : a ∉ bs
theorem LnOk.same {w w2 : Wp} {a : Addr} {bs : List Addr} (h : LnOk w a bs) (e : ∀ z, z = a ∨ z ∈ bs → w2 z = w z) : LnOk w2 a bs := by
  refine ⟨by rw [e a (.inl rfl)]; exact h.o, fun b hb => ?_, h.p, h.s, h.n⟩
  rw [e b (.inr hb)]
  exact h.r b hb
theorem CpO.ln {w w2 : Wp} {a : Addr} {bs : List Addr} {xss : List (List D)} (c : CpO w w2 a bs xss) (h0 : 0 < xss.length) (h1 : xss.length ≤ 900) (h2 : ∀ x ∈ xss, x.length ≤ 900) : LnOk w2 a bs := by
  have lb := c.len
  refine ⟨c.outer, fun b hb => ?_, by omega, by omega, c.apart⟩
  obtain ⟨j, hj⟩ := List.getElem?_of_mem hb
  have lj := (List.getElem?_eq_some_iff.mp hj).1
  have gx : xss[j]? = some xss[j] := List.getElem?_eq_getElem (by omega)
  obtain ⟨b2, h3, h4, _⟩ := c.row gx
  rw [List.getElem?_map, hj] at h3
  cases h3
  exact ⟨_, h4, h2 _ (List.mem_of_getElem? gx)⟩
end DL
namespace Tw
open PySem PySem.Spec PyProof.Rows L2 LamX DL
section
variable {sg : Str} {st : List (List Int)} {wo : List (List Str)} {f : Int} {C : Addr} {w : Wp} {κ : D → Wp → Prop} {χ : XD}
theorem mst_O (h : st.length ≤ 900) (k : ∀ bs w2 a, CpO w w2 a bs (st.map fun x => x.map I) → κ (R a) w2) : spMStO C [mchD C sg st wo f] w κ χ :=
  ⟨sg, st, wo, f, rfl, h, fun bs w1 a o n => k bs _ a ⟨w1, o, n, rfl⟩⟩
theorem mwo_O (h : wo.length ≤ 900) (k : ∀ bs w2 a, CpO w w2 a bs (wo.map fun x => x.map DL.T) → κ (R a) w2) : spMWoO C [mchD C sg st wo f] w κ χ :=
  ⟨sg, st, wo, f, rfl, h, fun bs w1 a o n => k bs _ a ⟨w1, o, n, rfl⟩⟩
end
theorem SgOk.oc' {s : Str} (h : SgOk s) : ∀ c ∈ cl s, c < 200 := fun c hc => by
  have := (h.az c hc).2
  omega
theorem abc_ok : SgOk abcT := ⟨by decide +kernel, by decide +kernel⟩
theorem good_of {sg : Str} {m : Nat} {pool : List Str} {st : List (List Int)} {wo : List (List Str)} {f : Int} (so : SgOk sg) (s26 : sg.length ≤ 26) (m1 : 1 ≤ m) (m40 : m ≤ 40) (hp : ∀ s ∈ pool, WdOk s) (p : PtOk sg.length m pool st wo) (f0 : 0 ≤ f) (f1 : f < (m : Int)) : GoodM sg st wo f := by
  obtain ⟨ls, lw, rs, rw'⟩ := p
  refine ⟨so, ⟨s26, by omega, by omega, fun x hx => (rs x hx).1, fun x hx y hy => by rw [ls]; exact (rs x hx).2 y hy⟩, ⟨s26, by omega, by omega, by omega, fun x hx => (rw' x hx).1, fun x hx y hy => ?_⟩, f0, by rw [ls]; exact f1⟩
  have o := hp y ((rw' x hx).2 y hy)
  have l6 := o.len
  exact ⟨by omega, fun c hc => by have := (o.sg c hc).2; omega⟩
theorem GoodM.zero {sg : Str} {st : List (List Int)} {wo : List (List Str)} {f : Int} (g : GoodM sg st wo f) : GoodM sg st wo 0 := by
  have l0 := g.gs.l0
  exact ⟨g.so, g.gs, g.gw, by omega, by omega⟩
/-- signs among which some are no signs -/
def outT : Str := "abcdefghijklmnopqrstuvwxyz AZ?-*+0_~"
theorem out_len : outT.length = 36 := by decide +kernel
theorem out_oc : ∀ c ∈ cl outT, c < 200 := by decide +kernel
theorem out_sp : 32 ∈ cl outT := by decide +kernel
def outs (sg : Str) : List Nat := (cl outT).filter fun c => !decide (c ∈ cl sg)
theorem outs_ok {sg : Str} (h : SgOk sg) : 0 < (outs sg).length ∧ (outs sg).length ≤ 36 ∧ ∀ c ∈ outs sg, c ∉ cl sg ∧ c < 200 := by
  refine ⟨List.length_pos_of_mem (a := 32) ?_, ?_, fun c hc => ?_⟩
  · refine List.mem_filter.mpr ⟨out_sp, ?_⟩
    have n : (32 : Nat) ∉ cl sg := fun q => by
      have := (h.az 32 q).1
      omega
    rw [decide_eq_false n]
    rfl
  · have := List.length_filter_le (fun c => !decide (c ∈ cl sg)) (cl outT)
    have e : (cl outT).length = outT.length := Array.length_toList
    rw [e, out_len] at this
    exact this
  · obtain ⟨h1, h2⟩ := List.mem_filter.mp hc
    refine ⟨fun q => ?_, out_oc c h1⟩
    rw [decide_eq_true q] at h2
    cases h2
/-- a row with a sign put in that is none -/
def spoilS (o : Str) (p c : Nat) : Str := ((toS ((cl o).take p) ++ letS c) ++ toS ((cl o).drop p)) ++ "?"
theorem cl_q : cl ("?" : Str) = [63] := by decide +kernel
theorem cl_spoil {o : Str} {p c : Nat} : cl (spoilS o p c) = (cl o).take p ++ (c :: ((cl o).drop p ++ [63])) := by
  unfold spoilS
  rw [cl_cat, cl_cat, cl_cat, cl_q, cl_toS, cl_toS]
  show (List.take p (cl o) ++ [c] ++ _) ++ _ = _
  simp
theorem spoil_len {o : Str} {p c : Nat} : (spoilS o p c).length = o.length + 2 := by
  have e : (cl (spoilS o p c)).length = (spoilS o p c).length := Array.length_toList
  have e2 : (cl o).length = o.length := Array.length_toList
  rw [← e, cl_spoil, List.length_append, List.length_cons, List.length_append, List.length_take, List.length_drop, e2]
  show _ + (_ + 1 + 1) = _
  omega
theorem rw_spoil {sg : Str} {st : List (List Int)} {wo : List (List Str)} {f : Nat} {o : Str} {p c : Nat} (g : GoodM sg st wo (f : Int)) (l : o.length ≤ 300) (i : ∀ d ∈ cl o, d ∈ cl sg) (hp : p ≤ o.length) (hc : c ∈ outs sg) : RwOk sg st wo f o (spoilS o p c) p c := by
  obtain ⟨_, _, h⟩ := outs_ok g.so
  obtain ⟨n, c2⟩ := h c hc
  have e2 : (cl o).length = o.length := Array.length_toList
  have lt : ((cl o).take p).length = p := by rw [List.length_take, e2]; omega
  refine ⟨g.ok, l, i, by rw [spoil_len]; omega, fun d hd => ?_, ?_, n, fun j d hj hd => ?_⟩
  · have hd' : d ∈ cl (spoilS o p c) := hd
    rw [cl_spoil] at hd'
    simp only [List.mem_append, List.mem_cons, List.not_mem_nil, or_false] at hd'
    rcases hd' with h1 | rfl | h1 | rfl
    · exact g.so.oc' d (i d (List.mem_of_mem_take h1))
    · exact c2
    · exact g.so.oc' d (i d (List.mem_of_mem_drop h1))
    · decide
  · rw [cl_spoil, List.getElem?_append_right (by omega), lt, Nat.sub_self]
    rfl
  · rw [cl_spoil, List.getElem?_append_left (by omega), List.getElem?_take_of_lt hj] at hd
    exact i d (List.mem_of_getElem? hd)
end Tw

set_option Elab.async false
set_option linter.all false
set_option maxRecDepth 100000
set_option maxHeartbeats 4000000
/-! The law of k35. -/
namespace Tw
open PySem PySem.Spec PyProof.Rows L2 LamX DL
abbrev sLaw : Stmt := top 32
def NLaw : List Str := ["script", "bag", "signs", "count", "pool", "parts", "steps", "words", "machine", "begun", "lines", "plain", "told", "asked", "row", "other", "place", "spoilt", "cell", "char"]
def spLaw : SpD := fun ds w κ χ => ∃ ns : List Int, ds = [.rd (ns.map I)] ∧ ns.length ≤ 1000 ∧ ∀ w', κ (B true) w'
/-- what the law calls -/
structure LawK (P : Program) (w : PySem.World) (K : PySem.W.Frag) (mg : Str → Option Value) (base : Heap) (T : List (Addr × Str)) (C CB : Addr) : Prop where
  bag : HasF P w K mg base T CX0 "_law_bag" 1 ["script", "place"] spBag
  tak : HasF P w K mg base T CX0 "_law_take" 1 ["bag", "size"] spTake
  sgn : HasF P w K mg base T CX0 "_law_signs_row" 2 ["bag", "most"] spSgn
  wrd : HasF P w K mg base T CX0 "_law_word" 2 ["bag"] spWrd
  prt : HasF P w K mg base T CX0 "_law_parts" 2 ["bag", "signs", "pool", "count"] spPrt
  cpy : HasF P w K mg base T CX0 "_law_copy" 1 ["lines"] spCpyO
  mak : HasMi P w K mg base T C CB
  is : HasG P w K mg base T CX0 "_law_is" 3 ["machine", "parts"] (spLIs C)
  st : HasM P w K mg base T CX0 C "steps" 1 ["self"] (spMStO C)
  wo : HasM P w K mg base T CX0 C "words" 1 ["self"] (spMWoO C)
  row : HasF P w K mg base T CX0 "_law_row" 2 ["bag", "signs", "most"] spRow
  rwg : HasG P w K mg base T CX0 "_law_rows_good" 7 ["machine", "parts", "row", "spoilt", "place"] (spRwg C)
  rfg : HasF P w K mg base T CX0 "_law_refusals_good" 7 ["bag", "parts"] spRfg
  eqg : HasG P w K mg base T CX0 "_law_equal_good" 7 ["bag", "machine", "parts"] (spEqg C)
theorem scLaw : FnScope NLaw ["script"] (defScope sLaw) := ⟨rfl, rfl, rfl, by decide +kernel, rfl, by decide +kernel, by decide +kernel⟩
section
variable {P : Program} {w : PySem.World} {K : PySem.W.Frag} {mg : Str → Option Value} {base : Heap} {T : List (Addr × Str)} {C CB : Addr}
theorem ok_law {f : Addr} {fd : FuncData} (G : Fun K "law" "law" sLaw f fd) (hm : Nm35 mg) (c : MchC K C) (L : LawK P w K mg base T C CB) : FnG P w K mg base CX0 8 f fd ["script"] (spOf K T spLaw) := by
  refine fnGD G scLaw (fun ds w κ χ h => ?_) (fun cdv A outer s H E ds w0 κ χ hA hr h => ?_)
  · obtain ⟨ns, rfl, _⟩ := h
    rfl
  obtain ⟨ns, rfl, nl9, k⟩ := h
  have nd := scLaw.nd
  refine pssd_cons (psd_set (i := 1) nd rfl ?_)
  refine pd_has L.bag (hr.mono (by decide)) (fun _ => pass0At) ?_
  (refine pad_cons ?_; refine pd_var (i := 0) rfl rfl ?_)
  refine pad_cons (pd_int ?_)
  refine pad_nil ⟨ns, 3, rfl, nl9, fun a b na ok => ?_⟩
  refine pssd_cons (psd_set (i := 2) nd rfl ?_)
  refine pd_has L.sgn (hr.mono (by decide)) (fun _ => pass0At) ?_
  (refine pad_cons ?_; refine pd_var (i := 1) rfl rfl ?_)
  refine pad_cons (pd_int ?_)
  refine pad_nil ⟨a, b, rfl, bg_put, ok, fun s4 b1 ok1 so4 l4 => ?_⟩
  rw [bg_put2]
  refine pssd_cons (psd_set (i := 3) nd rfl ?_)
  refine pd_op op_add ?_
  refine pd_int ?_
  refine pd_take L.tak (hr.mono (by decide)) (i := 1) rfl rfl bg_put ok1 ?_
  refine pd_int ?_
  refine ⟨rfl, _, rfl, by decide, by decide, fun x b2 x0 x1 ok2 => ?_⟩
  rw [bg_put2]
  refine vr_I ?_
  refine pssd_cons (psd_cut (fun δ' w' => ∃ (sg : Str) (m : Nat) (q : Bg), δ' = [some (.rd (ns.map I)), some (R a), some (DL.T sg), some (I (m : Int)), none, none, none, none, none, none, none, none, none, none, none, none, none, none, none, none] ∧ w' = bgPut w0 a q ∧ BgOk q ∧ SgOk sg ∧ sg.length ≤ 26 ∧ 1 ≤ m ∧ m ≤ 40) ?_ ?_)
  · refine psd_if ?_
    refine ptd_cmp op_eq ?_
    refine pd_take L.tak (hr.mono (by decide)) (i := 1) rfl rfl bg_put ok2 ?_
    refine pd_int ?_
    refine ⟨rfl, _, rfl, by decide, by decide, fun y b3 y0 y1 ok3 => ?_⟩
    rw [bg_put2]
    refine pd_int ?_
    refine vr_eq rfl ⟨_, rfl, ?_⟩
    refine ite2 (fun _ => ?_) (fun _ => ?_)
    · refine pssd_cons (psd_set (i := 2) nd rfl ?_)
      refine pd_str ?_
      refine pssd_one (psd_set (i := 3) nd rfl ?_)
      refine pd_op op_add ?_
      refine pd_int ?_
      refine pd_take L.tak (hr.mono (by decide)) (i := 1) rfl rfl bg_put ok3 ?_
      refine pd_int ?_
      refine ⟨rfl, _, rfl, by decide, by decide, fun z b4 z0 z1 ok4 => ?_⟩
      rw [bg_put2]
      refine vr_I ?_
      obtain ⟨n, rfl⟩ := Int.eq_ofNat_of_zero_le z0
      refine ⟨abcT, 1 + n, b4, ?_, rfl, ok4, abc_ok, by rw [abc_len]; decide, by omega, by omega⟩
      rw [show ((1 + n : Nat) : Int) = 1 + (n : Int) by omega]
      rfl
    · obtain ⟨n, rfl⟩ := Int.eq_ofNat_of_zero_le x0
      refine pssd_nil ⟨s4, 1 + n, b3, ?_, rfl, ok3, so4, by omega, by omega, by omega⟩
      rw [show ((1 + n : Nat) : Int) = 1 + (n : Int) by omega]
      rfl
  rintro δ' w' ⟨sg, m, q, rfl, rfl, okq, so, s26, m1, m40⟩
  -- three words
  refine pssd_cons (psd_set (i := 4) nd rfl ?_)
  refine pd_lst ?_
  refine pad_cons ?_
  refine pd_has L.wrd (hr.mono (by decide)) (fun _ => pass0At) ?_
  (refine pad_cons ?_; refine pd_var (i := 1) rfl rfl ?_)
  refine pad_nil ⟨a, q, rfl, bg_put, okq, fun v1 q1 ok1 g1 => ?_⟩
  rw [bg_put2]
  refine pad_cons ?_
  refine pd_has L.wrd (hr.mono (by decide)) (fun _ => pass0At) ?_
  (refine pad_cons ?_; refine pd_var (i := 1) rfl rfl ?_)
  refine pad_nil ⟨a, q1, rfl, bg_put, ok1, fun v2 q2 ok2 g2 => ?_⟩
  rw [bg_put2]
  refine pad_cons ?_
  refine pd_has L.wrd (hr.mono (by decide)) (fun _ => pass0At) ?_
  (refine pad_cons ?_; refine pd_var (i := 1) rfl rfl ?_)
  refine pad_nil ⟨a, q2, rfl, bg_put, ok2, fun v3 q3 ok3 g3 => ?_⟩
  rw [bg_put2]
  refine pad_nil ⟨by show 3 ≤ sizeLine; decide, ?_⟩
  refine pssd_drop a ?_
  rw [show wd (bgPut w0 a q3) a = w0 from wd_wu na]
  -- parts
  refine pssd_cons (psd_set (i := 5) nd rfl ?_)
  refine pd_drop ?_
  refine pd_has L.prt (hr.mono (by decide)) (fun _ => pass0At) ?_
  refine pad_cons ?_
  refine pd_has L.bag (hr.mono (by decide)) (fun _ => pass0At) ?_
  (refine pad_cons ?_; refine pd_var (i := 0) rfl rfl ?_)
  refine pad_cons (pd_int ?_)
  refine pad_nil ⟨ns, 1, rfl, nl9, fun p b0 np okp => ?_⟩
  (refine pad_cons ?_; refine pd_var (i := 2) rfl rfl ?_)
  (refine pad_cons ?_; refine pd_var (i := 4) rfl rfl ?_)
  (refine pad_cons ?_; refine pd_var (i := 3) rfl rfl ?_)
  refine pad_nil ⟨p, b0, sg, [v1, v2, v3], m, rfl, bg_put, okp, s26, by simp, by simp, m1, m40, fun st wo fi b5 _ hp f0 f1 => ⟨p, ?_⟩⟩
  rw [bg_put2, show wd (bgPut w0 p b5) p = w0 from wd_wu np]
  have gd : GoodM sg st wo fi := good_of so s26 m1 m40 (by
    intro s hs
    simp only [List.mem_cons, List.not_mem_nil, or_false] at hs
    rcases hs with rfl | rfl | rfl
    · exact g1
    · exact g2
    · exact g3) hp f0 f1
  have gz := gd.zero
  have l40 := gd.gs.l40
  have l0 := gd.gs.l0
  have wl := gd.gw.le
  obtain ⟨fn, rfl⟩ := Int.eq_ofNat_of_zero_le f0
  -- copies
  refine pssd_cons (psd_set (i := 6) nd rfl ?_)
  refine pd_has L.cpy (hr.mono (by decide)) (fun _ => pass0At) ?_
  refine pad_cons ?_
  (refine pd_ix ix_list ?_; refine pd_var (i := 5) rfl rfl ?_; refine pd_int ?_; refine vr_ixL (i := 1) rfl ?_)
  refine pad_nil (cpy_stO (by omega) fun bs1 w1 a1 c1 _ => ?_)
  refine pssd_cons (psd_set (i := 7) nd rfl ?_)
  refine pd_has L.cpy (hr.mono (by decide)) (fun _ => pass0At) ?_
  refine pad_cons ?_
  (refine pd_ix ix_list ?_; refine pd_var (i := 5) rfl rfl ?_; refine pd_int ?_; refine vr_ixL (i := 2) rfl ?_)
  refine pad_nil (cpy_woO (by omega) fun bs2 w2 a2 c2 _ => ?_)
  have lS := c1.LL.keep c2.keep
  have lW := c2.LL
  refine pssd_cons (psd_set (i := 8) nd rfl ?_)
  refine pd_mkM (C := C) (CB := CB) L.mak (hr.mono (by decide)) (fun _ => passLf) ?_
  (refine pad_cons ?_; refine pd_var (i := 2) rfl rfl ?_)
  (refine pad_cons ?_; refine pd_var (i := 6) rfl rfl ?_)
  (refine pad_cons ?_; refine pd_var (i := 7) rfl rfl ?_)
  refine pad_nil ⟨sg, _, _, rfl, ?_⟩
  (refine pd_ix ix_list ?_; refine pd_var (i := 5) rfl rfl ?_; refine pd_int ?_; refine vr_ixL (i := 3) rfl ?_)
  refine ⟨(fn : Int), st, wo, rfl, lS, lW, gd.ok.pre, fun _ => ?_, fun x hx => by rw [gd.ok.fault] at hx; cases hx⟩
  refine pssd_cons (psd_set (i := 9) nd rfl ?_)
  refine pd_mkD (C := C) (CB := CB) L.mak (hr.mono (by decide)) (fun _ => passLf) ?_
  (refine pad_cons ?_; refine pd_var (i := 2) rfl rfl ?_)
  (refine pad_cons ?_; refine pd_var (i := 6) rfl rfl ?_)
  (refine pad_cons ?_; refine pd_var (i := 7) rfl rfl ?_)
  refine pad_nil ⟨sg, _, _, st, wo, rfl, lS, lW, gz.ok.pre, fun _ => ?_, fun x hx => by rw [gz.ok.fault] at hx; cases hx⟩
  -- the copies are changed
  have hx1 : ∀ x ∈ st.map fun x => x.map I, x.length ≤ 900 := fun x hx => by
    obtain ⟨y, hy, rfl⟩ := List.mem_map.mp hx
    rw [List.length_map, gd.gs.ln y hy]
    omega
  have hx2 : ∀ x ∈ wo.map fun x => x.map DL.T, x.length ≤ 900 := fun x hx => by
    obtain ⟨y, hy, rfl⟩ := List.mem_map.mp hx
    rw [List.length_map, gd.gw.ln y hy]
    omega
  have k1 : LnOk w1 a1 bs1 := c1.ln (by rw [List.length_map]; omega) (by rw [List.length_map]; omega) hx1
  have k2 : LnOk w2 a2 bs2 := c2.ln (by rw [List.length_map]; omega) (by rw [List.length_map]; omega) hx2
  have far : ∀ z, (z = a2 ∨ z ∈ bs2) → ¬ (z = a1 ∨ z ∈ bs1) := fun z h1 h2 => by
    have n := c2.new z h1
    rcases h2 with rfl | h2
    · rw [c1.outer] at n
      cases n
    · obtain ⟨xs, h3, _⟩ := k1.r z h2
      rw [h3] at n
      cases n
  have k1' : LnOk w2 a1 bs1 := k1.same fun z h => by
    rcases h with rfl | h
    · rw [c2.keep _ _ c1.outer, c1.outer]
    · obtain ⟨xs, h3, _⟩ := k1.r z h
      rw [c2.keep _ _ h3, h3]
  refine pssd_cons (psd_for PassesOwn.never rfl ?_)
  refine it_list ?_
  refine pd_lst ?_
  (refine pad_cons ?_; refine pd_var (i := 6) rfl rfl ?_)
  (refine pad_cons ?_; refine pd_var (i := 7) rfl rfl ?_)
  refine pad_nil ⟨by show 2 ≤ sizeLine; decide, ?_⟩
  refine ⟨_, rfl, fun i δ' w' => ∃ x10, δ' = [some (.rd (ns.map I)), some (R a), some (DL.T sg), some (I (m : Int)), some (.lst [DL.T v1, DL.T v2, DL.T v3]), some (partD sg st wo (fn : Int)), some (R a1), some (R a2), some (mchD C sg st wo (fn : Int)), some (mchD C sg st wo 0), x10, none, none, none, none, none, none, none, none, none] ∧
    (∀ z, z ∉ a1 :: a2 :: (bs1 ++ bs2) → w' z = w0 z) ∧ (i ≤ 0 → LnOk w' a1 bs1) ∧ (i ≤ 1 → LnOk w' a2 bs2), ⟨none, rfl, fun z hz => ?_, fun _ => k1', fun _ => k2⟩, ?_, ?_⟩
  · simp only [List.mem_cons, List.mem_append, not_or] at hz
    rw [c2.out z hz.2.2.2 hz.2.1, c1.out z hz.2.2.1 hz.1]
  · rintro i d δ' w' hd ⟨x10, rfl, hz, h1, h2⟩
    have i2 : i < 2 := (List.getElem?_eq_some_iff.mp hd).1
    obtain ⟨aa, bb, rfl, hl, sub, oth⟩ : ∃ aa bb, d = R aa ∧ LnOk w' aa bb ∧ (∀ z, z = aa ∨ z ∈ bb → z ∈ a1 :: a2 :: (bs1 ++ bs2)) ∧ ∀ w2 : Wp, (∀ z, z ≠ aa → z ∉ bb → w2 z = w' z) → (i + 1 ≤ 0 → LnOk w2 a1 bs1) ∧ (i + 1 ≤ 1 → LnOk w2 a2 bs2) := by
      match i, hd, h1, h2 with
      | 0, hd, h1, h2 =>
        cases hd
        refine ⟨a1, bs1, rfl, h1 (Nat.le_refl _), fun z h => ?_, fun w2 hw => ⟨fun h => (by omega), fun _ => (h2 (by omega)).same fun z h => hw z (fun e => far z h (.inl e)) fun e => far z h (.inr e)⟩⟩
        rcases h with rfl | h
        · simp
        · simp [h]
      | 1, hd, h1, h2 =>
        cases hd
        refine ⟨a2, bs2, rfl, h2 (Nat.le_refl _), fun z h => ?_, fun w2 hw => ⟨fun h => (by omega), fun h => (by omega)⟩⟩
        rcases h with rfl | h
        · simp
        · simp [h]
    obtain ⟨ho, hr', hp, hs, hn⟩ := hl
    have g0 : bb[0]? = some (bb[0]'hp) := List.getElem?_eq_getElem hp
    obtain ⟨xs0, e0, l0'⟩ := hr' _ (List.getElem_mem hp)
    have n0 : bb[0]'hp ≠ aa := fun e => hn (by rw [← e]; exact List.getElem_mem hp)
    refine pgd_name (i := 10) nd rfl ?_
    refine pssd_cons (psd_expr ?_)
    refine pd_bm PySem.F.plainAttrs_list PySem.F.slot_list_append PySem.F.type_list_append mt_append ?_
    refine pd_ix ix_list ?_
    refine pd_var (i := 10) rfl rfl ?_
    refine pd_int ?_
    refine vr_ixO (i := 0) ho (d := R (bb[0]'hp)) (by rw [List.getElem?_map, g0]; rfl) ?_
    refine ⟨⟨rfl, _, e0⟩, ?_⟩
    refine pad_cons (pd_int ?_)
    refine pad_nil ?_
    refine vm_append e0 (by rw [sizeLine_eq]; omega) ?_
    have ho2 : (wu w' (bb[0]'hp) (.lst (xs0 ++ [I 0]))) aa = some (.lst (bb.map R)) := by rw [wu_ne (Ne.symm n0)]; exact ho
    have out1 : ∀ z, z ≠ aa → z ∉ bb → (wu w' (bb[0]'hp) (.lst (xs0 ++ [I 0]))) z = w' z := fun z _ h => wu_ne fun e => h (by rw [e]; exact List.getElem_mem hp)
    have hr2 : ∀ b ∈ bb, ∃ xs, (wu w' (bb[0]'hp) (.lst (xs0 ++ [I 0]))) b = some (.lst xs) := fun b hb => by
      by_cases e : b = bb[0]'hp
      · rw [e]
        exact ⟨_, wu_same⟩
      · rw [wu_ne e]
        obtain ⟨xs, h, _⟩ := hr' b hb
        exact ⟨xs, h⟩
    generalize wu w' (bb[0]'hp) (.lst (xs0 ++ [I 0])) = wA at ho2 out1 hr2 ⊢
    -- the last row
    have nb : bb ≠ [] := fun e => by rw [e] at hp; cases hp
    have sp : bb.map R = (bb.dropLast.map R) ++ [R (bb.getLast nb)] := by
      conv => lhs; rw [← List.dropLast_concat_getLast nb]
      rw [List.map_append]
      rfl
    obtain ⟨xs1, e1⟩ := hr2 _ (List.getLast_mem nb)
    have n1 : bb.getLast nb ≠ aa := fun e => hn (by rw [← e]; exact List.getLast_mem nb)
    refine pssd_cons (psd_expr ?_)
    refine pd_bm0 PySem.F.plainAttrs_list PySem.F.slot_list_reverse PySem.F.type_list_reverse mt_reverse ?_
    refine pd_ix ix_list ?_
    refine pd_var (i := 10) rfl rfl ?_
    refine pd_un un_neg ?_
    refine pd_int ?_
    refine vr_U ?_
    refine vr_ixLast (.inr ⟨aa, rfl, by rw [ho2, sp]⟩) ?_
    refine ⟨⟨rfl, _, e1⟩, ?_⟩
    refine vm_reverse e1 ?_
    have ho3 : (wu wA (bb.getLast nb) (.lst xs1.reverse)) aa = some (.lst (bb.map R)) := by rw [wu_ne (Ne.symm n1)]; exact ho2
    have out2 : ∀ z, z ≠ aa → z ∉ bb → (wu wA (bb.getLast nb) (.lst xs1.reverse)) z = w' z := fun z h1 h => by
      rw [wu_ne fun e => h (by rw [e]; exact List.getLast_mem nb)]
      exact out1 z h1 h
    generalize wu wA (bb.getLast nb) (.lst xs1.reverse) = wB at ho3 out2 ⊢
    refine pssd_one (psd_expr ?_)
    refine pd_bm PySem.F.plainAttrs_list PySem.F.slot_list_append PySem.F.type_list_append mt_append ?_
    refine pd_var (i := 10) rfl rfl ?_
    refine ⟨⟨rfl, _, ho3⟩, ?_⟩
    refine pad_cons ?_
    refine pd_lst ?_
    refine pad_nil ⟨by show 0 ≤ sizeLine; decide, ?_⟩
    refine pad_nil ?_
    refine vm_append ho3 (by rw [List.length_map, sizeLine_eq]; omega) ?_
    have out3 : ∀ z, z ≠ aa → z ∉ bb → (wu wB aa (.lst (bb.map R ++ [.lst []]))) z = w' z := fun z h1 h => by
      rw [wu_ne h1]
      exact out2 z h1 h
    obtain ⟨o1, o2⟩ := oth _ out3
    refine ⟨_, rfl, fun z h => ?_, o1, o2⟩
    rw [out3 z (fun e => h (sub z (.inl e))) fun e => h (sub z (.inr e))]
    exact hz z h
  rintro δ' w' ⟨x10, rfl, hz, _, _⟩
  refine pssd_drops (a1 :: a2 :: (bs1 ++ bs2)) ?_
  have back : wds w' (a1 :: a2 :: (bs1 ++ bs2)) = w0 := by
    funext z
    rw [wds_at]
    by_cases h : z ∈ a1 :: a2 :: (bs1 ++ bs2)
    · rw [if_pos h]
      have nn : ∀ z, z = a2 ∨ z ∈ bs2 → w0 z = none := fun z h => by
        have n := c2.new z h
        cases e : w0 z with
        | none => rfl
        | some y =>
          rw [c1.keep _ _ e] at n
          cases n
      simp only [List.mem_cons, List.mem_append] at h
      rcases h with h | h | h | h
      · exact (c1.new z (.inl h)).symm
      · exact (nn z (.inl h)).symm
      · exact (c1.new z (.inr h)).symm
      · exact (nn z (.inr h)).symm
    · rw [if_neg h]
      exact hz z h
  rw [back]
  clear hz back far k1 k1' k2 hx1 hx2 lS lW c1 c2
  refine pssd_cons (psd_set (i := 11) nd rfl ?_)
  refine pd_lst ?_
  (refine pad_cons ?_; refine pd_var (i := 2) rfl rfl ?_)
  refine pad_cons ?_
  (refine pd_ix ix_list ?_; refine pd_var (i := 5) rfl rfl ?_; refine pd_int ?_; refine vr_ixL (i := 1) rfl ?_)
  refine pad_cons ?_
  (refine pd_ix ix_list ?_; refine pd_var (i := 5) rfl rfl ?_; refine pd_int ?_; refine vr_ixL (i := 2) rfl ?_)
  refine pad_cons (pd_int ?_)
  refine pad_nil ⟨by show 4 ≤ sizeLine; decide, ?_⟩
  refine pssd_cons (psd_if ?_)
  refine pwd_pt ?_
  refine pwd_or ?_
  refine ptd_not ?_
  refine ptd_val ?_
  refine pd_hasG L.is hA (hr.mono (by decide)) (fun _ => pass0At) ?_
  (refine pad_cons ?_; refine pd_var (i := 8) rfl rfl ?_)
  (refine pad_cons ?_; refine pd_var (i := 5) rfl rfl ?_)
  refine pad_nil ⟨sg, st, wo, _, rfl, gd.ok.rp, ?_⟩
  refine ⟨_, rfl, ?_⟩
  refine iteF ?_
  refine pwd_or1 ?_
  refine ptd_not ?_
  refine ptd_val ?_
  refine pd_hasG L.is hA (hr.mono (by decide)) (fun _ => pass0At) ?_
  (refine pad_cons ?_; refine pd_var (i := 9) rfl rfl ?_)
  (refine pad_cons ?_; refine pd_var (i := 11) rfl rfl ?_)
  refine pad_nil ⟨sg, st, wo, 0, rfl, gz.ok.rp, ?_⟩
  refine ⟨_, rfl, ?_⟩
  refine iteF ?_
  refine pssd_nil ?_
  -- what is told is changed
  refine pssd_cons (psd_set (i := 12) nd rfl ?_)
  refine pd_lst ?_
  refine pad_cons ?_
  refine pd_hasm0 c.cl L.st (hr.mono (by decide)) (fun _ => pass0At) ?_
  refine pd_var (i := 8) rfl rfl ?_
  refine ⟨ins_m (by decide +kernel), mst_O (by omega) fun ts wA t1 cA => ?_⟩
  refine pad_cons ?_
  refine pd_hasm0 c.cl L.wo (hr.mono (by decide)) (fun _ => pass0At) ?_
  refine pd_var (i := 8) rfl rfl ?_
  refine ⟨ins_m (by decide +kernel), mwo_O (by omega) fun us wB t2 cB => ?_⟩
  refine pad_nil ⟨by show 2 ≤ sizeLine; decide, ?_⟩
  have hx1 : ∀ x ∈ st.map fun x => x.map I, x.length ≤ 900 := fun x hx => by
    obtain ⟨y, hy, rfl⟩ := List.mem_map.mp hx
    rw [List.length_map, gd.gs.ln y hy]
    omega
  have hx2 : ∀ x ∈ wo.map fun x => x.map DL.T, x.length ≤ 900 := fun x hx => by
    obtain ⟨y, hy, rfl⟩ := List.mem_map.mp hx
    rw [List.length_map, gd.gw.ln y hy]
    omega
  have kA : LnOk wA t1 ts := cA.ln (by rw [List.length_map]; omega) (by rw [List.length_map]; omega) hx1
  have kB : LnOk wB t2 us := cB.ln (by rw [List.length_map]; omega) (by rw [List.length_map]; omega) hx2
  have far : ∀ z, (z = t2 ∨ z ∈ us) → ¬ (z = t1 ∨ z ∈ ts) := fun z h1 h2 => by
    have n := cB.new z h1
    rcases h2 with rfl | h2
    · rw [cA.outer] at n
      cases n
    · obtain ⟨xs, h3, _⟩ := kA.r z h2
      rw [h3] at n
      cases n
  have kA' : LnOk wB t1 ts := kA.same fun z h => by
    rcases h with rfl | h
    · rw [cB.keep _ _ cA.outer, cA.outer]
    · obtain ⟨xs, h3, _⟩ := kA.r z h
      rw [cB.keep _ _ h3, h3]
  have new : ∀ z ∈ t1 :: t2 :: (ts ++ us), w0 z = none := fun z h => by
    have nn : ∀ z, z = t2 ∨ z ∈ us → w0 z = none := fun z h => by
      have n := cB.new z h
      cases e : w0 z with
      | none => rfl
      | some y =>
        rw [cA.keep _ _ e] at n
        cases n
    simp only [List.mem_cons, List.mem_append] at h
    rcases h with h | h | h | h
    · exact cA.new z (.inl h)
    · exact nn z (.inl h)
    · exact cA.new z (.inr h)
    · exact nn z (.inr h)
  have oldB : ∀ z, z ∉ t1 :: t2 :: (ts ++ us) → wB z = w0 z := fun z h => by
    simp only [List.mem_cons, List.mem_append, not_or] at h
    rw [cB.out z h.2.2.2 h.2.1, cA.out z h.2.2.1 h.1]
  have g0 : ts[0]? = some (ts[0]'kA.p) := List.getElem?_eq_getElem kA.p
  have u0 : us[0]? = some (us[0]'kB.p) := List.getElem?_eq_getElem kB.p
  obtain ⟨xs0, e0, l0'⟩ := kA'.r _ (List.getElem_mem kA.p)
  have n0 : ts[0]'kA.p ≠ t1 := fun e => kA.n (by rw [← e]; exact List.getElem_mem kA.p)
  refine pssd_cons (psd_expr ?_)
  refine pd_bm PySem.F.plainAttrs_list PySem.F.slot_list_append PySem.F.type_list_append mt_append ?_
  refine pd_ix ix_list ?_
  refine pd_ix ix_list ?_
  refine pd_var (i := 12) rfl rfl ?_
  refine pd_int ?_
  refine vr_ixL (i := 0) rfl ?_
  refine pd_int ?_
  refine vr_ixO (i := 0) kA'.o (d := R (ts[0]'kA.p)) (by rw [List.getElem?_map, g0]; rfl) ?_
  refine ⟨⟨rfl, _, e0⟩, ?_⟩
  refine pad_cons (pd_int ?_)
  refine pad_nil ?_
  refine vm_append e0 (by rw [sizeLine_eq]; omega) ?_
  have kB2 : LnOk (wu wB (ts[0]'kA.p) (.lst (xs0 ++ [I 0]))) t2 us := kB.same fun z h => wu_ne fun e => far z h (.inr (by rw [e]; exact List.getElem_mem kA.p))
  have oA2 : (wu wB (ts[0]'kA.p) (.lst (xs0 ++ [I 0]))) t1 = some (.lst (ts.map R)) := by rw [wu_ne (Ne.symm n0)]; exact kA'.o
  have old2 : ∀ z, z ∉ t1 :: t2 :: (ts ++ us) → (wu wB (ts[0]'kA.p) (.lst (xs0 ++ [I 0]))) z = w0 z := fun z h => by
    rw [wu_ne fun e => h (by rw [e]; simp)]
    exact oldB z h
  generalize wu wB (ts[0]'kA.p) (.lst (xs0 ++ [I 0])) = wC at kB2 oA2 old2 ⊢
  obtain ⟨ys0, e1, m0⟩ := kB2.r _ (List.getElem_mem kB.p)
  refine pssd_cons (psd_expr ?_)
  refine pd_bm PySem.F.plainAttrs_list PySem.F.slot_list_append PySem.F.type_list_append mt_append ?_
  refine pd_ix ix_list ?_
  refine pd_ix ix_list ?_
  refine pd_var (i := 12) rfl rfl ?_
  refine pd_int ?_
  refine vr_ixL (i := 1) rfl ?_
  refine pd_int ?_
  refine vr_ixO (i := 0) kB2.o (d := R (us[0]'kB.p)) (by rw [List.getElem?_map, u0]; rfl) ?_
  refine ⟨⟨rfl, _, e1⟩, ?_⟩
  refine pad_cons (pd_str ?_)
  refine pad_nil ?_
  refine vm_append e1 (by rw [sizeLine_eq]; omega) ?_
  have nu : us[0]'kB.p ≠ t2 := fun e => kB.n (by rw [← e]; exact List.getElem_mem kB.p)
  have nt : us[0]'kB.p ≠ t1 := fun e => far _ (.inr (List.getElem_mem kB.p)) (.inl e)
  have oA3 : (wu wC (us[0]'kB.p) (.lst (ys0 ++ [DL.T "?"]))) t1 = some (.lst (ts.map R)) := by rw [wu_ne (Ne.symm nt)]; exact oA2
  have oB3 : (wu wC (us[0]'kB.p) (.lst (ys0 ++ [DL.T "?"]))) t2 = some (.lst (us.map R)) := by rw [wu_ne (Ne.symm nu)]; exact kB2.o
  have old3 : ∀ z, z ∉ t1 :: t2 :: (ts ++ us) → (wu wC (us[0]'kB.p) (.lst (ys0 ++ [DL.T "?"]))) z = w0 z := fun z h => by
    rw [wu_ne fun e => h (by rw [e]; simp)]
    exact old2 z h
  generalize wu wC (us[0]'kB.p) (.lst (ys0 ++ [DL.T "?"])) = wD at oA3 oB3 old3 ⊢
  refine pssd_cons (psd_expr ?_)
  refine pd_bm PySem.F.plainAttrs_list PySem.F.slot_list_append PySem.F.type_list_append mt_append ?_
  refine pd_ix ix_list ?_
  refine pd_var (i := 12) rfl rfl ?_
  refine pd_int ?_
  refine vr_ixL (i := 0) rfl ?_
  refine ⟨⟨rfl, _, oA3⟩, ?_⟩
  refine pad_cons ?_
  refine pd_lst ?_
  refine pad_nil ⟨by show 0 ≤ sizeLine; decide, ?_⟩
  refine pad_nil ?_
  have zt := kA.s
  refine vm_append oA3 (by rw [List.length_map, sizeLine_eq]; omega) ?_
  have n12 : t2 ≠ t1 := fun e => far t2 (.inl rfl) (.inl e)
  have oB4 : (wu wD t1 (.lst (ts.map R ++ [.lst []]))) t2 = some (.lst (us.map R)) := by rw [wu_ne n12]; exact oB3
  refine pssd_cons (psd_expr ?_)
  refine pd_bm0 PySem.F.plainAttrs_list PySem.F.slot_list_reverse PySem.F.type_list_reverse mt_reverse ?_
  refine pd_ix ix_list ?_
  refine pd_var (i := 12) rfl rfl ?_
  refine pd_int ?_
  refine vr_ixL (i := 1) rfl ?_
  refine ⟨⟨rfl, _, oB4⟩, ?_⟩
  refine vm_reverse oB4 ?_
  refine pssd_drops (t1 :: t2 :: (ts ++ us)) ?_
  have back : wds (wu (wu wD t1 (.lst (ts.map R ++ [.lst []]))) t2 (.lst (us.map R).reverse)) (t1 :: t2 :: (ts ++ us)) = w0 := by
    funext z
    rw [wds_at]
    by_cases h : z ∈ t1 :: t2 :: (ts ++ us)
    · rw [if_pos h, new z h]
    · rw [if_neg h, wu_ne fun e => h (by rw [e]; simp), wu_ne fun e => h (by rw [e]; simp)]
      exact old3 z h
  rw [back]
  -- rows
  refine pssd_cons (psd_set (i := 13) nd rfl ?_)
  refine pd_has L.bag (hr.mono (by decide)) (fun _ => pass0At) ?_
  (refine pad_cons ?_; refine pd_var (i := 0) rfl rfl ?_)
  refine pad_cons (pd_int ?_)
  refine pad_nil ⟨ns, 4, rfl, nl9, fun p q4 np ok4 => ?_⟩
  have lsg : (cl sg).length = sg.length := Array.length_toList
  refine pssd_cons (psd_set (i := 14) nd rfl ?_)
  refine pd_str ?_
  refine pssd_cons (psd_cut (fun δ' w' => ∃ r : Str, δ' = [some (.rd (ns.map I)), some (R a), some (DL.T sg), some (I (m : Int)), some (.lst [DL.T v1, DL.T v2, DL.T v3]), some (partD sg st wo (fn : Int)), some (R a1), some (R a2), some (mchD C sg st wo (fn : Int)), some (mchD C sg st wo 0), x10, some (partD sg st wo 0), some (.lst [R t1, R t2]), some (R p), some (DL.T r), none, none, none, none, none] ∧ w' = bgPut w0 p q4 ∧ r.length ≤ 60 ∧ ∀ d ∈ cl r, d ∈ cl sg) ?_ ?_)
  · refine psd_if ?_
    refine ptd_txt ?_
    refine pd_var (i := 2) rfl rfl ?_
    refine ⟨sg, rfl, by rw [sizeLine_eq]; omega, ?_⟩
    refine ite2 (fun c0 => ?_) (fun _ => ?_)
    · have pos := of_decide_eq_true c0
      refine pssd_one (psd_set (i := 14) nd rfl ?_)
      refine pd_bm PySem.F.plainAttrs_str PySem.F.slot_str_join PySem.F.type_str_join mt_join ?_
      refine pd_str ?_
      refine ⟨rfl, ?_⟩
      refine pad_cons ?_
      refine pd_lc (own := [("cell", 18)]) (is := [18]) rfl nd (blkOk_by rfl) (by decide) ?_
      refine it_list ?_
      refine pd_op op_cat ?_
      refine pd_op op_cat ?_
      refine pd_slTo (n := 1) ?_
      refine pd_var (i := 0) rfl rfl ?_
      refine ⟨_, .inr rfl, ?_⟩
      refine pd_slMidL (m := 2) (n := 3) ?_
      refine pd_var (i := 0) rfl rfl ?_
      refine ⟨_, .inr rfl, ?_⟩
      refine vr_cat (by rw [List.length_take, List.length_take, sizeLine_eq]; omega) ?_
      refine pd_slMidL (m := 5) (n := 63) ?_
      refine pd_var (i := 0) rfl rfl ?_
      refine ⟨_, .inr rfl, ?_⟩
      refine vr_cat (by rw [List.length_append, List.length_take, List.length_take, List.length_take, sizeLine_eq]; omega) ?_
      have ecs : ((ns.map I).take 1 ++ ((ns.map I).drop 2).take (3 - 2)) ++ ((ns.map I).drop 5).take (63 - 5) = ((ns.take 1 ++ (ns.drop 2).take (3 - 2)) ++ (ns.drop 5).take (63 - 5)).map I := by
        simp only [List.map_append, List.map_take, List.map_drop]
      rw [ecs]
      have l60 : ((ns.take 1 ++ (ns.drop 2).take (3 - 2)) ++ (ns.drop 5).take (63 - 5)).length ≤ 60 := by
        simp only [List.length_append, List.length_take, List.length_drop]
        omega
      generalize (ns.take 1 ++ (ns.drop 2).take (3 - 2)) ++ (ns.drop 5).take (63 - 5) = cs at l60
      refine ⟨_, rfl, ?_⟩
      refine ⟨by rw [List.length_map, sizeLine_eq]; omega, fun i acc w' => ∃ zs : List Nat, acc = (zs.map fun c => (⟨#[c]⟩ : Str)).map DL.T ∧ zs.length = i ∧ (∀ c ∈ zs, c ∈ cl sg) ∧ w' = bgPut w0 p q4, ⟨[], rfl, rfl, fun c h => (by cases h), rfl⟩, ?_, ?_⟩
      · rintro i d acc w' hd ⟨zs, rfl, zl, zi, rfl⟩ s H0 C1 cl1 fp1
        rw [List.getElem?_map] at hd
        cases ev : cs[i]? with
        | none =>
          rw [ev] at hd
          cases hd
        | some v =>
          rw [ev] at hd
          cases hd
          refine pgl_name (i := 18) nd rfl ?_
          intro s H0 C1 cl1 fp1
          refine ptsd_nil ?_
          rw [if_pos rfl]
          intro s H0 C1 cl1 fp1
          refine pd_ix ix_str ?_
          refine pd_var (i := 2) rfl rfl ?_
          refine pd_op op_mod ?_
          refine pd_callTy call_int1 rfl hm.int PyProof.Rows.boot_int ?_
          (refine pad_cons ?_; refine pd_var (i := 18) rfl rfl ?_)
          refine pad_nil ?_
          refine va_int ?_
          refine pd_callB call_len rfl hm.len PySem.boot_len ?_
          (refine pad_cons ?_; refine pd_var (i := 2) rfl rfl ?_)
          refine pad_nil ?_
          refine va_lenS (by rw [sizeLine_eq]; omega) ?_
          refine vr_IC (by omega) ?_
          have j0 : 0 ≤ v % (sg.length : Int) := Int.emod_nonneg _ (by omega)
          have j1 : v % (sg.length : Int) < (sg.length : Int) := Int.emod_lt_of_pos _ (by omega)
          obtain ⟨j, ej⟩ := Int.eq_ofNat_of_zero_le j0
          rw [ej] at j1 ⊢
          have jl : j < (cl sg).length := by omega
          refine vr_ixSx (i := j) (c := (cl sg)[j]) (by rw [sizeLine_eq]; omega) (List.getElem?_eq_getElem jl) ?_
          refine ⟨zs ++ [(cl sg)[j]], by rw [List.map_append, List.map_append]; rfl, by rw [List.length_append, zl]; rfl, fun c hc => ?_, rfl⟩
          rcases List.mem_append.mp hc with h | h
          · exact zi c h
          · rw [List.mem_singleton.mp h]
            exact List.getElem_mem jl
      rintro acc w' ⟨zs, rfl, zl, zi, rfl⟩
      rw [List.length_map] at zl
      refine pad_nil ?_
      refine vm_join (by rw [sum_ones, List.length_map, show ("" : Str).length = 0 from by decide +kernel]; omega) ?_
      have ez := txt_ones zs
      have lz : (cl (Txt.join ("" : Str) (zs.map fun c => (⟨#[c]⟩ : Str)))).length = (Txt.join ("" : Str) (zs.map fun c => (⟨#[c]⟩ : Str))).length := Array.length_toList
      refine ⟨_, rfl, rfl, by rw [← lz]; show (Txt.join _ _).cps.toList.length ≤ 60; rw [ez]; omega, fun d hd => zi d ?_⟩
      have hd' : d ∈ (Txt.join ("" : Str) (zs.map fun c => (⟨#[c]⟩ : Str))).cps.toList := hd
      rwa [ez] at hd'
    · refine pssd_nil ⟨"", rfl, rfl, by rw [show ("" : Str).length = 0 from by decide +kernel]; omega, fun d hd => ?_⟩
      rw [show cl ("" : Str) = [] from by decide +kernel] at hd
      cases hd
  rintro δ' w' ⟨row, rfl, rfl, rl, ri⟩
  -- signs that are none
  obtain ⟨po0, po1, po2⟩ := outs_ok so
  refine pssd_cons (psd_setLc (i := 4) (own := [("char", 19)]) (is := [19]) rfl nd rfl rfl rfl (blkOk_by rfl) (by decide) ?_)
  refine it_str ?_
  refine pd_str ?_
  refine ⟨outT, rfl, ?_⟩
  refine lcd_filter (fun c => !decide (c ∈ cl sg)) (fun c => DL.T (letS c)) (by rw [Array.length_toList]; show outT.length < _; rw [out_len, sizeLine_eq]; decide) (fun c hc s H0 C1 cl1 fp1 => ?_) ?_
  · refine pgl_name (i := 19) nd rfl ?_
    intro s H0 C1 cl1 fp1
    refine ptsd_one ?_
    refine ptd_cmp op_notIn_sign ?_
    refine pd_var (i := 19) rfl rfl ?_
    refine pd_var (i := 2) rfl rfl ?_
    refine vr_ninSg ?_
    refine ⟨_, rfl, ?_⟩
    refine ite2 (fun c1 => fun s H0 C cl fp => ?_) (fun c1 => ⟨by simpa using c1, rfl⟩)
    refine pd_var (i := 19) rfl rfl ?_
    exact ⟨c1, rfl, rfl⟩
  have lps : ((outs sg).map fun c => DL.T (letS c)).length = (outs sg).length := List.length_map _
  refine pssd_cons (psd_for PassesOwn.never rfl ?_)
  refine it_list ?_
  refine pd_lst ?_
  (refine pad_cons ?_; refine pd_var (i := 14) rfl rfl ?_)
  refine pad_cons ?_
  refine pd_has L.row (hr.mono (by decide)) (fun _ => pass0At) ?_
  (refine pad_cons ?_; refine pd_var (i := 13) rfl rfl ?_)
  (refine pad_cons ?_; refine pd_var (i := 2) rfl rfl ?_)
  refine pad_cons (pd_int ?_)
  refine pad_nil ⟨p, q4, sg, 9, rfl, bg_put, ok4, s26, by decide, fun r1 q5 ok5 r1l r1i => ?_⟩
  rw [bg_put2]
  refine pad_cons ?_
  refine pd_op op_add_str ?_
  refine pd_op op_mulN ?_
  refine pd_var (i := 14) rfl rfl ?_
  refine pd_int ?_
  refine vr_mulN (k := 4) (by omega) (by decide) ?_
  refine pd_has L.row (hr.mono (by decide)) (fun _ => pass0At) ?_
  (refine pad_cons ?_; refine pd_var (i := 13) rfl rfl ?_)
  (refine pad_cons ?_; refine pd_var (i := 2) rfl rfl ?_)
  refine pad_cons (pd_int ?_)
  refine pad_nil ⟨p, q5, sg, 3, rfl, bg_put, ok5, s26, by decide, fun r2 q6 ok6 r2l r2i => ?_⟩
  rw [bg_put2]
  have ml := mulN_len row 4
  refine vr_addS (by rw [sizeLine_eq, ml]; omega) ?_
  refine pad_cons (pd_str ?_)
  refine pad_nil ⟨by show 4 ≤ sizeLine; decide, ?_⟩
  refine ⟨_, rfl, fun i δ' w' => ∃ (x15 x16 x17 : Option D) (q : Bg), δ' = [some (.rd (ns.map I)), some (R a), some (DL.T sg), some (I (m : Int)), some (.lst ((outs sg).map fun c => DL.T (letS c))), some (partD sg st wo (fn : Int)), some (R a1), some (R a2), some (mchD C sg st wo (fn : Int)), some (mchD C sg st wo 0), x10, some (partD sg st wo 0), some (.lst [R t1, R t2]), some (R p), some (DL.T row), x15, x16, x17, none, none] ∧ w' = bgPut w0 p q ∧ BgOk q, ⟨none, none, none, q6, rfl, rfl, ok6⟩, ?_, ?_⟩
  · rintro i d δ' w' hd ⟨x15, x16, x17, q, rfl, rfl, okq⟩
    obtain ⟨o, rfl, ol, oi⟩ : ∃ o : Str, d = DL.T o ∧ o.length ≤ 300 ∧ ∀ c ∈ cl o, c ∈ cl sg := by
      match i, hd with
      | 0, hd => cases hd; exact ⟨row, rfl, by omega, ri⟩
      | 1, hd => cases hd; exact ⟨r1, rfl, by omega, r1i⟩
      | 2, hd =>
        cases hd
        refine ⟨mulN row 4 ++ r2, rfl, by rw [Str.length_append, ml]; omega, fun c hc => ?_⟩
        rw [cl_cat] at hc
        rcases List.mem_append.mp hc with h | h
        · exact ri c (mulN_mem h)
        · exact r2i c h
      | 3, hd =>
        cases hd
        refine ⟨"", rfl, by rw [show ("" : Str).length = 0 from by decide +kernel]; omega, fun c hc => ?_⟩
        rw [show cl ("" : Str) = [] from by decide +kernel] at hc
        cases hc
      | n + 4, hd => cases hd
    have lo : (cl o).length = o.length := Array.length_toList
    refine pgd_name (i := 15) nd rfl ?_
    refine pssd_cons (psd_set (i := 16) nd rfl ?_)
    refine pd_take L.tak (hr.mono (by decide)) (i := 13) rfl rfl bg_put okq ?_
    refine pd_op op_add ?_
    refine pd_callB call_len rfl hm.len PySem.boot_len ?_
    (refine pad_cons ?_; refine pd_var (i := 15) rfl rfl ?_)
    refine pad_nil ?_
    refine va_lenS (by rw [sizeLine_eq]; omega) ?_
    refine pd_int ?_
    refine vr_I ?_
    refine ⟨rfl, _, rfl, by omega, lg9' (by omega) (by omega), fun y q7 y0 y1 ok7 => ?_⟩
    rw [bg_put2]
    obtain ⟨pl, rfl⟩ := Int.eq_ofNat_of_zero_le y0
    refine pssd_cons (psd_set (i := 17) nd rfl ?_)
    refine pd_op op_add_str ?_
    refine pd_op op_add_str ?_
    refine pd_op op_add_str ?_
    refine pd_slTC ?_
    refine pd_var (i := 15) rfl rfl ?_
    refine pd_var (i := 16) rfl rfl ?_
    refine ⟨o, _, rfl, rfl, by rw [sizeLine_eq]; omega, ?_⟩
    rw [cut_toS]
    refine pd_ix ix_list ?_
    refine pd_var (i := 4) rfl rfl ?_
    refine pd_take L.tak (hr.mono (by decide)) (i := 13) rfl rfl bg_put ok7 ?_
    refine pd_callB call_len_seq rfl hm.len PySem.boot_len ?_
    (refine pad_cons ?_; refine pd_var (i := 4) rfl rfl ?_)
    refine pad_nil ?_
    refine va_len ?_
    rw [lps]
    refine ⟨rfl, _, rfl, by omega, lg9' (by omega) (by omega), fun z q8 z0 z1 ok8 => ?_⟩
    rw [bg_put2]
    obtain ⟨j, rfl⟩ := Int.eq_ofNat_of_zero_le z0
    have jl : j < (outs sg).length := by omega
    refine vr_ixL (i := j) (d := DL.T (letS (outs sg)[j])) (by rw [List.getElem?_map, List.getElem?_eq_getElem jl]; rfl) ?_
    have t1l : (toS (o.cps.toList.take pl)).length ≤ 300 := by
      rw [toS_len, List.length_take]
      show min pl (cl o).length ≤ 300
      omega
    have t2l : (toS (o.cps.toList.drop pl)).length ≤ 300 := by
      rw [toS_len, List.length_drop]
      show (cl o).length - pl ≤ 300
      omega
    have l1 : (letS (outs sg)[j]).length = 1 := rfl
    refine vr_addS (by rw [l1, sizeLine_eq]; omega) ?_
    refine pd_slFC ?_
    refine pd_var (i := 15) rfl rfl ?_
    refine pd_var (i := 16) rfl rfl ?_
    refine ⟨o, _, rfl, rfl, by rw [sizeLine_eq]; omega, ?_⟩
    rw [cut_fromS]
    refine vr_addS (by rw [Str.length_append, l1, sizeLine_eq]; omega) ?_
    refine pd_str ?_
    have lq : ("?" : Str).length = 1 := by decide +kernel
    refine vr_addS (by rw [Str.length_append, Str.length_append, l1, lq, sizeLine_eq]; omega) ?_
    have ok1 : RwOk sg st wo fn o (spoilS o pl (outs sg)[j]) pl (outs sg)[j] := rw_spoil gd ol oi (by omega) (List.getElem_mem jl)
    have ok0 : RwOk sg st wo 0 o (spoilS o pl (outs sg)[j]) pl (outs sg)[j] := rw_spoil gz ol oi (by omega) (List.getElem_mem jl)
    refine pssd_cons (psd_if ?_)
    refine ptd_not ?_
    refine ptd_val ?_
    refine pd_hasG L.rwg hA hr (fun _ => pass0At) ?_
    (refine pad_cons ?_; refine pd_var (i := 8) rfl rfl ?_)
    (refine pad_cons ?_; refine pd_var (i := 5) rfl rfl ?_)
    (refine pad_cons ?_; refine pd_var (i := 15) rfl rfl ?_)
    (refine pad_cons ?_; refine pd_var (i := 17) rfl rfl ?_)
    (refine pad_cons ?_; refine pd_var (i := 16) rfl rfl ?_)
    refine pad_nil ⟨sg, st, wo, fn, o, _, pl, _, rfl, ok1, ?_⟩
    refine ⟨_, rfl, ?_⟩
    refine iteF ?_
    refine pssd_nil ?_
    refine pssd_one (psd_if ?_)
    refine ptd_not ?_
    refine ptd_val ?_
    refine pd_hasG L.rwg hA hr (fun _ => pass0At) ?_
    (refine pad_cons ?_; refine pd_var (i := 9) rfl rfl ?_)
    (refine pad_cons ?_; refine pd_var (i := 11) rfl rfl ?_)
    (refine pad_cons ?_; refine pd_var (i := 15) rfl rfl ?_)
    (refine pad_cons ?_; refine pd_var (i := 17) rfl rfl ?_)
    (refine pad_cons ?_; refine pd_var (i := 16) rfl rfl ?_)
    refine pad_nil ⟨sg, st, wo, 0, o, _, pl, _, rfl, ok0, ?_⟩
    refine ⟨_, rfl, ?_⟩
    refine iteF ?_
    exact pssd_nil ⟨_, _, _, q8, rfl, rfl, ok8⟩
  rintro δ' w' ⟨x15, x16, x17, q, rfl, rfl, okq⟩
  refine pssd_cons (psd_if ?_)
  refine pwd_pt ?_
  refine pwd_or ?_
  refine ptd_not ?_
  refine ptd_val ?_
  refine pd_has L.rfg hr (fun _ => pass0At) ?_
  (refine pad_cons ?_; refine pd_var (i := 13) rfl rfl ?_)
  (refine pad_cons ?_; refine pd_var (i := 5) rfl rfl ?_)
  refine pad_nil ⟨p, q, sg, st, wo, _, rfl, bg_put, okq, gd, fun q9 ok9 => ?_⟩
  rw [bg_put2]
  refine ⟨_, rfl, ?_⟩
  refine iteF ?_
  refine pwd_or1 ?_
  refine ptd_not ?_
  refine ptd_val ?_
  refine pd_hasG L.eqg hA hr (fun _ => pass0At) ?_
  (refine pad_cons ?_; refine pd_var (i := 13) rfl rfl ?_)
  (refine pad_cons ?_; refine pd_var (i := 8) rfl rfl ?_)
  (refine pad_cons ?_; refine pd_var (i := 5) rfl rfl ?_)
  refine pad_nil ⟨p, q9, sg, st, wo, _, rfl, bg_put, ok9, gd, fun q10 ok10 => ?_⟩
  rw [bg_put2]
  refine ⟨_, rfl, ?_⟩
  refine iteF ?_
  refine pssd_nil ?_
  refine pssd_one (psd_ret ?_)
  refine pd_and ?_
  refine pd_hasG L.is hA (hr.mono (by decide)) (fun _ => pass0At) ?_
  (refine pad_cons ?_; refine pd_var (i := 8) rfl rfl ?_)
  (refine pad_cons ?_; refine pd_var (i := 5) rfl rfl ?_)
  refine pad_nil ⟨sg, st, wo, _, rfl, gd.ok.rp, ?_⟩
  refine ⟨_, rfl, ?_⟩
  refine iteT ?_
  refine pd_one ?_
  refine pd_hasG L.is hA (hr.mono (by decide)) (fun _ => pass0At) ?_
  (refine pad_cons ?_; refine pd_var (i := 9) rfl rfl ?_)
  (refine pad_cons ?_; refine pd_var (i := 11) rfl rfl ?_)
  refine pad_nil ⟨sg, st, wo, 0, rfl, gz.ok.rp, ?_⟩
  exact k _
end
end Tw

set_option Elab.async false
set_option linter.all false
set_option maxRecDepth 100000
set_option maxHeartbeats 4000000
/-! What the text holds. -/
namespace Tw
open PySem PySem.Spec PyProof.Rows L2 LamX DL
/-- a def of the top -/
def TopDef (K : PySem.W.Frag) (x : Str) (st : Stmt) : Prop := ∃ f fd, PySem.W.nsIn K mainGlobals x = some (some (.ref f)) ∧ Fun K x x st f fd
def MethDef (K : PySem.W.Frag) (C : Addr) (m qual : Str) (st : Stmt) : Prop := ∃ f fd, Meth K C m f ∧ Fun K m qual st f fd
def ErrDef (P : Program) (K : PySem.W.Frag) (C : Addr) (qual f : Str) (st : Stmt) : Prop := ∃ fI cc cda fd, SupTxt P K (fun _ => none) C fI cc cda qual st fd ∧ OexC K C ∧ PySem.W.findIn K (.ref C) f = some none ∧ PySem.W.findIn K (.ref C) "__init__" = some (some (.ref fI)) ∧ PySem.W.typeIn K (.ref fI) = some (.type "function")
abbrev free (K : PySem.W.Frag) (x : Str) : Prop := PySem.W.nsIn K mainGlobals x = some none
abbrev glob (K : PySem.W.Frag) (x : Str) (C : Addr) : Prop := PySem.W.nsIn K mainGlobals x = some (some (.ref C))
section
variable {P : Program} {w : PySem.World} {K : PySem.W.Frag} {mg : Str → Option Value} {base : Heap} {T : List (Addr × Str)} {C : Addr} {h : Heap}
/-- of a def of the top -/
theorem has_of {CX : CXT} {x : Str} {st : Stmt} {k : Nat} {ps : List Str} {sp : SpD} (X : K.In h) (G : h.Ns mainGlobals mg) (d : TopDef K x st)
    (hb : ∀ (kV doc pm : Value) (an : Option Addr) (cdv ct : Value) (us : List Value), us.length = ps.length → bindArgs (PySem.W.fnOf x x (defArgs st) (defBody st) (defScope st) .none kV doc pm an cdv ct) ⟨us, []⟩ = pure (ps.zip us))
    (ok : ∀ f fd, Fun K x x st f fd → mg x = some (.ref f) → L2.Binds K fd ps [] → FnOk P w K mg base CX k f fd ps (spOf K T sp)) : HasF P w K mg base T CX x k ps sp := by
  obtain ⟨f, fd, h1, h2⟩ := d
  have hb' := h2.binds (ps := ps) hb
  exact ⟨f, fd, ok f fd h2 (PySem.W.mg_of X G h1) hb', PySem.W.mg_of X G h1, h2.kp, hb'⟩
theorem hasm_of {CX : CXT} {m qual : Str} {st : Stmt} {k : Nat} {ps : List Str} {sp : SpD} (d : MethDef K C m qual st)
    (hb : ∀ (kV doc pm : Value) (an : Option Addr) (cdv ct : Value) (us : List Value), us.length = ps.length → bindArgs (PySem.W.fnOf m qual (defArgs st) (defBody st) (defScope st) .none kV doc pm an cdv ct) ⟨us, []⟩ = pure (ps.zip us))
    (ok : ∀ f fd, Fun K m qual st f fd → FnOk P w K mg base CX k f fd ps (spOf K T sp)) : HasM P w K mg base T CX C m k ps sp := by
  obtain ⟨f, fd, h1, h2⟩ := d
  exact ⟨f, fd, ok f fd h2, h1, h2.binds (ps := ps) hb⟩
end
def ErrDef2 (P : Program) (K : PySem.W.Frag) (C : Addr) (qual f g : Str) (st : Stmt) : Prop := ∃ fI cc cda fd, SupTxt P K (fun _ => none) C fI cc cda qual st fd ∧ OexC K C ∧ PySem.W.findIn K (.ref C) f = some none ∧ PySem.W.findIn K (.ref C) g = some none ∧ PySem.W.findIn K (.ref C) "__init__" = some (some (.ref fI)) ∧ PySem.W.typeIn K (.ref fI) = some (.type "function")
structure KF (P : Program) (K : PySem.W.Frag) (C CT CU CB : Addr) : Prop where
  gM : glob K "Machine" C
  gT : glob K "ThinwallError" CT
  gU : glob K "UnknownDeed" CU
  gB : glob K "BadMachine" CB
  n_len : free K "len"
  n_list : free K "list"
  n_set : free K "set"
  n_sorted : free K "sorted"
  n_all : free K "all"
  n_any : free K "any"
  n_isinstance : free K "isinstance"
  n_range : free K "range"
  n_repr : free K "repr"
  n_enumerate : free K "enumerate"
  n_zip : free K "zip"
  n_int : free K "int"
  n_abs : free K "abs"
  n_sum : free K "sum"
  n_super : free K "super"
  n_ValueError : free K "ValueError"
  d1 : TopDef K "is_sign" sIsSg
  d2 : TopDef K "check_row" sCkRow
  d3 : TopDef K "_check_machine" sCkM
  d4 : TopDef K "_law_bag" sBag
  d5 : TopDef K "_law_take" sTake
  d6 : TopDef K "_law_signs_row" sSgn
  d7 : TopDef K "_law_word" sWrd
  d8 : TopDef K "_law_parts" sPrt
  d9 : TopDef K "_law_copy" sCpy
  d10 : TopDef K "_law_machine" sLM
  d11 : TopDef K "_law_is" sLIs
  d12 : TopDef K "_law_run" sRun
  d13 : TopDef K "_law_row" sRow
  d14 : TopDef K "_law_refused" sRfs
  d15 : TopDef K "_law_default_refused" sDrf
  d16 : TopDef K "_law_bad_signs" sBsg
  d17 : TopDef K "_law_bad_steps" sBst
  d18 : TopDef K "_law_bad_words" sBwo
  d19 : TopDef K "_law_refusals_good" sRfg
  d20 : TopDef K "_law_changed" sChg
  d21 : TopDef K "_law_equal_good" sEqg
  d22 : TopDef K "_law_unknown" sUnk
  d23 : TopDef K "_law_rows_good" sRwg
  d24 : TopDef K "law" sLaw
  iM : ∃ f fd, PySem.W.findIn K (.ref C) "__init__" = some (some (.ref f)) ∧ PySem.W.isFn K (.ref f) = true ∧ FunD K "__init__" "Machine.__init__" (defArgs sMI) (defBody sMI) (defScope sMI) [] [("first", V.int 0)] f fd
  iC : ∃ g fd, StX.CallO K C g ∧ Fun K "__call__" "Machine.__call__" sMCall g fd
  mS : MethDef K C "steps" "Machine.steps" sMS
  mW : MethDef K C "words" "Machine.words" sMW
  mA : MethDef K C "after" "Machine.after" sMA
  mE : MethDef K C "__eq__" "Machine.__eq__" sMEq
  mN : MethDef K C "__ne__" "Machine.__ne__" sMNe
  mL : MethDef K C "__len__" "Machine.__len__" sMLen
  mY : MethDef K C "_way" "Machine._way" sMWay
  mkC : PySem.W.makesIn K C = true
  kpC : PySem.W.keepIn K (.ref C) = true
  mC : MchC K C
  mQ : MchQ K C
  xU : ErrDef2 P K CU "UnknownDeed.__init__" "sign" "place" sUnkDeed
  xB : ErrDef P K CB "BadMachine.__init__" "part" sBadMach
  exB : PySem.W.exmOne K (.ref CB) (.ref CB) = some true
  exT : PySem.W.exmOne K (.ref CB) (.ref CT) = some true
  exU : PySem.W.exmOne K (.ref CU) (.ref CU) = some true
  ecB : L2.ExcC K CB
  ecU : L2.ExcC K CU
  xfB : XfC K CB
  xfU : XfC K CU
  bV : PySem.W.kitOne K (.ref CB) (.type "ValueError") = some true
  bT : PySem.W.kitOne K (.ref CB) (.ref CT) = some true
  bU : PySem.W.kitOne K (.ref CB) (.ref CU) = some false
  bB : PySem.W.kitOne K (.ref CB) (.ref CB) = some true
  uV : PySem.W.kitOne K (.ref CU) (.type "ValueError") = some true
  uT : PySem.W.kitOne K (.ref CU) (.ref CT) = some true
  uB : PySem.W.kitOne K (.ref CU) (.ref CB) = some false
end Tw

set_option Elab.async false
set_option linter.all false
set_option maxRecDepth 100000
set_option maxHeartbeats 4000000
namespace Tw
open PySem PySem.Spec PyProof.Rows L2 LamX DL
section
variable {P : Program} {w : PySem.World} {K : PySem.W.Frag} {mg : Str → Option Value} {base : Heap} {T : List (Addr × Str)} {C CT CU CB : Addr} {h : Heap}
theorem haset_of {C : Addr} {x qual f : Str} {st : Stmt} (X : K.In h) (G : h.Ns mainGlobals mg) (gx : glob K x C) (ns : free K "super") (d : ErrDef P K C qual f st)
    (hb : ∀ (cl : List (Str × Addr)) (kV doc pm : Value) (an : Option Addr) (cdv ct : Value) (us : List Value), us.length = 2 → bindArgs (PySem.W.fnX "__init__" qual (defArgs st) (defBody st) (defScope st) cl .none kV doc pm an cdv ct) ⟨us, []⟩ = pure ((["self", f] : List Str).zip us))
    (ok : ∀ fI cc cda fd, SupTxt P K mg C fI cc cda qual st fd → OexC K C → PySem.W.findIn K (.ref C) f = some none → FnOk P w K mg base CX0 1 fI fd ["self", f] (spX1 C f strFits)) : HasET P w K mg base x C 1 f := by
  obtain ⟨fI, cc, cda, fd, h1, h2, h3, h4, h5⟩ := d
  have h1' : SupTxt P K mg C fI cc cda qual st fd := ⟨h1.ex, h1.code, h1.cell, h1.along, h1.opq, h1.sub, h1.selfc, PySem.W.mg_none_of X G ns, h1.top⟩
  refine ⟨fI, fd, ok fI cc cda fd h1' h2 h3, PySem.W.mg_of X G gx, h2, h4, h5, ?_⟩
  obtain ⟨oc, od, kV, doc, pm, an, ct, osl, rfl, _, _⟩ := h1.ex
  exact .all (hb _ kV doc pm an _ ct)
theorem hased_of {C : Addr} {x qual : Str} {st : Stmt} (X : K.In h) (G : h.Ns mainGlobals mg) (gx : glob K x C) (ns : free K "super") (d : ErrDef2 P K C qual "sign" "place" st)
    (hb : ∀ (cl : List (Str × Addr)) (kV doc pm : Value) (an : Option Addr) (cdv ct : Value) (us : List Value), us.length = 3 → bindArgs (PySem.W.fnX "__init__" qual (defArgs st) (defBody st) (defScope st) cl .none kV doc pm an cdv ct) ⟨us, []⟩ = pure ((["self", "sign", "place"] : List Str).zip us))
    (ok : ∀ fI cc cda fd, SupTxt P K mg C fI cc cda qual st fd → OexC K C → PySem.W.findIn K (.ref C) "sign" = some none → PySem.W.findIn K (.ref C) "place" = some none → FnOk P w K mg base CX0 1 fI fd ["self", "sign", "place"] (spX2b C "sign" "place" strFits intFits)) : HasED P w K mg base x C 1 := by
  obtain ⟨fI, cc, cda, fd, h1, h2, h3, h3', h4, h5⟩ := d
  have h1' : SupTxt P K mg C fI cc cda qual st fd := ⟨h1.ex, h1.code, h1.cell, h1.along, h1.opq, h1.sub, h1.selfc, PySem.W.mg_none_of X G ns, h1.top⟩
  refine ⟨fI, fd, ok fI cc cda fd h1' h2 h3 h3', PySem.W.mg_of X G gx, h2, h4, h5, ?_⟩
  obtain ⟨oc, od, kV, doc, pm, an, ct, osl, rfl, _, _⟩ := h1.ex
  exact .all (hb _ kV doc pm an _ ct)
/-- of a def of the top that wants no guard -/
theorem hasg_of {CX : CXT} {x : Str} {st : Stmt} {k : Nat} {ps : List Str} {sp : SpD} (X : K.In h) (G : h.Ns mainGlobals mg) (d : TopDef K x st)
    (hb : ∀ (kV doc pm : Value) (an : Option Addr) (cdv ct : Value) (us : List Value), us.length = ps.length → bindArgs (PySem.W.fnOf x x (defArgs st) (defBody st) (defScope st) .none kV doc pm an cdv ct) ⟨us, []⟩ = pure (ps.zip us))
    (ok : ∀ f fd, Fun K x x st f fd → FnG P w K mg base CX k f fd ps (spOf K T sp)) : HasG P w K mg base T CX x k ps sp := by
  obtain ⟨f, fd, h1, h2⟩ := d
  exact ⟨f, fd, ok f fd h2, PySem.W.mg_of X G h1, h2.kp, h2.binds (ps := ps) hb⟩
theorem all_mk {fa : Addr} (X : K.In h) (G : h.Ns mainGlobals mg) (F : KF P K C CT CU CB) (hfa : mg "law" = some (.ref fa)) :
    ∃ fd : FuncData, (∀ (s : Shared) (us : List Value), us.length = (["script"] : List Str).length → BindsTo s fd ⟨us, []⟩ ((["script"] : List Str).zip us)) ∧
      ∀ base : Heap, FnG P w K mg base CX0 8 fa fd ["script"] (spOf K [] spLaw) := by
  obtain ⟨fL, fdL, l1, l2⟩ := F.d24
  have e := hfa.symm.trans (PySem.W.mg_of X G l1)
  cases e
  have nn : ∀ {x : Str}, free K x → mg x = none := fun z => PySem.W.mg_none_of X G z
  have gg : ∀ {x : Str} {C : Addr}, glob K x C → mg x = some (.ref C) := fun z => PySem.W.mg_of X G z
  have hm : Nm35 mg := ⟨nn F.n_len, nn F.n_list, nn F.n_set, nn F.n_sorted, nn F.n_all, nn F.n_any, nn F.n_isinstance, nn F.n_range, nn F.n_repr, nn F.n_enumerate, nn F.n_zip, nn F.n_int, nn F.n_abs, nn F.n_sum⟩
  have er : ErrM K mg CT CU CB := by
    obtain ⟨_, _, _, _, _, _, f0, _, _⟩ := F.xB
    obtain ⟨_, _, _, _, _, _, f1, f2, _, _⟩ := F.xU
    exact ⟨gg F.gT, gg F.gU, gg F.gB, nn F.n_ValueError, F.exB, F.exT, F.exU, F.ecB, F.ecU, F.xfB, F.xfU, f0, f1, f2, F.bV, F.bT, F.bU, F.bB, F.uV, F.uT, F.uB⟩
  refine ⟨fdL, fun s us hu => ?_, fun base => ?_⟩
  · obtain ⟨oc, od, kV, doc, pm, an, cdv, ct, osl, rfl, _, _⟩ := l2.ex
    exact match us, hu with | [_], _ => .of_eq rfl
  generalize ([] : List (Addr × Str)) = T
  have hET : HasET P w K mg base "BadMachine" CB 1 "part" := haset_of X G F.gB F.n_super F.xB (fun _ _ _ _ _ _ _ us hl => match us, hl with | [_, _], _ => rfl) fun _ _ _ _ a b c => ok_bm a b c
  have hED : HasED P w K mg base "UnknownDeed" CU 1 := hased_of X G F.gU F.n_super F.xU (fun _ _ _ _ _ _ _ us hl => match us, hl with | [_, _, _], _ => rfl) fun _ _ _ _ a b c d => ok_ud a b c d
  have hSg : HasF P w K mg base T CX0 "is_sign" 1 ["text"] spIsSg := has_of X G F.d1 (fun _ _ _ _ _ _ us hl => match us, hl with | [_], _ => rfl) fun _ _ g _ _ => ok_isSg g hm.len
  have hCr : HasF P w K mg base T (L2N.CX P w) "check_row" 3 ["row", "signs"] (spCkRow CU) := has_of X G F.d2 (fun _ _ _ _ _ _ us hl => match us, hl with | [_, _], _ => rfl) fun _ _ g _ _ => ok_ckrow g hm.enumerate hED
  have hCk : HasF P w K mg base T (L2N.CX P w) "_check_machine" 3 ["signs", "steps", "words", "first"] (spCkM CB) := has_of X G F.d3 (fun _ _ _ _ _ _ us hl => match us, hl with | [_, _, _, _], _ => rfl) fun _ _ g _ _ => ok_ckm g hm hSg hET
  have hMi : HasMi P w K mg base T C CB := by
    obtain ⟨f, fd, h1, h2, h3⟩ := F.iM
    obtain ⟨mv, kb⟩ := h3.kbinds0 (ps := ["self", "signs", "steps", "words", "first"]) 4 ["first"] [] (fun vs mz zs => vs ++ zs) (by simp) (fun q hq => by cases hq) (fun r1 _ r3 => r1.append r3) (fun _ _ _ _ _ _ us mv ws h1 h2 h3 => match us, mv, ws, h1, h2, h3 with | [_, _, _, _], [], [_], _, _, _ => rfl)
    obtain ⟨ds, v1, b1⟩ := h3.binds0 (ps := ["self", "signs", "steps", "words", "first"]) 4 (by simp) rfl (fun _ _ _ _ _ _ us ks h1 h2 => match us, ks, h1, h2 with | [_, _, _, _], [_], _, _ => ⟨_, _, _, _, _, _, rfl, rfl, rfl⟩)
    exact ⟨f, fd, ds, ok_mi h3 hm F.mC hCk, gg F.gM, ⟨F.mkC, h1, h2, F.kpC⟩, kb, v1, b1⟩
  have mStS : HasM P w K mg base T CX0 C "steps" 1 ["self"] (spMStS C) := hasm_of F.mS (fun _ _ _ _ _ _ us hl => match us, hl with | [_], _ => rfl) fun _ _ g => ok_mstS g hm F.mC
  have mStO : HasM P w K mg base T CX0 C "steps" 1 ["self"] (spMStO C) := hasm_of F.mS (fun _ _ _ _ _ _ us hl => match us, hl with | [_], _ => rfl) fun _ _ g => ok_mstO g hm F.mC
  have mWoS : HasM P w K mg base T CX0 C "words" 1 ["self"] (spMWoS C) := hasm_of F.mW (fun _ _ _ _ _ _ us hl => match us, hl with | [_], _ => rfl) fun _ _ g => ok_mwoS g hm F.mC
  have mWoO : HasM P w K mg base T CX0 C "words" 1 ["self"] (spMWoO C) := hasm_of F.mW (fun _ _ _ _ _ _ us hl => match us, hl with | [_], _ => rfl) fun _ _ g => ok_mwoO g hm F.mC
  have mWa : HasM P w K mg base T (L2N.CX P w) C "_way" 4 ["self", "row"] (spMWay C CU) := hasm_of F.mY (fun _ _ _ _ _ _ us hl => match us, hl with | [_, _], _ => rfl) fun _ _ g => ok_mway g F.mC hCr
  have mAf : HasM P w K mg base T (L2N.CX P w) C "after" 5 ["self", "row"] (spMAft C CU) := hasm_of F.mA (fun _ _ _ _ _ _ us hl => match us, hl with | [_, _], _ => rfl) fun _ _ g => ok_maft g F.mC mWa
  have hLn : HasLn P w K mg base T C 1 (spMLen C) := by
    obtain ⟨f, fd, h1, h2⟩ := F.mL
    exact ⟨f, fd, ok_mlen h2 hm F.mC, h1.at_, h1.fn, h2.binds (ps := ["self"]) (fun _ _ _ _ _ _ us hl => match us, hl with | [_], _ => rfl)⟩
  have hEq : HasEq P w K mg base T C "__eq__" 1 (spMEq C) := by
    obtain ⟨f, fd, h1, h2⟩ := F.mE
    exact ⟨f, fd, ok_meq h2 hm F.mC F.mQ (gg F.gM), h1.at_, h1.fn, h2.binds (ps := ["self", "other"]) (fun _ _ _ _ _ _ us hl => match us, hl with | [_, _], _ => rfl)⟩
  have hNe : HasEq P w K mg base T C "__ne__" 2 (spMNe C) := by
    obtain ⟨f, fd, h1, h2⟩ := F.mN
    exact ⟨f, fd, ok_mne h2 F.mQ hEq, h1.at_, h1.fn, h2.binds (ps := ["self", "other"]) (fun _ _ _ _ _ _ us hl => match us, hl with | [_, _], _ => rfl)⟩
  have hCl : HasCl P w K mg base T (L2N.CX P w) C 5 ["self", "row"] (spMCal C CU) := by
    obtain ⟨f, fd, h1, h2⟩ := F.iC
    exact ⟨f, fd, ok_mcal h2 hm F.mC mWa, h1, h2.binds (ps := ["self", "row"]) (fun _ _ _ _ _ _ us hl => match us, hl with | [_, _], _ => rfl)⟩
  have hBg : HasF P w K mg base T CX0 "_law_bag" 1 ["script", "place"] spBag := has_of X G F.d4 (fun _ _ _ _ _ _ us hl => match us, hl with | [_, _], _ => rfl) fun _ _ g _ _ => ok_bag g hm.int hm.len hm.abs hm.sum
  have hTk : HasF P w K mg base T CX0 "_law_take" 1 ["bag", "size"] spTake := has_of X G F.d5 (fun _ _ _ _ _ _ us hl => match us, hl with | [_, _], _ => rfl) fun _ _ g _ _ => ok_take g hm.int
  have hSn : HasF P w K mg base T CX0 "_law_signs_row" 2 ["bag", "most"] spSgn := has_of X G F.d6 (fun _ _ _ _ _ _ us hl => match us, hl with | [_, _], _ => rfl) fun _ _ g _ _ => ok_sgn g hm.range hTk
  have hWd : HasF P w K mg base T CX0 "_law_word" 2 ["bag"] spWrd := has_of X G F.d7 (fun _ _ _ _ _ _ us hl => match us, hl with | [_], _ => rfl) fun _ _ g _ _ => ok_wrd g hm.range hm.len hTk
  have hPt : HasF P w K mg base T CX0 "_law_parts" 2 ["bag", "signs", "pool", "count"] spPrt := has_of X G F.d8 (fun _ _ _ _ _ _ us hl => match us, hl with | [_, _, _, _], _ => rfl) fun _ _ g _ _ => ok_prt g hm.range hm.len hTk
  have hCS : HasF P w K mg base T CX0 "_law_copy" 1 ["lines"] spCpyS := has_of X G F.d9 (fun _ _ _ _ _ _ us hl => match us, hl with | [_], _ => rfl) fun _ _ g _ _ => ok_cpyS g hm.list
  have hCO : HasF P w K mg base T CX0 "_law_copy" 1 ["lines"] spCpyO := has_of X G F.d9 (fun _ _ _ _ _ _ us hl => match us, hl with | [_], _ => rfl) fun _ _ g _ _ => ok_cpyO g hm.list
  have hLm : HasF P w K mg base T CX0 "_law_machine" 6 ["parts"] (spLM C) := has_of X G F.d10 (fun _ _ _ _ _ _ us hl => match us, hl with | [_], _ => rfl) fun _ _ g _ _ => ok_lm g hCS hMi
  have hIs : HasG P w K mg base T CX0 "_law_is" 3 ["machine", "parts"] (spLIs C) := hasg_of X G F.d11 (fun _ _ _ _ _ _ us hl => match us, hl with | [_, _], _ => rfl) fun _ _ g => ok_lis g hm F.mC F.mQ (gg F.gM) hLn mStS mWoS
  have hRn : HasF P w K mg base T CX0 "_law_run" 1 ["parts", "row"] spRun := has_of X G F.d12 (fun _ _ _ _ _ _ us hl => match us, hl with | [_, _], _ => rfl) fun _ _ g _ _ => ok_run g
  have hRo : HasF P w K mg base T CX0 "_law_row" 2 ["bag", "signs", "most"] spRow := has_of X G F.d13 (fun _ _ _ _ _ _ us hl => match us, hl with | [_, _, _], _ => rfl) fun _ _ g _ _ => ok_row g hm.range hm.len hTk
  have hRf : HasF P w K mg base T CX0 "_law_refused" 6 ["signs", "steps", "words", "first"] spRfs := has_of X G F.d14 (fun _ _ _ _ _ _ us hl => match us, hl with | [_, _, _, _], _ => rfl) fun _ _ g _ _ => ok_rfs g hm er hCS hMi
  have hDr : HasF P w K mg base T CX0 "_law_default_refused" 6 ["signs", "steps", "words"] spDrf := has_of X G F.d15 (fun _ _ _ _ _ _ us hl => match us, hl with | [_, _, _], _ => rfl) fun _ _ g _ _ => ok_drf g hm er hMi
  have hBs : HasF P w K mg base T CX0 "_law_bad_signs" 1 ["signs"] spBsg := has_of X G F.d16 (fun _ _ _ _ _ _ us hl => match us, hl with | [_], _ => rfl) fun _ _ g _ _ => ok_bsg g hm
  have hBt : HasF P w K mg base T CX0 "_law_bad_steps" 2 ["bag", "parts"] spBst := has_of X G F.d17 (fun _ _ _ _ _ _ us hl => match us, hl with | [_, _], _ => rfl) fun _ _ g _ _ => ok_bst g hm hCO hTk
  have hBw : HasF P w K mg base T CX0 "_law_bad_words" 2 ["bag", "parts"] spBwo := has_of X G F.d18 (fun _ _ _ _ _ _ us hl => match us, hl with | [_, _], _ => rfl) fun _ _ g _ _ => ok_bwo g hm hCO hTk
  have hRg : HasF P w K mg base T CX0 "_law_refusals_good" 7 ["bag", "parts"] spRfg := has_of X G F.d19 (fun _ _ _ _ _ _ us hl => match us, hl with | [_, _], _ => rfl) fun _ _ g _ _ => ok_rfg g hm hCS hTk hBs hBt hBw hRf hDr
  have hCh : HasF P w K mg base T CX0 "_law_changed" 2 ["bag", "parts"] spChg := has_of X G F.d20 (fun _ _ _ _ _ _ us hl => match us, hl with | [_, _], _ => rfl) fun _ _ g _ _ => ok_chg g hm hCO hTk
  have hEg : HasG P w K mg base T CX0 "_law_equal_good" 7 ["bag", "machine", "parts"] (spEqg C) := hasg_of X G F.d21 (fun _ _ _ _ _ _ us hl => match us, hl with | [_, _, _], _ => rfl) fun _ _ g => ok_eqg g F.mQ hLm hCh hIs hEq hNe
  have hUn : HasF P w K mg base T CX0 "_law_unknown" 6 ["machine", "way", "row"] (spUnk C) := has_of X G F.d22 (fun _ _ _ _ _ _ us hl => match us, hl with | [_, _, _], _ => rfl) fun _ _ g _ _ => ok_unk g hm F.mC er hCl mAf
  have hRw : HasG P w K mg base T CX0 "_law_rows_good" 7 ["machine", "parts", "row", "spoilt", "place"] (spRwg C) := hasg_of X G F.d23 (fun _ _ _ _ _ _ us hl => match us, hl with | [_, _, _, _, _], _ => rfl) fun _ _ g => ok_rwg g hm F.mC hRn hUn hCl mAf
  exact ok_law l2 hm F.mC ⟨hBg, hTk, hSn, hWd, hPt, hCO, hMi, hIs, mStO, mWoO, hRo, hRw, hRg, hEg⟩
end
end Tw

set_option Elab.async false
set_option linter.all false
set_option maxRecDepth 100000
set_option maxHeartbeats 2000000
namespace Tw
open PySem PySem.Spec PyProof.Rows L2 LamX DL
theorem law_at {l : PySem.W.OpenLaw} {w : PySem.World} {K : PySem.W.Frag} {mg : Str → Option Value} {h : Heap} {fa C CT CU CB : Addr} {n : Nat} (hn : n ≤ 1000) (X : K.In h) (G : h.Ns mainGlobals mg) (hfa : mg "law" = some (.ref fa)) (F : KF l.prog K C CT CU CB) : LawAtG l w K CX0 8 n "script" mg fa h := by
  obtain ⟨fd, h1, h2⟩ := all_mk (P := l.prog) (w := w) X G F hfa
  refine ⟨fd, [], _, ⟨fun p hp => (by cases hp), fun p hp => (by cases hp), fun p hp => (by cases hp)⟩, fun s u => h1 s [u] rfl, ?_, fun base _ _ _ => h2 base⟩
  · intro H a ns hn1 hH hS
    obtain ⟨S, hq, hs, hn⟩ : ∃ S : Hp, SqL K S a (ns.map V.int) ∧ Same S H ∧ ∀ b ps, S b ≠ some (.tbl ps) := by
      rcases hS with hr | hk
      · refine ⟨fun b => if b = a then H a else none, .inl ?_, fun b x q => ?_, fun b ps q => ?_⟩
        · rcases hr with e | ⟨ob, e⟩
          · exact .inl ((if_pos rfl).trans e)
          · exact .inr ⟨ob, (if_pos rfl).trans e⟩
        · have q' : (if b = a then H a else none) = some x := q
          by_cases e : b = a
          · rw [if_pos e] at q'
            rw [e]
            exact q'
          · rw [if_neg e] at q'
            cases q'
        · have q' : (if b = a then H a else none) = some (.tbl ps) := q
          by_cases e : b = a
          · rw [if_pos e] at q'
            rcases hr with e | ⟨ob, e⟩
            · rw [e] at q'
              cases q'
            · rw [e] at q'
              cases q'
          · rw [if_neg e] at q'
            cases q'
      · exact ⟨fun _ => none, .inr hk, (fun b x q => by cases q), fun b ps q => by cases q⟩
    have rl : ∀ l : List Int, RepL K S (l.map I) (l.map V.int) := by
      intro l
      induction l with
      | nil => rfl
      | cons x l ih => exact ⟨V.int x, _, rfl, rfl, ih⟩
    refine ⟨[.rd (ns.map I)], fun _ => none, fun _ => none, S, fun d _ => d = B true, noX, ⟨ns, rfl, by omega, fun _ => rfl⟩, ?_, ?_, ?_, fun _ _ _ _ _ _ _ z => z.elim⟩
    · exact ⟨.ref a, [], rfl, ⟨a, ns.map V.int, rfl, hq, rl ns⟩, rfl⟩
    · refine ⟨hs, hn, (fun b k q => by cases q), (fun b x q => by cases q), ?_, fun b ps q => by cases q⟩
      intro p hp
      cases hp
    · rintro d w' v S' H' rfl s1 W1 r
      exact r
end Tw

set_option Elab.async false
set_option linter.all false
open PySem PySem.W PyProof.Rows
set_option maxRecDepth 100000 in
set_option maxHeartbeats 0 in
theorem PySem.Challenge.cw_thinwall_k35_machine_is_what_it_was_made_holds : PySem.Challenge.rw_thinwall_k35_machine_is_what_it_was_made.Holds := by
  w_on; o_law; k_head; (case hw => w_witness2)
  k_fill
  refine DL.walk_ofG (l := PySem.Challenge.rw_thinwall_k35_machine_is_what_it_was_made) (n := 63) (k := 8) (CX := fun _ => L2.CX0) (x := "script") rfl (by decide) rfl ⟨rfl, by decide, by decide⟩ (fun w h Y => Y) ?FF (fun _ _ _ _ _ z => z)
  intro w mg fa h Y X G hfa
  refine' Tw.law_at (by decide) X G hfa ⟨?gM, ?gT, ?gU, ?gB, ?n_len, ?n_list, ?n_set, ?n_sorted, ?n_all, ?n_any, ?n_isinstance, ?n_range, ?n_repr, ?n_enumerate, ?n_zip, ?n_int, ?n_abs, ?n_sum, ?n_super, ?n_ValueError, ?d1, ?d2, ?d3, ?d4, ?d5, ?d6, ?d7, ?d8, ?d9, ?d10, ?d11, ?d12, ?d13, ?d14, ?d15, ?d16, ?d17, ?d18, ?d19, ?d20, ?d21, ?d22, ?d23, ?d24, ?iM, ?iC, ?mS, ?mW, ?mA, ?mE, ?mN, ?mL, ?mY, ?mkC, ?kpC, ?mC, ?mQ, ?xU, ?xB, ?exB, ?exT, ?exU, ?ecB, ?ecU, ?xfB, ?xfU, ?bV, ?bT, ?bU, ?bB, ?uV, ?uT, ?uB⟩
  (case gM => (first | k_is | kit_is | ks_is | rfl | decide +kernel))
  (case gT => (first | k_is | kit_is | ks_is | rfl | decide +kernel))
  (case gU => (first | k_is | kit_is | ks_is | rfl | decide +kernel))
  (case gB => (first | k_is | kit_is | ks_is | rfl | decide +kernel))
  (case n_len => (first | k_is | kit_is | ks_is | rfl | decide +kernel))
  (case n_list => (first | k_is | kit_is | ks_is | rfl | decide +kernel))
  (case n_set => (first | k_is | kit_is | ks_is | rfl | decide +kernel))
  (case n_sorted => (first | k_is | kit_is | ks_is | rfl | decide +kernel))
  (case n_all => (first | k_is | kit_is | ks_is | rfl | decide +kernel))
  (case n_any => (first | k_is | kit_is | ks_is | rfl | decide +kernel))
  (case n_isinstance => (first | k_is | kit_is | ks_is | rfl | decide +kernel))
  (case n_range => (first | k_is | kit_is | ks_is | rfl | decide +kernel))
  (case n_repr => (first | k_is | kit_is | ks_is | rfl | decide +kernel))
  (case n_enumerate => (first | k_is | kit_is | ks_is | rfl | decide +kernel))
  (case n_zip => (first | k_is | kit_is | ks_is | rfl | decide +kernel))
  (case n_int => (first | k_is | kit_is | ks_is | rfl | decide +kernel))
  (case n_abs => (first | k_is | kit_is | ks_is | rfl | decide +kernel))
  (case n_sum => (first | k_is | kit_is | ks_is | rfl | decide +kernel))
  (case n_super => (first | k_is | kit_is | ks_is | rfl | decide +kernel))
  (case n_ValueError => (first | k_is | kit_is | ks_is | rfl | decide +kernel))
  (case d1 => (refine' ⟨_, _, ?a_1, L2.fun_mk ?l_1 ?c_1 ?k_1⟩; (case a_1 => (first | k_is | kit_is | ks_is | rfl | decide +kernel)); (case l_1 => (first | k_is | kit_is | ks_is | rfl | decide +kernel)); (case c_1 => (first | k_is | kit_is | ks_is | rfl | decide +kernel)); (case k_1 => (first | k_is | kit_is | ks_is | rfl | decide +kernel))))
  (case d2 => (refine' ⟨_, _, ?a_2, L2.fun_mk ?l_2 ?c_2 ?k_2⟩; (case a_2 => (first | k_is | kit_is | ks_is | rfl | decide +kernel)); (case l_2 => (first | k_is | kit_is | ks_is | rfl | decide +kernel)); (case c_2 => (first | k_is | kit_is | ks_is | rfl | decide +kernel)); (case k_2 => (first | k_is | kit_is | ks_is | rfl | decide +kernel))))
  (case d3 => (refine' ⟨_, _, ?a_3, L2.fun_mk ?l_3 ?c_3 ?k_3⟩; (case a_3 => (first | k_is | kit_is | ks_is | rfl | decide +kernel)); (case l_3 => (first | k_is | kit_is | ks_is | rfl | decide +kernel)); (case c_3 => (first | k_is | kit_is | ks_is | rfl | decide +kernel)); (case k_3 => (first | k_is | kit_is | ks_is | rfl | decide +kernel))))
  (case d4 => (refine' ⟨_, _, ?a_4, L2.fun_mk ?l_4 ?c_4 ?k_4⟩; (case a_4 => (first | k_is | kit_is | ks_is | rfl | decide +kernel)); (case l_4 => (first | k_is | kit_is | ks_is | rfl | decide +kernel)); (case c_4 => (first | k_is | kit_is | ks_is | rfl | decide +kernel)); (case k_4 => (first | k_is | kit_is | ks_is | rfl | decide +kernel))))
  (case d5 => (refine' ⟨_, _, ?a_5, L2.fun_mk ?l_5 ?c_5 ?k_5⟩; (case a_5 => (first | k_is | kit_is | ks_is | rfl | decide +kernel)); (case l_5 => (first | k_is | kit_is | ks_is | rfl | decide +kernel)); (case c_5 => (first | k_is | kit_is | ks_is | rfl | decide +kernel)); (case k_5 => (first | k_is | kit_is | ks_is | rfl | decide +kernel))))
  (case d6 => (refine' ⟨_, _, ?a_6, L2.fun_mk ?l_6 ?c_6 ?k_6⟩; (case a_6 => (first | k_is | kit_is | ks_is | rfl | decide +kernel)); (case l_6 => (first | k_is | kit_is | ks_is | rfl | decide +kernel)); (case c_6 => (first | k_is | kit_is | ks_is | rfl | decide +kernel)); (case k_6 => (first | k_is | kit_is | ks_is | rfl | decide +kernel))))
  (case d7 => (refine' ⟨_, _, ?a_7, L2.fun_mk ?l_7 ?c_7 ?k_7⟩; (case a_7 => (first | k_is | kit_is | ks_is | rfl | decide +kernel)); (case l_7 => (first | k_is | kit_is | ks_is | rfl | decide +kernel)); (case c_7 => (first | k_is | kit_is | ks_is | rfl | decide +kernel)); (case k_7 => (first | k_is | kit_is | ks_is | rfl | decide +kernel))))
  (case d8 => (refine' ⟨_, _, ?a_8, L2.fun_mk ?l_8 ?c_8 ?k_8⟩; (case a_8 => (first | k_is | kit_is | ks_is | rfl | decide +kernel)); (case l_8 => (first | k_is | kit_is | ks_is | rfl | decide +kernel)); (case c_8 => (first | k_is | kit_is | ks_is | rfl | decide +kernel)); (case k_8 => (first | k_is | kit_is | ks_is | rfl | decide +kernel))))
  (case d9 => (refine' ⟨_, _, ?a_9, L2.fun_mk ?l_9 ?c_9 ?k_9⟩; (case a_9 => (first | k_is | kit_is | ks_is | rfl | decide +kernel)); (case l_9 => (first | k_is | kit_is | ks_is | rfl | decide +kernel)); (case c_9 => (first | k_is | kit_is | ks_is | rfl | decide +kernel)); (case k_9 => (first | k_is | kit_is | ks_is | rfl | decide +kernel))))
  (case d10 => (refine' ⟨_, _, ?a_10, L2.fun_mk ?l_10 ?c_10 ?k_10⟩; (case a_10 => (first | k_is | kit_is | ks_is | rfl | decide +kernel)); (case l_10 => (first | k_is | kit_is | ks_is | rfl | decide +kernel)); (case c_10 => (first | k_is | kit_is | ks_is | rfl | decide +kernel)); (case k_10 => (first | k_is | kit_is | ks_is | rfl | decide +kernel))))
  (case d11 => (refine' ⟨_, _, ?a_11, L2.fun_mk ?l_11 ?c_11 ?k_11⟩; (case a_11 => (first | k_is | kit_is | ks_is | rfl | decide +kernel)); (case l_11 => (first | k_is | kit_is | ks_is | rfl | decide +kernel)); (case c_11 => (first | k_is | kit_is | ks_is | rfl | decide +kernel)); (case k_11 => (first | k_is | kit_is | ks_is | rfl | decide +kernel))))
  (case d12 => (refine' ⟨_, _, ?a_12, L2.fun_mk ?l_12 ?c_12 ?k_12⟩; (case a_12 => (first | k_is | kit_is | ks_is | rfl | decide +kernel)); (case l_12 => (first | k_is | kit_is | ks_is | rfl | decide +kernel)); (case c_12 => (first | k_is | kit_is | ks_is | rfl | decide +kernel)); (case k_12 => (first | k_is | kit_is | ks_is | rfl | decide +kernel))))
  (case d13 => (refine' ⟨_, _, ?a_13, L2.fun_mk ?l_13 ?c_13 ?k_13⟩; (case a_13 => (first | k_is | kit_is | ks_is | rfl | decide +kernel)); (case l_13 => (first | k_is | kit_is | ks_is | rfl | decide +kernel)); (case c_13 => (first | k_is | kit_is | ks_is | rfl | decide +kernel)); (case k_13 => (first | k_is | kit_is | ks_is | rfl | decide +kernel))))
  (case d14 => (refine' ⟨_, _, ?a_14, L2.fun_mk ?l_14 ?c_14 ?k_14⟩; (case a_14 => (first | k_is | kit_is | ks_is | rfl | decide +kernel)); (case l_14 => (first | k_is | kit_is | ks_is | rfl | decide +kernel)); (case c_14 => (first | k_is | kit_is | ks_is | rfl | decide +kernel)); (case k_14 => (first | k_is | kit_is | ks_is | rfl | decide +kernel))))
  (case d15 => (refine' ⟨_, _, ?a_15, L2.fun_mk ?l_15 ?c_15 ?k_15⟩; (case a_15 => (first | k_is | kit_is | ks_is | rfl | decide +kernel)); (case l_15 => (first | k_is | kit_is | ks_is | rfl | decide +kernel)); (case c_15 => (first | k_is | kit_is | ks_is | rfl | decide +kernel)); (case k_15 => (first | k_is | kit_is | ks_is | rfl | decide +kernel))))
  (case d16 => (refine' ⟨_, _, ?a_16, L2.fun_mk ?l_16 ?c_16 ?k_16⟩; (case a_16 => (first | k_is | kit_is | ks_is | rfl | decide +kernel)); (case l_16 => (first | k_is | kit_is | ks_is | rfl | decide +kernel)); (case c_16 => (first | k_is | kit_is | ks_is | rfl | decide +kernel)); (case k_16 => (first | k_is | kit_is | ks_is | rfl | decide +kernel))))
  (case d17 => (refine' ⟨_, _, ?a_17, L2.fun_mk ?l_17 ?c_17 ?k_17⟩; (case a_17 => (first | k_is | kit_is | ks_is | rfl | decide +kernel)); (case l_17 => (first | k_is | kit_is | ks_is | rfl | decide +kernel)); (case c_17 => (first | k_is | kit_is | ks_is | rfl | decide +kernel)); (case k_17 => (first | k_is | kit_is | ks_is | rfl | decide +kernel))))
  (case d18 => (refine' ⟨_, _, ?a_18, L2.fun_mk ?l_18 ?c_18 ?k_18⟩; (case a_18 => (first | k_is | kit_is | ks_is | rfl | decide +kernel)); (case l_18 => (first | k_is | kit_is | ks_is | rfl | decide +kernel)); (case c_18 => (first | k_is | kit_is | ks_is | rfl | decide +kernel)); (case k_18 => (first | k_is | kit_is | ks_is | rfl | decide +kernel))))
  (case d19 => (refine' ⟨_, _, ?a_19, L2.fun_mk ?l_19 ?c_19 ?k_19⟩; (case a_19 => (first | k_is | kit_is | ks_is | rfl | decide +kernel)); (case l_19 => (first | k_is | kit_is | ks_is | rfl | decide +kernel)); (case c_19 => (first | k_is | kit_is | ks_is | rfl | decide +kernel)); (case k_19 => (first | k_is | kit_is | ks_is | rfl | decide +kernel))))
  (case d20 => (refine' ⟨_, _, ?a_20, L2.fun_mk ?l_20 ?c_20 ?k_20⟩; (case a_20 => (first | k_is | kit_is | ks_is | rfl | decide +kernel)); (case l_20 => (first | k_is | kit_is | ks_is | rfl | decide +kernel)); (case c_20 => (first | k_is | kit_is | ks_is | rfl | decide +kernel)); (case k_20 => (first | k_is | kit_is | ks_is | rfl | decide +kernel))))
  (case d21 => (refine' ⟨_, _, ?a_21, L2.fun_mk ?l_21 ?c_21 ?k_21⟩; (case a_21 => (first | k_is | kit_is | ks_is | rfl | decide +kernel)); (case l_21 => (first | k_is | kit_is | ks_is | rfl | decide +kernel)); (case c_21 => (first | k_is | kit_is | ks_is | rfl | decide +kernel)); (case k_21 => (first | k_is | kit_is | ks_is | rfl | decide +kernel))))
  (case d22 => (refine' ⟨_, _, ?a_22, L2.fun_mk ?l_22 ?c_22 ?k_22⟩; (case a_22 => (first | k_is | kit_is | ks_is | rfl | decide +kernel)); (case l_22 => (first | k_is | kit_is | ks_is | rfl | decide +kernel)); (case c_22 => (first | k_is | kit_is | ks_is | rfl | decide +kernel)); (case k_22 => (first | k_is | kit_is | ks_is | rfl | decide +kernel))))
  (case d23 => (refine' ⟨_, _, ?a_23, L2.fun_mk ?l_23 ?c_23 ?k_23⟩; (case a_23 => (first | k_is | kit_is | ks_is | rfl | decide +kernel)); (case l_23 => (first | k_is | kit_is | ks_is | rfl | decide +kernel)); (case c_23 => (first | k_is | kit_is | ks_is | rfl | decide +kernel)); (case k_23 => (first | k_is | kit_is | ks_is | rfl | decide +kernel))))
  (case d24 => (refine' ⟨_, _, ?a_24, L2.fun_mk ?l_24 ?c_24 ?k_24⟩; (case a_24 => (first | k_is | kit_is | ks_is | rfl | decide +kernel)); (case l_24 => (first | k_is | kit_is | ks_is | rfl | decide +kernel)); (case c_24 => (first | k_is | kit_is | ks_is | rfl | decide +kernel)); (case k_24 => (first | k_is | kit_is | ks_is | rfl | decide +kernel))))
  (case iM => refine' ⟨_, _, ?a, ?b, ⟨⟨_, _, _, _, _, _, _, _, _, _, rfl, ?l, ?c, Or.inl ⟨rfl, rfl⟩, Or.inr ⟨_, rfl, ?kwq⟩⟩, ?k⟩⟩; (case a => (first | k_is | kit_is | ks_is | rfl | decide +kernel)); (case b => (first | k_is | kit_is | ks_is | rfl | decide +kernel)); (case l => (first | k_is | kit_is | ks_is | rfl | decide +kernel)); (case c => (first | k_is | kit_is | ks_is | rfl | decide +kernel)); (case k => (first | k_is | kit_is | ks_is | rfl | decide +kernel)); (case kwq => (intro q hq; have e := List.mem_singleton.mp hq; subst e; refine' ⟨_, ?kwu, ?kwv⟩; (case kwu => (first | k_is | kit_is | ks_is | rfl | decide +kernel)); (case kwv => exact ⟨_, rfl⟩))))
  (case iC => refine' ⟨_, _, ⟨?a, ?b, ?e⟩, L2.fun_mk ?l ?c ?k⟩; (case a => (first | k_is | kit_is | ks_is | rfl | decide +kernel)); (case b => (first | k_is | kit_is | ks_is | rfl | decide +kernel)); (case e => (first | k_is | kit_is | ks_is | rfl | decide +kernel)); (case l => (first | k_is | kit_is | ks_is | rfl | decide +kernel)); (case c => (first | k_is | kit_is | ks_is | rfl | decide +kernel)); (case k => (first | k_is | kit_is | ks_is | rfl | decide +kernel)))
  (case mS => (refine' ⟨_, _, ⟨?a_25, ?b_25, ?e_25⟩, L2.fun_mk ?l_25 ?c_25 ?k_25⟩; (case a_25 => (first | k_is | kit_is | ks_is | rfl | decide +kernel)); (case b_25 => (first | k_is | kit_is | ks_is | rfl | decide +kernel)); (case e_25 => (first | k_is | kit_is | ks_is | rfl | decide +kernel)); (case l_25 => (first | k_is | kit_is | ks_is | rfl | decide +kernel)); (case c_25 => (first | k_is | kit_is | ks_is | rfl | decide +kernel)); (case k_25 => (first | k_is | kit_is | ks_is | rfl | decide +kernel))))
  (case mW => (refine' ⟨_, _, ⟨?a_26, ?b_26, ?e_26⟩, L2.fun_mk ?l_26 ?c_26 ?k_26⟩; (case a_26 => (first | k_is | kit_is | ks_is | rfl | decide +kernel)); (case b_26 => (first | k_is | kit_is | ks_is | rfl | decide +kernel)); (case e_26 => (first | k_is | kit_is | ks_is | rfl | decide +kernel)); (case l_26 => (first | k_is | kit_is | ks_is | rfl | decide +kernel)); (case c_26 => (first | k_is | kit_is | ks_is | rfl | decide +kernel)); (case k_26 => (first | k_is | kit_is | ks_is | rfl | decide +kernel))))
  (case mA => (refine' ⟨_, _, ⟨?a_27, ?b_27, ?e_27⟩, L2.fun_mk ?l_27 ?c_27 ?k_27⟩; (case a_27 => (first | k_is | kit_is | ks_is | rfl | decide +kernel)); (case b_27 => (first | k_is | kit_is | ks_is | rfl | decide +kernel)); (case e_27 => (first | k_is | kit_is | ks_is | rfl | decide +kernel)); (case l_27 => (first | k_is | kit_is | ks_is | rfl | decide +kernel)); (case c_27 => (first | k_is | kit_is | ks_is | rfl | decide +kernel)); (case k_27 => (first | k_is | kit_is | ks_is | rfl | decide +kernel))))
  (case mE => (refine' ⟨_, _, ⟨?a_28, ?b_28, ?e_28⟩, L2.fun_mk ?l_28 ?c_28 ?k_28⟩; (case a_28 => (first | k_is | kit_is | ks_is | rfl | decide +kernel)); (case b_28 => (first | k_is | kit_is | ks_is | rfl | decide +kernel)); (case e_28 => (first | k_is | kit_is | ks_is | rfl | decide +kernel)); (case l_28 => (first | k_is | kit_is | ks_is | rfl | decide +kernel)); (case c_28 => (first | k_is | kit_is | ks_is | rfl | decide +kernel)); (case k_28 => (first | k_is | kit_is | ks_is | rfl | decide +kernel))))
  (case mN => (refine' ⟨_, _, ⟨?a_29, ?b_29, ?e_29⟩, L2.fun_mk ?l_29 ?c_29 ?k_29⟩; (case a_29 => (first | k_is | kit_is | ks_is | rfl | decide +kernel)); (case b_29 => (first | k_is | kit_is | ks_is | rfl | decide +kernel)); (case e_29 => (first | k_is | kit_is | ks_is | rfl | decide +kernel)); (case l_29 => (first | k_is | kit_is | ks_is | rfl | decide +kernel)); (case c_29 => (first | k_is | kit_is | ks_is | rfl | decide +kernel)); (case k_29 => (first | k_is | kit_is | ks_is | rfl | decide +kernel))))
  (case mL => (refine' ⟨_, _, ⟨?a_30, ?b_30, ?e_30⟩, L2.fun_mk ?l_30 ?c_30 ?k_30⟩; (case a_30 => (first | k_is | kit_is | ks_is | rfl | decide +kernel)); (case b_30 => (first | k_is | kit_is | ks_is | rfl | decide +kernel)); (case e_30 => (first | k_is | kit_is | ks_is | rfl | decide +kernel)); (case l_30 => (first | k_is | kit_is | ks_is | rfl | decide +kernel)); (case c_30 => (first | k_is | kit_is | ks_is | rfl | decide +kernel)); (case k_30 => (first | k_is | kit_is | ks_is | rfl | decide +kernel))))
  (case mY => (refine' ⟨_, _, ⟨?a_31, ?b_31, ?e_31⟩, L2.fun_mk ?l_31 ?c_31 ?k_31⟩; (case a_31 => (first | k_is | kit_is | ks_is | rfl | decide +kernel)); (case b_31 => (first | k_is | kit_is | ks_is | rfl | decide +kernel)); (case e_31 => (first | k_is | kit_is | ks_is | rfl | decide +kernel)); (case l_31 => (first | k_is | kit_is | ks_is | rfl | decide +kernel)); (case c_31 => (first | k_is | kit_is | ks_is | rfl | decide +kernel)); (case k_31 => (first | k_is | kit_is | ks_is | rfl | decide +kernel))))
  (case mkC => (first | k_is | kit_is | ks_is | rfl | decide +kernel))
  (case kpC => (first | k_is | kit_is | ks_is | rfl | decide +kernel))
  (case mC => refine' ⟨?a, ?b, ?c, ?d, ?e⟩; (case a => (refine' ⟨?a_32, ?b_32, ?c_32, ?d_32⟩; (case a_32 => (first | k_is | kit_is | ks_is | rfl | decide +kernel)); (case b_32 => (first | k_is | kit_is | ks_is | rfl | decide +kernel)); (case c_32 => (first | k_is | kit_is | ks_is | rfl | decide +kernel)); (case d_32 => (first | k_is | kit_is | ks_is | rfl | decide +kernel)))); (case b => (unfold L2.NoAttr; (first | k_is | kit_is | ks_is | rfl | decide +kernel))); (case c => (unfold L2.NoAttr; (first | k_is | kit_is | ks_is | rfl | decide +kernel))); (case d => (unfold L2.NoAttr; (first | k_is | kit_is | ks_is | rfl | decide +kernel))); (case e => (unfold L2.NoAttr; (first | k_is | kit_is | ks_is | rfl | decide +kernel))))
  (case mQ => refine' ⟨⟨?a, ?b, ?c, ?d, ?e⟩, ?f, ?g, ?h, ?i⟩; (case a => (refine' ⟨?a_33, ?b_33, ?c_33, ?d_33⟩; (case a_33 => (first | k_is | kit_is | ks_is | rfl | decide +kernel)); (case b_33 => (first | k_is | kit_is | ks_is | rfl | decide +kernel)); (case c_33 => (first | k_is | kit_is | ks_is | rfl | decide +kernel)); (case d_33 => (first | k_is | kit_is | ks_is | rfl | decide +kernel)))); (case b => (first | k_is | kit_is | ks_is | rfl | decide +kernel)); (case c => (first | k_is | kit_is | ks_is | rfl | decide +kernel)); (case d => (first | k_is | kit_is | ks_is | rfl | decide +kernel)); (case e => (first | k_is | kit_is | ks_is | rfl | decide +kernel)); (case f => (first | k_is | kit_is | ks_is | rfl | decide +kernel)); (case g => (first | k_is | kit_is | ks_is | rfl | decide +kernel)); (case h => rintro n (rfl | rfl | rfl | rfl) <;> (first | k_is | kit_is | ks_is | rfl | decide +kernel)); (case i => rintro n (rfl | rfl | rfl | rfl) <;> (first | k_is | kit_is | ks_is | rfl | decide +kernel)))
  (case xU => (refine' ⟨_, _, _, _, ⟨⟨_, _, _, _, _, _, _, _, rfl, ?l_34, ?c_34⟩, ⟨_, _, _, _, _, _, ?cl_34, ?v2_34, ?fl_34⟩, ⟨_, _, _, ?ce_34⟩, ?al_34, ?op_34, ?su_34, ?se_34, rfl, ?tp_34⟩, ⟨⟨_, _, _, _, _, _, _, _, _, _, _, _, _, _, _, ?kc_34, ?rv_34⟩, ?sa_34, ?ex_34, ?ty_34, ?kp_34⟩, ?no_34, ?no2_34, ?ini_34, ?tf_34⟩; (case ini_34 => (first | k_is | kit_is | ks_is | rfl | decide +kernel)); (case l_34 => (first | k_is | kit_is | ks_is | rfl | decide +kernel)); (case c_34 => (first | k_is | kit_is | ks_is | rfl | decide +kernel)); (case cl_34 => (first | k_is | kit_is | ks_is | rfl | decide +kernel)); (case v2_34 => (first | k_is | kit_is | ks_is | rfl | decide +kernel)); (case fl_34 => (first | k_is | kit_is | ks_is | rfl | decide +kernel)); (case ce_34 => (first | k_is | kit_is | ks_is | rfl | decide +kernel)); (case al_34 => (first | k_is | kit_is | ks_is | rfl | decide +kernel)); (case op_34 => (first | k_is | kit_is | ks_is | rfl | decide +kernel)); (case su_34 => (first | k_is | kit_is | ks_is | rfl | decide +kernel)); (case se_34 => (first | k_is | kit_is | ks_is | rfl | decide +kernel)); (case tp_34 => (first | k_is | kit_is | ks_is | rfl | decide +kernel)); (case kc_34 => (first | k_is | kit_is | ks_is | rfl | decide +kernel)); (case rv_34 => (first | k_is | kit_is | ks_is | rfl | decide +kernel)); (case sa_34 => (first | k_is | kit_is | ks_is | rfl | decide +kernel)); (case ex_34 => (first | k_is | kit_is | ks_is | rfl | decide +kernel)); (case ty_34 => (first | k_is | kit_is | ks_is | rfl | decide +kernel)); (case kp_34 => (first | k_is | kit_is | ks_is | rfl | decide +kernel)); (case no_34 => (first | k_is | kit_is | ks_is | rfl | decide +kernel)); (case no2_34 => (first | k_is | kit_is | ks_is | rfl | decide +kernel)); (case tf_34 => (first | k_is | kit_is | ks_is | rfl | decide +kernel))))
  (case xB => (refine' ⟨_, _, _, _, ⟨⟨_, _, _, _, _, _, _, _, rfl, ?l_35, ?c_35⟩, ⟨_, _, _, _, _, _, ?cl_35, ?v2_35, ?fl_35⟩, ⟨_, _, _, ?ce_35⟩, ?al_35, ?op_35, ?su_35, ?se_35, rfl, ?tp_35⟩, ⟨⟨_, _, _, _, _, _, _, _, _, _, _, _, _, _, _, ?kc_35, ?rv_35⟩, ?sa_35, ?ex_35, ?ty_35, ?kp_35⟩, ?no_35, ?ini_35, ?tf_35⟩; (case ini_35 => (first | k_is | kit_is | ks_is | rfl | decide +kernel)); (case l_35 => (first | k_is | kit_is | ks_is | rfl | decide +kernel)); (case c_35 => (first | k_is | kit_is | ks_is | rfl | decide +kernel)); (case cl_35 => (first | k_is | kit_is | ks_is | rfl | decide +kernel)); (case v2_35 => (first | k_is | kit_is | ks_is | rfl | decide +kernel)); (case fl_35 => (first | k_is | kit_is | ks_is | rfl | decide +kernel)); (case ce_35 => (first | k_is | kit_is | ks_is | rfl | decide +kernel)); (case al_35 => (first | k_is | kit_is | ks_is | rfl | decide +kernel)); (case op_35 => (first | k_is | kit_is | ks_is | rfl | decide +kernel)); (case su_35 => (first | k_is | kit_is | ks_is | rfl | decide +kernel)); (case se_35 => (first | k_is | kit_is | ks_is | rfl | decide +kernel)); (case tp_35 => (first | k_is | kit_is | ks_is | rfl | decide +kernel)); (case kc_35 => (first | k_is | kit_is | ks_is | rfl | decide +kernel)); (case rv_35 => (first | k_is | kit_is | ks_is | rfl | decide +kernel)); (case sa_35 => (first | k_is | kit_is | ks_is | rfl | decide +kernel)); (case ex_35 => (first | k_is | kit_is | ks_is | rfl | decide +kernel)); (case ty_35 => (first | k_is | kit_is | ks_is | rfl | decide +kernel)); (case kp_35 => (first | k_is | kit_is | ks_is | rfl | decide +kernel)); (case no_35 => (first | k_is | kit_is | ks_is | rfl | decide +kernel)); (case tf_35 => (first | k_is | kit_is | ks_is | rfl | decide +kernel))))
  (case exB => (refine' PySem.W.exm_ref ?a_36 ?b_36 ?c_36 ?d_36; (case a_36 => (first | k_is | kit_is | ks_is | rfl | decide +kernel)); (case b_36 => (first | k_is | kit_is | ks_is | rfl | decide +kernel)); (case c_36 => (first | k_is | kit_is | ks_is | rfl | decide +kernel)); (case d_36 => (first | k_is | kit_is | ks_is | rfl | decide +kernel))))
  (case exT => (refine' PySem.W.exm_ref ?a_37 ?b_37 ?c_37 ?d_37; (case a_37 => (first | k_is | kit_is | ks_is | rfl | decide +kernel)); (case b_37 => (first | k_is | kit_is | ks_is | rfl | decide +kernel)); (case c_37 => (first | k_is | kit_is | ks_is | rfl | decide +kernel)); (case d_37 => (first | k_is | kit_is | ks_is | rfl | decide +kernel))))
  (case exU => (refine' PySem.W.exm_ref ?a_38 ?b_38 ?c_38 ?d_38; (case a_38 => (first | k_is | kit_is | ks_is | rfl | decide +kernel)); (case b_38 => (first | k_is | kit_is | ks_is | rfl | decide +kernel)); (case c_38 => (first | k_is | kit_is | ks_is | rfl | decide +kernel)); (case d_38 => (first | k_is | kit_is | ks_is | rfl | decide +kernel))))
  (case ecB => (refine' ⟨?a_39, ?b_39, ?c_39, ?d_39, ?e_39, ?f_39, ?g_39, ?h_39⟩; (case a_39 => (first | k_is | kit_is | ks_is | rfl | decide +kernel)); (case b_39 => (first | k_is | kit_is | ks_is | rfl | decide +kernel)); (case c_39 => (first | k_is | kit_is | ks_is | rfl | decide +kernel)); (case d_39 => (first | k_is | kit_is | ks_is | rfl | decide +kernel)); (case e_39 => (first | k_is | kit_is | ks_is | rfl | decide +kernel)); (case f_39 => (first | k_is | kit_is | ks_is | rfl | decide +kernel)); (case g_39 => (first | k_is | kit_is | ks_is | rfl | decide +kernel)); (case h_39 => (first | k_is | kit_is | ks_is | rfl | decide +kernel))))
  (case ecU => (refine' ⟨?a_40, ?b_40, ?c_40, ?d_40, ?e_40, ?f_40, ?g_40, ?h_40⟩; (case a_40 => (first | k_is | kit_is | ks_is | rfl | decide +kernel)); (case b_40 => (first | k_is | kit_is | ks_is | rfl | decide +kernel)); (case c_40 => (first | k_is | kit_is | ks_is | rfl | decide +kernel)); (case d_40 => (first | k_is | kit_is | ks_is | rfl | decide +kernel)); (case e_40 => (first | k_is | kit_is | ks_is | rfl | decide +kernel)); (case f_40 => (first | k_is | kit_is | ks_is | rfl | decide +kernel)); (case g_40 => (first | k_is | kit_is | ks_is | rfl | decide +kernel)); (case h_40 => (first | k_is | kit_is | ks_is | rfl | decide +kernel))))
  (case xfB => (refine' ⟨?a_41, ?b_41, ?c_41, ?d_41⟩; (case a_41 => (first | k_is | kit_is | ks_is | rfl | decide +kernel)); (case b_41 => (first | k_is | kit_is | ks_is | rfl | decide +kernel)); (case c_41 => (first | k_is | kit_is | ks_is | rfl | decide +kernel)); (case d_41 => (first | k_is | kit_is | ks_is | rfl | decide +kernel))))
  (case xfU => (refine' ⟨?a_42, ?b_42, ?c_42, ?d_42⟩; (case a_42 => (first | k_is | kit_is | ks_is | rfl | decide +kernel)); (case b_42 => (first | k_is | kit_is | ks_is | rfl | decide +kernel)); (case c_42 => (first | k_is | kit_is | ks_is | rfl | decide +kernel)); (case d_42 => (first | k_is | kit_is | ks_is | rfl | decide +kernel))))
  (case bV => (first | k_is | kit_is | ks_is | rfl | decide +kernel))
  (case bT => (first | k_is | kit_is | ks_is | rfl | decide +kernel))
  (case bU => (first | k_is | kit_is | ks_is | rfl | decide +kernel))
  (case bB => (first | k_is | kit_is | ks_is | rfl | decide +kernel))
  (case uV => (first | k_is | kit_is | ks_is | rfl | decide +kernel))
  (case uT => (first | k_is | kit_is | ks_is | rfl | decide +kernel))
  (case uB => (first | k_is | kit_is | ks_is | rfl | decide +kernel))

