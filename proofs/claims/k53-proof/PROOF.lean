import PyProof.Rows.All
import Wide.All
import OpenK.AllK
import Wide.FinOn
import HandS.ForMost
import HandS.IsInst
import HandS.List
import HandS.Walk
import HandS.Text
import HandS.Exc
import HandS.WordsExc
import HandS.ForExc
import PyProof.EqAt
import PyProof.EqKinds
import PyProof.TupleCall
import PyProof.ReprRoads
import PyProof.CallStr
import KE.KExcIs
import KE.DataEq
import KE.KEqDict
import HandS.TupMul
import HandS.TupAny
import HandS.Wide
import HandS.Star
import HandS.Conv
import HandS.WordsDict
import HandS.TryOnly
import HandS.Small
import PyProof.WalksMore
import HandS.Strs
import HandS.SetFor
import KE.KDictPairs
import HandS.DictComp
import HandS.ExcOwn
import HandS.ExcInit
import HandS.ExcValue
import HandS.ExcField
import HandS.Defaults
import HandS.Codes
import PySem.Challenge.RW_leftfirst_k53_conditions_run
set_option Elab.async false
set_option linter.all false
set_option maxRecDepth 100000
set_option maxHeartbeats 1000000
namespace FL
open PySem PySem.Spec PyProof.Rows
open L2

/-! a value as data, what the heap says of it; M: the places of what may change: m: those that are numbered, x: others -/
structure Ms where
  m : List Addr
  x : List Addr
instance : Membership Addr Ms := ⟨fun M a => a ∈ M.m ∨ a ∈ M.x⟩
def Ms.add (M : Ms) (p : Addr) : Ms := ⟨M.m ++ [p], M.x⟩
def Ms.res (M : Ms) (p : Addr) : Ms := ⟨M.m, p :: M.x⟩
section
variable (K : PySem.W.Frag) (H : Hp) (M : Ms)
def FzL (a : Addr) (xs : List V) : Prop := a ∉ M ∧ H a = some (.lst xs)
def FzT (a : Addr) (xs : List V) : Prop := (a ∉ M ∧ ∃ o, o.dict = none ∧ H a = some (.frz o (.tup xs))) ∨
  ∃ (o : Obj) (its : Array Value) (n : Nat), K.lookup a = some o ∧ o.cls = .type "tuple" ∧ o.dict = none ∧ o.data = .seq its n ∧ its.size ≤ sizeLine ∧ Vals xs its.toList
def FzS (a : Addr) (xs : List V) : Prop := (a ∉ M ∧ ∃ o, H a = some (.frz o (.lst xs))) ∨
  ∃ (o : Obj) (its : Array Value) (n : Nat), K.lookup a = some o ∧ o.cls = .type "list" ∧ o.dict = none ∧ o.data = .seq its n ∧ its.size ≤ sizeLine ∧ Vals xs its.toList
mutual
def Dr : PyData → V → Prop
  | .none, v => v = .non
  | .bool b, v => v = .bl b
  | .int i, v => v = .int i
  | .str x, v => v = .str x
  | .list ds, v => ∃ a xs, v = .ref a ∧ FzL H M a xs ∧ DrL ds xs
  | .tuple ds, v => ∃ a xs, v = .ref a ∧ FzT K H M a xs ∧ DrL ds xs
  | .dict kvs, v => kvs = [] ∧ ∃ a, v = .ref a ∧ a ∉ M ∧ H a = some (.dK [])
def DrL : List PyData → List V → Prop
  | [], xs => xs = []
  | d :: ds, xs => ∃ x r, xs = x :: r ∧ Dr d x ∧ DrL ds r
end
end
theorem FzS.sq {K : PySem.W.Frag} {H : Hp} {M : Ms} {a : Addr} {xs : List V} (h : FzS K H M a xs) : SqL K H a xs := by
  rcases h with ⟨_, o, h⟩ | h
  · exact .inl (.inr ⟨o, h⟩)
  · exact .inr h
/-- from one heap to a later one: what is not numbered stays, new places are new -/
structure Stp (M : Ms) (H : Hp) (M1 : Ms) (H1 : Hp) : Prop where
  pre : M.m <+: M1.m
  sub : ∀ a, a ∈ M.x → a ∈ M1.x
  keep : ∀ a o, a ∉ M.m → H a = some o → H1 a = some o
  new : ∀ a, a ∈ M1.m → a ∉ M.m → H a = none
  newx : ∀ a, a ∈ M1.x → a ∉ M.x → a ∉ M.m → H a = none
theorem Stp.refl (M : Ms) (H : Hp) : Stp M H M H := ⟨List.prefix_refl _, fun _ h => h, fun _ _ _ h => h, fun _ h n => absurd h n, fun _ h n _ => absurd h n⟩
theorem Stp.ext {M M1 : Ms} {H H1 : Hp} (s : Stp M H M1 H1) (a : Addr) (o : HO) (n : a ∉ M) (e : H a = some o) : H1 a = some o := s.keep a o (fun h => n (Or.inl h)) e
theorem Stp.out {M M1 : Ms} {H H1 : Hp} (s : Stp M H M1 H1) {a : Addr} {o : HO} (n : a ∉ M) (e : H a = some o) : a ∉ M1 := fun h => by
  rcases h with h | h
  · rw [s.new a h fun z => n (Or.inl z)] at e
    cases e
  · rw [s.newx a h (fun z => n (Or.inr z)) fun z => n (Or.inl z)] at e
    cases e
theorem Stp.trans {M M1 M2 : Ms} {H H1 H2 : Hp} (s : Stp M H M1 H1) (t : Stp M1 H1 M2 H2) : Stp M H M2 H2 := by
  have back : ∀ a, a ∉ M.m → H1 a = none → H a = none := fun a n z => by
    cases e : H a with
    | none => rfl
    | some o =>
      rw [s.keep a o n e] at z
      cases z
  refine ⟨s.pre.trans t.pre, fun a h => t.sub a (s.sub a h), fun a o n e => ?_, fun a h n => ?_, fun a h n n2 => ?_⟩
  · refine t.keep a o (fun h => ?_) (s.keep a o n e)
    rw [s.new a h n] at e
    cases e
  · by_cases c : a ∈ M1.m
    · exact s.new a c n
    · exact back a n (t.new a h c)
  · by_cases c : a ∈ M1.x
    · exact s.newx a c n n2
    · by_cases d : a ∈ M1.m
      · exact s.new a d n2
      · exact back a n2 (t.newx a h c d)
section
variable {K : PySem.W.Frag} {H H1 : Hp} {M M1 : Ms}
theorem FzL.stp (s : Stp M H M1 H1) {a : Addr} {xs : List V} (h : FzL H M a xs) : FzL H1 M1 a xs := ⟨s.out h.1 h.2, s.ext _ _ h.1 h.2⟩
theorem FzT.stp (s : Stp M H M1 H1) {a : Addr} {xs : List V} (h : FzT K H M a xs) : FzT K H1 M1 a xs := by
  rcases h with h | h
  · obtain ⟨h1, o, h2, h3⟩ := h
    exact .inl ⟨s.out h1 h3, o, h2, s.ext _ _ h1 h3⟩
  · exact .inr h
mutual
theorem Dr.stp (s : Stp M H M1 H1) : ∀ (d : PyData) (v : V), Dr K H M d v → Dr K H1 M1 d v
  | .none, v, h => by unfold Dr at h ⊢; exact h
  | .bool b, v, h => by unfold Dr at h ⊢; exact h
  | .int i, v, h => by unfold Dr at h ⊢; exact h
  | .str x, v, h => by unfold Dr at h ⊢; exact h
  | .list ds, v, h => by
    unfold Dr at h ⊢
    obtain ⟨a, xs, e, q, r⟩ := h
    exact ⟨a, xs, e, q.stp s, DrL.stp s ds xs r⟩
  | .tuple ds, v, h => by
    unfold Dr at h ⊢
    obtain ⟨a, xs, e, q, r⟩ := h
    exact ⟨a, xs, e, q.stp s, DrL.stp s ds xs r⟩
  | .dict kvs, v, h => by
    unfold Dr at h ⊢
    obtain ⟨e, a, e2, n, q⟩ := h
    exact ⟨e, a, e2, s.out n q, s.ext _ _ n q⟩
theorem DrL.stp (s : Stp M H M1 H1) : ∀ (ds : List PyData) (xs : List V), DrL K H M ds xs → DrL K H1 M1 ds xs
  | [], xs, h => by unfold DrL at h ⊢; exact h
  | d :: ds, xs, h => by
    unfold DrL at h ⊢
    obtain ⟨x, r, e, h1, h2⟩ := h
    exact ⟨x, r, e, Dr.stp s d x h1, DrL.stp s ds r h2⟩
end
theorem DrL.nil : DrL K H M [] [] := by unfold DrL; rfl
theorem DrL.cons {d : PyData} {ds : List PyData} {x : V} {xs : List V} (h : Dr K H M d x) (t : DrL K H M ds xs) : DrL K H M (d :: ds) (x :: xs) := by
  unfold DrL
  exact ⟨x, xs, rfl, h, t⟩
theorem DrL.cases {d : PyData} {ds : List PyData} {xs : List V} (h : DrL K H M (d :: ds) xs) : ∃ x r, xs = x :: r ∧ Dr K H M d x ∧ DrL K H M ds r := by
  unfold DrL at h
  exact h
theorem DrL.len : ∀ {ds : List PyData} {xs : List V}, DrL K H M ds xs → xs.length = ds.length
  | [], xs, h => by
    unfold DrL at h
    subst h
    rfl
  | d :: ds, xs, h => by
    obtain ⟨x, r, e, _, h2⟩ := h.cases
    rw [e, List.length_cons, List.length_cons, h2.len]
theorem DrL.get : ∀ {ds : List PyData} {xs : List V} {i : Nat} {d : PyData}, DrL K H M ds xs → ds[i]? = some d → ∃ x, xs[i]? = some x ∧ Dr K H M d x
  | [], _, _, _, _, e => by simp at e
  | c :: ds, xs, i, d, h, e => by
    obtain ⟨x, r, e1, h1, h2⟩ := h.cases
    subst e1
    cases i with
    | zero =>
      have e2 : c = d := by simpa using e
      subst e2
      exact ⟨x, rfl, h1⟩
    | succ i =>
      obtain ⟨y, e3, h3⟩ := h2.get (i := i) (by simpa using e)
      exact ⟨y, by simpa using e3, h3⟩
theorem DrL.append : ∀ {ds es : List PyData} {xs ys : List V}, DrL K H M ds xs → DrL K H M es ys → DrL K H M (ds ++ es) (xs ++ ys)
  | [], _, xs, _, h, t => by
    unfold DrL at h
    subst h
    exact t
  | d :: ds, _, xs, _, h, t => by
    obtain ⟨x, r, e, h1, h2⟩ := h.cases
    subst e
    exact .cons h1 (h2.append t)
theorem DrL.take : ∀ {ds : List PyData} {xs : List V} (n : Nat), DrL K H M ds xs → DrL K H M (ds.take n) (xs.take n)
  | _, _, 0, _ => by
    rw [List.take_zero, List.take_zero]
    exact .nil
  | [], xs, n + 1, h => by
    unfold DrL at h
    subst h
    exact .nil
  | d :: ds, xs, n + 1, h => by
    obtain ⟨x, r, e, h1, h2⟩ := h.cases
    subst e
    exact .cons h1 (h2.take n)
theorem DrL.drop : ∀ {ds : List PyData} {xs : List V} (n : Nat), DrL K H M ds xs → DrL K H M (ds.drop n) (xs.drop n)
  | _, _, 0, h => h
  | [], xs, n + 1, h => by
    unfold DrL at h
    subst h
    exact .nil
  | d :: ds, xs, n + 1, h => by
    obtain ⟨x, r, e, h1, h2⟩ := h.cases
    subst e
    exact h2.drop n
theorem DrL.set : ∀ {ds : List PyData} {xs : List V} (n : Nat) {d : PyData} {x : V}, DrL K H M ds xs → Dr K H M d x → DrL K H M (ds.set n d) (xs.set n x)
  | [], xs, n, _, _, h, _ => by
    unfold DrL at h
    subst h
    exact .nil
  | c :: ds, xs, n, d, x, h, hd => by
    obtain ⟨y, r, e, h1, h2⟩ := h.cases
    subst e
    cases n with
    | zero => exact .cons hd h2
    | succ n => exact .cons h1 (h2.set n hd)
theorem DrL.dropLast {ds : List PyData} {xs : List V} (h : DrL K H M ds xs) : DrL K H M ds.dropLast xs.dropLast := by
  rw [List.dropLast_eq_take, List.dropLast_eq_take, h.len]
  exact h.take _
theorem DrL.erase {ds : List PyData} {xs : List V} (n : Nat) (h : DrL K H M ds xs) : DrL K H M (ds.eraseIdx n) (xs.eraseIdx n) := by
  rw [List.eraseIdx_eq_take_drop_succ, List.eraseIdx_eq_take_drop_succ]
  exact (h.take n).append (h.drop (n + 1))
theorem DrL.rep {ds : List PyData} {xs : List V} (h : DrL K H M ds xs) : ∀ k : Nat, DrL K H M (List.replicate k ds).flatten (List.replicate k xs).flatten
  | 0 => .nil
  | k + 1 => by
    rw [List.replicate_succ, List.replicate_succ, List.flatten_cons, List.flatten_cons]
    exact h.append (h.rep k)
end

/-! values of slots, what may change -/
/-- a member of a tuple that holds an error -/
inductive Pm where
  | d (x : PyData)
  | x (c : Nat) (f : PyData)
  | r (n : Nat)
inductive W where
  | d (x : PyData)
  /-- the n-th of what may change -/
  | r (n : Nat)
  /-- a dict that does not change -/
  | k (kvs : List (Key × PyData))
  /-- an error of class number c, with its field -/
  | x (c : Nat) (f : PyData)
  /-- the script -/
  | s (ns : List Int)
  /-- a tuple with an error among its members -/
  | p (xs : List Pm)
inductive Ob where
  | l (xs : List PyData)
  | k (kvs : List (Key × PyData))
  | t (kvs : List (List Key × PyData))
abbrev So := List Ob
abbrev Ev := List (Option W)
inductive Res (α : Type) where
  | ok (a : α) (S : So)
  | ex (c : Nat) (f : PyData) (S : So)
  | no
inductive Out where
  | nx (e : Ev) (S : So)
  | rt (w : W) (S : So)
  | bk (e : Ev) (S : So)
  | ct (e : Ev) (S : So)
  | ex (c : Nat) (f : PyData) (e : Ev) (S : So)
  | no
abbrev FE := Ev → So → Res W
abbrev FT := Ev → So → Res Bool
abbrev FA := Ev → So → Res (List W)
abbrev FS := Ev → So → Out
@[simp] def Res.bind {α β : Type} (a : Res α) (f : α → So → Res β) : Res β := match a with
  | .ok x S => f x S
  | .ex c v S => .ex c v S
  | .no => .no
/-- what errors are: R: one that is held at a place; D: one that flies -/
structure XRel (K : PySem.W.Frag) where
  R : Hp → Ms → Addr → Nat → PyData → Prop
  D : Nat → PyData → Value → Option Addr → Hp → Ms → Prop
  out : ∀ {H M a c f}, R H M a c f → a ∉ M
  stp : ∀ {H M H1 M1 a c f}, Stp M H M1 H1 → R H M a c f → R H1 M1 a c f
  les : ∀ {H M M1 a c f}, (∀ b, b ∈ M1 → b ∈ M) → R H M a c f → R H M1 a c f
  dles : ∀ {c f cls d H M M1}, (∀ b, b ∈ M1 → b ∈ M) → D c f cls d H M → D c f cls d H M1
section
variable {K : PySem.W.Frag} (XR : XRel K) (H : Hp) (M : Ms)
abbrev KD {κ : Type} (p : κ × PyData) (q : κ × V) : Prop := p.1 = q.1 ∧ Dr K H M p.2 q.2
def PmR : Pm → V → Prop
  | .d x, v => Dr K H M x v
  | .x c f, v => ∃ a, v = .ref a ∧ XR.R H M a c f
  | .r n, v => ∃ a, M.m[n]? = some a ∧ v = .ref a
def RW : W → V → Prop
  | .d x, v => Dr K H M x v
  | .r n, v => ∃ a, M.m[n]? = some a ∧ v = .ref a
  | .k kvs, v => ∃ a vs, v = .ref a ∧ a ∉ M ∧ H a = some (.dK vs) ∧ Paired (KD (K := K) H M) kvs vs
  | .x c f, v => ∃ a, v = .ref a ∧ XR.R H M a c f
  | .s ns, v => ∃ a, v = .ref a ∧ FzS K H M a (ns.map V.int)
  | .p xs, v => ∃ a vs, v = .ref a ∧ a ∉ M ∧ (∃ o, o.dict = none ∧ H a = some (.frz o (.tup vs))) ∧ Paired (PmR XR H M) xs vs
variable (K) in
def RO : Ob → HO → Prop
  | .l xs, o => ∃ vs, o = .lst vs ∧ DrL K H M xs vs
  | .k kvs, o => ∃ vs, o = .dK vs ∧ Paired (KD (K := K) H M) kvs vs
  | .t kvs, o => ∃ vs, o = .dT vs ∧ Paired (KD (K := K) H M) kvs vs
variable (K) in
structure Rl (S : So) : Prop where
  nd : M.m.Nodup
  ob : Paired (fun a o => ∃ h, H a = some h ∧ RO K H M o h) M.m S
  ex : ∀ a, a ∈ M.x → a ∉ M.m ∧ H a ≠ none
def Rs (ev : Ev) (σ : L2.St) : Prop := Paired (fun (x : Option W) (y : Option V) => ∀ w, x = some w → ∃ v, y = some v ∧ RW XR H M w v) ev σ
end
section
variable {K : PySem.W.Frag} {XR : XRel K} {H H1 : Hp} {M M1 : Ms}
theorem Paired.imp {α β : Type} {F G : α → β → Prop} (f : ∀ a b, F a b → G a b) : ∀ {l : List α} {m : List β}, Paired F l m → Paired G l m
  | _, _, .nil => .nil
  | _, _, .cons r t => .cons (f _ _ r) (Paired.imp f t)
theorem Paired.get {α β : Type} {F : α → β → Prop} : ∀ {l : List α} {m : List β} {i : Nat} {a : α}, Paired F l m → l[i]? = some a → ∃ b, m[i]? = some b ∧ F a b
  | _, _, _, _, .nil, e => by simp at e
  | _, _, 0, _, .cons r _, e => by
    simp at e
    subst e
    exact ⟨_, rfl, r⟩
  | _, _, i + 1, _, .cons _ t, e => by
    obtain ⟨b, h1, h2⟩ := Paired.get (i := i) t (by simpa using e)
    exact ⟨b, by simpa using h1, h2⟩
theorem Paired.getR {α β : Type} {F : α → β → Prop} : ∀ {l : List α} {m : List β} {i : Nat} {b : β}, Paired F l m → m[i]? = some b → ∃ a, l[i]? = some a ∧ F a b
  | _, _, _, _, .nil, e => by simp at e
  | _, _, 0, _, .cons r _, e => by
    simp at e
    subst e
    exact ⟨_, rfl, r⟩
  | _, _, i + 1, _, .cons _ t, e => by
    obtain ⟨b, h1, h2⟩ := Paired.getR (i := i) t (by simpa using e)
    exact ⟨b, by simpa using h1, h2⟩
theorem Paired.snoc {α β : Type} {F : α → β → Prop} {a : α} {b : β} (r : F a b) : ∀ {l : List α} {m : List β}, Paired F l m → Paired F (l ++ [a]) (m ++ [b])
  | _, _, .nil => .cons r .nil
  | _, _, .cons q t => .cons q (Paired.snoc r t)
theorem Paired.setB {α β : Type} {F : α → β → Prop} {a : α} {b : β} (r : F a b) : ∀ {l : List α} {m : List β} (i : Nat), Paired F l m → Paired F (l.set i a) (m.set i b)
  | _, _, _, .nil => .nil
  | _, _, 0, .cons q t => .cons r t
  | _, _, i + 1, .cons q t => .cons q (Paired.setB r i t)
theorem KD.stp {κ : Type} (s : Stp M H M1 H1) {kvs : List (κ × PyData)} {vs : List (κ × V)} (h : Paired (KD (K := K) H M) kvs vs) : Paired (KD (K := K) H1 M1) kvs vs :=
  Paired.imp (fun p q z => ⟨z.1, Dr.stp s _ _ z.2⟩) h
theorem PmR.stp (s : Stp M H M1 H1) : ∀ {x : Pm} {v : V}, PmR XR H M x v → PmR XR H1 M1 x v
  | .d x, v, h => Dr.stp s x v h
  | .x c f, v, ⟨a, e, q⟩ => ⟨a, e, XR.stp s q⟩
  | .r n, v, ⟨a, e1, e2⟩ => by
    obtain ⟨t, e3⟩ := s.pre
    refine ⟨a, ?_, e2⟩
    rw [← e3, List.getElem?_append_left (List.getElem?_eq_some_iff.mp e1).1]
    exact e1
theorem RW.stp (s : Stp M H M1 H1) : ∀ {w : W} {v : V}, RW XR H M w v → RW XR H1 M1 w v
  | .d x, v, h => Dr.stp s x v h
  | .r n, v, ⟨a, e1, e2⟩ => by
    obtain ⟨t, e3⟩ := s.pre
    refine ⟨a, ?_, e2⟩
    rw [← e3, List.getElem?_append_left (List.getElem?_eq_some_iff.mp e1).1]
    exact e1
  | .k kvs, v, ⟨a, vs, e1, n, e2, q⟩ => ⟨a, vs, e1, s.out n e2, s.ext _ _ n e2, KD.stp s q⟩
  | .x c f, v, ⟨a, e1, q⟩ => ⟨a, e1, XR.stp s q⟩
  | .s ns, v, ⟨a, e1, .inl ⟨n, o, e2⟩⟩ => ⟨a, e1, .inl ⟨s.out n e2, o, s.ext _ _ n e2⟩⟩
  | .s ns, v, ⟨a, e1, .inr q⟩ => ⟨a, e1, .inr q⟩
  | .p xs, v, ⟨a, vs, e1, n, ⟨o, ho, e2⟩, q⟩ => ⟨a, vs, e1, s.out n e2, ⟨o, ho, s.ext _ _ n e2⟩, Paired.imp (fun _ _ z => PmR.stp s z) q⟩
theorem RO.stp (s : Stp M H M1 H1) : ∀ {o : Ob} {h : HO}, RO K H M o h → RO K H1 M1 o h
  | .l xs, h, ⟨vs, e, q⟩ => ⟨vs, e, DrL.stp s xs vs q⟩
  | .k kvs, h, ⟨vs, e, q⟩ => ⟨vs, e, KD.stp s q⟩
  | .t kvs, h, ⟨vs, e, q⟩ => ⟨vs, e, KD.stp s q⟩
theorem Rs.stp (s : Stp M H M1 H1) {ev : Ev} {σ : L2.St} (h : Rs XR H M ev σ) : Rs XR H1 M1 ev σ := Paired.imp (fun x y z w e => by
  obtain ⟨v, e1, r⟩ := z w e
  exact ⟨v, e1, r.stp s⟩) h
/-- a new thing that does not change -/
theorem stp_new {p : Addr} {o : HO} (n : H p = none) : Stp M H M (upd H p o) :=
  ⟨List.prefix_refl _, fun _ h => h, fun a u _ e => by rw [upd_ne (ne_of_none e n)]; exact e, fun _ h n => absurd h n, fun _ h n _ => absurd h n⟩
theorem Rl.notin {S : So} (h : Rl K H M S) {p : Addr} (n : H p = none) : p ∉ M := fun m => by
  rcases m with m | m
  · obtain ⟨i, hi⟩ := List.mem_iff_getElem?.mp m
    obtain ⟨o, _, u, e, _⟩ := Paired.get h.ob hi
    rw [n] at e
    cases e
  · exact (h.ex p m).2 n
theorem upd_some {p a : Addr} {o : HO} (h : H a ≠ none) : upd H p o a ≠ none := by
  unfold upd
  split
  · intro z
    cases z
  · exact h
theorem Rl.new {S : So} (h : Rl K H M S) {p : Addr} {o : HO} (n : H p = none) : Rl K (upd H p o) M S := by
  refine ⟨h.nd, Paired.imp (fun a b ⟨u, e, r⟩ => ⟨u, ?_, r.stp (stp_new n)⟩) h.ob, fun a m => ⟨(h.ex a m).1, upd_some (h.ex a m).2⟩⟩
  rw [upd_ne (ne_of_none e n)]
  exact e
/-- a new thing that may change -/
theorem stp_mut {p : Addr} {o : HO} (n : H p = none) : Stp M H (M.add p) (upd H p o) := by
  refine ⟨List.prefix_append _ _, fun _ h => h, fun a u _ e => by rw [upd_ne (ne_of_none e n)]; exact e, fun a h n' => ?_, fun _ h n _ => absurd h n⟩
  rcases List.mem_append.mp h with h | h
  · exact absurd h n'
  · rw [List.mem_singleton.mp h]
    exact n
/-- a new place is set apart -/
theorem stp_res {p : Addr} {o : HO} (n : H p = none) : Stp M H (M.res p) (upd H p o) := by
  refine ⟨List.prefix_refl _, fun _ h => List.mem_cons_of_mem _ h, fun a u _ e => by rw [upd_ne (ne_of_none e n)]; exact e, fun _ h n => absurd h n, fun a h n' _ => ?_⟩
  rcases List.mem_cons.mp h with h | h
  · rw [h]
    exact n
  · exact absurd h n'
theorem Rl.mut {S : So} (h : Rl K H M S) {p : Addr} {o : HO} {b : Ob} (n : H p = none) (r : RO K (upd H p o) (M.add p) b o) : Rl K (upd H p o) (M.add p) (S ++ [b]) := by
  have np := h.notin n
  refine ⟨?_, Paired.snoc ⟨o, upd_same, r⟩ (Paired.imp (fun a b ⟨u, e, r⟩ => ⟨u, (by rw [upd_ne (ne_of_none e n)]; exact e), r.stp (stp_mut n)⟩) h.ob), fun a m => ⟨fun z => ?_, upd_some (h.ex a m).2⟩⟩
  · show (M.m ++ [p]).Nodup
    rw [List.nodup_append]
    refine ⟨h.nd, by simp, fun a ha b hb => ?_⟩
    rw [List.mem_singleton.mp hb]
    intro e
    subst e
    exact np (Or.inl ha)
  · rcases List.mem_append.mp z with z | z
    · exact (h.ex a m).1 z
    · rw [List.mem_singleton.mp z] at m
      exact np (Or.inr m)
/-- one of what may change is changed -/
theorem stp_set {p : Addr} {o : HO} (m : p ∈ M.m) : Stp M H M (upd H p o) := by
  refine ⟨List.prefix_refl _, fun _ h => h, fun a u na e => ?_, fun _ h n => absurd h n, fun _ h n _ => absurd h n⟩
  have ne : a ≠ p := by
    intro c
    subst c
    exact na m
  rw [upd_ne ne]
  exact e
theorem Rl.get {S : So} (h : Rl K H M S) {n : Nat} {a : Addr} {o : Ob} (e1 : M.m[n]? = some a) (e2 : S[n]? = some o) : ∃ u, H a = some u ∧ RO K H M o u := by
  obtain ⟨b, e3, q⟩ := Paired.get h.ob e1
  rw [e2] at e3
  cases e3
  exact q
theorem Paired.mapI {α β : Type} {F G : α → β → Prop} : ∀ {l : List α} {m : List β}, Paired F l m → (∀ (j : Nat) (x : α) (y : β), l[j]? = some x → F x y → G x y) → Paired G l m
  | _, _, .nil, _ => .nil
  | _, _, .cons r t, f => .cons (f 0 _ _ rfl r) (Paired.mapI t fun j x y e => f (j + 1) x y (by simpa using e))
theorem Paired.setR {α β : Type} {F G : α → β → Prop} {b : β} {a : α} : ∀ {l : List α} {m : List β} (i : Nat), Paired F l m → l[i]? = some a → G a b → (∀ (j : Nat) (x : α) (y : β), j ≠ i → l[j]? = some x → F x y → G x y) → Paired G l (m.set i b)
  | _, _, i, .nil, e, _, _ => by simp at e
  | c :: _, _, 0, .cons q t, e, g, f => by
    have e' : c = a := by simpa using e
    subst e'
    exact .cons g (Paired.mapI t fun j x y e => f (j + 1) x y (by omega) (by simpa using e))
  | _ :: _, _, i + 1, .cons q t, e, g, f => .cons (f 0 _ _ (by omega) rfl q) (Paired.setR i t (by simpa using e) g fun j x y ne e => f (j + 1) x y (by omega) (by simpa using e))
theorem nodup_at {α : Type} {a : α} : ∀ {l : List α} {i j : Nat}, l.Nodup → l[i]? = some a → l[j]? = some a → i = j := by
  intro l i j h e1 e2
  obtain ⟨h1, q1⟩ := List.getElem?_eq_some_iff.mp e1
  obtain ⟨h2, q2⟩ := List.getElem?_eq_some_iff.mp e2
  have p := List.pairwise_iff_getElem.mp h
  rcases Nat.lt_trichotomy i j with l | l | l
  · exact absurd (q1.trans q2.symm) (p i j h1 h2 l)
  · exact l
  · exact absurd (q2.trans q1.symm) (p j i h2 h1 l)
theorem Rl.set {S : So} (h : Rl K H M S) {n : Nat} {a : Addr} {o : HO} {b : Ob} (e1 : M.m[n]? = some a) (r : RO K (upd H a o) M b o) : Rl K (upd H a o) M (S.set n b) := by
  have m : a ∈ M.m := List.mem_iff_getElem?.mpr ⟨n, e1⟩
  refine ⟨h.nd, Paired.setR n h.ob e1 ⟨o, upd_same, r⟩ ?_, fun a m => ⟨(h.ex a m).1, upd_some (h.ex a m).2⟩⟩
  rintro j x y ne e2 ⟨u, e3, q⟩
  refine ⟨u, ?_, q.stp (stp_set m)⟩
  rw [upd_ne ?_]
  · exact e3
  · intro c
    subst c
    exact ne (nodup_at h.nd e2 e1)
theorem Rl.res {S : So} (h : Rl K H M S) {p : Addr} {o : HO} (n : H p = none) : Rl K (upd H p o) (M.res p) S := by
  have np := h.notin n
  refine ⟨h.nd, Paired.imp (fun a b ⟨u, e, r⟩ => ⟨u, (by rw [upd_ne (ne_of_none e n)]; exact e), r.stp (stp_res n)⟩) h.ob, fun a m => ?_⟩
  rcases List.mem_cons.mp m with m | m
  · subst m
    refine ⟨fun z => np (Or.inl z), ?_⟩
    rw [upd_same]
    intro z
    cases z
  · exact ⟨(h.ex a m).1, upd_some (h.ex a m).2⟩
/-! fewer places that may change -/
mutual
theorem Dr.les (s : ∀ b, b ∈ M1 → b ∈ M) : ∀ (d : PyData) (v : V), Dr K H M d v → Dr K H M1 d v
  | .none, v, h => by unfold Dr at h ⊢; exact h
  | .bool b, v, h => by unfold Dr at h ⊢; exact h
  | .int i, v, h => by unfold Dr at h ⊢; exact h
  | .str x, v, h => by unfold Dr at h ⊢; exact h
  | .list ds, v, h => by
    unfold Dr at h ⊢
    obtain ⟨a, xs, e, q, r⟩ := h
    exact ⟨a, xs, e, ⟨fun z => q.1 (s _ z), q.2⟩, DrL.les s ds xs r⟩
  | .tuple ds, v, h => by
    unfold Dr at h ⊢
    obtain ⟨a, xs, e, q, r⟩ := h
    refine ⟨a, xs, e, ?_, DrL.les s ds xs r⟩
    rcases q with q | q
    · exact .inl ⟨fun z => q.1 (s _ z), q.2⟩
    · exact .inr q
  | .dict kvs, v, h => by
    unfold Dr at h ⊢
    obtain ⟨e, a, e2, n, q⟩ := h
    exact ⟨e, a, e2, fun z => n (s _ z), q⟩
theorem DrL.les (s : ∀ b, b ∈ M1 → b ∈ M) : ∀ (ds : List PyData) (xs : List V), DrL K H M ds xs → DrL K H M1 ds xs
  | [], xs, h => by unfold DrL at h ⊢; exact h
  | d :: ds, xs, h => by
    unfold DrL at h ⊢
    obtain ⟨x, r, e, h1, h2⟩ := h
    exact ⟨x, r, e, Dr.les s d x h1, DrL.les s ds r h2⟩
end
theorem KD.les {κ : Type} (s : ∀ b, b ∈ M1 → b ∈ M) {kvs : List (κ × PyData)} {vs : List (κ × V)} (h : Paired (KD (K := K) H M) kvs vs) : Paired (KD (K := K) H M1) kvs vs :=
  Paired.imp (fun p q z => ⟨z.1, Dr.les s _ _ z.2⟩) h
theorem RO.les (s : ∀ b, b ∈ M1 → b ∈ M) : ∀ {o : Ob} {h : HO}, RO K H M o h → RO K H M1 o h
  | .l xs, h, ⟨vs, e, q⟩ => ⟨vs, e, DrL.les s xs vs q⟩
  | .k kvs, h, ⟨vs, e, q⟩ => ⟨vs, e, KD.les s q⟩
  | .t kvs, h, ⟨vs, e, q⟩ => ⟨vs, e, KD.les s q⟩
theorem PmR.les (s : ∀ b, b ∈ M1 → b ∈ M) (hm : M1.m = M.m) : ∀ {x : Pm} {v : V}, PmR XR H M x v → PmR XR H M1 x v
  | .d x, v, h => Dr.les s x v h
  | .x c f, v, ⟨a, e, q⟩ => ⟨a, e, XR.les s q⟩
  | .r n, v, ⟨a, e1, e2⟩ => ⟨a, by rw [hm]; exact e1, e2⟩
/-- the numbered ones the same -/
theorem RW.les (s : ∀ b, b ∈ M1 → b ∈ M) (hm : M1.m = M.m) : ∀ {w : W} {v : V}, RW XR H M w v → RW XR H M1 w v
  | .d x, v, h => Dr.les s x v h
  | .r n, v, ⟨a, e1, e2⟩ => ⟨a, by rw [hm]; exact e1, e2⟩
  | .k kvs, v, ⟨a, vs, e1, n, e2, q⟩ => ⟨a, vs, e1, fun z => n (s _ z), e2, KD.les s q⟩
  | .x c f, v, ⟨a, e1, q⟩ => ⟨a, e1, XR.les s q⟩
  | .s ns, v, ⟨a, e1, .inl ⟨n, o, e2⟩⟩ => ⟨a, e1, .inl ⟨fun z => n (s _ z), o, e2⟩⟩
  | .s ns, v, ⟨a, e1, .inr q⟩ => ⟨a, e1, .inr q⟩
  | .p xs, v, ⟨a, vs, e1, n, ⟨o, ho, e2⟩, q⟩ => ⟨a, vs, e1, fun z => n (s _ z), ⟨o, ho, e2⟩, Paired.imp (fun _ _ z => PmR.les s hm z) q⟩
end
end FL

set_option Elab.async false
set_option linter.all false
set_option maxRecDepth 100000
set_option maxHeartbeats 1000000
namespace FL
open PySem PySem.Spec PyProof.Rows
open L2
/-! new tuples, told with the very object: it has no attributes -/
abbrev tObj (us : List Value) : Obj := { cls := .type "tuple", data := .seq us.toArray }
def NewT (H : Hp) (xs : List V) (Q : VK) : Prop := ∀ p o, H p = none → o.dict = none → Q (.ref p) (upd H p (.frz o (.tup xs)))
section
variable {X : Cx} {pins : List (Addr × Obj)} {σ : L2.St} {H : Hp} {s : Shared} {xs ys : List V} {us : List Value} {t : TA} {es : List Expr} {pos : Pos}
theorem lay_tup (I : Inv X pins σ H s) (r : Vals xs us) (hz : xs.length ≤ sizeLine) {Q : VK} (q : NewT H xs Q) :
    ∃ x H2, Inv X pins σ H2 { s with heap := s.heap.push (tObj us) } ∧ RelV x (.ref s.heap.objs.size) ∧ Q x H2 := by
  refine ⟨.ref s.heap.objs.size, upd H s.heap.objs.size (.frz (tObj us) (.tup xs)), I.laid (t' := s.toks) (fun b ob e => Heap.get?_push_of_some _ e) (Nat.le_refl _) ⟨Heap.get?_push_size _ rfl, hz, us, r, IsTup.new _ _⟩, rfl, q _ _ (I.hok.fresh (Nat.le_refl _)) rfl⟩
def tTupP (t : TA) : TE := fun σ H Q => t σ H fun xs H1 => xs.length ≤ sizeLine ∧ NewT H1 xs Q
theorem pe_tupP {x1} (h : PA X es t) : PE X (.Tuple es x1 pos) (tTupP t) := by
  refine ⟨fun pins s σ H Q I hq => wpAny_Tuple_spliced (thn (h.run pos pins s σ H _ I hq) fun us s1 ⟨xs, H1, I1, r, z, q⟩ => ⟨by rw [← r.length]; exact z, ?_⟩)⟩
  exact lay_tup I1 r z q
theorem call_tupleP : CallR X (.type "tuple") (fun xs H Q => ∃ p ys, xs = [.ref p] ∧ ((SqL X.K H p ys ∧ NewT H ys Q) ∨ (SqT X.K H p ys ∧ Q (.ref p) H))) := by
  intro pins s σ H xs us Q I r h
  obtain ⟨p, ys, rfl, h⟩ := h
  obtain ⟨u, rfl, rx⟩ := vals1 r
  cases rx
  rcases h with ⟨hq, q⟩ | ⟨hq, q⟩
  · obtain ⟨its, r2, pl, hz⟩ := I.list hq
    have ln := r2.length
    exact call_tuple_list pl.isList (fun h2 kp => lay_tup (I.kept (t' := s.toks) kp) r2 hz q) (by simp only [List.size_toArray] <;> omega)
  · obtain ⟨its, r2, pl, hz⟩ := I.tuple hq
    exact call_tuple_same pl ⟨.ref p, H, I, rfl, q⟩
def rSlP (K : PySem.W.Frag) : V → Option Int → Option Int → Hp → VK → Prop := fun x lo hi H Q => ∃ a xs, x = .ref a ∧ SqT K H a xs ∧ ¬ (HT.sIx xs.length 0 lo = 0 ∧ HT.sIx xs.length xs.length hi = xs.length) ∧ NewT H (cutV xs lo hi) Q
theorem sl_tupP : SlR X (rSlP X.K) := by
  intro pins s σ H x v vl vu lo hi sl Q I rx hs pl pu h
  obtain ⟨a, xs, rfl, hx, hw, q⟩ := h
  cases rx
  obtain ⟨its, r, ht, hz⟩ := I.tuple hx
  have ln : its.toArray.size = xs.length := by rw [List.size_toArray]; exact r.length.symm
  refine ⟨"tuple", _, PyProof.Rows.slot_tuple_getitem.lookup, ht.typeIs, HT.getItem_tuple_cut ht hs pl pu (by rw [ln]; exact hw) ?_ (by rw [ln]; exact hz)⟩
  rw [ln]
  exact lay_tup I ((r.drop (HT.sIx xs.length 0 lo)).take (HT.sIx xs.length xs.length hi - HT.sIx xs.length 0 lo)) (Nat.le_trans (cutV_length xs lo hi) hz) q
def rCatP (K : PySem.W.Frag) : R2 := fun x y H Q => ∃ a b xs ys, x = .ref a ∧ y = .ref b ∧ SqT K H a xs ∧ SqT K H b ys ∧ xs ≠ [] ∧ xs.length + ys.length ≤ sizeLine ∧ (ys = [] → Q (.ref a) H) ∧ (ys ≠ [] → NewT H (xs ++ ys) Q)
theorem op_catP : OpR X (binaryOp .Add) (rCatP X.K) := by
  intro pins s σ H x y v u Q I rx ry h
  obtain ⟨a, b, xs, ys, rfl, rfl, ha, hb, hx, hz, q1, q2⟩ := h
  cases rx
  cases ry
  obtain ⟨its, r1, p1, _⟩ := I.tuple ha
  obtain ⟨jts, r2, p2, _⟩ := I.tuple hb
  exact HT.cat_tup p1 p2 (fun z => hx (r1.nil_iff.mp z)) (fun z => ⟨.ref a, H, I, rfl, q1 (r2.nil_iff.mp z)⟩) (fun z => lay_tup I (r1.append r2) (by rw [List.length_append]; exact hz) (q2 fun w => z (r2.nil_iff.mpr w))) (by rw [← r1.length, ← r2.length]; exact hz)
def rRepP (K : PySem.W.Frag) : R2 := fun x y H Q => ∃ l k xs, x = .ref l ∧ y = .int k ∧ SqT K H l xs ∧ xs ≠ [] ∧ 2 ≤ k ∧ k ≤ 1000 ∧ xs.length ≤ 1000 ∧ NewT H (List.replicate k.toNat xs).flatten Q
theorem op_repP : OpR X (binaryOp .Mult) (rRepP X.K) := by
  intro pins s σ H x y v u Q I rx ry h
  obtain ⟨l, k, xs, rfl, rfl, hT, hne, h1, h2, hz, q⟩ := h
  cases rx
  obtain ⟨tk, rfl⟩ := ry
  obtain ⟨its, r, ⟨⟨cls, dd, data, sl⟩, ho, hc, n, hd⟩, hs⟩ := I.tuple hT
  simp only at hc hd
  subst hc hd
  have ln : its.length = xs.length := r.length.symm
  have sz : its.toArray.size = xs.length := by rw [List.size_toArray, ln]
  have em : its.toArray.isEmpty = false := by
    cases its with
    | nil => exact absurd (List.eq_nil_of_length_eq_zero ln.symm) hne
    | cons _ _ => rfl
  have big : k.toNat * xs.length ≤ 1000 * 1000 := Nat.mul_le_mul (by omega) hz
  have prod : ((its.toArray.size : Nat) : Int) * k ≤ 1000000 := by
    rw [sz]
    have z : ((xs.length : Nat) : Int) * k ≤ 1000 * k := Int.mul_le_mul_of_nonneg_right (by omega) (by omega)
    omega
  have flat : (List.replicate k.toNat its).flatten.length ≤ sizeLine := by
    rw [PyProof.Rows.lm_len_rep_flat, ln, sizeLine_eq]
    omega
  have d0 : (decide (k < -(2 ^ 63)) || decide (k ≥ 2 ^ 63)) = false := by rw [decide_eq_false (by omega), decide_eq_false (by omega)] <;> rfl
  have d1 : (its.toArray.isEmpty || k == 1) = false := by rw [em, Bool.false_or]; exact beq_eq_false_iff_ne.mpr (by omega)
  have d2 : (decide (k ≤ 0) || its.toArray.isEmpty) = false := by rw [em, Bool.or_false]; exact decide_eq_false (by omega)
  have d4 : Builtin.Tuple.tupleTooMany (((its.toArray.size : Nat) : Int) * k) = false := by
    unfold Builtin.Tuple.tupleTooMany
    rw [sizeLine_eq]
    exact decide_eq_false (by omega)
  have mul := tuple_mulW l its.toArray n dd sl k tk d0 d1 d2 (by omega) d4 (by rw [size_rep, List.size_toArray]; exact flat)
  refine wpAny_binaryOp_repeat_ref (T := "tuple") (U := "int") (by decide) ⟨_, ho, rfl⟩ (fun s2 => typeIs_int s2 k tk) noFill_tuple_mul F.fills_int_mul F.slot_int_rmul repeat_tuple F.slot_int_index.lookup ?_
  refine call_meets F.slot_int_rmul (typeIs_int s k tk) F.entry_int_rmul (F.args_int_rmul_2 _ _) (int_rmul_tuple k tk l its.toArray n dd sl) ⟨ho, rfl, ⟨_, ho, rfl⟩, call_meets F.slot_tuple_mul ⟨_, ho, rfl⟩ F.entry_tuple_mul (F.args_tuple_mul_2 _ _) mul ⟨ho, ?_⟩⟩
  rw [size_rep]
  exact lay_tup I (r.rep k.toNat) (by rw [PyProof.Rows.lm_len_rep_flat, sizeLine_eq]; omega) q
end
end FL

set_option Elab.async false
set_option linter.all false
set_option maxRecDepth 100000
set_option maxHeartbeats 1000000
namespace FL
open PySem PySem.Spec PyProof.Rows
open L2
section
variable {K : PySem.W.Frag} (XR : XRel K) (Wx : WX)
/-- what an answer asks of what follows -/
def Pst {α β : Type} (σ : L2.St) (M : Ms) (H : Hp) (rel : Hp → Ms → α → β → Prop) (r : Res α) (Q : β → Hp → Prop) : Prop := match r with
  | .ok w S' => ∀ M' H' v, Stp M H M' H' → Rl K H' M' S' → rel H' M' w v → Q v H'
  | .ex c f S' => ∀ M' H' cls dx, Stp M H M' H' → Rl K H' M' S' → XR.D c f cls dx H' M' → Wx cls dx σ H'
  | .no => False
variable {XR Wx}
theorem Pst.stp {α β : Type} {σ : L2.St} {M M1 : Ms} {H H1 : Hp} {rel : Hp → Ms → α → β → Prop} {r : Res α} {Q : β → Hp → Prop} (s : Stp M H M1 H1) (h : Pst XR Wx σ M H rel r Q) : Pst XR Wx σ M1 H1 rel r Q := by
  cases r with
  | ok w S' => exact fun M' H' v t => h M' H' v (s.trans t)
  | ex c f S' => exact fun M' H' cls dx t => h M' H' cls dx (s.trans t)
  | no => exact h
theorem Pst.cut {α β γ δ : Type} {σ : L2.St} {M : Ms} {H : Hp} {rel : Hp → Ms → α → β → Prop} {rel' : Hp → Ms → γ → δ → Prop} {r : Res α} {f : α → So → Res γ} {Q : δ → Hp → Prop} {Q1 : β → Hp → Prop}
    (h : Pst XR Wx σ M H rel' (r.bind f) Q) (g : ∀ a S1 M1 H1 v, r = .ok a S1 → Stp M H M1 H1 → Rl K H1 M1 S1 → rel H1 M1 a v → Pst XR Wx σ M1 H1 rel' (f a S1) Q → Q1 v H1) : Pst XR Wx σ M H rel r Q1 := by
  cases r with
  | ok a S1 => exact fun M1 H1 v s l q => g a S1 M1 H1 v rfl s l q (Pst.stp s h)
  | ex c f S' => exact h
  | no => exact h
/-- the same, at once -/
theorem Pst.ok {α β : Type} {σ : L2.St} {M : Ms} {H : Hp} {rel : Hp → Ms → α → β → Prop} {w : α} {S : So} {Q : β → Hp → Prop} {v : β} (h : Pst XR Wx σ M H rel (.ok w S) Q) (l : Rl K H M S) (r : rel H M w v) : Q v H := h M H v (.refl _ _) l r
variable (XR Wx)
def rE (f : FE) : TE := fun σ H Q => ∃ M S ev, Rl K H M S ∧ Rs XR H M ev σ ∧ Pst XR Wx σ M H (RW XR) (f ev S) Q
def rT (f : FT) : TT := fun σ H Q => ∃ M S ev, Rl K H M S ∧ Rs XR H M ev σ ∧ Pst XR Wx σ M H (fun _ _ a b => a = b) (f ev S) Q
def RWs (H : Hp) (M : Ms) (ws : List W) (vs : List V) : Prop := Paired (RW XR H M) ws vs
def rA (f : FA) : TA := fun σ H Q => ∃ M S ev, Rl K H M S ∧ Rs XR H M ev σ ∧ Pst XR Wx σ M H (RWs XR) (f ev S) Q
variable {XR Wx}
theorem RWs.stp {H H1 : Hp} {M M1 : Ms} (s : Stp M H M1 H1) {ws : List W} {vs : List V} (h : RWs XR H M ws vs) : RWs XR H1 M1 ws vs := Paired.imp (fun _ _ r => r.stp s) h
end
/-- where a rule stands -/
structure Ct (X : Cx) (Wx : WX) (n : Nat) : Prop where
  cal : X.calm = true
  room : Room n X.A
  gds : X.A.guards = some []
  tk : Takes X Wx
  pp : PassesOwn (model X.prog X.w) X.A X.env X.xe
/-! views -/
@[simp] def asL (w : W) (S : So) : Option (List PyData) := match w with
  | .d (.list xs) => some xs
  | .r n => match S[n]? with
    | some (.l xs) => some xs
    | _ => none
  | _ => none
@[simp] def asT : W → Option (List PyData)
  | .d (.tuple xs) => some xs
  | _ => none
/-- as data -/
def toP (w : W) (S : So) : Option PyData := match w with
  | .d x => some x
  | .r n => match S[n]? with
    | some (.l xs) => some (.list xs)
    | _ => none
  | _ => none
section
variable {K : PySem.W.Frag} {XR : XRel K} {H : Hp} {M : Ms} {S : So}
theorem asL_ok (l : Rl K H M S) {w : W} {v : V} {xs : List PyData} (r : RW XR H M w v) (e : asL w S = some xs) : ∃ a vs, v = .ref a ∧ H a = some (.lst vs) ∧ DrL K H M xs vs := by
  cases w with
  | d x =>
    cases x with
    | list ys =>
      have e' : ys = xs := by simpa [asL] using e
      subst e'
      have r' : Dr K H M (.list ys) v := r
      unfold Dr at r'
      obtain ⟨a, vs, e1, q, h⟩ := r'
      exact ⟨a, vs, e1, q.2, h⟩
    | none | bool _ | int _ | str _ | tuple _ | dict _ => cases e
  | r n =>
    obtain ⟨a, e1, e2⟩ := r
    cases e3 : S[n]? with
    | none => simp [asL, e3] at e
    | some o =>
      obtain ⟨u, h1, h2⟩ := l.get e1 e3
      cases o with
      | l ys =>
        have e' : ys = xs := by simpa [asL, e3] using e
        subst e'
        obtain ⟨vs, e4, h3⟩ := h2
        subst e4
        exact ⟨a, vs, e2, h1, h3⟩
      | k _ => simp [asL, e3] at e
      | t _ => simp [asL, e3] at e
  | k _ => cases e
  | x _ _ => cases e
  | s _ => cases e
  | p _ => cases e
theorem FzT.sq {a : Addr} {xs : List V} (h : FzT K H M a xs) : SqT K H a xs := by
  rcases h with h | h
  · obtain ⟨_, o, _, h3⟩ := h
    exact .inl (.inr ⟨o, h3⟩)
  · obtain ⟨o, its, n, h1, h2, _, h3⟩ := h
    exact .inr ⟨o, its, n, h1, h2, h3⟩
theorem asT_ok {w : W} {v : V} {xs : List PyData} (r : RW XR H M w v) (e : asT w = some xs) : ∃ a vs, v = .ref a ∧ FzT K H M a vs ∧ DrL K H M xs vs := by
  cases w with
  | d x =>
    cases x with
    | tuple ys =>
      have e' : ys = xs := by simpa [asT] using e
      subst e'
      have r' : Dr K H M (.tuple ys) v := r
      unfold Dr at r'
      exact r'
    | none | bool _ | int _ | str _ | list _ | dict _ => cases e
  | r n => cases e
  | k _ => cases e
  | x _ _ => cases e
  | s _ => cases e
  | p _ => cases e
mutual
theorem Dr.dp : ∀ (d : PyData) (v : V), d.plain = true → Dr K H M d v → Dp K H v d
  | .none, v, _, h => by
    unfold Dr at h
    subst h
    exact .non
  | .bool b, v, _, h => by
    unfold Dr at h
    subst h
    exact .bl b
  | .int i, v, _, h => by
    unfold Dr at h
    subst h
    exact .int i
  | .str x, v, _, h => by
    unfold Dr at h
    subst h
    exact .str x
  | .list ds, v, p, h => by
    unfold Dr at h
    obtain ⟨a, xs, e, q, r⟩ := h
    subst e
    exact .lst (SqL.of q.2) (DrL.dp ds xs (by simpa [PyData.plain] using p) r)
  | .tuple ds, v, p, h => by
    unfold Dr at h
    obtain ⟨a, xs, e, q, r⟩ := h
    subst e
    exact .tup q.sq (DrL.dp ds xs (by simpa [PyData.plain] using p) r)
  | .dict kvs, v, p, h => by simp [PyData.plain] at p
theorem DrL.dp : ∀ (ds : List PyData) (xs : List V), PyData.plainAll ds = true → DrL K H M ds xs → DpAll K H xs ds
  | [], xs, _, h => by
    unfold DrL at h
    subst h
    exact .nil
  | d :: ds, xs, p, h => by
    obtain ⟨x, r, e, h1, h2⟩ := h.cases
    subst e
    have p' : d.plain = true ∧ PyData.plainAll ds = true := by simpa [PyData.plainAll] using p
    exact .cons (Dr.dp d x p'.1 h1) (DrL.dp ds r p'.2 h2)
end
theorem toP_ok (l : Rl K H M S) {w : W} {v : V} {d : PyData} (r : RW XR H M w v) (e : toP w S = some d) (p : d.plain = true) : Dp K H v d := by
  cases w with
  | d x =>
    have e' : x = d := by simpa [toP] using e
    subst e'
    exact Dr.dp x v p r
  | r n =>
    cases e3 : S[n]? with
    | none => simp [toP, e3] at e
    | some o =>
      cases o with
      | l ys =>
        have e' : PyData.list ys = d := by simpa [toP, e3] using e
        subst e'
        obtain ⟨a, vs, e1, h1, h2⟩ := asL_ok (XR := XR) l (w := .r n) r (xs := ys) (by simp [asL, e3])
        subst e1
        exact .lst (SqL.of h1) (DrL.dp ys vs (by simpa [PyData.plain] using p) h2)
      | k _ => simp [toP, e3] at e
      | t _ => simp [toP, e3] at e
  | k _ => cases e
  | x _ _ => cases e
  | s _ => cases e
  | p _ => cases e
/-- a new tuple, a new list -/
theorem dr_tup {p : Addr} {o : Obj} {xs : List PyData} {vs : List V} (l : Rl K H M S) (n : H p = none) (ho : o.dict = none) (h : DrL K H M xs vs) : RW XR (upd H p (.frz o (.tup vs))) M (.d (.tuple xs)) (.ref p) := by
  show Dr K _ M (.tuple xs) (.ref p)
  unfold Dr
  exact ⟨p, vs, rfl, .inl ⟨l.notin n, o, ho, upd_same⟩, DrL.stp (stp_new n) xs vs h⟩
theorem dr_lst {p : Addr} {xs : List PyData} {vs : List V} (l : Rl K H M S) (n : H p = none) (h : DrL K H M xs vs) : RW XR (upd H p (.lst vs)) M (.d (.list xs)) (.ref p) := by
  show Dr K _ M (.list xs) (.ref p)
  unfold Dr
  exact ⟨p, vs, rfl, ⟨l.notin n, upd_same⟩, DrL.stp (stp_new n) xs vs h⟩
end
/-! names, constants -/
section
variable {X : Cx} {XR : XRel X.K} {Wx : WX} {pos : Pos}
abbrev FEx (X : Cx) (XR : XRel X.K) (Wx : WX) (e : Expr) (f : FE) : Prop := PE X e (rE XR Wx f)
abbrev FTx (X : Cx) (XR : XRel X.K) (Wx : WX) (e : Expr) (f : FT) : Prop := PT X e (rT XR Wx f)
abbrev FWx (X : Cx) (XR : XRel X.K) (Wx : WX) (e : Expr) (f : FT) : Prop := PW X e (rT XR Wx f)
abbrev FAx (X : Cx) (XR : XRel X.K) (Wx : WX) (es : List Expr) (f : FA) : Prop := PA X es (rA XR Wx f)
theorem PE.imp {e : Expr} {t t' : TE} (h : PE X e t) (g : ∀ σ H Q, t' σ H Q → t σ H Q) : PE X e t' := ⟨fun pins s σ H Q I q => h.run pins s σ H Q I (g _ _ _ q)⟩
theorem PT.imp {e : Expr} {t t' : TT} (h : PT X e t) (g : ∀ σ H Q, t' σ H Q → t σ H Q) : PT X e t' := ⟨fun pins s σ H Q I q => h.run pins s σ H Q I (g _ _ _ q)⟩
theorem PW.imp {e : Expr} {t t' : TT} (h : PW X e t) (g : ∀ σ H Q, t' σ H Q → t σ H Q) : PW X e t' := ⟨fun wh pins s σ H Q I q => h.run wh pins s σ H Q I (g _ _ _ q)⟩
theorem PA.imp {es : List Expr} {t t' : TA} (h : PA X es t) (g : ∀ σ H Q, t' σ H Q → t σ H Q) : PA X es t' := ⟨fun p pins s σ H Q I q => h.run p pins s σ H Q I (g _ _ _ q)⟩
@[simp] def fV (i : Nat) : FE := fun ev S => match ev[i]? with
  | some (some w) => .ok w S
  | _ => .no
@[simp] def fC (d : PyData) : FE := fun _ S => .ok (.d d) S
theorem fe_v {i : Nat} {x : Str} (hN : X.N[i]? = some x) (hv : Vis X.env.scope x) (hd : (x == ("__debug__" : Str)) = false := by decide) (hcd : (x == ("__classdict__" : Str)) = false := by decide) : FEx X XR Wx (.Name x pos) (fV i) := by
  refine PE.imp (pe_var hN hv hd hcd) ?_
  rintro σ H Q ⟨M, S, ev, l, r, h⟩
  unfold fV at h
  split at h
  · rename_i w e
    obtain ⟨y, e1, q⟩ := Paired.get r e
    obtain ⟨v, e2, q⟩ := q w rfl
    exact ⟨v, by rw [e1, e2], h.ok l q⟩
  · exact h.elim
theorem fe_c {e : Expr} {d : PyData} {v : V} (h : PE X e (tC v)) (q : ∀ H M, Dr X.K H M d v) : FEx X XR Wx e (fC d) := by
  refine PE.imp h ?_
  rintro σ H Q ⟨M, S, ev, l, r, h⟩
  exact h.ok (v := v) l (q H M)
theorem fe_int {i j} : FEx X XR Wx (.Constant (.int i) j pos) (fC (.int i)) := fe_c pe_int fun _ _ => by unfold Dr; rfl
theorem fe_bl {b j} : FEx X XR Wx (.Constant (.bool b) j pos) (fC (.bool b)) := fe_c pe_bl fun _ _ => by unfold Dr; rfl
theorem fe_non {j} : FEx X XR Wx (.Constant .none j pos) (fC .none) := fe_c pe_non fun _ _ => by unfold Dr; rfl
theorem fe_str {x j} : FEx X XR Wx (.Constant (.str x) j pos) (fC (.str x)) := fe_c pe_str fun _ _ => by unfold Dr; rfl
/-- what a name of the module holds -/
def Gd (K : PySem.W.Frag) (mg : Str → Option Value) (x : Str) (d : PyData) : Prop := ∃ u v, mg x = some u ∧ RelV v u ∧ ∀ H M, Dr K H M d v
theorem fe_g {x : Str} {d : PyData} (h : Gd X.K X.mg x d) (hg : Gl X x) (hd : (x == ("__debug__" : Str)) = false := by decide) : FEx X XR Wx (.Name x pos) (fC d) := by
  obtain ⟨u, v, hm, r, q⟩ := h
  exact fe_c (pe_glob hg hm r hd) q
/-! two operands -/
@[simp] def f2 (op : W → W → So → Res W) (fa fb : FE) : FE := fun ev S => (fa ev S).bind fun x S1 => (fb ev S1).bind fun y S2 => op x y S2
@[simp] def f1 (op : W → So → Res W) (fa : FE) : FE := fun ev S => (fa ev S).bind fun x S1 => op x S1
/-- an operation of the machine does what op says -/
def Op2 {K : PySem.W.Frag} (XR : XRel K) (op : W → W → So → Res W) (r : R2) : Prop := ∀ (H : Hp) (M : Ms) (S S' : So) (x y w : W) (vx vy : V) (Q : VK), Rl K H M S → RW XR H M x vx → RW XR H M y vy → op x y S = .ok w S' →
  (∀ M' H' v, Stp M H M' H' → Rl K H' M' S' → RW XR H' M' w v → Q v H') → r vx vy H Q
def Op1 {K : PySem.W.Frag} (XR : XRel K) (op : W → So → Res W) (r : V → Hp → VK → Prop) : Prop := ∀ (H : Hp) (M : Ms) (S S' : So) (x w : W) (vx : V) (Q : VK), Rl K H M S → RW XR H M x vx → op x S = .ok w S' →
  (∀ M' H' v, Stp M H M' H' → Rl K H' M' S' → RW XR H' M' w v → Q v H') → r vx H Q
/-- op never raises -/
def NX2 (op : W → W → So → Res W) : Prop := ∀ x y S c f S', op x y S ≠ .ex c f S'
def NX1 (op : W → So → Res W) : Prop := ∀ x S c f S', op x S ≠ .ex c f S'
theorem r2_ok {op : W → W → So → Res W} {r : R2} (ho : Op2 XR op r) (nx : NX2 op) {fa fb : FE} {σ : L2.St} {H : Hp} {Q : VK} (h : rE XR Wx (f2 op fa fb) σ H Q) : tOp r (rE XR Wx fa) (rE XR Wx fb) σ H Q := by
  obtain ⟨M, S, ev, l, rs, h⟩ := h
  refine ⟨M, S, ev, l, rs, Pst.cut h ?_⟩
  intro x S1 M1 H1 vx _ s1 l1 r1 h1
  refine ⟨M1, S1, ev, l1, rs.stp s1, Pst.cut h1 ?_⟩
  intro y S2 M2 H2 vy _ s2 l2 r2 h2
  cases e : op x y S2 with
  | ok w S' =>
    rw [e] at h2
    exact ho H2 M2 S2 S' x y w vx vy Q l2 (r1.stp s2) r2 e h2
  | ex c f S' => exact absurd e (nx _ _ _ _ _ _)
  | no =>
    rw [e] at h2
    exact h2.elim
theorem r1_ok {op : W → So → Res W} {r : V → Hp → VK → Prop} (ho : Op1 XR op r) (nx : NX1 op) {fa : FE} {σ : L2.St} {H : Hp} {Q : VK} (h : rE XR Wx (f1 op fa) σ H Q) : tUn r (rE XR Wx fa) σ H Q := by
  obtain ⟨M, S, ev, l, rs, h⟩ := h
  refine ⟨M, S, ev, l, rs, Pst.cut h ?_⟩
  intro x S1 M1 H1 vx _ s1 l1 r1 h1
  cases e : op x S1 with
  | ok w S' =>
    rw [e] at h1
    exact ho H1 M1 S1 S' x w vx Q l1 r1 e h1
  | ex c f S' => exact absurd e (nx _ _ _ _ _)
  | no =>
    rw [e] at h1
    exact h1.elim
end
end FL

set_option Elab.async false
set_option linter.all false
set_option maxRecDepth 100000
set_option maxHeartbeats 1000000
namespace FL
open PySem PySem.Spec PyProof.Rows
open L2
/-- what may follow an answer -/
abbrev Nxt {K : PySem.W.Frag} (XR : XRel K) (M : Ms) (H : Hp) (w : W) (S' : So) (Q : VK) : Prop := ∀ M' H' v, Stp M H M' H' → Rl K H' M' S' → RW XR H' M' w v → Q v H'
section
variable {K : PySem.W.Frag} {XR : XRel K} {H : Hp} {M : Ms} {S : So} {Q : VK}
theorem imm {w : W} {v : V} (l : Rl K H M S) (q : Nxt XR M H w S Q) (r : RW XR H M w v) : Q v H := q M H v (.refl _ _) l r
theorem imm_d {d : PyData} {v : V} (l : Rl K H M S) (q : Nxt XR M H (.d d) S Q) (r : Dr K H M d v) : Q v H := q M H v (.refl _ _) l r
theorem imm_i {i : Int} (l : Rl K H M S) (q : Nxt XR M H (.d (.int i)) S Q) : Q (.int i) H := imm_d l q (by unfold Dr; rfl)
theorem imm_b {b : Bool} (l : Rl K H M S) (q : Nxt XR M H (.d (.bool b)) S Q) : Q (.bl b) H := imm_d l q (by unfold Dr; rfl)
theorem imm_s {x : Str} (l : Rl K H M S) (q : Nxt XR M H (.d (.str x)) S Q) : Q (.str x) H := imm_d l q (by unfold Dr; rfl)
theorem imm_n (l : Rl K H M S) (q : Nxt XR M H (.d .none) S Q) : Q .non H := imm_d l q (by unfold Dr; rfl)
theorem new_t {xs : List PyData} {vs : List V} (l : Rl K H M S) (q : Nxt XR M H (.d (.tuple xs)) S Q) (h : DrL K H M xs vs) : NewT H vs Q := fun p o n ho => q M _ _ (stp_new n) (l.new n) (dr_tup l n ho h)
theorem new_l {p : Addr} {xs : List PyData} {vs : List V} (l : Rl K H M S) (q : Nxt XR M H (.d (.list xs)) S Q) (n : H p = none) (h : DrL K H M xs vs) : Q (.ref p) (upd H p (.lst vs)) := q M _ _ (stp_new n) (l.new n) (dr_lst l n h)
end
@[simp] def asI : W → Option Int
  | .d (.int i) => some i
  | _ => none
@[simp] def asS : W → Option Str
  | .d (.str i) => some i
  | _ => none
def asB : W → Option Bool
  | .d (.bool i) => some i
  | _ => none
section
variable {K : PySem.W.Frag} {XR : XRel K} {H : Hp} {M : Ms} {S : So}
theorem asI_ok {w : W} {v : V} {i : Int} (r : RW XR H M w v) (e : asI w = some i) : v = .int i := by
  unfold asI at e
  split at e
  · cases e
    have r' : Dr K H M (.int i) v := r
    unfold Dr at r'
    exact r'
  · cases e
theorem asS_ok {w : W} {v : V} {i : Str} (r : RW XR H M w v) (e : asS w = some i) : v = .str i := by
  unfold asS at e
  split at e
  · cases e
    have r' : Dr K H M (.str i) v := r
    unfold Dr at r'
    exact r'
  · cases e
theorem asB_ok {w : W} {v : V} {i : Bool} (r : RW XR H M w v) (e : asB w = some i) : v = .bl i := by
  unfold asB at e
  split at e
  · cases e
    have r' : Dr K H M (.bool i) v := r
    unfold Dr at r'
    exact r'
  · cases e
end
/-! ints -/
@[simp] def oI (C : Int → Int → Bool) (g : Int → Int → PyData) : W → W → So → Res W := fun x y S => match asI x, asI y with
  | some i, some j => if C i j = true then .ok (.d (g i j)) S else .no
  | _, _ => .no
theorem oI_nx {C g} : NX2 (oI C g) := by
  intro x y S c f S' e
  unfold oI at e
  split at e
  · split at e <;> cases e
  · cases e
theorem oI_ok {C : Int → Int → Bool} {g : Int → Int → PyData} {x y w : W} {S S' : So} (e : oI C g x y S = .ok w S') : ∃ i j, asI x = some i ∧ asI y = some j ∧ C i j = true ∧ w = .d (g i j) ∧ S' = S := by
  unfold oI at e
  split at e
  · rename_i i j e1 e2
    split at e
    · rename_i c
      cases e
      exact ⟨i, j, e1, e2, c, rfl, rfl⟩
    · cases e
  · cases e
theorem op2_I {K : PySem.W.Frag} {XR : XRel K} {C : Int → Int → Bool} {C' : Int → Int → Prop} {g : Int → Int → Int} (h : ∀ i j, C i j = true → C' i j) : Op2 XR (oI C fun i j => .int (g i j)) (rI C' fun i j => .int (g i j)) := by
  intro H M S S' x y w vx vy Q l rx ry e q
  obtain ⟨i, j, e1, e2, c, rfl, rfl⟩ := oI_ok e
  exact ⟨i, j, asI_ok rx e1, asI_ok ry e2, h i j c, imm_i l q⟩
theorem op2_I0 {K : PySem.W.Frag} {XR : XRel K} {g : Int → Int → Int} : Op2 XR (oI (fun _ _ => true) fun i j => .int (g i j)) (rI0 fun i j => .int (g i j)) := by
  intro H M S S' x y w vx vy Q l rx ry e q
  obtain ⟨i, j, e1, e2, c, rfl, rfl⟩ := oI_ok e
  exact ⟨i, j, asI_ok rx e1, asI_ok ry e2, imm_i l q⟩
theorem op2_B0 {K : PySem.W.Frag} {XR : XRel K} {g : Int → Int → Bool} : Op2 XR (oI (fun _ _ => true) fun i j => .bool (g i j)) (rI0 fun i j => .bl (g i j)) := by
  intro H M S S' x y w vx vy Q l rx ry e q
  obtain ⟨i, j, e1, e2, c, rfl, rfl⟩ := oI_ok e
  exact ⟨i, j, asI_ok rx e1, asI_ok ry e2, imm_b l q⟩
/-- the first that has an answer -/
@[simp] def oOr (f g : W → W → So → Res W) : W → W → So → Res W := fun x y S => match f x y S with
  | .no => g x y S
  | r => r
theorem oOr_nx {f g} (hf : NX2 f) (hg : NX2 g) : NX2 (oOr f g) := by
  intro x y S c v S' e
  unfold oOr at e
  split at e
  · exact hg _ _ _ _ _ _ e
  · exact hf _ _ _ _ _ _ e
theorem op2_or {K : PySem.W.Frag} {XR : XRel K} {f g : W → W → So → Res W} {r r' : R2} (hf : Op2 XR f r) (hg : Op2 XR g r') : Op2 XR (oOr f g) (fun x y H Q => r x y H Q ∨ r' x y H Q) := by
  intro H M S S' x y w vx vy Q l rx ry e q
  unfold oOr at e
  split at e
  · exact .inr (hg H M S S' x y w vx vy Q l rx ry e q)
  · rename_i e'
    exact .inl (hf H M S S' x y w vx vy Q l rx ry e q)
def oAddS : W → W → So → Res W := fun x y S => match asS x, asS y with
  | some a, some b => if a.length + b.length ≤ sizeLine then .ok (.d (.str (a ++ b))) S else .no
  | _, _ => .no
def oAddL : W → W → So → Res W := fun x y S => match asL x S, asL y S with
  | some a, some b => if a.length + b.length ≤ sizeLine then .ok (.d (.list (a ++ b))) S else .no
  | _, _ => .no
def oAddT : W → W → So → Res W := fun x y S => match asT x, asT y with
  | some a, some b => if a.isEmpty = false ∧ a.length + b.length ≤ sizeLine then .ok (.d (.tuple (a ++ b))) S else .no
  | _, _ => .no
theorem nx_S : NX2 oAddS := by
  intro x y S c f S' e
  unfold oAddS at e
  split at e
  · split at e <;> cases e
  · cases e
theorem nx_L : NX2 oAddL := by
  intro x y S c f S' e
  unfold oAddL at e
  split at e
  · split at e <;> cases e
  · cases e
theorem nx_T : NX2 oAddT := by
  intro x y S c f S' e
  unfold oAddT at e
  split at e
  · split at e <;> cases e
  · cases e
section
variable {K : PySem.W.Frag} {XR : XRel K}
theorem op2_addS : Op2 XR oAddS (fun x y H Q => ∃ i j, x = .str i ∧ y = .str j ∧ i.length + j.length ≤ sizeLine ∧ Q (.str (i ++ j)) H) := by
  intro H M S S' x y w vx vy Q l rx ry e q
  unfold oAddS at e
  split at e
  · rename_i a b e1 e2
    split at e
    · rename_i c
      cases e
      exact ⟨a, b, asS_ok rx e1, asS_ok ry e2, c, imm_s l q⟩
    · cases e
  · cases e
theorem op2_addL : Op2 XR oAddL rCat := by
  intro H M S S' x y w vx vy Q l rx ry e q
  unfold oAddL at e
  split at e
  · rename_i a b e1 e2
    split at e
    · rename_i c
      cases e
      obtain ⟨p, xs, h1, h2, h3⟩ := asL_ok l rx e1
      obtain ⟨p', ys, g1, g2, g3⟩ := asL_ok l ry e2
      exact ⟨p, p', xs, ys, h1, g1, h2, g2, by rw [h3.len, g3.len]; exact c, fun z n => new_l l q n (h3.append g3)⟩
    · cases e
  · cases e
theorem op2_addT : Op2 XR oAddT (rCatP K) := by
  intro H M S S' x y w vx vy Q l rx ry e q
  unfold oAddT at e
  split at e
  · rename_i a b e1 e2
    split at e
    · rename_i c
      cases e
      obtain ⟨p, xs, h1, h2, h3⟩ := asT_ok rx e1
      obtain ⟨p', ys, g1, g2, g3⟩ := asT_ok ry e2
      refine ⟨p, p', xs, ys, h1, g1, h2.sq, g2.sq, ?_, by rw [h3.len, g3.len]; exact c.2, fun en => ?_, fun _ => new_t l q (h3.append g3)⟩
      · intro en
        have z := h3.len
        rw [en] at z
        have c1 := c.1
        cases a with
        | nil => simp at c1
        | cons _ _ => simp at z
      · have z := g3.len
        rw [en] at z
        have b0 : b = [] := List.eq_nil_of_length_eq_zero z.symm
        subst b0
        rw [List.append_nil] at q
        subst h1
        refine imm_d l q ?_
        unfold Dr
        exact ⟨p, xs, rfl, h2, h3⟩
    · cases e
  · cases e
end
def cMulW (i j : Int) : Bool := decide (i.natAbs.log2 + j.natAbs.log2 + 2 ≤ 900000)
def oAdd : W → W → So → Res W := oOr (oI (fun _ _ => true) fun i j => .int (i + j)) (oOr oAddS (oOr oAddL oAddT))
def oSub : W → W → So → Res W := oI (fun _ _ => true) fun i j => .int (i - j)
def oRepL : W → W → So → Res W := fun x y S => match asL x S, asI y with
  | some a, some k => if -(2 ^ 63) ≤ k ∧ k < 2 ^ 63 ∧ a.length * k.toNat ≤ sizeLine then .ok (.d (.list (List.replicate k.toNat a).flatten)) S else .no
  | _, _ => .no
theorem nx_R : NX2 oRepL := by
  intro x y S c f S' e
  unfold oRepL at e
  split at e
  · split at e <;> cases e
  · cases e
theorem op2_repL {K : PySem.W.Frag} {XR : XRel K} : Op2 XR oRepL rRep := by
  intro H M S S' x y w vx vy Q l rx ry e q
  unfold oRepL at e
  split at e
  · rename_i a k e1 e2
    split at e
    · rename_i c
      cases e
      obtain ⟨p, xs, h1, h2, h3⟩ := asL_ok l rx e1
      exact ⟨p, k, xs, h1, asI_ok ry e2, h2, c.1, c.2.1, by rw [h3.len]; exact c.2.2, fun z n => new_l l q n (h3.rep _)⟩
    · cases e
  · cases e
def oRepT : W → W → So → Res W := fun x y S => match asT x, asI y with
  | some a, some k => if a.isEmpty = false ∧ 2 ≤ k ∧ k ≤ 1000 ∧ a.length ≤ 1000 then .ok (.d (.tuple (List.replicate k.toNat a).flatten)) S else .no
  | _, _ => .no
theorem nx_RT : NX2 oRepT := by
  intro x y S c f S' e
  unfold oRepT at e
  split at e
  · split at e <;> cases e
  · cases e
theorem op2_repT {K : PySem.W.Frag} {XR : XRel K} : Op2 XR oRepT (rRepP K) := by
  intro H M S S' x y w vx vy Q l rx ry e q
  unfold oRepT at e
  split at e
  · rename_i a k e1 e2
    split at e
    · rename_i c
      cases e
      obtain ⟨p, xs, h1, h2, h3⟩ := asT_ok rx e1
      refine ⟨p, k, xs, h1, asI_ok ry e2, h2.sq, ?_, c.2.1, c.2.2.1, by rw [h3.len]; exact c.2.2.2, new_t l q (h3.rep _)⟩
      intro en
      have z := h3.len
      rw [en] at z
      have c1 := c.1
      cases a with
      | nil => simp at c1
      | cons _ _ => simp at z
    · cases e
  · cases e
/-- text * int -/
def cMs (z : Str) (k : Int) : Bool := decide (0 ≤ k ∧ k ≤ 1000 ∧ z.length ≤ 1000)
theorem cMs_ok {z : Str} {k : Int} (h : cMs z k = true) : MulOk z k := by
  unfold cMs at h
  obtain ⟨h1, h2, h3⟩ := of_decide_eq_true h
  refine ⟨?_, fun h4 _ => ?_, fun h4 _ => ?_⟩
  · rw [decide_eq_false (by omega), decide_eq_false (by omega)] <;> rfl
  · have h5 : (1000 : Int) < (2 ^ 63 - 1) / k := by
      have h6 : (2 ^ 63 - 1) / (1000 : Int) ≤ (2 ^ 63 - 1) / k := by
        refine (Int.le_ediv_iff_mul_le (by omega)).mpr ?_
        have h7 : (2 ^ 63 - 1) / (1000 : Int) * k ≤ (2 ^ 63 - 1) / (1000 : Int) * 1000 := Int.mul_le_mul_of_nonneg_left h2 (by decide)
        have h8 : (2 ^ 63 - 1) / (1000 : Int) * 1000 ≤ 2 ^ 63 - 1 := by decide
        omega
      have h9 : (1000 : Int) < (2 ^ 63 - 1) / (1000 : Int) := by decide
      omega
    omega
  · have h5 : z.length * k.toNat ≤ 1000 * 1000 := Nat.mul_le_mul h3 (by omega)
    unfold Builtin.Str.tooLong
    rw [sizeLine_eq]
    exact decide_eq_false (by omega)
def oRepS : W → W → So → Res W := fun x y S => match asS x, asI y with
  | some z, some k => if cMs z k = true then .ok (.d (.str (Txt.mul z k))) S else .no
  | _, _ => .no
theorem nx_RS : NX2 oRepS := by
  intro x y S c f S' e
  unfold oRepS at e
  split at e
  · split at e <;> cases e
  · cases e
def rRepS : R2 := fun x y H Q => ∃ z k, x = .str z ∧ y = .int k ∧ MulOk z k ∧ Q (.str (Txt.mul z k)) H
theorem op_repS {X : Cx} : OpR X (binaryOp .Mult) rRepS := by
  rintro pins s σ H x y v u Q I rx ry ⟨z, k, rfl, rfl, ok, q⟩
  obtain ⟨t, rfl⟩ := rx
  obtain ⟨t2, rfl⟩ := ry
  exact PySem.SB.mul ok fun t' k' => ⟨.str _, H, I.tok k', ⟨t', rfl⟩, q⟩
theorem op2_repS {K : PySem.W.Frag} {XR : XRel K} : Op2 XR oRepS rRepS := by
  intro H M S S' x y w vx vy Q l rx ry e q
  unfold oRepS at e
  split at e
  · rename_i z k e1 e2
    split at e
    · rename_i c
      cases e
      exact ⟨z, k, asS_ok rx e1, asI_ok ry e2, cMs_ok c, imm_s l q⟩
    · cases e
  · cases e
def cSm (i j : Int) : Bool := decide ((-(2 ^ 64) < i ∧ i < 2 ^ 64) ∨ (-(2 ^ 64) < j ∧ j < 2 ^ 64))
def oMul : W → W → So → Res W := oOr (oI cSm fun i j => .int (i * j)) (oOr (oI cMulW fun i j => .int (i * j)) (oOr oRepL (oOr oRepT oRepS)))
@[simp] def cDv (_ j : Int) : Bool := decide (0 < j ∧ j < 1073741824)
@[simp] def oDiv : W → W → So → Res W := oI cDv fun i j => .int (i / j)
@[simp] def cPos (_ j : Int) : Bool := decide (0 < j)
@[simp] def oMod : W → W → So → Res W := oI cPos fun i j => .int (i % j)
def cPw (i j : Int) : Bool := decide (0 ≤ j ∧ j ≤ 1000000 ∧ i.natAbs < 2 ^ 64)
def oPow : W → W → So → Res W := oI cPw fun i j => .int (i ^ j.toNat)
theorem cSm_ok {i j : Int} (h : cSm i j = true) : CMul i j := by
  unfold cSm at h
  unfold CMul
  exact of_decide_eq_true h
theorem cMulW_ok {i j : Int} (h : cMulW i j = true) : CMulW i j := by
  unfold cMulW at h
  unfold CMulW
  have := of_decide_eq_true h
  omega
theorem cDv_ok {i j : Int} (h : cDv i j = true) : CDiv i j := by
  unfold cDv at h
  unfold CDiv
  exact of_decide_eq_true h
theorem cPos_ok {i j : Int} (h : cPos i j = true) : 0 < j := by
  unfold cPos at h
  exact of_decide_eq_true h
theorem cPw_ok {i j : Int} (h : cPw i j = true) : CPow i j := by
  unfold cPw at h
  unfold CPow
  exact of_decide_eq_true h
def oBand : W → W → So → Res W := oI (fun _ _ => true) fun i j => .int (Builtin.bitAnd i j)
section
variable {X : Cx} {XR : XRel X.K} {Wx : WX} {pos : Pos} {a b : Expr} {fa fb : FE} {n : Nat}
theorem fe_2 {o : Operator} {op : W → W → So → Res W} {r : R2} (h : OpR X (binaryOp o) r) (ho : Op2 XR op r) (nx : NX2 op) (ha : FEx X XR Wx a fa) (hb : FEx X XR Wx b fb) : FEx X XR Wx (.BinOp a o b pos) (f2 op fa fb) :=
  PE.imp (pe_op h ha hb) fun _ _ _ => r2_ok ho nx
theorem fe_add (ha : FEx X XR Wx a fa) (hb : FEx X XR Wx b fb) : FEx X XR Wx (.BinOp a .Add b pos) (f2 oAdd fa fb) :=
  fe_2 (op_add.or (op_add_str.or (op_cat.or op_catP))) (op2_or op2_I0 (op2_or op2_addS (op2_or op2_addL op2_addT))) (oOr_nx oI_nx (oOr_nx nx_S (oOr_nx nx_L nx_T))) ha hb
theorem fe_sub (ha : FEx X XR Wx a fa) (hb : FEx X XR Wx b fb) : FEx X XR Wx (.BinOp a .Sub b pos) (f2 oSub fa fb) := fe_2 op_sub op2_I0 oI_nx ha hb
theorem fe_mul (ha : FEx X XR Wx a fa) (hb : FEx X XR Wx b fb) : FEx X XR Wx (.BinOp a .Mult b pos) (f2 oMul fa fb) :=
  fe_2 (op_mul.or (op_mulW.or (op_rep.or (op_repP.or op_repS)))) (op2_or (op2_I fun i j h => cSm_ok h) (op2_or (op2_I fun i j h => cMulW_ok h) (op2_or op2_repL (op2_or op2_repT op2_repS))))
    (oOr_nx oI_nx (oOr_nx oI_nx (oOr_nx nx_R (oOr_nx nx_RT nx_RS)))) ha hb
theorem fe_div (ha : FEx X XR Wx a fa) (hb : FEx X XR Wx b fb) : FEx X XR Wx (.BinOp a .FloorDiv b pos) (f2 oDiv fa fb) := fe_2 op_fdiv (op2_I fun i j h => cDv_ok h) oI_nx ha hb
theorem fe_mod (ha : FEx X XR Wx a fa) (hb : FEx X XR Wx b fb) : FEx X XR Wx (.BinOp a .Mod b pos) (f2 oMod fa fb) := fe_2 op_mod (op2_I fun i j h => cPos_ok h) oI_nx ha hb
theorem fe_pow (ha : FEx X XR Wx a fa) (hb : FEx X XR Wx b fb) : FEx X XR Wx (.BinOp a .Pow b pos) (f2 oPow fa fb) := fe_2 op_pow (op2_I fun i j h => cPw_ok h) oI_nx ha hb
theorem fe_band (ha : FEx X XR Wx a fa) (hb : FEx X XR Wx b fb) : FEx X XR Wx (.BinOp a .BitAnd b pos) (f2 oBand fa fb) := fe_2 op_and op2_I0 oI_nx ha hb
def oNeg : W → So → Res W := fun x S => match asI x with
  | some i => .ok (.d (.int (-i))) S
  | _ => .no
theorem fe_neg (ha : FEx X XR Wx a fa) : FEx X XR Wx (.UnaryOp .USub a pos) (f1 oNeg fa) := by
  refine PE.imp (pe_un un_neg ha) fun _ _ _ => r1_ok ?_ ?_
  · intro H M S S' x w vx Q l rx e q
    unfold oNeg at e
    split at e
    · rename_i i e1
      cases e
      exact ⟨i, asI_ok rx e1, imm_i l q⟩
    · cases e
  · intro x S c f S' e
    unfold oNeg at e
    split at e <;> cases e
end
end FL

set_option Elab.async false
set_option linter.all false
set_option maxRecDepth 100000
set_option maxHeartbeats 1000000
namespace FL
open PySem PySem.Spec PyProof.Rows
open L2
/-! == and in of data -/
section
variable {X : Cx}
def rEqF (neg : Bool) (K : PySem.W.Frag) : R2 := fun x y H Q => ∃ d e, Dp K H x d ∧ Dp K H y e ∧ d.plain = true ∧ e.plain = true ∧ d.depth ≤ 150 ∧ Q (.bl (if neg then !PyData.eqv d e else PyData.eqv d e)) H
theorem op_eqF (hu : X.A.units + 200 < cLine) : OpR X (compareOp .Eq) (rEqF false X.K) := by
  intro pins s σ H x y v u Q I rx ry h
  obtain ⟨d, e, hd, he, sd, se, dp, q⟩ := h
  obtain ⟨as, r1⟩ := Dp.reads I d x v hd rx
  obtain ⟨bs, r2⟩ := Dp.reads I e y u he ry
  exact PySem.SeqAt.eq_plain r1 r2 sd se (by omega) ⟨.bl _, H, I, rfl, q⟩
theorem op_neF (hu : X.A.units + 200 < cLine) : OpR X (compareOp .NotEq) (rEqF true X.K) := by
  intro pins s σ H x y v u Q I rx ry h
  obtain ⟨d, e, hd, he, sd, se, dp, q⟩ := h
  obtain ⟨as, r1⟩ := Dp.reads I d x v hd rx
  obtain ⟨bs, r2⟩ := Dp.reads I e y u he ry
  exact PySem.SeqAt.ne_plain r1 r2 sd se (by omega) ⟨.bl _, H, I, rfl, q⟩
def rInF (neg : Bool) (K : PySem.W.Frag) : R2 := fun x y H Q => ∃ d es, Dp K H x d ∧ (Dp K H y (.list es) ∨ Dp K H y (.tuple es)) ∧ d.plain = true ∧ PyData.plainAll es = true ∧ d.depth ≤ 150 ∧ Q (.bl (if neg then !es.any fun z => PyData.eqv z d else es.any fun z => PyData.eqv z d)) H
theorem op_inF (hu : X.A.units + 200 < cLine) : OpR X (compareOp .In) (rInF false X.K) := by
  intro pins s σ H x y v u Q I rx ry h
  obtain ⟨d, es, hd, he, sd, se, dp, q⟩ := h
  obtain ⟨as, r1⟩ := Dp.reads I d x v hd rx
  have hm : ∀ m : Nat, min m d.depth ≤ 150 := fun m => Nat.le_trans (Nat.min_le_right _ _) dp
  rcases he with he | he
  · obtain ⟨bs, r2⟩ := Dp.reads I _ y u he ry
    exact PySem.SeqAt.in_list_data r2 r1 se sd (by have := hm (PyData.depthAll es); omega) ⟨.bl _, H, I, rfl, q⟩
  · obtain ⟨bs, r2⟩ := Dp.reads I _ y u he ry
    exact PySem.SeqAt.in_tuple_data r2 r1 se sd (by have := hm (PyData.depthAll es); omega) ⟨.bl _, H, I, rfl, q⟩
theorem op_niF (hu : X.A.units + 200 < cLine) : OpR X (compareOp .NotIn) (rInF true X.K) := by
  intro pins s σ H x y v u Q I rx ry h
  obtain ⟨d, es, hd, he, sd, se, dp, q⟩ := h
  obtain ⟨as, r1⟩ := Dp.reads I d x v hd rx
  have hm : ∀ m : Nat, min m d.depth ≤ 150 := fun m => Nat.le_trans (Nat.min_le_right _ _) dp
  rcases he with he | he
  · obtain ⟨bs, r2⟩ := Dp.reads I _ y u he ry
    exact PySem.SeqAt.notIn_list_data r2 r1 se sd (by have := hm (PyData.depthAll es); omega) ⟨.bl _, H, I, rfl, q⟩
  · obtain ⟨bs, r2⟩ := Dp.reads I _ y u he ry
    exact PySem.SeqAt.notIn_tuple_data r2 r1 se sd (by have := hm (PyData.depthAll es); omega) ⟨.bl _, H, I, rfl, q⟩
def rInK (neg : Bool) : R2 := fun x y H Q => ∃ a o, y = .ref a ∧ DGet H a x o ∧ Q (.bl (if neg then !o.isSome else o.isSome)) H
theorem op_inK (hu : X.A.units + 200 < cLine) : OpR X (compareOp .In) (rInK false) := by
  intro pins s σ H x y v u Q I rx ry h
  obtain ⟨a, o, rfl, g, q⟩ := h
  cases (show u = Value.ref a from ry)
  exact d_in (by omega) I g rx fun s' I' => ⟨.bl _, H, I', rfl, q⟩
theorem op_niK (hu : X.A.units + 200 < cLine) : OpR X (compareOp .NotIn) (rInK true) := by
  intro pins s σ H x y v u Q I rx ry h
  obtain ⟨a, o, rfl, g, q⟩ := h
  cases (show u = Value.ref a from ry)
  exact d_notIn (by omega) I g rx fun s' I' => ⟨.bl _, H, I', rfl, q⟩
def rIxK : R2 := fun x y H Q => ∃ a v, x = .ref a ∧ DGet H a y (some v) ∧ Q v H
end
def oEq (neg : Bool) : W → W → So → Res W := fun x y S => match toP x S, toP y S with
  | some d, some e => if d.plain = true ∧ e.plain = true ∧ d.depth ≤ 150 then .ok (.d (.bool (if neg then !PyData.eqv d e else PyData.eqv d e))) S else .no
  | _, _ => .no
theorem nx_Eq {neg} : NX2 (oEq neg) := by
  intro x y S c f S' e
  unfold oEq at e
  split at e
  · split at e <;> cases e
  · cases e
/-- the items of a list or tuple -/
def seqP (w : W) (S : So) : Option (List PyData) := match toP w S with
  | some (.list xs) => some xs
  | some (.tuple xs) => some xs
  | _ => none
def oIn (neg : Bool) : W → W → So → Res W := fun x y S => match toP x S, seqP y S with
  | some d, some es => if d.plain = true ∧ PyData.plainAll es = true ∧ d.depth ≤ 150 then .ok (.d (.bool (if neg then !es.any fun z => PyData.eqv z d else es.any fun z => PyData.eqv z d))) S else .no
  | _, _ => .no
theorem nx_In {neg} : NX2 (oIn neg) := by
  intro x y S c f S' e
  unfold oIn at e
  split at e
  · split at e <;> cases e
  · cases e
def asKey : W → Option Key
  | .d (.int i) => some (.inl i)
  | .d (.str x) => some (.inr x)
  | _ => none
def keyP : Key → PyData
  | .inl i => .int i
  | .inr x => .str x
def valP {κ : Type} [DecidableEq κ] (kvs : List (κ × PyData)) (k : κ) : Option PyData := (kvs.find? fun kv => decide (kv.1 = k)).map (·.2)
abbrev Dic := List (Key × PyData)
def asD (w : W) (S : So) : Option Dic := match w with
  | .k kvs => some kvs
  | .r n => match S[n]? with
    | some (.k kvs) => some kvs
    | _ => none
  | _ => none
/-- what a dict holds -/
def look (dd : Dic) (x : W) : Option (Option PyData) := (asKey x).map fun k => valP dd k
def oInK (neg : Bool) : W → W → So → Res W := fun x y S => match asD y S with
  | some dd => match look dd x with
    | some o => .ok (.d (.bool (if neg then !o.isSome else o.isSome))) S
    | none => .no
  | none => .no
theorem nx_InK {neg} : NX2 (oInK neg) := by
  intro x y S c f S' e
  unfold oInK at e
  split at e
  · split at e <;> cases e
  · cases e
section
variable {K : PySem.W.Frag} {XR : XRel K} {H : Hp} {M : Ms} {S : So}
theorem op2_Eq {neg} : Op2 XR (oEq neg) (rEqF neg K) := by
  intro H M S S' x y w vx vy Q l rx ry e q
  unfold oEq at e
  split at e
  · rename_i d e' e1 e2
    split at e
    · rename_i c
      cases e
      exact ⟨d, e', toP_ok l rx e1 c.1, toP_ok l ry e2 c.2.1, c.1, c.2.1, c.2.2, imm_b l q⟩
    · cases e
  · cases e
theorem op2_In {neg} : Op2 XR (oIn neg) (rInF neg K) := by
  intro H M S S' x y w vx vy Q l rx ry e q
  unfold oIn at e
  split at e
  · rename_i d es e1 e2
    split at e
    · rename_i c
      cases e
      refine ⟨d, es, toP_ok l rx e1 c.1, ?_, c.1, c.2.1, c.2.2, imm_b l q⟩
      unfold seqP at e2
      split at e2
      · rename_i e3
        cases e2
        exact .inl (toP_ok l ry e3 (by simpa [PyData.plain] using c.2.1))
      · rename_i e3
        cases e2
        exact .inr (toP_ok l ry e3 (by simpa [PyData.plain] using c.2.1))
      · cases e2
    · cases e
  · cases e
theorem valKD {κ : Type} [DecidableEq κ] {kvs : List (κ × PyData)} {vs : List (κ × V)} (k : κ) (h : Paired (KD (K := K) H M) kvs vs) :
    (valP kvs k = none ∧ valV vs k = none) ∨ ∃ d v, valP kvs k = some d ∧ valV vs k = some v ∧ Dr K H M d v := by
  induction h with
  | nil => exact .inl ⟨rfl, rfl⟩
  | @cons p q ps qs r t ih =>
    obtain ⟨r1, r2⟩ := r
    by_cases e : p.1 = k
    · refine .inr ⟨p.2, q.2, ?_, valV_pos (r1.symm.trans e), r2⟩
      simp [valP, List.find?_cons, e]
    · have e2 : valP (p :: ps) k = valP ps k := by simp [valP, List.find?_cons, e]
      rw [e2, valV_neg (fun c => e (r1.trans c))]
      exact ih
theorem asKey_ok {w : W} {v : V} {k : Key} (r : RW XR H M w v) (e : asKey w = some k) : v = kV k := by
  unfold asKey at e
  split at e
  · cases e
    have r' : Dr K H M (.int _) v := r
    unfold Dr at r'
    exact r'
  · cases e
    have r' : Dr K H M (.str _) v := r
    unfold Dr at r'
    exact r'
  · cases e
/-- what a dict holds, on the heap -/
theorem asD_at (l : Rl K H M S) {w : W} {v : V} {dd : Dic} (r : RW XR H M w v) (e : asD w S = some dd) : ∃ a vs, v = .ref a ∧ H a = some (.dK vs) ∧ Paired (KD (K := K) H M) dd vs := by
  unfold asD at e
  split at e
  · rename_i kvs
    cases e
    obtain ⟨a, vs, e1, n, ha, hp⟩ := r
    exact ⟨a, vs, e1, ha, hp⟩
  · rename_i n
    obtain ⟨a, e1, e3⟩ := r
    split at e
    · rename_i kvs e4
      cases e
      obtain ⟨u, h1, vs, rfl, hp⟩ := l.get e1 e4
      exact ⟨a, vs, e3, h1, hp⟩
    · cases e
  · cases e
theorem asD_ok (l : Rl K H M S) {w x : W} {v vx : V} {dd : Dic} {o : Option PyData} (r : RW XR H M w v) (rx : RW XR H M x vx) (e : asD w S = some dd) (e2 : look dd x = some o) :
    ∃ a, v = .ref a ∧ ((o = none ∧ (DGet H a vx none)) ∨ ∃ d u, o = some d ∧ DGet H a vx (some u) ∧ Dr K H M d u) := by
  obtain ⟨a, vs, e1, ha, hp⟩ := asD_at l r e
  refine ⟨a, e1, ?_⟩
  cases e4 : asKey x with
  | none => simp [look, e4] at e2
  | some k =>
    have e5 : valP dd k = o := by simpa [look, e4] using e2
    have e6 := asKey_ok rx e4
    subst e6
    have g := DGet.k (k := k) ha
    rcases valKD k hp with ⟨h1, h2⟩ | ⟨d, u, h1, h2, h3⟩
    · rw [h2] at g
      exact .inl ⟨e5.symm.trans h1, g⟩
    · rw [h2] at g
      exact .inr ⟨d, u, e5.symm.trans h1, g, h3⟩
theorem op2_InK {neg} : Op2 XR (oInK neg) (rInK neg) := by
  intro H M S S' x y w vx vy Q l rx ry e q
  unfold oInK at e
  split at e
  · rename_i dd e1
    split at e
    · rename_i o e2
      cases e
      obtain ⟨a, e3, h | ⟨d, u, h1, h2, h3⟩⟩ := asD_ok l ry rx e1 e2
      · obtain ⟨h1, h2⟩ := h
        subst h1
        exact ⟨a, none, e3, h2, by cases neg <;> exact imm_b l q⟩
      · subst h1
        exact ⟨a, some u, e3, h2, by cases neg <;> exact imm_b l q⟩
    · cases e
  · cases e
end
/-! None -/
def oIs (neg : Bool) : W → W → So → Res W := fun x y S => match x, y with
  | .d .none, .d .none => .ok (.d (.bool (!neg))) S
  | .x _ _, .d .none => .ok (.d (.bool neg)) S
  | .r _, .d .none => .ok (.d (.bool neg)) S
  | .k _, .d .none => .ok (.d (.bool neg)) S
  | .d (.tuple _), .d .none => .ok (.d (.bool neg)) S
  | .d (.list _), .d .none => .ok (.d (.bool neg)) S
  | .d (.str _), .d .none => .ok (.d (.bool neg)) S
  | .d (.int _), .d .none => .ok (.d (.bool neg)) S
  | .d (.bool _), .d .none => .ok (.d (.bool neg)) S
  | _, _ => .no
theorem nx_Is {neg} : NX2 (oIs neg) := by
  intro x y S c f S' e
  unfold oIs at e
  split at e <;> cases e
def rIsN (neg : Bool) : R2 := fun x y H Q => y = .non ∧ Q (.bl (if neg then !decide (x = .non) else decide (x = .non))) H
theorem op2_Is {K : PySem.W.Frag} {XR : XRel K} {neg} : Op2 XR (oIs neg) (rIsN neg) := by
  intro H M S S' x y w vx vy Q l rx ry e q
  have yn : y = .d .none → vy = .non := fun e => by
    subst e
    have r' : Dr K H M .none vy := ry
    unfold Dr at r'
    exact r'
  have refs : ∀ {a : Addr}, vx = .ref a → w = .d (.bool neg) → y = .d .none → S' = S → rIsN neg vx vy H Q := by
    intro a e1 e2 e3 e4
    subst e1 e2 e4
    refine ⟨yn e3, ?_⟩
    cases neg <;> exact imm_b l q
  unfold oIs at e
  split at e <;> cases e
  · have r' : Dr K H M .none vx := rx
    unfold Dr at r'
    subst r'
    refine ⟨yn rfl, ?_⟩
    cases neg <;> exact imm_b l q
  · obtain ⟨a, e1, _⟩ := rx
    exact refs e1 rfl rfl rfl
  · obtain ⟨a, _, e1⟩ := rx
    exact refs e1 rfl rfl rfl
  · obtain ⟨a, vs, e1, _⟩ := rx
    exact refs e1 rfl rfl rfl
  · have r' : Dr K H M (.tuple _) vx := rx
    unfold Dr at r'
    obtain ⟨a, xs, e1, _⟩ := r'
    exact refs e1 rfl rfl rfl
  · have r' : Dr K H M (.list _) vx := rx
    unfold Dr at r'
    obtain ⟨a, xs, e1, _⟩ := r'
    exact refs e1 rfl rfl rfl
  · have r' : Dr K H M (.str _) vx := rx
    unfold Dr at r'
    subst r'
    refine ⟨yn rfl, ?_⟩
    cases neg <;> exact imm_b l q
  · have r' : Dr K H M (.int _) vx := rx
    unfold Dr at r'
    subst r'
    refine ⟨yn rfl, ?_⟩
    cases neg <;> exact imm_b l q
  · have r' : Dr K H M (.bool _) vx := rx
    unfold Dr at r'
    subst r'
    refine ⟨yn rfl, ?_⟩
    cases neg <;> exact imm_b l q
/-! texts in order -/
def oSS (g : Str → Str → Bool) : W → W → So → Res W := fun x y S => match asS x, asS y with
  | some a, some b => .ok (.d (.bool (g a b))) S
  | _, _ => .no
theorem nx_SS {g} : NX2 (oSS g) := by
  intro x y S c f S' e
  unfold oSS at e
  split at e <;> cases e
theorem op2_SS {K : PySem.W.Frag} {XR : XRel K} {g : Str → Str → Bool} : Op2 XR (oSS g) (fun x y H Q => ∃ i j, x = .str i ∧ y = .str j ∧ Q (.bl (g i j)) H) := by
  intro H M S S' x y w vx vy Q l rx ry e q
  unfold oSS at e
  split at e
  · rename_i a b e1 e2
    cases e
    exact ⟨a, b, asS_ok rx e1, asS_ok ry e2, imm_b l q⟩
  · cases e
def ltS (i j : Str) : Bool := decide (i.cps.toList < j.cps.toList)
def leS (i j : Str) : Bool := !decide (j.cps.toList < i.cps.toList)
def inS (i j : Str) : Bool := !(Builtin.Str.occurrences j i 0 j.length 1).isEmpty
/-- comparisons, each by its operator -/
def cEq : W → W → So → Res W := oEq false
def cNe : W → W → So → Res W := oEq true
def cLt : W → W → So → Res W := oOr (oI (fun _ _ => true) fun i j => .bool (decide (i < j))) (oSS ltS)
def cLe : W → W → So → Res W := oOr (oI (fun _ _ => true) fun i j => .bool (decide (i ≤ j))) (oSS leS)
def cGt : W → W → So → Res W := oI (fun _ _ => true) fun i j => .bool (decide (j < i))
def cGe : W → W → So → Res W := oI (fun _ _ => true) fun i j => .bool (decide (j ≤ i))
def cIn : W → W → So → Res W := oOr (oIn false) (oOr (oInK false) (oSS inS))
def cNi : W → W → So → Res W := oOr (oIn true) (oOr (oInK true) (oSS fun i j => !inS i j))
def cIs : W → W → So → Res W := oIs false
def cIn' : W → W → So → Res W := oIs true
/-- a comparison of the machine -/
def CmpOk (X : Cx) (XR : XRel X.K) (o : CmpOp) (op : W → W → So → Res W) : Prop := ∃ r, OpR X (compareOp o) r ∧ Op2 XR op r ∧ NX2 op
section
variable {X : Cx} {XR : XRel X.K} {Wx : WX} {n : Nat}
theorem Ct.un (C : Ct X Wx n) : X.A.units + 200 < cLine := by
  have := C.room.un
  omega
theorem k_eq (C : Ct X Wx n) : CmpOk X XR .Eq cEq := ⟨_, op_eqF C.un, op2_Eq, nx_Eq⟩
theorem k_ne (C : Ct X Wx n) : CmpOk X XR .NotEq cNe := ⟨_, op_neF C.un, op2_Eq, nx_Eq⟩
theorem k_lt (C : Ct X Wx n) : CmpOk X XR .Lt cLt := ⟨_, op_lt.or op_lt_str, op2_or op2_B0 (op2_SS (g := ltS)), oOr_nx oI_nx nx_SS⟩
theorem k_le (C : Ct X Wx n) : CmpOk X XR .LtE cLe := ⟨_, op_le.or op_le_str, op2_or op2_B0 (op2_SS (g := leS)), oOr_nx oI_nx nx_SS⟩
theorem k_gt (C : Ct X Wx n) : CmpOk X XR .Gt cGt := ⟨_, op_gt, op2_B0, oI_nx⟩
theorem k_ge (C : Ct X Wx n) : CmpOk X XR .GtE cGe := ⟨_, op_ge, op2_B0, oI_nx⟩
theorem k_in (C : Ct X Wx n) : CmpOk X XR .In cIn := ⟨_, (op_inF C.un).or ((op_inK C.un).or op_in_str), op2_or op2_In (op2_or op2_InK (op2_SS (g := inS))), oOr_nx nx_In (oOr_nx nx_InK nx_SS)⟩
theorem k_ni (C : Ct X Wx n) : CmpOk X XR .NotIn cNi := ⟨_, (op_niF C.un).or ((op_niK C.un).or op_notin_str), op2_or op2_In (op2_or op2_InK (op2_SS (g := fun i j => !inS i j))), oOr_nx nx_In (oOr_nx nx_InK nx_SS)⟩
theorem k_is (C : Ct X Wx n) : CmpOk X XR .Is cIs := ⟨_, op_isN, op2_Is (neg := false), nx_Is⟩
theorem k_isn (C : Ct X Wx n) : CmpOk X XR .IsNot cIn' := ⟨_, op_notN, op2_Is (neg := true), nx_Is⟩
variable {a b c : Expr} {fa fb fc : FE} {pos : Pos}
theorem fe_cmp {o : CmpOp} {op : W → W → So → Res W} (h : CmpOk X XR o op) (ha : FEx X XR Wx a fa) (hb : FEx X XR Wx b fb) (hm : behindInMarks o b = false) : FEx X XR Wx (.Compare a [o] [b] pos) (f2 op fa fb) := by
  obtain ⟨r, h1, h2, h3⟩ := h
  exact PE.imp (pe_cmpR h1 ha hb hm) fun _ _ _ => r2_ok h2 h3
/-- a truth value -/
@[simp] def fB (f : FE) : FT := fun ev S => (f ev S).bind fun w S1 => match asB w with
  | some b => .ok b S1
  | none => .no
theorem fb_ok {f : FE} {σ : L2.St} {H : Hp} {Q : Bool → Hp → Prop} (h : rT XR Wx (fB f) σ H Q) : rE XR Wx f σ H fun x H' => ∃ k, x = .bl k ∧ Q k H' := by
  obtain ⟨M, S, ev, l, rs, h⟩ := h
  refine ⟨M, S, ev, l, rs, Pst.cut h ?_⟩
  intro x S1 M1 H1 vx _ s1 l1 r1 h1
  split at h1
  · rename_i b e
    exact ⟨b, asB_ok r1 e, Pst.ok (v := b) h1 l1 rfl⟩
  · exact h1.elim
theorem ft_cmp {o : CmpOp} {op : W → W → So → Res W} (h : CmpOk X XR o op) (ha : FEx X XR Wx a fa) (hb : FEx X XR Wx b fb) (hm : behindInMarks o b = false) : FTx X XR Wx (.Compare a [o] [b] pos) (fB (f2 op fa fb)) := by
  obtain ⟨r, h1, h2, h3⟩ := h
  exact PT.imp (pt_cmpR h1 ha hb hm) fun _ _ _ q => r2_ok h2 h3 (fb_ok q)
/-- a chain of two -/
def fChain (op op' : W → W → So → Res W) (fa fb fc : FE) : FE := fun ev S => (fa ev S).bind fun x S1 => (fb ev S1).bind fun y S2 => (op x y S2).bind fun z S3 => match asB z with
  | some true => (fc ev S3).bind fun u S4 => op' y u S4
  | some false => .ok (.d (.bool false)) S3
  | none => .no
theorem chain_ok {op op' : W → W → So → Res W} {r r' : R2} (ho : Op2 XR op r) (nx : NX2 op) (ho' : Op2 XR op' r') (nx' : NX2 op') {σ : L2.St} {H : Hp} {Q : VK} (h : rE XR Wx (fChain op op' fa fb fc) σ H Q) : tChain r r' (rE XR Wx fa) (rE XR Wx fb) (rE XR Wx fc) σ H Q := by
  obtain ⟨M, S, ev, l, rs, h⟩ := h
  refine ⟨M, S, ev, l, rs, Pst.cut h ?_⟩
  intro x S1 M1 H1 vx _ s1 l1 r1 h1
  refine ⟨M1, S1, ev, l1, rs.stp s1, Pst.cut h1 ?_⟩
  intro y S2 M2 H2 vy _ s2 l2 r2 h2
  cases e : op x y S2 with
  | ex c f S' => exact absurd e (nx _ _ _ _ _ _)
  | no =>
    rw [e] at h2
    exact h2.elim
  | ok z S3 =>
    rw [e] at h2
    refine ho H2 M2 S2 S3 x y z vx vy _ l2 (r1.stp s2) r2 e ?_
    intro M3 H3 vz s3 l3 r3
    have h3 := Pst.stp s3 h2
    dsimp only [Res.bind] at h3
    split at h3
    · rename_i e5
      refine ⟨true, asB_ok r3 e5, ?_⟩
      rw [if_pos rfl]
      refine ⟨M3, S3, ev, l3, (rs.stp (s1.trans s2)).stp s3, Pst.cut (r := fc ev S3) (f := fun u S4 => op' y u S4) h3 ?_⟩
      intro u S4 M4 H4 vu _ s4 l4 r4 h4
      cases e6 : op' y u S4 with
      | ex c f S' => exact absurd e6 (nx' _ _ _ _ _ _)
      | no =>
        rw [e6] at h4
        exact h4.elim
      | ok w S5 =>
        rw [e6] at h4
        exact ho' H4 M4 S4 S5 y u w vy vu Q l4 ((r2.stp s3).stp s4) r4 e6 h4
    · rename_i e5
      refine ⟨false, asB_ok r3 e5, ?_⟩
      rw [if_neg Bool.false_ne_true]
      exact Pst.ok h3 l3 (show Dr X.K H3 M3 (.bool false) (.bl false) by unfold Dr; rfl)
    · exact h3.elim
theorem fe_chain {o o' : CmpOp} {op op' : W → W → So → Res W} (h : CmpOk X XR o op) (h' : CmpOk X XR o' op') (ha : FEx X XR Wx a fa) (hb : FEx X XR Wx b fb) (hc : FEx X XR Wx c fc) (hm : lastMarks [o, o'] [b, c] = false) : FEx X XR Wx (.Compare a [o, o'] [b, c] pos) (fChain op op' fa fb fc) := by
  obtain ⟨r, h1, h2, h3⟩ := h
  obtain ⟨r', h1', h2', h3'⟩ := h'
  exact PE.imp (pe_chain h1 h1' ha hb hc hm) fun _ _ _ => chain_ok h2 h3 h2' h3'
theorem ft_chain {o o' : CmpOp} {op op' : W → W → So → Res W} (h : CmpOk X XR o op) (h' : CmpOk X XR o' op') (ha : FEx X XR Wx a fa) (hb : FEx X XR Wx b fb) (hc : FEx X XR Wx c fc) (hm : lastMarks [o, o'] [b, c] = false) : FTx X XR Wx (.Compare a [o, o'] [b, c] pos) (fB (fChain op op' fa fb fc)) := by
  obtain ⟨r, h1, h2, h3⟩ := h
  obtain ⟨r', h1', h2', h3'⟩ := h'
  exact PT.imp (pt_chain h1 h1' ha hb hc hm) fun _ _ _ q => chain_ok h2 h3 h2' h3' (fb_ok q)
end
end FL

set_option Elab.async false
set_option linter.all false
set_option maxRecDepth 100000
set_option maxHeartbeats 1000000
namespace FL
open PySem PySem.Spec PyProof.Rows
open L2
/-! truth -/
def tru (w : W) (S : So) : Option Bool := match w with
  | .d .none => some false
  | .d (.bool b) => some b
  | .d (.int i) => some (i != 0)
  | .d (.str z) => if z.length ≤ sizeLine then some ((z.length : Int) != 0) else none
  | .d (.list xs) => some (!xs.isEmpty)
  | .d (.tuple xs) => some (!xs.isEmpty)
  | .r n => match S[n]? with
    | some (.l xs) => some (!xs.isEmpty)
    | some (.k kvs) => some (!kvs.isEmpty)
    | _ => none
  | .k kvs => some (!kvs.isEmpty)
  | _ => none
section
variable {K : PySem.W.Frag} {XR : XRel K} {H : Hp} {M : Ms} {S : So}
theorem DrL.emp {ds : List PyData} {xs : List V} (h : DrL K H M ds xs) : (!ds.isEmpty) = !xs.isEmpty := by
  have := h.len
  cases ds <;> cases xs <;> simp at this ⊢
theorem Paired.emp {α β : Type} {F : α → β → Prop} {l : List α} {m : List β} (h : Paired F l m) : (!l.isEmpty) = !m.isEmpty := by
  cases h <;> rfl
theorem tru_is (l : Rl K H M S) {w : W} {v : V} {b : Bool} (r : RW XR H M w v) (e : tru w S = some b) : TruV K v H b := by
  have hd : ∀ {d : PyData}, w = .d d → Dr K H M d v := fun e => by
    subst e
    exact r
  unfold tru at e
  split at e
  · cases e
    have z := hd rfl
    unfold Dr at z
    subst z
    exact rfl
  · cases e
    have z := hd rfl
    unfold Dr at z
    subst z
    exact rfl
  · cases e
    have z := hd rfl
    unfold Dr at z
    subst z
    exact rfl
  · split at e
    · cases e
      have z := hd rfl
      unfold Dr at z
      subst z
      exact ⟨by assumption, rfl⟩
    · cases e
  · cases e
    have z := hd rfl
    unfold Dr at z
    obtain ⟨a, xs, e1, q, h⟩ := z
    subst e1
    exact .inl ⟨xs, SqL.of q.2, h.emp⟩
  · cases e
    have z := hd rfl
    unfold Dr at z
    obtain ⟨a, xs, e1, q, h⟩ := z
    subst e1
    exact .inr (.inl ⟨xs, q.sq, h.emp⟩)
  · obtain ⟨a, e1, e2⟩ := r
    subst e2
    split at e
    · rename_i xs e3
      cases e
      obtain ⟨u, h1, vs, rfl, h⟩ := l.get e1 e3
      exact .inl ⟨vs, SqL.of h1, h.emp⟩
    · rename_i kvs e3
      cases e
      obtain ⟨u, h1, vs, rfl, h⟩ := l.get e1 e3
      exact .inr (.inr ⟨vs, h1, Paired.emp h⟩)
    · cases e
  · cases e
    obtain ⟨a, vs, e1, n, h1, h⟩ := r
    subst e1
    exact .inr (.inr ⟨vs, h1, Paired.emp h⟩)
  · cases e
end
@[simp] def fTr (f : FE) : FT := fun ev S => (f ev S).bind fun w S1 => match tru w S1 with
  | some b => .ok b S1
  | none => .no
@[simp] def fAndT (t u : FT) : FT := fun ev S => (t ev S).bind fun b S1 => match b with
  | true => u ev S1
  | false => .ok false S1
@[simp] def fOrT (t u : FT) : FT := fun ev S => (t ev S).bind fun b S1 => match b with
  | true => .ok true S1
  | false => u ev S1
@[simp] def fNotT (t : FT) : FT := fun ev S => (t ev S).bind fun b S1 => .ok (!b) S1
def fAnd (fa fb : FE) : FE := fun ev S => (fa ev S).bind fun w S1 => match asB w with
  | some true => fb ev S1
  | some false => .ok (.d (.bool false)) S1
  | none => .no
def fOr (fa fb : FE) : FE := fun ev S => (fa ev S).bind fun w S1 => match asB w with
  | some true => .ok (.d (.bool true)) S1
  | some false => fb ev S1
  | none => .no
def fNot (fa : FE) : FE := fun ev S => (fa ev S).bind fun w S1 => match asB w with
  | some b => .ok (.d (.bool (!b))) S1
  | none => .no
def fIf (t : FT) (fa fb : FE) : FE := fun ev S => (t ev S).bind fun b S1 => match b with
  | true => fa ev S1
  | false => fb ev S1
section
variable {X : Cx} {XR : XRel X.K} {Wx : WX} {n : Nat} {a b c : Expr} {fa fb fc : FE} {t u : FT} {rest : List Expr} {pos : Pos}
theorem ft_tr (ha : FEx X XR Wx a fa) (he : ∀ whole, isTrue a X.env whole = (do let v ← whole; standAt a.pos; holding [v] (truthy v))) : FTx X XR Wx a (fTr fa) := by
  refine PT.imp (pt_truth ha he) ?_
  rintro σ H Q ⟨M, S, ev, l, rs, h⟩
  refine ⟨M, S, ev, l, rs, Pst.cut h ?_⟩
  intro x S1 M1 H1 vx _ s1 l1 r1 h1
  split at h1
  · rename_i b e
    exact ⟨b, tru_is l1 r1 e, Pst.ok (v := b) h1 l1 rfl⟩
  · exact h1.elim
theorem fw_and1 (ha : FTx X XR Wx a t) : FWx X XR Wx (.BoolOp .And [a] pos) t := pw_and1 ha
theorem fw_or1 (ha : FTx X XR Wx a t) : FWx X XR Wx (.BoolOp .Or [a] pos) t := pw_or1 ha
theorem andT_ok {σ : L2.St} {H : Hp} {Q : Bool → Hp → Prop} (h : rT XR Wx (fAndT t u) σ H Q) : tAnd (rT XR Wx t) (rT XR Wx u) σ H Q := by
  obtain ⟨M, S, ev, l, rs, h⟩ := h
  refine ⟨M, S, ev, l, rs, Pst.cut h ?_⟩
  rintro x S1 M1 H1 b _ s1 l1 r1 h1
  subst r1
  cases x with
  | true => exact ⟨M1, S1, ev, l1, rs.stp s1, h1⟩
  | false => exact Pst.ok (v := false) h1 l1 rfl
theorem orT_ok {σ : L2.St} {H : Hp} {Q : Bool → Hp → Prop} (h : rT XR Wx (fOrT t u) σ H Q) : tOr (rT XR Wx t) (rT XR Wx u) σ H Q := by
  obtain ⟨M, S, ev, l, rs, h⟩ := h
  refine ⟨M, S, ev, l, rs, Pst.cut h ?_⟩
  rintro x S1 M1 H1 b _ s1 l1 r1 h1
  subst r1
  cases x with
  | true => exact Pst.ok (v := true) h1 l1 rfl
  | false => exact ⟨M1, S1, ev, l1, rs.stp s1, h1⟩
theorem fw_and (ha : FTx X XR Wx a t) (hb : FWx X XR Wx (.BoolOp .And (b :: rest) pos) u) : FWx X XR Wx (.BoolOp .And (a :: b :: rest) pos) (fAndT t u) := PW.imp (pw_and ha hb) fun _ _ _ => andT_ok
theorem fw_or (ha : FTx X XR Wx a t) (hb : FWx X XR Wx (.BoolOp .Or (b :: rest) pos) u) : FWx X XR Wx (.BoolOp .Or (a :: b :: rest) pos) (fOrT t u) := PW.imp (pw_or ha hb) fun _ _ _ => orT_ok
theorem ft_w {e : Expr} (h : FWx X XR Wx e t) : FTx X XR Wx e t := PW.pt h
theorem ft_not (ha : FTx X XR Wx a t) : FTx X XR Wx (.UnaryOp .Not a pos) (fNotT t) := by
  refine PT.imp (pt_not ha) ?_
  rintro σ H Q ⟨M, S, ev, l, rs, h⟩
  refine ⟨M, S, ev, l, rs, Pst.cut h ?_⟩
  rintro x S1 M1 H1 b _ s1 l1 r1 h1
  subst r1
  exact Pst.ok (v := !x) h1 l1 rfl
theorem fe_one {op} (ha : FEx X XR Wx a fa) : FEx X XR Wx (.BoolOp op [a] pos) fa := pe_one ha
theorem dr_b {H : Hp} {M : Ms} {k : Bool} : RW XR H M (.d (.bool k)) (.bl k) := by
  show Dr X.K H M (.bool k) (.bl k)
  unfold Dr
  rfl
theorem fe_and (ha : FEx X XR Wx a fa) (hb : FEx X XR Wx (.BoolOp .And (b :: rest) pos) fb) : FEx X XR Wx (.BoolOp .And (a :: b :: rest) pos) (fAnd fa fb) := by
  refine PE.imp (pe_and ha hb) ?_
  rintro σ H Q ⟨M, S, ev, l, rs, h⟩
  refine ⟨M, S, ev, l, rs, Pst.cut h ?_⟩
  intro x S1 M1 H1 vx _ s1 l1 r1 h1
  split at h1
  · rename_i e
    refine ⟨true, asB_ok r1 e, ?_⟩
    rw [if_pos rfl]
    exact ⟨M1, S1, ev, l1, rs.stp s1, h1⟩
  · rename_i e
    refine ⟨false, asB_ok r1 e, ?_⟩
    rw [if_neg Bool.false_ne_true]
    exact Pst.ok h1 l1 dr_b
  · exact h1.elim
theorem fe_or (ha : FEx X XR Wx a fa) (hb : FEx X XR Wx (.BoolOp .Or (b :: rest) pos) fb) : FEx X XR Wx (.BoolOp .Or (a :: b :: rest) pos) (fOr fa fb) := by
  refine PE.imp (pe_or ha hb) ?_
  rintro σ H Q ⟨M, S, ev, l, rs, h⟩
  refine ⟨M, S, ev, l, rs, Pst.cut h ?_⟩
  intro x S1 M1 H1 vx _ s1 l1 r1 h1
  split at h1
  · rename_i e
    refine ⟨true, asB_ok r1 e, ?_⟩
    rw [if_pos rfl]
    exact Pst.ok h1 l1 dr_b
  · rename_i e
    refine ⟨false, asB_ok r1 e, ?_⟩
    rw [if_neg Bool.false_ne_true]
    exact ⟨M1, S1, ev, l1, rs.stp s1, h1⟩
  · exact h1.elim
theorem fe_not (ha : FEx X XR Wx a fa) : FEx X XR Wx (.UnaryOp .Not a pos) (fNot fa) := by
  refine PE.imp (pe_not ha) ?_
  rintro σ H Q ⟨M, S, ev, l, rs, h⟩
  refine ⟨M, S, ev, l, rs, Pst.cut h ?_⟩
  intro x S1 M1 H1 vx _ s1 l1 r1 h1
  split at h1
  · rename_i k e
    exact ⟨k, asB_ok r1 e, Pst.ok h1 l1 dr_b⟩
  · exact h1.elim
theorem fe_if (hc : FTx X XR Wx c t) (ha : FEx X XR Wx a fa) (hb : FEx X XR Wx b fb) : FEx X XR Wx (.IfExp c a b pos) (fIf t fa fb) := by
  refine PE.imp (pe_ifExp hc ha hb) ?_
  rintro σ H Q ⟨M, S, ev, l, rs, h⟩
  refine ⟨M, S, ev, l, rs, Pst.cut h ?_⟩
  rintro x S1 M1 H1 k _ s1 l1 r1 h1
  subst r1
  cases x with
  | true => exact ⟨M1, S1, ev, l1, rs.stp s1, h1⟩
  | false => exact ⟨M1, S1, ev, l1, rs.stp s1, h1⟩
end
/-! argument lists, displays -/
@[simp] def fNil : FA := fun _ S => .ok [] S
@[simp] def fCons (fa : FE) (fr : FA) : FA := fun ev S => (fa ev S).bind fun x S1 => (fr ev S1).bind fun xs S2 => .ok (x :: xs) S2
def seqW (w : W) (S : So) : Option (List PyData) := match asL w S with
  | some xs => some xs
  | none => asT w
def fStar (fa : FE) (fr : FA) : FA := fun ev S => (fa ev S).bind fun x S1 => match seqW x S1 with
  | some ds => (fr ev S1).bind fun xs S2 => .ok (ds.map W.d ++ xs) S2
  | none => .no
def allD : List W → Option (List PyData)
  | [] => some []
  | .d x :: r => (allD r).map (x :: ·)
  | _ :: _ => none
def allP : List W → Option (List Pm)
  | [] => some []
  | .d x :: r => (allP r).map (.d x :: ·)
  | .x c f :: r => (allP r).map (.x c f :: ·)
  | .r k :: r => (allP r).map (.r k :: ·)
  | _ :: _ => none
def fTup (fa : FA) : FE := fun ev S => (fa ev S).bind fun ws S1 => match allD ws with
  | some ds => if ds.length ≤ sizeLine then .ok (.d (.tuple ds)) S1 else .no
  | none => match allP ws with
    | some xs => if xs.length ≤ sizeLine then .ok (.p xs) S1 else .no
    | none => .no
def fLst (fa : FA) : FE := fun ev S => (fa ev S).bind fun ws S1 => match allD ws with
  | some ds => if ds.length ≤ sizeLine then .ok (.d (.list ds)) S1 else .no
  | none => .no
/-- a list that may change -/
def fMut (fa : FA) : FE := fun ev S => (fa ev S).bind fun ws S1 => match allD ws with
  | some ds => if ds.length ≤ sizeLine then .ok (.r S1.length) (S1 ++ [.l ds]) else .no
  | none => .no
section
variable {X : Cx} {XR : XRel X.K} {Wx : WX} {n : Nat} {e : Expr} {es : List Expr} {fe : FE} {fr : FA} {pos p : Pos} {H : Hp} {M : Ms} {S : So}
theorem allD_ok : ∀ {ws : List W} {vs : List V} {ds : List PyData}, RWs XR H M ws vs → allD ws = some ds → DrL X.K H M ds vs
  | [], _, ds, .nil, e => by
    have e' : ds = [] := by simpa [allD] using e.symm
    subst e'
    exact .nil
  | .d x :: r, _, ds, .cons h t, e => by
    cases e2 : allD r with
    | none => simp [allD, e2] at e
    | some es =>
      have e' : x :: es = ds := by simpa [allD, e2] using e
      subst e'
      exact .cons h (allD_ok t e2)
  | .r _ :: _, _, _, _, e => by simp [allD] at e
  | .k _ :: _, _, _, _, e => by simp [allD] at e
  | .x _ _ :: _, _, _, _, e => by simp [allD] at e
  | .s _ :: _, _, _, _, e => by simp [allD] at e
  | .p _ :: _, _, _, _, e => by simp [allD] at e
theorem allP_ok : ∀ {ws : List W} {vs : List V} {xs : List Pm}, RWs XR H M ws vs → allP ws = some xs → Paired (PmR XR H M) xs vs
  | [], _, xs, .nil, e => by
    cases e
    exact .nil
  | .d x :: r, _, xs, .cons h t, e => by
    cases e2 : allP r with
    | none => simp [allP, e2] at e
    | some es =>
      have e' : Pm.d x :: es = xs := by simpa [allP, e2] using e
      subst e'
      exact .cons h (allP_ok t e2)
  | .x c f :: r, _, xs, .cons h t, e => by
    cases e2 : allP r with
    | none => simp [allP, e2] at e
    | some es =>
      have e' : Pm.x c f :: es = xs := by simpa [allP, e2] using e
      subst e'
      exact .cons h (allP_ok t e2)
  | .r k :: r, _, xs, .cons h t, e => by
    cases e2 : allP r with
    | none => simp [allP, e2] at e
    | some es =>
      have e' : Pm.r k :: es = xs := by simpa [allP, e2] using e
      subst e'
      exact .cons h (allP_ok t e2)
  | .k _ :: _, _, _, _, e => by simp [allP] at e
  | .s _ :: _, _, _, _, e => by simp [allP] at e
  | .p _ :: _, _, _, _, e => by simp [allP] at e
theorem rws_of : ∀ {ds : List PyData} {vs : List V}, DrL X.K H M ds vs → RWs XR H M (ds.map W.d) vs
  | [], vs, h => by
    unfold DrL at h
    subst h
    exact .nil
  | d :: ds, vs, h => by
    obtain ⟨x, r, e1, h1, h2⟩ := h.cases
    subst e1
    exact .cons h1 (rws_of h2)
theorem Paired.app {α β : Type} {F : α → β → Prop} : ∀ {l l' : List α} {m m' : List β}, Paired F l m → Paired F l' m' → Paired F (l ++ l') (m ++ m')
  | _, _, _, _, .nil, t => t
  | _, _, _, _, .cons r h, t => .cons r (Paired.app h t)
theorem seqW_ok (l : Rl X.K H M S) {w : W} {v : V} {ds : List PyData} (r : RW XR H M w v) (e : seqW w S = some ds) : ∃ a vs, v = .ref a ∧ (SqT X.K H a vs ∨ SqL X.K H a vs) ∧ DrL X.K H M ds vs := by
  unfold seqW at e
  split at e
  · rename_i xs e1
    cases e
    obtain ⟨a, vs, h1, h2, h3⟩ := asL_ok l r e1
    exact ⟨a, vs, h1, .inr (SqL.of h2), h3⟩
  · obtain ⟨a, vs, h1, h2, h3⟩ := asT_ok r e
    exact ⟨a, vs, h1, .inl h2.sq, h3⟩
theorem fa_nil : FAx X XR Wx [] fNil := by
  refine PA.imp pa_nil ?_
  rintro σ H Q ⟨M, S, ev, l, rs, h⟩
  exact Pst.ok h l .nil
theorem fa_cons (ha : FEx X XR Wx e fe) (hr : FAx X XR Wx es fr) (hs : starEach (e :: es) X.env = (false, eval e X.env) :: starEach es X.env := by rfl) : FAx X XR Wx (e :: es) (fCons fe fr) := by
  refine PA.imp (pa_cons ha hr hs) ?_
  rintro σ H Q ⟨M, S, ev, l, rs, h⟩
  refine ⟨M, S, ev, l, rs, Pst.cut h ?_⟩
  intro x S1 M1 H1 vx _ s1 l1 r1 h1
  refine ⟨M1, S1, ev, l1, rs.stp s1, Pst.cut h1 ?_⟩
  intro xs S2 M2 H2 vxs _ s2 l2 r2 h2
  exact Pst.ok h2 l2 (.cons (r1.stp s2) r2)
theorem fa_star (ha : FEx X XR Wx e fe) (hr : FAx X XR Wx es fr) (hs : starEach (.Starred e p :: es) X.env = (true, eval e X.env) :: starEach es X.env := by rfl) : FAx X XR Wx (.Starred e p :: es) (fStar fe fr) := by
  refine PA.imp (StX.pa_star ha hr hs) ?_
  rintro σ H Q ⟨M, S, ev, l, rs, h⟩
  refine ⟨M, S, ev, l, rs, Pst.cut h ?_⟩
  intro x S1 M1 H1 vx _ s1 l1 r1 h1
  split at h1
  · rename_i ds e1
    obtain ⟨a, vs, e2, q, hd⟩ := seqW_ok l1 r1 e1
    refine ⟨a, vs, e2, q, ⟨M1, S1, ev, l1, rs.stp s1, Pst.cut h1 ?_⟩⟩
    intro xs S2 M2 H2 vxs _ s2 l2 r2 h2
    exact Pst.ok h2 l2 (Paired.app (rws_of (DrL.stp s2 _ _ hd)) r2)
  · exact h1.elim
theorem fe_tup {x1} (ha : FAx X XR Wx es fr) : FEx X XR Wx (.Tuple es x1 pos) (fTup fr) := by
  refine PE.imp (pe_tupP ha) ?_
  rintro σ H Q ⟨M, S, ev, l, rs, h⟩
  refine ⟨M, S, ev, l, rs, Pst.cut h ?_⟩
  intro ws S1 M1 H1 vs _ s1 l1 r1 h1
  split at h1
  · rename_i ds e1
    split at h1
    · rename_i c
      have hd := allD_ok r1 e1
      exact ⟨by rw [hd.len]; exact c, fun p o np ho => h1 M1 _ _ (stp_new np) (l1.new np) (dr_tup l1 np ho hd)⟩
    · exact h1.elim
  · split at h1
    · rename_i xs e2
      split at h1
      · rename_i c
        have hp := allP_ok r1 e2
        exact ⟨by rw [← Paired.length hp]; exact c, fun p o np ho => h1 M1 _ _ (stp_new np) (l1.new np) ⟨p, vs, rfl, l1.notin np, ⟨o, ho, upd_same⟩, Paired.imp (fun _ _ z => PmR.stp (stp_new np) z) hp⟩⟩
      · exact h1.elim
    · exact h1.elim
theorem fe_lst (ha : FAx X XR Wx es fr) : FEx X XR Wx (.List es pos) (fLst fr) := by
  refine PE.imp (pe_lst ha) ?_
  rintro σ H Q ⟨M, S, ev, l, rs, h⟩
  refine ⟨M, S, ev, l, rs, Pst.cut h ?_⟩
  intro ws S1 M1 H1 vs _ s1 l1 r1 h1
  split at h1
  · rename_i ds e1
    split at h1
    · rename_i c
      have hd := allD_ok r1 e1
      exact ⟨by rw [hd.len]; exact c, fun p np => h1 M1 _ _ (stp_new np) (l1.new np) (dr_lst l1 np hd)⟩
    · exact h1.elim
  · exact h1.elim
theorem Rl.len {S : So} (l : Rl X.K H M S) : M.m.length = S.length := Paired.length l.ob
/-- a new list that may change -/
theorem new_m {p : Addr} {xs : List PyData} {vs : List V} {Q : VK} (l : Rl X.K H M S) (q : Nxt XR M H (.r S.length) (S ++ [.l xs]) Q) (n : H p = none) (h : DrL X.K H M xs vs) : Q (.ref p) (upd H p (.lst vs)) := by
  refine q (M.add p) _ _ (stp_mut n) (l.mut n ⟨vs, rfl, DrL.stp (stp_mut n) xs vs h⟩) ⟨p, ?_, rfl⟩
  rw [← l.len]
  show (M.m ++ [p])[M.m.length]? = some p
  simp
theorem fe_mut (ha : FAx X XR Wx es fr) : FEx X XR Wx (.List es pos) (fMut fr) := by
  refine PE.imp (pe_lst ha) ?_
  rintro σ H Q ⟨M, S, ev, l, rs, h⟩
  refine ⟨M, S, ev, l, rs, Pst.cut h ?_⟩
  intro ws S1 M1 H1 vs _ s1 l1 r1 h1
  split at h1
  · rename_i ds e1
    split at h1
    · rename_i c
      have hd := allD_ok r1 e1
      exact ⟨by rw [hd.len]; exact c, fun p np => new_m l1 h1 np hd⟩
    · exact h1.elim
  · exact h1.elim
end
end FL

set_option Elab.async false
set_option linter.all false
set_option maxRecDepth 100000
set_option maxHeartbeats 1000000
namespace FL
open PySem PySem.Spec PyProof.Rows
open L2
/-! statements -/
section
variable {K : PySem.W.Frag} (XR : XRel K) (Wx : WX)
def PstS (M : Ms) (H : Hp) (r : Out) (D : Ends) : Prop := match r with
  | .nx e S => ∀ M' H' σ', Stp M H M' H' → Rl K H' M' S → Rs XR H' M' e σ' → D.nx σ' H'
  | .rt w S => ∀ M' H' v, Stp M H M' H' → Rl K H' M' S → RW XR H' M' w v → D.rt v H'
  | .bk e S => ∀ M' H' σ', Stp M H M' H' → Rl K H' M' S → Rs XR H' M' e σ' → D.bk σ' H'
  | .ct e S => ∀ M' H' σ', Stp M H M' H' → Rl K H' M' S → Rs XR H' M' e σ' → D.ct σ' H'
  | .ex c f e S => ∀ M' H' σ' cls dx, Stp M H M' H' → Rl K H' M' S → Rs XR H' M' e σ' → XR.D c f cls dx H' M' → Wx cls dx σ' H'
  | .no => False
def rS (f : FS) : TS := fun D σ H => ∃ M S ev, Rl K H M S ∧ Rs XR H M ev σ ∧ PstS XR Wx M H (f ev S) D
variable {XR Wx}
theorem PstS.stp {M M1 : Ms} {H H1 : Hp} {r : Out} {D : Ends} (s : Stp M H M1 H1) (h : PstS XR Wx M H r D) : PstS XR Wx M1 H1 r D := by
  cases r with
  | nx e S => exact fun M' H' σ' t => h M' H' σ' (s.trans t)
  | rt w S => exact fun M' H' v t => h M' H' v (s.trans t)
  | bk e S => exact fun M' H' σ' t => h M' H' σ' (s.trans t)
  | ct e S => exact fun M' H' σ' t => h M' H' σ' (s.trans t)
  | ex c f e S => exact fun M' H' σ' cls dx t => h M' H' σ' cls dx (s.trans t)
  | no => exact h
end
@[simp] def Res.toOut (r : Res W) (ev : Ev) (k : W → So → Out) : Out := match r with
  | .ok w S => k w S
  | .ex c f S => .ex c f ev S
  | .no => .no
@[simp] def Res.toOutB (r : Res Bool) (ev : Ev) (k : Bool → So → Out) : Out := match r with
  | .ok w S => k w S
  | .ex c f S => .ex c f ev S
  | .no => .no
@[simp] def Out.then (r : Out) (k : Ev → So → Out) : Out := match r with
  | .nx e S => k e S
  | r => r
@[simp] def fSeq (f g : FS) : FS := fun ev S => (f ev S).then g
@[simp] def fNext : FS := fun ev S => .nx ev S
@[simp] def fSet (i : Nat) (f : FE) : FS := fun ev S => (f ev S).toOut ev fun w S1 => .nx (ev.set i (some w)) S1
@[simp] def fDrop (f : FE) : FS := fun ev S => (f ev S).toOut ev fun _ S1 => .nx ev S1
@[simp] def fRet (f : FE) : FS := fun ev S => (f ev S).toOut ev fun w S1 => .rt w S1
@[simp] def fIfS (t : FT) (f g : FS) : FS := fun ev S => (t ev S).toOutB ev fun b S1 => match b with
  | true => f ev S1
  | false => g ev S1
def fBreak : FS := fun ev S => .bk ev S
def fCont : FS := fun ev S => .ct ev S
section
variable {X : Cx} {XR : XRel X.K} {Wx : WX} {n : Nat} {st : Stmt} {rest : List Stmt} {f g : FS} {fa : FE} {t : FT} {e : Expr} {pos : Pos}
abbrev FSx (X : Cx) (XR : XRel X.K) (Wx : WX) (st : Stmt) (f : FS) : Prop := PS X st (rS XR Wx f)
abbrev FSs (X : Cx) (XR : XRel X.K) (Wx : WX) (st : List Stmt) (f : FS) : Prop := PSs X st (rS XR Wx f)
theorem PS.imp {st : Stmt} {t t' : TS} (h : PS X st t) (g : ∀ D σ H, t' D σ H → t D σ H) : PS X st t' := ⟨fun pins s σ H D I q => h.run pins s σ H D I (g _ _ _ q)⟩
theorem PSs.imp {st : List Stmt} {t t' : TS} (h : PSs X st t) (g : ∀ D σ H, t' D σ H → t D σ H) : PSs X st t' := ⟨fun pins s σ H D I q => h.run pins s σ H D I (g _ _ _ q)⟩
theorem seq_ok {D : Ends} {σ : L2.St} {H : Hp} (h : rS XR Wx (fSeq f g) D σ H) : tSeq (rS XR Wx f) (rS XR Wx g) D σ H := by
  obtain ⟨M, S, ev, l, rs, h⟩ := h
  refine ⟨M, S, ev, l, rs, ?_⟩
  unfold fSeq at h
  cases e : f ev S with
  | nx e1 S1 =>
    rw [e] at h
    intro M' H' σ' s l' r'
    exact ⟨M', S1, e1, l', r', PstS.stp s h⟩
  | rt w S1 => rw [e] at h; exact h
  | bk e1 S1 => rw [e] at h; exact h
  | ct e1 S1 => rw [e] at h; exact h
  | ex c d e1 S1 => rw [e] at h; exact h
  | no => rw [e] at h; exact h
theorem fss_nil : FSs X XR Wx [] fNext := by
  refine PSs.imp pss_nil ?_
  rintro D σ H ⟨M, S, ev, l, rs, h⟩
  exact h M H σ (.refl _ _) l rs
theorem fss_cons (h1 : FSx X XR Wx st f) (h2 : FSs X XR Wx rest g) : FSs X XR Wx (st :: rest) (fSeq f g) := PSs.imp (pss_cons h1 h2) fun _ _ _ => seq_ok
theorem fss_one (h1 : FSx X XR Wx st f) : FSs X XR Wx [st] f := pss_one h1
/-- an expression, then what follows -/
theorem toOut_ok {k : W → So → Out} {D : Ends} {M : Ms} {S : So} {ev : Ev} {σ : L2.St} {H : Hp} {Q : VK} (l : Rl X.K H M S) (rs : Rs XR H M ev σ) (h : PstS XR Wx M H ((fa ev S).toOut ev k) D)
    (g : ∀ w S1 M1 H1 v, Stp M H M1 H1 → Rl X.K H1 M1 S1 → Rs XR H1 M1 ev σ → RW XR H1 M1 w v → PstS XR Wx M1 H1 (k w S1) D → Q v H1) : rE XR Wx fa σ H Q := by
  refine ⟨M, S, ev, l, rs, ?_⟩
  cases e : fa ev S with
  | ok w S1 =>
    rw [e] at h
    exact fun M1 H1 v s l1 r1 => g w S1 M1 H1 v s l1 (rs.stp s) r1 (PstS.stp s h)
  | ex c f S1 =>
    rw [e] at h
    exact fun M1 H1 cls dx s l1 d1 => h M1 H1 σ cls dx s l1 (rs.stp s) d1
  | no => rw [e] at h; exact h
theorem toOutB_ok {k : Bool → So → Out} {D : Ends} {M : Ms} {S : So} {ev : Ev} {σ : L2.St} {H : Hp} {Q : Bool → Hp → Prop} (l : Rl X.K H M S) (rs : Rs XR H M ev σ) (h : PstS XR Wx M H ((t ev S).toOutB ev k) D)
    (g : ∀ w S1 M1 H1, Stp M H M1 H1 → Rl X.K H1 M1 S1 → Rs XR H1 M1 ev σ → PstS XR Wx M1 H1 (k w S1) D → Q w H1) : rT XR Wx t σ H Q := by
  refine ⟨M, S, ev, l, rs, ?_⟩
  cases e : t ev S with
  | ok w S1 =>
    rw [e] at h
    rintro M1 H1 v s l1 r1
    have r1' : w = v := r1
    subst r1'
    exact g w S1 M1 H1 s l1 (rs.stp s) (PstS.stp s h)
  | ex c f S1 =>
    rw [e] at h
    exact fun M1 H1 cls dx s l1 d1 => h M1 H1 σ cls dx s l1 (rs.stp s) d1
  | no => rw [e] at h; exact h
theorem Rs.set {M : Ms} {H : Hp} {ev : Ev} {σ : L2.St} {i : Nat} {w : W} {v : V} (rs : Rs XR H M ev σ) (r : RW XR H M w v) : Rs XR H M (ev.set i (some w)) (σ.set i (some v)) :=
  Paired.setB (fun _ e => by cases e; exact ⟨v, rfl, r⟩) i rs
theorem fs_set {i : Nat} {x : Str} {pos' : Pos} (hN : X.N.Nodup) (hi : X.N[i]? = some x) (hx : Loc X.env.scope x) (he : FEx X XR Wx e fa) (hs : swapsWith e (some (.Name x pos')) pos.line X.env = pure false := by rfl)
    (hf : X.fn x = true ∨ X.env.scope.names.lookup x = some .local := by first | exact .inl rfl | exact .inr rfl | assumption) : FSx X XR Wx (.Assign [.Name x pos'] e pos) (fSet i fa) := by
  refine PS.imp (ps_set hN hi hx he hs hf) ?_
  rintro D σ H ⟨M, S, ev, l, rs, h⟩
  refine toOut_ok l rs h ?_
  intro w S1 M1 H1 v s1 l1 rs1 r1 h1
  exact h1 M1 H1 _ (.refl _ _) l1 (rs1.set r1)
theorem fs_expr (he : FEx X XR Wx e fa) (hs : swapsWith e none pos.line X.env = pure false := by rfl) : FSx X XR Wx (.Expr e pos) (fDrop fa) := by
  refine PS.imp (ps_expr he hs) ?_
  rintro D σ H ⟨M, S, ev, l, rs, h⟩
  refine toOut_ok l rs h ?_
  intro w S1 M1 H1 v s1 l1 rs1 r1 h1
  exact h1 M1 H1 _ (.refl _ _) l1 rs1
theorem fs_ret (he : FEx X XR Wx e fa) : FSx X XR Wx (.Return (some e) pos) (fRet fa) := by
  refine PS.imp (ps_ret he) ?_
  rintro D σ H ⟨M, S, ev, l, rs, h⟩
  refine toOut_ok l rs h ?_
  intro w S1 M1 H1 v s1 l1 rs1 r1 h1
  exact h1 M1 H1 _ (.refl _ _) l1 r1
theorem fs_if {c : Expr} {a b : List Stmt} (hc : FTx X XR Wx c t) (ha : FSs X XR Wx a f) (hb : FSs X XR Wx b g) : FSx X XR Wx (.If c a b pos) (fIfS t f g) := by
  refine PS.imp (ps_if hc ha hb) ?_
  rintro D σ H ⟨M, S, ev, l, rs, h⟩
  refine toOutB_ok l rs h ?_
  intro w S1 M1 H1 s1 l1 rs1 h1
  cases w with
  | true => exact ⟨M1, S1, ev, l1, rs1, h1⟩
  | false => exact ⟨M1, S1, ev, l1, rs1, h1⟩
theorem fs_doc {x : Str} {j : Nat} {pos' : Pos} : FSx X XR Wx (.Expr (.Constant (.str x) j pos) pos') fNext := by
  refine PS.imp ps_doc ?_
  rintro D σ H ⟨M, S, ev, l, rs, h⟩
  exact h M H σ (.refl _ _) l rs
theorem fs_pass : FSx X XR Wx (.Pass pos) fNext := by
  refine PS.imp ps_pass ?_
  rintro D σ H ⟨M, S, ev, l, rs, h⟩
  exact h M H σ (.refl _ _) l rs
theorem fs_break : FSx X XR Wx (.Break pos) fBreak := by
  refine PS.imp ps_break ?_
  rintro D σ H ⟨M, S, ev, l, rs, h⟩
  exact h M H σ (.refl _ _) l rs
theorem fs_cont : FSx X XR Wx (.Continue pos) fCont := by
  refine PS.imp ps_continue ?_
  rintro D σ H ⟨M, S, ev, l, rs, h⟩
  exact h M H σ (.refl _ _) l rs
/-- name += e, ints -/
def fAug (i : Nat) (op : Int → Int → Int) (fa : FE) : FS := fun ev S => match ev[i]? with
  | some (some x) => (fa ev S).toOut ev fun y S1 => match asI x, asI y with
    | some a, some b => .nx (ev.set i (some (.d (.int (op a b))))) S1
    | _, _ => .no
  | _ => .no
theorem fs_aug {i : Nat} {x : Str} {o : Operator} {op : Int → Int → Int} {pos' : Pos} (ho : PIp X o (ipI op)) (hN : X.N.Nodup) (hi : X.N[i]? = some x) (hx : Loc X.env.scope x) (he : FEx X XR Wx e fa)
    (hf : X.fn x = true ∨ X.env.scope.names.lookup x = some .local := by first | exact .inl rfl | exact .inr rfl | assumption) : FSx X XR Wx (.AugAssign (.Name x pos') o e pos) (fAug i op fa) := by
  refine PS.imp (ps_aug hN hi hx he ho hf) ?_
  rintro D σ H ⟨M, S, ev, l, rs, h⟩
  unfold fAug at h
  split at h
  · rename_i w e1
    obtain ⟨y, e2, q⟩ := Paired.get rs e1
    obtain ⟨v, e3, q⟩ := q w rfl
    refine ⟨v, by rw [e2, e3], toOut_ok l rs h ?_⟩
    intro w1 S1 M1 H1 v1 s1 l1 rs1 r1 h1
    split at h1
    · rename_i a b e4 e5
      refine ⟨a, b, asI_ok q e4, asI_ok r1 e5, ?_⟩
      exact h1 M1 H1 _ (.refl _ _) l1 (rs1.set (by show Dr X.K H1 M1 (.int _) _; unfold Dr; rfl))
    · exact h1.elim
  · exact h.elim
/-! while -/
def whl (t : FT) (b : FS) : Nat → Ev → So → Out
  | 0, _, _ => .no
  | m + 1, ev, S => (t ev S).toOutB ev fun c S1 => match c with
    | false => .nx ev S1
    | true => match b ev S1 with
      | .nx e2 S2 => whl t b m e2 S2
      | .ct e2 S2 => whl t b m e2 S2
      | .bk e2 S2 => .nx e2 S2
      | r => r
def fWhile (t : FT) (b : FS) : FS := whl t b 100000
theorem fs_while {c : Expr} {body : List Stmt} (C : Ct X Wx n) (hc : FTx X XR Wx c t) (hb : FSs X XR Wx body f) : FSx X XR Wx (.While c body [] pos) (fWhile t f) := by
  refine PS.imp (ps_while C.pp hc hb) ?_
  rintro D σ H ⟨M, S, ev, l, rs, h⟩
  refine ⟨fun m σ H => ∃ M S ev, Rl X.K H M S ∧ Rs XR H M ev σ ∧ PstS XR Wx M H (whl t f m ev S) D, ⟨100000, M, S, ev, l, rs, h⟩, ?_⟩
  rintro m σ H ⟨M, S, ev, l, rs, h⟩
  cases m with
  | zero => exact h.elim
  | succ m =>
    refine toOutB_ok l rs h ?_
    intro w S1 M1 H1 s1 l1 rs1 h1
    cases w with
    | false =>
      rw [if_neg Bool.false_ne_true]
      exact h1 M1 H1 _ (.refl _ _) l1 rs1
    | true =>
      rw [if_pos rfl]
      refine ⟨fun σ' H' => ∃ M S ev, Rl X.K H' M S ∧ Rs XR H' M ev σ' ∧ PstS XR Wx M H' (whl t f m ev S) D, fun σ' H' q => ⟨m, Nat.lt_succ_self _, q⟩, M1, S1, ev, l1, rs1, ?_⟩
      dsimp only at h1
      cases e : f ev S1 with
      | nx e2 S2 =>
        rw [e] at h1
        exact fun M2 H2 σ2 s2 l2 rs2 => ⟨M2, S2, e2, l2, rs2, PstS.stp s2 h1⟩
      | ct e2 S2 =>
        rw [e] at h1
        exact fun M2 H2 σ2 s2 l2 rs2 => ⟨M2, S2, e2, l2, rs2, PstS.stp s2 h1⟩
      | bk e2 S2 => rw [e] at h1; exact h1
      | rt w S2 => rw [e] at h1; exact h1
      | ex c d e2 S2 => rw [e] at h1; exact h1
      | no => rw [e] at h1; exact h1
/-! targets -/
theorem wipe_set {i : Nat} {x : Option V} : ∀ {vs : List Nat} {σ : L2.St}, wipe (σ.set i x) vs = if i ∈ vs then wipe σ vs else (wipe σ vs).set i x
  | [], σ => by
    rw [if_neg (by simp)]
    rfl
  | v :: vs, σ => by
    unfold wipe
    rw [wipe_set (vs := vs)]
    by_cases h : i ∈ vs
    · rw [if_pos h, if_pos (List.mem_cons_of_mem _ h)]
    · rw [if_neg h]
      by_cases e : i = v
      · subst e
        rw [if_pos List.mem_cons_self, List.set_set]
      · rw [if_neg (by simp [e, h]), List.set_comm _ _ e]
abbrev FG := W → Ev → Option Ev
def Wp (sl : List Nat) (σ σ' : L2.St) : Prop := ∀ vs : List Nat, (∀ i, i ∈ sl → i ∈ vs) → wipe σ' vs = wipe σ vs
def rG (XR : XRel X.K) (sl : List Nat) (g : FG) : TG := fun v σ H Q => ∃ M S ev w, Rl X.K H M S ∧ Rs XR H M ev σ ∧ RW XR H M w v ∧ ∃ e', g w ev = some e' ∧ ∀ σ', Rs XR H M e' σ' → Wp sl σ σ' → Q σ' H
abbrev FGx (X : Cx) (XR : XRel X.K) (tg : Expr) (sl : List Nat) (g : FG) : Prop := PG X tg (rG XR sl g)
theorem PG.imp {tg : Expr} {t t' : TG} (h : PG X tg t) (g : ∀ v σ H Q, t' v σ H Q → t v σ H Q) : PG X tg t' := ⟨fun pins s σ H v u Q I r q => h.run pins s σ H v u Q I r (g _ _ _ _ q)⟩
@[simp] def gNm (i : Nat) : FG := fun w ev => some (ev.set i (some w))
theorem fg_nm {i : Nat} {x : Str} (hN : X.N.Nodup) (hi : X.N[i]? = some x) (hx : Loc X.env.scope x) (hf : X.fn x = true ∨ X.env.scope.names.lookup x = some .local := by first | exact .inl rfl | exact .inr rfl | assumption) : FGx X XR (.Name x pos) [i] (gNm i) := by
  refine PG.imp (pg_name hN hi hx hf) ?_
  rintro v σ H Q ⟨M, S, ev, w, l, rs, r, e', e1, q⟩
  cases e1
  refine q _ (rs.set r) fun vs h => ?_
  rw [wipe_set, if_pos (h i (by simp))]
/-- several names, one after another -/
def rGs (XR : XRel X.K) (sl : List Nat) (g : List W → Ev → Option Ev) : TGs := fun vs σ H Q => ∃ M S ev ds, Rl X.K H M S ∧ Rs XR H M ev σ ∧ RWs XR H M ds vs ∧ ∃ e', g ds ev = some e' ∧ ∀ σ', Rs XR H M e' σ' → Wp sl σ σ' → Q σ' H
def gNo : List W → Ev → Option Ev := fun ds ev => match ds with
  | [] => some ev
  | _ => none
def gCs (g : FG) (h : List W → Ev → Option Ev) : List W → Ev → Option Ev := fun ds ev => match ds with
  | d :: r => (g d ev).bind fun ev' => h r ev'
  | [] => none
abbrev FGsx (X : Cx) (XR : XRel X.K) (ts : List Expr) (sl : List Nat) (g : List W → Ev → Option Ev) : Prop := PGs X ts (rGs XR sl g)
theorem PGs.imp {ts : List Expr} {t t' : TGs} (h : PGs X ts t) (g : ∀ v σ H Q, t' v σ H Q → t v σ H Q) : PGs X ts t' := ⟨fun pins s σ H v u Q I r q => h.run pins s σ H v u Q I r (g _ _ _ _ q)⟩
theorem fgs_nil : FGsx X XR [] [] gNo := by
  refine PGs.imp pgs_nil ?_
  rintro vs σ H Q ⟨M, S, ev, ds, l, rs, r, e', e1, q⟩
  cases ds with
  | nil =>
    cases r
    cases e1
    exact ⟨rfl, q _ rs fun _ _ => rfl⟩
  | cons _ _ => cases e1
theorem fgs_cons {tg : Expr} {ts : List Expr} {sl sl' : List Nat} {g : FG} {h : List W → Ev → Option Ev} (h1 : FGx X XR tg sl g) (h2 : FGsx X XR ts sl' h)
    (hs : (assignEach (tg :: ts) X.env).map (·.2) = assign tg X.env :: (assignEach ts X.env).map (·.2) := by rfl) : FGsx X XR (tg :: ts) (sl ++ sl') (gCs g h) := by
  refine PGs.imp (pgs_cons h1 h2 hs) ?_
  rintro vs σ H Q ⟨M, S, ev, ds, l, rs, r, e', e1, q⟩
  cases ds with
  | nil => cases e1
  | cons d ds =>
    cases r with
    | @cons _ x _ xs h3 h4 =>
    unfold gCs at e1
    cases e3 : g d ev with
    | none => simp [e3] at e1
    | some ev1 =>
      have e4 : h ds ev1 = some e' := by simpa [e3] using e1
      refine ⟨x, xs, rfl, M, S, ev, d, l, rs, h3, ev1, e3, fun σ1 rs1 w1 => ⟨M, S, ev1, ds, l, rs1, h4, e', e4, fun σ2 rs2 w2 => q σ2 rs2 fun vs hv => ?_⟩⟩
      exact (w2 vs fun i hi => hv i (List.mem_append_right _ hi)).trans (w1 vs fun i hi => hv i (List.mem_append_left _ hi))
def pmW : Pm → W
  | .d y => W.d y
  | .x c f => W.x c f
  | .r k => W.r k
def gTp (n : Nat) (h : List W → Ev → Option Ev) : FG := fun w ev => match asT w with
  | some ds => if ds.length = n then h (ds.map W.d) ev else none
  | none => match w with
    | .d (.list ds) => if ds.length = n then h (ds.map W.d) ev else none
    | .p xs => if xs.length = n then h (xs.map pmW) ev else none
    | _ => none
theorem pms_ok {H : Hp} {M : Ms} : ∀ {xs : List Pm} {vs : List V}, Paired (PmR XR H M) xs vs → RWs XR H M (xs.map pmW) vs
  | _, _, .nil => .nil
  | .d x :: _, _, .cons r t => .cons r (pms_ok t)
  | .x c f :: _, _, .cons r t => .cons r (pms_ok t)
  | .r k :: _, _, .cons r t => .cons r (pms_ok t)
theorem pg_or {tg : Expr} {t t' : TG} (h : PG X tg t) (h' : PG X tg t') : PG X tg (fun v σ H Q => t v σ H Q ∨ t' v σ H Q) := ⟨fun pins s σ H v u Q I r q => q.elim (h.run pins s σ H v u Q I r) (h'.run pins s σ H v u Q I r)⟩
theorem fg_tup {es : List Expr} {k : Nat} {sl : List Nat} {h : List W → Ev → Option Ev} {m : Nat} (hc : X.calm = true) (hg : FGsx X XR es sl h) (hn : (assignEach es X.env).length = m := by rfl) (hst : (assignEach es X.env).findIdx? (·.1) = none := by rfl) :
    FGx X XR (.Tuple es k pos) sl (gTp m h) := by
  refine PG.imp (pg_or (pg_tup hc hg hn hst) (pg_lst hc hg hn hst)) ?_
  rintro v σ H Q ⟨M, S, ev, w, l, rs, r, e', e1, q⟩
  unfold gTp at e1
  split at e1
  · rename_i ds e2
    split at e1
    · rename_i e3
      obtain ⟨a, vs, e4, h1, h2⟩ := asT_ok r e2
      exact .inl ⟨a, vs, e4, h1.sq, by rw [h2.len]; exact e3, M, S, ev, ds.map W.d, l, rs, rws_of h2, e', e1, q⟩
    · cases e1
  · cases w with
    | d x =>
      cases x with
      | list ds =>
        dsimp only at e1
        split at e1
        · rename_i e3
          obtain ⟨a, vs, e4, h1, h2⟩ := asL_ok (S := S) l r (xs := ds) rfl
          exact .inr ⟨a, vs, e4, SqL.of h1, by rw [h2.len]; exact e3, M, S, ev, ds.map W.d, l, rs, rws_of h2, e', e1, q⟩
        · cases e1
      | none | bool _ | int _ | str _ | tuple _ | dict _ => cases e1
    | r _ => cases e1
    | k _ => cases e1
    | x _ _ => cases e1
    | s _ => cases e1
    | p xs =>
      dsimp only at e1
      split at e1
      · rename_i e3
        obtain ⟨a, vs, e4, n, ⟨o, ho, h1⟩, h2⟩ := r
        exact .inl ⟨a, vs, e4, .inl (.inr ⟨o, h1⟩), by rw [← Paired.length h2]; exact e3, M, S, ev, xs.map pmW, l, rs, pms_ok h2, e', e1, q⟩
      · cases e1
/-- target = e -/
def fAsg (g : FG) (fa : FE) : FS := fun ev S => (fa ev S).toOut ev fun w S1 => match g w ev with
  | some e' => .nx e' S1
  | none => .no
theorem fs_asg {tg : Expr} {sl : List Nat} {g : FG} (he : FEx X XR Wx e fa) (hg : FGx X XR tg sl g) (hs : swapsWithSole [tg] e pos.line X.env = pure false := by rfl) (hw : swappedStores [tg] e X.env = pure none := by rfl)
    (h1 : (assignEach [tg] X.env).map (·.2) = [assign tg X.env] := by rfl) : FSx X XR Wx (.Assign [tg] e pos) (fAsg g fa) := by
  refine PS.imp (ps_asg he hg hs hw h1) ?_
  rintro D σ H ⟨M, S, ev, l, rs, h⟩
  refine toOut_ok l rs h ?_
  intro w S1 M1 H1 v s1 l1 rs1 r1 h1
  split at h1
  · rename_i e' e1
    exact ⟨M1, S1, ev, w, l1, rs1, r1, e', e1, fun σ' rs' _ => h1 M1 H1 σ' (.refl _ _) l1 rs'⟩
  · exact h1.elim
/-- a, b = x, y -/
def fPar (i j : Nat) (fa : FA) : FS := fun ev S => match fa ev S with
  | .ok [x, y] S1 => .nx ((ev.set i (some x)).set j (some y)) S1
  | .ex c d S1 => .ex c d ev S1
  | _ => .no
theorem fs_par {i j : Nat} {x y : Str} {a b : Expr} {fr : FA} {px py pt : Pos} {kt k2 pt2} (hc : X.calm = true) (hN : X.N.Nodup) (hi : X.N[i]? = some x) (hj : X.N[j]? = some y) (hij : i ≠ j)
    (hx : X.env.scope.names.lookup x = some .local) (hy : X.env.scope.names.lookup y = some .local) (ha : FAx X XR Wx [a, b] fr)
    (hw : swappedStores [.Tuple [.Name x px, .Name y py] kt pt] (.Tuple [a, b] k2 pt2) X.env = pure (some [x, y]))
    (hs : swapsWithSole [.Tuple [.Name x px, .Name y py] kt pt] (.Tuple [a, b] k2 pt2) pos.line X.env = pure false := by rfl) :
    FSx X XR Wx (.Assign [.Tuple [.Name x px, .Name y py] kt pt] (.Tuple [a, b] k2 pt2) pos) (fPar i j fr) := by
  refine PS.imp (ps_par hc hN hi hj hij hx hy ha hw hs) ?_
  rintro D σ H ⟨M, S, ev, l, rs, h⟩
  refine ⟨M, S, ev, l, rs, ?_⟩
  unfold fPar at h
  split at h
  · rename_i u w S1 e1
    rw [e1]
    intro M1 H1 vs s1 l1 r1
    cases r1 with
    | cons q1 r2 =>
      cases r2 with
      | cons q2 r3 =>
        cases r3
        exact ⟨_, _, rfl, h M1 H1 _ s1 l1 (((rs.stp s1).set q1).set q2)⟩
  · rename_i c d S1 e1
    rw [e1]
    exact fun M1 H1 cls dx s l1 d1 => h M1 H1 σ cls dx s l1 (rs.stp s) d1
  · exact h.elim
end
end FL

set_option Elab.async false
set_option linter.all false
set_option maxRecDepth 100000
set_option maxHeartbeats 1000000
namespace FL
open PySem PySem.Spec PyProof.Rows
open L2
/-! a def -/
/-- what a def hands back: what it made goes, but its answer -/
def frzP (n : Nat) (S : So) : Pm → Option Pm
  | .d x => some (.d x)
  | .x c f => some (.x c f)
  | .r k => if k < n then some (.r k) else match S[k]? with
    | some (.l xs) => some (.d (.list xs))
    | _ => none
def frzPs (n : Nat) (S : So) : List Pm → Option (List Pm)
  | [] => some []
  | x :: r => (frzP n S x).bind fun y => (frzPs n S r).map (y :: ·)
def allPd : List Pm → Option (List PyData)
  | [] => some []
  | .d x :: r => (allPd r).map (x :: ·)
  | _ :: _ => none
def mkP (xs : List Pm) : W := match allPd xs with
  | some ds => .d (.tuple ds)
  | none => .p xs
@[simp] def frz (n : Nat) (w : W) (S : So) : Option W := match w with
  | .r k => if k < n then some (.r k) else match S[k]? with
    | some (.l xs) => some (.d (.list xs))
    | some (.k kvs) => some (.k kvs)
    | _ => none
  | .p xs => (frzPs n S xs).map mkP
  | w => some w
@[simp] def fin (n : Nat) (w : W) (S : So) : Res W := match frz n w S with
  | some w' => .ok w' (S.take n)
  | none => .no
@[simp] def fDef (k : Nat) (b : FS) : List W → So → Res W := fun ws S => match b (ws.map some ++ List.replicate (k - ws.length) none) S with
  | .rt w S' => fin S.length w S'
  | .nx _ S' => fin S.length (.d .none) S'
  | .ex c f _ S' => .ex c f (S'.take S.length)
  | _ => .no
section
variable {K : PySem.W.Frag} {XR : XRel K}
def spF (XR : XRel K) (g : List W → So → Res W) : Sp := fun vs H Q E => ∃ M S ws, Rl K H M S ∧ RWs XR H M ws vs ∧ Pst XR (fun c d _ H' => E c d H') [] M H (RW XR) (g ws S) Q
structure FnF (P : Program) (w : World) (mg : Str → Option Value) (base : Heap) (XR : XRel K) (n : Nat) (f : Addr) (fd : FuncData) (ps : List Str) (g : List W → So → Res W) : Prop where
  run : ∀ (A : Around) (outer : List Env) (s : Shared) (H : Hp) (args : Args) (us : List Value) (vs : List V) (Q : VK) (E : XK), A.guards = some [] → Room n A → Env0 P w K mg base A outer s H → BindsTo s fd args (ps.zip us) → Vals vs us → us.length = ps.length →
    spF XR g vs H Q E → codeAny (model P w) A (.call (.ref f) args) (CR (L2.CX P w) outer P w H s Q E) s
theorem FnF.mono {P : Program} {w : World} {mg : Str → Option Value} {base : Heap} {n m : Nat} {f : Addr} {fd : FuncData} {ps : List Str} {g : List W → So → Res W} (F : FnF P w mg base XR n f fd ps g) (h : n ≤ m) : FnF P w mg base XR m f fd ps g :=
  ⟨fun A outer s H args us vs Q E hg hr => F.run A outer s H args us vs Q E hg (hr.mono h)⟩
structure FunF (K : PySem.W.Frag) (x : Str) (st : Stmt) (f : Addr) (fd : FuncData) : Prop where
  ex : ∃ (oc : Value) (od : Option Addr) (dV kV doc pm : Value) (an : Option Addr) (cdv ct : Value) (osl : Array (Option Value)),
    fd = PySem.W.fnOf x x (defArgs st) (defBody st) (defScope st) dV kV doc pm an cdv ct ∧ K.lookup f = some ⟨oc, od, .func fd, osl⟩ ∧ PySem.W.codeIn K cdv x = true
  kp : PySem.W.keepIn K (.ref f) = true
theorem Stp.back {M M1 : Ms} {H H1 : Hp} (s : Stp M H M1 H1) : Stp M H ⟨M.m, M1.x⟩ H1 :=
  ⟨List.prefix_refl _, s.sub, s.keep, fun a h n => absurd h n, fun a h n n2 => s.newx a h n n2⟩
theorem les_back {M M1 : Ms} {H H1 : Hp} (s : Stp M H M1 H1) : ∀ b, b ∈ (⟨M.m, M1.x⟩ : Ms) → b ∈ M1 := fun b h => by
  rcases h with h | h
  · exact Or.inl (s.pre.subset h)
  · exact Or.inr h
theorem Paired.takeN {α β : Type} {F : α → β → Prop} : ∀ {l : List α} {m : List β} (n : Nat), Paired F l m → Paired F (l.take n) (m.take n)
  | _, _, 0, _ => by
    rw [List.take_zero, List.take_zero]
    exact .nil
  | _, _, _ + 1, .nil => .nil
  | _, _, n + 1, .cons r t => .cons r (Paired.takeN n t)
theorem Rl.back {M M1 : Ms} {H H1 : Hp} {S S1 : So} (l : Rl K H M S) (s : Stp M H M1 H1) (l1 : Rl K H1 M1 S1) : Rl K H1 ⟨M.m, M1.x⟩ (S1.take S.length) := by
  have hm : M1.m.take S.length = M.m := by
    have e : M.m.length = S.length := Paired.length l.ob
    rw [← e]
    exact List.prefix_iff_eq_take.mp s.pre ▸ rfl
  refine ⟨l.nd, ?_, fun a h => ⟨fun z => (l1.ex a h).1 (s.pre.subset z), (l1.ex a h).2⟩⟩
  have q := Paired.takeN S.length l1.ob
  rw [hm] at q
  exact Paired.imp (fun a o ⟨u, e, r⟩ => ⟨u, e, r.les (les_back s)⟩) q
theorem frz_ok {M M1 : Ms} {H H1 : Hp} {S S1 : So} {w w' : W} {v : V} (l : Rl K H M S) (s : Stp M H M1 H1) (l1 : Rl K H1 M1 S1) (r : RW XR H1 M1 w v) (e : frz S.length w S1 = some w') : RW XR H1 ⟨M.m, M1.x⟩ w' v := by
  have hs := les_back s
  have ln : M.m.length = S.length := Paired.length l.ob
  have out : ∀ {k : Nat} {a : Addr}, ¬ k < S.length → M1.m[k]? = some a → a ∉ (⟨M.m, M1.x⟩ : Ms) := by
    intro k a hk e1 h
    rcases h with h | h
    · obtain ⟨j, hj⟩ := List.mem_iff_getElem?.mp (show a ∈ M.m from h)
      obtain ⟨t, e3⟩ := s.pre
      have e4 : M1.m[j]? = some a := by
        rw [← e3, List.getElem?_append_left (List.getElem?_eq_some_iff.mp hj).1]
        exact hj
      have e5 := nodup_at l1.nd e1 e4
      have e6 := (List.getElem?_eq_some_iff.mp hj).1
      omega
    · exact (l1.ex a h).1 (List.mem_iff_getElem?.mpr ⟨k, e1⟩)
  cases w with
  | r k =>
    obtain ⟨a, e1, e2⟩ := r
    unfold frz at e
    dsimp only at e
    split at e
    · rename_i hk
      cases e
      refine ⟨a, ?_, e2⟩
      obtain ⟨t, e3⟩ := s.pre
      show M.m[k]? = some a
      rw [← e3, List.getElem?_append_left (by omega)] at e1
      exact e1
    · rename_i hk
      split at e
      · rename_i xs e3
        cases e
        obtain ⟨u, h1, vs, rfl, h2⟩ := l1.get e1 e3
        show Dr K H1 _ (.list xs) v
        unfold Dr
        exact ⟨a, vs, e2, ⟨out hk e1, h1⟩, DrL.les hs xs vs h2⟩
      · rename_i kvs e3
        cases e
        obtain ⟨u, h1, vs, rfl, h2⟩ := l1.get e1 e3
        exact ⟨a, vs, e2, out hk e1, h1, KD.les hs h2⟩
      · cases e
  | d x =>
    cases e
    exact Dr.les hs x v r
  | k kvs =>
    cases e
    obtain ⟨a, vs, e1, n, h1, h2⟩ := r
    exact ⟨a, vs, e1, fun z => n (hs _ z), h1, KD.les hs h2⟩
  | x c f =>
    cases e
    obtain ⟨a, e1, q⟩ := r
    exact ⟨a, e1, XR.les hs q⟩
  | s ns =>
    cases e
    obtain ⟨a, e1, q⟩ := r
    rcases q with ⟨n, o, e2⟩ | q
    · exact ⟨a, e1, .inl ⟨fun z => n (hs _ z), o, e2⟩⟩
    · exact ⟨a, e1, .inr q⟩
  | p xs =>
    obtain ⟨a, vs, e1, n, ⟨o, ho, e2⟩, q⟩ := r
    have e' : (frzPs S.length S1 xs).map mkP = some w' := e
    cases e3 : frzPs S.length S1 xs with
    | none => rw [e3] at e'; cases e'
    | some ys =>
      rw [e3] at e'
      cases e'
      have one : ∀ {x y : Pm} {u : V}, PmR XR H1 M1 x u → frzP S.length S1 x = some y → PmR XR H1 ⟨M.m, M1.x⟩ y u := by
        intro x y u hx ex
        cases x with
        | d d =>
          cases ex
          exact Dr.les hs d u hx
        | x c f =>
          cases ex
          obtain ⟨b, h1, h2⟩ := hx
          exact ⟨b, h1, XR.les hs h2⟩
        | r k =>
          obtain ⟨b, h1, h2⟩ := hx
          unfold frzP at ex
          dsimp only at ex
          split at ex
          · rename_i hk
            cases ex
            refine ⟨b, ?_, h2⟩
            obtain ⟨t, e3⟩ := s.pre
            show M.m[k]? = some b
            rw [← e3, List.getElem?_append_left (by omega)] at h1
            exact h1
          · rename_i hk
            split at ex
            · rename_i zs e3
              cases ex
              obtain ⟨u', h3, us, rfl, h4⟩ := l1.get h1 e3
              show Dr K H1 _ (.list zs) u
              unfold Dr
              exact ⟨b, us, h2, ⟨out hk h1, h3⟩, DrL.les hs zs us h4⟩
            · cases ex
      have many : ∀ {xs ys : List Pm} {us : List V}, Paired (PmR XR H1 M1) xs us → frzPs S.length S1 xs = some ys → Paired (PmR XR H1 ⟨M.m, M1.x⟩) ys us := by
        intro xs
        induction xs with
        | nil =>
          intro ys us h e
          cases e
          cases h
          exact .nil
        | cons x xs ih =>
          intro ys us h e
          unfold frzPs at e
          cases h with
          | cons h1 h2 =>
            cases e4 : frzP S.length S1 x with
            | none => rw [e4] at e; cases e
            | some y =>
              rw [e4] at e
              cases e5 : frzPs S.length S1 xs with
              | none => rw [e5] at e; cases e
              | some zs =>
                rw [e5] at e
                cases e
                exact .cons (one h1 e4) (ih h2 e5)
      have hq := many q e3
      unfold mkP
      split
      · rename_i ds e4
        show Dr K H1 _ (.tuple ds) v
        unfold Dr
        refine ⟨a, vs, e1, .inl ⟨fun z => n (hs _ z), o, ho, e2⟩, ?_⟩
        have all : ∀ {xs : List Pm} {ds : List PyData} {us : List V}, Paired (PmR XR H1 ⟨M.m, M1.x⟩) xs us → allPd xs = some ds → DrL K H1 ⟨M.m, M1.x⟩ ds us := by
          intro xs
          induction xs with
          | nil =>
            intro ds us h e
            cases e
            cases h
            exact .nil
          | cons x xs ih =>
            intro ds us h e
            cases h with
            | cons h1 h2 =>
              cases x with
              | d d =>
                cases e5 : allPd xs with
                | none => simp [allPd, e5] at e
                | some zs =>
                  have e' : d :: zs = ds := by simpa [allPd, e5] using e
                  subst e'
                  exact .cons h1 (ih h2 e5)
              | x c f => simp [allPd] at e
              | r k => simp [allPd] at e
        exact all hq e4
      · exact ⟨a, vs, e1, fun z => n (hs _ z), ⟨o, ho, e2⟩, hq⟩
theorem start_ok {M : Ms} {H : Hp} {ws : List W} {vs : List V} {N : List Str} (r : RWs XR H M ws vs) : Rs XR H M (ws.map some ++ List.replicate (N.length - ws.length) none) (start N vs) := by
  have ln : ws.length = vs.length := Paired.length r
  unfold L2.start
  rw [ln]
  refine Paired.app ?_ ?_
  · clear ln
    induction r with
    | nil => exact .nil
    | cons r t ih => exact .cons (fun w e => by cases e; exact ⟨_, rfl, r⟩) ih
  · generalize N.length - vs.length = n
    induction n with
    | zero => exact .nil
    | succ n ih => exact .cons (fun w e => by cases e) ih
theorem rw_none {H : Hp} {M : Ms} : RW XR H M (.d .none) .non := by
  show Dr K H M .none .non
  unfold Dr
  rfl
variable {P : Program} {w : World} {mg : Str → Option Value} {base : Heap}
theorem okF {x : Str} {st : Stmt} {f : Addr} {fd : FuncData} {N ps : List Str} {n : Nat} {b : FS} (F : FunF K x st f fd) (S : FnScope N ps (defScope st))
    (hbody : ∀ (cdv : Value) (A : Around) (outer : List Env) (s : Shared) (H : Hp) (E : XK), Ct (cxOf (L2.CX P w) P w K mg base N x (defScope st) f cdv A outer s H E) (fun c d _ H' => E c d H') n →
      FSs (cxOf (L2.CX P w) P w K mg base N x (defScope st) f cdv A outer s H E) XR (fun c d _ H' => E c d H') (defBody st) b) : FnF P w mg base XR (n + 1) f fd ps (fDef N.length b) := by
  obtain ⟨oc, od, dV, kV, doc, pm, an, cdv, ct, osl, rfl, lk, hcd⟩ := F.ex
  refine ⟨fun A outer s H args us vs Q E hgd hr e0 hb rv hul hsp => ?_⟩
  obtain ⟨M, So1, ws, l, rw1, hq⟩ := hsp
  have hl : vs.length = ps.length := by rw [rv.length, hul]
  have KX : K.In s.heap := e0.mod.kin.keeps fun b o e => (e0.bs b o e).1
  have lim : s.heap.NoLimit := e0.mod.nolimit.keeps fun b o e => (e0.bs b o e).1
  have hkind : ∀ y ∈ ps.zip us, (defScope st).names.lookup y.1 = some .local ∨ ((defScope st).names.lookup y.1 = some .cell ∧ ((cellsFrom (s.heap.objs.size + 1) (defScope st).names []).lookup y.1).isSome = true) := fun ⟨n, v⟩ hy => by
    rcases S.par n (List.of_mem_zip hy).1 with q | q
    · exact .inl q
    · exact .inr ⟨q, PySem.W.cellsFrom_some _ _ _ (.inl q)⟩
  refine codeAny_call_function hr.depth (KX _ _ lk) rfl S.co S.gen rfl (PySem.W.codeRec_of KX hcd) (hb _ _ _ _ ?_)
  refine wpAny_newFunctionEnv_cells S.kind hkind fun env he s1 x1 => ?_
  subst he
  refine ⟨lim.keeps x1.toInCall.keep, codeAny_func ?_⟩
  have hr2 := hr.deeper (envOfC x (defScope st) s.heap.objs.size f cdv)
  have ht := hbody cdv A outer s H E ⟨rfl, hr2, hgd, takes_of rfl rfl rfl rfl, passes_of rfl⟩
  have I : Inv (cxOf (L2.CX P w) P w K mg base N x (defScope st) f cdv A outer s H E) [] (start N vs) H s1 := inv_start S hr.hd e0 hl rv x1
  refine wpAny_mono (ht.run [] s1 (start N vs) H { nx := fun _ H' => Q .non H', rt := Q } I ⟨M, So1, _, l, start_ok rw1, ?_⟩) (fun fl s' hs => ?_) fun e s' hs => hs
  · -- the body's answer is the def's
    unfold fDef at hq
    cases e : b (ws.map some ++ List.replicate (N.length - ws.length) none) So1 with
    | rt w1 S1 =>
      rw [e] at hq
      intro M1 H1 v s1 l1 r1
      dsimp only at hq
      unfold fin at hq
      cases e2 : frz So1.length w1 S1 with
      | none => rw [e2] at hq; exact hq.elim
      | some w2 =>
        rw [e2] at hq
        exact hq _ _ _ s1.back (l.back s1 l1) (frz_ok l s1 l1 r1 e2)
    | nx e1 S1 =>
      rw [e] at hq
      intro M1 H1 v s1 l1 r1
      dsimp only at hq
      unfold fin at hq
      have e2 : frz So1.length (.d .none) S1 = some (.d .none) := rfl
      rw [e2] at hq
      exact hq _ _ _ s1.back (l.back s1 l1) rw_none
    | ex c d e1 S1 =>
      rw [e] at hq
      intro M1 H1 σ' cls dx s1 l1 r1 d1
      exact hq _ _ cls dx s1.back (l.back s1 l1) (XR.dles (les_back s1) d1)
    | bk e1 S1 => rw [e] at hq; exact hq.elim
    | ct e1 S1 => rw [e] at hq; exact hq.elim
    | no => rw [e] at hq; exact hq.elim
  · have fin : ∀ {σ' : L2.St} {H' : Hp} {v : V} {u : Value}, Inv (cxOf (L2.CX P w) P w K mg base N x (defScope st) f cdv A outer s H E) [] σ' H' s' → RelV v u → Q v H' → CE outer P w H s Q u s' :=
      fun {σ' H' v u} J rv q => ⟨v, H', J.os, J.bare, J.base, J.hok, rv, q⟩
    cases fl with
    | ret u =>
      obtain ⟨v, σ', H', J, rv, q⟩ := hs
      exact fin J rv q
    | next =>
      obtain ⟨σ', H', J, q⟩ := hs
      exact fin (v := V.non) (u := Value.none) J rfl q
    | brk =>
      obtain ⟨_, _, _, q⟩ := hs
      exact False.elim q
    | cont =>
      obtain ⟨_, _, _, q⟩ := hs
      exact False.elim q
end
/-! a call -/
structure Fd (K : PySem.W.Frag) (mg : Str → Option Value) (x : Str) (ps : List Str) (ds : List Value) (f : Addr) (fd : FuncData) : Prop where
  g : mg x = some (.ref f)
  k : PySem.W.keepIn K (.ref f) = true
  b : Binds K fd ps ds
@[simp] def fCall (k : Nat) (g : List W → So → Res W) (dws : List W) (fa : FA) : FE := fun ev S => (fa ev S).bind fun ws S1 => if (ws ++ dws).length = k then g (ws ++ dws) S1 else .no
section
variable {X : Cx} {XR : XRel X.K} {Wx : WX} {n : Nat} {f : Addr} {fd : FuncData} {ps : List Str} {g : List W → So → Res W} {x : Str} {p pos : Pos} {e : Expr} {es : List Expr} {fa : FA} {ds : List Value} {dvs : List V} {dws : List W}
theorem run_F {pins : List (Addr × Obj)} {σ : L2.St} {H : Hp} {s : Shared} {Q : VK} {us : List Value} {vs : List V} (F : FnF X.prog X.w X.mg X.base XR n f fd ps g) (D : Fd X.K X.mg x ps ds f fd) (C : Ct X Wx n) (I : Inv X pins σ H s) (r : Vals (vs ++ dvs) (us ++ ds)) (hl : (us ++ ds).length = ps.length)
    (h : spF XR g (vs ++ dvs) H Q fun c d H' => Wx c d σ H') : wpAny (model X.prog X.w) X.A (call (.ref f) us) (EP X pins σ Q) X.xe s := by
  refine wpAny_call (codeAny_mono (F.run X.A X.stack s H ⟨us, []⟩ (us ++ ds) (vs ++ dvs) Q _ C.gds C.room I.env0 (D.b s us I.kIn hl) r hl h) fun r s' hq => ?_)
  cases r with
  | error e => exact C.tk e s' (XE.of_call I (fun cls d H' h => h) hq)
  | ok fl =>
    cases fl with
    | ret u => exact I.after hq
    | next => exact False.elim hq
    | brk => exact False.elim hq
    | cont => exact False.elim hq
theorem call_sp {M M1 : Ms} {S1 : So} {σ : L2.St} {H1 : Hp} {Q : VK} {ws : List W} {vs : List V} (hd : ∀ H M, RWs XR H M dws dvs) (l1 : Rl X.K H1 M1 S1) (r1 : RWs XR H1 M1 ws vs)
    (h1 : Pst XR Wx σ M1 H1 (RW XR) (if (ws ++ dws).length = ps.length then g (ws ++ dws) S1 else .no) Q) : (vs ++ dvs).length = ps.length ∧ spF XR g (vs ++ dvs) H1 Q fun c d H' => Wx c d σ H' := by
  split at h1
  · rename_i c
    have r2 : RWs XR H1 M1 (ws ++ dws) (vs ++ dvs) := Paired.app r1 (hd _ _)
    refine ⟨by rw [← Paired.length r2]; exact c, M1, S1, ws ++ dws, l1, r2, ?_⟩
    cases e : g (ws ++ dws) S1 with
    | ok w S' => rw [e] at h1; exact h1
    | ex c f S' => rw [e] at h1; exact h1
    | no => rw [e] at h1; exact h1
  · exact h1.elim
theorem fe_callD (F : FnF X.prog X.w X.mg X.base XR n f fd ps g) (D : Fd X.K X.mg x ps ds f fd) (hv : Vals dvs ds) (hd : ∀ H M, RWs XR H M dws dvs) (C : Ct X Wx n) (hg : Gl X x) (ha : FAx X XR Wx (e :: es) fa)
    (hdb : (x == ("__debug__" : Str)) = false := by decide) (he : starEach (e :: es) X.env = (false, eval e X.env) :: starEach es X.env := by rfl) (hpl : (backTo pos (starEach es X.env)).any (·.1) = false := by rfl) :
    FEx X XR Wx (.Call (.Name x p) (e :: es) [] pos) (fCall ps.length g dws fa) := by
  refine ⟨fun pins s σ H Q I h => ?_⟩
  obtain ⟨M, S, ev, l, rs, h⟩ := h
  refine wpAny_Call_Name_kw (ld_glob I hg D.g ?_ hdb)
  refine PySem.W.callWith_K (h₀ := X.base) I.ok.mod.kin D.k (thn (ha.run pos pins s σ H (fun vs H1 => (vs ++ dvs).length = ps.length ∧ spF XR g (vs ++ dvs) H1 Q fun c d H' => Wx c d σ H') I ⟨M, S, ev, l, rs, Pst.cut h ?_⟩) fun us s1 ⟨vs, H1, I1, r, q1, q2⟩ => ⟨I1.kIn, ?_⟩) he hpl
  · intro ws S1 M1 H1 vs _ s1 l1 r1 h1
    exact call_sp (M := M1) hd l1 r1 h1
  · have r2 : Vals (vs ++ dvs) (us ++ ds) := r.append hv
    exact run_F (us := us) F D C I1 r2 (by rw [← r2.length]; exact q1) q2
theorem fe_call (F : FnF X.prog X.w X.mg X.base XR n f fd ps g) (D : Fd X.K X.mg x ps [] f fd) (C : Ct X Wx n) (hg : Gl X x) (ha : FAx X XR Wx (e :: es) fa)
    (hdb : (x == ("__debug__" : Str)) = false := by decide) (he : starEach (e :: es) X.env = (false, eval e X.env) :: starEach es X.env := by rfl) (hpl : (backTo pos (starEach es X.env)).any (·.1) = false := by rfl) :
    FEx X XR Wx (.Call (.Name x p) (e :: es) [] pos) (fCall ps.length g [] fa) := fe_callD (dvs := []) F D .nil (fun _ _ => .nil) C hg ha hdb he hpl
theorem fe_call0 (F : FnF X.prog X.w X.mg X.base XR n f fd [] g) (D : Fd X.K X.mg x [] [] f fd) (C : Ct X Wx n) (hg : Gl X x) (hdb : (x == ("__debug__" : Str)) = false := by decide) :
    FEx X XR Wx (.Call (.Name x p) [] [] pos) (fCall 0 g [] fNil) := by
  refine ⟨fun pins s σ H Q I h => ?_⟩
  obtain ⟨M, S, ev, l, rs, h⟩ := h
  refine wpAny_Call_Name_kw (ld_glob I hg D.g ?_ hdb)
  have q := call_sp (ps := []) (dws := []) (dvs := []) (g := g) (M := M) (ws := []) (vs := []) (fun _ _ => .nil) l .nil (by unfold fCall fNil at h; exact h)
  exact PySem.W.callWith_K0 I.kIn D.k (run_F (us := []) (vs := []) (dvs := []) F D C I .nil rfl q.2)
/-! an error raised -/
def fRaise (c : Nat) : FS := fun ev S => .ex c .none ev S
theorem fs_raise {xe : Expr} {C : Addr} {c : Nat} (Ctx : Ct X Wx n) (hm : PMk X xe fun _ H Q => Q (.ref C) none H) (hD : ∀ H M, XR.D c .none (.ref C) none H M) : FSx X XR Wx (.Raise (some xe) none pos) (fRaise c) := by
  refine PS.imp (ps_raise Ctx.cal Ctx.tk hm) ?_
  rintro D σ H ⟨M, S, ev, l, rs, h⟩
  exact h M H σ _ _ (.refl _ _) l rs (hD H M)
end
end FL

set_option Elab.async false
set_option linter.all false
set_option maxRecDepth 100000
set_option maxHeartbeats 1000000
namespace FL
open PySem PySem.Spec PyProof.Rows
open L2
/-! what a loop walks -/
def WkD (K : PySem.W.Frag) (J : It) (ds : List PyData) (M : Ms) (H : Hp) : Prop := ∃ (G : Hp → Prop) (Y : Nat → Hp → V → Hp → Prop), Walk J ds.length G Y ∧ (∀ M1 H1, Stp M H M1 H1 → G H1) ∧
  ∀ i x M1 H1 H2 S1, Stp M H M1 H1 → Rl K H1 M1 S1 → i < ds.length → Y i H1 x H2 → ∃ d, ds[i]? = some d ∧ (∀ a o, H1 a = some o → H2 a = some o) ∧ Rl K H2 M1 S1 ∧ Dr K H2 M1 d x
abbrev FI := Ev → So → Res (List PyData)
section
variable {X : Cx} {XR : XRel X.K} {Wx : WX} {n : Nat} {tg iter : Expr}
def rI (XR : XRel X.K) (Wx : WX) (fi : FI) : TI := fun σ H R => ∃ M S ev, Rl X.K H M S ∧ Rs XR H M ev σ ∧ Pst XR Wx σ M H (fun H' M' ds J => WkD X.K J ds M' H') (fi ev S) R
abbrev FIx (X : Cx) (XR : XRel X.K) (Wx : WX) (tg iter : Expr) (fi : FI) : Prop := PI X tg iter (rI XR Wx fi)
theorem PI.imp {t t' : TI} (h : PI X tg iter t) (g : ∀ σ H R, t' σ H R → t σ H R) : PI X tg iter t' := ⟨fun pins s σ H R I q => h.run pins s σ H R I (g _ _ _ q)⟩
theorem stp_same {M : Ms} {H H1 : Hp} (s : ∀ a o, H a = some o → H1 a = some o) : Stp M H M H1 := ⟨List.prefix_refl _, fun _ h => h, fun a o _ e => s a o e, fun _ h n => absurd h n, fun _ h n _ => absurd h n⟩
/-- a list, a tuple, a text -/
def iAny (K : PySem.W.Frag) (tl : TE) : TI := fun σ H R => tl σ H fun x H1 => (∃ a, x = .ref a ∧ (∃ xs, SqL K H1 a xs) ∧ R (Itl K a) H1) ∨ (∃ a, x = .ref a ∧ (∃ xs, SqT K H1 a xs) ∧ R (Itt K a) H1) ∨ ∃ z, x = .str z ∧ R (Its z) H1
theorem pi_any {l : Expr} {tl : TE} (hl : PE X l tl) : PI X tg l (iAny X.K tl) := by
  refine ⟨fun pins s σ H R I h => ?_⟩
  refine thn (hl.run pins s σ H _ I h) fun v s1 ⟨x, H1, I1, r1, q1⟩ => ?_
  rcases q1 with ⟨a, e, ⟨xs, hq⟩, q⟩ | ⟨a, e, ⟨xs, hq⟩, q⟩ | ⟨z, e, q⟩
  · subst e
    cases r1
    obtain ⟨its, rv, p, hz⟩ := I1.list hq
    refine wpAny_pyIter_list p.isList ?_
    refine ⟨s1.heap.objs.size, [s1.heap.objs.size], _, _, H1, rfl, I1.kept (t' := s1.toks) fun b o e => Heap.get?_push_of_some _ e, turn_list a _, ⟨_, Heap.get?_push_size _ rfl, rfl, rfl⟩, fun b hb => ?_, q⟩
    have e : b = s1.heap.objs.size := by simpa using hb
    subst e
    exact I1.fpOk (Nat.le_refl _) (I1.hok.fresh (Nat.le_refl _))
  · subst e
    cases r1
    obtain ⟨its, rv, p, hz⟩ := I1.tuple hq
    refine wpAny_pyIter_tuple (show s1.heap.IsTuple a its.toArray from p) ?_
    refine ⟨s1.heap.objs.size, [s1.heap.objs.size], _, _, H1, rfl, I1.kept (t' := s1.toks) fun b o e => Heap.get?_push_of_some _ e, turn_tuple a _, ⟨_, Heap.get?_push_size _ rfl, rfl, rfl⟩, fun b hb => ?_, q⟩
    have e : b = s1.heap.objs.size := by simpa using hb
    subst e
    exact I1.fpOk (Nat.le_refl _) (I1.hok.fresh (Nat.le_refl _))
  · subst e
    obtain ⟨t, rfl⟩ := r1
    cases ha : z.cps.all (· < 128)
    · exact wpAny_pyIter_wide ha (pi_one (tk := s1.toks) I1 _ (turn_str _ z t "str_iterator" (.inr rfl)) ⟨_, Heap.get?_push_size _ rfl, rfl, rfl⟩ q)
    · exact wpAny_pyIter_ascii ha (pi_one (tk := s1.toks) I1 _ (turn_str _ z t "str_ascii_iterator" (.inl rfl)) ⟨_, Heap.get?_push_size _ rfl, rfl, rfl⟩ q)
/-- the items that a value gives -/
@[simp] def itemsW (w : W) : Option (List PyData) := match w with
  | .d (.list xs) => some xs
  | .d (.tuple xs) => some xs
  | .d (.str z) => some (z.cps.toList.map fun c => .str ⟨#[c]⟩)
  | _ => none
@[simp] def fItems (fa : FE) : FI := fun ev S => (fa ev S).bind fun w S1 => match itemsW w with
  | some ds => .ok ds S1
  | none => .no
theorem wk_list {H : Hp} {M : Ms} {a : Addr} {ds : List PyData} {vs : List V} {K : PySem.W.Frag} (q : FzL H M a vs) (r : DrL K H M ds vs) : WkD K (Itl K a) ds M H := by
  refine ⟨fun H => SqL K H a vs, YAt vs, by rw [← r.len]; exact walk_list, fun M1 H1 s => SqL.of (q.stp s).2, ?_⟩
  rintro i x M1 H1 H2 S1 s l hi ⟨rfl, e⟩
  have hd : ∃ d, ds[i]? = some d := ⟨ds[i], by simp [hi]⟩
  obtain ⟨d, ed⟩ := hd
  obtain ⟨y, e2, h⟩ := (DrL.stp s ds vs r).get ed
  rw [e] at e2
  cases e2
  exact ⟨d, ed, fun _ _ h => h, l, h⟩
theorem wk_tup {H : Hp} {M : Ms} {a : Addr} {ds : List PyData} {vs : List V} {K : PySem.W.Frag} (q : FzT K H M a vs) (r : DrL K H M ds vs) : WkD K (Itt K a) ds M H := by
  refine ⟨fun H => SqT K H a vs, YAt vs, by rw [← r.len]; exact walk_tup, fun M1 H1 s => (q.stp s).sq, ?_⟩
  rintro i x M1 H1 H2 S1 s l hi ⟨rfl, e⟩
  have hd : ∃ d, ds[i]? = some d := ⟨ds[i], by simp [hi]⟩
  obtain ⟨d, ed⟩ := hd
  obtain ⟨y, e2, h⟩ := (DrL.stp s ds vs r).get ed
  rw [e] at e2
  cases e2
  exact ⟨d, ed, fun _ _ h => h, l, h⟩
theorem wk_str {H : Hp} {M : Ms} {z : Str} {K : PySem.W.Frag} : WkD K (Its z) (z.cps.toList.map fun c => .str ⟨#[c]⟩) M H := by
  refine ⟨fun _ => True, _, by rw [List.length_map, Array.length_toList]; exact walk_str, fun _ _ _ => trivial, ?_⟩
  rintro i x M1 H1 H2 S1 s l hi ⟨rfl, c, e, rfl⟩
  refine ⟨.str ⟨#[c]⟩, ?_, fun _ _ h => h, l, by unfold Dr; rfl⟩
  have e2 : z.cps.toList[i]? = some c := by simpa using e
  rw [List.getElem?_map, e2]
  rfl
theorem fi_any {l : Expr} {fa : FE} (hl : FEx X XR Wx l fa) : FIx X XR Wx tg l (fItems fa) := by
  refine PI.imp (pi_any hl) ?_
  rintro σ H R ⟨M, S, ev, l, rs, h⟩
  refine ⟨M, S, ev, l, rs, Pst.cut h ?_⟩
  intro w S1 M1 H1 v e0 s1 l1 r1 h1
  clear e0
  split at h1
  · rename_i ds e
    unfold itemsW at e
    split at e
    · cases e
      have r2 : Dr X.K H1 M1 (.list ds) v := r1
      unfold Dr at r2
      obtain ⟨a, vs, e1, q, hd⟩ := r2
      exact .inl ⟨a, e1, ⟨vs, SqL.of q.2⟩, h1.ok (v := Itl X.K a) l1 (wk_list q hd)⟩
    · cases e
      have r2 : Dr X.K H1 M1 (.tuple ds) v := r1
      unfold Dr at r2
      obtain ⟨a, vs, e1, q, hd⟩ := r2
      exact .inr (.inl ⟨a, e1, ⟨vs, q.sq⟩, h1.ok (v := Itt X.K a) l1 (wk_tup q hd)⟩)
    · rename_i z
      cases e
      have r2 : Dr X.K H1 M1 (.str z) v := r1
      unfold Dr at r2
      exact .inr (.inr ⟨z, r2, h1.ok (v := Its z) l1 wk_str⟩)
    · cases e
  · exact h1.elim
/-- range -/
def rgD (lo : Int) (n : Nat) : List PyData := (List.range n).map fun (i : Nat) => .int (lo + (i : Int))
def fRng1 (fa : FA) : FI := fun ev S => (fa ev S).bind fun ws S1 => match ws with
  | [w] => match asI w with
    | some j => if -(2 ^ 62) ≤ j ∧ j < 2 ^ 62 then .ok (rgD 0 j.toNat) S1 else .no
    | none => .no
  | _ => .no
def fRng2 (fa : FA) : FI := fun ev S => (fa ev S).bind fun ws S1 => match ws with
  | [w, w'] => match asI w, asI w' with
    | some i, some j => if -(2 ^ 62) ≤ i ∧ i < 2 ^ 62 ∧ -(2 ^ 62) ≤ j ∧ j < 2 ^ 62 then .ok (rgD i (j - i).toNat) S1 else .no
    | _, _ => .no
  | _ => .no
theorem wk_rg {H : Hp} {M : Ms} {lo : Int} {n : Nat} {K : PySem.W.Frag} : WkD K (Itr lo n) (rgD lo n) M H := by
  refine ⟨fun _ => True, _, by unfold rgD; rw [List.length_map, List.length_range]; exact walk_range, fun _ _ _ => trivial, ?_⟩
  rintro i x M1 H1 H2 S1 s l hi ⟨rfl, rfl⟩
  refine ⟨.int (lo + (i : Int)), ?_, fun _ _ h => h, l, by unfold Dr; rfl⟩
  unfold rgD at hi ⊢
  rw [List.length_map, List.length_range] at hi
  rw [List.getElem?_map, List.getElem?_range hi]
  rfl
theorem fi_rng1 {a : Expr} {fa : FA} {p pos : Pos} (hg : Gl X "range") (hm : X.mg "range" = none) (ha : FAx X XR Wx [a] fa) (hs : starEach [a] X.env = [(false, eval a X.env)] := by rfl) : FIx X XR Wx tg (.Call (.Name "range" p) [a] [] pos) (fRng1 fa) := by
  refine PI.imp (pi_range1 hg hm ha hs) ?_
  rintro σ H R ⟨M, S, ev, l, rs, h⟩
  refine ⟨M, S, ev, l, rs, Pst.cut h ?_⟩
  intro ws S1 M1 H1 vs _ s1 l1 r1 h1
  split at h1
  · rename_i w
    cases r1 with
    | cons r r2 =>
      cases r2
      split at h1
      · rename_i j e
        split at h1
        · rename_i c
          exact ⟨j, by rw [asI_ok r e], c.1, c.2, h1.ok (v := Itr 0 j.toNat) l1 wk_rg⟩
        · exact h1.elim
      · exact h1.elim
  · exact h1.elim
theorem fi_rng2 {a b : Expr} {fa : FA} {p pos : Pos} (hg : Gl X "range") (hm : X.mg "range" = none) (ha : FAx X XR Wx [a, b] fa) (hs : starEach [a, b] X.env = [(false, eval a X.env), (false, eval b X.env)] := by rfl) (hs2 : starEach [b] X.env = [(false, eval b X.env)] := by rfl) :
    FIx X XR Wx tg (.Call (.Name "range" p) [a, b] [] pos) (fRng2 fa) := by
  refine PI.imp (pi_range2 hg hm ha hs hs2) ?_
  rintro σ H R ⟨M, S, ev, l, rs, h⟩
  refine ⟨M, S, ev, l, rs, Pst.cut h ?_⟩
  intro ws S1 M1 H1 vs _ s1 l1 r1 h1
  split at h1
  · rename_i w w'
    cases r1 with
    | cons r r2 =>
      cases r2 with
      | cons r' r3 =>
        cases r3
        split at h1
        · rename_i i j e e'
          split at h1
          · rename_i c
            exact ⟨i, j, by rw [asI_ok r e, asI_ok r' e'], c, h1.ok (v := Itr i (j - i).toNat) l1 wk_rg⟩
          · exact h1.elim
        · exact h1.elim
  · exact h1.elim
/-! for -/
def forL (g : FG) (b : FS) : List PyData → Ev → So → Out
  | [], ev, S => .nx ev S
  | d :: ds, ev, S => match g (.d d) ev with
    | none => .no
    | some e1 => match b e1 S with
      | .nx e2 S2 => forL g b ds e2 S2
      | .ct e2 S2 => forL g b ds e2 S2
      | .bk e2 S2 => .nx e2 S2
      | r => r
def fFor (fi : FI) (g : FG) (b : FS) : FS := fun ev S => match fi ev S with
  | .ok ds S1 => forL g b ds ev S1
  | .ex c d S1 => .ex c d ev S1
  | .no => .no
theorem fs_for {body : List Stmt} {fi : FI} {sl : List Nat} {g : FG} {fb : FS} {pos : Pos} (C : Ct X Wx n) (hi : FIx X XR Wx tg iter fi) (hg : FGx X XR tg sl g) (hb : FSs X XR Wx body fb)
    (hs : ∀ x, foldedSetIterable iter X.env x = pure x := by intro _; rfl) : FSx X XR Wx (.For tg iter body [] pos) (fFor fi g fb) := by
  refine PS.imp (ps_for C.pp C.cal hi hg hb hs) ?_
  rintro D σ H ⟨M, S, ev, l, rs, h⟩
  refine ⟨M, S, ev, l, rs, ?_⟩
  unfold fFor at h
  cases e : fi ev S with
  | no => rw [e] at h; exact h.elim
  | ex c d S1 =>
    rw [e] at h
    exact fun M1 H1 cls dx s l1 d1 => h M1 H1 σ cls dx s l1 (rs.stp s) d1
  | ok ds S1 =>
    rw [e] at h
    intro M1 H1 J s1 l1 wk
    obtain ⟨G, Y, w, hG, hY⟩ := wk
    refine for_it w (fun i σ' H' => ∃ Mi Si ei, Stp M1 H1 Mi H' ∧ Rl X.K H' Mi Si ∧ Rs XR H' Mi ei σ' ∧ PstS XR Wx Mi H' (forL g fb (ds.drop i) ei Si) D) ⟨M1, S1, ev, .refl _ _, l1, rs.stp s1, PstS.stp s1 h⟩ ?_ ?_ ?_
    · rintro i σ' H' _ ⟨Mi, Si, ei, s, _⟩
      exact hG Mi H' s
    · rintro i x σ' H' H2 hi ⟨Mi, Si, ei, s, li, rsi, hp⟩ y
      obtain ⟨d, ed, sm, l2, dr⟩ := hY i x Mi H' H2 Si s li hi y
      have s2 : Stp Mi H' Mi H2 := stp_same sm
      have e3 : ds.drop i = d :: ds.drop (i + 1) := by
        obtain ⟨hlt, e4⟩ := List.getElem?_eq_some_iff.mp ed
        rw [List.drop_eq_getElem_cons hlt, e4]
      rw [e3] at hp
      unfold forL at hp
      cases e5 : g (.d d) ei with
      | none => rw [e5] at hp; exact hp.elim
      | some e1 =>
        rw [e5] at hp
        dsimp only at hp
        refine ⟨Mi, Si, ei, .d d, l2, rsi.stp s2, dr, e1, e5, fun σ1 rs1 _ => ⟨Mi, Si, e1, l2, rs1, ?_⟩⟩
        have hp2 := PstS.stp s2 hp
        cases e6 : fb e1 Si with
        | nx e2 S2 =>
          rw [e6] at hp2
          exact fun M3 H3 σ3 s3 l3 rs3 => ⟨M3, S2, e2, (s.trans s2).trans s3, l3, rs3, PstS.stp s3 hp2⟩
        | ct e2 S2 =>
          rw [e6] at hp2
          exact fun M3 H3 σ3 s3 l3 rs3 => ⟨M3, S2, e2, (s.trans s2).trans s3, l3, rs3, PstS.stp s3 hp2⟩
        | bk e2 S2 => rw [e6] at hp2; exact hp2
        | rt w S2 => rw [e6] at hp2; exact hp2
        | ex c d e2 S2 => rw [e6] at hp2; exact hp2
        | no => rw [e6] at hp2; exact hp2
    · rintro σ' H' ⟨Mi, Si, ei, s, li, rsi, hp⟩
      rw [List.drop_length] at hp
      exact hp Mi H' σ' (.refl _ _) li rsi
/-! a comprehension -/
section
variable {K : PySem.W.Frag} {H H1 : Hp} {M : Ms}
mutual
theorem Dr.upd (s : ∀ a o, a ∉ M → H a = some o → H1 a = some o) : ∀ (d : PyData) (v : V), Dr K H M d v → Dr K H1 M d v
  | .none, v, h => by unfold Dr at h ⊢; exact h
  | .bool b, v, h => by unfold Dr at h ⊢; exact h
  | .int i, v, h => by unfold Dr at h ⊢; exact h
  | .str x, v, h => by unfold Dr at h ⊢; exact h
  | .list ds, v, h => by
    unfold Dr at h ⊢
    obtain ⟨a, xs, e, q, r⟩ := h
    exact ⟨a, xs, e, ⟨q.1, s _ _ q.1 q.2⟩, DrL.upd s ds xs r⟩
  | .tuple ds, v, h => by
    unfold Dr at h ⊢
    obtain ⟨a, xs, e, q, r⟩ := h
    refine ⟨a, xs, e, ?_, DrL.upd s ds xs r⟩
    rcases q with ⟨q1, o, q2, q3⟩ | q
    · exact .inl ⟨q1, o, q2, s _ _ q1 q3⟩
    · exact .inr q
  | .dict kvs, v, h => by
    unfold Dr at h ⊢
    obtain ⟨e, a, e2, n, q⟩ := h
    exact ⟨e, a, e2, n, s _ _ n q⟩
theorem DrL.upd (s : ∀ a o, a ∉ M → H a = some o → H1 a = some o) : ∀ (ds : List PyData) (xs : List V), DrL K H M ds xs → DrL K H1 M ds xs
  | [], xs, h => by unfold DrL at h ⊢; exact h
  | d :: ds, xs, h => by
    unfold DrL at h ⊢
    obtain ⟨x, r, e, h1, h2⟩ := h
    exact ⟨x, r, e, Dr.upd s d x h1, DrL.upd s ds r h2⟩
end
theorem KD.upd {κ : Type} (s : ∀ a o, a ∉ M → H a = some o → H1 a = some o) {kvs : List (κ × PyData)} {vs : List (κ × V)} (h : Paired (KD (K := K) H M) kvs vs) : Paired (KD (K := K) H1 M) kvs vs :=
  Paired.imp (fun p q z => ⟨z.1, Dr.upd s _ _ z.2⟩) h
theorem RO.upd (s : ∀ a o, a ∉ M → H a = some o → H1 a = some o) : ∀ {o : Ob} {h : HO}, RO K H M o h → RO K H1 M o h
  | .l xs, h, ⟨vs, e, q⟩ => ⟨vs, e, DrL.upd s xs vs q⟩
  | .k kvs, h, ⟨vs, e, q⟩ => ⟨vs, e, KD.upd s q⟩
  | .t kvs, h, ⟨vs, e, q⟩ => ⟨vs, e, KD.upd s q⟩
end
@[simp] def wipeE (ev : Ev) : List Nat → Ev
  | [] => ev
  | v :: vs => (wipeE ev vs).set v none
theorem wipe_rs {H : Hp} {M : Ms} {ev : Ev} {σ : L2.St} (rs : Rs XR H M ev σ) : ∀ vs : List Nat, Rs XR H M (wipeE ev vs) (wipe σ vs)
  | [] => rs
  | v :: vs => Paired.setB (fun _ e => by cases e) v (wipe_rs rs vs)
theorem wipe_wipe {σ : L2.St} : ∀ {us vs : List Nat}, (∀ i ∈ us, i ∈ vs) → wipe (wipe σ us) vs = wipe σ vs
  | [], _, _ => rfl
  | u :: us, vs, h => by
    show wipe ((wipe σ us).set u none) vs = _
    rw [wipe_set, if_pos (h u List.mem_cons_self)]
    exact wipe_wipe fun i hi => h i (List.mem_cons_of_mem _ hi)
@[simp] def lcL (g : FG) (t : FT) (te : FE) (ev0 : Ev) : List PyData → So → List PyData → Res (List PyData)
  | [], S, acc => .ok acc S
  | d :: ds, S, acc => match g (.d d) ev0 with
    | none => .no
    | some e1 => match t e1 S with
      | .ok true S1 => match te e1 S1 with
        | .ok (.d y) S2 => if S2.length = S.length ∧ acc.length < sizeLine then lcL g t te ev0 ds S2 (acc ++ [y]) else .no
        | _ => .no
      | .ok false S1 => if S1.length = S.length then lcL g t te ev0 ds S1 acc else .no
      | _ => .no
@[simp] def fLc (fi : FI) (g : FG) (t : FT) (te : FE) (vs : List Nat) : FE := fun ev S => (fi ev S).bind fun ds S1 => (lcL g t te (wipeE ev vs) ds S1 []).bind fun ys S2 => .ok (.d (.list ys)) S2
/-- no exception leaves a comprehension's step -/
abbrev Wn : WX := fun _ _ _ _ => False
@[simp] abbrev fYes : FT := fun _ S => .ok true S
theorem lcL_nx {g : FG} {t : FT} {te : FE} {ev0 : Ev} : ∀ {ds : List PyData} {S : So} {acc : List PyData} {c : Nat} {f : PyData} {S' : So}, lcL g t te ev0 ds S acc ≠ .ex c f S'
  | [], _, _, _, _, _ => fun e => by cases e
  | d :: ds, S, acc, c, f, S' => fun e => by
    unfold lcL at e
    split at e
    · cases e
    · split at e
      · split at e
        · split at e
          · exact lcL_nx e
          · cases e
        · cases e
      · split at e
        · exact lcL_nx e
        · cases e
      · cases e
theorem Ct.blk (C : Ct X Wx n) {s : Shared} {H : Hp} {scope : Scope} {cenv : Env} {fp : List Addr} : Ct (X.blk s H scope cenv fp) Wn n := ⟨C.cal, C.room, C.gds, takes0, PassesOwn.never⟩
abbrev Blk (X : Cx) (scope : Scope) (s : Shared) (H : Hp) (C : Addr) (cl : List (Str × Addr)) (fp : List Addr) : Cx := X.blk s H scope (compEnvC scope cl C X.env) fp
theorem lc_ok {sl : List Nat} {fi : FI} {g : FG} {t : FT} {tt : TT} {te : FE} {vs : List Nat} (hsl : ∀ i, i ∈ sl → i ∈ vs) (htt : ∀ σ H Q, rT XR Wn t σ H Q → tt σ H Q) {σ : L2.St} {H : Hp} {Q : VK} (h : rE XR Wx (fLc fi g t te vs) σ H Q) :
    tLc (rI XR Wx fi) (rG (X := X) XR sl g) tt (rE XR Wn te) vs σ H Q := by
  obtain ⟨M, S, ev, l, rs, h⟩ := h
  refine ⟨M, S, ev, l, rs, Pst.cut h ?_⟩
  intro ds S1 M1 H1 J _ s1 l1 wk h1 D nD
  obtain ⟨G, Y, w, hG, hY⟩ := wk
  have rs1 := rs.stp s1
  have sD : Stp M1 H1 (M1.res D) (upd H1 D (.lst [])) := stp_res nD
  have lD : Rl X.K (upd H1 D (.lst [])) (M1.res D) S1 := l1.res nD
  refine lc_it w (fun i H' => ∃ Mi Si acc ys, Stp M1 H1 Mi H' ∧ D ∈ Mi.x ∧ Rl X.K H' Mi Si ∧ Si.length = S1.length ∧ H' D = some (.lst ys) ∧ DrL X.K H' Mi acc ys ∧
      Pst XR Wx σ M1 H1 (RW XR) ((lcL g t te (wipeE ev vs) (ds.drop i) Si acc).bind fun ys S2 => .ok (.d (.list ys)) S2) Q) ⟨M1.res D, S1, [], [], sD, List.mem_cons_self, lD, rfl, upd_same, .nil, h1⟩ ?_ ?_ ?_
  · rintro i H' _ ⟨Mi, Si, acc, ys, s, _⟩
    exact hG Mi H' s
  · rintro i x H' H2 hi ⟨Mi, Si, acc, ys, s, Dx, li, ln, hD, hacc, hp⟩ y
    obtain ⟨d, ed, sm, l2, dr⟩ := hY i x Mi H' H2 Si s li hi y
    have s2 : Stp Mi H' Mi H2 := stp_same sm
    have hD2 : H2 D = some (.lst ys) := sm D _ hD
    have e3 : ds.drop i = d :: ds.drop (i + 1) := by
      obtain ⟨hlt, e4⟩ := List.getElem?_eq_some_iff.mp ed
      rw [List.drop_eq_getElem_cons hlt, e4]
    rw [e3] at hp
    unfold lcL at hp
    have Dm : D ∉ Mi.m := (li.ex D Dx).1
    have rsi : Rs XR H2 Mi (wipeE ev vs) (wipe σ vs) := wipe_rs ((rs1.stp s).stp s2) vs
    cases e5 : g (.d d) (wipeE ev vs) with
    | none => rw [e5] at hp; exact hp.elim
    | some e1 =>
      rw [e5] at hp
      dsimp only at hp
      refine ⟨Mi, Si, wipeE ev vs, .d d, l2, rsi, dr, e1, e5, fun σ1 rs1' w1 => ⟨by rw [w1 vs hsl]; exact wipe_wipe fun i h => h, htt _ _ _ ⟨Mi, Si, e1, l2, rs1', ?_⟩⟩⟩
      -- what holds behind a turn
      have nxt : ∀ {M4 : Ms} {H4 : Hp} {S4 : So} {acc4 : List PyData} {ys4 : List V}, Stp M1 H1 M4 H4 → D ∈ M4.x → Rl X.K H4 M4 S4 → S4.length = Si.length → H4 D = some (.lst ys4) → DrL X.K H4 M4 acc4 ys4 →
          Pst XR Wx σ M1 H1 (RW XR) ((lcL g t te (wipeE ev vs) (ds.drop (i + 1)) S4 acc4).bind fun ys S2 => .ok (.d (.list ys)) S2) Q →
          ∃ Mi Si acc ys, Stp M1 H1 Mi H4 ∧ D ∈ Mi.x ∧ Rl X.K H4 Mi Si ∧ Si.length = S1.length ∧ H4 D = some (.lst ys) ∧ DrL X.K H4 Mi acc ys ∧
            Pst XR Wx σ M1 H1 (RW XR) ((lcL g t te (wipeE ev vs) (ds.drop (i + 1)) Si acc).bind fun ys S2 => .ok (.d (.list ys)) S2) Q :=
        fun s4 x4 l4 n4 h4 r4 p4 => ⟨_, _, _, _, s4, x4, l4, by rw [n4, ln], h4, r4, p4⟩
      cases e6 : t e1 Si with
      | no => rw [e6] at hp; exact hp.elim
      | ex c f S' => rw [e6] at hp; exact hp.elim
      | ok b S3 =>
        rw [e6] at hp
        rintro M3 H3 b' s3 l3 r3
        have r3' : b = b' := r3
        subst r3'
        have hD3 : H3 D = some (.lst ys) := s3.keep D _ Dm hD2
        cases b with
        | false =>
          rw [if_neg Bool.false_ne_true]
          dsimp only at hp
          split at hp
          · rename_i c
            exact nxt ((s.trans s2).trans s3) (s3.sub D Dx) l3 c hD3 (DrL.stp (s2.trans s3) acc ys hacc) hp
          · exact hp.elim
        | true =>
          rw [if_pos rfl]
          dsimp only at hp
          refine ⟨M3, S3, e1, l3, rs1'.stp s3, ?_⟩
          cases e7 : te e1 S3 with
          | no => rw [e7] at hp; exact hp.elim
          | ex c f S' => rw [e7] at hp; exact hp.elim
          | ok u S4 =>
            rw [e7] at hp
            cases u with
            | r _ => exact hp.elim
            | k _ => exact hp.elim
            | x _ _ => exact hp.elim
            | s _ => exact hp.elim
            | p _ => exact hp.elim
            | d y =>
              dsimp only at hp
              split at hp
              · rename_i c
                intro M4 H4 v s4 l4 r4
                have Dx3 : D ∈ M3.x := s3.sub D Dx
                have hD4 : H4 D = some (.lst ys) := s4.keep D _ (l3.ex D Dx3).1 hD3
                have Dx4 : D ∈ M4.x := s4.sub D Dx3
                have Dm4 : D ∉ M4.m := (l4.ex D Dx4).1
                have hacc4 : DrL X.K H4 M4 acc ys := DrL.stp ((s2.trans s3).trans s4) acc ys hacc
                refine ⟨ys, hD4, by rw [hacc.len]; exact c.2, ?_⟩
                -- the list grows at D, of which no datum speaks
                have up : ∀ a o, a ∉ M4 → H4 a = some o → upd H4 D (.lst (ys ++ [v])) a = some o := fun a o n e => by
                  rw [upd_ne]
                  · exact e
                  · intro z
                    subst z
                    exact n (Or.inr Dx4)
                have drU : ∀ {d : PyData} {z : V}, Dr X.K H4 M4 d z → Dr X.K (upd H4 D (.lst (ys ++ [v]))) M4 d z := fun {d z} h => Dr.upd up d z h
                have drLU : ∀ {d : List PyData} {z : List V}, DrL X.K H4 M4 d z → DrL X.K (upd H4 D (.lst (ys ++ [v]))) M4 d z := fun {d z} h => DrL.upd up d z h
                have lU : Rl X.K (upd H4 D (.lst (ys ++ [v]))) M4 S4 := by
                  refine ⟨l4.nd, Paired.mapI l4.ob fun j a o e ⟨u, h1, h2⟩ => ⟨u, ?_, RO.upd up h2⟩, fun a m => ⟨(l4.ex a m).1, upd_some (l4.ex a m).2⟩⟩
                  rw [upd_ne]
                  · exact h1
                  · intro z
                    subst z
                    exact Dm4 (List.mem_iff_getElem?.mpr ⟨j, e⟩)
                have sU : Stp M1 H1 M4 (upd H4 D (.lst (ys ++ [v]))) := by
                  have s5 := ((s.trans s2).trans s3).trans s4
                  refine ⟨s5.pre, s5.sub, fun a o n e => ?_, s5.new, s5.newx⟩
                  rw [upd_ne (ne_of_none e nD)]
                  exact s5.keep a o n e
                exact nxt sU Dx4 lU c.1 upd_same (DrL.append (drLU hacc4) (.cons (drU r4) .nil)) hp
              · exact hp.elim
  · rintro H' ⟨Mi, Si, acc, ys, s, Dx, li, ln, hD, hacc, hp⟩
    rw [List.drop_length] at hp
    -- the list is set free
    have hs2 : ∀ b, b ∈ (⟨Mi.m, Mi.x.filter (· ≠ D)⟩ : Ms) → b ∈ Mi := fun b h => by
      rcases h with h | h
      · exact Or.inl h
      · exact Or.inr (List.mem_filter.mp h).1
    refine hp ⟨Mi.m, Mi.x.filter (· ≠ D)⟩ H' (.ref D) ⟨s.pre, fun a h => List.mem_filter.mpr ⟨s.sub a h, ?_⟩, s.keep, s.new, fun a h n n2 => s.newx a (List.mem_filter.mp h).1 n n2⟩ ?_ ?_
    · have ne : a ≠ D := fun z => by
        subst z
        exact l1.notin nD (Or.inr h)
      simpa using ne
    · exact ⟨li.nd, Paired.imp (fun a o ⟨u, e, r⟩ => ⟨u, e, RO.les hs2 r⟩) li.ob, fun a m => li.ex a (List.mem_filter.mp m).1⟩
    · show Dr X.K H' _ (.list acc) (.ref D)
      unfold Dr
      refine ⟨D, ys, rfl, ⟨fun z => ?_, hD⟩, DrL.les hs2 acc ys hacc⟩
      rcases z with z | z
      · exact (li.ex D Dx).1 z
      · have := (List.mem_filter.mp z).2
        simp at this
theorem fe_lc {elt : Expr} {ifs : List Expr} {scope : Scope} {own : List (Str × Nat)} {sl : List Nat} {pos : Pos} {fi : FI} {g : FG} {t : FT} {tt : TT} {te : FE} (C : Ct X Wx n) (hN : X.N.Nodup) (hi : FIx X XR Wx tg iter fi) (ok : BlkOk X.N X.env.scope scope own)
    (hg : ∀ (s : Shared) (H : Hp) (D : Addr) (cl : List (Str × Addr)) (fp : List Addr), FGx (Blk X scope s H D cl fp) XR tg sl g) (hsl : ∀ i, i ∈ sl → i ∈ own.map (·.2))
    (ht : ∀ (s : Shared) (H : Hp) (D : Addr) (cl : List (Str × Addr)) (fp : List Addr), PTs (Blk X scope s H D cl fp) ifs tt) (htt : ∀ σ H Q, rT XR Wn t σ H Q → tt σ H Q)
    (he : ∀ (s : Shared) (H : Hp) (D : Addr) (cl : List (Str × Addr)) (fp : List Addr), FEx (Blk X scope s H D cl fp) XR Wn elt te) (hs : ∀ x, foldedSetIterable iter X.env x = pure x := by intro _; rfl) :
    FEx X XR Wx (.ListComp elt [⟨tg, iter, ifs, 0⟩] scope pos) (fLc fi g t te (own.map (·.2))) :=
  PE.imp (pe_lc (g := rG (X := X) XR sl g) (te := rE XR Wn te) C.cal hN hi ok hg ht he hs) fun _ _ _ => lc_ok hsl htt
/-- name = [..], on one line -/
theorem fs_setLc {i : Nat} {y : Str} {py : Pos} {elt : Expr} {ifs : List Expr} {scope : Scope} {own : List (Str × Nat)} {sl : List Nat} {pos spos : Pos} {fi : FI} {g : FG} {t : FT} {tt : TT} {te : FE} (C : Ct X Wx n) (hN : X.N.Nodup) (hy : X.N[i]? = some y) (hyl : X.env.scope.names.lookup y = some .local)
    (hsw : swapsWith (.ListComp elt [⟨tg, iter, ifs, 0⟩] scope pos) (some (.Name y py)) spos.line X.env = pure true) (hi : FIx X XR Wx tg iter fi) (ok : BlkOk X.N X.env.scope scope own)
    (hg : ∀ (s : Shared) (H : Hp) (D : Addr) (cl : List (Str × Addr)) (fp : List Addr), FGx (Blk X scope s H D cl fp) XR tg sl g) (hsl : ∀ i, i ∈ sl → i ∈ own.map (·.2))
    (ht : ∀ (s : Shared) (H : Hp) (D : Addr) (cl : List (Str × Addr)) (fp : List Addr), PTs (Blk X scope s H D cl fp) ifs tt) (htt : ∀ σ H Q, rT XR Wn t σ H Q → tt σ H Q)
    (he : ∀ (s : Shared) (H : Hp) (D : Addr) (cl : List (Str × Addr)) (fp : List Addr), FEx (Blk X scope s H D cl fp) XR Wn elt te) (hs : ∀ x, foldedSetIterable iter X.env x = pure x := by intro _; rfl) :
    FSx X XR Wx (.Assign [.Name y py] (.ListComp elt [⟨tg, iter, ifs, 0⟩] scope pos) spos) (fSet i (fLc fi g t te (own.map (·.2)))) := by
  refine PS.imp (ps_setLc (g := rG (X := X) XR sl g) (te := rE XR Wn te) C.cal hN hy hyl hsw hi ok hg ht he hs) ?_
  rintro D σ H ⟨M, S, ev, l, rs, h⟩
  refine lc_ok (Wx := Wx) hsl htt (toOut_ok l rs h ?_)
  intro w S1 M1 H1 v s1 l1 rs1 r1 h1
  exact h1 M1 H1 _ (.refl _ _) l1 (rs1.set r1)
end
end FL

set_option Elab.async false
set_option linter.all false
set_option maxRecDepth 100000
set_option maxHeartbeats 1000000
namespace FL
open PySem PySem.Spec PyProof.Rows
open L2
/-! a subscript -/
@[simp] def oIxL : W → W → So → Res W := fun x y S => match asL x S, asI y with
  | some ds, some i => match atI ds i with
    | some d => .ok (.d d) S
    | none => .no
  | _, _ => .no
@[simp] def oIxT : W → W → So → Res W := fun x y S => match asT x, asI y with
  | some ds, some i => match atI ds i with
    | some d => .ok (.d d) S
    | none => .no
  | _, _ => .no
@[simp] def oIxS : W → W → So → Res W := fun x y S => match asS x, asI y with
  | some z, some i => if z.length ≤ sizeLine then match atI z.cps.toList i with
    | some c => .ok (.d (.str ⟨#[c]⟩)) S
    | none => .no else .no
  | _, _ => .no
@[simp] def asN : W → Option (List Int)
  | .s ns => some ns
  | _ => none
@[simp] def oIxN : W → W → So → Res W := fun x y S => match asN x, asI y with
  | some ns, some i => match atI ns i with
    | some k => .ok (.d (.int k)) S
    | none => .no
  | _, _ => .no
@[simp] def oIxK : W → W → So → Res W := fun x y S => match asD x S with
  | some dd => match look dd y with
    | some (some d) => .ok (.d d) S
    | _ => .no
  | none => .no
@[simp] def oIx : W → W → So → Res W := oOr oIxT (oOr oIxL (oOr oIxK (oOr oIxS oIxN)))
theorem nx_IxL : NX2 oIxL := by
  intro x y S c f S' e
  unfold oIxL at e
  split at e
  · split at e <;> cases e
  · cases e
theorem nx_IxT : NX2 oIxT := by
  intro x y S c f S' e
  unfold oIxT at e
  split at e
  · split at e <;> cases e
  · cases e
theorem nx_IxS : NX2 oIxS := by
  intro x y S c f S' e
  unfold oIxS at e
  split at e
  · split at e
    · split at e <;> cases e
    · cases e
  · cases e
theorem nx_IxN : NX2 oIxN := by
  intro x y S c f S' e
  unfold oIxN at e
  split at e
  · split at e <;> cases e
  · cases e
theorem nx_IxK : NX2 oIxK := by
  intro x y S c f S' e
  unfold oIxK at e
  split at e
  · split at e <;> cases e
  · cases e
theorem atI_map {α β : Type} (f : α → β) (xs : List α) (i : Int) : atI (xs.map f) i = (atI xs i).map f := by
  unfold atI
  rw [List.length_map]
  cases ixN xs.length i with
  | none => rfl
  | some j => simp
section
variable {X : Cx} {XR : XRel X.K} {Wx : WX} {n : Nat} {pos : Pos}
theorem DrL.atI {H : Hp} {M : Ms} {ds : List PyData} {vs : List V} {i : Int} {d : PyData} (r : DrL X.K H M ds vs) (e : L2.atI ds i = some d) : ∃ v, L2.atI vs i = some v ∧ Dr X.K H M d v := by
  unfold L2.atI at e ⊢
  rw [r.len]
  cases e1 : ixN ds.length i with
  | none => rw [e1] at e; cases e
  | some j =>
    rw [e1] at e
    obtain ⟨v, e2, h⟩ := r.get (i := j) (by simpa using e)
    exact ⟨v, by simpa using e2, h⟩
def rIxD : R2 := fun x y H Q => ∃ a v, x = .ref a ∧ DGet H a y (some v) ∧ Q v H
theorem ix_dict (hu : X.A.units + 200 < cLine) : IxR X rIxD := by
  intro value slice pins s σ H x y v u Q I rx ry h hs
  obtain ⟨a, z, rfl, g, q⟩ := h
  cases (show v = Value.ref a from rx)
  have hT := dict_typeIs I g
  unfold subscriptTail
  refine wpAny_bind ?_
  rw [getitemInPython_of_ne hT.not_modules]
  refine wpAny_bind (wpAny_specialOf hT PySem.F.slot_dict_getitem.lookup ?_)
  have fin : wpAny (model X.prog X.w) X.A (subscripted slice false (.ref a) u) (fun r s₃ => wpAny (model X.prog X.w) X.A (letTemporaryGo value (.ref a) r >>= fun _ => pure r) (EP X pins σ Q) X.xe s₃) X.xe s := by
    rw [hs]
    exact wpAny_operating (wpAny_mono (d_getItem (by omega) I g ry fun w' s3 I3 rw' => (show EP X pins σ Q w' s3 from ⟨z, H, I3, rw', q⟩)) (fun r s₃ h₃ => wpAny_bind (wpAny_letTemporaryGo (wpAny_pure h₃))) fun _ _ x => x)
  first
    | exact wpAny_pure (wpAny_bind fin)
    | exact wpAny_bind (wpAny_pure (wpAny_bind fin))
    | exact wpAny_bind fin
theorem op2_IxL : Op2 XR oIxL (rIxL X.K) := by
  intro H M S S' x y w vx vy Q l rx ry e q
  unfold oIxL at e
  split at e
  · rename_i ds i e1 e2
    split at e
    · rename_i d e3
      cases e
      obtain ⟨p, vs, h1, h2, h3⟩ := asL_ok l rx e1
      obtain ⟨v, e4, h4⟩ := h3.atI e3
      exact ⟨p, vs, i, v, h1, asI_ok ry e2, SqL.of h2, e4, imm_d l q h4⟩
    · cases e
  · cases e
theorem op2_IxT : Op2 XR oIxT (rIxT X.K) := by
  intro H M S S' x y w vx vy Q l rx ry e q
  unfold oIxT at e
  split at e
  · rename_i ds i e1 e2
    split at e
    · rename_i d e3
      cases e
      obtain ⟨p, vs, h1, h2, h3⟩ := asT_ok rx e1
      obtain ⟨v, e4, h4⟩ := h3.atI e3
      exact ⟨p, vs, i, v, h1, asI_ok ry e2, h2.sq, e4, imm_d l q h4⟩
    · cases e
  · cases e
theorem op2_IxS : Op2 XR oIxS rIxS := by
  intro H M S S' x y w vx vy Q l rx ry e q
  unfold oIxS at e
  split at e
  · rename_i z i e1 e2
    split at e
    · rename_i hz
      split at e
      · rename_i c e3
        cases e
        exact ⟨z, i, c, asS_ok rx e1, asI_ok ry e2, hz, e3, imm_s l q⟩
      · cases e
    · cases e
  · cases e
theorem op2_IxN : Op2 XR oIxN (rIxL X.K) := by
  intro H M S S' x y w vx vy Q l rx ry e q
  unfold oIxN at e
  split at e
  · rename_i ns i e1 e2
    split at e
    · rename_i k e3
      cases e
      unfold asN at e1
      split at e1
      · cases e1
        obtain ⟨a, h1, h2⟩ := rx
        exact ⟨a, ns.map V.int, i, .int k, h1, asI_ok ry e2, h2.sq, by rw [atI_map, e3]; rfl, imm_i l q⟩
      · cases e1
    · cases e
  · cases e
theorem op2_IxK : Op2 XR oIxK rIxD := by
  intro H M S S' x y w vx vy Q l rx ry e q
  unfold oIxK at e
  split at e
  · rename_i dd e1
    split at e
    · rename_i d e2
      cases e
      obtain ⟨a, h1, h2⟩ := asD_ok l rx ry e1 e2
      rcases h2 with ⟨h2, _⟩ | ⟨d', u, h2, h3, h4⟩
      · cases h2
      · cases h2
        exact ⟨a, u, h1, h3, imm_d l q h4⟩
    · cases e
  · cases e
theorem fe_ix {a b : Expr} {fa fb : FE} (C : Ct X Wx n) (ha : FEx X XR Wx a fa) (hb : FEx X XR Wx b fb) (hs : PlainIx b) : FEx X XR Wx (.Subscript a b pos) (f2 oIx fa fb) := by
  refine PE.imp (pe_ix (ix_tup.or (ix_list.or ((ix_dict C.un).or (ix_str.or ix_list)))) ha hb hs) fun _ _ _ => r2_ok (op2_or op2_IxT (op2_or op2_IxL (op2_or op2_IxK (op2_or op2_IxS op2_IxN)))) ?_
  exact oOr_nx nx_IxT (oOr_nx nx_IxL (oOr_nx nx_IxK (oOr_nx nx_IxS nx_IxN)))
/-! slices -/
abbrev FO := Ev → So → Res (Option Int)
def rO (XR : XRel X.K) (Wx : WX) (f : FO) : TO := fun σ H Q => ∃ M S ev, Rl X.K H M S ∧ Rs XR H M ev σ ∧ Pst XR Wx σ M H (fun _ _ a b => a = b) (f ev S) Q
abbrev FOx (X : Cx) (XR : XRel X.K) (Wx : WX) (e : Option Expr) (f : FO) : Prop := PO X e (rO XR Wx f)
@[simp] def fNoP : FO := fun _ S => .ok none S
@[simp] def fP (fa : FE) : FO := fun ev S => (fa ev S).bind fun w S1 => match asI w with
  | some i => .ok (some i) S1
  | none => .no
theorem PO.imp {e : Option Expr} {t t' : TO} (h : PO X e t) (g : ∀ σ H Q, t' σ H Q → t σ H Q) : PO X e t' := ⟨fun pins s σ H Q I q => h.run pins s σ H Q I (g _ _ _ q)⟩
theorem fo_none : FOx X XR Wx none fNoP := by
  refine PO.imp po_none ?_
  rintro σ H Q ⟨M, S, ev, l, rs, h⟩
  exact Pst.ok (v := none) h l rfl
theorem fo_some {e : Expr} {fa : FE} (he : FEx X XR Wx e fa) : FOx X XR Wx (some e) (fP fa) := by
  refine PO.imp (po_some he) ?_
  rintro σ H Q ⟨M, S, ev, l, rs, h⟩
  refine ⟨M, S, ev, l, rs, Pst.cut h ?_⟩
  intro w S1 M1 H1 v _ s1 l1 r1 h1
  split at h1
  · rename_i i e
    exact ⟨i, asI_ok r1 e, Pst.ok (v := some i) h1 l1 rfl⟩
  · exact h1.elim
def cutP (xs : List PyData) (lo hi : Option Int) : List PyData := (xs.drop (HT.sIx xs.length 0 lo)).take (HT.sIx xs.length xs.length hi - HT.sIx xs.length 0 lo)
@[simp] def oSl (w : W) (lo hi : Option Int) (S : So) : Res W := match asT w with
  | some ds => if HT.sIx ds.length 0 lo = 0 ∧ HT.sIx ds.length ds.length hi = ds.length then .no else .ok (.d (.tuple (cutP ds lo hi))) S
  | none => match asL w S with
    | some ds => .ok (.d (.list (cutP ds lo hi))) S
    | none => match asS w with
      | some z => if z.length ≤ sizeLine then .ok (.d (.str (cutS z lo hi))) S else .no
      | none => .no
@[simp] def fSl (fa : FE) (fl fh : FO) : FE := fun ev S => (fa ev S).bind fun w S1 => (fl ev S1).bind fun lo S2 => (fh ev S2).bind fun hi S3 => oSl w lo hi S3
theorem cut_ok {H : Hp} {M : Ms} {ds : List PyData} {vs : List V} {lo hi : Option Int} (r : DrL X.K H M ds vs) : DrL X.K H M (cutP ds lo hi) (cutV vs lo hi) := by
  unfold cutP cutV
  rw [r.len]
  exact (r.drop _).take _
theorem fe_sl {a : Expr} {lo hi : Option Expr} {fa : FE} {fl fh : FO} {p2 : Pos} (ha : FEx X XR Wx a fa) (hl : FOx X XR Wx lo fl) (hh : FOx X XR Wx hi fh) : FEx X XR Wx (.Subscript a (.Slice lo hi none p2) pos) (fSl fa fl fh) := by
  refine PE.imp (pe_slice (sl_tupP.or (sl_list.or sl_str)) ha hl hh) ?_
  rintro σ H Q ⟨M, S, ev, l, rs, h⟩
  refine ⟨M, S, ev, l, rs, Pst.cut h ?_⟩
  intro w S1 M1 H1 v _ s1 l1 r1 h1
  refine ⟨M1, S1, ev, l1, rs.stp s1, Pst.cut h1 ?_⟩
  rintro lo S2 M2 H2 lo' _ s2 l2 r2 h2
  subst r2
  refine ⟨M2, S2, ev, l2, (rs.stp s1).stp s2, Pst.cut h2 ?_⟩
  rintro hi S3 M3 H3 hi' _ s3 l3 r3 h3
  subst r3
  have r4 := (r1.stp s2).stp s3
  unfold oSl at h3
  split at h3
  · rename_i ds e1
    split at h3
    · exact h3.elim
    · rename_i c
      obtain ⟨p, vs, h4, h5, h6⟩ := asT_ok r4 e1
      exact .inl ⟨p, vs, h4, h5.sq, by rw [h6.len]; exact c, new_t l3 h3 (cut_ok h6)⟩
  · split at h3
    · rename_i ds e1
      obtain ⟨p, vs, h4, h5, h6⟩ := asL_ok l3 r4 e1
      exact .inr (.inl ⟨p, vs, h4, SqL.of h5, fun p np => new_l l3 h3 np (cut_ok h6)⟩)
    · split at h3
      · rename_i z e1
        split at h3
        · rename_i hz
          exact .inr (.inr ⟨z, asS_ok r4 e1, hz, imm_s l3 h3⟩)
        · exact h3.elim
      · exact h3.elim
/-! built-ins by name -/
@[simp] def fB1 (op : List W → So → Res W) (fa : FA) : FE := fun ev S => (fa ev S).bind fun ws S1 => op ws S1
def OpN {K : PySem.W.Frag} (XR : XRel K) (op : List W → So → Res W) (r : List V → Hp → VK → Prop) : Prop := ∀ (H : Hp) (M : Ms) (S S' : So) (xs : List W) (w : W) (vs : List V) (Q : VK), Rl K H M S → RWs XR H M xs vs → op xs S = .ok w S' → Nxt XR M H w S' Q → r vs H Q
def NXN (op : List W → So → Res W) : Prop := ∀ xs S c f S', op xs S ≠ .ex c f S'
theorem rN_ok {op : List W → So → Res W} {r : List V → Hp → VK → Prop} {fa : FA} (ho : OpN XR op r) (nx : NXN op) {σ : L2.St} {H : Hp} {Q : VK} (h : rE XR Wx (fB1 op fa) σ H Q) : tCB r (rA XR Wx fa) σ H Q := by
  obtain ⟨M, S, ev, l, rs, h⟩ := h
  refine ⟨M, S, ev, l, rs, Pst.cut h ?_⟩
  intro ws S1 M1 H1 vs _ s1 l1 r1 h1
  cases e : op ws S1 with
  | ok w S' =>
    rw [e] at h1
    exact ho H1 M1 S1 S' ws w vs Q l1 r1 e h1
  | ex c f S' => exact absurd e (nx _ _ _ _ _)
  | no => rw [e] at h1; exact h1.elim
theorem fe_bi {id : String} {r : List V → Hp → VK → Prop} {op : List W → So → Res W} {x : Str} {e : Expr} {es : List Expr} {p : Pos} {fa : FA} (hc : CallR X (.builtin id) r) (ho : OpN XR op r) (nx : NXN op) (hg : Gl X x) (hm : X.mg x = none) (hv : bootBuiltins x = some (.builtin id)) (ha : FAx X XR Wx (e :: es) fa)
    (hn : x ≠ "__name__" := by decide) (hdb : (x == ("__debug__" : Str)) = false := by decide) (he : starEach (e :: es) X.env = (false, eval e X.env) :: starEach es X.env := by rfl) (hpl : (backTo pos (starEach es X.env)).any (·.1) = false := by rfl) :
    FEx X XR Wx (.Call (.Name x p) (e :: es) [] pos) (fB1 op fa) := PE.imp (pe_callB hc hg hm hv ha hn hdb he hpl) fun _ _ _ => rN_ok ho nx
theorem fe_ty {T : String} {r : List V → Hp → VK → Prop} {op : List W → So → Res W} {x : Str} {e : Expr} {es : List Expr} {p : Pos} {fa : FA} (hc : CallR X (.type T) r) (ho : OpN XR op r) (nx : NXN op) (hg : Gl X x) (hm : X.mg x = none) (hv : bootBuiltins x = some (.type T)) (ha : FAx X XR Wx (e :: es) fa)
    (hn : x ≠ "__name__" := by decide) (hdb : (x == ("__debug__" : Str)) = false := by decide) (he : starEach (e :: es) X.env = (false, eval e X.env) :: starEach es X.env := by rfl) (hpl : (backTo pos (starEach es X.env)).any (·.1) = false := by rfl) :
    FEx X XR Wx (.Call (.Name x p) (e :: es) [] pos) (fB1 op fa) := PE.imp (pe_callTy hc hg hm hv ha hn hdb he hpl) fun _ _ _ => rN_ok ho nx
@[simp] def o1 (f : W → So → Res W) : List W → So → Res W := fun ws S => match ws with
  | [w] => f w S
  | _ => .no
def lenW (w : W) (S : So) : Res W := match w with
  | .d (.str z) => if z.length ≤ sizeLine then .ok (.d (.int z.length)) S else .no
  | .s ns => .ok (.d (.int ns.length)) S
  | w => match seqW w S with
    | some ds => .ok (.d (.int ds.length)) S
    | none => match asD w S with
      | some dd => .ok (.d (.int dd.length)) S
      | none => .no
def oLen : List W → So → Res W := o1 lenW
theorem nx_o1 {f : W → So → Res W} (h : NX1 f) : NXN (o1 f) := by
  intro xs S c v S' e
  unfold o1 at e
  split at e
  · exact h _ _ _ _ _ e
  · cases e
theorem nx_len : NX1 lenW := by
  intro x S c f S' e
  unfold lenW at e
  split at e
  · split at e <;> cases e
  · cases e
  · split at e
    · cases e
    · split at e <;> cases e
def rLen (K : PySem.W.Frag) : List V → Hp → VK → Prop := fun xs H Q => (∃ x n, xs = [x] ∧ LenV K x H n ∧ Q (.int n) H) ∨ ∃ a kvs, xs = [V.ref a] ∧ H a = some (.dK kvs) ∧ Q (.int kvs.length) H
theorem opn_len : OpN XR oLen (rLen X.K) := by
  intro H M S S' xs w vs Q l rx e q
  unfold oLen o1 at e
  split at e
  · rename_i x
    cases rx with
    | cons r rr =>
      cases rr
      unfold lenW at e
      split at e
      · rename_i z
        split at e
        · rename_i hz
          cases e
          have r' : Dr X.K H M (.str z) _ := r
          unfold Dr at r'
          subst r'
          exact .inl ⟨_, z.length, rfl, ⟨hz, rfl⟩, imm_i l q⟩
        · cases e
      · rename_i ns
        cases e
        obtain ⟨a, h1, h2⟩ := r
        subst h1
        exact .inl ⟨_, ns.length, rfl, .inl ⟨ns.map V.int, h2.sq, by rw [List.length_map]⟩, imm_i l q⟩
      · split at e
        · rename_i ds e1
          cases e
          obtain ⟨a, us, h1, h2, h3⟩ := seqW_ok l r e1
          subst h1
          refine .inl ⟨_, ds.length, rfl, ?_, imm_i l q⟩
          rcases h2 with h2 | h2
          · exact .inr ⟨us, h2, h3.len.symm⟩
          · exact .inl ⟨us, h2, h3.len.symm⟩
        · split at e
          · rename_i dd e1
            cases e
            obtain ⟨a, us, h1, h2, h3⟩ := asD_at l r e1
            subst h1
            refine .inr ⟨a, us, rfl, h2, ?_⟩
            have e2 : us.length = dd.length := (Paired.length h3).symm
            rw [e2]
            exact imm_i l q
          · cases e
  · cases e
theorem fe_len {e : Expr} {fa : FA} {p : Pos} (hm : X.mg "len" = none) (hg : Gl X "len") (ha : FAx X XR Wx [e] fa) (he : starEach [e] X.env = (false, eval e X.env) :: starEach [] X.env := by rfl) : FEx X XR Wx (.Call (.Name "len" p) [e] [] pos) (fB1 oLen fa) :=
  fe_bi (call_len.or call_lenD) opn_len (nx_o1 nx_len) hg hm PySem.boot_len ha (by decide) (by decide) he
end
end FL

set_option Elab.async false
set_option linter.all false
set_option maxRecDepth 100000
set_option maxHeartbeats 1000000
namespace FL
open PySem PySem.Spec PyProof.Rows
open L2
/-! isinstance of built-in types -/
def tyW (w : W) (S : So) : Option String := match w with
  | .d .none => some "NoneType"
  | .d (.bool _) => some "bool"
  | .d (.int _) => some "int"
  | .d (.str _) => some "str"
  | .d (.list _) => some "list"
  | .d (.tuple _) => some "tuple"
  | .d (.dict []) => some "dict"
  | .k _ => some "dict"
  | .s _ => some "list"
  | .r n => match S[n]? with
    | some (.l _) => some "list"
    | some (.k _) => some "dict"
    | some (.t _) => some "dict"
    | none => none
  | _ => none
theorem bIsi : bootBuiltins "isinstance" = some (.builtin "isinstance") := by decide +kernel
section
variable {X : Cx} {XR : XRel X.K} {Wx : WX} {n : Nat} {pos p : Pos} {e o : Expr} {es : List Expr} {fa fo fe fi : FE} {fr : FA} {H : Hp} {M : Ms} {S : So}
theorem tyW_ok (l : Rl X.K H M S) {w : W} {v : V} {t : String} (r : RW XR H M w v) (e : tyW w S = some t) : TyX X.K H v (.type t) := by
  have hd : ∀ {d : PyData}, w = .d d → Dr X.K H M d v := fun e => by
    subst e
    exact r
  unfold tyW at e
  split at e
  · cases e
    have z := hd rfl
    unfold Dr at z
    subst z
    exact .base .non
  · cases e
    have z := hd rfl
    unfold Dr at z
    subst z
    exact .base (.bl _)
  · cases e
    have z := hd rfl
    unfold Dr at z
    subst z
    exact .base (.int _)
  · cases e
    have z := hd rfl
    unfold Dr at z
    subst z
    exact .base (.str _)
  · cases e
    have z := hd rfl
    unfold Dr at z
    obtain ⟨a, xs, e1, q, h⟩ := z
    subst e1
    exact .base (.lst q.2)
  · cases e
    have z := hd rfl
    unfold Dr at z
    obtain ⟨a, xs, e1, q, h⟩ := z
    subst e1
    rcases q with ⟨_, o, _, q⟩ | ⟨o, its, n, q1, q2, _⟩
    · exact .fTuple q
    · exact .kTuple q1 q2
  · cases e
    have z := hd rfl
    unfold Dr at z
    obtain ⟨_, a, e1, q, h⟩ := z
    subst e1
    exact .base (.dK h)
  · cases e
    obtain ⟨a, vs, e1, q, h, _⟩ := r
    subst e1
    exact .base (.dK h)
  · cases e
    obtain ⟨a, e1, h⟩ := r
    subst e1
    rcases h with ⟨_, o, h⟩ | ⟨o, its, n, h1, h2, _⟩
    · exact .base (.frz h)
    · exact .kList h1 h2
  · obtain ⟨a, e1, e2⟩ := r
    subst e2
    split at e
    · rename_i xs e3
      cases e
      obtain ⟨u, h1, vs, rfl, h2⟩ := l.get e1 e3
      exact .base (.lst h1)
    · rename_i xs e3
      cases e
      obtain ⟨u, h1, vs, rfl, h2⟩ := l.get e1 e3
      exact .base (.dK h1)
    · rename_i xs e3
      cases e
      obtain ⟨u, h1, vs, rfl, h2⟩ := l.get e1 e3
      exact .base (.dT h1)
    · cases e
  · cases e
def fIsi (t : String) (fa : FE) : FE := fun ev S => (fa ev S).bind fun w S1 => match tyW w S1 with
  | some a => match kitB a t with
    | some b => .ok (.d (.bool b)) S1
    | none => .no
  | none => .no
theorem fe_isi {T : String} {tn : Str} {p2 : Pos} (hm : X.mg "isinstance" = none) (hg : Gl X "isinstance") (ha : FEx X XR Wx e fa) (hm2 : X.mg tn = none) (hg2 : Gl X tn) (hb : bootBuiltins tn = some (.type T)) (hn2 : tn ≠ "__name__" := by decide) (hd2 : (tn == ("__debug__" : Str)) = false := by decide)
    (hs1 : starEach [e, .Name tn p2] X.env = (false, eval e X.env) :: starEach [.Name tn p2] X.env := by rfl) : FEx X XR Wx (.Call (.Name "isinstance" p) [e, .Name tn p2] [] pos) (fIsi T fa) := by
  refine PE.imp (pe_callB call_isi hg hm bIsi (pa_cons ha (pa_cons (pe_bltn hg2 hm2 hb (v := .ty T) rfl hn2 hd2) pa_nil) hs1) (by decide) (by decide) hs1 rfl) ?_
  rintro σ H Q ⟨M, S, ev, l, rs, h⟩
  refine ⟨M, S, ev, l, rs, Pst.cut h ?_⟩
  intro w S1 M1 H1 v _ s1 l1 r1 h1
  split at h1
  · rename_i a e1
    split at h1
    · rename_i b e2
      exact ⟨v, .ty T, .type a, .type T, b, rfl, .ty T, tyW_ok l1 r1 e1, kit_ty e2, imm_b l1 h1⟩
    · exact h1.elim
  · exact h1.elim
/-! int, tuple, list, all, any, sum, max, min -/
@[simp] def intW (w : W) (S : So) : Res W := match w with
  | .d (.int i) => .ok (.d (.int i)) S
  | .d (.bool b) => .ok (.d (.int (if b then 1 else 0))) S
  | _ => .no
theorem nx_int : NX1 intW := by
  intro x S c f S' e
  unfold intW at e
  split at e <;> cases e
theorem opn_int : OpN XR (o1 intW) (fun xs H Q => (∃ i, xs = [.int i] ∧ Q (.int i) H) ∨ ∃ k, xs = [.bl k] ∧ Q (.int (if k then 1 else 0)) H) := by
  intro H M S S' xs w vs Q l rx e q
  unfold o1 at e
  split at e
  · rename_i x
    cases rx with
    | cons r rr =>
      cases rr
      unfold intW at e
      split at e
      · rename_i i
        cases e
        have r' : Dr X.K H M (.int i) _ := r
        unfold Dr at r'
        subst r'
        exact .inl ⟨i, rfl, imm_i l q⟩
      · rename_i b
        cases e
        have r' : Dr X.K H M (.bool b) _ := r
        unfold Dr at r'
        subst r'
        exact .inr ⟨b, rfl, imm_i l q⟩
      · cases e
  · cases e
theorem bInt : bootBuiltins "int" = some (.type "int") := by decide +kernel
theorem bTuple : bootBuiltins "tuple" = some (.type "tuple") := by decide +kernel
theorem bList : bootBuiltins "list" = some (.type "list") := by decide +kernel
theorem bAll : bootBuiltins "all" = some (.builtin "all") := by decide +kernel
theorem bAny : bootBuiltins "any" = some (.builtin "any") := by decide +kernel
theorem bSum : bootBuiltins "sum" = some (.builtin "sum") := by decide +kernel
theorem bMax : bootBuiltins "max" = some (.builtin "max") := by decide +kernel
theorem bMin : bootBuiltins "min" = some (.builtin "min") := by decide +kernel
theorem fe_toInt (hm : X.mg "int" = none) (hg : Gl X "int") (ha : FAx X XR Wx [e] fr) (he : starEach [e] X.env = (false, eval e X.env) :: starEach [] X.env := by rfl) : FEx X XR Wx (.Call (.Name "int" p) [e] [] pos) (fB1 (o1 intW) fr) :=
  fe_ty call_int1 opn_int (nx_o1 nx_int) hg hm bInt ha (by decide) (by decide) he
def tupW (w : W) (S : So) : Res W := match asT w with
  | some ds => .ok (.d (.tuple ds)) S
  | none => match asL w S with
    | some ds => .ok (.d (.tuple ds)) S
    | none => .no
theorem nx_tup : NX1 tupW := by
  intro x S c f S' e
  unfold tupW at e
  split at e
  · cases e
  · split at e <;> cases e
theorem opn_tup : OpN XR (o1 tupW) (fun xs H Q => ∃ p ys, xs = [.ref p] ∧ ((SqL X.K H p ys ∧ NewT H ys Q) ∨ (SqT X.K H p ys ∧ Q (.ref p) H))) := by
  intro H M S S' xs w vs Q l rx e q
  unfold o1 at e
  split at e
  · rename_i x
    cases rx with
    | cons r rr =>
      cases rr
      unfold tupW at e
      split at e
      · rename_i ds e1
        cases e
        obtain ⟨a, us, h1, h2, h3⟩ := asT_ok r e1
        subst h1
        refine ⟨a, us, rfl, .inr ⟨h2.sq, imm_d l q ?_⟩⟩
        unfold Dr
        exact ⟨a, us, rfl, h2, h3⟩
      · split at e
        · rename_i ds e1
          cases e
          obtain ⟨a, us, h1, h2, h3⟩ := asL_ok l r e1
          subst h1
          exact ⟨a, us, rfl, .inl ⟨SqL.of h2, new_t l q h3⟩⟩
        · cases e
  · cases e
theorem fe_toTup (hm : X.mg "tuple" = none) (hg : Gl X "tuple") (ha : FAx X XR Wx [e] fr) (he : starEach [e] X.env = (false, eval e X.env) :: starEach [] X.env := by rfl) : FEx X XR Wx (.Call (.Name "tuple" p) [e] [] pos) (fB1 (o1 tupW) fr) :=
  fe_ty call_tupleP opn_tup (nx_o1 nx_tup) hg hm bTuple ha (by decide) (by decide) he
def lstW (w : W) (S : So) : Res W := match seqW w S with
  | some ds => .ok (.d (.list ds)) S
  | none => .no
def lstM (w : W) (S : So) : Res W := match seqW w S with
  | some ds => .ok (.r S.length) (S ++ [.l ds])
  | none => .no
theorem nx_lst : NX1 lstW := by
  intro x S c f S' e
  unfold lstW at e
  split at e <;> cases e
theorem nx_lstM : NX1 lstM := by
  intro x S c f S' e
  unfold lstM at e
  split at e <;> cases e
def rListOf (K : PySem.W.Frag) : List V → Hp → VK → Prop := fun xs H Q => ∃ p ys, xs = [.ref p] ∧ (SqL K H p ys ∨ SqT K H p ys) ∧ ∀ l, H l = none → Q (.ref l) (upd H l (.lst ys))
theorem opn_lst : OpN XR (o1 lstW) (rListOf X.K) := by
  intro H M S S' xs w vs Q l rx e q
  unfold o1 at e
  split at e
  · rename_i x
    cases rx with
    | cons r rr =>
      cases rr
      unfold lstW at e
      split at e
      · rename_i ds e1
        cases e
        obtain ⟨a, us, h1, h2, h3⟩ := seqW_ok l r e1
        subst h1
        exact ⟨a, us, rfl, h2.symm, fun p np => new_l l q np h3⟩
      · cases e
  · cases e
theorem opn_lstM : OpN XR (o1 lstM) (rListOf X.K) := by
  intro H M S S' xs w vs Q l rx e q
  unfold o1 at e
  split at e
  · rename_i x
    cases rx with
    | cons r rr =>
      cases rr
      unfold lstM at e
      split at e
      · rename_i ds e1
        cases e
        obtain ⟨a, us, h1, h2, h3⟩ := seqW_ok l r e1
        subst h1
        exact ⟨a, us, rfl, h2.symm, fun p np => new_m l q np h3⟩
      · cases e
  · cases e
theorem fe_toLst (hm : X.mg "list" = none) (hg : Gl X "list") (ha : FAx X XR Wx [e] fr) (he : starEach [e] X.env = (false, eval e X.env) :: starEach [] X.env := by rfl) : FEx X XR Wx (.Call (.Name "list" p) [e] [] pos) (fB1 (o1 lstW) fr) :=
  fe_ty call_list_of opn_lst (nx_o1 nx_lst) hg hm bList ha (by decide) (by decide) he
/-- a copy that may change -/
theorem fe_toMut (hm : X.mg "list" = none) (hg : Gl X "list") (ha : FAx X XR Wx [e] fr) (he : starEach [e] X.env = (false, eval e X.env) :: starEach [] X.env := by rfl) : FEx X XR Wx (.Call (.Name "list" p) [e] [] pos) (fB1 (o1 lstM) fr) :=
  fe_ty call_list_of opn_lstM (nx_o1 nx_lstM) hg hm bList ha (by decide) (by decide) he
def bools : List PyData → Option (List Bool)
  | [] => some []
  | .bool b :: r => (bools r).map (b :: ·)
  | _ :: _ => none
theorem bools_ok : ∀ {ds : List PyData} {bs : List Bool} {vs : List V}, DrL X.K H M ds vs → bools ds = some bs → vs = bs.map V.bl
  | [], bs, vs, h, e => by
    unfold DrL at h
    subst h
    cases e
    rfl
  | d :: ds, bs, vs, h, e => by
    obtain ⟨x, r, e1, h1, h2⟩ := h.cases
    subst e1
    cases d with
    | bool b =>
      unfold Dr at h1
      subst h1
      cases e2 : bools ds with
      | none => simp [bools, e2] at e
      | some cs =>
        have e3 : b :: cs = bs := by simpa [bools, e2] using e
        subst e3
        rw [bools_ok h2 e2]
        rfl
    | none | int _ | str _ | list _ | tuple _ | dict _ => cases e
def allW (w : W) (S : So) : Res W := match asL w S with
  | some ds => match bools ds with
    | some bs => .ok (.d (.bool (bs.all id))) S
    | none => .no
  | none => .no
def anyW (w : W) (S : So) : Res W := match asL w S with
  | some ds => match bools ds with
    | some bs => .ok (.d (.bool (bs.any id))) S
    | none => .no
  | none => .no
theorem nx_all : NX1 allW := by
  intro x S c f S' e
  unfold allW at e
  split at e
  · split at e <;> cases e
  · cases e
theorem nx_any : NX1 anyW := by
  intro x S c f S' e
  unfold anyW at e
  split at e
  · split at e <;> cases e
  · cases e
theorem opn_all : OpN XR (o1 allW) (rAll X.K) := by
  intro H M S S' xs w vs Q l rx e q
  unfold o1 at e
  split at e
  · rename_i x
    cases rx with
    | cons r rr =>
      cases rr
      unfold allW at e
      split at e
      · rename_i ds e1
        split at e
        · rename_i bs e2
          cases e
          obtain ⟨a, us, h1, h2, h3⟩ := asL_ok l r e1
          subst h1
          exact ⟨a, bs, rfl, SqL.of (by rw [h2, bools_ok h3 e2]), imm_b l q⟩
        · cases e
      · cases e
  · cases e
theorem opn_any : OpN XR (o1 anyW) (rAny X.K) := by
  intro H M S S' xs w vs Q l rx e q
  unfold o1 at e
  split at e
  · rename_i x
    cases rx with
    | cons r rr =>
      cases rr
      unfold anyW at e
      split at e
      · rename_i ds e1
        split at e
        · rename_i bs e2
          cases e
          obtain ⟨a, us, h1, h2, h3⟩ := asL_ok l r e1
          subst h1
          exact ⟨a, bs, rfl, SqL.of (by rw [h2, bools_ok h3 e2]), imm_b l q⟩
        · cases e
      · cases e
  · cases e
theorem fe_all (C : Ct X Wx n) (hm : X.mg "all" = none) (hg : Gl X "all") (ha : FAx X XR Wx [e] fr) (he : starEach [e] X.env = (false, eval e X.env) :: starEach [] X.env := by rfl) : FEx X XR Wx (.Call (.Name "all" p) [e] [] pos) (fB1 (o1 allW) fr) :=
  fe_bi (cr_all C.cal) opn_all (nx_o1 nx_all) hg hm bAll ha (by decide) (by decide) he
theorem fe_any (C : Ct X Wx n) (hm : X.mg "any" = none) (hg : Gl X "any") (ha : FAx X XR Wx [e] fr) (he : starEach [e] X.env = (false, eval e X.env) :: starEach [] X.env := by rfl) : FEx X XR Wx (.Call (.Name "any" p) [e] [] pos) (fB1 (o1 anyW) fr) :=
  fe_bi (cr_any C.cal) opn_any (nx_o1 nx_any) hg hm bAny ha (by decide) (by decide) he
def intsP : List PyData → Option (List Int)
  | [] => some []
  | .int b :: r => (intsP r).map (b :: ·)
  | _ :: _ => none
theorem ints_ok : ∀ {ds : List PyData} {bs : List Int} {vs : List V}, DrL X.K H M ds vs → intsP ds = some bs → vs = bs.map V.int
  | [], bs, vs, h, e => by
    unfold DrL at h
    subst h
    cases e
    rfl
  | d :: ds, bs, vs, h, e => by
    obtain ⟨x, r, e1, h1, h2⟩ := h.cases
    subst e1
    cases d with
    | int b =>
      unfold Dr at h1
      subst h1
      cases e2 : intsP ds with
      | none => simp [intsP, e2] at e
      | some cs =>
        have e3 : b :: cs = bs := by simpa [intsP, e2] using e
        subst e3
        rw [ints_ok h2 e2]
        rfl
    | none | bool _ | str _ | list _ | tuple _ | dict _ => cases e
@[simp] def sumW (w : W) (S : So) : Res W := match asL w S with
  | some ds => match intsP ds with
    | some bs => .ok (.d (.int bs.sum)) S
    | none => .no
  | none => .no
theorem nx_sum : NX1 sumW := by
  intro x S c f S' e
  unfold sumW at e
  split at e
  · split at e <;> cases e
  · cases e
theorem opn_sum : OpN XR (o1 sumW) (rSum X.K) := by
  intro H M S S' xs w vs Q l rx e q
  unfold o1 at e
  split at e
  · rename_i x
    cases rx with
    | cons r rr =>
      cases rr
      unfold sumW at e
      split at e
      · rename_i ds e1
        split at e
        · rename_i bs e2
          cases e
          obtain ⟨a, us, h1, h2, h3⟩ := asL_ok l r e1
          subst h1
          exact ⟨a, bs, rfl, SqL.of (by rw [h2, ints_ok h3 e2]), imm_i l q⟩
        · cases e
      · cases e
  · cases e
theorem fe_sum (C : Ct X Wx n) (hm : X.mg "sum" = none) (hg : Gl X "sum") (ha : FAx X XR Wx [e] fr) (he : starEach [e] X.env = (false, eval e X.env) :: starEach [] X.env := by rfl) : FEx X XR Wx (.Call (.Name "sum" p) [e] [] pos) (fB1 (o1 sumW) fr) :=
  fe_bi (cr_sum C.cal) opn_sum (nx_o1 nx_sum) hg hm bSum ha (by decide) (by decide) he
def o2I (g : Int → Int → Int) : List W → So → Res W := fun ws S => match ws with
  | [x, y] => match asI x, asI y with
    | some i, some j => .ok (.d (.int (g i j))) S
    | _, _ => .no
  | _ => .no
theorem nx_o2I {g} : NXN (o2I g) := by
  intro xs S c f S' e
  unfold o2I at e
  split at e
  · split at e <;> cases e
  · cases e
theorem opn_2I {g : Int → Int → Int} : OpN XR (o2I g) (fun xs H Q => ∃ i j, xs = [.int i, .int j] ∧ Q (.int (g i j)) H) := by
  intro H M S S' xs w vs Q l rx e q
  unfold o2I at e
  split at e
  · rename_i x y
    cases rx with
    | cons r rr =>
      cases rr with
      | cons r' rr =>
        cases rr
        split at e
        · rename_i i j e1 e2
          cases e
          exact ⟨i, j, by rw [asI_ok r e1, asI_ok r' e2], imm_i l q⟩
        · cases e
  · cases e
theorem fe_max2 {e2 : Expr} (C : Ct X Wx n) (hm : X.mg "max" = none) (hg : Gl X "max") (ha : FAx X XR Wx [e, e2] fr) (he : starEach [e, e2] X.env = (false, eval e X.env) :: starEach [e2] X.env := by rfl) (hpl : (backTo pos (starEach [e2] X.env)).any (·.1) = false := by rfl) :
    FEx X XR Wx (.Call (.Name "max" p) [e, e2] [] pos) (fB1 (o2I fun i j => if j > i then j else i) fr) := fe_bi (call_max2 C.cal) opn_2I nx_o2I hg hm bMax ha (by decide) (by decide) he hpl
theorem fe_min2 {e2 : Expr} (C : Ct X Wx n) (hm : X.mg "min" = none) (hg : Gl X "min") (ha : FAx X XR Wx [e, e2] fr) (he : starEach [e, e2] X.env = (false, eval e X.env) :: starEach [e2] X.env := by rfl) (hpl : (backTo pos (starEach [e2] X.env)).any (·.1) = false := by rfl) :
    FEx X XR Wx (.Call (.Name "min" p) [e, e2] [] pos) (fB1 (o2I fun i j => if j < i then j else i) fr) := fe_bi (call_min2 C.cal) opn_2I nx_o2I hg hm bMin ha (by decide) (by decide) he hpl
/-! methods of lists -/
def fM (op : W → List W → So → Res W) (fo : FE) (fa : FA) : FE := fun ev S => (fo ev S).bind fun x S1 => match asL x S1 with
  | some _ => (fa ev S1).bind fun ws S2 => op x ws S2
  | none => .no
def OpM {K : PySem.W.Frag} (XR : XRel K) (op : W → List W → So → Res W) (r : V → List V → Hp → VK → Prop) : Prop := ∀ (H : Hp) (M : Ms) (S S' : So) (x : W) (xs : List W) (w : W) (vx : V) (vs : List V) (Q : VK),
  Rl K H M S → RW XR H M x vx → RWs XR H M xs vs → op x xs S = .ok w S' → Nxt XR M H w S' Q → r vx vs H Q
def NXM (op : W → List W → So → Res W) : Prop := ∀ x xs S c f S', op x xs S ≠ .ex c f S'
theorem mls {w : W} {v : V} {xs : List PyData} (l : Rl X.K H M S) (r : RW XR H M w v) (e : asL w S = some xs) : tyV X.K "list" v H := by
  obtain ⟨a, us, h1, h2, h3⟩ := asL_ok l r e
  subst h1
  exact .inl ⟨rfl, us, SqL.of h2⟩
theorem rM_ok {op : W → List W → So → Res W} {r : V → List V → Hp → VK → Prop} (ho : OpM XR op r) (nx : NXM op) {σ : L2.St} {H : Hp} {Q : VK} (h : rE XR Wx (fM op fo fr) σ H Q) : tBM X.K "list" r (rE XR Wx fo) (rA XR Wx fr) σ H Q := by
  obtain ⟨M, S, ev, l, rs, h⟩ := h
  refine ⟨M, S, ev, l, rs, Pst.cut h ?_⟩
  intro x S1 M1 H1 vx _ s1 l1 r1 h1
  split at h1
  · rename_i ds e1
    refine ⟨mls l1 r1 e1, M1, S1, ev, l1, rs.stp s1, Pst.cut h1 ?_⟩
    intro ws S2 M2 H2 vs _ s2 l2 r2 h2
    cases e2 : op x ws S2 with
    | ok w S' =>
      rw [e2] at h2
      exact ho H2 M2 S2 S' x ws w vx vs Q l2 (r1.stp s2) r2 e2 h2
    | ex c f S' => exact absurd e2 (nx _ _ _ _ _ _)
    | no => rw [e2] at h2; exact h2.elim
  · exact h1.elim
/-- one of what may change gets other items -/
theorem set_r {k : Nat} {a : Addr} {ys : List PyData} {us : List V} {w : W} {v : V} {Q : VK} (l : Rl X.K H M S) (e1 : M.m[k]? = some a) (h : DrL X.K H M ys us) (q : Nxt XR M H w (S.set k (.l ys)) Q) (r : ∀ H', Stp M H M H' → RW XR H' M w v) : Q v (upd H a (.lst us)) := by
  have s : Stp M H M (upd H a (.lst us)) := stp_set (List.mem_iff_getElem?.mpr ⟨k, e1⟩)
  exact q M _ v s (l.set e1 ⟨us, rfl, DrL.stp s _ _ h⟩) (r _ s)
theorem fe_m {op : W → List W → So → Res W} {r : V → List V → Hp → VK → Prop} (ho : OpM XR op r) (nx : NXM op) (h : PE X e (tBM X.K "list" r (rE XR Wx fo) (rA XR Wx fr))) : FEx X XR Wx e (fM op fo fr) := PE.imp h fun _ _ _ => rM_ok ho nx
def oAppend : W → List W → So → Res W := fun x ws S => match x, ws with
  | .r k, [.d y] => match S[k]? with
    | some (.l xs) => if xs.length < sizeLine then .ok (.d .none) (S.set k (.l (xs ++ [y]))) else .no
    | _ => .no
  | _, _ => .no
theorem nx_append : NXM oAppend := by
  intro x xs S c f S' e
  unfold oAppend at e
  split at e
  · split at e
    · split at e <;> cases e
    · cases e
  · cases e
theorem opm_append : OpM XR oAppend rAppend := by
  intro H M S S' x xs w vx vs Q l rx rxs e q
  unfold oAppend at e
  split at e
  · rename_i k y
    obtain ⟨a, e1, e2⟩ := rx
    split at e
    · rename_i ys e3
      split at e
      · rename_i c
        cases e
        obtain ⟨u, h1, us, rfl, h2⟩ := l.get e1 e3
        cases rxs with
        | cons r rr =>
          cases rr
          refine ⟨a, us, _, e2, rfl, h1, by rw [h2.len]; exact c, ?_⟩
          exact set_r l e1 (h2.append (.cons r .nil)) q fun H' s => by show Dr X.K H' M .none .non; unfold Dr; rfl
      · cases e
    · cases e
  · cases e
def oExtend : W → List W → So → Res W := fun x ws S => match x, ws with
  | .r k, [w] => match S[k]?, asL w S with
    | some (.l xs), some zs => if xs.length + zs.length ≤ sizeLine then .ok (.d .none) (S.set k (.l (xs ++ zs))) else .no
    | _, _ => .no
  | _, _ => .no
theorem nx_extend : NXM oExtend := by
  intro x xs S c f S' e
  unfold oExtend at e
  split at e
  · split at e
    · split at e <;> cases e
    · cases e
  · cases e
theorem opm_extend : OpM XR oExtend rExtend := by
  intro H M S S' x xs w vx vs Q l rx rxs e q
  unfold oExtend at e
  split at e
  · rename_i k y
    obtain ⟨a, e1, e2⟩ := rx
    split at e
    · rename_i ys zs e3 e4
      split at e
      · rename_i c
        cases e
        obtain ⟨u, h1, us, rfl, h2⟩ := l.get e1 e3
        cases rxs with
        | cons r rr =>
          cases rr
          obtain ⟨b, ts, g1, g2, g3⟩ := asL_ok l r e4
          subst g1
          refine ⟨a, b, us, ts, e2, rfl, h1, g2, by rw [h2.len, g3.len]; exact c, ?_⟩
          exact set_r l e1 (h2.append g3) q fun H' s => by show Dr X.K H' M .none .non; unfold Dr; rfl
      · cases e
    · cases e
  · cases e
def oPop : W → So → Res W := fun x S => match x with
  | .r k => match S[k]? with
    | some (.l xs) => match xs[xs.length - 1]? with
      | some y => .ok (.d y) (S.set k (.l xs.dropLast))
      | none => .no
    | _ => .no
  | _ => .no
theorem nx_pop : NX1 oPop := by
  intro x S c f S' e
  unfold oPop at e
  split at e
  · split at e
    · split at e <;> cases e
    · cases e
  · cases e
theorem fe_pop {apos : Pos} (ho : FEx X XR Wx o fo) (h : PE X (.Call (.Attribute o "pop" apos) [] [] pos) (tBM0 X.K "list" rPop (rE XR Wx fo))) : FEx X XR Wx (.Call (.Attribute o "pop" apos) [] [] pos) (f1 oPop fo) := by
  refine PE.imp h ?_
  rintro σ H Q ⟨M, S, ev, l, rs, h⟩
  refine ⟨M, S, ev, l, rs, Pst.cut h ?_⟩
  intro x S1 M1 H1 vx _ s1 l1 r1 h1
  unfold oPop at h1
  split at h1
  · rename_i k
    split at h1
    · rename_i xs e1
      split at h1
      · rename_i y e2
        obtain ⟨a, e3, e4⟩ := r1
        obtain ⟨u, g1, us, rfl, g2⟩ := l1.get e3 e1
        subst e4
        refine ⟨.inl ⟨rfl, us, SqL.of g1⟩, ?_⟩
        obtain ⟨v, e5, g3⟩ := g2.get e2
        refine ⟨a, us, v, rfl, rfl, g1, by rw [g2.len]; exact e5, ?_⟩
        exact set_r l1 e3 g2.dropLast h1 fun H' s => Dr.stp s y v g3
      · exact h1.elim
    · exact h1.elim
  · exact h1.elim
def oPopAt : W → List W → So → Res W := fun x ws S => match x, ws with
  | .r k, [w] => match S[k]?, asI w with
    | some (.l xs), some i => if -(2 ^ 63) ≤ i ∧ i < 2 ^ 63 then match seqIndex? i xs.length with
      | some j => match xs[j]? with
        | some y => .ok (.d y) (S.set k (.l (xs.eraseIdx j)))
        | none => .no
      | none => .no else .no
    | _, _ => .no
  | _, _ => .no
theorem nx_popAt : NXM oPopAt := by
  intro x xs S c f S' e
  unfold oPopAt at e
  split at e
  · split at e
    · split at e
      · split at e
        · split at e <;> cases e
        · cases e
      · cases e
    · cases e
  · cases e
theorem opm_popAt : OpM XR oPopAt rPopAt := by
  intro H M S S' x xs w vx vs Q l rx rxs e q
  unfold oPopAt at e
  split at e
  · rename_i k y
    obtain ⟨a, e1, e2⟩ := rx
    split at e
    · rename_i ys i e3 e4
      split at e
      · rename_i c
        split at e
        · rename_i j e5
          split at e
          · rename_i y e6
            cases e
            obtain ⟨u, h1, us, rfl, h2⟩ := l.get e1 e3
            cases rxs with
            | cons r rr =>
              cases rr
              obtain ⟨v, e7, h3⟩ := h2.get e6
              refine ⟨a, us, i, j, v, e2, by rw [asI_ok r e4], h1, c.1, c.2, by rw [h2.len]; exact e5, e7, ?_⟩
              exact set_r l e1 (h2.erase j) q fun H' s => Dr.stp s y v h3
          · cases e
        · cases e
      · cases e
    · cases e
  · cases e
/-! o[i] = e, a list -/
@[simp] def fSetIx (fe fo fi : FE) : FS := fun ev S => (fe ev S).toOut ev fun v S1 => (fo ev S1).toOut ev fun o S2 => (fi ev S2).toOut ev fun i S3 => match o, asI i, v with
  | .r k, some j, .d y => match S3[k]? with
    | some (.l xs) => match ixN xs.length j with
      | some m => .nx ev (S3.set k (.l (xs.set m y)))
      | none => .no
    | _ => .no
  | _, _, _ => .no
theorem fs_setIx {i : Expr} {p2 : Pos} (he : FEx X XR Wx e fe) (ho : FEx X XR Wx o fo) (hi : FEx X XR Wx i fi)
    (ha : ∀ v, assign (.Subscript o i p2) X.env v = (do
      let ov ← holding [v] (eval o X.env)
      let iv ← holding [v, ov] (eval i X.env)
      standAt p2
      holding [v, ov, iv] (setItem ov iv v)
      release [v, ov, iv] []) := by intro _; rfl)
    (hs : swapsWithSole [.Subscript o i p2] e pos.line X.env = pure false := by rfl) (hw : swappedStores [.Subscript o i p2] e X.env = pure none := by rfl)
    (h1 : (assignEach [.Subscript o i p2] X.env).map (·.2) = [assign (.Subscript o i p2) X.env] := by rfl) : FSx X XR Wx (.Assign [.Subscript o i p2] e pos) (fSetIx fe fo fi) := by
  refine PS.imp (ps_asg he (pg_sub ho hi set_list ha) hs hw h1) ?_
  rintro D σ H ⟨M, S, ev, l, rs, h⟩
  refine toOut_ok l rs h ?_
  intro w S1 M1 H1 v s1 l1 rs1 r1 h1
  refine toOut_ok l1 rs1 h1 ?_
  intro w2 S2 M2 H2 v2 s2 l2 rs2 r2 h2
  refine toOut_ok l2 rs2 h2 ?_
  intro w3 S3 M3 H3 v3 s3 l3 rs3 r3 h3
  split at h3
  · rename_i k j y e1
    split at h3
    · rename_i xs e2
      split at h3
      · rename_i m e3
        obtain ⟨a, e4, e5⟩ := r2.stp s3
        obtain ⟨u, g1, us, rfl, g2⟩ := l3.get e4 e2
        refine ⟨a, us, j, m, e5, asI_ok r3 e1, g1, by rw [g2.len]; exact e3, ?_⟩
        have dy := (r1.stp s2).stp s3
        have s4 : Stp M3 H3 M3 (upd H3 a (.lst (us.set m v))) := stp_set (List.mem_iff_getElem?.mpr ⟨k, e4⟩)
        exact h3 M3 _ σ s4 (l3.set e4 ⟨_, rfl, DrL.stp s4 _ _ (g2.set m dy)⟩) (rs3.stp s4)
      · exact h3.elim
    · exact h3.elim
  · exact h3.elim
end
end FL

set_option Elab.async false
set_option linter.all false
set_option maxRecDepth 100000
set_option maxHeartbeats 1000000
namespace FL
open PySem PySem.Spec PyProof.Rows
open L2
/-! a place that was set apart is set free -/
def Ms.drop (M : Ms) (p : Addr) : Ms := ⟨M.m, M.x.filter (· ≠ p)⟩
section
variable {K : PySem.W.Frag} {H H2 : Hp} {M M2 : Ms} {S S2 : So} {p : Addr} {o : HO}
theorem drop_sub : ∀ b, b ∈ M.drop p → b ∈ M := fun b h => by
  rcases h with h | h
  · exact Or.inl h
  · exact Or.inr (List.mem_filter.mp h).1
theorem drop_out (hm : p ∉ M.m) : p ∉ M.drop p := fun h => by
  rcases h with h | h
  · exact hm h
  · have := (List.mem_filter.mp h).2
    simp at this
theorem release (l : Rl K H M S) (np : H p = none) (s : Stp M H M2 H2) (px : p ∈ M2.x) (l2 : Rl K H2 M2 S2) :
    Stp M H (M2.drop p) (upd H2 p o) ∧ Rl K (upd H2 p o) (M2.drop p) S2 ∧ (∀ d v, Dr K H2 M2 d v → Dr K (upd H2 p o) (M2.drop p) d v) ∧ p ∉ M2.drop p := by
  have pm : p ∉ M2.m := (l2.ex p px).1
  have up : ∀ a u, a ∉ M2 → H2 a = some u → upd H2 p o a = some u := fun a u n e => by
    rw [upd_ne]
    · exact e
    · intro z
      subst z
      exact n (Or.inr px)
  refine ⟨⟨s.pre, fun a h => List.mem_filter.mpr ⟨s.sub a h, ?_⟩, fun a u n e => ?_, s.new, fun a h n n2 => s.newx a (List.mem_filter.mp h).1 n n2⟩, ⟨l2.nd, ?_, fun a m => ⟨(l2.ex a (List.mem_filter.mp m).1).1, upd_some (l2.ex a (List.mem_filter.mp m).1).2⟩⟩, fun d v h => Dr.les drop_sub d v (Dr.upd up d v h), drop_out pm⟩
  · have ne : a ≠ p := fun z => by
      subst z
      exact l.notin np (Or.inr h)
    simpa using ne
  · rw [upd_ne (ne_of_none e np)]
    exact s.keep a u n e
  · refine Paired.mapI l2.ob fun j a b e ⟨u, h1, h2⟩ => ⟨u, ?_, RO.les drop_sub (RO.upd up h2)⟩
    rw [upd_ne]
    · exact h1
    · intro z
      subst z
      exact pm (List.mem_iff_getElem?.mpr ⟨j, e⟩)
theorem release2 {b : Ob} (l : Rl K H M S) (np : H p = none) (s : Stp M H M2 H2) (px : p ∈ M2.x) (l2 : Rl K H2 M2 S2) (hb : (∀ d v, Dr K H2 M2 d v → Dr K (upd H2 p o) ((M2.drop p).add p) d v) → RO K (upd H2 p o) ((M2.drop p).add p) b o) :
    Stp M H ((M2.drop p).add p) (upd H2 p o) ∧ Rl K (upd H2 p o) ((M2.drop p).add p) (S2 ++ [b]) ∧ ((M2.drop p).add p).m[S2.length]? = some p := by
  obtain ⟨s3, l3, d3, n3⟩ := release (o := o) l np s px l2
  have pm : p ∉ M2.m := (l2.ex p px).1
  have sub5 : ∀ c, c ∈ (M2.drop p).add p → c ∈ M2 := fun c h => by
    rcases h with h | h
    · rcases List.mem_append.mp h with z | z
      · exact Or.inl z
      · rw [List.mem_singleton.mp z]
        exact Or.inr px
    · exact Or.inr (List.mem_filter.mp h).1
  have up : ∀ a u, a ∉ M2 → H2 a = some u → upd H2 p o a = some u := fun a u n e => by
    rw [upd_ne]
    · exact e
    · intro z
      subst z
      exact n (Or.inr px)
  refine ⟨⟨s3.pre.trans (List.prefix_append _ _), s3.sub, s3.keep, fun a ha hn => ?_, fun a ha hn hn2 => s3.newx a ha hn hn2⟩, ⟨?_, Paired.snoc ⟨o, upd_same, hb fun d v h => Dr.les sub5 d v (Dr.upd up d v h)⟩ ?_, fun a m => ⟨fun z => ?_, (l3.ex a m).2⟩⟩, ?_⟩
  · rcases List.mem_append.mp ha with z | z
    · exact s3.new a z hn
    · rw [List.mem_singleton.mp z]
      exact np
  · show (M2.m ++ [p]).Nodup
    rw [List.nodup_append]
    refine ⟨l2.nd, by simp, fun a ha b hb => ?_⟩
    rw [List.mem_singleton.mp hb]
    intro e
    subst e
    exact pm ha
  · refine Paired.mapI l2.ob fun j a b e ⟨u, h1, h2⟩ => ⟨u, ?_, RO.les sub5 (RO.upd up h2)⟩
    rw [upd_ne]
    · exact h1
    · intro z
      subst z
      exact pm (List.mem_iff_getElem?.mpr ⟨j, e⟩)
  · rcases List.mem_append.mp z with z | z
    · exact (l3.ex a m).1 z
    · rw [List.mem_singleton.mp z] at m
      exact n3 (Or.inr m)
  · have e : M2.m.length = S2.length := Paired.length l2.ob
    show (M2.m ++ [p])[S2.length]? = some p
    rw [← e]
    simp
end
/-! a written dict -/
def mergeP (kvs more : List (Key × PyData)) : List (Key × PyData) := more.foldl (fun acc kv => if (acc.any fun p => decide (p.1 = kv.1)) = true then acc.map (fun p => if p.1 = kv.1 then (p.1, kv.2) else p) else acc ++ [(kv.1, kv.2)]) kvs
def fPairs : List (Key × FE) → Ev → So → Res (List (Key × PyData))
  | [], _, S => .ok [] S
  | (k, f) :: r, ev, S => (f ev S).bind fun w S1 => match w with
    | .d d => (fPairs r ev S1).bind fun ps S2 => .ok ((k, d) :: ps) S2
    | _ => .no
def fDisp (ps : List (Key × FE)) : FE := fun ev S => (fPairs ps ev S).bind fun kvs S1 => if kvs.length ≤ 15 then .ok (.k (mergeP [] kvs)) S1 else .no
def fDispM (ps : List (Key × FE)) : FE := fun ev S => (fPairs ps ev S).bind fun kvs S1 => if kvs.length ≤ 15 then .ok (.r S1.length) (S1 ++ [.k (mergeP [] kvs)]) else .no
section
variable {X : Cx} {XR : XRel X.K} {Wx : WX} {n : Nat} {pos : Pos}
theorem putP_ok {H : Hp} {M : Ms} {acc : List (Key × PyData)} {vs : List (Key × V)} {k : Key} {d : PyData} {v : V} (h : Paired (KD (K := X.K) H M) acc vs) (hd : Dr X.K H M d v) :
    Paired (KD (K := X.K) H M) (if (acc.any fun p => decide (p.1 = k)) = true then acc.map (fun p => if p.1 = k then (p.1, d) else p) else acc ++ [(k, d)]) (putK vs k v) := by
  unfold putK
  have ea : (acc.any fun p => decide (p.1 = k)) = (vs.any fun p => decide (p.1 = k)) := by
    induction h with
    | nil => rfl
    | @cons p q ps qs r t ih =>
      have e : p.1 = q.1 := r.1
      rw [List.any_cons, List.any_cons, ih, e]
  rw [ea]
  split
  · rename_i c0
    clear ea c0
    induction h with
    | nil => exact .nil
    | @cons p q ps qs r t ih =>
      have e : p.1 = q.1 := r.1
      rw [List.map_cons, List.map_cons]
      refine .cons ?_ ih
      by_cases c : p.1 = k
      · rw [if_pos c, if_pos (e ▸ c)]
        exact ⟨e, hd⟩
      · rw [if_neg c, if_neg (fun z => c (e.trans z))]
        exact r
  · exact Paired.snoc ⟨rfl, hd⟩ h
theorem merge_ok {H : Hp} {M : Ms} : ∀ {more : List (Key × PyData)} {mv : List (Key × V)} {acc : List (Key × PyData)} {vs : List (Key × V)}, Paired (KD (K := X.K) H M) more mv → Paired (KD (K := X.K) H M) acc vs → Paired (KD (K := X.K) H M) (mergeP acc more) (mergeK vs mv)
  | _, _, _, _, .nil, h => h
  | _, _, acc, vs, .cons (a := p) (b := q) r t, h => by
    have e : p.1 = q.1 := r.1
    unfold mergeP mergeK
    rw [List.foldl_cons, List.foldl_cons]
    refine merge_ok t ?_
    rw [← e]
    exact putP_ok h r.2
abbrev PV (K : PySem.W.Frag) (H : Hp) (M : Ms) (ks : List (Key × PyData)) (ps : List (V × V)) : Prop := Paired (fun (a : Key × PyData) (b : V × V) => b.1 = kV a.1 ∧ Dr K H M a.2 b.2) ks ps
theorem PV.stp {K : PySem.W.Frag} {H H1 : Hp} {M M1 : Ms} (s : Stp M H M1 H1) {ks : List (Key × PyData)} {ps : List (V × V)} (h : PV K H M ks ps) : PV K H1 M1 ks ps := Paired.imp (fun _ _ z => ⟨z.1, Dr.stp s _ _ z.2⟩) h
def trs (XR : XRel X.K) (Wx : WX) (ps : List (Key × FE)) : List (TE × TE) := ps.map fun p => (tC (kV p.1), rE XR Wx p.2)
theorem pairs_ok : ∀ {ps : List (Key × FE)} {M : Ms} {S : So} {ev : Ev} {σ : L2.St} {H : Hp} {Q : List (V × V) → Hp → Prop}, Rl X.K H M S → Rs XR H M ev σ → Pst XR Wx σ M H (fun H' M' => PV X.K H' M') (fPairs ps ev S) Q → tPairs (trs XR Wx ps) σ H Q
  | [], M, S, ev, σ, H, Q, l, rs, h => Pst.ok (v := []) h l .nil
  | (k, f) :: r, M, S, ev, σ, H, Q, l, rs, h => by
    show rE XR Wx f σ H fun y H2 => tPairs (trs XR Wx r) σ H2 fun ps H3 => Q ((kV k, y) :: ps) H3
    refine ⟨M, S, ev, l, rs, Pst.cut h ?_⟩
    intro w S1 M1 H1 v _ s1 l1 r1 h1
    cases w with
    | d d =>
      refine pairs_ok l1 (rs.stp s1) ?_
      dsimp only at h1
      cases e : fPairs r ev S1 with
      | ok kvs S2 =>
        rw [e] at h1
        intro M2 H2 ps s2 l2 r2
        exact h1 M2 H2 _ s2 l2 (.cons ⟨rfl, Dr.stp s2 _ _ r1⟩ r2)
      | ex c f S2 => rw [e] at h1; exact h1
      | no => rw [e] at h1; exact h1
    | r _ => exact h1.elim
    | k _ => exact h1.elim
    | x _ _ => exact h1.elim
    | s _ => exact h1.elim
    | p _ => exact h1.elim
theorem pv_split {H : Hp} {M : Ms} : ∀ {ks : List (Key × PyData)} {ps : List (V × V)}, PV X.K H M ks ps → ∃ kvs : List (Key × V), ps = kvs.map (fun kv => (kV kv.1, kv.2)) ∧ Paired (KD (K := X.K) H M) ks kvs
  | _, _, .nil => ⟨[], rfl, .nil⟩
  | _, _, .cons (a := a) (b := b) r t => by
    obtain ⟨kvs, e, h⟩ := pv_split t
    refine ⟨(a.1, b.2) :: kvs, ?_, .cons ⟨rfl, r.2⟩ h⟩
    rw [List.map_cons, ← e, ← r.1]
theorem disp_ok (mu : Bool) {ps : List (Key × FE)} {σ : L2.St} {H : Hp} {Q : VK} (h : rE XR Wx (if mu then fDispM ps else fDisp ps) σ H Q) : tDisp (trs XR Wx ps) σ H Q := by
  obtain ⟨M, S, ev, l, rs, h⟩ := h
  intro p np
  have s0 : Stp M H (M.res p) (upd H p (.dK [])) := stp_res np
  have l0 : Rl X.K (upd H p (.dK [])) (M.res p) S := l.res np
  refine pairs_ok l0 (rs.stp s0) ?_
  have e0 : (if mu then fDispM ps else fDisp ps) ev S = (fPairs ps ev S).bind fun kvs S1 => if kvs.length ≤ 15 then (if mu then .ok (.r S1.length) (S1 ++ [.k (mergeP [] kvs)]) else .ok (.k (mergeP [] kvs)) S1) else .no := by
    cases mu <;> rfl
  rw [e0] at h
  cases e : fPairs ps ev S with
  | no => rw [e] at h; exact h
  | ex c f S2 =>
    rw [e] at h
    exact fun M2 H2 cls dx s2 => h M2 H2 cls dx (s0.trans s2)
  | ok kvs S2 =>
    rw [e] at h
    intro M2 H2 pv s2 l2 r2
    have px : p ∈ M2.x := s2.sub p List.mem_cons_self
    have pH : H2 p = some (.dK []) := s2.keep p _ (l0.ex p List.mem_cons_self).1 upd_same
    dsimp only [Res.bind] at h
    split at h
    · rename_i c
      obtain ⟨kw, e2, hk⟩ := pv_split r2
      refine ⟨pH, kw, e2, by rw [← Paired.length hk]; exact c, ?_⟩
      obtain ⟨s3, l3, d3, n3⟩ := release (o := .dK (mergeK [] kw)) l np (s0.trans s2) px l2
      have hm : Paired (KD (K := X.K) (upd H2 p (.dK (mergeK [] kw))) (M2.drop p)) (mergeP [] kvs) (mergeK [] kw) := merge_ok (Paired.imp (fun _ _ z => ⟨z.1, d3 _ _ z.2⟩) hk) .nil
      cases mu with
      | false => exact h _ _ _ s3 l3 ⟨p, _, rfl, n3, upd_same, hm⟩
      | true =>
        obtain ⟨s4, l4, e4⟩ := release2 (o := .dK (mergeK [] kw)) (b := .k (mergeP [] kvs)) l np (s0.trans s2) px l2 fun d4 => ⟨_, rfl, merge_ok (Paired.imp (fun _ _ z => ⟨z.1, d4 _ _ z.2⟩) hk) .nil⟩
        exact h _ _ _ s4 l4 ⟨p, e4, rfl⟩
    · exact h.elim
theorem fe_disp {keys : List (Option Expr)} {values : List Expr} {ps : List (Key × FE)} (h : PPs X pos keys values (trs XR Wx ps)) (hall : keys.all (·.isSome) = true) (hl : keys.length = values.length) (h0 : keys ≠ []) (h15 : keys.length ≤ 15) :
    FEx X XR Wx (.Dict keys values pos) (fDisp ps) := PE.imp (pe_disp h hall hl h0 h15) fun _ _ _ => disp_ok false
theorem fe_dispM {keys : List (Option Expr)} {values : List Expr} {ps : List (Key × FE)} (h : PPs X pos keys values (trs XR Wx ps)) (hall : keys.all (·.isSome) = true) (hl : keys.length = values.length) (h0 : keys ≠ []) (h15 : keys.length ≤ 15) :
    FEx X XR Wx (.Dict keys values pos) (fDispM ps) := PE.imp (pe_disp h hall hl h0 h15) fun _ _ _ => disp_ok true
theorem fp_nil : PPs X pos [] [] (trs XR Wx []) := pps_nil
theorem fp_str {x : Str} {j : Nat} {p2 : Pos} {v : Expr} {ks : List (Option Expr)} {vs : List Expr} {f : FE} {r : List (Key × FE)} (hv : FEx X XR Wx v f) (hr : PPs X pos ks vs (trs XR Wx r)) :
    PPs X pos (some (.Constant (.str x) j p2) :: ks) (v :: vs) (trs XR Wx ((.inr x, f) :: r)) := pps_cons pe_str hv hr
theorem fp_int {x : Int} {j : Nat} {p2 : Pos} {v : Expr} {ks : List (Option Expr)} {vs : List Expr} {f : FE} {r : List (Key × FE)} (hv : FEx X XR Wx v f) (hr : PPs X pos ks vs (trs XR Wx r)) :
    PPs X pos (some (.Constant (.int x) j p2) :: ks) (v :: vs) (trs XR Wx ((.inl x, f) :: r)) := pps_cons pe_int hv hr
/-! d.get(k, e) -/
def fGet2 (fo fk fd : FE) : FE := fun ev S => (fo ev S).bind fun x S1 => match asD x S1 with
  | none => .no
  | some _ => (fk ev S1).bind fun y S2 => (fd ev S2).bind fun z S3 => match asD x S3 with
    | none => .no
    | some dd => match look dd y with
      | none => .no
      | some (some d) => .ok (.d d) S3
      | some none => .ok z S3
theorem fe_get2 {o e f : Expr} {apos cpos : Pos} {fo fk fd : FE} (C : Ct X Wx n) (ho : FEx X XR Wx o fo) (he : FEx X XR Wx e fk) (hf : FEx X XR Wx f fd) (m : M2 X o "get" apos e f cpos) : FEx X XR Wx (.Call (.Attribute o "get" apos) [e, f] [] cpos) (fGet2 fo fk fd) := by
  refine PE.imp (pe_dget2 (by have := C.un; omega) ho he hf m) ?_
  rintro σ H Q ⟨M, S, ev, l, rs, h⟩
  refine ⟨M, S, ev, l, rs, Pst.cut h ?_⟩
  intro x S1 M1 H1 vx _ s1 l1 r1 h1
  split at h1
  · exact h1.elim
  · rename_i dd0 e0
    obtain ⟨a, vs, e1, ha, _⟩ := asD_at l1 r1 e0
    refine ⟨a, e1, .inl ⟨vs, .inl ha⟩, M1, S1, ev, l1, rs.stp s1, Pst.cut h1 ?_⟩
    intro y S2 M2 H2 vy _ s2 l2 r2 h2
    refine ⟨M2, S2, ev, l2, (rs.stp s1).stp s2, Pst.cut h2 ?_⟩
    intro z S3 M3 H3 vz _ s3 l3 r3 h3
    split at h3
    · exact h3.elim
    · rename_i dd e2
      split at h3
      · exact h3.elim
      · rename_i d e3
        obtain ⟨b, e4, h4 | ⟨d', u, h4, h5, h6⟩⟩ := asD_ok l3 ((r1.stp s2).stp s3) (r2.stp s3) e2 e3
        · cases h4.1
        · cases h4
          cases e1.symm.trans e4
          exact ⟨some u, h5, imm_d l3 h3 h6⟩
      · rename_i e3
        obtain ⟨b, e4, h4 | ⟨d', u, h4, h5, h6⟩⟩ := asD_ok l3 ((r1.stp s2).stp s3) (r2.stp s3) e2 e3
        · cases e1.symm.trans e4
          exact ⟨none, h4.2, imm l3 h3 r3⟩
        · cases h4
end
end FL

set_option Elab.async false
set_option linter.all false
set_option maxRecDepth 100000
set_option maxHeartbeats 1000000
namespace FL
open PySem PySem.Spec PyProof.Rows
open L2
section
variable {X : Cx} {XR : XRel X.K} {Wx : WX} {n : Nat} {pos : Pos} {tg iter : Expr}
theorem fv (i : Nat) {x : Str} (hN : X.N[i]? = some x := by rfl) (hv : Vis X.env.scope x := by first | exact Or.inl rfl | exact Or.inr (Or.inl rfl) | exact Or.inr (Or.inr rfl)) (hd : (x == ("__debug__" : Str)) = false := by decide)
    (hcd : (x == ("__classdict__" : Str)) = false := by decide) : FEx X XR Wx (.Name x pos) (fV i) := fe_v hN hv hd hcd
/-- a comprehension without if, with one -/
theorem fe_lc0 {elt : Expr} {scope : Scope} {sl : List Nat} {fi : FI} {g : FG} {te : FE} (own : List (Str × Nat)) (C : Ct X Wx n) (hN : X.N.Nodup) (hi : FIx X XR Wx tg iter fi) (ok : BlkOk X.N X.env.scope scope own)
    (hg : ∀ (s : Shared) (H : Hp) (D : Addr) (cl : List (Str × Addr)) (fp : List Addr), FGx (Blk X scope s H D cl fp) XR tg sl g) (hsl : ∀ i, i ∈ sl → i ∈ own.map (·.2))
    (he : ∀ (s : Shared) (H : Hp) (D : Addr) (cl : List (Str × Addr)) (fp : List Addr), FEx (Blk X scope s H D cl fp) XR Wn elt te) (hs : ∀ x, foldedSetIterable iter X.env x = pure x := by intro _; rfl) :
    FEx X XR Wx (.ListComp elt [⟨tg, iter, [], 0⟩] scope pos) (fLc fi g fYes te (own.map (·.2))) :=
  fe_lc (tt := tYes) C hN hi ok hg hsl (fun _ _ _ _ _ => pts_nil) (fun σ H Q ⟨M, S, ev, l, rs, h⟩ => Pst.ok (v := true) h l rfl) he hs
theorem fe_lc1 {elt c : Expr} {scope : Scope} {sl : List Nat} {fi : FI} {g : FG} {t : FT} {te : FE} (own : List (Str × Nat)) (C : Ct X Wx n) (hN : X.N.Nodup) (hi : FIx X XR Wx tg iter fi) (ok : BlkOk X.N X.env.scope scope own)
    (hg : ∀ (s : Shared) (H : Hp) (D : Addr) (cl : List (Str × Addr)) (fp : List Addr), FGx (Blk X scope s H D cl fp) XR tg sl g) (hsl : ∀ i, i ∈ sl → i ∈ own.map (·.2))
    (ht : ∀ (s : Shared) (H : Hp) (D : Addr) (cl : List (Str × Addr)) (fp : List Addr), FTx (Blk X scope s H D cl fp) XR Wn c t)
    (he : ∀ (s : Shared) (H : Hp) (D : Addr) (cl : List (Str × Addr)) (fp : List Addr), FEx (Blk X scope s H D cl fp) XR Wn elt te) (hs : ∀ x, foldedSetIterable iter X.env x = pure x := by intro _; rfl) :
    FEx X XR Wx (.ListComp elt [⟨tg, iter, [c], 0⟩] scope pos) (fLc fi g t te (own.map (·.2))) :=
  fe_lc (tt := rT XR Wn t) C hN hi ok hg hsl (fun s H D cl fp => pts_one (ht s H D cl fp)) (fun σ H Q h => h) he hs
theorem yes_ok {Wx : WX} {σ : L2.St} {H : Hp} {Q : Bool → Hp → Prop} (h : rT XR Wx fYes σ H Q) : tYes σ H Q := by
  obtain ⟨M, S, ev, l, rs, h⟩ := h
  exact Pst.ok (v := true) h l rfl
theorem fs_setLc0 {i : Nat} {y : Str} {py spos : Pos} {elt : Expr} {scope : Scope} {sl : List Nat} {fi : FI} {g : FG} {te : FE} (own : List (Str × Nat)) (C : Ct X Wx n) (hN : X.N.Nodup) (hy : X.N[i]? = some y) (hyl : X.env.scope.names.lookup y = some .local)
    (hsw : swapsWith (.ListComp elt [⟨tg, iter, [], 0⟩] scope pos) (some (.Name y py)) spos.line X.env = pure true) (hi : FIx X XR Wx tg iter fi) (ok : BlkOk X.N X.env.scope scope own)
    (hg : ∀ (s : Shared) (H : Hp) (D : Addr) (cl : List (Str × Addr)) (fp : List Addr), FGx (Blk X scope s H D cl fp) XR tg sl g) (hsl : ∀ i, i ∈ sl → i ∈ own.map (·.2))
    (he : ∀ (s : Shared) (H : Hp) (D : Addr) (cl : List (Str × Addr)) (fp : List Addr), FEx (Blk X scope s H D cl fp) XR Wn elt te) (hs : ∀ x, foldedSetIterable iter X.env x = pure x := by intro _; rfl) :
    FSx X XR Wx (.Assign [.Name y py] (.ListComp elt [⟨tg, iter, [], 0⟩] scope pos) spos) (fSet i (fLc fi g fYes te (own.map (·.2)))) :=
  fs_setLc (tt := tYes) C hN hy hyl hsw hi ok hg hsl (fun _ _ _ _ _ => pts_nil) (fun σ H Q h => yes_ok h) he hs
theorem fs_setLc1 {i : Nat} {y : Str} {py spos : Pos} {elt c : Expr} {scope : Scope} {sl : List Nat} {fi : FI} {g : FG} {t : FT} {te : FE} (own : List (Str × Nat)) (C : Ct X Wx n) (hN : X.N.Nodup) (hy : X.N[i]? = some y) (hyl : X.env.scope.names.lookup y = some .local)
    (hsw : swapsWith (.ListComp elt [⟨tg, iter, [c], 0⟩] scope pos) (some (.Name y py)) spos.line X.env = pure true) (hi : FIx X XR Wx tg iter fi) (ok : BlkOk X.N X.env.scope scope own)
    (hg : ∀ (s : Shared) (H : Hp) (D : Addr) (cl : List (Str × Addr)) (fp : List Addr), FGx (Blk X scope s H D cl fp) XR tg sl g) (hsl : ∀ i, i ∈ sl → i ∈ own.map (·.2))
    (ht : ∀ (s : Shared) (H : Hp) (D : Addr) (cl : List (Str × Addr)) (fp : List Addr), FTx (Blk X scope s H D cl fp) XR Wn c t)
    (he : ∀ (s : Shared) (H : Hp) (D : Addr) (cl : List (Str × Addr)) (fp : List Addr), FEx (Blk X scope s H D cl fp) XR Wn elt te) (hs : ∀ x, foldedSetIterable iter X.env x = pure x := by intro _; rfl) :
    FSx X XR Wx (.Assign [.Name y py] (.ListComp elt [⟨tg, iter, [c], 0⟩] scope pos) spos) (fSet i (fLc fi g t te (own.map (·.2)))) :=
  fs_setLc (tt := rT XR Wn t) C hN hy hyl hsw hi ok hg hsl (fun s H D cl fp => pts_one (ht s H D cl fp)) (fun σ H Q h => h) he hs
end
end FL

set_option Elab.async false
set_option linter.all false
set_option maxRecDepth 100000
set_option maxHeartbeats 4000000
namespace FL
open PySem PySem.Spec PyProof.Rows
open L2
/-! sets of texts, as they lie -/
def txOf (e : Int × Value) : Str := strOf e.2
section
variable {P : Program} {w : World}
def TxE (P : Program) (w : World) (e : Int × Value) : Prop := ∃ x tk, e = ((PySem.strKind P w).hash x, Value.str x tk)
structure Bd (P : Program) (w : World) (es : Array (Int × Value)) (t : SetTable) (S : Str → Bool) (n : Nat) : Prop where
  g : ∀ e, e ∈ es.toList → TxE P w e
  nd : (es.toList.map txOf).Nodup
  m : ∀ k, S k = true ↔ k ∈ es.toList.map txOf
  z : es.size = n
  b : n < scanBound
  f : t.fits es.size = true
  r : Ris t.place.toList
  l : w.params.followText "set-order" = true ∨ t.led = true
theorem TxE.is {e : Int × Value} (h : TxE P w e) (k : Str) : (PySem.strKind P w).is k e.2 = true ↔ txOf e = k := by
  obtain ⟨x, tk, rfl⟩ := h
  constructor
  · intro q
    exact (PySem.strKind P w).inj (.str x tk) x k (strKind_is _ _ _ _) q
  · rintro rfl
    exact strKind_is _ _ _ _
variable {es : Array (Int × Value)} {t : SetTable} {S : Str → Bool} {n : Nat}
theorem Bd.els (B : Bd P w es t S n) : ElemsOf (PySem.strKind P w) es.toList := fun e he => by
  obtain ⟨x, tk, rfl⟩ := B.g e he
  exact ⟨⟨x, strKind_is _ _ _ _, rfl⟩, rfl⟩
theorem Bd.mem (B : Bd P w es t S n) (k : Str) : S k = true ↔ ∃ e, e ∈ es.toList ∧ (PySem.strKind P w).is k e.2 = true := by
  rw [B.m k, List.mem_map]
  constructor
  · rintro ⟨e, he, q⟩
    exact ⟨e, he, ((B.g e he).is k).2 q⟩
  · rintro ⟨e, he, q⟩
    exact ⟨e, he, ((B.g e he).is k).1 q⟩
theorem Bd.perm (B : Bd P w es t S n) {es2 : Array (Int × Value)} {t2 : SetTable} (p : es2.toList.Perm es.toList) (f : t2.fits es2.size = true) (r : Ris t2.place.toList) (l : t2.led = t.led) : Bd P w es2 t2 S n := by
  refine ⟨fun e he => B.g e (p.mem_iff.mp he), (p.map txOf).nodup_iff.mpr B.nd, fun k => (B.m k).trans (p.map txOf).mem_iff.symm, ?_, B.b, f, r, B.l.imp id fun z => by rw [l]; exact z⟩
  rw [← B.z, ← Array.length_toList, p.length_eq, Array.length_toList]
theorem Bd.relay (B : Bd P w es t S n) (k : Nat) : Bd P w (relayAll t es k).1 (relayAll t es k).2.1 S n :=
  B.perm (relayAll_perm t es k) (relayAll_fits t es k) (relayAll_ris t es k) (relayAll_led t es k)
theorem Bd.off (B : Bd P w es t S n) : Bd P w es { t with plain := false } S n := ⟨B.g, B.nd, B.m, B.z, B.b, SetTable.fits_plain_off B.f, B.r, B.l⟩
theorem Bd.more (B : Bd P w es t S n) {k : Str} (tk : Tok) (hk : S k = false) (room : n + 1 < scanBound) : Bd P w (layNew t es ((PySem.strKind P w).hash k) (.str k tk)).1 (layNew t es ((PySem.strKind P w).hash k) (.str k tk)).2.1 (fun j => S j || decide (j = k)) (n + 1) := by
  have p0 := layNew_perm t es ((PySem.strKind P w).hash k) (.str k tk)
  rw [Array.toList_push] at p0
  have p : (layNew t es ((PySem.strKind P w).hash k) (.str k tk)).1.toList.Perm (((PySem.strKind P w).hash k, Value.str k tk) :: es.toList) := p0.trans (List.perm_append_singleton _ _)
  have pm := p.map txOf
  have nk : k ∉ es.toList.map txOf := fun c => by
    have := (B.m k).2 c
    rw [hk] at this
    cases this
  refine ⟨fun e he => ?_, pm.nodup_iff.mpr (List.nodup_cons.mpr ⟨nk, B.nd⟩), fun i => ?_, ?_, room, layNew_fits t es _ _, layNew_ris t es _ _ B.r, B.l.imp id fun z => by rw [layNew_led]; exact z⟩
  · rcases List.mem_cons.mp (p.mem_iff.mp he) with c | c
    · exact ⟨k, tk, c⟩
    · exact B.g e c
  · rw [pm.mem_iff, List.map_cons, List.mem_cons, Bool.or_eq_true, decide_eq_true_eq, B.m i]
    exact Or.comm
  · rw [← Array.length_toList, p.length_eq, List.length_cons, Array.length_toList, B.z]
theorem Bd.same (B : Bd P w es t S n) {k : Str} (hk : S k = true) : Bd P w es t (fun j => S j || decide (j = k)) n := by
  have e : (fun j => S j || decide (j = k)) = S := by
    funext j
    by_cases c : j = k
    · subst c
      rw [hk, Bool.true_or]
    · rw [decide_eq_false c, Bool.or_false]
  rw [e]
  exact B
def STx (P : Program) (w : World) (h : Heap) (a : Addr) (S : Str → Bool) (n : Nat) : Prop := ∃ o es ep t, h.get? a = some o ∧ o.ExactSet ∧ o.data = .set es ep t ∧ Bd P w es t S n
theorem STx.keep {h h' : Heap} {a : Addr} (R : STx P w h a S n) (k : ∀ o, h.get? a = some o → h'.get? a = some o) : STx P w h' a S n := by
  obtain ⟨o, es, ep, t, ho, q⟩ := R
  exact ⟨o, es, ep, t, k o ho, q⟩
variable {A : Around} {E : Value → Shared → Prop} {s : Shared} {a : Addr}
theorem put_bd {h : Heap} {o : Obj} {ep : Nat} {es2 : Array (Int × Value)} {t2 : SetTable} (ho : h.get? a = some o) (x : o.ExactSet) (hd : o.data = .set es ep t) (B : Bd P w es2 t2 S n) :
    ∃ o2, (h.update a (Obj.putSet es2 t2)).get? a = some o2 ∧ o2.ExactSet ∧ o2.data = .set es2 (ep + 1) t2 ∧ STx P w (h.update a (Obj.putSet es2 t2)) a S n := by
  have q := store_at (es' := es2) (t' := t2) ho hd
  exact ⟨_, q, x, rfl, _, _, _, _, q, x, rfl, B⟩
theorem stx_add {k : Str} {tk : Tok} {Q : Bool → Shared → Prop} (R : STx P w s.heap a S n) (room : n + 1 < scanBound)
    (hQ : ∀ h', Heap.SameBut a s.heap h' → STx P w h' a (fun j => S j || decide (j = k)) (if S k = true then n else n + 1) → Q (!S k) { s with heap := h' }) :
    wpAny (model P w) A (setAddHashed a (.str k tk) ((PySem.strKind P w).hash k)) Q E s := by
  obtain ⟨o, es, ep, t, ho, hex, hd, B⟩ := R
  unfold setAddHashed setAddHashedIn
  refine wpAny_holding (wpAny_bind (wpAny_setState_of ho hd B.f ?_))
  dsimp only
  rw [byScan_of (knd := PySem.strKind P w) (x := .str k tk) rfl (by rw [B.z]; exact B.b) B.els, if_pos rfl]
  unfold setAddByScan
  refine wpAny_bind (wpAny_bind (wpAny_rule (wpAny_bind (wpAny_setScan_of (strKind_is P w k tk) ho hd B.f B.els ?_))))
  cases c : List.findIdx? (fun e => (PySem.strKind P w).is k e.2) es.toList with
  | some j =>
    obtain ⟨hj, pj, _⟩ := List.findIdx?_eq_some_iff_getElem.mp c
    have hk : S k = true := (B.mem k).2 ⟨_, List.getElem_mem hj, pj⟩
    have q := hQ s.heap (.refl a _) ⟨o, es, ep, t, ho, hex, hd, by rw [if_pos hk]; exact B.same hk⟩
    rw [hk] at q
    exact wpAny_pure (wpAny_pure q)
  | none =>
    have hk : S k = false := by
      cases q : S k with
      | false => rfl
      | true =>
        obtain ⟨e, he, p⟩ := (B.mem k).1 q
        rw [List.findIdx?_eq_none_iff.mp c e he] at p
        cases p
    rw [hk] at hQ
    have B1 := B.more tk hk room
    dsimp only
    generalize layNew t es ((PySem.strKind P w).hash k) (.str k tk) = Z at B1 ⊢
    obtain ⟨es1, t1, wd, gv⟩ := Z
    dsimp only at B1 ⊢
    have fin : ∀ h', Heap.SameBut a s.heap h' → STx P w h' a (fun j => S j || decide (j = k)) (n + 1) → Q true { s with heap := h' } := fun h' e r => hQ h' e r
    have step : ∀ (g : Bool) (Q' : Unit → Shared → Prop) (s' : Shared), Q' () s' → wpAny (model P w) A (match g with | true => rule "set.scan.the-table-gave-way" | false => pure ()) Q' E s' := fun g Q' s' q => by
      cases g
      · exact wpAny_pure q
      · exact wpAny_rule q
    refine wpAny_bind (step gv _ _ ?_)
    have B3 : ∀ b : Bool, Bd P w es1 (if b = true then t1 else { t1 with plain := false }) (fun j => S j || decide (j = k)) (n + 1) := fun b => by
      cases b
      · exact B1.off
      · exact B1
    split
    all_goals first | rw [hashByValue_scannable 8 rfl] | skip
    all_goals refine wpAny_bind (wpAny_pure ?_)
    · have B4 := B3 (plainKind (Value.str k tk))
      generalize (if plainKind (Value.str k tk) = true then t1 else { t1 with plain := false }) = t5 at B4 ⊢
      clear B1 B3
      obtain ⟨o2, g2, x2, d2, R2⟩ := put_bd ho hex hd B4
      refine wpAny_bind (wpAny_storeSet_of ho hd ?_ (fits_of_scanBound (by rw [B4.z]; exact room)))
      split
      · have B5 := B4.relay (SetTable.grown es1.size)
        generalize relayAll t5 es1 (SetTable.grown es1.size) = Z at B5 ⊢
        obtain ⟨es6, t6, gw⟩ := Z
        dsimp only at B5 ⊢
        refine wpAny_bind (step gw _ _ ?_)
        obtain ⟨o3, g3, x3, d3, R3⟩ := put_bd g2 x2 d2 B5
        refine wpAny_bind (wpAny_storeSet_of g2 d2 ?_ (fits_of_scanBound (by rw [B5.z]; exact room)))
        exact wpAny_pure (wpAny_pure (fin _ ((Heap.SameBut.update _ _ _).trans (Heap.SameBut.update _ _ _)) R3))
      · exact wpAny_pure (wpAny_pure (fin _ (Heap.SameBut.update _ _ _) R2))
    · have B4 := B3 true
      generalize (if true = true then t1 else { t1 with plain := false }) = t5 at B4 ⊢
      clear B1 B3
      obtain ⟨o2, g2, x2, d2, R2⟩ := put_bd ho hex hd B4
      refine wpAny_bind (wpAny_storeSet_of ho hd ?_ (fits_of_scanBound (by rw [B4.z]; exact room)))
      split
      · have B5 := B4.relay (SetTable.grown es1.size)
        generalize relayAll t5 es1 (SetTable.grown es1.size) = Z at B5 ⊢
        obtain ⟨es6, t6, gw⟩ := Z
        dsimp only at B5 ⊢
        refine wpAny_bind (step gw _ _ ?_)
        obtain ⟨o3, g3, x3, d3, R3⟩ := put_bd g2 x2 d2 B5
        refine wpAny_bind (wpAny_storeSet_of g2 d2 ?_ (fits_of_scanBound (by rw [B5.z]; exact room)))
        exact wpAny_pure (wpAny_pure (fin _ ((Heap.SameBut.update _ _ _).trans (Heap.SameBut.update _ _ _)) R3))
      · exact wpAny_pure (wpAny_pure (fin _ (Heap.SameBut.update _ _ _) R2))
def addTxt (q : (Str → Bool) × Nat) (x : Str) : (Str → Bool) × Nat := (fun k => q.1 k || decide (k = x), if q.1 x then q.2 else q.2 + 1)
def distinct (ns : List Str) : Nat := (ns.foldl addTxt (fun _ => false, 0)).2
/-- the fresh set -/
abbrev bareS (led : Bool) : Obj := { cls := .type "set", dict := none, data := .set #[] 0 (.fresh 0 0 led) }
theorem stx_none {h : Heap} {a : Addr} (ho : h.get? a = some (bareS (!w.params.followText "set-order"))) : STx P w h a (fun _ => false) 0 := by
  refine ⟨_, #[], 0, _, ho, ⟨rfl, rfl, rfl⟩, rfl, ⟨fun e he => by simp at he, List.Pairwise.nil, fun k => by simp, rfl, by decide, by rfl, List.Pairwise.nil, ?_⟩⟩
  cases w.params.followText "set-order"
  · exact .inr rfl
  · exact .inl rfl
end
section
variable {prog : Program} {w : World} {A : Around} {R : Result → Shared → Prop} {J : Addr} {feet pens : List Addr} {G : Array GenState → Array GenState → Prop} {n : Nat} {V₀ : Nat → Value → Prop} {Z : Nat → Shared → Prop}
/-- what the texts from the i-th on make of a set -/
def rest (zs : List Str) (i : Nat) (q : (Str → Bool) × Nat) : (Str → Bool) × Nat := (zs.drop i).foldl addTxt q
theorem rest_step {zs : List Str} {i : Nat} {q : (Str → Bool) × Nat} (h : i < zs.length) : rest zs i q = rest zs (i + 1) (addTxt q (zs.getD i Str.empty)) := by
  unfold rest
  have e : zs.drop i = zs.getD i Str.empty :: zs.drop (i + 1) := by
    rw [List.getD_eq_getElem?_getD, List.getElem?_eq_getElem h]
    exact List.drop_eq_getElem_cons h
  rw [e]
  rfl
theorem rest_end {zs : List Str} {i : Nat} {q : (Str → Bool) × Nat} (h : zs.length ≤ i) : rest zs i q = q := by
  unfold rest
  rw [List.drop_of_length_le h]
  rfl
theorem fill_texts (W : WalksS prog w A.in1 J feet pens G n V₀ Z) (D : Addr) (off : D ∉ feet) (zs : List Str) (ln : zs.length = n) (few : n + 1 < scanBound)
    (txt : ∀ j u, V₀ j u → ∃ tk, u = .str (zs.getD j Str.empty) tk) (out : (Str → Bool) × Nat) :
    ∀ (left i : Nat) (q : (Str → Bool) × Nat) (s : Shared), n - i = left → i ≤ n → q.2 ≤ i → rest zs i q = out → Z i s → STx prog w s.heap D q.1 q.2 →
      (∀ s', Moved (D :: pens) G s s' → STx prog w s'.heap D out.1 out.2 → R (.ok (.ret .none)) s') →
      codeAny (model prog w) A (.builtin "set.update.loop" ⟨[.ref D, .ref J], []⟩) R s := by
  have offW : D ∉ pens := fun c => off (W.sub _ c)
  have more : ∀ b ∈ pens, b ∈ D :: pens := fun b c => List.mem_cons_of_mem _ c
  intro left
  induction left with
  | zero =>
    intro i q s e1 e2 e3 e4 z hs k
    have hn : i = n := by omega
    subst hn
    rw [rest_end (by omega)] at e4
    subst e4
    refine codeAny_builtin PyProof.Rows.F.entry_set_update_loop ?_
    rw [Around.under_plainId PyProof.Rows.F.plain_set_update_loop (_ : Args)]
    show wpAny _ A.in1 (pyNext (.ref J) >>= _) _ _ s
    refine wpAny_bind (W.done s _ _ z fun s1 mv => ?_)
    show wpAny _ A.in1 (ret Value.none) _ _ s1
    refine wpAny_pure (k s1 (mv.mono more) ?_)
    exact hs.keep fun o => mv.heap D o offW
  | succ left ih =>
    intro i q s e1 e2 e3 e4 z hs k
    have lt : i < n := by omega
    refine codeAny_builtin PyProof.Rows.F.entry_set_update_loop ?_
    rw [Around.under_plainId PyProof.Rows.F.plain_set_update_loop (_ : Args)]
    show wpAny _ A.in1 (pyNext (.ref J) >>= _) _ _ s
    refine wpAny_bind (W.item i s _ _ lt z fun u s1 hu z1 mv => ?_)
    obtain ⟨tk, rfl⟩ := txt i u hu
    have hs1 : STx prog w s1.heap D q.1 q.2 := by
      exact hs.keep fun o => mv.heap D o offW
    show wpAny _ A.in1 (holding [Value.str (zs.getD i Str.empty) tk] (setAdd D (.str (zs.getD i Str.empty) tk)) >>= _) _ _ s1
    refine wpAny_bind (wpAny_holding ?_)
    unfold setAdd
    refine wpAny_holding ?_
    refine wpAny_bind ((PySem.strKind prog w).pyHash (k := zs.getD i Str.empty) (strKind_is _ _ _ _) ?_)
    refine stx_add (s := { s1 with toks := s1.toks + 1 }) hs1 (by omega) fun h2 same hs2 => ?_
    have le2 : (addTxt q (zs.getD i Str.empty)).2 ≤ i + 1 := by
      unfold addTxt
      dsimp only
      split <;> omega
    refine wpAny_pure ⟨plainId_quiet PyProof.Rows.F.plain_set_update_loop _, ih (i + 1) (addTxt q (zs.getD i Str.empty)) _ (by omega) lt le2 (by rw [← e4]; exact (rest_step (by omega)).symm) (W.frame _ s1 _ _ z1 (Nat.le_succ _) fun b hb o e => ?_) hs2 fun s3 mv3 hs3 => ?_⟩
    · rw [same.2 b (fun c : b = D => off (c ▸ hb))]
      exact e
    · refine k s3 (Moved.trans W.gtrans ((mv.mono more).then_heap (Nat.le_succ _) fun b o hb e => ?_) mv3) hs3
      rw [same.2 b (fun c : b = D => hb (by rw [c]; exact List.mem_cons_self))]
      exact e
end
section
variable {prog : Program} {w : World} {A : Around} {E : Value → Shared → Prop} {s : Shared}
set_option maxHeartbeats 8000000 in
theorem set_of_texts {L : Addr} {vs : Array Value} {zs : List Str} {Q : Value → Shared → Prop} (calm : A.handled = none) (at_ : s.heap.IsList L vs) (tx : StrsAre vs.toList zs) (few : zs.length + 1 < scanBound)
    (k : ∀ (g : Heap) (tk : Nat), STx prog w g s.heap.objs.size (rest zs 0 (fun _ => false, 0)).1 (rest zs 0 (fun _ => false, 0)).2 →
      (∀ b o, b < s.heap.objs.size → s.heap.get? b = some o → g.get? b = some o) → Q (.ref s.heap.objs.size) { s with heap := g, toks := tk }) :
    wpAny (model prog w) A (call (.type "set") [.ref L]) Q E s := by
  obtain ⟨u1, u2, roM⟩ := PySem.F.called_set.mro
  have mk := PySem.F.called_set.made
  have sb := PySem.F.called_set.sub
  refine wpAny_call (codeAny_of_tree ?_)
  show wpAny _ _ (callAny (.type "set") _) _ _ s
  refine wpAny_pure ⟨Code.quiet_builtin _ (by decide +kernel), codeAny_builtin PySem.F.entry_type_call ?_⟩
  rw [Around.under_plain (weight_type_call_type "set" [.ref L] []) (by rfl)]
  have nt := PySem.F.called_set.notType
  have cc := PySem.F.called_set.canCreate
  have tc := PySem.F.typeCall_set_1 (.ref L)
  repeat (any_goals (first | assumption | wp_step))
  refine codeAny_mono (code_set_led1 (.ref L) (E := E) (Q₁ := fun x s1 => x = .ref s.heap.objs.size ∧ s1 = { s with heap := s.heap.push (bareS (!w.params.followText "set-order")) }) ⟨rfl, rfl⟩) fun r s1 hr => ?_
  cases r with
  | error e => exact hr
  | ok fl =>
    cases fl with
    | ret x =>
      obtain ⟨rfl, rfl⟩ := hr
      have here : (s.heap.push (bareS (!w.params.followText "set-order"))).get? s.heap.objs.size = some (bareS (!w.params.followText "set-order")) := Heap.get?_push_size _ rfl
      have isS : Shared.TypeIs { s with heap := s.heap.push (bareS (!w.params.followText "set-order")) } (.ref s.heap.objs.size) "set" := ⟨_, here, rfl⟩
      have lk := PySem.F.called_set.init.lookup
      have bd := PySem.F.called_set.init.bind (.ref s.heap.objs.size)
      repeat (any_goals (first | assumption | wp_step))
      refine codeAny_mono (codeAny_call_builtin (R := wants (fun r s2 => r = .none ∧ ∃ g tk, s2 = { s with heap := g, toks := tk } ∧
          STx prog w g s.heap.objs.size (rest zs 0 (fun _ => false, 0)).1 (rest zs 0 (fun _ => false, 0)).2 ∧
          (∀ b o, b < s.heap.objs.size → s.heap.get? b = some o → g.get? b = some o)) E) PySem.F.called_set.init.plain PySem.F.entry_set_init (check_set_init_1 isS ?_)) fun r2 s2 hr2 => ?_
      · obtain ⟨ob, hob, clb, nb, dtb⟩ := at_
        obtain ⟨obc, obd, obx, obs⟩ := ob
        simp only at clb dtb
        subst clb; subst dtb
        have keepL : (s.heap.push (bareS (!w.params.followText "set-order"))).get? L = some { cls := .type "list", dict := obd, data := .seq vs nb, slots := obs } := Heap.get?_push_of_some _ hob
        have q1 := PySem.F.sub_list_set
        have q2 := PySem.F.sub_list_frozenset
        have q3 : (Value.type "list" == Value.type "dict") = false := by decide
        have isL : (s.heap.push (bareS (!w.params.followText "set-order"))).IsList L vs := ⟨_, keepL, rfl, nb, rfl⟩
        unfold Builtin.«set.__init__» noKeywords Builtin.Frozenset.updateFrom
        generalize hPI : pyIter = PI
        wp_walk
        subst hPI
        refine wpAny_pyIter_list isL ?_
        refine wpAny_bind (wpAny_runValue ?_)
        have Llt : L < s.heap.objs.size := Heap.lt_size hob
        have calm3 : A.in1.in1.in1.handled = none := by simp [calm]
        have LneI : L ≠ (s.heap.push (bareS (!w.params.followText "set-order"))).objs.size := by
          rw [Heap.size_push]
          exact Nat.ne_of_lt (Nat.lt_succ_of_lt Llt)
        have off : s.heap.objs.size ∉ [(s.heap.push (bareS (!w.params.followText "set-order"))).objs.size, L] := by
          rw [Heap.size_push]
          intro c
          rcases List.mem_cons.mp c with c | c
          · omega
          · have c2 := List.mem_singleton.mp c
            exact absurd c2 (Nat.ne_of_gt Llt)
        have ln : zs.length = vs.size := by rw [← StrsAre.len_eq tx, Array.length_toList]
        have each : ∀ (j : Nat) (u : Value), vs[j]? = some u → ∃ tk, u = .str (zs.getD j Str.empty) tk := fun j u e => SS.strs_at tx j u (by rw [Array.getElem?_toList]; exact e)
        refine fill_texts ((Walks.list calm3 _ L LneI vs).toS) s.heap.objs.size off zs ln (by rw [← ln]; exact few) each _ (vs.size - 0) 0 (fun _ => false, 0) _ (by omega) (Nat.zero_le _) (Nat.le_refl _) rfl
          ⟨⟨_, Heap.get?_push_size _ rfl, rfl, rfl⟩, (isL.push _)⟩ ?first ?last
        case first =>
          have still : ((s.heap.push (bareS (!w.params.followText "set-order"))).push { cls := .type "list_iterator", data := .fields #[.ref L, .int 0 0] }).get? s.heap.objs.size = some (bareS (!w.params.followText "set-order")) := Heap.get?_push_of_some _ here
          exact stx_none still
        case last =>
          intro s3 mv hs3
          obtain ⟨g, gg, dd, tk, oo⟩ := s3
          obtain rfl : gg = s.gens := mv.gens
          obtain rfl : dd = s.drawn := mv.drawn
          obtain rfl : oo = s.os := mv.os
          show wpAny _ _ _ _ _ _
          refine wpAny_pure ?_
          show wpAny _ _ (ret Value.none) _ _ _
          refine wpAny_pure ⟨rfl, g, tk, rfl, hs3, fun b o hb e => ?_⟩
          refine mv.heap b o ?_ (Heap.get?_push_of_some _ (Heap.get?_push_of_some _ e))
          rw [Heap.size_push]
          intro c
          rcases List.mem_cons.mp c with c | c
          · exact absurd c (Nat.ne_of_lt hb)
          · rcases List.mem_cons.mp c with c | c
            · exact absurd c (Nat.ne_of_lt (Nat.lt_succ_of_lt hb))
            · cases c
      · cases r2 with
        | error e => exact hr2
        | ok fl2 =>
          cases fl2 with
          | ret r =>
            obtain ⟨rfl, g, tk, rfl, hg, kept⟩ := hr2
            repeat (any_goals (first | assumption | wp_step))
            exact k _ _ hg kept
          | _ => exact hr2.elim
    | _ => exact hr.elim
set_option maxHeartbeats 8000000 in
theorem set_of_textsT {L : Addr} {vs : Array Value} {zs : List Str} {Q : Value → Shared → Prop} (calm : A.handled = none) (at_ : s.heap.IsTuple L vs) (tx : StrsAre vs.toList zs) (few : zs.length + 1 < scanBound)
    (k : ∀ (g : Heap) (tk : Nat), STx prog w g s.heap.objs.size (rest zs 0 (fun _ => false, 0)).1 (rest zs 0 (fun _ => false, 0)).2 →
      (∀ b o, b < s.heap.objs.size → s.heap.get? b = some o → g.get? b = some o) → Q (.ref s.heap.objs.size) { s with heap := g, toks := tk }) :
    wpAny (model prog w) A (call (.type "set") [.ref L]) Q E s := by
  obtain ⟨u1, u2, roM⟩ := PySem.F.called_set.mro
  have mk := PySem.F.called_set.made
  have sb := PySem.F.called_set.sub
  refine wpAny_call (codeAny_of_tree ?_)
  show wpAny _ _ (callAny (.type "set") _) _ _ s
  refine wpAny_pure ⟨Code.quiet_builtin _ (by decide +kernel), codeAny_builtin PySem.F.entry_type_call ?_⟩
  rw [Around.under_plain (weight_type_call_type "set" [.ref L] []) (by rfl)]
  have nt := PySem.F.called_set.notType
  have cc := PySem.F.called_set.canCreate
  have tc := PySem.F.typeCall_set_1 (.ref L)
  repeat (any_goals (first | assumption | wp_step))
  refine codeAny_mono (code_set_led1 (.ref L) (E := E) (Q₁ := fun x s1 => x = .ref s.heap.objs.size ∧ s1 = { s with heap := s.heap.push (bareS (!w.params.followText "set-order")) }) ⟨rfl, rfl⟩) fun r s1 hr => ?_
  cases r with
  | error e => exact hr
  | ok fl =>
    cases fl with
    | ret x =>
      obtain ⟨rfl, rfl⟩ := hr
      have here : (s.heap.push (bareS (!w.params.followText "set-order"))).get? s.heap.objs.size = some (bareS (!w.params.followText "set-order")) := Heap.get?_push_size _ rfl
      have isS : Shared.TypeIs { s with heap := s.heap.push (bareS (!w.params.followText "set-order")) } (.ref s.heap.objs.size) "set" := ⟨_, here, rfl⟩
      have lk := PySem.F.called_set.init.lookup
      have bd := PySem.F.called_set.init.bind (.ref s.heap.objs.size)
      repeat (any_goals (first | assumption | wp_step))
      refine codeAny_mono (codeAny_call_builtin (R := wants (fun r s2 => r = .none ∧ ∃ g tk, s2 = { s with heap := g, toks := tk } ∧
          STx prog w g s.heap.objs.size (rest zs 0 (fun _ => false, 0)).1 (rest zs 0 (fun _ => false, 0)).2 ∧
          (∀ b o, b < s.heap.objs.size → s.heap.get? b = some o → g.get? b = some o)) E) PySem.F.called_set.init.plain PySem.F.entry_set_init (check_set_init_1 isS ?_)) fun r2 s2 hr2 => ?_
      · obtain ⟨ob, hob, clb, nb, dtb⟩ := at_
        obtain ⟨obc, obd, obx, obs⟩ := ob
        simp only at clb dtb
        subst clb; subst dtb
        have keepL : (s.heap.push (bareS (!w.params.followText "set-order"))).get? L = some { cls := .type "tuple", dict := obd, data := .seq vs nb, slots := obs } := Heap.get?_push_of_some _ hob
        have q1 := PySem.F.sub_tuple_set
        have q2 := PySem.F.sub_tuple_frozenset
        have q3 : (Value.type "tuple" == Value.type "dict") = false := by decide
        have isL : (s.heap.push (bareS (!w.params.followText "set-order"))).IsTuple L vs := ⟨_, keepL, rfl, nb, rfl⟩
        unfold Builtin.«set.__init__» noKeywords Builtin.Frozenset.updateFrom
        generalize hPI : pyIter = PI
        wp_walk
        subst hPI
        refine wpAny_pyIter_tuple isL ?_
        refine wpAny_bind (wpAny_runValue ?_)
        have Llt : L < s.heap.objs.size := Heap.lt_size hob
        have calm3 : A.in1.in1.in1.handled = none := by simp [calm]
        have LneI : L ≠ (s.heap.push (bareS (!w.params.followText "set-order"))).objs.size := by
          rw [Heap.size_push]
          exact Nat.ne_of_lt (Nat.lt_succ_of_lt Llt)
        have off : s.heap.objs.size ∉ [(s.heap.push (bareS (!w.params.followText "set-order"))).objs.size, L] := by
          rw [Heap.size_push]
          intro c
          rcases List.mem_cons.mp c with c | c
          · omega
          · have c2 := List.mem_singleton.mp c
            exact absurd c2 (Nat.ne_of_gt Llt)
        have ln : zs.length = vs.size := by rw [← StrsAre.len_eq tx, Array.length_toList]
        have each : ∀ (j : Nat) (u : Value), vs[j]? = some u → ∃ tk, u = .str (zs.getD j Str.empty) tk := fun j u e => SS.strs_at tx j u (by rw [Array.getElem?_toList]; exact e)
        refine fill_texts ((Walks.tuple calm3 _ L LneI vs).toS) s.heap.objs.size off zs ln (by rw [← ln]; exact few) each _ (vs.size - 0) 0 (fun _ => false, 0) _ (by omega) (Nat.zero_le _) (Nat.le_refl _) rfl
          ⟨⟨_, Heap.get?_push_size _ rfl, rfl, rfl⟩, (isL.push _)⟩ ?first ?last
        case first =>
          have still : ((s.heap.push (bareS (!w.params.followText "set-order"))).push { cls := .type "tuple_iterator", data := .fields #[.ref L, .int 0 0] }).get? s.heap.objs.size = some (bareS (!w.params.followText "set-order")) := Heap.get?_push_of_some _ here
          exact stx_none still
        case last =>
          intro s3 mv hs3
          obtain ⟨g, gg, dd, tk, oo⟩ := s3
          obtain rfl : gg = s.gens := mv.gens
          obtain rfl : dd = s.drawn := mv.drawn
          obtain rfl : oo = s.os := mv.os
          show wpAny _ _ _ _ _ _
          refine wpAny_pure ?_
          show wpAny _ _ (ret Value.none) _ _ _
          refine wpAny_pure ⟨rfl, g, tk, rfl, hs3, fun b o hb e => ?_⟩
          refine mv.heap b o ?_ (Heap.get?_push_of_some _ (Heap.get?_push_of_some _ e))
          rw [Heap.size_push]
          intro c
          rcases List.mem_cons.mp c with c | c
          · exact absurd c (Nat.ne_of_lt hb)
          · rcases List.mem_cons.mp c with c | c
            · exact absurd c (Nat.ne_of_lt (Nat.lt_succ_of_lt hb))
            · cases c
      · cases r2 with
        | error e => exact hr2
        | ok fl2 =>
          cases fl2 with
          | ret r =>
            obtain ⟨rfl, g, tk, rfl, hg, kept⟩ := hr2
            repeat (any_goals (first | assumption | wp_step))
            exact k _ _ hg kept
          | _ => exact hr2.elim
    | _ => exact hr.elim
end
end FL

set_option Elab.async false
set_option linter.all false
set_option maxRecDepth 100000
set_option maxHeartbeats 4000000
namespace FL
open PySem PySem.Spec PyProof.Rows
open L2
section
variable {P : Program} {w : World} {A : Around} {E : Value → Shared → Prop} {s : Shared} {a : Addr} {S : Str → Bool} {n : Nat}
theorem strs_all : ∀ {us : List Value}, (∀ u, u ∈ us → ∃ x tk, u = Value.str x tk) → StrsAre us (us.map strOf)
  | [], _ => .nil
  | u :: us, h => by
    obtain ⟨x, tk, rfl⟩ := h u List.mem_cons_self
    exact .cons x tk (strs_all fun y hy => h y (List.mem_cons_of_mem _ hy))
theorem sorted_txs {Q : Value → Shared → Prop} (R : STx P w s.heap a S n) (calm : A.handled = none) (few : n < 64)
    (k : ∀ s1 p (out : Array Value) (c : Nat) (ys : List Str), (∀ b o, s.heap.get? b = some o → s1.heap.get? b = some o) → s1.gens = s.gens → s1.os = s.os → s.heap.objs.size ≤ p →
      s1.heap.get? p = some (seqObj "list" out c) → StrsAre out.toList ys → sortedS ys = true → ys.Nodup → (∀ x, x ∈ ys ↔ S x = true) → ys.length = n → Q (.ref p) s1) :
    wpAny (model P w) A (call (.builtin "sorted") [.ref a]) Q E s := by
  obtain ⟨o, es, ep, t, ho, hex, hd, B⟩ := R
  refine Calls.call_function_entry kind_sorted plain_sorted entry_sorted (args_sorted1 _) ?_
  unfold Builtin.«sorted»
  refine wpAny_bind (m := checkCount "sorted" 1 1 _) (wpAny_pure (wpAny_bind (collect_set (A := A.in1) calm ⟨o, ho, hex.1, hd⟩ B.f (by rw [B.z]; exact B.b) B.r B.l fun s1 us k1 z1 g1 o1 pm => ?_)))
  have ln : us.length = n := by rw [pm.length_eq, List.length_map, Array.length_toList, B.z]
  have tx : StrsAre us (us.map strOf) := strs_all fun u hu => by
    obtain ⟨e, he, q⟩ := List.mem_map.mp (pm.mem_iff.mp hu)
    obtain ⟨x, tk, rfl⟩ := B.g e he
    exact ⟨x, tk, q.symm⟩
  have pt : (us.map strOf).Perm (es.toList.map txOf) := by
    have q := pm.map strOf
    rw [List.map_map] at q
    exact q
  refine wpAny_bind (wpAny_newList ?_ (by rw [ln, sizeLine_eq]; omega))
  have at1 : (s1.heap.push (seqObj "list" us.toArray 0)).get? s1.heap.objs.size = some (seqObj "list" us.toArray 0) := Heap.get?_push_size _ rfl
  refine wpAny_bind (wpAny_holding (wpAny_call_entry slot_list_sort ⟨_, at1, rfl⟩ entry_list_sort (list_sort_treeK strKind_oneLt at1 tx.keysOf (fun v1 v2 more e => keyKind_strs (by rw [← e]; exact tx)) (by rw [ln]; exact few) fun st hp hs => ⟨_, rfl, ?_⟩) (args_list_sort _)))
  obtain ⟨ys, y1, y2, y3⟩ := sorted_out_str tx hp hs
  obtain ⟨c, hc⟩ := sortedHeap_at (vs := us) (out := (arrOf st).map (·.2)) at1
  have py := y2.trans pt
  refine wpAny_pure ⟨_, rfl, k _ s1.heap.objs.size _ c ys (fun b u e => ?_) g1 o1 z1 hc y1 y3 (py.nodup_iff.mpr B.nd) (fun x => by rw [py.mem_iff, ← B.m x]) ?_⟩
  · have lb := Heap.lt_size (k1 b u e)
    show (sortedHeap (s1.heap.push (seqObj "list" us.toArray 0)) s1.heap.objs.size us _).get? b = some u
    rw [sortedHeap_old (Nat.ne_of_lt lb) (by rw [size_push']; exact Nat.lt_succ_of_lt lb)]
    exact Heap.get?_push_of_some _ (k1 b u e)
  · rw [py.length_eq, List.length_map, Array.length_toList, B.z]
end
/-! texts in order, repeats gone: as functions -/
def leX (x y : Str) : Bool := !ltCps y.cps.toList x.cps.toList
def srt (zs : List Str) : List Str := zs.mergeSort leX
def ddp : List Str → List Str
  | [] => []
  | z :: zs => if z ∈ ddp zs then ddp zs else z :: ddp zs
theorem mem_ddp {x : Str} : ∀ {zs : List Str}, x ∈ ddp zs ↔ x ∈ zs
  | [] => Iff.rfl
  | z :: zs => by
    unfold ddp
    split
    · rename_i h
      rw [mem_ddp, List.mem_cons]
      refine ⟨Or.inr, fun c => c.elim (fun e => ?_) id⟩
      rw [e]
      exact mem_ddp.1 h
    · rw [List.mem_cons, List.mem_cons, mem_ddp]
theorem nd_ddp : ∀ (zs : List Str), (ddp zs).Nodup
  | [] => List.Pairwise.nil
  | z :: zs => by
    unfold ddp
    split
    · exact nd_ddp zs
    · rename_i h
      exact List.nodup_cons.mpr ⟨h, nd_ddp zs⟩
theorem leX_iff {x y : Str} : leX x y = true ↔ x.cps.toList ≤ y.cps.toList := by
  unfold leX
  rw [ltCps_eq, Bool.not_eq_true', decide_eq_false_iff_not]
  exact Iff.rfl
theorem leX_tr {x y z : Str} (h : leX x y = true) (g : leX y z = true) : leX x z = true := leX_iff.2 (List.le_trans (leX_iff.1 h) (leX_iff.1 g))
theorem leX_to (x y : Str) : (leX x y || leX y x) = true := by
  rw [Bool.or_eq_true]
  rcases List.le_total x.cps.toList y.cps.toList with h | h
  · exact .inl (leX_iff.2 h)
  · exact .inr (leX_iff.2 h)
theorem leX_eq {x y : Str} (h : leX x y = true) (g : leX y x = true) : x = y := by
  have e := List.le_antisymm (leX_iff.1 h) (leX_iff.1 g)
  cases x
  cases y
  congr
  exact Array.toList_inj.mp e
theorem pw_rising : ∀ {p : Str} {l : List Str}, risingS p l = true → (p :: l).Pairwise (fun a b => leX a b = true)
  | p, [], _ => by simp
  | p, x :: r, h => by
    have h' : leX p x = true ∧ risingS x r = true := by
      unfold risingS at h
      rw [Bool.and_eq_true] at h
      exact h
    have q := pw_rising h'.2
    refine List.pairwise_cons.mpr ⟨fun y hy => ?_, q⟩
    rcases List.mem_cons.mp hy with e | hy
    · rw [e]
      exact h'.1
    · exact leX_tr h'.1 ((List.pairwise_cons.mp q).1 y hy)
theorem pw_sorted : ∀ {l : List Str}, sortedS l = true → l.Pairwise (fun a b => leX a b = true)
  | [], _ => List.Pairwise.nil
  | x :: r, h => pw_rising h
theorem srt_is {ys zs : List Str} (p : ys.Perm zs) (h : sortedS ys = true) : ys = srt zs := by
  refine List.Perm.eq_of_pairwise (le := fun a b => leX a b = true) (fun a b _ _ => leX_eq) (pw_sorted h) ?_ (p.trans (List.mergeSort_perm zs leX).symm)
  exact List.pairwise_mergeSort (le := leX) (fun a b c => leX_tr) leX_to zs
end FL

set_option Elab.async false
set_option linter.all false
set_option maxRecDepth 100000
set_option maxHeartbeats 2000000
namespace FL
open PySem PySem.Spec PyProof.Rows
open L2
/-! lists of texts -/
def strsP : List PyData → Option (List Str)
  | [] => some []
  | .str x :: r => (strsP r).map (x :: ·)
  | _ => none
def asSs (w : W) (S : So) : Option (List Str) := (asL w S).bind strsP
section
variable {K : PySem.W.Frag} {XR : XRel K} {H : Hp} {M : Ms} {S : So}
theorem strsP_ok : ∀ {ds : List PyData} {zs : List Str} {vs : List V}, strsP ds = some zs → DrL K H M ds vs → vs = zs.map V.str
  | [], zs, vs, e, h => by
    cases e
    unfold DrL at h
    exact h
  | d :: ds, zs, vs, e, h => by
    obtain ⟨x, r, e1, h1, h2⟩ := h.cases
    cases d with
    | str y =>
      unfold strsP at e
      cases e2 : strsP ds with
      | none => rw [e2] at e; cases e
      | some ys =>
        rw [e2] at e
        cases e
        unfold Dr at h1
        rw [e1, h1, strsP_ok e2 h2, List.map_cons]
    | none | bool _ | int _ | list _ | tuple _ | dict _ => cases e
theorem asSs_ok (l : Rl K H M S) {w : W} {v : V} {zs : List Str} (r : RW XR H M w v) (e : asSs w S = some zs) : ∃ a, v = .ref a ∧ H a = some (.lst (zs.map V.str)) := by
  unfold asSs at e
  cases e1 : asL w S with
  | none => rw [e1] at e; cases e
  | some ds =>
    rw [e1] at e
    obtain ⟨a, vs, h1, h2, h3⟩ := asL_ok l r e1
    exact ⟨a, h1, by rw [h2, strsP_ok e h3]⟩
theorem drl_strs : ∀ (zs : List Str), DrL K H M (zs.map PyData.str) (zs.map V.str)
  | [] => .nil
  | z :: zs => .cons (by unfold Dr; rfl) (drl_strs zs)
end
theorem distinct_le : ∀ (zs : List Str) (q : (Str → Bool) × Nat), (zs.foldl addTxt q).2 ≤ q.2 + zs.length
  | [], q => Nat.le_refl _
  | z :: zs, q => by
    have h := distinct_le zs (addTxt q z)
    have h1 : (addTxt q z).2 ≤ q.2 + 1 := by
      unfold addTxt
      dsimp only
      split <;> omega
    show (zs.foldl addTxt (addTxt q z)).2 ≤ q.2 + (zs.length + 1)
    omega
theorem mem_fold : ∀ (zs : List Str) (q : (Str → Bool) × Nat) (x : Str), (zs.foldl addTxt q).1 x = true ↔ q.1 x = true ∨ x ∈ zs
  | [], q, x => by simp
  | z :: zs, q, x => by
    rw [List.foldl_cons, mem_fold zs, List.mem_cons]
    unfold addTxt
    dsimp only
    rw [Bool.or_eq_true, decide_eq_true_eq]
    exact or_assoc
/-! len(set(e)), sorted(set(e)) of a list or a tuple of texts -/
def asQs (w : W) (S : So) : Option (List Str) := (seqW w S).bind strsP
theorem asQs_ok {K : PySem.W.Frag} {XR : XRel K} {H : Hp} {M : Ms} {S : So} (l : Rl K H M S) {w : W} {v : V} {zs : List Str} (r : RW XR H M w v) (e : asQs w S = some zs) : ∃ a, v = .ref a ∧ (SqT K H a (zs.map V.str) ∨ SqL K H a (zs.map V.str)) := by
  unfold asQs at e
  unfold seqW at e
  split at e
  · rename_i ds e1
    obtain ⟨a, vs, h1, h2, h3⟩ := asL_ok l r e1
    rw [strsP_ok e h3] at h2
    exact ⟨a, h1, .inr (SqL.of h2)⟩
  · cases e1 : asT w with
    | none => rw [e1] at e; cases e
    | some ds =>
      rw [e1] at e
      obtain ⟨a, vs, h1, h2, h3⟩ := asT_ok r e1
      rw [strsP_ok e h3] at h2
      exact ⟨a, h1, .inl h2.sq⟩
def fLenSet (fe : FE) : FE := fun ev S => (fe ev S).bind fun x S1 => match asQs x S1 with
  | some zs => if zs.length ≤ 1000 then .ok (.d (.int (distinct zs : Nat))) S1 else .no
  | none => .no
def fSortSet (fe : FE) : FE := fun ev S => (fe ev S).bind fun x S1 => match asQs x S1 with
  | some zs => if zs.length < 64 then .ok (.d (.list ((srt (ddp zs)).map .str))) S1 else .no
  | none => .no
section
variable {X : Cx} {XR : XRel X.K} {Wx : WX} {n : Nat} {e : Expr} {fe : FE} {p p2 r pos : Pos}
theorem set_run {pins : List (Addr × Obj)} {σ : L2.St} {H : Hp} {s : Shared} {a : Addr} {zs : List Str} {Q : Value → Shared → Prop} (hc : X.calm = true) (I : Inv X pins σ H s) (ha : SqT X.K H a (zs.map V.str) ∨ SqL X.K H a (zs.map V.str)) (few : zs.length ≤ 1000)
    (k : ∀ (g : Heap) (tk : Nat), STx X.prog X.w g s.heap.objs.size (rest zs 0 (fun _ => false, 0)).1 (distinct zs) → Inv X pins σ H { s with heap := g, toks := tk } → Q (.ref s.heap.objs.size) { s with heap := g, toks := tk }) :
    wpAny (model X.prog X.w) X.A (call (.type "set") [.ref a]) Q X.xe s := by
  rcases ha with ha | ha
  · obtain ⟨us, ru, pl, hz⟩ := I.tuple ha
    refine set_of_textsT (zs := zs) (I.ok.hd hc) pl (by simpa using strsAre_of ru) (by unfold scanBound; omega) fun g tk hS kept => ?_
    exact k g tk hS (I.kept fun b o e => kept b o (Heap.lt_size e) e)
  · obtain ⟨us, ru, pl, hz⟩ := I.list ha
    refine set_of_texts (zs := zs) (I.ok.hd hc) pl.isList (by simpa using strsAre_of ru) (by unfold scanBound; omega) fun g tk hS kept => ?_
    exact k g tk hS (I.kept fun b o e => kept b o (Heap.lt_size e) e)
theorem fe_lenSet (C : Ct X Wx n) (m1 : X.mg "len" = none) (g1 : Gl X "len") (m2 : X.mg "set" = none) (g2 : Gl X "set") (he : FEx X XR Wx e fe)
    (na : starEach [e] X.env = (false, eval e X.env) :: starEach [] X.env := by rfl) : FEx X XR Wx (.Call (.Name "len" p) [.Call (.Name "set" p2) [e] [] r] [] pos) (fLenSet fe) := by
  refine ⟨fun pins s σ H Q I h => ?_⟩
  obtain ⟨M, S, ev, l, rs, h⟩ := h
  refine Call_ (ld_blt I g1 m1 boot_len ?_)
  refine PyProof.Rows.callWith_builtin1 (PyProof.Rows.args_cons ?_ rfl) rfl rfl
  refine Call_ (ld_blt I g2 m2 boot_set ?_)
  refine PyProof.Rows.callWith_type1 (PyProof.Rows.args_cons (thn (he.run pins s σ H (fun x H1 => ∃ (a : Addr) (zs : List Str), x = .ref a ∧ (SqT X.K H1 a (zs.map V.str) ∨ SqL X.K H1 a (zs.map V.str)) ∧ zs.length ≤ 1000 ∧ Q (.int (distinct zs : Nat)) H1) I ⟨M, S, ev, l, rs, Pst.cut h ?_⟩) fun v s1 ⟨x, H1, I1, rx, q1⟩ => PyProof.Rows.args_nil ?_) na) na rfl
  · intro x S1 M1 H1 vx _ s1 l1 r1 h1
    split at h1
    · rename_i zs e1
      split at h1
      · rename_i few
        obtain ⟨a, e2, e3⟩ := asQs_ok l1 r1 e1
        exact ⟨a, zs, e2, e3, few, imm_i l1 h1⟩
      · exact h1.elim
    · exact h1.elim
  · obtain ⟨a, zs, rfl, ha, few, q1⟩ := q1
    cases rx
    refine set_run C.cal I1 ha few fun g tk hS I2 => ?_
    refine PyProof.Rows.args_nil ?_
    have dl : distinct zs ≤ 0 + zs.length := distinct_le zs (fun _ => false, 0)
    obtain ⟨o, es, ep, tb, ho, hex, hd, B⟩ := hS
    exact call_len_set ho hex hd B.f (by rw [B.z]; omega) ⟨.int (distinct zs : Nat), H1, I2.tok _, ⟨_, by rw [B.z]⟩, q1⟩
theorem fe_sortSet (C : Ct X Wx n) (m1 : X.mg "sorted" = none) (g1 : Gl X "sorted") (m2 : X.mg "set" = none) (g2 : Gl X "set") (he : FEx X XR Wx e fe)
    (na : starEach [e] X.env = (false, eval e X.env) :: starEach [] X.env := by rfl) : FEx X XR Wx (.Call (.Name "sorted" p) [.Call (.Name "set" p2) [e] [] r] [] pos) (fSortSet fe) := by
  refine ⟨fun pins s σ H Q I h => ?_⟩
  obtain ⟨M, S, ev, l, rs, h⟩ := h
  refine Call_ (ld_blt I g1 m1 (by rfl) ?_)
  refine PyProof.Rows.callWith_builtin1 (PyProof.Rows.args_cons ?_ rfl) rfl rfl
  refine Call_ (ld_blt I g2 m2 boot_set ?_)
  refine PyProof.Rows.callWith_type1 (PyProof.Rows.args_cons (thn (he.run pins s σ H (fun x H1 => ∃ (a : Addr) (zs : List Str), x = .ref a ∧ (SqT X.K H1 a (zs.map V.str) ∨ SqL X.K H1 a (zs.map V.str)) ∧ zs.length < 64 ∧ ∀ p, H1 p = none → Q (.ref p) (upd H1 p (.lst ((srt (ddp zs)).map V.str)))) I ⟨M, S, ev, l, rs, Pst.cut h ?_⟩) fun v s1 ⟨x, H1, I1, rx, q1⟩ => PyProof.Rows.args_nil ?_) na) na rfl
  · intro x S1 M1 H1 vx _ s1 l1 r1 h1
    split at h1
    · rename_i zs e1
      split at h1
      · rename_i few
        obtain ⟨a, e2, e3⟩ := asQs_ok l1 r1 e1
        exact ⟨a, zs, e2, e3, few, fun p np => new_l l1 h1 np (drl_strs _)⟩
      · exact h1.elim
    · exact h1.elim
  · obtain ⟨a, zs, rfl, ha, few, q1⟩ := q1
    cases rx
    refine set_run C.cal I1 ha (by omega) fun g tk hS I2 => ?_
    refine PyProof.Rows.args_nil ?_
    have dl : distinct zs ≤ 0 + zs.length := distinct_le zs (fun _ => false, 0)
    have hS2 : STx X.prog X.w ({ s1 with heap := g, toks := tk } : Shared).heap s1.heap.objs.size (rest zs 0 (fun _ => false, 0)).1 (distinct zs) := hS
    generalize ({ s1 with heap := g, toks := tk } : Shared) = s2 at I2 hS2 ⊢
    refine sorted_txs hS2 (I2.ok.hd C.cal) (by omega) fun s' p out c ys k1 g3 o3 hp hg hi hs hn hm hl => ?_
    have ey : ys = srt (ddp zs) := srt_is ((List.perm_ext_iff_of_nodup hn (nd_ddp zs)).2 fun x => by
      rw [hm x, mem_ddp]
      have q := mem_fold zs (fun _ => false, 0) x
      refine q.trans ⟨fun c => c.elim (fun z => by cases z) id, Or.inr⟩) hs
    have np : H1 p = none := I2.hok.fresh hp
    have len : (ys.map V.str).length ≤ sizeLine := by rw [List.length_map, hl, sizeLine_eq]; omega
    have J : Inv X pins σ (upd H1 p (.lst (ys.map V.str))) { s2 with heap := s'.heap, gens := s'.gens, drawn := s'.drawn, toks := s'.toks } :=
      I2.call (ch := []) (Un.laid k1 hp np) (I2.hok.laid k1 hp ⟨len, out.toList, c, vals_of_strs hi, hg⟩) (by rw [g3]; exact I2.bare) (fun _ z => nomatch z)
    have e : s' = { s2 with heap := s'.heap, gens := s'.gens, drawn := s'.drawn, toks := s'.toks } := by
      cases s'
      cases s2
      cases o3
      rfl
    rw [e]
    rw [ey] at J
    exact ⟨.ref p, _, J, rfl, q1 p np⟩
/-! sorted(e), a list of texts -/
def sortW (w : W) (S : So) : Res W := match asSs w S with
  | some zs => if zs.length < 64 then .ok (.d (.list ((srt zs).map .str))) S else .no
  | none => .no
theorem nx_sort : NX1 sortW := by
  intro x S c f S' e
  unfold sortW at e
  split at e
  · split at e <;> cases e
  · cases e
theorem opn_sort : OpN XR (o1 sortW) (rSortedS X.K) := by
  intro H M S S' xs w vs Q l rx e q
  unfold o1 at e
  split at e
  · rename_i x
    cases rx with
    | cons r rr =>
      cases rr
      unfold sortW at e
      split at e
      · rename_i zs e1
        split at e
        · rename_i few
          cases e
          obtain ⟨a, h1, h2⟩ := asSs_ok l r e1
          subst h1
          refine ⟨a, zs, rfl, SqL.of h2, few, fun ys p py hs np => ?_⟩
          rw [srt_is py hs]
          exact new_l l q np (drl_strs _)
        · cases e
      · cases e
  · cases e
theorem fe_sort {fr : FA} (C : Ct X Wx n) (hm : X.mg "sorted" = none) (hg : Gl X "sorted") (ha : FAx X XR Wx [e] fr) (he : starEach [e] X.env = (false, eval e X.env) :: starEach [] X.env := by rfl) : FEx X XR Wx (.Call (.Name "sorted" p) [e] [] pos) (fB1 (o1 sortW) fr) :=
  fe_bi cr_sortedS opn_sort (nx_o1 nx_sort) hg hm (by rfl) ha (by decide) (by decide) he
end
end FL

set_option Elab.async false
set_option linter.all false
set_option maxRecDepth 100000
set_option maxHeartbeats 2000000
namespace FL
open PySem PySem.Spec PyProof.Rows
open L2
/-! dict(e), e a list or a tuple of pairs -/
def PlT (K : PySem.W.Frag) (H : Hp) (a : Addr) (xs : List V) : Prop := (∃ o, o.dict = none ∧ H a = some (.frz o (.tup xs))) ∨
  ∃ (o : Obj) (its : Array Value) (n : Nat), K.lookup a = some o ∧ o.cls = .type "tuple" ∧ o.dict = none ∧ o.data = .seq its n ∧ its.size ≤ sizeLine ∧ Vals xs its.toList
def rDictOf (K : PySem.W.Frag) : List V → Hp → VK → Prop := fun xs H Q => ∃ (a : Addr) (ps : List Addr) (kvs : List (Key × V)), xs = [.ref a] ∧ (SqL K H a (ps.map V.ref) ∨ PlT K H a (ps.map V.ref)) ∧
  Paired (fun p kv => SqT K H p [kV kv.1, kv.2]) ps kvs ∧ ∀ p, H p = none → Q (.ref p) (upd H p (.dK (mergeK [] kvs)))
section
variable {X : Cx} {pins : List (Addr × Obj)} {σ : L2.St} {H : Hp} {s : Shared}
theorem PlT.at {a : Addr} {xs : List V} (I : Inv X pins σ H s) (h : PlT X.K H a xs) : ∃ its : List Value, Vals xs its ∧ PlainSeq "tuple" s.heap a its.toArray ∧ xs.length ≤ sizeLine := by
  rcases h with ⟨o, hd, e⟩ | ⟨o, its, n, hk, hc, hd, hs, hz, r⟩
  · obtain ⟨e1, hz, its, r, o2, e2, hc, n, hs⟩ := (show ObjOk X.prog X.w H s.heap a (.frz o (.tup xs)) from I.hok a _ e)
    rw [e1] at e2
    cases e2
    exact ⟨its, r, ⟨o, n, e1, hc, hd, hs⟩, hz⟩
  · have ln : xs.length = its.toList.length := r.length
    exact ⟨its.toList, r, ⟨o, n, I.kIn a o hk, hc, hd, by simpa using hs⟩, by rw [ln, Array.length_toList]; exact hz⟩
theorem two_of (I : Inv X pins σ H s) : ∀ {ps : List Addr} {kvs : List (Key × V)}, Paired (fun p kv => SqT X.K H p [kV kv.1, kv.2]) ps kvs →
    ∃ (prs : List (Key × Value)) (vps : List (Value × Value)), KV kvs prs ∧ prs.length = ps.length ∧ vps.length = ps.length ∧
      ∀ (j : Nat) (k v : Value), vps[j]? = some (k, v) → (∃ b, ps[j]? = some b ∧ s.heap.IsTuple b #[k, v]) ∧ ∃ q, prs[j]? = some (q, v) ∧ keyIs q k = true
  | _, _, .nil => ⟨[], [], .nil, rfl, rfl, fun j k v e => by simp at e⟩
  | _, _, .cons (a := p) (b := kv) h t => by
    obtain ⟨prs, vps, r, l1, l2, hp⟩ := two_of I t
    obtain ⟨its, rv, ht, _⟩ := I.tuple h
    obtain ⟨u, y, rfl, ru, ry⟩ := vals2 rv
    refine ⟨(kv.1, y) :: prs, (u, y) :: vps, .cons ⟨rfl, ry⟩ r, by rw [List.length_cons, List.length_cons, l1], by rw [List.length_cons, List.length_cons, l2], fun j k v e => ?_⟩
    cases j with
    | zero =>
      have e2 : (u, y) = (k, v) := Option.some.inj e
      cases e2
      exact ⟨⟨p, rfl, ht⟩, kv.1, rfl, kV_is (P := X.prog) (w := X.w) ru⟩
    | succ j =>
      obtain ⟨⟨b, e1, e2⟩, q, e3, e4⟩ := hp j k v (by simpa using e)
      exact ⟨⟨b, by simpa using e1, e2⟩, q, by simpa using e3, e4⟩
theorem call_dictOf (calm : X.calm = true) : CallR X (.type "dict") (rDictOf X.K) := by
  intro pins s σ H xs us Q I r h
  obtain ⟨a, ps, kvs, rfl, hq, hp, q⟩ := h
  obtain ⟨u, rfl, rx⟩ := vals1 r
  cases rx
  obtain ⟨prs, vps, rel, l1, l2, at_⟩ := two_of I hp
  have items : ∀ its : List Value, Vals (ps.map V.ref) its → PairItems s.heap its.toArray (fun j => ps.getD j 0) vps := fun its rv => by
    have e := refs_at rv
    subst e
    refine ⟨by simp [l2], fun j k v e => ?_⟩
    obtain ⟨⟨b, e1, e2⟩, _⟩ := at_ j k v e
    have e3 : ps.getD j 0 = b := by rw [List.getD_eq_getElem?_getD, e1]; rfl
    exact ⟨by simp [e1], by show PairAt s.heap (ps.getD j 0) k v; rw [e3]; exact .inl e2⟩
  have have_ : PairsHave (mixKind X.prog X.w) vps.length (PairRel vps) prs := ⟨by rw [l1, l2], fun i k v e => by
    obtain ⟨_, q, e3, e4⟩ := at_ i k v e
    exact ⟨q, e3, e4⟩⟩
  have done : vps.length ≤ sizeLine → ∀ (h' : Heap) (tk : Tok), h'.DictOf (mixKind X.prog X.w) s.heap.objs.size (merged [] prs) → (∀ b o, b ∉ ([] : List Addr) → s.heap.get? b = some o → h'.get? b = some o) →
      ∃ x H2, Inv X pins σ H2 { s with heap := h', toks := tk } ∧ RelV x (.ref s.heap.objs.size) ∧ Q x H2 := fun hz h' tk hd hk => by
    have ne : (s.heap.objs.size == sysModules) = false := beq_eq_false_iff_ne.mpr (Nat.ne_of_gt I.big)
    have few : (mergeK [] kvs).length ≤ sizeLine := by
      refine Nat.le_trans (length_mergeK kvs []) ?_
      rw [List.length_nil, Nat.zero_add, rel.length, l1, ← l2]
      exact hz
    exact ⟨.ref s.heap.objs.size, upd H s.heap.objs.size (.dK (mergeK [] kvs)), I.laid (t' := tk) (fun b o e => hk b o (by simp) e) (Nat.le_refl _) ⟨few, ne, merged [] prs, KV.merge rel .nil, hd⟩, rfl, q _ (I.hok.fresh (Nat.le_refl _))⟩
  rcases hq with hq | hq
  · obtain ⟨its, rv, pl, hz⟩ := I.list hq
    have hz2 : vps.length ≤ sizeLine := by rw [l2, ← List.length_map (f := V.ref)]; exact hz
    exact PySem.call_dict_pairs (PairArg.list a its.toArray (fun j => ps.getD j 0) vps) (I.ok.hd calm) ⟨pl, items its rv⟩ have_ hz2 (done hz2)
  · obtain ⟨its, rv, pl, hz⟩ := hq.at I
    have hz2 : vps.length ≤ sizeLine := by rw [l2, ← List.length_map (f := V.ref)]; exact hz
    exact PySem.call_dict_pairs (PairArg.tuple a its.toArray (fun j => ps.getD j 0) vps) (I.ok.hd calm) ⟨pl, items its rv⟩ have_ hz2 (done hz2)
end
def pairsP : List PyData → Option (List (Key × PyData))
  | [] => some []
  | .tuple [.str k, d] :: r => (pairsP r).map ((.inr k, d) :: ·)
  | .tuple [.int k, d] :: r => (pairsP r).map ((.inl k, d) :: ·)
  | _ => none
def pairsW (w : W) (S : So) : Option (List (Key × PyData)) := match asT w with
  | some ds => pairsP ds
  | none => (asL w S).bind pairsP
def dictW (w : W) (S : So) : Res W := match pairsW w S with
  | some kvs => .ok (.k (mergeP [] kvs)) S
  | none => .no
def dictM (w : W) (S : So) : Res W := match pairsW w S with
  | some kvs => .ok (.r S.length) (S ++ [.k (mergeP [] kvs)])
  | none => .no
section
variable {K : PySem.W.Frag} {XR : XRel K} {H : Hp} {M : Ms} {S : So}
theorem pair_of {k : Key} {d kd : PyData} {v : V} (hk : ∀ x, Dr K H M kd x → x = kV k) (h : Dr K H M (.tuple [kd, d]) v) : ∃ p y, v = .ref p ∧ SqT K H p [kV k, y] ∧ Dr K H M d y := by
  unfold Dr at h
  obtain ⟨p, xs, e, q, r⟩ := h
  obtain ⟨x1, r1, e1, h1, h2⟩ := r.cases
  obtain ⟨x2, r2, e2, h3, h4⟩ := h2.cases
  unfold DrL at h4
  subst h4 e2 e1
  rw [hk x1 h1] at q
  exact ⟨p, x2, e, q.sq, h3⟩
theorem pairsP_ok : ∀ {ds : List PyData} {kvs : List (Key × PyData)} {vs : List V}, pairsP ds = some kvs → DrL K H M ds vs →
    ∃ ps kw, vs = ps.map V.ref ∧ Paired (fun p kv => SqT K H p [kV kv.1, kv.2]) ps kw ∧ Paired (KD (K := K) H M) kvs kw
  | [], kvs, vs, e, h => by
    cases e
    unfold DrL at h
    exact ⟨[], [], h, .nil, .nil⟩
  | d :: ds, kvs, vs, e, h => by
    obtain ⟨x, r, e1, h1, h2⟩ := h.cases
    subst e1
    unfold pairsP at e
    split at e
    · rename_i heq
      cases heq
    · rename_i k y r2 heq
      cases heq
      cases e2 : pairsP ds with
      | none => rw [e2] at e; cases e
      | some ks =>
        rw [e2] at e
        cases e
        obtain ⟨ps, kw, e3, q1, q2⟩ := pairsP_ok e2 h2
        obtain ⟨p, z, e4, q3, q4⟩ := pair_of (k := .inr k) (fun x hx => by unfold Dr at hx; exact hx) h1
        exact ⟨p :: ps, (.inr k, z) :: kw, by rw [e3, e4, List.map_cons], .cons q3 q1, .cons ⟨rfl, q4⟩ q2⟩
    · rename_i k y r2 heq
      cases heq
      cases e2 : pairsP ds with
      | none => rw [e2] at e; cases e
      | some ks =>
        rw [e2] at e
        cases e
        obtain ⟨ps, kw, e3, q1, q2⟩ := pairsP_ok e2 h2
        obtain ⟨p, z, e4, q3, q4⟩ := pair_of (k := .inl k) (fun x hx => by unfold Dr at hx; exact hx) h1
        exact ⟨p :: ps, (.inl k, z) :: kw, by rw [e3, e4, List.map_cons], .cons q3 q1, .cons ⟨rfl, q4⟩ q2⟩
    · cases e
theorem FzT.pl {a : Addr} {xs : List V} (h : FzT K H M a xs) : PlT K H a xs := by
  rcases h with ⟨_, h⟩ | h
  · exact .inl h
  · exact .inr h
theorem pairsW_ok (l : Rl K H M S) {w : W} {v : V} {kvs : List (Key × PyData)} (r : RW XR H M w v) (e : pairsW w S = some kvs) :
    ∃ a ps kw, v = .ref a ∧ (SqL K H a (ps.map V.ref) ∨ PlT K H a (ps.map V.ref)) ∧ Paired (fun p kv => SqT K H p [kV kv.1, kv.2]) ps kw ∧ Paired (KD (K := K) H M) kvs kw := by
  unfold pairsW at e
  split at e
  · rename_i ds e1
    obtain ⟨a, vs, h1, h2, h3⟩ := asT_ok r e1
    obtain ⟨ps, kw, e3, q1, q2⟩ := pairsP_ok e h3
    exact ⟨a, ps, kw, h1, .inr (by rw [← e3]; exact h2.pl), q1, q2⟩
  · cases e1 : asL w S with
    | none => rw [e1] at e; cases e
    | some ds =>
      rw [e1] at e
      obtain ⟨a, vs, h1, h2, h3⟩ := asL_ok l r e1
      obtain ⟨ps, kw, e3, q1, q2⟩ := pairsP_ok e h3
      exact ⟨a, ps, kw, h1, .inl (by rw [← e3]; exact SqL.of h2), q1, q2⟩
theorem nx_dict : NX1 dictW := by
  intro x S c f S' e
  unfold dictW at e
  split at e <;> cases e
theorem nx_dictM : NX1 dictM := by
  intro x S c f S' e
  unfold dictM at e
  split at e <;> cases e
end
section
variable {X : Cx} {XR : XRel X.K} {Wx : WX} {n : Nat} {e : Expr} {fr : FA} {p pos : Pos}
theorem opn_dict : OpN XR (o1 dictW) (rDictOf X.K) := by
  intro H M S S' xs w vs Q l rx e q
  unfold o1 at e
  split at e
  · cases rx with
    | cons r rr =>
      cases rr
      unfold dictW at e
      split at e
      · rename_i kvs e1
        cases e
        obtain ⟨a, ps, kw, h1, h2, h3, h4⟩ := pairsW_ok l r e1
        subst h1
        refine ⟨a, ps, kw, rfl, h2, h3, fun p np => q M _ _ (stp_new np) (l.new np) ⟨p, _, rfl, l.notin np, upd_same, ?_⟩⟩
        exact merge_ok (X := X) (KD.stp (stp_new np) h4) .nil
      · cases e
  · cases e
theorem opn_dictM : OpN XR (o1 dictM) (rDictOf X.K) := by
  intro H M S S' xs w vs Q l rx e q
  unfold o1 at e
  split at e
  · cases rx with
    | cons r rr =>
      cases rr
      unfold dictM at e
      split at e
      · rename_i kvs e1
        cases e
        obtain ⟨a, ps, kw, h1, h2, h3, h4⟩ := pairsW_ok l r e1
        subst h1
        refine ⟨a, ps, kw, rfl, h2, h3, fun p np => q (M.add p) _ _ (stp_mut np) (l.mut np ⟨_, rfl, merge_ok (X := X) (KD.stp (stp_mut np) h4) .nil⟩) ⟨p, ?_, rfl⟩⟩
        have ln : M.m.length = S.length := Paired.length l.ob
        show (M.m ++ [p])[S.length]? = some p
        rw [← ln]
        simp
      · cases e
  · cases e
theorem bDict : bootBuiltins "dict" = some (.type "dict") := by rfl
theorem fe_dict (C : Ct X Wx n) (hm : X.mg "dict" = none) (hg : Gl X "dict") (ha : FAx X XR Wx [e] fr) (he : starEach [e] X.env = (false, eval e X.env) :: starEach [] X.env := by rfl) : FEx X XR Wx (.Call (.Name "dict" p) [e] [] pos) (fB1 (o1 dictW) fr) :=
  fe_ty (call_dictOf C.cal) opn_dict (nx_o1 nx_dict) hg hm bDict ha (by decide) (by decide) he
theorem fe_dictM (C : Ct X Wx n) (hm : X.mg "dict" = none) (hg : Gl X "dict") (ha : FAx X XR Wx [e] fr) (he : starEach [e] X.env = (false, eval e X.env) :: starEach [] X.env := by rfl) : FEx X XR Wx (.Call (.Name "dict" p) [e] [] pos) (fB1 (o1 dictM) fr) :=
  fe_ty (call_dictOf C.cal) opn_dictM (nx_o1 nx_dictM) hg hm bDict ha (by decide) (by decide) he
end
end FL

set_option Elab.async false
set_option linter.all false
set_option maxRecDepth 100000
set_option maxHeartbeats 2000000
/-! ### tuple(d), d a dict -/
namespace FL
open PySem PySem.Spec PyProof.Rows
open L2
section
variable {prog : Program} {w : World} {A : Around} {E : Value → Shared → Prop} {s : Shared} {T : String} {r d : Addr} {n : Nat} {P : Nat → Value → Prop} {OK : Heap → Prop}
theorem collect_kdl {Q : List Value → Shared → Prop} (K : PySem.W.KdlSrc prog w T r d n P OK) (hh : A.handled = none) (hok : OK s.heap) (hn : n ≤ sizeLine)
    (hQ : ∀ (h' : Heap) (tk : Nat) (acc : Array Value), (∀ b o, s.heap.get? b = some o → h'.get? b = some o) → ItemsOf P acc n → Q acc.toList { s with heap := h', toks := tk }) :
    wpAny (model prog w) A (collect (.ref r)) Q E s := by
  unfold collect
  refine wpAny_bind (wpAny_runValue (codeAny_builtin F.entry_proto_collect ?_))
  rw [Around.under_plainId F.plain_proto_collect _]
  show wpAny _ A.in1 (newList [] >>= fun l => again (.builtin "list.__iadd__" ⟨[l, .ref r], []⟩)) _ _ s
  refine wpAny_bind (wpAny_newObj_type ?_)
  refine wpAny_pure ⟨plainId_quiet F.plain_list_iadd _, codeAny_builtin F.entry_list_iadd ?_⟩
  rw [Around.under_plainId F.plain_list_iadd _]
  show wpAny _ A.in1 (Builtin.List.listExtendWith (.ref s.heap.objs.size) (.ref r) (.ref s.heap.objs.size)) _ _ _
  have hS : (s.heap.push { cls := .type "list", data := .seq ([] : List Value).toArray }).get? s.heap.objs.size = some { cls := .type "list", data := .seq #[] 0 } := Heap.get?_push_size _ rfl
  obtain ⟨t1, t2⟩ := K.there _ hok
  refine wpAny_mono (PySem.W.kdl_extend (A := A) (R := fun rr s' => rr = .ok (.ret (.ref s.heap.objs.size)) ∧ ∃ (h' : Heap) (tk : Nat) (acc : Array Value) (c' : Nat), s' = { s with heap := h', toks := tk } ∧
      (∀ b o, s.heap.get? b = some o → h'.get? b = some o) ∧ h'.get? s.heap.objs.size = some { cls := .type "list", dict := none, data := .seq acc c', slots := #[] } ∧ ItemsOf P acc n)
    (s := { s with heap := s.heap.push { cls := .type "list", data := .seq ([] : List Value).toArray } }) K hh (K.keep _ _ hok fun b _ o e => Heap.get?_push_of_some _ e) s.heap.objs.size (Nat.ne_of_gt t1) (Nat.ne_of_gt t2) _ 0 hS
    (fun h' tk acc c' hk e hi => ⟨rfl, h', tk, acc, c', rfl, fun b o q => hk b o (Nat.ne_of_lt (Heap.lt_size q)) (Heap.get?_push_of_some _ q), e, hi⟩) hn) (fun fin s' h => ?_) (fun e s' h => ?_)
  · cases fin with
    | done f =>
      obtain ⟨e, h', tk, acc, c', rfl, hk, hS', hi⟩ := h
      cases e
      show wpAny _ A (load s.heap.objs.size >>= _) _ _ _
      exact wpAny_bind (wpAny_load hS' (wpAny_pure (hQ h' tk acc hk hi)))
    | again c' =>
      refine ⟨h.1, codeAny_mono h.2 fun rr s'' hr' => ?_⟩
      obtain ⟨rfl, h', tk, acc, c', rfl, hk, hS', hi⟩ := hr'
      show wpAny _ A (load s.heap.objs.size >>= _) _ _ _
      exact wpAny_bind (wpAny_load hS' (wpAny_pure (hQ h' tk acc hk hi)))
  · exact absurd h.1 (by simp)
theorem code_tuple_new_kdl {Q₁ : Value → Shared → Prop} (K : PySem.W.KdlSrc prog w "dict" r d n P OK) (hh : A.handled = none) (hok : OK s.heap) (hn : n ≤ sizeLine)
    (h : ∀ (h' : Heap) (tk : Nat) (acc : Array Value), (∀ b o, s.heap.get? b = some o → h'.get? b = some o) → ItemsOf P acc n →
      Q₁ (.ref h'.objs.size) { s with heap := h'.push { cls := .type "tuple", data := .seq acc }, toks := tk }) :
    codeAny (model prog w) A (.call (.builtin "tuple.__new__") ⟨[.type "tuple", .ref r], []⟩) (wants Q₁ E) s := by
  refine codeAny_of_tree ?_
  show wpAny _ A.in1 (do checkBuiltinCall "tuple.__new__" ⟨[.type "tuple", .ref r], []⟩; again (.builtin "tuple.__new__" ⟨[.type "tuple", .ref r], []⟩)) _ _ s
  refine wpAny_bind (wpAny_of_eq (F.newCall_tuple_1 _) (wpAny_pure ⟨plainId_quiet F.plain_tuple_new _, codeAny_builtin F.entry_tuple_new ?_⟩))
  rw [Around.under_plainId F.plain_tuple_new _]
  have hsub := sub_tuple_self
  have hinit := init_tuple_lookup
  have hmh := madeHere_tuple
  have hh1 : A.in1.handled = none := hh
  have hTI : s.TypeIs (.ref r) "dict" := K.type s hok
  wp_walk using wpAny_typeOf hTI, collect_kdl (A := A.in1) K hh1 hok hn
  all_goals try (intro h' tk acc hk hacc)
  all_goals try (show wpAny _ _ (Builtin.Tuple.tupleExact acc.toList.toArray >>= fun v => ret v) _ _ _)
  all_goals try (unfold Builtin.Tuple.tupleExact)
  all_goals try (refine wpAny_bind (wpAny_newObj_type ?_ (by show acc.toList.toArray.size ≤ sizeLine; simp only [Array.toArray_toList]; rw [hacc.1]; exact hn)))
  all_goals try (refine wpAny_pure ?_)
  all_goals try (have e : acc.toList.toArray = acc := by simp)
  all_goals try (rw [e])
  all_goals try (exact h h' tk acc hk hacc)
theorem call_tuple_kdl {Q : Value → Shared → Prop} (K : PySem.W.KdlSrc prog w "dict" r d n P OK) (hh : A.handled = none) (hok : OK s.heap) (hn : n ≤ sizeLine)
    (hQ : ∀ (h' : Heap) (tk : Nat) (acc : Array Value), (∀ b o, s.heap.get? b = some o → h'.get? b = some o) → ItemsOf P acc n →
      Q (.ref h'.objs.size) { s with heap := h'.push { cls := .type "tuple", data := .seq acc }, toks := tk }) :
    wpAny (model prog w) A (call (.type "tuple") [.ref r]) Q E s := by
  refine callType_codes (Q₁ := fun obj s₁ => s₁.TypeIs obj "tuple" ∧ Q obj s₁) F.called_tuple (F.typeCall_tuple_1 _) F.entry_object_init
    (code_tuple_new_kdl (A := A.in1) K hh hok hn fun h' tk acc hk hacc => ⟨⟨_, Heap.get?_push_size _ rfl, rfl⟩, hQ h' tk acc hk hacc⟩) fun obj s₁ h₁ => ?_
  exact ⟨h₁.1, F.args_object_init_2 obj _, object_init_meets F.called_tuple.init.lookup F.called_tuple.made (by decide) prog w A.in1 _ s₁ ⟨h₁.1, rfl, h₁.2⟩⟩
end
def rTupD : List V → Hp → VK → Prop := fun xs H Q => ∃ p kvs, xs = [.ref p] ∧ H p = some (.dK kvs) ∧ NewT H (kvs.map fun kv => kV kv.1) Q
theorem call_tuple_dK {X : Cx} (hc : X.calm = true) : CallR X (.type "tuple") rTupD := by
  intro pins s σ H xs us Q I r h
  obtain ⟨p, kvs, e, hk, q⟩ := h
  subst e
  obtain ⟨u, eu, rx⟩ := vals1 r
  subst eu
  obtain rfl : u = Value.ref p := rx
  obtain ⟨z, lo, vs, rk, hd⟩ := (show ObjOk X.prog X.w H s.heap p (.dK kvs) from I.hok p _ hk)
  obtain ⟨ep, hat⟩ := hd.dictAt
  have hl : kvs.length = vs.length := Paired.length rk
  refine call_tuple_kdl (PySem.W.kdl_dict (knd := mixKind X.prog X.w) (kvs := vs) (ep := ep) lo) (I.ok.hd hc) hat (by rw [← hl]; exact z) fun h' tk acc hkeep hacc => ?_
  have I2 : Inv X pins σ H { s with heap := h', toks := tk } := I.kept hkeep
  have el : acc.toList.length = acc.size := by simp
  have rv : Vals (kvs.map fun kv => kV kv.1) acc.toList := by
    refine vals_of_at (by rw [List.length_map, el, hacc.1, hl]) fun j x w h1 h2 => ?_
    obtain ⟨k, y, hky, hi⟩ := hacc.2 j w (by rw [← Array.getElem?_toList]; exact h2)
    have e1 : (kvs.map (·.1))[j]? = some k := by
      rw [KV.keys rk, List.getElem?_map, hky] <;> rfl
    have e2 : (kvs.map fun kv => kV kv.1)[j]? = some (kV k) := by
      have e3 : (kvs.map fun kv => kV kv.1) = (kvs.map (·.1)).map kV := by rw [List.map_map] <;> rfl
      rw [e3, List.getElem?_map, e1] <;> rfl
    rw [e2] at h1
    cases h1
    exact keyIs_rel hi
  have e4 : acc = acc.toList.toArray := by simp
  rw [e4]
  exact lay_tup I2 rv (by rw [List.length_map]; exact z) q
def tupD (w : W) (S : So) : Res W := match asD w S with
  | some kvs => .ok (.d (.tuple (kvs.map fun kv => keyP kv.1))) S
  | none => .no
def lstD (w : W) (S : So) : Res W := match asD w S with
  | some kvs => .ok (.d (.list (kvs.map fun kv => keyP kv.1))) S
  | none => .no
theorem nx_tupD : NX1 tupD := by
  intro x S c f S' e
  unfold tupD at e
  split at e <;> cases e
theorem nx_lstD : NX1 lstD := by
  intro x S c f S' e
  unfold lstD at e
  split at e <;> cases e
section
variable {K : PySem.W.Frag} {XR : XRel K} {H : Hp} {M : Ms} {S : So}
theorem keys_dr : ∀ {kvs : List (Key × PyData)} {vs : List (Key × V)}, Paired (KD (K := K) H M) kvs vs → DrL K H M (kvs.map fun kv => keyP kv.1) (vs.map fun kv => kV kv.1)
  | _, _, .nil => .nil
  | _, _, .cons (a := p) (b := q) r t => by
    have e : p.1 = q.1 := r.1
    rw [List.map_cons, List.map_cons, ← e]
    refine .cons ?_ (keys_dr t)
    cases p.1 with
    | inl i => show Dr K H M (.int i) (.int i); unfold Dr; rfl
    | inr x => show Dr K H M (.str x) (.str x); unfold Dr; rfl
end
section
variable {X : Cx} {XR : XRel X.K} {Wx : WX} {n : Nat} {e : Expr} {fr : FA} {p pos : Pos}
theorem opn_tupD : OpN XR (o1 tupD) rTupD := by
  intro H M S S' xs w vs Q l rx e q
  unfold o1 at e
  split at e
  · cases rx with
    | cons r rr =>
      cases rr
      unfold tupD at e
      split at e
      · rename_i kvs e1
        cases e
        obtain ⟨a, us, h1, h2, h3⟩ := asD_at l r e1
        subst h1
        exact ⟨a, us, rfl, h2, new_t l q (keys_dr h3)⟩
      · cases e
  · cases e
theorem opn_lstD : OpN XR (o1 lstD) rListD := by
  intro H M S S' xs w vs Q l rx e q
  unfold o1 at e
  split at e
  · cases rx with
    | cons r rr =>
      cases rr
      unfold lstD at e
      split at e
      · rename_i kvs e1
        cases e
        obtain ⟨a, us, h1, h2, h3⟩ := asD_at l r e1
        subst h1
        exact ⟨a, us, rfl, h2, fun p np => new_l l q np (keys_dr h3)⟩
      · cases e
  · cases e
theorem fe_tupD (C : Ct X Wx n) (hm : X.mg "tuple" = none) (hg : Gl X "tuple") (ha : FAx X XR Wx [e] fr) (he : starEach [e] X.env = (false, eval e X.env) :: starEach [] X.env := by rfl) : FEx X XR Wx (.Call (.Name "tuple" p) [e] [] pos) (fB1 (o1 tupD) fr) :=
  fe_ty (call_tuple_dK C.cal) opn_tupD (nx_o1 nx_tupD) hg hm bTuple ha (by decide) (by decide) he
theorem fe_lstD (C : Ct X Wx n) (hm : X.mg "list" = none) (hg : Gl X "list") (ha : FAx X XR Wx [e] fr) (he : starEach [e] X.env = (false, eval e X.env) :: starEach [] X.env := by rfl) : FEx X XR Wx (.Call (.Name "list" p) [e] [] pos) (fB1 (o1 lstD) fr) :=
  fe_ty (call_list_dK C.cal) opn_lstD (nx_o1 nx_lstD) hg hm bList ha (by decide) (by decide) he
end
/-! ### dict comprehensions -/
section
variable {J : It} {n : Nat} {G : Hp → Prop} {Y : Nat → Hp → V → Hp → Prop}
theorem dc_it (w : Walk J n G Y) {g : TG} {tt : TT} {tk tv : TE} {vs : List Nat} {σ : L2.St} {H1 : Hp} {D : Addr} {Qd : Hp → Prop} (Pv : Nat → Hp → Prop) (h0 : Pv 0 (upd H1 D (.dK []))) (hG : ∀ i H, i ≤ n → Pv i H → G H)
    (hs : ∀ i x H H', i < n → Pv i H → Y i H x H' → g x (wipe σ vs) H' fun σ2 H2 => wipe σ2 vs = wipe σ vs ∧ tt σ2 H2 fun b H3 =>
      if b = true then tk σ2 H3 fun y H4 => tv σ2 H4 fun z H5 => ∃ kvs k, y = kV k ∧ H5 D = some (.dK kvs) ∧ kvs.length < sizeLine ∧ Pv (i + 1) (upd H5 D (.dK (putK kvs k z))) else Pv (i + 1) H3) (hd : ∀ H, Pv n H → Qd H) :
    ∃ W : Nat → Nat → Hp → Prop, (∃ m, W 0 m (upd H1 D (.dK []))) ∧ ∀ i m H, W i m H →
      (J.stop i H ∧ Qd H) ∨ (J.go i H ∧ ∃ Nx : Hp → Prop, (∀ H', Nx H' → ∃ m', m' < m ∧ W (i + 1) m' H') ∧ ∀ x H', J.yld i H x H' → g x (wipe σ vs) H' fun σ2 H2 => wipe σ2 vs = wipe σ vs ∧ tt σ2 H2 fun b H3 =>
        if b = true then tk σ2 H3 fun y H4 => tv σ2 H4 fun z H5 => ∃ kvs k, y = kV k ∧ H5 D = some (.dK kvs) ∧ kvs.length < sizeLine ∧ Nx (upd H5 D (.dK (putK kvs k z))) else Nx H3) := by
  refine ⟨fun i m H => m = n - i ∧ i ≤ n ∧ Pv i H, ⟨n, by simp, Nat.zero_le _, h0⟩, ?_⟩
  rintro i m H ⟨rfl, hi, p⟩
  have q := hG i H hi p
  by_cases hlt : i < n
  · refine .inr ⟨w.goes i H hlt q, Pv (i + 1), fun H' p' => ⟨n - (i + 1), by omega, rfl, hlt, p'⟩, fun x H' y => hs i x H H' hlt p (w.yields i H x H' hlt q y)⟩
  · have e : i = n := by omega
    subst e
    exact .inl ⟨w.stops H q, hd H p⟩
end
def putP (acc : Dic) (k : Key) (d : PyData) : Dic := if (acc.any fun p => decide (p.1 = k)) = true then acc.map (fun p => if p.1 = k then (p.1, d) else p) else acc ++ [(k, d)]
def dcL (g : FG) (t : FT) (tk tv : FE) (ev0 : Ev) : List PyData → So → Dic → Res Dic
  | [], S, acc => .ok acc S
  | d :: ds, S, acc => match g (.d d) ev0 with
    | none => .no
    | some e1 => match t e1 S with
      | .ok true S1 => match tk e1 S1 with
        | .ok kw S2 => match asKey kw with
          | some k => match tv e1 S2 with
            | .ok (.d y) S3 => if S3.length = S.length ∧ acc.length < sizeLine then dcL g t tk tv ev0 ds S3 (putP acc k y) else .no
            | _ => .no
          | none => .no
        | _ => .no
      | .ok false S1 => if S1.length = S.length then dcL g t tk tv ev0 ds S1 acc else .no
      | _ => .no
def fDc (fi : FI) (g : FG) (t : FT) (tk tv : FE) (vs : List Nat) : FE := fun ev S => (fi ev S).bind fun ds S1 => (dcL g t tk tv (wipeE ev vs) ds S1 []).bind fun kvs S2 => .ok (.k kvs) S2
def dcEnd (mu : Bool) (kvs : Dic) (S2 : So) : Res W := if mu then .ok (.r S2.length) (S2 ++ [.k kvs]) else .ok (.k kvs) S2
def fDcM (fi : FI) (g : FG) (t : FT) (tk tv : FE) (vs : List Nat) : FE := fun ev S => (fi ev S).bind fun ds S1 => (dcL g t tk tv (wipeE ev vs) ds S1 []).bind fun kvs S2 => .ok (.r S2.length) (S2 ++ [.k kvs])
section
variable {X : Cx} {XR : XRel X.K} {Wx : WX} {n : Nat} {tg iter : Expr}
theorem dc_ok (mu : Bool) {sl : List Nat} {fi : FI} {g : FG} {t : FT} {tt : TT} {tk tv : FE} {vs : List Nat} (hsl : ∀ i, i ∈ sl → i ∈ vs) (htt : ∀ σ H Q, rT XR Wn t σ H Q → tt σ H Q) {σ : L2.St} {H : Hp} {Q : VK} (h : rE XR Wx (if mu then fDcM fi g t tk tv vs else fDc fi g t tk tv vs) σ H Q) :
    tDc (rI XR Wx fi) (rG (X := X) XR sl g) tt (rE XR Wn tk) (rE XR Wn tv) vs σ H Q := by
  obtain ⟨M, S, ev, l, rs, h⟩ := h
  have e0 : (if mu then fDcM fi g t tk tv vs else fDc fi g t tk tv vs) ev S = (fi ev S).bind fun ds S1 => (dcL g t tk tv (wipeE ev vs) ds S1 []).bind (dcEnd mu) := by
    cases mu <;> rfl
  rw [e0] at h
  refine ⟨M, S, ev, l, rs, Pst.cut h ?_⟩
  intro ds S1 M1 H1 J _ s1 l1 wk h1 D nD
  obtain ⟨G, Y, w, hG, hY⟩ := wk
  have rs1 := rs.stp s1
  have sD : Stp M1 H1 (M1.res D) (upd H1 D (.dK [])) := stp_res nD
  have lD : Rl X.K (upd H1 D (.dK [])) (M1.res D) S1 := l1.res nD
  refine dc_it w (fun i H' => ∃ Mi Si acc ys, Stp M1 H1 Mi H' ∧ D ∈ Mi.x ∧ Rl X.K H' Mi Si ∧ Si.length = S1.length ∧ H' D = some (.dK ys) ∧ Paired (KD (K := X.K) H' Mi) acc ys ∧
      Pst XR Wx σ M1 H1 (RW XR) ((dcL g t tk tv (wipeE ev vs) (ds.drop i) Si acc).bind (dcEnd mu)) Q) ⟨M1.res D, S1, [], [], sD, List.mem_cons_self, lD, rfl, upd_same, .nil, h1⟩ ?_ ?_ ?_
  · rintro i H' _ ⟨Mi, Si, acc, ys, s, _⟩
    exact hG Mi H' s
  · rintro i x H' H2 hi ⟨Mi, Si, acc, ys, s, Dx, li, ln, hD, hacc, hp⟩ y
    obtain ⟨d, ed, sm, l2, dr⟩ := hY i x Mi H' H2 Si s li hi y
    have s2 : Stp Mi H' Mi H2 := stp_same sm
    have hD2 : H2 D = some (.dK ys) := sm D _ hD
    have e3 : ds.drop i = d :: ds.drop (i + 1) := by
      obtain ⟨hlt, e4⟩ := List.getElem?_eq_some_iff.mp ed
      rw [List.drop_eq_getElem_cons hlt, e4]
    rw [e3] at hp
    unfold dcL at hp
    have Dm : D ∉ Mi.m := (li.ex D Dx).1
    have rsi : Rs XR H2 Mi (wipeE ev vs) (wipe σ vs) := wipe_rs ((rs1.stp s).stp s2) vs
    cases e5 : g (.d d) (wipeE ev vs) with
    | none => rw [e5] at hp; exact hp.elim
    | some e1 =>
      rw [e5] at hp
      dsimp only at hp
      refine ⟨Mi, Si, wipeE ev vs, .d d, l2, rsi, dr, e1, e5, fun σ1 rs1' w1 => ⟨by rw [w1 vs hsl]; exact wipe_wipe fun i h => h, htt _ _ _ ⟨Mi, Si, e1, l2, rs1', ?_⟩⟩⟩
      have nxt : ∀ {M4 : Ms} {H4 : Hp} {S4 : So} {acc4 : Dic} {ys4 : List (Key × V)}, Stp M1 H1 M4 H4 → D ∈ M4.x → Rl X.K H4 M4 S4 → S4.length = Si.length → H4 D = some (.dK ys4) → Paired (KD (K := X.K) H4 M4) acc4 ys4 →
          Pst XR Wx σ M1 H1 (RW XR) ((dcL g t tk tv (wipeE ev vs) (ds.drop (i + 1)) S4 acc4).bind (dcEnd mu)) Q →
          ∃ Mi Si acc ys, Stp M1 H1 Mi H4 ∧ D ∈ Mi.x ∧ Rl X.K H4 Mi Si ∧ Si.length = S1.length ∧ H4 D = some (.dK ys) ∧ Paired (KD (K := X.K) H4 Mi) acc ys ∧
            Pst XR Wx σ M1 H1 (RW XR) ((dcL g t tk tv (wipeE ev vs) (ds.drop (i + 1)) Si acc).bind (dcEnd mu)) Q :=
        fun s4 x4 l4 n4 h4 r4 p4 => ⟨_, _, _, _, s4, x4, l4, by rw [n4, ln], h4, r4, p4⟩
      cases e6 : t e1 Si with
      | no => rw [e6] at hp; exact hp.elim
      | ex c f S' => rw [e6] at hp; exact hp.elim
      | ok b S3 =>
        rw [e6] at hp
        rintro M3 H3 b' s3 l3 r3
        have r3' : b = b' := r3
        subst r3'
        have hD3 : H3 D = some (.dK ys) := s3.keep D _ Dm hD2
        cases b with
        | false =>
          rw [if_neg Bool.false_ne_true]
          dsimp only at hp
          split at hp
          · rename_i c
            exact nxt ((s.trans s2).trans s3) (s3.sub D Dx) l3 c hD3 (KD.stp (s2.trans s3) hacc) hp
          · exact hp.elim
        | true =>
          rw [if_pos rfl]
          dsimp only at hp
          refine ⟨M3, S3, e1, l3, rs1'.stp s3, ?_⟩
          cases e7 : tk e1 S3 with
          | no => rw [e7] at hp; exact hp.elim
          | ex c f S' => rw [e7] at hp; exact hp.elim
          | ok kw S4 =>
            rw [e7] at hp
            dsimp only at hp
            cases e8 : asKey kw with
            | none => rw [e8] at hp; exact hp.elim
            | some k =>
              rw [e8] at hp
              dsimp only at hp
              intro M4 H4 vk s4 l4 r4
              have ek := asKey_ok r4 e8
              have Dx3 : D ∈ M3.x := s3.sub D Dx
              have hD4 : H4 D = some (.dK ys) := s4.keep D _ (l3.ex D Dx3).1 hD3
              have Dx4 : D ∈ M4.x := s4.sub D Dx3
              refine ⟨M4, S4, e1, l4, (rs1'.stp s3).stp s4, ?_⟩
              cases e9 : tv e1 S4 with
              | no => rw [e9] at hp; exact hp.elim
              | ex c f S' => rw [e9] at hp; exact hp.elim
              | ok u S5 =>
                rw [e9] at hp
                cases u with
                | r _ => exact hp.elim
                | k _ => exact hp.elim
                | x _ _ => exact hp.elim
                | s _ => exact hp.elim
                | p _ => exact hp.elim
                | d y =>
                  dsimp only at hp
                  split at hp
                  · rename_i c
                    intro M5 H5 v s5 l5 r5
                    have hD5 : H5 D = some (.dK ys) := s5.keep D _ (l4.ex D Dx4).1 hD4
                    have Dx5 : D ∈ M5.x := s5.sub D Dx4
                    have Dm5 : D ∉ M5.m := (l5.ex D Dx5).1
                    have hacc5 : Paired (KD (K := X.K) H5 M5) acc ys := KD.stp (((s2.trans s3).trans s4).trans s5) hacc
                    refine ⟨ys, k, ek, hD5, by rw [← Paired.length hacc5]; exact c.2, ?_⟩
                    have up : ∀ a o, a ∉ M5 → H5 a = some o → upd H5 D (.dK (putK ys k v)) a = some o := fun a o n e => by
                      rw [upd_ne]
                      · exact e
                      · intro z
                        subst z
                        exact n (Or.inr Dx5)
                    have lU : Rl X.K (upd H5 D (.dK (putK ys k v))) M5 S5 := by
                      refine ⟨l5.nd, Paired.mapI l5.ob fun j a o e ⟨u, h1, h2⟩ => ⟨u, ?_, RO.upd up h2⟩, fun a m => ⟨(l5.ex a m).1, upd_some (l5.ex a m).2⟩⟩
                      rw [upd_ne]
                      · exact h1
                      · intro z
                        subst z
                        exact Dm5 (List.mem_iff_getElem?.mpr ⟨j, e⟩)
                    have sU : Stp M1 H1 M5 (upd H5 D (.dK (putK ys k v))) := by
                      have s6 := (((s.trans s2).trans s3).trans s4).trans s5
                      refine ⟨s6.pre, s6.sub, fun a o n e => ?_, s6.new, s6.newx⟩
                      rw [upd_ne (ne_of_none e nD)]
                      exact s6.keep a o n e
                    exact nxt sU Dx5 lU c.1 upd_same (putP_ok (X := X) (KD.upd up hacc5) (Dr.upd up y v r5)) hp
                  · exact hp.elim
  · rintro H' ⟨Mi, Si, acc, ys, s, Dx, li, ln, hD, hacc, hp⟩
    rw [List.drop_length] at hp
    dsimp only [dcL, Res.bind, dcEnd] at hp
    have eH : upd H' D (.dK ys) = H' := by
      funext b
      by_cases c : b = D
      · subst c
        rw [upd_same, hD]
      · rw [upd_ne c]
    cases mu with
    | false =>
      obtain ⟨s3, l3, d3, n3⟩ := release (o := .dK ys) l1 nD s Dx li
      rw [eH] at s3 l3 d3
      exact hp _ _ _ s3 l3 ⟨D, ys, rfl, n3, hD, Paired.imp (fun _ _ z => ⟨z.1, d3 _ _ z.2⟩) hacc⟩
    | true =>
      obtain ⟨s4, l4, e4⟩ := release2 (o := .dK ys) (b := .k acc) l1 nD s Dx li fun d4 => ⟨_, rfl, Paired.imp (fun _ _ z => ⟨z.1, d4 _ _ z.2⟩) hacc⟩
      rw [eH] at s4 l4
      exact hp _ _ _ s4 l4 ⟨D, e4, rfl⟩
theorem fe_dcG (mu : Bool) {kx vx : Expr} {ifs : List Expr} {scope : Scope} {own : List (Str × Nat)} {sl : List Nat} {pos : Pos} {fi : FI} {g : FG} {t : FT} {tt : TT} {tk tv : FE} (C : Ct X Wx n) (hN : X.N.Nodup) (hi : FIx X XR Wx tg iter fi) (ok : BlkOk X.N X.env.scope scope own)
    (hg : ∀ (s : Shared) (H : Hp) (D : Addr) (cl : List (Str × Addr)) (fp : List Addr), FGx (Blk X scope s H D cl fp) XR tg sl g) (hsl : ∀ i, i ∈ sl → i ∈ own.map (·.2))
    (ht : ∀ (s : Shared) (H : Hp) (D : Addr) (cl : List (Str × Addr)) (fp : List Addr), PTs (Blk X scope s H D cl fp) ifs tt) (htt : ∀ σ H Q, rT XR Wn t σ H Q → tt σ H Q)
    (hk : ∀ (s : Shared) (H : Hp) (D : Addr) (cl : List (Str × Addr)) (fp : List Addr), FEx (Blk X scope s H D cl fp) XR Wn kx tk)
    (he : ∀ (s : Shared) (H : Hp) (D : Addr) (cl : List (Str × Addr)) (fp : List Addr), FEx (Blk X scope s H D cl fp) XR Wn vx tv) (hs : ∀ x, foldedSetIterable iter X.env x = pure x := by intro _; rfl) :
    FEx X XR Wx (.DictComp kx vx [⟨tg, iter, ifs, 0⟩] scope pos) (if mu then fDcM fi g t tk tv (own.map (·.2)) else fDc fi g t tk tv (own.map (·.2))) :=
  PE.imp (pe_dc (g := rG (X := X) XR sl g) (tk := rE XR Wn tk) (tv := rE XR Wn tv) C.cal hN hi ok hg ht hk he hs) fun _ _ _ => dc_ok mu hsl htt
theorem fe_dc0 {kx vx : Expr} {scope : Scope} {sl : List Nat} {pos : Pos} {fi : FI} {g : FG} {tk tv : FE} (own : List (Str × Nat)) (C : Ct X Wx n) (hN : X.N.Nodup) (hi : FIx X XR Wx tg iter fi) (ok : BlkOk X.N X.env.scope scope own)
    (hg : ∀ (s : Shared) (H : Hp) (D : Addr) (cl : List (Str × Addr)) (fp : List Addr), FGx (Blk X scope s H D cl fp) XR tg sl g) (hsl : ∀ i, i ∈ sl → i ∈ own.map (·.2))
    (hk : ∀ (s : Shared) (H : Hp) (D : Addr) (cl : List (Str × Addr)) (fp : List Addr), FEx (Blk X scope s H D cl fp) XR Wn kx tk)
    (he : ∀ (s : Shared) (H : Hp) (D : Addr) (cl : List (Str × Addr)) (fp : List Addr), FEx (Blk X scope s H D cl fp) XR Wn vx tv) (hs : ∀ x, foldedSetIterable iter X.env x = pure x := by intro _; rfl) :
    FEx X XR Wx (.DictComp kx vx [⟨tg, iter, [], 0⟩] scope pos) (fDc fi g fYes tk tv (own.map (·.2))) :=
  fe_dcG false (tt := tYes) C hN hi ok hg hsl (fun _ _ _ _ _ => pts_nil) (fun σ H Q ⟨M, S, ev, l, rs, h⟩ => Pst.ok (v := true) h l rfl) hk he hs
theorem fe_dcM0 {kx vx : Expr} {scope : Scope} {sl : List Nat} {pos : Pos} {fi : FI} {g : FG} {tk tv : FE} (own : List (Str × Nat)) (C : Ct X Wx n) (hN : X.N.Nodup) (hi : FIx X XR Wx tg iter fi) (ok : BlkOk X.N X.env.scope scope own)
    (hg : ∀ (s : Shared) (H : Hp) (D : Addr) (cl : List (Str × Addr)) (fp : List Addr), FGx (Blk X scope s H D cl fp) XR tg sl g) (hsl : ∀ i, i ∈ sl → i ∈ own.map (·.2))
    (hk : ∀ (s : Shared) (H : Hp) (D : Addr) (cl : List (Str × Addr)) (fp : List Addr), FEx (Blk X scope s H D cl fp) XR Wn kx tk)
    (he : ∀ (s : Shared) (H : Hp) (D : Addr) (cl : List (Str × Addr)) (fp : List Addr), FEx (Blk X scope s H D cl fp) XR Wn vx tv) (hs : ∀ x, foldedSetIterable iter X.env x = pure x := by intro _; rfl) :
    FEx X XR Wx (.DictComp kx vx [⟨tg, iter, [], 0⟩] scope pos) (fDcM fi g fYes tk tv (own.map (·.2))) :=
  fe_dcG true (tt := tYes) C hN hi ok hg hsl (fun _ _ _ _ _ => pts_nil) (fun σ H Q ⟨M, S, ev, l, rs, h⟩ => Pst.ok (v := true) h l rfl) hk he hs
theorem fe_dc1 {kx vx c : Expr} {scope : Scope} {sl : List Nat} {pos : Pos} {fi : FI} {g : FG} {t : FT} {tk tv : FE} (own : List (Str × Nat)) (C : Ct X Wx n) (hN : X.N.Nodup) (hi : FIx X XR Wx tg iter fi) (ok : BlkOk X.N X.env.scope scope own)
    (hg : ∀ (s : Shared) (H : Hp) (D : Addr) (cl : List (Str × Addr)) (fp : List Addr), FGx (Blk X scope s H D cl fp) XR tg sl g) (hsl : ∀ i, i ∈ sl → i ∈ own.map (·.2))
    (ht : ∀ (s : Shared) (H : Hp) (D : Addr) (cl : List (Str × Addr)) (fp : List Addr), FTx (Blk X scope s H D cl fp) XR Wn c t)
    (hk : ∀ (s : Shared) (H : Hp) (D : Addr) (cl : List (Str × Addr)) (fp : List Addr), FEx (Blk X scope s H D cl fp) XR Wn kx tk)
    (he : ∀ (s : Shared) (H : Hp) (D : Addr) (cl : List (Str × Addr)) (fp : List Addr), FEx (Blk X scope s H D cl fp) XR Wn vx tv) (hs : ∀ x, foldedSetIterable iter X.env x = pure x := by intro _; rfl) :
    FEx X XR Wx (.DictComp kx vx [⟨tg, iter, [c], 0⟩] scope pos) (fDc fi g t tk tv (own.map (·.2))) :=
  fe_dcG false (tt := rT XR Wn t) C hN hi ok hg hsl (fun s H D cl fp => pts_one (ht s H D cl fp)) (fun σ H Q h => h) hk he hs
end
end FL

set_option Elab.async false
set_option linter.all false
set_option maxRecDepth 100000
set_option maxHeartbeats 2000000
namespace FL
open PySem PySem.Spec PyProof.Rows
open L2
/-! an exception that is caught and held -/
def EH (cls : Value) (d : Option Addr) (a : Addr) : HO := .ext fun h => ∃ (oe : Obj) (vs : Array Value), h.get? a = some oe ∧ Zc cls d oe ∧ oe.data = .fields vs
theorem eh_ok {P : Program} {w : World} {H : Hp} {h : Heap} {a : Addr} {cls : Value} {d : Option Addr} {oe : Obj} {vs : Array Value} (e : h.get? a = some oe) (z : Zc cls d oe) (dt : oe.data = .fields vs) : ObjOk P w H h a (EH cls d a) :=
  ⟨⟨oe, vs, e, z, dt⟩, ⟨oe, e⟩, fun h1 h2 ⟨o1, v1, q, r⟩ k => ⟨o1, v1, k o1 q, r⟩⟩
section
variable {X : Cx} {pins : List (Addr × Obj)} {σ : L2.St} {H : Hp} {s sI : Shared} {B : Heap} {a : Addr} {o : HO}
theorem landedT (I : Inv X pins σ H sI) (nb : ∀ b o, sI.heap.get? b = some o → b ∉ frs X.stack → B.get? b = some o) (st : B.StaysIn s.heap) (up : sI.heap.UpToSlots s.heap) (os : s.os = sI.os) (ag : AllBare s.gens)
    (n0 : sI.heap.get? a = none) (na : H a = none) (new : ObjOk X.prog X.w (upd H a o) s.heap a o) : Inv X pins σ (upd H a o) s := by
  have J0 := I.landed nb st up os ag
  have ne : ∀ b u, sI.heap.get? b = some u → b ≠ a := fun b u e z => by
    rw [z, n0] at e
    cases e
  have nf : ∀ b, b ∈ frs X.stack → ∀ u, sI.heap.get? b = some u → ∃ sl, s.heap.get? b = some { u with slots := sl } := fun b hb u e => by
    obtain ⟨_, u2, e2, hd⟩ := I.stack.mem hb
    rw [e] at e2
    cases e2
    exact up b u e hd
  have J := I.call (ch := []) (h' := s.heap) (g' := s.gens) (t' := s.toks) (d' := s.drawn) (H' := upd H a o)
    ⟨fun b u e _ hb _ => st b u (nb b u e hb), fun b u e _ hb _ => nf b hb u e, fun b u e n _ => by rw [upd_ne (ne b u e)]; exact n, fun b u e _ => by
      by_cases hb : b ∈ frs X.stack
      · obtain ⟨sl, q⟩ := nf b hb u e
        exact ⟨_, q⟩
      · exact ⟨u, st b u (nb b u e hb)⟩, fun b xs e => by rw [upd_ne (ne_of_none e na)]; exact e, fun b u v e => by rw [upd_ne (ne_of_none e na)]; exact e, fun b ps e => ⟨#[], by rw [upd_ne (ne_of_none e na), e]; simp⟩⟩
    (HOk.laidN J0.hok (fun _ _ q => q) na new) ag (fun _ z => nomatch z)
  obtain ⟨s1, s2, s3, s4, s5⟩ := s
  have e5 : s5 = sI.os := os
  subst e5
  exact J
/-- in an except suite, nothing set apart -/
theorem inSuite (I : Inv X pins σ H s) (b : Addr) : Inv (X.suite b (X.pn ++ pins)) [] σ H s :=
  ⟨I.ok.suite _ _, I.os, I.bare, I.base, I.loc, I.cell, I.free, I.freeC, fun p hp => I.pin p (by rw [List.append_nil] at hp; exact hp), I.hok, I.len⟩
theorem outSuite {pn2 : List (Addr × Obj)} {b : Addr} (I : Inv (X.suite b (X.pn ++ pins)) pn2 σ H s) (ok : X.Ok) : Inv X pins σ H s :=
  ⟨ok, I.os, I.bare, I.base, I.loc, I.cell, I.free, I.freeC, fun p hp => I.pin p (List.mem_append_left _ hp), I.hok, I.len⟩
def wKeep (K : PySem.W.Frag) (c : Value) (i : Nat) (ts : TS) (Wout : WX) (D : Ends) : WX := fun cls d σ H =>
  ∃ b, PySem.W.exmOne K cls c = some b ∧ (b = true → ∀ a, H a = none → ts { nx := fun σ' H' => D.nx (σ'.set i none) H', rt := D.rt, bk := fun σ' H' => D.bk (σ'.set i none) H', ct := fun σ' H' => D.ct (σ'.set i none) H' } (σ.set i (some (.ref a))) (upd H a (EH cls d a))) ∧
    (b = false → Wout cls d σ H)
end
section
variable {X : Cx} {x n : Str} {c : Value} {i : Nat} {body suite : List Stmt} {b₀ : Stmt} {np pos pos' : Pos} {tb : WX → TS} {ts : TS} {Wout : WX}
theorem ps_keep (hs : X.stack = X.env :: X.outer) (hf : X.env.frame = some X.env.locals) (hN : X.N.Nodup) (hi : X.N[i]? = some n) (hln : X.env.kindOf n = some .local) (hc : Names X x c) (tk : Takes X Wout)
    (hb : ∀ (W : WX) (pn : List (Addr × Obj)) (xe : Value → Shared → Prop), Takes (X.tr pn xe) W → PassesOwn (model X.prog X.w) X.A X.env xe → PSs (X.tr pn xe) body (tb W))
    (hsu : ∀ (a : Addr) (pn : List (Addr × Obj)), PSs (X.suite a pn) (b₀ :: suite) ts) :
    PS X (.Try body [.ExceptHandler (some (.Name x np)) (some n) (b₀ :: suite) pos'] [] [] pos) (fun D σ H => tb (wKeep X.K c i ts Wout D) D σ H) := by
  refine ⟨fun pins s σ H D I h => ?_⟩
  have ok := I.ok
  have hfr : X.A.frames = some (X.env :: X.outer) := by rw [ok.frames, hs]
  refine wpAny_Try_except ?_
  refine wpAny_mono ((hb (wKeep X.K c i ts Wout D) (X.pn ++ pins) (fun e s₁ => wpAny (model X.prog X.w) X.A (noteFrame e X.env) (fun _ s₂ => wpAny (model X.prog X.w) X.A (setFlight e none) (fun _ s₃ =>
    wpAny (model X.prog X.w) X.A (handleBy e X.env [.ExceptHandler (some (.Name x np)) (some n) (b₀ :: suite) pos']) (SP X pins D) X.xe s₃) X.xe s₂) X.xe s₁) (fun u s' xx => ?_) PassesOwn.looking).run [] s σ H D (I.toTry _) h) (fun f s1 hsp => ?_) (fun e s1 he => he)
  · obtain ⟨a, B, sI, pins2, σ2, H2, cls, d, rfl, J2, nb, up, sky, na, os, ag, b, hb1, hyes, hno⟩ := xx
    have J : Inv X pins σ2 H2 sI := J2.ofTry ok
    have sky2 : Sky B (X.env :: X.outer) a (Zc cls d) X.env.locals s'.heap := by rw [← hs]; exact sky
    show wpAny (model X.prog X.w) X.A (noteFrame (.ref a) X.env) _ _ _
    refine Sky.land Zc.steady hfr hf sky2 fun h3 fl3 up3 => ?_
    have J3 : Inv X pins σ2 H2 { s' with heap := h3 } := J.landed nb fl3.1 (up.trans up3) os ag
    obtain ⟨oe3, vs3, he3, hz3, hd3⟩ := fl3.there
    have off : a ∉ frs (X.env :: X.outer) := fun hm => by
      obtain ⟨_, o2, e2, hnf⟩ := fl3.2.2.1.mem hm
      rw [he3] at e2
      cases e2
      exact hnf _ hd3
    have n0 : sI.heap.get? a = none := by
      cases e : sI.heap.get? a with
      | none => rfl
      | some u =>
        have q := nb a u e (by rw [hs]; exact off)
        rw [fl3.2.1] at q
        cases q
    have S3 : Inv (X.suite a (X.pn ++ pins)) [] σ2 H2 { s' with heap := h3 } := inSuite J3 a
    refine wpAny_handleBy_cons (codeAny_handlers_test ?_) (by intro q; cases q)
    have LT : PySem.W.Looks (model X.prog X.w) h3 (typeOf (.ref a)) cls := fun A Q E s k q => wpAny_typeOf_ref (k _ _ he3) (by rw [hz3.1]; exact q)
    have LM := PySem.W.exm_one (M := model X.prog X.w) (J3.kIn) LT hb1
    have test : ∀ {Q : Value → Shared → Prop} {E : Value → Shared → Prop}, Q c { s' with heap := h3 } → wpAny (model X.prog X.w) (X.A.mark (some (.ref a))) (eval (.Name x np) X.env) Q E { s' with heap := h3 } := fun {Q E} q => by
      obtain ⟨hg, hdbg, hm | ⟨hm, hv, hnn⟩⟩ := hc
      · exact ld_glob (X := X.suite a (X.pn ++ pins)) S3 hg hm q hdbg
      · exact ld_blt (X := X.suite a (X.pn ++ pins)) S3 hg hm hv q hnn hdbg
    refine test (LM.here ?_)
    cases b with
    | true =>
      refine codeAny_handlers_suite_as (HandSPX.lands_againZ fl3 fun h4 fl4 up4 => ?_)
      obtain ⟨oe4, vs4, he4, hz4, hd4⟩ := fl4.there
      have J4 : Inv X pins σ2 (upd H2 a (EH cls d a)) { s' with heap := h4 } := landedT J nb fl4.1 ((up.trans up3).trans up4) os ag n0 na (eh_ok he4 hz4 hd4)
      refine store_ok (X := X.suite a (X.pn ++ pins)) (v := .ref a) (inSuite J4 a) hN hi (.inl hln) rfl (fun s5 S5 => ?_) (.inr hln)
      refine wpAny_mono ((hsu a (X.pn ++ pins)).run [] s5 _ _ _ S5 (hyes rfl a na)) (fun f s6 hsp => ?_) (fun _ _ z => False.elim z)
      have end_ : ∀ {σ6 : L2.St} {H6 : Hp} {Q : Shared → Prop}, Inv (X.suite a (X.pn ++ pins)) [] σ6 H6 s6 → (∀ s7, Inv X pins (σ6.set i none) H6 s7 → Q s7) →
          wpAny (model X.prog X.w) X.A (do bindName X.env n .none; unbindBehindTheSuite X.env n pos') (fun _ s7 => Q s7) X.xe s6 := fun {σ6 H6 Q} S6 hq => gone_ok (outSuite S6 ok) hN hi hln hq
      cases f with
      | next =>
        obtain ⟨σ6, H6, S6, q6⟩ := hsp
        exact end_ S6 fun s7 J7 => ⟨_, _, J7, q6⟩
      | brk =>
        obtain ⟨σ6, H6, S6, q6⟩ := hsp
        exact end_ S6 fun s7 J7 => ⟨_, _, J7, q6⟩
      | cont =>
        obtain ⟨σ6, H6, S6, q6⟩ := hsp
        exact end_ S6 fun s7 J7 => ⟨_, _, J7, q6⟩
      | ret u =>
        obtain ⟨v6, σ6, H6, S6, r6, q6⟩ := hsp
        exact end_ S6 fun s7 J7 => ⟨_, _, _, J7, r6, q6⟩
    | false =>
      show wpAny _ X.A (handleBy (.ref a) X.env []) _ _ _
      refine wpAny_handleBy_nil ?_
      obtain ⟨k1, k2, k3, oe, vs, T, oT, ts', he, hz, hd, h1, hr⟩ := id fl3
      unfold PySem.passOn
      refine wpAny_bind (wpAny_field he hd h1 ?_)
      rw [if_neg (show ¬ ((Value.ref T == Value.none) = true) from by simp)]
      have go : wpAny (model X.prog X.w) X.A (setFlight (.ref a) X.env.frame) (fun _ s4 => wpAny (model X.prog X.w) X.A (throw (.ref a) : Sem Flow) (SP X pins D) X.xe s4) X.xe { s' with heap := h3 } := by
        rw [hf]
        refine HandSPX.setFlight_upZ fl3 fun h4 hh4 up4 => wpAny_throw (tk _ _ ?_)
        exact ⟨a, B, sI, pins, σ2, H2, cls, d, rfl, J, nb, (up.trans up3).trans up4, .inr (.inr (by rw [hs]; exact hh4)), na, os, ag, hno rfl⟩
      first
        | exact wpAny_bind (wpAny_pure (wpAny_bind go))
        | exact wpAny_bind go
  · cases f with
    | next =>
      obtain ⟨σ2, H2, J2, q⟩ := hsp
      exact wpAny_execs_nil ⟨σ2, H2, J2.ofTry ok, q⟩
    | brk =>
      obtain ⟨σ2, H2, J2, q⟩ := hsp
      exact ⟨σ2, H2, J2.ofTry ok, q⟩
    | cont =>
      obtain ⟨σ2, H2, J2, q⟩ := hsp
      exact ⟨σ2, H2, J2.ofTry ok, q⟩
    | ret u =>
      obtain ⟨v, σ2, H2, J2, r, q⟩ := hsp
      exact ⟨v, σ2, H2, J2.ofTry ok, r, q⟩
end
end FL

set_option Elab.async false
set_option linter.all false
set_option maxRecDepth 100000
set_option maxHeartbeats 2000000
namespace FL
open PySem PySem.Spec PyProof.Rows
open L2
/-! errors: how the classes lie, what is held, what flies -/
structure Er where
  nc : Nat
  cnm : Nat → Str
  fld : Nat → Option Str
  sub : Nat → Nat → Bool
/-- what stands behind a held one -/
def fAt (K : PySem.W.Frag) (e : Er) (H : Hp) (M : Ms) (c : Nat) (f : PyData) (dx : Option Addr) : Prop := match e.fld c with
  | none => f = .none ∧ dx = none
  | some nm => ∃ dd v, dx = some dd ∧ dd ∉ M ∧ H dd = some (.xd [(nm, v)]) ∧ Dr K H M f v
def XRof (K : PySem.W.Frag) (e : Er) (cs : Nat → Addr) : XRel K where
  R := fun H M a c f => a ∉ M ∧ c < e.nc ∧ ∃ dx, H a = some (EH (.ref (cs c)) dx a) ∧ fAt K e H M c f dx
  D := fun c f cls dx H M => c < e.nc ∧ cls = .ref (cs c) ∧ fAt K e H M c f dx
  out := fun h => h.1
  stp := fun {H M H1 M1 a c f} s ⟨n, hc, dx, h1, h2⟩ => ⟨s.out n h1, hc, dx, s.ext _ _ n h1, by
    unfold fAt at h2 ⊢
    split at h2
    · exact h2
    · obtain ⟨dd, v, e, nd, h3, h4⟩ := h2
      exact ⟨dd, v, e, s.out nd h3, s.ext _ _ nd h3, Dr.stp s _ _ h4⟩⟩
  les := fun {H M M1 a c f} s ⟨n, hc, dx, h1, h2⟩ => ⟨fun z => n (s _ z), hc, dx, h1, by
    unfold fAt at h2 ⊢
    split at h2
    · exact h2
    · obtain ⟨dd, v, e, nd, h3, h4⟩ := h2
      exact ⟨dd, v, e, fun z => nd (s _ z), h3, Dr.les s _ _ h4⟩⟩
  dles := fun {c f cls dx H M M1} s ⟨hc, h1, h2⟩ => ⟨hc, h1, by
    unfold fAt at h2 ⊢
    split at h2
    · exact h2
    · obtain ⟨dd, v, e, nd, h3, h4⟩ := h2
      exact ⟨dd, v, e, fun z => nd (s _ z), h3, Dr.les s _ _ h4⟩⟩
section
variable {K : PySem.W.Frag} {e : Er} {cs : Nat → Addr} {H : Hp} {M : Ms} {c : Nat} {f : PyData}
theorem xr_held {cls : Value} {dx : Option Addr} {a : Addr} {S : So} (l : Rl K H M S) (na : H a = none) (h : (XRof K e cs).D c f cls dx H M) : (XRof K e cs).R (upd H a (EH cls dx a)) M a c f := by
  obtain ⟨hc, rfl, h2⟩ := h
  refine ⟨l.notin na, hc, dx, upd_same, ?_⟩
  unfold fAt at h2 ⊢
  split at h2
  · exact h2
  · obtain ⟨dd, v, e, nd, h3, h4⟩ := h2
    exact ⟨dd, v, e, nd, (stp_new (M := M) na).ext _ _ nd h3, Dr.stp (stp_new na) _ _ h4⟩
end
/-! try: .. except C as n: .. -/
def fTry (t : Nat → Bool) (i : Nat) (body suite : FS) : FS := fun ev S => match body ev S with
  | .ex c f e1 S1 => if t c then (match suite (e1.set i (some (.x c f))) S1 with
    | .nx e2 S2 => .nx (e2.set i none) S2
    | .rt w S2 => .rt w S2
    | .bk e2 S2 => .bk (e2.set i none) S2
    | .ct e2 S2 => .ct (e2.set i none) S2
    | _ => .no) else .ex c f e1 S1
  | o => o
section
variable {X : Cx} {e : Er} {cs : Nat → Addr} {Wx : WX} {m : Nat} {x n : Str} {k i : Nat} {body suite : List Stmt} {b₀ : Stmt} {np pos pos' : Pos} {fb fs : FS}
theorem Rs.del {XR : XRel X.K} {M : Ms} {H : Hp} {ev : Ev} {σ : L2.St} {i : Nat} (rs : Rs XR H M ev σ) : Rs XR H M (ev.set i none) (σ.set i none) := Paired.setB (fun _ e => by cases e) i rs
theorem fs_try (C : Ct X Wx m) (hk : k < e.nc) (hs : X.stack = X.env :: X.outer) (hf : X.env.frame = some X.env.locals) (hN : X.N.Nodup) (hi : X.N[i]? = some n) (hln : X.env.kindOf n = some .local) (hc : Names X x (.ref (cs k)))
    (ht : ∀ c, c < e.nc → PySem.W.exmOne X.K (.ref (cs c)) (.ref (cs k)) = some (e.sub c k))
    (hb : ∀ (W : WX) (pn : List (Addr × Obj)) (xe : Value → Shared → Prop), Ct (X.tr pn xe) W m → FSs (X.tr pn xe) (XRof X.K e cs) W body fb)
    (hsu : ∀ (a : Addr) (pn : List (Addr × Obj)), FSs (X.suite a pn) (XRof X.K e cs) Wn (b₀ :: suite) fs) :
    FSx X (XRof X.K e cs) Wx (.Try body [.ExceptHandler (some (.Name x np)) (some n) (b₀ :: suite) pos'] [] [] pos) (fTry (fun c => e.sub c k) i fb fs) := by
  refine PS.imp (ps_keep (tb := fun W => rS (XRof X.K e cs) W fb) (ts := rS (XRof X.K e cs) Wn fs) hs hf hN hi hln hc C.tk (fun W pn xe tk pp => hb W pn xe ⟨C.cal, C.room, C.gds, tk, pp⟩) hsu) ?_
  rintro D σ H ⟨M, S, ev, l, rs, h⟩
  refine ⟨M, S, ev, l, rs, ?_⟩
  unfold fTry at h
  cases eb : fb ev S with
  | nx e1 S1 => rw [eb] at h; exact h
  | rt w S1 => rw [eb] at h; exact h
  | bk e1 S1 => rw [eb] at h; exact h
  | ct e1 S1 => rw [eb] at h; exact h
  | no => rw [eb] at h; exact h
  | ex c f e1 S1 =>
    rw [eb] at h
    dsimp only at h
    intro M1 H1 σ1 cls dx s1 l1 rs1 d1
    have hcls : cls = .ref (cs c) := d1.2.1
    refine ⟨e.sub c k, by rw [hcls]; exact ht c d1.1, fun hy a na => ?_, fun hn => ?_⟩
    · rw [if_pos hy] at h
      have s2 : Stp M1 H1 M1 (upd H1 a (EH cls dx a)) := stp_new na
      refine ⟨M1, S1, e1.set i (some (.x c f)), l1.new na, (rs1.stp s2).set ⟨a, rfl, xr_held l1 na d1⟩, ?_⟩
      cases es : fs (e1.set i (some (.x c f))) S1 with
      | nx e2 S2 =>
        rw [es] at h
        exact fun M3 H3 σ3 s3 l3 r3 => h M3 H3 _ ((s1.trans s2).trans s3) l3 r3.del
      | rt w S2 =>
        rw [es] at h
        exact fun M3 H3 v s3 l3 r3 => h M3 H3 v ((s1.trans s2).trans s3) l3 r3
      | bk e2 S2 =>
        rw [es] at h
        exact fun M3 H3 σ3 s3 l3 r3 => h M3 H3 _ ((s1.trans s2).trans s3) l3 r3.del
      | ct e2 S2 =>
        rw [es] at h
        exact fun M3 H3 σ3 s3 l3 r3 => h M3 H3 _ ((s1.trans s2).trans s3) l3 r3.del
      | ex c2 f2 e2 S2 => rw [es] at h; exact h.elim
      | no => rw [es] at h; exact h.elim
    · rw [if_neg (by rw [hn]; exact Bool.false_ne_true)] at h
      exact h M1 H1 σ1 cls dx s1 l1 rs1 d1
end
/-! isinstance(x, C) of held errors, of data -/
/-- what a class must say for isinstance, for its instances' fields -/
structure ExK (K : PySem.W.Frag) (C : Addr) : Prop where
  hcl : (PySem.W.clsIn K C).isSome = true
  hga : PySem.W.findIn K (.ref C) "__getattribute__" = some (some (.builtin "BaseException.__getattribute__"))
  hgt : PySem.W.findIn K (.ref C) "__getattr__" = some none
  hsub : PySem.W.subIn K (.ref C) (.type "BaseException") = some true
  ha : PySem.W.findIn K (.ref C) "__class__" = some (some (.builtin "object.__class__"))
  hm : PySem.W.mroIn K C (.type "object") = some true
  hn : PySem.W.specialIn K (.builtin "object.__class__") "__get__" = some (some (.builtin "getset_descriptor.__get__"))
  ht : PySem.W.takesIn K (.builtin "object.__class__") = some true
section
variable {X : Cx} {e : Er} {cs : Nat → Addr} {pins : List (Addr × Obj)} {σ : L2.St} {H : Hp} {s : Shared}
theorem held_at {a C : Addr} {dx : Option Addr} (I : Inv X pins σ H s) (h : H a = some (EH (.ref C) dx a)) (hd : ∀ dd, dx = some dd → ∃ fs, H dd = some (.xd fs)) : ∃ ox od, PySem.W.InstAt s.heap a ox C od := by
  obtain ⟨⟨oe, vs, e1, hz, d1⟩, _, _⟩ := (show ObjOk X.prog X.w H s.heap a (EH (.ref C) dx a) from I.hok a _ h)
  cases dx with
  | none => exact ⟨oe, none, e1, hz.1, by unfold PySem.W.notCls; rw [d1] <;> rfl, by rw [hz.2]; exact True.intro⟩
  | some dd =>
    obtain ⟨fs, h2⟩ := hd dd rfl
    obtain ⟨mA, ⟨od, es, ep, ho, _⟩, _⟩ := (show ObjOk X.prog X.w H s.heap dd (.xd fs) from I.hok dd _ h2)
    exact ⟨oe, some od, e1, hz.1, by unfold PySem.W.notCls; rw [d1] <;> rfl, by rw [hz.2]; exact ho⟩
def rIsH (K : PySem.W.Frag) : List V → Hp → VK → Prop := fun xs H Q => ∃ (a C : Addr) (dx : Option Addr) (c : V) (cv : Value) (b : Bool),
  xs = [.ref a, c] ∧ H a = some (EH (.ref C) dx a) ∧ (∀ dd, dx = some dd → ∃ fs, H dd = some (.xd fs)) ∧ ExK K C ∧ ClsV c cv ∧ PySem.W.kitOne K (.ref C) cv = some b ∧ Q (.bl b) H
theorem call_isH : CallR X (.builtin "isinstance") (rIsH X.K) := by
  intro pins s σ H xs us Q I r h
  obtain ⟨a, C, dx, c, cv, b, rfl, hE, hd, T, hcv, e, q⟩ := h
  obtain ⟨u1, u2, rfl, r1, r2⟩ := vals2 r
  obtain ⟨ox, od, J⟩ := held_at I hE hd
  have e2 := hcv.eq r2
  subst e2
  cases (show u1 = Value.ref a from r1)
  exact PySem.W.kia_one (PySem.W.kitx_exc T.hcl T.hga T.hgt T.hsub T.ha T.hn T.ht T.hm) I.kIn J e (fun z => nomatch z) fun tk => ⟨.bl b, H, I.tok tk, rfl, q⟩
theorem call_isHX : CallR X (.builtin "isinstance") (fun xs H Q => rIsH X.K xs H Q ∨ rIsi X.K xs H Q) := by
  intro pins s σ H xs us Q I r h
  rcases h with h | h
  · exact call_isH pins s σ H xs us Q I r h
  · exact call_isi pins s σ H xs us Q I r h
end
def bTys : List String := ["NoneType", "bool", "int", "str", "list", "tuple", "dict"]
def fIsC (e : Er) (k : Nat) (fa : FE) : FE := fun ev S => (fa ev S).bind fun w S1 => match w with
  | .x c _ => .ok (.d (.bool (e.sub c k))) S1
  | w => match tyW w S1 with
    | some t => if t ∈ bTys then .ok (.d (.bool false)) S1 else .no
    | none => .no
section
variable {X : Cx} {e : Er} {cs : Nat → Addr} {Wx : WX} {n k : Nat} {ex : Expr} {fa : FE} {p p2 pos : Pos} {tn : Str}
theorem fAt_d {K : PySem.W.Frag} {H : Hp} {M : Ms} {c : Nat} {f : PyData} {dx : Option Addr} (h : fAt K e H M c f dx) : ∀ dd, dx = some dd → ∃ fs, H dd = some (.xd fs) := fun dd z => by
  unfold fAt at h
  split at h
  · rw [h.2] at z
    cases z
  · obtain ⟨d2, v, e2, _, h3, _⟩ := h
    rw [e2] at z
    cases z
    exact ⟨_, h3⟩
theorem fe_isC (hm : X.mg "isinstance" = none) (hg : Gl X "isinstance") (ha : FEx X (XRof X.K e cs) Wx ex fa) (hk : k < e.nc) (hm2 : X.mg tn = some (.ref (cs k))) (hg2 : Gl X tn) (hx : ∀ c, c < e.nc → ExK X.K (cs c))
    (ht : ∀ c, c < e.nc → PySem.W.kitOne X.K (.ref (cs c)) (.ref (cs k)) = some (e.sub c k)) (hb : ∀ t, t ∈ bTys → PySem.W.kitOne X.K (.type t) (.ref (cs k)) = some false) (hd2 : (tn == ("__debug__" : Str)) = false := by decide)
    (hs1 : starEach [ex, .Name tn p2] X.env = (false, eval ex X.env) :: starEach [.Name tn p2] X.env := by rfl) : FEx X (XRof X.K e cs) Wx (.Call (.Name "isinstance" p) [ex, .Name tn p2] [] pos) (fIsC e k fa) := by
  refine PE.imp (pe_callB call_isHX hg hm bIsi (pa_cons ha (pa_cons (pe_glob hg2 hm2 (v := .ref (cs k)) rfl hd2) pa_nil) hs1) (by decide) (by decide) hs1 rfl) ?_
  rintro σ H Q ⟨M, S, ev, l, rs, h⟩
  refine ⟨M, S, ev, l, rs, Pst.cut h ?_⟩
  intro w S1 M1 H1 v _ s1 l1 r1 h1
  have tys : ∀ t, tyW w S1 = some t → t ∈ bTys → Pst (XRof X.K e cs) Wx σ M1 H1 (RW (XRof X.K e cs)) (.ok (.d (.bool false)) S1) Q → rIsi X.K [v, .ref (cs k)] H1 Q := fun t e1 e2 h2 => ⟨v, .ref (cs k), .type t, .ref (cs k), false, rfl, .own _, tyW_ok l1 r1 e1, hb t e2, imm_b l1 h2⟩
  cases w with
  | x c f =>
    obtain ⟨a, e1, n1, hc, dx, h3, h4⟩ := r1
    subst e1
    exact .inl ⟨a, cs c, dx, .ref (cs k), .ref (cs k), e.sub c k, rfl, h3, fAt_d h4, hx c hc, .own _, ht c hc, imm_b l1 h1⟩
  | d x =>
    dsimp only at h1
    split at h1
    · rename_i t e1
      split at h1
      · rename_i e2
        exact .inr (tys t e1 e2 h1)
      · exact h1.elim
    · exact h1.elim
  | r x =>
    dsimp only at h1
    split at h1
    · rename_i t e1
      split at h1
      · rename_i e2
        exact .inr (tys t e1 e2 h1)
      · exact h1.elim
    · exact h1.elim
  | k x =>
    dsimp only at h1
    split at h1
    · rename_i t e1
      split at h1
      · rename_i e2
        exact .inr (tys t e1 e2 h1)
      · exact h1.elim
    · exact h1.elim
  | p x => exact h1.elim
  | s x =>
    dsimp only at h1
    split at h1
    · rename_i t e1
      split at h1
      · rename_i e2
        exact .inr (tys t e1 e2 h1)
      · exact h1.elim
    · exact h1.elim
end
/-! the field of a held error -/
def fFld (e : Er) (nm : Str) (fa : FE) : FE := fun ev S => (fa ev S).bind fun w S1 => match w with
  | .x c f => if e.fld c = some nm then .ok (.d f) S1 else .no
  | _ => .no
section
variable {X : Cx} {e : Er} {cs : Nat → Addr} {Wx : WX} {ex : Expr} {fa : FE} {pos : Pos} {nm : Str}
def tHf (K : PySem.W.Frag) (f : Str) (te : TE) : TE := fun σ H Q => te σ H fun x H1 => ∃ (a C dd : Addr) (fs : List (Str × V)) (v : V),
  x = .ref a ∧ XfC K C ∧ PySem.W.findIn K (.ref C) f = some none ∧ H1 a = some (EH (.ref C) (some dd) a) ∧ H1 dd = some (.xd fs) ∧ fs.lookup f = some v ∧ Q v H1
theorem pe_hf {te : TE} (he : PE X ex te) (hb : attributeBase ex nm X.env (eval ex X.env) = eval ex X.env := by rfl) : PE X (.Attribute ex nm pos) (tHf X.K nm te) := by
  refine ⟨fun pins s σ H Q I h => attr_of hb (thn (he.run pins s σ H _ I h) ?_)⟩
  rintro u s1 ⟨x, H1, I1, rx, a, C, dd, fs, v, rfl, T, hno, ea, ed, l, q⟩
  obtain rfl : u = Value.ref a := rx
  obtain ⟨⟨oe, vs, e1, hz, d1⟩, _, _⟩ := (show ObjOk X.prog X.w H1 s1.heap a (EH (.ref C) (some dd) a) from I1.hok a _ ea)
  obtain ⟨mA, hns, hr⟩ := (show ObjOk X.prog X.w H1 s1.heap dd (.xd fs) from I1.hok dd _ ed)
  obtain ⟨od, hod, hl⟩ := lookIn_ns hns
  obtain ⟨w, hu, ru⟩ := RelO.some_of (v := v) (o := mA nm) (by rw [← l]; exact hr nm)
  have J : PySem.W.InstAt s1.heap a oe C (some od) := ⟨e1, hz.1, by unfold PySem.W.notCls; rw [d1] <;> rfl, by rw [hz.2]; exact hod⟩
  exact HandSPX.exc_get I1.kIn J T.ga T.gg T.exC (PySem.W.findObj_own T.hdC hno rfl (by rw [hl, hu])) (handed_of ru) ⟨v, H1, I1.tok _, ru, q⟩
theorem fe_fld (ha : FEx X (XRof X.K e cs) Wx ex fa) (hx : ∀ c, c < e.nc → e.fld c = some nm → XfC X.K (cs c) ∧ PySem.W.findIn X.K (.ref (cs c)) nm = some none) (hb : attributeBase ex nm X.env (eval ex X.env) = eval ex X.env := by rfl) :
    FEx X (XRof X.K e cs) Wx (.Attribute ex nm pos) (fFld e nm fa) := by
  refine PE.imp (pe_hf ha hb) ?_
  rintro σ H Q ⟨M, S, ev, l, rs, h⟩
  refine ⟨M, S, ev, l, rs, Pst.cut h ?_⟩
  intro w S1 M1 H1 v _ s1 l1 r1 h1
  cases w with
  | x c f =>
    dsimp only at h1
    split at h1
    · rename_i ef
      obtain ⟨a, e1, n1, hc, dx, h3, h4⟩ := r1
      unfold fAt at h4
      rw [ef] at h4
      obtain ⟨dd, y, e2, nd, h5, h6⟩ := h4
      subst e2
      have z := hx c hc ef
      exact ⟨a, cs c, dd, _, y, e1, z.1, z.2, h3, h5, by simp, imm_d l1 h1 h6⟩
    · exact h1.elim
  | d _ => exact h1.elim
  | r _ => exact h1.elim
  | k _ => exact h1.elim
  | s _ => exact h1.elim
  | p _ => exact h1.elim
end
end FL

set_option Elab.async false
set_option linter.all false
set_option maxRecDepth 100000
set_option maxHeartbeats 2000000
namespace FL
open PySem PySem.Spec PyProof.Rows
open L2
/-! raise C(e), C with a field of its own -/
def tMkF (C : Addr) (nm : Str) (ta : TA) : L2.St → Hp → XK → Prop := fun σ H Q => ta σ H fun vs H1 => ∃ v, vs = [v] ∧ ∀ d, H1 d = none → Q (.ref C) (some d) (upd H1 d (.xd [(nm, v)]))
def MkF (P : Program) (w : World) (K : PySem.W.Frag) (mg : Str → Option Value) (base : Heap) (C : Addr) (x nm : Str) : Prop := ∀ (X : Cx), X.prog = P → X.w = w → X.K = K → X.mg = mg → X.base = base → Room 2 X.A → Gl X x →
  ∀ {a : Expr} {ta : TA} {p pos : Pos}, PA X [a] ta → starEach (a :: []) X.env = (false, eval a X.env) :: starEach [] X.env → (backTo pos (starEach [] X.env)).any (·.1) = false → PMk X (.Call (.Name x p) [a] [] pos) (tMkF C nm ta)
/-- self.nm = nm -/
def spFld (C : Addr) (nm : Str) : Sp := fun vs H Q _ => ∃ (a : Addr) (v : V), vs = [.ref a, v] ∧ H a = some (exo a C none) ∧
  ∀ dx, H dx = none → dx ≠ a → Q .non (upd (upd H dx (exd dx [(nm, v)])) a (exo a C (some dx)))
def upTA (ta : TA) : TA := fun σ H P => ∃ P0, ta σ H P0 ∧ ∀ vs H1, P0 vs H1 → P vs H1
theorem pa_up {X : Cx} {es : List Expr} {ta : TA} (h : PA X es ta) : PA X es (upTA ta) := ⟨fun pos pins s σ H Q I ⟨P0, h0, up⟩ => wpAny_mono (h.run pos pins s σ H P0 I h0) (fun us s1 ⟨vs, H1, I1, r, q⟩ => ⟨vs, H1, I1, r, up _ _ q⟩) fun _ _ z => z⟩
theorem mk_fld {P : Program} {w : World} {K : PySem.W.Frag} {mg : Str → Option Value} {base : Heap} {C fI : Addr} {x nm : Str} {fd : FuncData} {ps : List Str} (T : OexC K C) (iC : PySem.W.findIn K (.ref C) "__init__" = some (some (.ref fI))) (tI : PySem.W.typeIn K (.ref fI) = some (.type "function"))
    (F1 : FnOk P w K mg base CX0 1 fI fd ps (spFld C nm)) (hb : Binds K fd ps []) (hm : mg x = some (.ref C)) (hdb : (x == ("__debug__" : Str)) = false) : MkF P w K mg base C x nm := by
  rintro X rfl rfl rfl rfl rfl hr hg a ta p pos ha he hpl pins s σ H Q I h
  refine pmk_oex (X := X) (k := 1) (dvs := []) (ds := []) T iC tI F1 hr hb .nil pass0 hg hm (pa_up ha) hdb he hpl pins s σ H Q I ⟨_, h, ?_⟩
  rintro vs H1 ⟨v, rfl, q⟩
  refine ⟨by simp, fun b nb => ⟨b, v, rfl, upd_same, fun dx nd ne => ?_⟩⟩
  refine ⟨rfl, dx, [(nm, v)], upd_same, ?_, ?_, ?_⟩
  · rw [upd_ne ne]
    exact upd_same
  · rw [upd_ne ne] at nd
    exact nd
  · have nd1 : H1 dx = none := by
      rw [upd_ne ne] at nd
      exact nd
    have e : upd (del (upd (upd (upd H1 b (exo b C none)) dx (exd dx [(nm, v)])) b (exo b C (some dx))) b) dx (.xd [(nm, v)]) = upd H1 dx (.xd [(nm, v)]) := by
      funext c
      by_cases c1 : c = dx
      · rw [c1, upd_same, upd_same]
      · rw [upd_ne c1, upd_ne c1]
        by_cases c2 : c = b
        · rw [c2, del_same, nb]
        · rw [del_ne c2, upd_ne c2, upd_ne c1, upd_ne c2]
    rw [e]
    exact q dx nd1
def fRaiseF (c : Nat) (fa : FE) : FS := fun ev S => (fa ev S).toOut ev fun w S1 => match w with
  | .d d => .ex c d ev S1
  | _ => .no
section
variable {X : Cx} {e : Er} {cs : Nat → Addr} {Wx : WX} {n c : Nat} {a xe : Expr} {fa : FE} {pos : Pos} {nm : Str}
theorem fs_raiseF (C : Ct X Wx n) (hc : c < e.nc) (hf : e.fld c = some nm) (hm : PMk X xe (tMkF (cs c) nm (tCons (rE (XRof X.K e cs) Wx fa) tNil))) : FSx X (XRof X.K e cs) Wx (.Raise (some xe) none pos) (fRaiseF c fa) := by
  refine PS.imp (ps_raise C.cal C.tk hm) ?_
  rintro D σ H ⟨M, S, ev, l, rs, h⟩
  refine toOut_ok l rs h ?_
  intro w S1 M1 H1 v s1 l1 rs1 r1 h1
  cases w with
  | d d =>
    refine ⟨v, rfl, fun dx nd => ?_⟩
    have s2 : Stp M1 H1 M1 (upd H1 dx (.xd [(nm, v)])) := stp_new nd
    refine h1 M1 _ σ _ _ s2 (l1.new nd) (rs1.stp s2) ⟨hc, rfl, ?_⟩
    unfold fAt
    rw [hf]
    exact ⟨dx, v, rfl, l1.notin nd, upd_same, Dr.stp s2 _ _ r1⟩
  | r _ => exact h1.elim
  | k _ => exact h1.elim
  | x _ _ => exact h1.elim
  | s _ => exact h1.elim
  | p _ => exact h1.elim
end
/-! a program's table: what its text says, what its run has made -/
structure Sg where
  nf : Nat
  nms : Nat → Str
  pss : Nat → List Str
  bns : List Str
  ng : Nat
  gnm : Nat → Str
  gdt : Nat → PyData
  er : Er
  nd : Nat
  dix : Nat → Nat
  dwd : Nat → PyData
abbrev Cs := Nat → List W → So → Res W
structure Dy where
  cs : Nat → Addr
  ad : Nat → Addr
  fds : Nat → FuncData
  dfv : Nat → Value
  dvv : Nat → V
structure Top (P : Program) (w : World) (K : PySem.W.Frag) (mg : Str → Option Value) (base : Heap) (s : Sg) (y : Dy) : Prop where
  D : ∀ i, i < s.nf → Fd K mg (s.nms i) (s.pss i) [] (y.ad i) (y.fds i)
  b : ∀ x, x ∈ s.bns → mg x = none
  g : ∀ i, i < s.ng → Gd K mg (s.gnm i) (s.gdt i)
  rz : ∀ i, i < s.er.nc → s.er.fld i = none → ∀ (X : Cx), X.K = K → X.mg = mg → ∀ {m : Str} {j : Nat} {p p2 pos : Pos}, Gl X (s.er.cnm i) → PMk X (.Call (.Name (s.er.cnm i) p) [.Constant (.str m) j p2] [] pos) (fun _ H Q => Q (.ref (y.cs i)) none H)
  mf : ∀ i nm, i < s.er.nc → s.er.fld i = some nm → MkF P w K mg base (y.cs i) (s.er.cnm i) nm
  cg : ∀ i, i < s.er.nc → mg (s.er.cnm i) = some (.ref (y.cs i))
  cx : ∀ i k, i < s.er.nc → k < s.er.nc → PySem.W.exmOne K (.ref (y.cs i)) (.ref (y.cs k)) = some (s.er.sub i k)
  ck : ∀ i k, i < s.er.nc → k < s.er.nc → PySem.W.kitOne K (.ref (y.cs i)) (.ref (y.cs k)) = some (s.er.sub i k)
  cb : ∀ t k, t ∈ bTys → k < s.er.nc → PySem.W.kitOne K (.type t) (.ref (y.cs k)) = some false
  ce : ∀ i, i < s.er.nc → ExK K (y.cs i)
  cf : ∀ i nm, i < s.er.nc → s.er.fld i = some nm → XfC K (y.cs i) ∧ PySem.W.findIn K (.ref (y.cs i)) nm = some none
  dd : ∀ i, i < s.nd → Fd K mg (s.nms (s.dix i)) (s.pss (s.dix i)) [y.dfv i] (y.ad (s.dix i)) (y.fds (s.dix i))
  dv : ∀ i, i < s.nd → RelV (y.dvv i) (y.dfv i)
  dw : ∀ i, i < s.nd → ∀ H M, Dr K H M (s.dwd i) (y.dvv i)
structure Tb (P : Program) (w : World) (K : PySem.W.Frag) (mg : Str → Option Value) (base : Heap) (s : Sg) (y : Dy) (n : Nat) (c : Cs) : Prop extends Top P w K mg base s y where
  n2 : 2 ≤ n
  F : ∀ i, i < s.nf → FnF P w mg base (XRof K s.er y.cs) n (y.ad i) (y.fds i) (s.pss i) (c i)
theorem Tb.rd {P : Program} {w : World} {K : PySem.W.Frag} {mg : Str → Option Value} {base : Heap} {s : Sg} {y : Dy} {n : Nat} {c : Cs} (T : Tb P w K mg base s y n c) (i : Nat) (h : i < s.er.nc) (hf : s.er.fld i = none) (H : Hp) (M : Ms) :
    (XRof K s.er y.cs).D i .none (.ref (y.cs i)) none H M := ⟨h, rfl, by unfold fAt; rw [hf]; exact ⟨rfl, rfl⟩⟩
theorem vals_1 {v : V} {u : Value} (r : RelV v u) : Vals [v] [u] := .cons r .nil
theorem rws_1 {K : PySem.W.Frag} {XR : XRel K} {d : PyData} {v : V} (h : ∀ H M, Dr K H M d v) (H : Hp) (M : Ms) : RWs XR H M [.d d] [v] := .cons (h H M) .nil
end FL

set_option Elab.async false
set_option linter.all false
set_option maxRecDepth 100000
set_option maxHeartbeats 4000000
namespace FL
open PySem PySem.Spec PyProof.Rows
open L2
/-! the defs' mirrors, by levels -/
def lev (N : Nat → Nat) (m : Nat → Cs → FS) : Nat → Cs
  | 0 => fun _ _ _ => .no
  | n + 1 => fun i => fDef (N i) (m i (lev N m n))
theorem fnf_no {P : Program} {w : World} {K : PySem.W.Frag} {XR : XRel K} {mg : Str → Option Value} {base : Heap} {n : Nat} {f : Addr} {fd : FuncData} {ps : List Str} : FnF P w mg base XR n f fd ps (fun _ _ => .no) :=
  ⟨fun A outer s H args us vs Q E _ _ _ _ _ _ ⟨M, S, ws, _, _, h⟩ => h.elim⟩
theorem tb_all {P : Program} {w : World} {K : PySem.W.Frag} {mg : Str → Option Value} {base : Heap} {s : Sg} {y : Dy} {N : Nat → Nat} {m : Nat → Cs → FS} (S : Top P w K mg base s y)
    (ok : ∀ n c, Tb P w K mg base s y n c → ∀ i, i < s.nf → FnF P w mg base (XRof K s.er y.cs) (n + 1) (y.ad i) (y.fds i) (s.pss i) (fDef (N i) (m i c))) : ∀ n, Tb P w K mg base s y (n + 2) (lev N m n)
  | 0 => { S with n2 := by omega, F := fun i _ => fnf_no }
  | n + 1 => { S with n2 := by omega, F := fun i h => ok (n + 2) _ (tb_all S ok n) i h }
/-! the law's own call -/
theorem law_callF {P : Program} {w : World} {K : PySem.W.Frag} {XR : XRel K} {mg mb : Str → Option Value} {k : Nat} {fa a : Addr} {fd : FuncData} {x : Str} {g : List W → So → Res W} {s₁ : Shared} {vs : List Value} {ns : List Int}
    (KX : K.In s₁.heap) (hns : s₁.heap.Ns mainGlobals mg) (hb : s₁.heap.Ns builtinsNs mb) (hbb : ∀ x : Str, x ≠ "__name__" → mb x = bootBuiltins x) (hlim : s₁.heap.NoLimit) (hg : s₁.gens = #[])
    (ha : s₁.heap.get? a = some { cls := .type "list", data := .seq vs.toArray }) (hi : IntsAre vs ns) (hl : ns.length ≤ sizeLine) (hr : Room k callerA)
    (F : ∀ base : Heap, K.In base → base.Ns mainGlobals mg → FnF P w mg base XR k fa fd [x] g) (hbind : ∀ (s : Shared) (u : Value), BindsTo s fd ⟨[u], []⟩ [(x, u)])
    (hgo : g [.s ns] [] = .ok (.d (.bool true)) []) :
    codeAny (model P w) callerA (.call (.ref fa) ⟨[.ref a], []⟩) (fun r s' => r = .ok (.ret (.bool true)) ∧ OldK s₁.heap s'.heap ∧ s'.os = s₁.os ∧ AllBare s'.gens) s₁ := by
  have rv : Vals (ns.map V.int) vs := vals_ints hi
  have core : ∀ H : Hp, (∀ b, H b = none ∨ (b = a ∧ K.lookup b = none ∧ H b = some (.frz { cls := .type "list", data := .seq vs.toArray } (.lst (ns.map V.int))))) → FzS K H ⟨[], []⟩ a (ns.map V.int) → HOk P w H s₁.heap →
      codeAny (model P w) callerA (.call (.ref fa) ⟨[.ref a], []⟩) (fun r s' => r = .ok (.ret (.bool true)) ∧ OldK s₁.heap s'.heap ∧ s'.os = s₁.os ∧ AllBare s'.gens) s₁ := by
    intro H hO hS hok
    have kb : K.In (hidT s₁.heap H) := by
      intro b o e
      refine hidT_get (KX b o e) ?_
      rcases hO b with h | ⟨_, h, _⟩
      · exact h
      · rw [h] at e
        cases e
    have nsb : ∀ {b : Addr} {m : Str → Option Value}, s₁.heap.Ns b m → (hidT s₁.heap H).Ns b m := by
      rintro b m ⟨o, es, ep, e, d, r⟩
      refine ⟨o, es, ep, hidT_get e ?_, d, r⟩
      rcases hO b with h | ⟨rfl, _, _⟩
      · exact h
      · rw [ha] at e
        cases e
        cases d
    have lim : (hidT s₁.heap H).NoLimit := by
      obtain ⟨mc, h1, h2⟩ := hlim
      exact ⟨mc, nsb h1, h2⟩
    have e0 : Env0 P w K mg (hidT s₁.heap H) callerA [] s₁ H := by
      refine ⟨rfl, ⟨kb, nsb hns, ⟨mb, nsb hb, hbb⟩, lim⟩, ?_, Nat.le_of_eq (hidT_size _ _), True.intro, ?_, hok, .of_eq hg⟩
      · intro b o e
        exact of_hidT e
      · intro b z
        cases z
    have sp : spF XR g [.ref a] H (fun v _ => v = .bl true) (fun _ _ _ => False) := by
      refine ⟨⟨[], []⟩, [], [.s ns], ⟨List.Pairwise.nil, .nil, fun b h => by cases h⟩, .cons ⟨a, rfl, hS⟩ .nil, ?_⟩
      rw [hgo]
      intro M1 H1 v s1 l1 r1
      have r2 : Dr K H1 M1 (.bool true) v := r1
      unfold Dr at r2
      exact r2
    apply codeAny_mono ((F _ kb (nsb hns)).run callerA [] s₁ H ⟨[.ref a], []⟩ [.ref a] [.ref a] (fun v _ => v = .bl true) (fun _ _ _ => False) rfl hr e0 (hbind s₁ (.ref a)) (.cons rfl .nil) rfl sp)
    intro r s' h
    cases r with
    | error e =>
      obtain ⟨_, _, _, _, _, _, _, _, _, _, _, _, z⟩ := h
      exact z.elim
    | ok fl =>
      cases fl with
      | next => exact h.elim
      | brk => exact h.elim
      | cont => exact h.elim
      | ret u =>
        obtain ⟨v, H', os, bare, un, hok2, rel, ev⟩ := h
        cases ev
        cases rel
        refine ⟨rfl, OldK.of_keep ?_, os, bare⟩
        intro b o e
        rcases hO b with z | ⟨rfl, _, z⟩
        · exact un.keep b o e z (by intro q; cases q) (by intro q; cases q)
        · obtain ⟨g1, _⟩ := hok b _ z
          obtain ⟨g2, _⟩ := hok2 b _ (un.frzs b _ _ z)
          rw [← e, g1]
          exact g2
  cases hk : K.lookup a with
  | some o =>
    have e := KX a o hk
    rw [ha] at e
    cases e
    refine core (fun _ => none) (fun _ => .inl rfl) (.inr ⟨_, vs.toArray, _, hk, rfl, rfl, rfl, ?_, ?_⟩) ?_
    · rw [List.size_toArray, hi.length]
      exact hl
    · simpa using rv
    · intro b u z
      cases z
  | none =>
    refine core (fun b => if b = a then some (.frz { cls := .type "list", data := .seq vs.toArray } (.lst (ns.map V.int))) else none) ?_ ?_ ?_
    · intro b
      by_cases c : b = a
      · subst c
        exact .inr ⟨rfl, hk, if_pos rfl⟩
      · exact .inl (if_neg c)
    · exact .inl ⟨(fun z => by rcases z with z | z <;> cases z), _, if_pos rfl⟩
    · intro b u z
      by_cases c : b = a
      · subst c
        have z2 := (if_pos rfl).symm.trans z
        cases z2
        refine ⟨ha, ?_, vs, _, rv, ha⟩
        rw [List.length_map]
        exact hl
      · have z2 := (if_neg c).symm.trans z
        cases z2
theorem walkF {l : PySem.W.OpenLaw} {n k : Nat} {q : Program} {loose : List Str} {XP : (Str → Option Value) → Heap → Prop} {YP : World → Heap → Prop} {d : DefRec} {K : Params → PySem.W.Frag} {x : Str} {g : List W → So → Res W}
    (hn : l.most = some n) (hn2 : n ≤ sizeLine) (hdf : d.params.defaults = []) (hr : Room k callerA) (hY : ∀ (w : World) (h : Heap), YP w h → (K w.params).In h)
    (F : ∀ (w : World) (mg : Str → Option Value) (fa : Addr) (h : Heap), (K w.params).In h → h.Ns mainGlobals mg → mg d.name = some (.ref fa) →
      ∃ (fd : FuncData) (XR : XRel (K w.params)), (∀ (s : Shared) (u : Value), BindsTo s fd ⟨[u], []⟩ [(x, u)]) ∧ ∀ base : Heap, (K w.params).In base → base.Ns mainGlobals mg → FnF l.prog w mg base XR k fa fd [x] g)
    (hgo : ∀ ns : List Int, ns.length ≤ n → g [.s ns] [] = .ok (.d (.bool true)) []) : PySem.W.WalkO q loose XP YP l.row.toRowW d [] (fun f vs => PySem.call f vs) := by
  refine Att.attach_call hn hdf ?_
  intro w s₀ s₁ mg mb fa o pm cd doc a vs ns G Y ho hd hcd hmg hobj hints hlen hg
  obtain ⟨fd, XR, hb, hF⟩ := F w mg fa _ (hY w _ Y) G.T.g hmg
  exact law_callF (hY w _ Y) G.T.g G.T.b G.T.builtins G.T.nolimit hg hobj hints (Nat.le_trans hlen hn2) hr hF hb (hgo ns hlen)
end FL

set_option Elab.async false
set_option linter.all false
set_option maxRecDepth 100000
set_option maxHeartbeats 4000000
namespace FL
open PySem PySem.Spec PyProof.Rows
open L2
/-! what the top has written, by one reckoning -/
def bmV : List Value := [.type "ValueError", .type "Exception", .type "BaseException", .type "object"]
def clsB (K : PySem.W.Frag) (e : Er) (i : Nat) (C : Addr) : Bool :=
  (PySem.W.clsIn K C).isSome && (decide (PySem.W.findIn K (.ref C) "__getattribute__" = some (some (.builtin "BaseException.__getattribute__"))) && (decide (PySem.W.findIn K (.ref C) "__getattr__" = some none) &&
  (decide (PySem.W.subIn K (.ref C) (.type "BaseException") = some true) && (decide (PySem.W.findIn K (.ref C) "__class__" = some (some (.builtin "object.__class__"))) && (decide (PySem.W.mroIn K C (.type "object") = some true) &&
  (PySem.W.keepIn K (.ref C) && (decide (PySem.W.typeIn K (.ref C) = some (.type "type")) && (decide (PySem.W.nsIn K PySem.mainGlobals (e.cnm i) = some (some (.ref C))) &&
  (bTys.all (fun t => decide (PySem.W.kitOne K (.type t) (.ref C) = some false)) &&
  (match e.fld i with | none => PySem.W.excIn K C bmV "ValueError.__new__" | some nm => xfB K C && decide (PySem.W.findIn K (.ref C) nm = some none)))))))))))
def topB (K : PySem.W.Frag) (s : Sg) (l : List Addr) : Bool :=
  (List.range s.er.nc).all (fun i => clsB K s.er i (l.getD i 0)) && ((List.range s.er.nc).all (fun i => (List.range s.er.nc).all fun j => decide (PySem.W.exmOne K (.ref (l.getD i 0)) (.ref (l.getD j 0)) = some (s.er.sub i j)) && decide (PySem.W.kitOne K (.ref (l.getD i 0)) (.ref (l.getD j 0)) = some (s.er.sub i j))) &&
  (decide (PySem.W.specialIn K (.builtin "object.__class__") "__get__" = some (some (.builtin "getset_descriptor.__get__"))) && (decide (PySem.W.takesIn K (.builtin "object.__class__") = some true) &&
  s.bns.all (fun x => decide (PySem.W.nsIn K PySem.mainGlobals x = some none)))))
structure ClsB (K : PySem.W.Frag) (e : Er) (i : Nat) (C : Addr) : Prop where
  cl : (PySem.W.clsIn K C).isSome = true
  ga : PySem.W.findIn K (.ref C) "__getattribute__" = some (some (.builtin "BaseException.__getattribute__"))
  gt : PySem.W.findIn K (.ref C) "__getattr__" = some none
  sb : PySem.W.subIn K (.ref C) (.type "BaseException") = some true
  ca : PySem.W.findIn K (.ref C) "__class__" = some (some (.builtin "object.__class__"))
  mo : PySem.W.mroIn K C (.type "object") = some true
  kp : PySem.W.keepIn K (.ref C) = true
  ty : PySem.W.typeIn K (.ref C) = some (.type "type")
  ns : PySem.W.nsIn K PySem.mainGlobals (e.cnm i) = some (some (.ref C))
  bt : ∀ t, t ∈ bTys → PySem.W.kitOne K (.type t) (.ref C) = some false
  ex : (match e.fld i with | none => PySem.W.excIn K C bmV "ValueError.__new__" | some nm => xfB K C && decide (PySem.W.findIn K (.ref C) nm = some none)) = true
theorem clsB_ok {K : PySem.W.Frag} {e : Er} {i : Nat} {C : Addr} (h : clsB K e i C = true) : ClsB K e i C := by
  obtain ⟨h1, h⟩ := Bool.and_eq_true_iff.mp h
  obtain ⟨h2, h⟩ := Bool.and_eq_true_iff.mp h
  obtain ⟨h3, h⟩ := Bool.and_eq_true_iff.mp h
  obtain ⟨h4, h⟩ := Bool.and_eq_true_iff.mp h
  obtain ⟨h5, h⟩ := Bool.and_eq_true_iff.mp h
  obtain ⟨h6, h⟩ := Bool.and_eq_true_iff.mp h
  obtain ⟨h7, h⟩ := Bool.and_eq_true_iff.mp h
  obtain ⟨h8, h⟩ := Bool.and_eq_true_iff.mp h
  obtain ⟨h9, h⟩ := Bool.and_eq_true_iff.mp h
  obtain ⟨h10, h11⟩ := Bool.and_eq_true_iff.mp h
  exact ⟨h1, of_decide_eq_true h2, of_decide_eq_true h3, of_decide_eq_true h4, of_decide_eq_true h5, of_decide_eq_true h6, h7, of_decide_eq_true h8, of_decide_eq_true h9, fun t ht => of_decide_eq_true (List.all_eq_true.mp h10 t ht), h11⟩
/-- one def at the top -/
structure DefT (K : PySem.W.Frag) (mg : Str → Option Value) (x : Str) (st : Stmt) (ps : List Str) (f : Addr) (fd : FuncData) : Prop where
  F : FunF K x st f fd
  d : Fd K mg x ps [] f fd
/-- .. with a default for its last parameter -/
structure DefD (K : PySem.W.Frag) (mg : Str → Option Value) (x : Str) (st : Stmt) (ps : List Str) (d : PyData) (f : Addr) (fd : FuncData) (u : Value) (v : V) : Prop where
  t : DefT K mg x st ps f fd
  p : Fd K mg x ps [u] f fd
  r : RelV v u
  w : ∀ H M, Dr K H M d v
section
variable {K : PySem.W.Frag} {mg : Str → Option Value} {h : Heap}
theorem def_mk {x : Str} {st : Stmt} {ps : List Str} {f : Addr} {oc kV dc pm cd ct : Value} {od an : Option Addr} {sl : Array (Option Value)} (X : K.In h) (G : h.Ns mainGlobals mg)
    (a : PySem.W.nsIn K mainGlobals x = some (some (.ref f))) (l : K.lookup f = some ⟨oc, od, .func (PySem.W.fnOf x x (defArgs st) (defBody st) (defScope st) .none kV dc pm an cd ct), sl⟩)
    (c : PySem.W.codeIn K cd x = true) (k : PySem.W.keepIn K (.ref f) = true)
    (b : ∀ us : List Value, us.length = ps.length → bindArgs (PySem.W.fnOf x x (defArgs st) (defBody st) (defScope st) .none kV dc pm an cd ct) ⟨us, []⟩ = pure (ps.zip us)) : ∃ fd, DefT K mg x st ps f fd :=
  ⟨_, ⟨⟨oc, od, .none, kV, dc, pm, an, cd, ct, sl, rfl, l, c⟩, k⟩, PySem.W.mg_of X G a, k, .all b⟩
theorem def_mkL {x p : Str} {st : Stmt} {f : Addr} {oc kV dc pm cd ct : Value} {od an : Option Addr} {sl : Array (Option Value)} (X : K.In h) (G : h.Ns mainGlobals mg)
    (a : PySem.W.nsIn K mainGlobals x = some (some (.ref f))) (l : K.lookup f = some ⟨oc, od, .func (PySem.W.fnOf x x (defArgs st) (defBody st) (defScope st) .none kV dc pm an cd ct), sl⟩)
    (c : PySem.W.codeIn K cd x = true) (k : PySem.W.keepIn K (.ref f) = true)
    (b : ∀ us : List Value, us.length = 1 → bindArgs (PySem.W.fnOf x x (defArgs st) (defBody st) (defScope st) .none kV dc pm an cd ct) ⟨us, []⟩ = pure ([p].zip us)) : ∃ fd, DefT K mg x st [p] f fd ∧ ∀ (s : Shared) (u : Value), BindsTo s fd ⟨[u], []⟩ [(p, u)] :=
  ⟨_, ⟨⟨⟨oc, od, .none, kV, dc, pm, an, cd, ct, sl, rfl, l, c⟩, k⟩, PySem.W.mg_of X G a, k, .all b⟩, fun s u => BindsTo.of_eq (b [u] rfl)⟩
theorem defD_mk {x : Str} {st : Stmt} {ps : List Str} {d : PyData} {f T : Addr} {oc kV dc pm cd ct o1 u : Value} {od an o2 : Option Addr} {sl o4 : Array (Option Value)} {n m : Nat} {v : V} (X : K.In h) (G : h.Ns mainGlobals mg)
    (a : PySem.W.nsIn K mainGlobals x = some (some (.ref f))) (l : K.lookup f = some ⟨oc, od, .func (PySem.W.fnOf x x (defArgs st) (defBody st) (defScope st) (.ref T) kV dc pm an cd ct), sl⟩)
    (c : PySem.W.codeIn K cd x = true) (k : PySem.W.keepIn K (.ref f) = true) (lT : K.lookup T = some ⟨o1, o2, .seq #[u] m, o4⟩) (r : RelV v u) (w : ∀ H M, Dr K H M d v) (hn : ps.length = n + 1)
    (b1 : ∀ (us its : List Value), us.length = n + 1 → its.length = 1 → ∃ k, bindArgs (PySem.W.fnOf x x (defArgs st) (defBody st) (defScope st) (.ref T) kV dc pm an cd ct) ⟨us, []⟩ = seqItems? (.ref T) >>= k ∧ k (some its.toArray) = pure (ps.zip (us ++ its.drop 1)))
    (b0 : ∀ (us its : List Value), us.length = n → its.length = 1 → ∃ k, bindArgs (PySem.W.fnOf x x (defArgs st) (defBody st) (defScope st) (.ref T) kV dc pm an cd ct) ⟨us, []⟩ = seqItems? (.ref T) >>= k ∧ k (some its.toArray) = pure (ps.zip (us ++ its.drop 0))) :
    ∃ fd, DefD K mg x st ps d f fd u v := by
  have g := PySem.W.mg_of X G a
  refine ⟨_, ⟨⟨⟨oc, od, .ref T, kV, dc, pm, an, cd, ct, sl, rfl, l, c⟩, k⟩, g, k, fun s us Y hl => ?_⟩, ⟨g, k, fun s us Y hl => ?_⟩, r, w⟩
  · refine BindsTo.of_looks fun M => ?_
    obtain ⟨kk, e1, e2⟩ := b1 us [u] (by rw [List.append_nil] at hl; omega) rfl
    rw [e1]
    refine looks_items Y lT rfl (.of_pure ?_)
    exact e2
  · refine BindsTo.of_looks fun M => ?_
    obtain ⟨kk, e1, e2⟩ := b0 us [u] (by rw [List.length_append] at hl; simp at hl; omega) rfl
    rw [e1]
    exact looks_items Y lT rfl (.of_pure e2)
/-! constants -/
theorem gd_int {x : Str} {i : Int} {t : Tok} (X : K.In h) (G : h.Ns mainGlobals mg) (a : PySem.W.nsIn K mainGlobals x = some (some (.int i t))) : Gd K mg x (.int i) :=
  ⟨_, .int i, PySem.W.mg_of X G a, ⟨t, rfl⟩, fun H M => by unfold Dr; rfl⟩
theorem gd_str {x z : Str} {t : Tok} (X : K.In h) (G : h.Ns mainGlobals mg) (a : PySem.W.nsIn K mainGlobals x = some (some (.str z t))) : Gd K mg x (.str z) :=
  ⟨_, .str z, PySem.W.mg_of X G a, ⟨t, rfl⟩, fun H M => by unfold Dr; rfl⟩
theorem dr_strs {f : Addr} {zs : List Str} {its : Array Value} {n : Nat} {sl : Array (Option Value)} (l : K.lookup f = some ⟨.type "tuple", none, .seq its n, sl⟩) (e : StrsAre its.toList zs) (hz : its.size ≤ sizeLine) (H : Hp) (M : Ms) : Dr K H M (.tuple (zs.map .str)) (.ref f) := by
  unfold Dr
  exact ⟨f, zs.map V.str, rfl, .inr ⟨_, its, n, l, rfl, rfl, rfl, hz, vals_of_strs e⟩, drl_strs zs⟩
theorem gd_strs {x : Str} {f : Addr} {zs : List Str} {its : Array Value} {n : Nat} {sl : Array (Option Value)} (X : K.In h) (G : h.Ns mainGlobals mg) (a : PySem.W.nsIn K mainGlobals x = some (some (.ref f)))
    (l : K.lookup f = some ⟨.type "tuple", none, .seq its n, sl⟩) (e : StrsAre its.toList zs) (hz : its.size ≤ sizeLine) : Gd K mg x (.tuple (zs.map .str)) :=
  ⟨_, .ref f, PySem.W.mg_of X G a, rfl, dr_strs l e hz⟩
/-! the error with a field of its own: its __init__ -/
theorem fld_mk {P : Program} {w : World} {base : Heap} {nm x qual : Str} {st : Stmt} {C fI T : Addr} {oc kV dc pm cd ct o1 : Value} {od an o2 : Option Addr} {sl o4 : Array (Option Value)} {m : Nat} {ps : List Str} (X : K.In h) (G : h.Ns mainGlobals mg)
    (ox : OexC K C) (noN : PySem.W.findIn K (.ref C) nm = some none) (iC : PySem.W.findIn K (.ref C) "__init__" = some (some (.ref fI))) (tI : PySem.W.typeIn K (.ref fI) = some (.type "function"))
    (l : K.lookup fI = some ⟨oc, od, .func (PySem.W.fnOf "__init__" qual (defArgs st) (defBody st) (defScope st) (.ref T) kV dc pm an cd ct), sl⟩) (lT : K.lookup T = some ⟨o1, o2, .seq #[.none] m, o4⟩)
    (c : PySem.W.codeIn K cd qual = true) (k : PySem.W.keepIn K (.ref fI) = true) (sc : FnScope ps ps (defScope st)) (p2 : ps.length = 2)
    (body : ∀ (cdv : Value) (A : Around) (outer : List Env) (s : Shared) (H : Hp) (E : XK), PSs (cxOf CX0 P w K mg base ps qual (defScope st) fI cdv A outer s H E) (defBody st) (tOst K nm (tVar 0) (tVar 1)))
    (b1 : ∀ (us its : List Value), us.length = 2 → its.length = 1 → ∃ k, bindArgs (PySem.W.fnOf "__init__" qual (defArgs st) (defBody st) (defScope st) (.ref T) kV dc pm an cd ct) ⟨us, []⟩ = seqItems? (.ref T) >>= k ∧ k (some its.toArray) = pure (ps.zip (us ++ its.drop 1)))
    (hm : mg x = some (.ref C)) (hdb : (x == ("__debug__" : Str)) = false) : MkF P w K mg base C x nm := by
  have F : FunD K "__init__" qual (defArgs st) (defBody st) (defScope st) [.non] [] fI (PySem.W.fnOf "__init__" qual (defArgs st) (defBody st) (defScope st) (.ref T) kV dc pm an cd ct) :=
    ⟨⟨oc, od, .ref T, kV, dc, pm, an, cd, ct, sl, rfl, l, c, .inr ⟨List.cons_ne_nil _ _, T, _, [.none], m, rfl, lT, rfl, .cons rfl .nil⟩, .inl rfl⟩, k⟩
  have F1 : FnOk P w K mg base CX0 1 fI (PySem.W.fnOf "__init__" qual (defArgs st) (defBody st) (defScope st) (.ref T) kV dc pm an cd ct) ps (spFld C nm) := by
    refine F.ok sc (fun vs H Q E h => ?_) (fun cdv A outer s H vs Q E hr h => ⟨_, body cdv A outer s H E, ?_⟩)
    · obtain ⟨a, v, rfl, _⟩ := h
      exact p2.symm
    · obtain ⟨a, v, rfl, ha, q⟩ := h
      exact ⟨v, rfl, .ref a, rfl, a, C, rfl, ox, noN, .inl ⟨ha, q⟩⟩
  refine mk_fld ox iC tI F1 (fun s us Y hl => BindsTo.of_looks fun M => ?_) hm hdb
  obtain ⟨kk, e1, e2⟩ := b1 us [.none] (by rw [List.append_nil] at hl; omega) rfl
  rw [e1]
  exact looks_items Y lT rfl (.of_pure e2)
end
/-! all of it -/
theorem topB_ok {P : Program} {w : World} {K : PySem.W.Frag} {mg : Str → Option Value} {base h : Heap} {s : Sg} {l : List Addr} {y : Dy} (A : topB K s l = true) (X : K.In h) (G : h.Ns mainGlobals mg) (hcs : y.cs = fun i => l.getD i 0)
    (D : ∀ i, i < s.nf → Fd K mg (s.nms i) (s.pss i) [] (y.ad i) (y.fds i)) (g : ∀ i, i < s.ng → Gd K mg (s.gnm i) (s.gdt i)) (hdb : ∀ i, i < s.er.nc → (s.er.cnm i == ("__debug__" : Str)) = false)
    (mf : ∀ i nm, i < s.er.nc → s.er.fld i = some nm → MkF P w K mg base (y.cs i) (s.er.cnm i) nm)
    (dd : ∀ i, i < s.nd → Fd K mg (s.nms (s.dix i)) (s.pss (s.dix i)) [y.dfv i] (y.ad (s.dix i)) (y.fds (s.dix i))) (dv : ∀ i, i < s.nd → RelV (y.dvv i) (y.dfv i)) (dw : ∀ i, i < s.nd → ∀ H M, Dr K H M (s.dwd i) (y.dvv i)) : Top P w K mg base s y := by
  obtain ⟨h1, A⟩ := Bool.and_eq_true_iff.mp A
  obtain ⟨h2, A⟩ := Bool.and_eq_true_iff.mp A
  obtain ⟨h3, A⟩ := Bool.and_eq_true_iff.mp A
  obtain ⟨h4, h5⟩ := Bool.and_eq_true_iff.mp A
  have c : ∀ i, i < s.er.nc → ClsB K s.er i (y.cs i) := fun i hi => by
    rw [hcs]
    exact clsB_ok (List.all_eq_true.mp h1 i (List.mem_range.mpr hi))
  have pr : ∀ i k, i < s.er.nc → k < s.er.nc → PySem.W.exmOne K (.ref (y.cs i)) (.ref (y.cs k)) = some (s.er.sub i k) ∧ PySem.W.kitOne K (.ref (y.cs i)) (.ref (y.cs k)) = some (s.er.sub i k) := fun i k hi hk => by
    have z := List.all_eq_true.mp (List.all_eq_true.mp h2 i (List.mem_range.mpr hi)) k (List.mem_range.mpr hk)
    obtain ⟨z1, z2⟩ := Bool.and_eq_true_iff.mp z
    rw [hcs]
    exact ⟨of_decide_eq_true z1, of_decide_eq_true z2⟩
  refine ⟨D, fun x hx => PySem.W.mg_none_of X G (of_decide_eq_true (List.all_eq_true.mp h5 x hx)), g, fun i hi hf X2 e1 e2 m j p p2 pos hg => ?_, mf, fun i hi => PySem.W.mg_of X G (c i hi).ns, fun i k hi hk => (pr i k hi hk).1, fun i k hi hk => (pr i k hi hk).2,
    fun t k ht hk => (c k hk).bt t ht, fun i hi => ⟨(c i hi).cl, (c i hi).ga, (c i hi).gt, (c i hi).sb, (c i hi).ca, (c i hi).mo, of_decide_eq_true h3, of_decide_eq_true h4⟩, fun i nm hi hf => ?_, dd, dv, dw⟩
  · subst e1 e2
    have z := (c i hi).ex
    rw [hf] at z
    exact pmk_own PySem.F.excBase_ValueError z (PySem.W.mg_of X G (c i hi).ns) (c i hi).kp (raises_own (c i hi).sb (c i hi).ty) hg (hdb i hi)
  · have z := (c i hi).ex
    rw [hf] at z
    obtain ⟨z1, z2⟩ := Bool.and_eq_true_iff.mp z
    exact ⟨xfB_ok z1, of_decide_eq_true z2⟩
end FL

set_option Elab.async false
set_option linter.all false
set_option maxRecDepth 100000
set_option maxHeartbeats 4000000
namespace G53
open PySem PySem.Spec PyProof.Rows
open L2 FL
def topK (i : Nat) : Stmt := PySem.Challenge.pw_leftfirst_k53_conditions_run.main.body.getD i (.Pass ⟨0, 0, 0, 0⟩)
abbrev gdt : Nat → PyData := fun i => match i with
  | 0 => (.int 60)
  | 1 => (.int 200)
  | 2 => (.int 8)
  | 3 => (.int 80)
  | 4 => (.int 8)
  | 5 => (.tuple [(.str "and"), (.str "or"), (.str "not"), (.str "if"), (.str "else")])
  | 6 => (.tuple [(.str "yes"), (.str "no"), (.str "fails")])
  | 7 => (.tuple [(.str "yes"), (.str "no")])
  | 8 => (.int 200)
  | _ => .none
abbrev gnm : Nat → Str := fun i => match i with
  | 0 => "MOST_TESTS"
  | 1 => "MOST_NOTS"
  | 2 => "MOST_NAMES"
  | 3 => "MOST_DEEP"
  | 4 => "LONGEST_NAME"
  | 5 => "WORDS"
  | 6 => "ANSWERS"
  | 7 => "RESULTS"
  | 8 => "MOST_ANSWERS"
  | _ => ""
abbrev nms : Nat → Str := fun i => match i with
  | 0 => "is_name"
  | 1 => "are_names"
  | 2 => "is_condition"
  | 3 => "_is_part"
  | 4 => "check_condition"
  | 5 => "run"
  | 6 => "steady_run"
  | 7 => "check_answers"
  | 8 => "check_assignment"
  | 9 => "_is_assignment"
  | 10 => "_is_answered"
  | 11 => "rows_of"
  | 12 => "_rows"
  | 13 => "_if_rows"
  | 14 => "_size"
  | 15 => "walked"
  | 16 => "steadily_walked"
  | 17 => "repeatedly_walked"
  | 18 => "_law_mixed"
  | 19 => "_law_cell"
  | 20 => "_law_take"
  | 21 => "_law_words"
  | 22 => "_law_condition"
  | 23 => "_law_end"
  | 24 => "_law_run"
  | 25 => "_law_steady"
  | 26 => "_law_asked"
  | 27 => "_law_steady_good"
  | 28 => "_law_good"
  | 29 => "_law_large"
  | 30 => "law"
  | _ => ""
abbrev pss : Nat → List Str := fun i => match i with
  | 0 => ["value"]
  | 1 => ["value"]
  | 2 => ["value"]
  | 3 => ["value"]
  | 4 => ["value"]
  | 5 => ["condition", "answers"]
  | 6 => ["condition", "assignment"]
  | 7 => ["value"]
  | 8 => ["value", "answers"]
  | 9 => ["value", "answers"]
  | 10 => ["value", "answers"]
  | 11 => ["condition"]
  | 12 => ["condition", "start", "yes", "no"]
  | 13 => ["condition", "start", "yes", "no"]
  | 14 => ["condition"]
  | 15 => ["rows", "answers", "start"]
  | 16 => ["rows", "assignment"]
  | 17 => ["rows", "assignment"]
  | 18 => ["cell", "k"]
  | 19 => ["script", "k"]
  | 20 => ["own", "options"]
  | 21 => ["own", "many"]
  | 22 => ["own", "words", "deep"]
  | 23 => ["one", "left", "asked"]
  | 24 => ["one", "answers"]
  | 25 => ["one", "known", "asked"]
  | 26 => ["one", "assignment"]
  | 27 => ["one", "assignment"]
  | 28 => ["own", "one", "words"]
  | 29 => []
  | 30 => ["script"]
  | _ => []
abbrev cnm : Nat → Str := fun i => match i with
  | 0 => "LeftFirstError"
  | 1 => "InvalidCondition"
  | 2 => "InvalidAnswers"
  | 3 => "InvalidAssignment"
  | 4 => "Missing"
  | _ => ""
abbrev cfl : Nat → Option Str := fun i => match i with
  | 4 => some "name"
  | _ => none
abbrev csb : Nat → Nat → Bool := fun i j => match i, j with
  | 0, 0 => true
  | 1, 0 => true
  | 1, 1 => true
  | 2, 0 => true
  | 2, 2 => true
  | 3, 0 => true
  | 3, 3 => true
  | 4, 0 => true
  | 4, 4 => true
  | _, _ => false
abbrev i_is_name : Nat := 0
abbrev i_are_names : Nat := 1
abbrev i_is_condition : Nat := 2
abbrev i__is_part : Nat := 3
abbrev i_check_condition : Nat := 4
abbrev i_run : Nat := 5
abbrev i_steady_run : Nat := 6
abbrev i_check_answers : Nat := 7
abbrev i_check_assignment : Nat := 8
abbrev i__is_assignment : Nat := 9
abbrev i__is_answered : Nat := 10
abbrev i_rows_of : Nat := 11
abbrev i__rows : Nat := 12
abbrev i__if_rows : Nat := 13
abbrev i__size : Nat := 14
abbrev i_walked : Nat := 15
abbrev i_steadily_walked : Nat := 16
abbrev i_repeatedly_walked : Nat := 17
abbrev i__law_mixed : Nat := 18
abbrev i__law_cell : Nat := 19
abbrev i__law_take : Nat := 20
abbrev i__law_words : Nat := 21
abbrev i__law_condition : Nat := 22
abbrev i__law_end : Nat := 23
abbrev i__law_run : Nat := 24
abbrev i__law_steady : Nat := 25
abbrev i__law_asked : Nat := 26
abbrev i__law_steady_good : Nat := 27
abbrev i__law_good : Nat := 28
abbrev i__law_large : Nat := 29
abbrev i_law : Nat := 30
abbrev er : Er := ⟨5, cnm, cfl, csb⟩
abbrev dix : Nat → Nat := fun i => match i with
  | 0 => 8
  | 1 => 15
  | _ => 0
abbrev dwd : Nat → PyData := fun i => match i with
  | 0 => (.tuple [(.str "yes"), (.str "no")])
  | 1 => (.int 0)
  | _ => .none
abbrev sg : Sg := ⟨31, nms, pss, ["len", "isinstance", "int", "str", "bool", "list", "tuple", "dict", "set", "all", "any", "sum", "max", "min", "range", "sorted", "enumerate", "zip", "reversed"], 9, gnm, gdt, er, 2, dix, dwd⟩
abbrev Tab (P : Program) (w : World) (K : PySem.W.Frag) (mg : Str → Option Value) (base : Heap) (y : Dy) (n : Nat) (c : Cs) : Prop := Tb P w K mg base sg y n c
/-! is_name -/
abbrev s_is_name : Stmt := topK 13
abbrev N_is_name : List Str := ["value", "sign"]
theorem sc_is_name : FnScope N_is_name ["value"] (defScope s_is_name) := ⟨rfl, rfl, rfl, by decide +kernel, rfl, by decide +kernel, by decide +kernel⟩
def m_is_name (c : Cs) : FS :=
    (fSeq (fIfS (fOrT (fNotT (fTr (fIsi "str" (fV 0)))) (fOrT (fNotT (fB (fChain cLe cLe (fC (.int 1)) (fB1 oLen (fCons (fV 0) fNil)) (fC (sg.gdt 4))))) (fB (f2 cIn (fV 0) (fC (sg.gdt 5)))))) 
      (fRet (fC (.bool false))) 
      fNext) 
    (fRet (fB1 (o1 allW) (fCons (fLc (fItems (fV 0)) (gNm 1) fYes (fChain cLe cLe (fC (.str "a")) (fV 1) (fC (.str "z"))) [1]) fNil))))
theorem ok_is_name {P : Program} {w : World} {K : PySem.W.Frag} {mg : Str → Option Value} {base : Heap} {n : Nat} {y : Dy} {c : Cs} (T : Tab P w K mg base y n c) {f : Addr} {fd : FuncData} (F : FunF K "is_name" s_is_name f fd) :
    FnF P w mg base (XRof K er y.cs) (n + 1) f fd ["value"] (fDef N_is_name.length (m_is_name c)) := okF F sc_is_name fun cdv A outer s H E C =>
    (fss_cons (fs_if (ft_w (fw_or (ft_not (ft_tr (fe_isi (T := "str") (T.b "isinstance" (by decide)) (by rfl) (fv 0) (T.b "str" (by decide)) (by rfl) (by decide +kernel)) (by intro _; rfl))) (fw_or (ft_not (ft_chain (k_le C) (k_le C) fe_int (fe_len (T.b "len" (by decide)) (by rfl) (fa_cons (fv 0) fa_nil)) (fe_g (T.g 4 (by decide)) (by rfl)) (by with_unfolding_all rfl))) (fw_or1 (ft_cmp (k_in C) (fv 0) (fe_g (T.g 5 (by decide)) (by rfl)) (by rfl)))))) 
      (fss_one (fs_ret fe_bl)) 
      fss_nil) 
    (fss_one (fs_ret (fe_all C (T.b "all" (by decide)) (by rfl) (fa_cons (fe_lc0 [("sign", 1)] C sc_is_name.nd (fi_any (fv 0)) (blkOk_by (N := N_is_name) (sc := defScope s_is_name) (by decide +kernel)) (fun _ _ _ _ _ => (fg_nm (i := 1) sc_is_name.nd rfl (by first | exact Or.inl rfl | exact Or.inr rfl))) (by decide) (fun _ _ _ _ _ => (fe_chain (k_le C.blk) (k_le C.blk) fe_str (fv 1) fe_str (by with_unfolding_all rfl)))) fa_nil)))))
/-! are_names -/
abbrev s_are_names : Stmt := topK 14
abbrev N_are_names : List Str := ["value", "name"]
theorem sc_are_names : FnScope N_are_names ["value"] (defScope s_are_names) := ⟨rfl, rfl, rfl, by decide +kernel, rfl, by decide +kernel, by decide +kernel⟩
def m_are_names (c : Cs) : FS :=
    (fSeq (fIfS (fOrT (fNotT (fTr (fIsi "tuple" (fV 0)))) (fOrT (fB (f2 cGt (fB1 oLen (fCons (fV 0) fNil)) (fC (sg.gdt 2)))) (fNotT (fTr (fB1 (o1 allW) (fCons (fLc (fItems (fV 0)) (gNm 1) fYes (fCall 1 (c i_is_name) [] (fCons (fV 1) fNil)) [1]) fNil)))))) 
      (fRet (fC (.bool false))) 
      fNext) 
    (fRet (f2 cEq (fB1 (o1 lstW) (fCons (fV 0) fNil)) (fSortSet (fV 0)))))
theorem ok_are_names {P : Program} {w : World} {K : PySem.W.Frag} {mg : Str → Option Value} {base : Heap} {n : Nat} {y : Dy} {c : Cs} (T : Tab P w K mg base y n c) {f : Addr} {fd : FuncData} (F : FunF K "are_names" s_are_names f fd) :
    FnF P w mg base (XRof K er y.cs) (n + 1) f fd ["value"] (fDef N_are_names.length (m_are_names c)) := okF F sc_are_names fun cdv A outer s H E C =>
    (fss_cons (fs_if (ft_w (fw_or (ft_not (ft_tr (fe_isi (T := "tuple") (T.b "isinstance" (by decide)) (by rfl) (fv 0) (T.b "tuple" (by decide)) (by rfl) (by decide +kernel)) (by intro _; rfl))) (fw_or (ft_cmp (k_gt C) (fe_len (T.b "len" (by decide)) (by rfl) (fa_cons (fv 0) fa_nil)) (fe_g (T.g 2 (by decide)) (by rfl)) (by rfl)) (fw_or1 (ft_not (ft_tr (fe_all C (T.b "all" (by decide)) (by rfl) (fa_cons (fe_lc0 [("name", 1)] C sc_are_names.nd (fi_any (fv 0)) (blkOk_by (N := N_are_names) (sc := defScope s_are_names) (by decide +kernel)) (fun _ _ _ _ _ => (fg_nm (i := 1) sc_are_names.nd rfl (by first | exact Or.inl rfl | exact Or.inr rfl))) (by decide) (fun _ _ _ _ _ => (fe_call (T.F 0 (by decide)) (T.D 0 (by decide)) C.blk (by rfl) (fa_cons (fv 1) fa_nil)))) fa_nil)) (by intro _; rfl))))))) 
      (fss_one (fs_ret fe_bl)) 
      fss_nil) 
    (fss_one (fs_ret (fe_cmp (k_eq C) (fe_toLst (T.b "list" (by decide)) (by rfl) (fa_cons (fv 0) fa_nil)) (fe_sortSet C (T.b "sorted" (by decide)) (by rfl) (T.b "set" (by decide)) (by rfl) (fv 0)) (by rfl)))))
/-! is_condition -/
abbrev s_is_condition : Stmt := topK 15
abbrev N_is_condition : List Str := ["value", "waiting", "found", "nots", "part", "depth", "member"]
theorem sc_is_condition : FnScope N_is_condition ["value"] (defScope s_is_condition) := ⟨rfl, rfl, rfl, by decide +kernel, rfl, by decide +kernel, by decide +kernel⟩
def m_is_condition (c : Cs) : FS :=
    (fSeq (fSet 1 (fMut (fCons (fTup (fCons (fV 0) (fCons (fC (.int 1)) fNil))) fNil))) 
    (fSeq (fSet 2 (fMut fNil)) 
    (fSeq (fSet 3 (fC (.int 0))) 
    (fSeq (fWhile (fTr (fV 1)) 
      (fSeq (fAsg (gTp 2 (gCs (gNm 4) (gCs (gNm 5) gNo))) (f1 oPop (fV 1))) 
      (fSeq (fIfS (fOrT (fB (f2 cGt (fV 5) (fC (sg.gdt 3)))) (fNotT (fTr (fCall 1 (c i__is_part) [] (fCons (fV 4) fNil))))) 
        (fRet (fC (.bool false))) 
        fNext) 
      (fSeq (fIfS (fB (f2 cEq (f2 oIx (fV 4) (fC (.int 0))) (fC (.str "test")))) 
        (fDrop (fM oAppend (fV 2) (fCons (f2 oIx (fV 4) (fC (.int 1))) fNil))) 
        (fDrop (fM oExtend (fV 1) (fCons (fLc (fItems (fSl (fV 4) (fP (fC (.int 1))) fNoP)) (gNm 6) fYes (fTup (fCons (fV 6) (fCons (f2 oAdd (fV 5) (fC (.int 1))) fNil))) [6]) fNil)))) 
      (fSeq (fIfS (fB (f2 cEq (f2 oIx (fV 4) (fC (.int 0))) (fC (.str "not")))) 
        (fAug 3 (fun i j => i + j) (fC (.int 1))) 
        fNext) 
      (fIfS (fOrT (fB (f2 cGt (fB1 oLen (fCons (fV 2) fNil)) (fC (sg.gdt 0)))) (fB (f2 cGt (fV 3) (fC (sg.gdt 1))))) 
        (fRet (fC (.bool false))) 
        fNext)))))) 
    (fRet (f2 cLe (fLenSet (fV 2)) (fC (sg.gdt 2))))))))
theorem ok_is_condition {P : Program} {w : World} {K : PySem.W.Frag} {mg : Str → Option Value} {base : Heap} {n : Nat} {y : Dy} {c : Cs} (T : Tab P w K mg base y n c) {f : Addr} {fd : FuncData} (F : FunF K "is_condition" s_is_condition f fd) :
    FnF P w mg base (XRof K er y.cs) (n + 1) f fd ["value"] (fDef N_is_condition.length (m_is_condition c)) := okF F sc_is_condition fun cdv A outer s H E C =>
    (fss_cons (fs_set (i := 1) sc_is_condition.nd rfl (by first | exact Or.inl rfl | exact Or.inr rfl) (fe_mut (fa_cons (fe_tup (fa_cons (fv 0) (fa_cons fe_int fa_nil))) fa_nil))) 
    (fss_cons (fs_set (i := 2) sc_is_condition.nd rfl (by first | exact Or.inl rfl | exact Or.inr rfl) (fe_mut fa_nil)) 
    (fss_cons (fs_set (i := 3) sc_is_condition.nd rfl (by first | exact Or.inl rfl | exact Or.inr rfl) fe_int) 
    (fss_cons (fs_while C (ft_tr (fv 1) (by intro _; rfl)) 
      (fss_cons (fs_asg (fe_pop (fv 1) (pe_bm0 PySem.F.plainAttrs_list PySem.F.slot_list_pop PySem.F.type_list_pop mt_pop (fv 1))) (fg_tup rfl (fgs_cons (fg_nm (i := 4) sc_is_condition.nd rfl (by first | exact Or.inl rfl | exact Or.inr rfl)) (fgs_cons (fg_nm (i := 5) sc_is_condition.nd rfl (by first | exact Or.inl rfl | exact Or.inr rfl)) fgs_nil)))) 
      (fss_cons (fs_if (ft_w (fw_or (ft_cmp (k_gt C) (fv 5) (fe_g (T.g 3 (by decide)) (by rfl)) (by rfl)) (fw_or1 (ft_not (ft_tr (fe_call (T.F 3 (by decide)) (T.D 3 (by decide)) C (by rfl) (fa_cons (fv 4) fa_nil)) (by intro _; rfl)))))) 
        (fss_one (fs_ret fe_bl)) 
        fss_nil) 
      (fss_cons (fs_if (ft_cmp (k_eq C) (fe_ix C (fv 4) fe_int (fun _ _ => rfl)) fe_str (by rfl)) 
        (fss_one (fs_expr (fe_m opm_append nx_append (pe_bm PySem.F.plainAttrs_list PySem.F.slot_list_append PySem.F.type_list_append mt_append (fv 2) (fa_cons (fe_ix C (fv 4) fe_int (fun _ _ => rfl)) fa_nil))))) 
        (fss_one (fs_expr (fe_m opm_extend nx_extend (pe_bm PySem.F.plainAttrs_list PySem.F.slot_list_extend PySem.F.type_list_extend mt_extend (fv 1) (fa_cons (fe_lc0 [("member", 6)] C sc_is_condition.nd (fi_any (fe_sl (fv 4) (fo_some fe_int) fo_none)) (blkOk_by (N := N_is_condition) (sc := defScope s_is_condition) (by decide +kernel)) (fun _ _ _ _ _ => (fg_nm (i := 6) sc_is_condition.nd rfl (by first | exact Or.inl rfl | exact Or.inr rfl))) (by decide) (fun _ _ _ _ _ => (fe_tup (fa_cons (fv 6) (fa_cons (fe_add (fv 5) fe_int) fa_nil))))) fa_nil)))))) 
      (fss_cons (fs_if (ft_cmp (k_eq C) (fe_ix C (fv 4) fe_int (fun _ _ => rfl)) fe_str (by rfl)) 
        (fss_one (fs_aug (i := 3) ip_add sc_is_condition.nd rfl (by first | exact Or.inl rfl | exact Or.inr rfl) fe_int)) 
        fss_nil) 
      (fss_one (fs_if (ft_w (fw_or (ft_cmp (k_gt C) (fe_len (T.b "len" (by decide)) (by rfl) (fa_cons (fv 2) fa_nil)) (fe_g (T.g 0 (by decide)) (by rfl)) (by rfl)) (fw_or1 (ft_cmp (k_gt C) (fv 3) (fe_g (T.g 1 (by decide)) (by rfl)) (by rfl))))) 
        (fss_one (fs_ret fe_bl)) 
        fss_nil))))))) 
    (fss_one (fs_ret (fe_cmp (k_le C) (fe_lenSet C (T.b "len" (by decide)) (by rfl) (T.b "set" (by decide)) (by rfl) (fv 2)) (fe_g (T.g 2 (by decide)) (by rfl)) (by rfl))))))))
/-! _is_part -/
abbrev s__is_part : Stmt := topK 16
abbrev N__is_part : List Str := ["value", "kind"]
theorem sc__is_part : FnScope N__is_part ["value"] (defScope s__is_part) := ⟨rfl, rfl, rfl, by decide +kernel, rfl, by decide +kernel, by decide +kernel⟩
def m__is_part (c : Cs) : FS :=
    (fSeq (fIfS (fOrT (fNotT (fTr (fIsi "tuple" (fV 0)))) (fB (f2 cLt (fB1 oLen (fCons (fV 0) fNil)) (fC (.int 2))))) 
      (fRet (fC (.bool false))) 
      fNext) 
    (fSeq (fSet 1 (f2 oIx (fV 0) (fC (.int 0)))) 
    (fSeq (fIfS (fB (f2 cEq (fV 1) (fC (.str "test")))) 
      (fRet (fAnd (f2 cEq (fB1 oLen (fCons (fV 0) fNil)) (fC (.int 2))) (fCall 1 (c i_is_name) [] (fCons (f2 oIx (fV 0) (fC (.int 1))) fNil)))) 
      fNext) 
    (fSeq (fIfS (fB (f2 cEq (fV 1) (fC (.str "not")))) 
      (fRet (f2 cEq (fB1 oLen (fCons (fV 0) fNil)) (fC (.int 2)))) 
      fNext) 
    (fSeq (fIfS (fB (f2 cEq (fV 1) (fC (.str "if")))) 
      (fRet (f2 cEq (fB1 oLen (fCons (fV 0) fNil)) (fC (.int 4)))) 
      fNext) 
    (fRet (fAnd (f2 cIn (fV 1) (fTup (fCons (fC (.str "and")) (fCons (fC (.str "or")) fNil)))) (f2 cGe (fB1 oLen (fCons (fV 0) fNil)) (fC (.int 3))))))))))
theorem ok__is_part {P : Program} {w : World} {K : PySem.W.Frag} {mg : Str → Option Value} {base : Heap} {n : Nat} {y : Dy} {c : Cs} (T : Tab P w K mg base y n c) {f : Addr} {fd : FuncData} (F : FunF K "_is_part" s__is_part f fd) :
    FnF P w mg base (XRof K er y.cs) (n + 1) f fd ["value"] (fDef N__is_part.length (m__is_part c)) := okF F sc__is_part fun cdv A outer s H E C =>
    (fss_cons (fs_if (ft_w (fw_or (ft_not (ft_tr (fe_isi (T := "tuple") (T.b "isinstance" (by decide)) (by rfl) (fv 0) (T.b "tuple" (by decide)) (by rfl) (by decide +kernel)) (by intro _; rfl))) (fw_or1 (ft_cmp (k_lt C) (fe_len (T.b "len" (by decide)) (by rfl) (fa_cons (fv 0) fa_nil)) fe_int (by rfl))))) 
      (fss_one (fs_ret fe_bl)) 
      fss_nil) 
    (fss_cons (fs_set (i := 1) sc__is_part.nd rfl (by first | exact Or.inl rfl | exact Or.inr rfl) (fe_ix C (fv 0) fe_int (fun _ _ => rfl))) 
    (fss_cons (fs_if (ft_cmp (k_eq C) (fv 1) fe_str (by rfl)) 
      (fss_one (fs_ret (fe_and (fe_cmp (k_eq C) (fe_len (T.b "len" (by decide)) (by rfl) (fa_cons (fv 0) fa_nil)) fe_int (by rfl)) (fe_one (fe_call (T.F 0 (by decide)) (T.D 0 (by decide)) C (by rfl) (fa_cons (fe_ix C (fv 0) fe_int (fun _ _ => rfl)) fa_nil)))))) 
      fss_nil) 
    (fss_cons (fs_if (ft_cmp (k_eq C) (fv 1) fe_str (by rfl)) 
      (fss_one (fs_ret (fe_cmp (k_eq C) (fe_len (T.b "len" (by decide)) (by rfl) (fa_cons (fv 0) fa_nil)) fe_int (by rfl)))) 
      fss_nil) 
    (fss_cons (fs_if (ft_cmp (k_eq C) (fv 1) fe_str (by rfl)) 
      (fss_one (fs_ret (fe_cmp (k_eq C) (fe_len (T.b "len" (by decide)) (by rfl) (fa_cons (fv 0) fa_nil)) fe_int (by rfl)))) 
      fss_nil) 
    (fss_one (fs_ret (fe_and (fe_cmp (k_in C) (fv 1) (fe_tup (fa_cons fe_str (fa_cons fe_str fa_nil))) (by rfl)) (fe_one (fe_cmp (k_ge C) (fe_len (T.b "len" (by decide)) (by rfl) (fa_cons (fv 0) fa_nil)) fe_int (by rfl)))))))))))
/-! check_condition -/
abbrev s_check_condition : Stmt := topK 17
abbrev N_check_condition : List Str := ["value"]
theorem sc_check_condition : FnScope N_check_condition ["value"] (defScope s_check_condition) := ⟨rfl, rfl, rfl, by decide +kernel, rfl, by decide +kernel, by decide +kernel⟩
def m_check_condition (c : Cs) : FS :=
    (fIfS (fNotT (fTr (fCall 1 (c i_is_condition) [] (fCons (fV 0) fNil)))) 
      (fRaise 1) 
      fNext)
theorem ok_check_condition {P : Program} {w : World} {K : PySem.W.Frag} {mg : Str → Option Value} {base : Heap} {n : Nat} {y : Dy} {c : Cs} (T : Tab P w K mg base y n c) {f : Addr} {fd : FuncData} (F : FunF K "check_condition" s_check_condition f fd) :
    FnF P w mg base (XRof K er y.cs) (n + 1) f fd ["value"] (fDef N_check_condition.length (m_check_condition c)) := okF F sc_check_condition fun cdv A outer s H E C =>
    (fss_one (fs_if (ft_not (ft_tr (fe_call (T.F 2 (by decide)) (T.D 2 (by decide)) C (by rfl) (fa_cons (fv 0) fa_nil)) (by intro _; rfl))) 
      (fss_one (fs_raise C (T.rz 1 (by decide) rfl _ rfl rfl (by rfl)) (T.rd 1 (by decide) rfl))) 
      fss_nil))
/-! run -/
abbrev s_run : Stmt := topK 22
abbrev N_run : List Str := ["condition", "answers"]
theorem sc_run : FnScope N_run ["condition", "answers"] (defScope s_run) := ⟨rfl, rfl, rfl, by decide +kernel, rfl, by decide +kernel, by decide +kernel⟩
def m_run (c : Cs) : FS :=
    (fSeq (fDrop (fCall 1 (c i_check_condition) [] (fCons (fV 0) fNil))) 
    (fSeq (fDrop (fCall 1 (c i_check_answers) [] (fCons (fV 1) fNil))) 
    (fRet (fCall 3 (c i_walked) [.d (sg.dwd 1)] (fCons (fCall 1 (c i_rows_of) [] (fCons (fV 0) fNil)) (fCons (fV 1) fNil))))))
theorem ok_run {P : Program} {w : World} {K : PySem.W.Frag} {mg : Str → Option Value} {base : Heap} {n : Nat} {y : Dy} {c : Cs} (T : Tab P w K mg base y n c) {f : Addr} {fd : FuncData} (F : FunF K "run" s_run f fd) :
    FnF P w mg base (XRof K er y.cs) (n + 1) f fd ["condition", "answers"] (fDef N_run.length (m_run c)) := okF F sc_run fun cdv A outer s H E C =>
    (fss_cons (fs_expr (fe_call (T.F 4 (by decide)) (T.D 4 (by decide)) C (by rfl) (fa_cons (fv 0) fa_nil))) 
    (fss_cons (fs_expr (fe_call (T.F 7 (by decide)) (T.D 7 (by decide)) C (by rfl) (fa_cons (fv 1) fa_nil))) 
    (fss_one (fs_ret (fe_callD (T.F 15 (by decide)) (T.dd 1 (by decide)) (vals_1 (T.dv 1 (by decide))) (rws_1 (T.dw 1 (by decide))) C (by rfl) (fa_cons (fe_call (T.F 11 (by decide)) (T.D 11 (by decide)) C (by rfl) (fa_cons (fv 0) fa_nil)) (fa_cons (fv 1) fa_nil)))))))
/-! steady_run -/
abbrev s_steady_run : Stmt := topK 23
abbrev N_steady_run : List Str := ["condition", "assignment"]
theorem sc_steady_run : FnScope N_steady_run ["condition", "assignment"] (defScope s_steady_run) := ⟨rfl, rfl, rfl, by decide +kernel, rfl, by decide +kernel, by decide +kernel⟩
def m_steady_run (c : Cs) : FS :=
    (fSeq (fDrop (fCall 1 (c i_check_condition) [] (fCons (fV 0) fNil))) 
    (fSeq (fDrop (fCall 2 (c i_check_assignment) [.d (sg.dwd 0)] (fCons (fV 1) fNil))) 
    (fRet (fCall 2 (c i_steadily_walked) [] (fCons (fCall 1 (c i_rows_of) [] (fCons (fV 0) fNil)) (fCons (fV 1) fNil))))))
theorem ok_steady_run {P : Program} {w : World} {K : PySem.W.Frag} {mg : Str → Option Value} {base : Heap} {n : Nat} {y : Dy} {c : Cs} (T : Tab P w K mg base y n c) {f : Addr} {fd : FuncData} (F : FunF K "steady_run" s_steady_run f fd) :
    FnF P w mg base (XRof K er y.cs) (n + 1) f fd ["condition", "assignment"] (fDef N_steady_run.length (m_steady_run c)) := okF F sc_steady_run fun cdv A outer s H E C =>
    (fss_cons (fs_expr (fe_call (T.F 4 (by decide)) (T.D 4 (by decide)) C (by rfl) (fa_cons (fv 0) fa_nil))) 
    (fss_cons (fs_expr (fe_callD (T.F 8 (by decide)) (T.dd 0 (by decide)) (vals_1 (T.dv 0 (by decide))) (rws_1 (T.dw 0 (by decide))) C (by rfl) (fa_cons (fv 1) fa_nil))) 
    (fss_one (fs_ret (fe_call (T.F 16 (by decide)) (T.D 16 (by decide)) C (by rfl) (fa_cons (fe_call (T.F 11 (by decide)) (T.D 11 (by decide)) C (by rfl) (fa_cons (fv 0) fa_nil)) (fa_cons (fv 1) fa_nil)))))))
/-! check_answers -/
abbrev s_check_answers : Stmt := topK 24
abbrev N_check_answers : List Str := ["value", "answer"]
theorem sc_check_answers : FnScope N_check_answers ["value"] (defScope s_check_answers) := ⟨rfl, rfl, rfl, by decide +kernel, rfl, by decide +kernel, by decide +kernel⟩
def m_check_answers (c : Cs) : FS :=
    (fIfS (fOrT (fNotT (fTr (fIsi "list" (fV 0)))) (fOrT (fB (f2 cGt (fB1 oLen (fCons (fV 0) fNil)) (fC (sg.gdt 8)))) (fNotT (fTr (fB1 (o1 allW) (fCons (fLc (fItems (fV 0)) (gNm 1) fYes (f2 cIn (fV 1) (fC (sg.gdt 6))) [1]) fNil)))))) 
      (fRaise 2) 
      fNext)
theorem ok_check_answers {P : Program} {w : World} {K : PySem.W.Frag} {mg : Str → Option Value} {base : Heap} {n : Nat} {y : Dy} {c : Cs} (T : Tab P w K mg base y n c) {f : Addr} {fd : FuncData} (F : FunF K "check_answers" s_check_answers f fd) :
    FnF P w mg base (XRof K er y.cs) (n + 1) f fd ["value"] (fDef N_check_answers.length (m_check_answers c)) := okF F sc_check_answers fun cdv A outer s H E C =>
    (fss_one (fs_if (ft_w (fw_or (ft_not (ft_tr (fe_isi (T := "list") (T.b "isinstance" (by decide)) (by rfl) (fv 0) (T.b "list" (by decide)) (by rfl) (by decide +kernel)) (by intro _; rfl))) (fw_or (ft_cmp (k_gt C) (fe_len (T.b "len" (by decide)) (by rfl) (fa_cons (fv 0) fa_nil)) (fe_g (T.g 8 (by decide)) (by rfl)) (by rfl)) (fw_or1 (ft_not (ft_tr (fe_all C (T.b "all" (by decide)) (by rfl) (fa_cons (fe_lc0 [("answer", 1)] C sc_check_answers.nd (fi_any (fv 0)) (blkOk_by (N := N_check_answers) (sc := defScope s_check_answers) (by decide +kernel)) (fun _ _ _ _ _ => (fg_nm (i := 1) sc_check_answers.nd rfl (by first | exact Or.inl rfl | exact Or.inr rfl))) (by decide) (fun _ _ _ _ _ => (fe_cmp (k_in C.blk) (fv 1) (fe_g (T.g 6 (by decide)) (by rfl)) (by rfl)))) fa_nil)) (by intro _; rfl))))))) 
      (fss_one (fs_raise C (T.rz 2 (by decide) rfl _ rfl rfl (by rfl)) (T.rd 2 (by decide) rfl))) 
      fss_nil))
/-! check_assignment -/
abbrev s_check_assignment : Stmt := topK 25
abbrev N_check_assignment : List Str := ["value", "answers"]
theorem sc_check_assignment : FnScope N_check_assignment ["value", "answers"] (defScope s_check_assignment) := ⟨rfl, rfl, rfl, by decide +kernel, rfl, by decide +kernel, by decide +kernel⟩
def m_check_assignment (c : Cs) : FS :=
    (fIfS (fNotT (fTr (fCall 2 (c i__is_assignment) [] (fCons (fV 0) (fCons (fV 1) fNil))))) 
      (fRaise 3) 
      fNext)
theorem ok_check_assignment {P : Program} {w : World} {K : PySem.W.Frag} {mg : Str → Option Value} {base : Heap} {n : Nat} {y : Dy} {c : Cs} (T : Tab P w K mg base y n c) {f : Addr} {fd : FuncData} (F : FunF K "check_assignment" s_check_assignment f fd) :
    FnF P w mg base (XRof K er y.cs) (n + 1) f fd ["value", "answers"] (fDef N_check_assignment.length (m_check_assignment c)) := okF F sc_check_assignment fun cdv A outer s H E C =>
    (fss_one (fs_if (ft_not (ft_tr (fe_call (T.F 9 (by decide)) (T.D 9 (by decide)) C (by rfl) (fa_cons (fv 0) (fa_cons (fv 1) fa_nil))) (by intro _; rfl))) 
      (fss_one (fs_raise C (T.rz 3 (by decide) rfl _ rfl rfl (by rfl)) (T.rd 3 (by decide) rfl))) 
      fss_nil))
/-! _is_assignment -/
abbrev s__is_assignment : Stmt := topK 26
abbrev N__is_assignment : List Str := ["value", "answers", "pair", "name", "_"]
theorem sc__is_assignment : FnScope N__is_assignment ["value", "answers"] (defScope s__is_assignment) := ⟨rfl, rfl, rfl, by decide +kernel, rfl, by decide +kernel, by decide +kernel⟩
def m__is_assignment (c : Cs) : FS :=
    (fSeq (fIfS (fOrT (fNotT (fTr (fIsi "tuple" (fV 0)))) (fNotT (fTr (fB1 (o1 allW) (fCons (fLc (fItems (fV 0)) (gNm 2) fYes (fCall 2 (c i__is_answered) [] (fCons (fV 2) (fCons (fV 1) fNil))) [2]) fNil))))) 
      (fRet (fC (.bool false))) 
      fNext) 
    (fRet (fCall 1 (c i_are_names) [] (fCons (fB1 (o1 tupW) (fCons (fLc (fItems (fV 0)) (gTp 2 (gCs (gNm 3) (gCs (gNm 4) gNo))) fYes (fV 3) [3, 4]) fNil)) fNil))))
theorem ok__is_assignment {P : Program} {w : World} {K : PySem.W.Frag} {mg : Str → Option Value} {base : Heap} {n : Nat} {y : Dy} {c : Cs} (T : Tab P w K mg base y n c) {f : Addr} {fd : FuncData} (F : FunF K "_is_assignment" s__is_assignment f fd) :
    FnF P w mg base (XRof K er y.cs) (n + 1) f fd ["value", "answers"] (fDef N__is_assignment.length (m__is_assignment c)) := okF F sc__is_assignment fun cdv A outer s H E C =>
    (fss_cons (fs_if (ft_w (fw_or (ft_not (ft_tr (fe_isi (T := "tuple") (T.b "isinstance" (by decide)) (by rfl) (fv 0) (T.b "tuple" (by decide)) (by rfl) (by decide +kernel)) (by intro _; rfl))) (fw_or1 (ft_not (ft_tr (fe_all C (T.b "all" (by decide)) (by rfl) (fa_cons (fe_lc0 [("pair", 2)] C sc__is_assignment.nd (fi_any (fv 0)) (blkOk_by (N := N__is_assignment) (sc := defScope s__is_assignment) (by decide +kernel)) (fun _ _ _ _ _ => (fg_nm (i := 2) sc__is_assignment.nd rfl (by first | exact Or.inl rfl | exact Or.inr rfl))) (by decide) (fun _ _ _ _ _ => (fe_call (T.F 10 (by decide)) (T.D 10 (by decide)) C.blk (by rfl) (fa_cons (fv 2) (fa_cons (fv 1) fa_nil))))) fa_nil)) (by intro _; rfl)))))) 
      (fss_one (fs_ret fe_bl)) 
      fss_nil) 
    (fss_one (fs_ret (fe_call (T.F 1 (by decide)) (T.D 1 (by decide)) C (by rfl) (fa_cons (fe_toTup (T.b "tuple" (by decide)) (by rfl) (fa_cons (fe_lc0 [("name", 3), ("_", 4)] C sc__is_assignment.nd (fi_any (fv 0)) (blkOk_by (N := N__is_assignment) (sc := defScope s__is_assignment) (by decide +kernel)) (fun _ _ _ _ _ => (fg_tup rfl (fgs_cons (fg_nm (i := 3) sc__is_assignment.nd rfl (by first | exact Or.inl rfl | exact Or.inr rfl)) (fgs_cons (fg_nm (i := 4) sc__is_assignment.nd rfl (by first | exact Or.inl rfl | exact Or.inr rfl)) fgs_nil)))) (by decide) (fun _ _ _ _ _ => (fv 3))) fa_nil)) fa_nil)))))
/-! _is_answered -/
abbrev s__is_answered : Stmt := topK 27
abbrev N__is_answered : List Str := ["value", "answers"]
theorem sc__is_answered : FnScope N__is_answered ["value", "answers"] (defScope s__is_answered) := ⟨rfl, rfl, rfl, by decide +kernel, rfl, by decide +kernel, by decide +kernel⟩
def m__is_answered (c : Cs) : FS :=
    (fRet (fAnd (fIsi "tuple" (fV 0)) (fAnd (f2 cEq (fB1 oLen (fCons (fV 0) fNil)) (fC (.int 2))) (f2 cIn (f2 oIx (fV 0) (fC (.int 1))) (fV 1)))))
theorem ok__is_answered {P : Program} {w : World} {K : PySem.W.Frag} {mg : Str → Option Value} {base : Heap} {n : Nat} {y : Dy} {c : Cs} (T : Tab P w K mg base y n c) {f : Addr} {fd : FuncData} (F : FunF K "_is_answered" s__is_answered f fd) :
    FnF P w mg base (XRof K er y.cs) (n + 1) f fd ["value", "answers"] (fDef N__is_answered.length (m__is_answered c)) := okF F sc__is_answered fun cdv A outer s H E C =>
    (fss_one (fs_ret (fe_and (fe_isi (T := "tuple") (T.b "isinstance" (by decide)) (by rfl) (fv 0) (T.b "tuple" (by decide)) (by rfl) (by decide +kernel)) (fe_and (fe_cmp (k_eq C) (fe_len (T.b "len" (by decide)) (by rfl) (fa_cons (fv 0) fa_nil)) fe_int (by rfl)) (fe_one (fe_cmp (k_in C) (fe_ix C (fv 0) fe_int (fun _ _ => rfl)) (fv 1) (by rfl)))))))
/-! rows_of -/
abbrev s_rows_of : Stmt := topK 28
abbrev N_rows_of : List Str := ["condition"]
theorem sc_rows_of : FnScope N_rows_of ["condition"] (defScope s_rows_of) := ⟨rfl, rfl, rfl, by decide +kernel, rfl, by decide +kernel, by decide +kernel⟩
def m_rows_of (c : Cs) : FS :=
    (fRet (fCall 4 (c i__rows) [] (fCons (fV 0) (fCons (fC (.int 0)) (fCons (fC (.str "yes")) (fCons (fC (.str "no")) fNil))))))
theorem ok_rows_of {P : Program} {w : World} {K : PySem.W.Frag} {mg : Str → Option Value} {base : Heap} {n : Nat} {y : Dy} {c : Cs} (T : Tab P w K mg base y n c) {f : Addr} {fd : FuncData} (F : FunF K "rows_of" s_rows_of f fd) :
    FnF P w mg base (XRof K er y.cs) (n + 1) f fd ["condition"] (fDef N_rows_of.length (m_rows_of c)) := okF F sc_rows_of fun cdv A outer s H E C =>
    (fss_one (fs_ret (fe_call (T.F 12 (by decide)) (T.D 12 (by decide)) C (by rfl) (fa_cons (fv 0) (fa_cons fe_int (fa_cons fe_str (fa_cons fe_str fa_nil)))))))
/-! _rows -/
abbrev s__rows : Stmt := topK 29
abbrev N__rows : List Str := ["condition", "start", "yes", "no", "kind", "rows", "member", "first", "behind"]
theorem sc__rows : FnScope N__rows ["condition", "start", "yes", "no"] (defScope s__rows) := ⟨rfl, rfl, rfl, by decide +kernel, rfl, by decide +kernel, by decide +kernel⟩
def m__rows (c : Cs) : FS :=
    (fSeq (fSet 4 (f2 oIx (fV 0) (fC (.int 0)))) 
    (fSeq (fIfS (fB (f2 cEq (fV 4) (fC (.str "test")))) 
      (fRet (fLst (fCons (fTup (fCons (f2 oIx (fV 0) (fC (.int 1))) (fCons (fV 2) (fCons (fV 3) fNil)))) fNil))) 
      fNext) 
    (fSeq (fIfS (fB (f2 cEq (fV 4) (fC (.str "not")))) 
      (fRet (fCall 4 (c i__rows) [] (fCons (f2 oIx (fV 0) (fC (.int 1))) (fCons (fV 1) (fCons (fV 3) (fCons (fV 2) fNil)))))) 
      fNext) 
    (fSeq (fIfS (fB (f2 cEq (fV 4) (fC (.str "if")))) 
      (fRet (fCall 4 (c i__if_rows) [] (fCons (fV 0) (fCons (fV 1) (fCons (fV 2) (fCons (fV 3) fNil)))))) 
      fNext) 
    (fSeq (fSet 5 (fMut fNil)) 
    (fSeq (fFor (fItems (fSl (fV 0) (fP (fC (.int 1))) (fP (f1 oNeg (fC (.int 1)))))) (gNm 6) 
      (fSeq (fSet 7 (f2 oAdd (fV 1) (fB1 oLen (fCons (fV 5) fNil)))) 
      (fSeq (fSet 8 (f2 oAdd (fV 7) (fCall 1 (c i__size) [] (fCons (fV 6) fNil)))) 
      (fIfS (fB (f2 cEq (fV 4) (fC (.str "and")))) 
        (fDrop (fM oExtend (fV 5) (fCons (fCall 4 (c i__rows) [] (fCons (fV 6) (fCons (fV 7) (fCons (fV 8) (fCons (fV 3) fNil))))) fNil))) 
        (fDrop (fM oExtend (fV 5) (fCons (fCall 4 (c i__rows) [] (fCons (fV 6) (fCons (fV 7) (fCons (fV 2) (fCons (fV 8) fNil))))) fNil))))))) 
    (fRet (fLst (fStar (fV 5) (fStar (fCall 4 (c i__rows) [] (fCons (f2 oIx (fV 0) (f1 oNeg (fC (.int 1)))) (fCons (f2 oAdd (fV 1) (fB1 oLen (fCons (fV 5) fNil))) (fCons (fV 2) (fCons (fV 3) fNil))))) fNil))))))))))
theorem ok__rows {P : Program} {w : World} {K : PySem.W.Frag} {mg : Str → Option Value} {base : Heap} {n : Nat} {y : Dy} {c : Cs} (T : Tab P w K mg base y n c) {f : Addr} {fd : FuncData} (F : FunF K "_rows" s__rows f fd) :
    FnF P w mg base (XRof K er y.cs) (n + 1) f fd ["condition", "start", "yes", "no"] (fDef N__rows.length (m__rows c)) := okF F sc__rows fun cdv A outer s H E C =>
    (fss_cons (fs_set (i := 4) sc__rows.nd rfl (by first | exact Or.inl rfl | exact Or.inr rfl) (fe_ix C (fv 0) fe_int (fun _ _ => rfl))) 
    (fss_cons (fs_if (ft_cmp (k_eq C) (fv 4) fe_str (by rfl)) 
      (fss_one (fs_ret (fe_lst (fa_cons (fe_tup (fa_cons (fe_ix C (fv 0) fe_int (fun _ _ => rfl)) (fa_cons (fv 2) (fa_cons (fv 3) fa_nil)))) fa_nil)))) 
      fss_nil) 
    (fss_cons (fs_if (ft_cmp (k_eq C) (fv 4) fe_str (by rfl)) 
      (fss_one (fs_ret (fe_call (T.F 12 (by decide)) (T.D 12 (by decide)) C (by rfl) (fa_cons (fe_ix C (fv 0) fe_int (fun _ _ => rfl)) (fa_cons (fv 1) (fa_cons (fv 3) (fa_cons (fv 2) fa_nil))))))) 
      fss_nil) 
    (fss_cons (fs_if (ft_cmp (k_eq C) (fv 4) fe_str (by rfl)) 
      (fss_one (fs_ret (fe_call (T.F 13 (by decide)) (T.D 13 (by decide)) C (by rfl) (fa_cons (fv 0) (fa_cons (fv 1) (fa_cons (fv 2) (fa_cons (fv 3) fa_nil))))))) 
      fss_nil) 
    (fss_cons (fs_set (i := 5) sc__rows.nd rfl (by first | exact Or.inl rfl | exact Or.inr rfl) (fe_mut fa_nil)) 
    (fss_cons (fs_for C (fi_any (fe_sl (fv 0) (fo_some fe_int) (fo_some (fe_neg fe_int)))) (fg_nm (i := 6) sc__rows.nd rfl (by first | exact Or.inl rfl | exact Or.inr rfl)) 
      (fss_cons (fs_set (i := 7) sc__rows.nd rfl (by first | exact Or.inl rfl | exact Or.inr rfl) (fe_add (fv 1) (fe_len (T.b "len" (by decide)) (by rfl) (fa_cons (fv 5) fa_nil)))) 
      (fss_cons (fs_set (i := 8) sc__rows.nd rfl (by first | exact Or.inl rfl | exact Or.inr rfl) (fe_add (fv 7) (fe_call (T.F 14 (by decide)) (T.D 14 (by decide)) C (by rfl) (fa_cons (fv 6) fa_nil)))) 
      (fss_one (fs_if (ft_cmp (k_eq C) (fv 4) fe_str (by rfl)) 
        (fss_one (fs_expr (fe_m opm_extend nx_extend (pe_bm PySem.F.plainAttrs_list PySem.F.slot_list_extend PySem.F.type_list_extend mt_extend (fv 5) (fa_cons (fe_call (T.F 12 (by decide)) (T.D 12 (by decide)) C (by rfl) (fa_cons (fv 6) (fa_cons (fv 7) (fa_cons (fv 8) (fa_cons (fv 3) fa_nil))))) fa_nil))))) 
        (fss_one (fs_expr (fe_m opm_extend nx_extend (pe_bm PySem.F.plainAttrs_list PySem.F.slot_list_extend PySem.F.type_list_extend mt_extend (fv 5) (fa_cons (fe_call (T.F 12 (by decide)) (T.D 12 (by decide)) C (by rfl) (fa_cons (fv 6) (fa_cons (fv 7) (fa_cons (fv 2) (fa_cons (fv 8) fa_nil))))) fa_nil)))))))))) 
    (fss_one (fs_ret (fe_lst (fa_star (fv 5) (fa_star (fe_call (T.F 12 (by decide)) (T.D 12 (by decide)) C (by rfl) (fa_cons (fe_ix C (fv 0) (fe_neg fe_int) (fun _ _ => rfl)) (fa_cons (fe_add (fv 1) (fe_len (T.b "len" (by decide)) (by rfl) (fa_cons (fv 5) fa_nil))) (fa_cons (fv 2) (fa_cons (fv 3) fa_nil))))) fa_nil)))))))))))
/-! _if_rows -/
abbrev s__if_rows : Stmt := topK 30
abbrev N__if_rows : List Str := ["condition", "start", "yes", "no", "_", "asked", "chosen", "otherwise", "first", "second"]
theorem sc__if_rows : FnScope N__if_rows ["condition", "start", "yes", "no"] (defScope s__if_rows) := ⟨rfl, rfl, rfl, by decide +kernel, rfl, by decide +kernel, by decide +kernel⟩
def m__if_rows (c : Cs) : FS :=
    (fSeq (fAsg (gTp 4 (gCs (gNm 4) (gCs (gNm 5) (gCs (gNm 6) (gCs (gNm 7) gNo))))) (fV 0)) 
    (fSeq (fSet 8 (f2 oAdd (fV 1) (fCall 1 (c i__size) [] (fCons (fV 5) fNil)))) 
    (fSeq (fSet 9 (f2 oAdd (fV 8) (fCall 1 (c i__size) [] (fCons (fV 6) fNil)))) 
    (fRet (fLst (fStar (fCall 4 (c i__rows) [] (fCons (fV 5) (fCons (fV 1) (fCons (fV 8) (fCons (fV 9) fNil))))) (fStar (fCall 4 (c i__rows) [] (fCons (fV 6) (fCons (fV 8) (fCons (fV 2) (fCons (fV 3) fNil))))) (fStar (fCall 4 (c i__rows) [] (fCons (fV 7) (fCons (fV 9) (fCons (fV 2) (fCons (fV 3) fNil))))) fNil))))))))
theorem ok__if_rows {P : Program} {w : World} {K : PySem.W.Frag} {mg : Str → Option Value} {base : Heap} {n : Nat} {y : Dy} {c : Cs} (T : Tab P w K mg base y n c) {f : Addr} {fd : FuncData} (F : FunF K "_if_rows" s__if_rows f fd) :
    FnF P w mg base (XRof K er y.cs) (n + 1) f fd ["condition", "start", "yes", "no"] (fDef N__if_rows.length (m__if_rows c)) := okF F sc__if_rows fun cdv A outer s H E C =>
    (fss_cons (fs_asg (fv 0) (fg_tup rfl (fgs_cons (fg_nm (i := 4) sc__if_rows.nd rfl (by first | exact Or.inl rfl | exact Or.inr rfl)) (fgs_cons (fg_nm (i := 5) sc__if_rows.nd rfl (by first | exact Or.inl rfl | exact Or.inr rfl)) (fgs_cons (fg_nm (i := 6) sc__if_rows.nd rfl (by first | exact Or.inl rfl | exact Or.inr rfl)) (fgs_cons (fg_nm (i := 7) sc__if_rows.nd rfl (by first | exact Or.inl rfl | exact Or.inr rfl)) fgs_nil)))))) 
    (fss_cons (fs_set (i := 8) sc__if_rows.nd rfl (by first | exact Or.inl rfl | exact Or.inr rfl) (fe_add (fv 1) (fe_call (T.F 14 (by decide)) (T.D 14 (by decide)) C (by rfl) (fa_cons (fv 5) fa_nil)))) 
    (fss_cons (fs_set (i := 9) sc__if_rows.nd rfl (by first | exact Or.inl rfl | exact Or.inr rfl) (fe_add (fv 8) (fe_call (T.F 14 (by decide)) (T.D 14 (by decide)) C (by rfl) (fa_cons (fv 6) fa_nil)))) 
    (fss_one (fs_ret (fe_lst (fa_star (fe_call (T.F 12 (by decide)) (T.D 12 (by decide)) C (by rfl) (fa_cons (fv 5) (fa_cons (fv 1) (fa_cons (fv 8) (fa_cons (fv 9) fa_nil))))) (fa_star (fe_call (T.F 12 (by decide)) (T.D 12 (by decide)) C (by rfl) (fa_cons (fv 6) (fa_cons (fv 8) (fa_cons (fv 2) (fa_cons (fv 3) fa_nil))))) (fa_star (fe_call (T.F 12 (by decide)) (T.D 12 (by decide)) C (by rfl) (fa_cons (fv 7) (fa_cons (fv 9) (fa_cons (fv 2) (fa_cons (fv 3) fa_nil))))) fa_nil)))))))))
/-! _size -/
abbrev s__size : Stmt := topK 31
abbrev N__size : List Str := ["condition", "member"]
theorem sc__size : FnScope N__size ["condition"] (defScope s__size) := ⟨rfl, rfl, rfl, by decide +kernel, rfl, by decide +kernel, by decide +kernel⟩
def m__size (c : Cs) : FS :=
    (fSeq (fIfS (fB (f2 cEq (f2 oIx (fV 0) (fC (.int 0))) (fC (.str "test")))) 
      (fRet (fC (.int 1))) 
      fNext) 
    (fRet (fB1 (o1 sumW) (fCons (fLc (fItems (fSl (fV 0) (fP (fC (.int 1))) fNoP)) (gNm 1) fYes (fCall 1 (c i__size) [] (fCons (fV 1) fNil)) [1]) fNil))))
theorem ok__size {P : Program} {w : World} {K : PySem.W.Frag} {mg : Str → Option Value} {base : Heap} {n : Nat} {y : Dy} {c : Cs} (T : Tab P w K mg base y n c) {f : Addr} {fd : FuncData} (F : FunF K "_size" s__size f fd) :
    FnF P w mg base (XRof K er y.cs) (n + 1) f fd ["condition"] (fDef N__size.length (m__size c)) := okF F sc__size fun cdv A outer s H E C =>
    (fss_cons (fs_if (ft_cmp (k_eq C) (fe_ix C (fv 0) fe_int (fun _ _ => rfl)) fe_str (by rfl)) 
      (fss_one (fs_ret fe_int)) 
      fss_nil) 
    (fss_one (fs_ret (fe_sum C (T.b "sum" (by decide)) (by rfl) (fa_cons (fe_lc0 [("member", 1)] C sc__size.nd (fi_any (fe_sl (fv 0) (fo_some fe_int) fo_none)) (blkOk_by (N := N__size) (sc := defScope s__size) (by decide +kernel)) (fun _ _ _ _ _ => (fg_nm (i := 1) sc__size.nd rfl (by first | exact Or.inl rfl | exact Or.inr rfl))) (by decide) (fun _ _ _ _ _ => (fe_call (T.F 14 (by decide)) (T.D 14 (by decide)) C.blk (by rfl) (fa_cons (fv 1) fa_nil)))) fa_nil)))))
/-! walked -/
abbrev s_walked : Stmt := topK 32
abbrev N_walked : List Str := ["rows", "answers", "start", "asked", "target", "name", "yes", "no", "answer"]
theorem sc_walked : FnScope N_walked ["rows", "answers", "start"] (defScope s_walked) := ⟨rfl, rfl, rfl, by decide +kernel, rfl, by decide +kernel, by decide +kernel⟩
def m_walked (c : Cs) : FS :=
    (fSeq (fSet 3 (fMut fNil)) 
    (fSeq (fSet 4 (fV 2)) 
    (fSeq (fWhile (fTr (fIsi "int" (fV 4))) 
      (fSeq (fAsg (gTp 3 (gCs (gNm 5) (gCs (gNm 6) (gCs (gNm 7) gNo)))) (f2 oIx (fV 0) (fV 4))) 
      (fSeq (fDrop (fM oAppend (fV 3) (fCons (fV 5) fNil))) 
      (fSeq (fIfS (fB (f2 cGt (fB1 oLen (fCons (fV 3) fNil)) (fB1 oLen (fCons (fV 1) fNil)))) 
        (fRet (fTup (fCons (fB1 (o1 tupW) (fCons (fV 3) fNil)) (fCons (fC (.str "open")) fNil)))) 
        fNext) 
      (fSeq (fSet 8 (f2 oIx (fV 1) (f2 oSub (fB1 oLen (fCons (fV 3) fNil)) (fC (.int 1))))) 
      (fSeq (fIfS (fB (f2 cEq (fV 8) (fC (.str "fails")))) 
        (fRet (fTup (fCons (fB1 (o1 tupW) (fCons (fV 3) fNil)) (fCons (fC (.str "failed")) fNil)))) 
        fNext) 
      (fSet 4 (fIf (fB (f2 cEq (fV 8) (fC (.str "yes")))) (fV 6) (fV 7))))))))) 
    (fRet (fTup (fCons (fB1 (o1 tupW) (fCons (fV 3) fNil)) (fCons (fV 4) fNil)))))))
theorem ok_walked {P : Program} {w : World} {K : PySem.W.Frag} {mg : Str → Option Value} {base : Heap} {n : Nat} {y : Dy} {c : Cs} (T : Tab P w K mg base y n c) {f : Addr} {fd : FuncData} (F : FunF K "walked" s_walked f fd) :
    FnF P w mg base (XRof K er y.cs) (n + 1) f fd ["rows", "answers", "start"] (fDef N_walked.length (m_walked c)) := okF F sc_walked fun cdv A outer s H E C =>
    (fss_cons (fs_set (i := 3) sc_walked.nd rfl (by first | exact Or.inl rfl | exact Or.inr rfl) (fe_mut fa_nil)) 
    (fss_cons (fs_set (i := 4) sc_walked.nd rfl (by first | exact Or.inl rfl | exact Or.inr rfl) (fv 2)) 
    (fss_cons (fs_while C (ft_tr (fe_isi (T := "int") (T.b "isinstance" (by decide)) (by rfl) (fv 4) (T.b "int" (by decide)) (by rfl) (by decide +kernel)) (by intro _; rfl)) 
      (fss_cons (fs_asg (fe_ix C (fv 0) (fv 4) (fun _ _ => rfl)) (fg_tup rfl (fgs_cons (fg_nm (i := 5) sc_walked.nd rfl (by first | exact Or.inl rfl | exact Or.inr rfl)) (fgs_cons (fg_nm (i := 6) sc_walked.nd rfl (by first | exact Or.inl rfl | exact Or.inr rfl)) (fgs_cons (fg_nm (i := 7) sc_walked.nd rfl (by first | exact Or.inl rfl | exact Or.inr rfl)) fgs_nil))))) 
      (fss_cons (fs_expr (fe_m opm_append nx_append (pe_bm PySem.F.plainAttrs_list PySem.F.slot_list_append PySem.F.type_list_append mt_append (fv 3) (fa_cons (fv 5) fa_nil)))) 
      (fss_cons (fs_if (ft_cmp (k_gt C) (fe_len (T.b "len" (by decide)) (by rfl) (fa_cons (fv 3) fa_nil)) (fe_len (T.b "len" (by decide)) (by rfl) (fa_cons (fv 1) fa_nil)) (by rfl)) 
        (fss_one (fs_ret (fe_tup (fa_cons (fe_toTup (T.b "tuple" (by decide)) (by rfl) (fa_cons (fv 3) fa_nil)) (fa_cons fe_str fa_nil))))) 
        fss_nil) 
      (fss_cons (fs_set (i := 8) sc_walked.nd rfl (by first | exact Or.inl rfl | exact Or.inr rfl) (fe_ix C (fv 1) (fe_sub (fe_len (T.b "len" (by decide)) (by rfl) (fa_cons (fv 3) fa_nil)) fe_int) (fun _ _ => rfl))) 
      (fss_cons (fs_if (ft_cmp (k_eq C) (fv 8) fe_str (by rfl)) 
        (fss_one (fs_ret (fe_tup (fa_cons (fe_toTup (T.b "tuple" (by decide)) (by rfl) (fa_cons (fv 3) fa_nil)) (fa_cons fe_str fa_nil))))) 
        fss_nil) 
      (fss_one (fs_set (i := 4) sc_walked.nd rfl (by first | exact Or.inl rfl | exact Or.inr rfl) (fe_if (ft_cmp (k_eq C) (fv 8) fe_str (by rfl)) (fv 6) (fv 7)))))))))) 
    (fss_one (fs_ret (fe_tup (fa_cons (fe_toTup (T.b "tuple" (by decide)) (by rfl) (fa_cons (fv 3) fa_nil)) (fa_cons (fv 4) fa_nil))))))))
/-! steadily_walked -/
abbrev s_steadily_walked : Stmt := topK 33
abbrev N_steadily_walked : List Str := ["rows", "assignment", "asked", "end", "name"]
theorem sc_steadily_walked : FnScope N_steadily_walked ["rows", "assignment"] (defScope s_steadily_walked) := ⟨rfl, rfl, rfl, by decide +kernel, rfl, by decide +kernel, by decide +kernel⟩
def m_steadily_walked (c : Cs) : FS :=
    (fSeq (fAsg (gTp 2 (gCs (gNm 2) (gCs (gNm 3) gNo))) (fCall 2 (c i_repeatedly_walked) [] (fCons (fV 0) (fCons (fV 1) fNil)))) 
    (fRet (fTup (fCons (fB1 (o1 tupD) (fCons (fDc (fItems (fV 2)) (gNm 4) fYes (fV 4) (fC (.bool true)) [4]) fNil)) (fCons (fV 3) fNil)))))
theorem ok_steadily_walked {P : Program} {w : World} {K : PySem.W.Frag} {mg : Str → Option Value} {base : Heap} {n : Nat} {y : Dy} {c : Cs} (T : Tab P w K mg base y n c) {f : Addr} {fd : FuncData} (F : FunF K "steadily_walked" s_steadily_walked f fd) :
    FnF P w mg base (XRof K er y.cs) (n + 1) f fd ["rows", "assignment"] (fDef N_steadily_walked.length (m_steadily_walked c)) := okF F sc_steadily_walked fun cdv A outer s H E C =>
    (fss_cons (fs_asg (fe_call (T.F 17 (by decide)) (T.D 17 (by decide)) C (by rfl) (fa_cons (fv 0) (fa_cons (fv 1) fa_nil))) (fg_tup rfl (fgs_cons (fg_nm (i := 2) sc_steadily_walked.nd rfl (by first | exact Or.inl rfl | exact Or.inr rfl)) (fgs_cons (fg_nm (i := 3) sc_steadily_walked.nd rfl (by first | exact Or.inl rfl | exact Or.inr rfl)) fgs_nil)))) 
    (fss_one (fs_ret (fe_tup (fa_cons (fe_tupD C (T.b "tuple" (by decide)) (by rfl) (fa_cons (fe_dc0 [("name", 4)] C sc_steadily_walked.nd (fi_any (fv 2)) (blkOk_by (N := N_steadily_walked) (sc := defScope s_steadily_walked) (by decide +kernel)) (fun _ _ _ _ _ => (fg_nm (i := 4) sc_steadily_walked.nd rfl (by first | exact Or.inl rfl | exact Or.inr rfl))) (by decide) (fun _ _ _ _ _ => (fv 4)) (fun _ _ _ _ _ => fe_bl)) fa_nil)) (fa_cons (fv 3) fa_nil))))))
/-! repeatedly_walked -/
abbrev s_repeatedly_walked : Stmt := topK 34
abbrev N_repeatedly_walked : List Str := ["rows", "assignment", "answers", "asked", "target", "name", "yes", "no"]
theorem sc_repeatedly_walked : FnScope N_repeatedly_walked ["rows", "assignment"] (defScope s_repeatedly_walked) := ⟨rfl, rfl, rfl, by decide +kernel, rfl, by decide +kernel, by decide +kernel⟩
def m_repeatedly_walked (c : Cs) : FS :=
    (fSeq (fSet 2 (fB1 (o1 dictW) (fCons (fV 1) fNil))) 
    (fSeq (fSet 3 (fMut fNil)) 
    (fSeq (fSet 4 (fC (.int 0))) 
    (fSeq (fWhile (fTr (fIsi "int" (fV 4))) 
      (fSeq (fAsg (gTp 3 (gCs (gNm 5) (gCs (gNm 6) (gCs (gNm 7) gNo)))) (f2 oIx (fV 0) (fV 4))) 
      (fSeq (fIfS (fB (f2 cNi (fV 5) (fV 2))) 
        (fRaiseF 4 (fV 5)) 
        fNext) 
      (fSeq (fDrop (fM oAppend (fV 3) (fCons (fV 5) fNil))) 
      (fSeq (fIfS (fB (f2 cEq (f2 oIx (fV 2) (fV 5)) (fC (.str "fails")))) 
        (fRet (fTup (fCons (fV 3) (fCons (fC (.str "failed")) fNil)))) 
        fNext) 
      (fSet 4 (fIf (fB (f2 cEq (f2 oIx (fV 2) (fV 5)) (fC (.str "yes")))) (fV 6) (fV 7)))))))) 
    (fRet (fTup (fCons (fV 3) (fCons (fV 4) fNil))))))))
theorem ok_repeatedly_walked {P : Program} {w : World} {K : PySem.W.Frag} {mg : Str → Option Value} {base : Heap} {n : Nat} {y : Dy} {c : Cs} (T : Tab P w K mg base y n c) {f : Addr} {fd : FuncData} (F : FunF K "repeatedly_walked" s_repeatedly_walked f fd) :
    FnF P w mg base (XRof K er y.cs) (n + 1) f fd ["rows", "assignment"] (fDef N_repeatedly_walked.length (m_repeatedly_walked c)) := okF F sc_repeatedly_walked fun cdv A outer s H E C =>
    (fss_cons (fs_set (i := 2) sc_repeatedly_walked.nd rfl (by first | exact Or.inl rfl | exact Or.inr rfl) (fe_dict C (T.b "dict" (by decide)) (by rfl) (fa_cons (fv 1) fa_nil))) 
    (fss_cons (fs_set (i := 3) sc_repeatedly_walked.nd rfl (by first | exact Or.inl rfl | exact Or.inr rfl) (fe_mut fa_nil)) 
    (fss_cons (fs_set (i := 4) sc_repeatedly_walked.nd rfl (by first | exact Or.inl rfl | exact Or.inr rfl) fe_int) 
    (fss_cons (fs_while C (ft_tr (fe_isi (T := "int") (T.b "isinstance" (by decide)) (by rfl) (fv 4) (T.b "int" (by decide)) (by rfl) (by decide +kernel)) (by intro _; rfl)) 
      (fss_cons (fs_asg (fe_ix C (fv 0) (fv 4) (fun _ _ => rfl)) (fg_tup rfl (fgs_cons (fg_nm (i := 5) sc_repeatedly_walked.nd rfl (by first | exact Or.inl rfl | exact Or.inr rfl)) (fgs_cons (fg_nm (i := 6) sc_repeatedly_walked.nd rfl (by first | exact Or.inl rfl | exact Or.inr rfl)) (fgs_cons (fg_nm (i := 7) sc_repeatedly_walked.nd rfl (by first | exact Or.inl rfl | exact Or.inr rfl)) fgs_nil))))) 
      (fss_cons (fs_if (ft_cmp (k_ni C) (fv 5) (fv 2) (by rfl)) 
        (fss_one (fs_raiseF C (by decide) rfl (T.mf 4 "name" (by decide) rfl _ rfl rfl rfl rfl rfl (C.room.mono T.n2) (by rfl) (pa_cons (fv 5) pa_nil) rfl rfl))) 
        fss_nil) 
      (fss_cons (fs_expr (fe_m opm_append nx_append (pe_bm PySem.F.plainAttrs_list PySem.F.slot_list_append PySem.F.type_list_append mt_append (fv 3) (fa_cons (fv 5) fa_nil)))) 
      (fss_cons (fs_if (ft_cmp (k_eq C) (fe_ix C (fv 2) (fv 5) (fun _ _ => rfl)) fe_str (by rfl)) 
        (fss_one (fs_ret (fe_tup (fa_cons (fv 3) (fa_cons fe_str fa_nil))))) 
        fss_nil) 
      (fss_one (fs_set (i := 4) sc_repeatedly_walked.nd rfl (by first | exact Or.inl rfl | exact Or.inr rfl) (fe_if (ft_cmp (k_eq C) (fe_ix C (fv 2) (fv 5) (fun _ _ => rfl)) fe_str (by rfl)) (fv 6) (fv 7))))))))) 
    (fss_one (fs_ret (fe_tup (fa_cons (fv 3) (fa_cons (fv 4) fa_nil)))))))))
/-! _law_mixed -/
abbrev s__law_mixed : Stmt := topK 36
abbrev N__law_mixed : List Str := ["cell", "k", "mix"]
theorem sc__law_mixed : FnScope N__law_mixed ["cell", "k"] (defScope s__law_mixed) := ⟨rfl, rfl, rfl, by decide +kernel, rfl, by decide +kernel, by decide +kernel⟩
def m__law_mixed (c : Cs) : FS :=
    (fSeq (fSet 2 (f2 oMod (fB1 (o1 intW) (fCons (f2 oAdd (f2 oAdd (f2 oMul (f2 oMod (fB1 (o1 intW) (fCons (fV 0) fNil)) (fC (.int 2147483647))) (fC (.int 48271))) (f2 oMul (fV 1) (fC (.int 69621)))) (fC (.int 1048583))) fNil)) (fC (.int 2147483629)))) 
    (fSeq (fSet 2 (f2 oMod (fB1 (o1 intW) (fCons (f2 oMul (fV 2) (fV 2)) fNil)) (fC (.int 2147483587)))) 
    (fRet (f2 oMod (fB1 (o1 intW) (fCons (f2 oMul (fV 2) (f2 oAdd (fV 2) (fC (.int 2)))) fNil)) (fC (.int 2147483579))))))
theorem ok__law_mixed {P : Program} {w : World} {K : PySem.W.Frag} {mg : Str → Option Value} {base : Heap} {n : Nat} {y : Dy} {c : Cs} (T : Tab P w K mg base y n c) {f : Addr} {fd : FuncData} (F : FunF K "_law_mixed" s__law_mixed f fd) :
    FnF P w mg base (XRof K er y.cs) (n + 1) f fd ["cell", "k"] (fDef N__law_mixed.length (m__law_mixed c)) := okF F sc__law_mixed fun cdv A outer s H E C =>
    (fss_cons (fs_set (i := 2) sc__law_mixed.nd rfl (by first | exact Or.inl rfl | exact Or.inr rfl) (fe_mod (fe_toInt (T.b "int" (by decide)) (by rfl) (fa_cons (fe_add (fe_add (fe_mul (fe_mod (fe_toInt (T.b "int" (by decide)) (by rfl) (fa_cons (fv 0) fa_nil)) fe_int) fe_int) (fe_mul (fv 1) fe_int)) fe_int) fa_nil)) fe_int)) 
    (fss_cons (fs_set (i := 2) sc__law_mixed.nd rfl (by first | exact Or.inl rfl | exact Or.inr rfl) (fe_mod (fe_toInt (T.b "int" (by decide)) (by rfl) (fa_cons (fe_mul (fv 2) (fv 2)) fa_nil)) fe_int)) 
    (fss_one (fs_ret (fe_mod (fe_toInt (T.b "int" (by decide)) (by rfl) (fa_cons (fe_mul (fv 2) (fe_add (fv 2) fe_int)) fa_nil)) fe_int)))))
/-! _law_cell -/
abbrev s__law_cell : Stmt := topK 37
abbrev N__law_cell : List Str := ["script", "k", "cell", "found", "j"]
theorem sc__law_cell : FnScope N__law_cell ["script", "k"] (defScope s__law_cell) := ⟨rfl, rfl, rfl, by decide +kernel, rfl, by decide +kernel, by decide +kernel⟩
def m__law_cell (c : Cs) : FS :=
    (fSeq (fSet 2 (fC (.int 0))) 
    (fSeq (fIfS (fB (f2 cLt (fV 1) (fB1 oLen (fCons (fV 0) fNil)))) 
      (fSet 2 (f2 oIx (fV 0) (fV 1))) 
      fNext) 
    (fSeq (fIfS (fB (f2 cGe (fV 2) (f2 oPow (fC (.int 10)) (fC (.int 18))))) 
      (fRet (f2 oMod (fB1 (o1 intW) (fCons (f2 oSub (fV 2) (f2 oPow (fC (.int 10)) (fC (.int 18)))) fNil)) (f2 oMul (f2 oMul (f2 oMul (f2 oPow (fC (.int 10)) (fC (.int 60))) (f2 oPow (fC (.int 10)) (fC (.int 60)))) (f2 oPow (fC (.int 10)) (fC (.int 60)))) (f2 oPow (fC (.int 10)) (fC (.int 60)))))) 
      fNext) 
    (fSeq (fSet 3 (fC (.int 0))) 
    (fSeq (fFor (fRng1 (fCons (fC (.int 24)) fNil)) (gNm 4) 
      (fSet 3 (f2 oAdd (f2 oMul (fV 3) (fC (.int 2147483579))) (fCall 2 (c i__law_mixed) [] (fCons (fV 2) (fCons (f2 oAdd (f2 oAdd (f2 oMul (fC (.int 7)) (fV 1)) (f2 oMul (fC (.int 100)) (fV 4))) (f2 oMul (fV 4) (fV 4))) fNil)))))) 
    (fRet (fV 3)))))))
theorem ok__law_cell {P : Program} {w : World} {K : PySem.W.Frag} {mg : Str → Option Value} {base : Heap} {n : Nat} {y : Dy} {c : Cs} (T : Tab P w K mg base y n c) {f : Addr} {fd : FuncData} (F : FunF K "_law_cell" s__law_cell f fd) :
    FnF P w mg base (XRof K er y.cs) (n + 1) f fd ["script", "k"] (fDef N__law_cell.length (m__law_cell c)) := okF F sc__law_cell fun cdv A outer s H E C =>
    (fss_cons (fs_set (i := 2) sc__law_cell.nd rfl (by first | exact Or.inl rfl | exact Or.inr rfl) fe_int) 
    (fss_cons (fs_if (ft_cmp (k_lt C) (fv 1) (fe_len (T.b "len" (by decide)) (by rfl) (fa_cons (fv 0) fa_nil)) (by rfl)) 
      (fss_one (fs_set (i := 2) sc__law_cell.nd rfl (by first | exact Or.inl rfl | exact Or.inr rfl) (fe_ix C (fv 0) (fv 1) (fun _ _ => rfl)))) 
      fss_nil) 
    (fss_cons (fs_if (ft_cmp (k_ge C) (fv 2) (fe_pow fe_int fe_int) (by rfl)) 
      (fss_one (fs_ret (fe_mod (fe_toInt (T.b "int" (by decide)) (by rfl) (fa_cons (fe_sub (fv 2) (fe_pow fe_int fe_int)) fa_nil)) (fe_mul (fe_mul (fe_mul (fe_pow fe_int fe_int) (fe_pow fe_int fe_int)) (fe_pow fe_int fe_int)) (fe_pow fe_int fe_int))))) 
      fss_nil) 
    (fss_cons (fs_set (i := 3) sc__law_cell.nd rfl (by first | exact Or.inl rfl | exact Or.inr rfl) fe_int) 
    (fss_cons (fs_for C (fi_rng1 (by rfl) (T.b "range" (by decide)) (fa_cons fe_int fa_nil)) (fg_nm (i := 4) sc__law_cell.nd rfl (by first | exact Or.inl rfl | exact Or.inr rfl)) 
      (fss_one (fs_set (i := 3) sc__law_cell.nd rfl (by first | exact Or.inl rfl | exact Or.inr rfl) (fe_add (fe_mul (fv 3) fe_int) (fe_call (T.F 18 (by decide)) (T.D 18 (by decide)) C (by rfl) (fa_cons (fv 2) (fa_cons (fe_add (fe_add (fe_mul fe_int (fv 1)) (fe_mul fe_int (fv 4))) (fe_mul (fv 4) (fv 4))) fa_nil))))))) 
    (fss_one (fs_ret (fv 3))))))))
/-! _law_take -/
abbrev s__law_take : Stmt := topK 38
abbrev N__law_take : List Str := ["own", "options", "digit"]
theorem sc__law_take : FnScope N__law_take ["own", "options"] (defScope s__law_take) := ⟨rfl, rfl, rfl, by decide +kernel, rfl, by decide +kernel, by decide +kernel⟩
def m__law_take (c : Cs) : FS :=
    (fSeq (fSet 2 (f2 oMod (fB1 (o1 intW) (fCons (f2 oIx (fV 0) (fC (.int 0))) fNil)) (fV 1))) 
    (fSeq (fSetIx (f2 oDiv (f2 oIx (fV 0) (fC (.int 0))) (fV 1)) (fV 0) (fC (.int 0))) 
    (fRet (fV 2))))
theorem ok__law_take {P : Program} {w : World} {K : PySem.W.Frag} {mg : Str → Option Value} {base : Heap} {n : Nat} {y : Dy} {c : Cs} (T : Tab P w K mg base y n c) {f : Addr} {fd : FuncData} (F : FunF K "_law_take" s__law_take f fd) :
    FnF P w mg base (XRof K er y.cs) (n + 1) f fd ["own", "options"] (fDef N__law_take.length (m__law_take c)) := okF F sc__law_take fun cdv A outer s H E C =>
    (fss_cons (fs_set (i := 2) sc__law_take.nd rfl (by first | exact Or.inl rfl | exact Or.inr rfl) (fe_mod (fe_toInt (T.b "int" (by decide)) (by rfl) (fa_cons (fe_ix C (fv 0) fe_int (fun _ _ => rfl)) fa_nil)) (fv 1))) 
    (fss_cons (fs_setIx (fe_div (fe_ix C (fv 0) fe_int (fun _ _ => rfl)) (fv 1)) (fv 0) fe_int) 
    (fss_one (fs_ret (fv 2)))))
/-! _law_words -/
abbrev s__law_words : Stmt := topK 39
abbrev N__law_words : List Str := ["own", "many", "some", "at"]
theorem sc__law_words : FnScope N__law_words ["own", "many"] (defScope s__law_words) := ⟨rfl, rfl, rfl, by decide +kernel, rfl, by decide +kernel, by decide +kernel⟩
def m__law_words (c : Cs) : FS :=
    (fSeq (fSet 2 (fLst (fCons (fC (.str "a")) (fCons (fC (.str "ab")) (fCons (fC (.str "goto")) (fCons (fC (.str "test")) (fCons (fC (.str "c")) (fCons (fC (.str "yes")) (fCons (fC (.str "longname")) (fCons (fC (.str "iff")) (fCons (fC (.str "jump")) (fCons (fC (.str "no")) fNil)))))))))))) 
    (fSeq (fSet 3 (fCall 2 (c i__law_take) [] (fCons (fV 0) (fCons (fC (.int 10)) fNil)))) 
    (fRet (fSl (f2 oAdd (fSl (fV 2) (fP (fV 3)) fNoP) (fSl (fV 2) fNoP (fP (fV 3)))) fNoP (fP (fV 1))))))
theorem ok__law_words {P : Program} {w : World} {K : PySem.W.Frag} {mg : Str → Option Value} {base : Heap} {n : Nat} {y : Dy} {c : Cs} (T : Tab P w K mg base y n c) {f : Addr} {fd : FuncData} (F : FunF K "_law_words" s__law_words f fd) :
    FnF P w mg base (XRof K er y.cs) (n + 1) f fd ["own", "many"] (fDef N__law_words.length (m__law_words c)) := okF F sc__law_words fun cdv A outer s H E C =>
    (fss_cons (fs_set (i := 2) sc__law_words.nd rfl (by first | exact Or.inl rfl | exact Or.inr rfl) (fe_lst (fa_cons fe_str (fa_cons fe_str (fa_cons fe_str (fa_cons fe_str (fa_cons fe_str (fa_cons fe_str (fa_cons fe_str (fa_cons fe_str (fa_cons fe_str (fa_cons fe_str fa_nil)))))))))))) 
    (fss_cons (fs_set (i := 3) sc__law_words.nd rfl (by first | exact Or.inl rfl | exact Or.inr rfl) (fe_call (T.F 20 (by decide)) (T.D 20 (by decide)) C (by rfl) (fa_cons (fv 0) (fa_cons fe_int fa_nil)))) 
    (fss_one (fs_ret (fe_sl (fe_add (fe_sl (fv 2) (fo_some (fv 3)) fo_none) (fe_sl (fv 2) fo_none (fo_some (fv 3)))) fo_none (fo_some (fv 1)))))))
/-! _law_condition -/
abbrev s__law_condition : Stmt := topK 40
abbrev N__law_condition : List Str := ["own", "words", "deep", "pick", "pieces", "k"]
theorem sc__law_condition : FnScope N__law_condition ["own", "words", "deep"] (defScope s__law_condition) := ⟨rfl, rfl, rfl, by decide +kernel, rfl, by decide +kernel, by decide +kernel⟩
def m__law_condition (c : Cs) : FS :=
    (fSeq (fSet 3 (fCall 2 (c i__law_take) [] (fCons (fV 0) (fCons (fC (.int 9)) fNil)))) 
    (fSeq (fIfS (fOrT (fB (f2 cEq (fV 2) (fC (.int 0)))) (fB (f2 cEq (fV 3) (fC (.int 0))))) 
      (fRet (fTup (fCons (fC (.str "test")) (fCons (f2 oIx (fV 1) (fCall 2 (c i__law_take) [] (fCons (fV 0) (fCons (fB1 oLen (fCons (fV 1) fNil)) fNil)))) fNil)))) 
      fNext) 
    (fSeq (fIfS (fB (f2 cLt (fV 3) (fC (.int 3)))) 
      (fRet (fTup (fCons (fC (.str "not")) (fCons (fCall 3 (c i__law_condition) [] (fCons (fV 0) (fCons (fV 1) (fCons (f2 oSub (fV 2) (fC (.int 1))) fNil)))) fNil)))) 
      fNext) 
    (fSeq (fIfS (fB (f2 cLt (fV 3) (fC (.int 8)))) 
      (fSeq (fSet 4 (fLc (fRng1 (fCons (f2 oAdd (fC (.int 2)) (f2 oDiv (fCall 2 (c i__law_take) [] (fCons (fV 0) (fCons (fC (.int 5)) fNil))) (fC (.int 4)))) fNil)) (gNm 5) fYes (fCall 3 (c i__law_condition) [] (fCons (fV 0) (fCons (fV 1) (fCons (f2 oSub (fV 2) (fC (.int 1))) fNil)))) [5])) 
      (fRet (f2 oAdd (fTup (fCons (f2 oIx (fLst (fCons (fC (.str "and")) (fCons (fC (.str "or")) fNil))) (f2 oMod (fB1 (o1 intW) (fCons (fV 3) fNil)) (fC (.int 2)))) fNil)) (fB1 (o1 tupW) (fCons (fV 4) fNil))))) 
      fNext) 
    (fRet (f2 oAdd (fTup (fCons (fC (.str "if")) fNil)) (fB1 (o1 tupW) (fCons (fLc (fRng1 (fCons (fC (.int 3)) fNil)) (gNm 5) fYes (fCall 3 (c i__law_condition) [] (fCons (fV 0) (fCons (fV 1) (fCons (f2 oSub (fV 2) (fC (.int 1))) fNil)))) [5]) fNil))))))))
theorem ok__law_condition {P : Program} {w : World} {K : PySem.W.Frag} {mg : Str → Option Value} {base : Heap} {n : Nat} {y : Dy} {c : Cs} (T : Tab P w K mg base y n c) {f : Addr} {fd : FuncData} (F : FunF K "_law_condition" s__law_condition f fd) :
    FnF P w mg base (XRof K er y.cs) (n + 1) f fd ["own", "words", "deep"] (fDef N__law_condition.length (m__law_condition c)) := okF F sc__law_condition fun cdv A outer s H E C =>
    (fss_cons (fs_set (i := 3) sc__law_condition.nd rfl (by first | exact Or.inl rfl | exact Or.inr rfl) (fe_call (T.F 20 (by decide)) (T.D 20 (by decide)) C (by rfl) (fa_cons (fv 0) (fa_cons fe_int fa_nil)))) 
    (fss_cons (fs_if (ft_w (fw_or (ft_cmp (k_eq C) (fv 2) fe_int (by rfl)) (fw_or1 (ft_cmp (k_eq C) (fv 3) fe_int (by rfl))))) 
      (fss_one (fs_ret (fe_tup (fa_cons fe_str (fa_cons (fe_ix C (fv 1) (fe_call (T.F 20 (by decide)) (T.D 20 (by decide)) C (by rfl) (fa_cons (fv 0) (fa_cons (fe_len (T.b "len" (by decide)) (by rfl) (fa_cons (fv 1) fa_nil)) fa_nil))) (fun _ _ => rfl)) fa_nil))))) 
      fss_nil) 
    (fss_cons (fs_if (ft_cmp (k_lt C) (fv 3) fe_int (by rfl)) 
      (fss_one (fs_ret (fe_tup (fa_cons fe_str (fa_cons (fe_call (T.F 22 (by decide)) (T.D 22 (by decide)) C (by rfl) (fa_cons (fv 0) (fa_cons (fv 1) (fa_cons (fe_sub (fv 2) fe_int) fa_nil)))) fa_nil))))) 
      fss_nil) 
    (fss_cons (fs_if (ft_cmp (k_lt C) (fv 3) fe_int (by rfl)) 
      (fss_cons (fs_setLc0 (i := 4) [("k", 5)] C sc__law_condition.nd rfl (by first | rfl | decide +kernel) (by rfl) (fi_rng1 (by rfl) (T.b "range" (by decide)) (fa_cons (fe_add fe_int (fe_div (fe_call (T.F 20 (by decide)) (T.D 20 (by decide)) C (by rfl) (fa_cons (fv 0) (fa_cons fe_int fa_nil))) fe_int)) fa_nil)) (blkOk_by (N := N__law_condition) (sc := defScope s__law_condition) (by decide +kernel)) (fun _ _ _ _ _ => (fg_nm (i := 5) sc__law_condition.nd rfl (by first | exact Or.inl rfl | exact Or.inr rfl))) (by decide) (fun _ _ _ _ _ => (fe_call (T.F 22 (by decide)) (T.D 22 (by decide)) C.blk (by rfl) (fa_cons (fv 0) (fa_cons (fv 1) (fa_cons (fe_sub (fv 2) fe_int) fa_nil)))))) 
      (fss_one (fs_ret (fe_add (fe_tup (fa_cons (fe_ix C (fe_lst (fa_cons fe_str (fa_cons fe_str fa_nil))) (fe_mod (fe_toInt (T.b "int" (by decide)) (by rfl) (fa_cons (fv 3) fa_nil)) fe_int) (fun _ _ => rfl)) fa_nil)) (fe_toTup (T.b "tuple" (by decide)) (by rfl) (fa_cons (fv 4) fa_nil)))))) 
      fss_nil) 
    (fss_one (fs_ret (fe_add (fe_tup (fa_cons fe_str fa_nil)) (fe_toTup (T.b "tuple" (by decide)) (by rfl) (fa_cons (fe_lc0 [("k", 5)] C sc__law_condition.nd (fi_rng1 (by rfl) (T.b "range" (by decide)) (fa_cons fe_int fa_nil)) (blkOk_by (N := N__law_condition) (sc := defScope s__law_condition) (by decide +kernel)) (fun _ _ _ _ _ => (fg_nm (i := 5) sc__law_condition.nd rfl (by first | exact Or.inl rfl | exact Or.inr rfl))) (by decide) (fun _ _ _ _ _ => (fe_call (T.F 22 (by decide)) (T.D 22 (by decide)) C.blk (by rfl) (fa_cons (fv 0) (fa_cons (fv 1) (fa_cons (fe_sub (fv 2) fe_int) fa_nil)))))) fa_nil)))))))))
/-! _law_end -/
abbrev s__law_end : Stmt := topK 42
abbrev N__law_end : List Str := ["one", "left", "asked", "answer", "first", "stop", "rest"]
theorem sc__law_end : FnScope N__law_end ["one", "left", "asked"] (defScope s__law_end) := ⟨rfl, rfl, rfl, by decide +kernel, rfl, by decide +kernel, by decide +kernel⟩
def m__law_end (c : Cs) : FS :=
    (fSeq (fIfS (fB (f2 cEq (f2 oIx (fV 0) (fC (.int 0))) (fC (.str "test")))) 
      (fSeq (fDrop (fM oAppend (fV 2) (fCons (f2 oIx (fV 0) (fC (.int 1))) fNil))) 
      (fSeq (fIfS (fB (f2 cEq (fV 1) (fLst fNil))) 
        (fRet (fC (.str "open"))) 
        fNext) 
      (fSeq (fSet 3 (fM oPopAt (fV 1) (fCons (fC (.int 0)) fNil))) 
      (fRet (fIf (fB (f2 cEq (fV 3) (fC (.str "fails")))) (fC (.str "failed")) (fV 3)))))) 
      fNext) 
    (fSeq (fSet 4 (fCall 3 (c i__law_end) [] (fCons (f2 oIx (fV 0) (fC (.int 1))) (fCons (fV 1) (fCons (fV 2) fNil))))) 
    (fSeq (fIfS (fB (f2 cEq (f2 oIx (fV 0) (fC (.int 0))) (fC (.str "not")))) 
      (fRet (fGet2 (fDisp ((.inr "yes", (fC (.str "no"))) :: ((.inr "no", (fC (.str "yes"))) :: []))) (fV 4) (fV 4))) 
      fNext) 
    (fSeq (fIfS (fB (f2 cNi (fV 4) (fLst (fCons (fC (.str "yes")) (fCons (fC (.str "no")) fNil))))) 
      (fRet (fV 4)) 
      fNext) 
    (fSeq (fIfS (fB (f2 cEq (f2 oIx (fV 0) (fC (.int 0))) (fC (.str "if")))) 
      (fRet (fCall 3 (c i__law_end) [] (fCons (fIf (fB (f2 cEq (fV 4) (fC (.str "yes")))) (f2 oIx (fV 0) (fC (.int 2))) (f2 oIx (fV 0) (fC (.int 3)))) (fCons (fV 1) (fCons (fV 2) fNil))))) 
      fNext) 
    (fSeq (fSet 5 (fIf (fB (f2 cEq (f2 oIx (fV 0) (fC (.int 0))) (fC (.str "and")))) (fC (.str "no")) (fC (.str "yes")))) 
    (fSeq (fIfS (fB (f2 cEq (fV 4) (fV 5))) 
      (fRet (fV 5)) 
      fNext) 
    (fSeq (fSet 6 (fIf (fB (f2 cEq (fB1 oLen (fCons (fV 0) fNil)) (fC (.int 3)))) (f2 oIx (fV 0) (fC (.int 2))) (f2 oAdd (fTup (fCons (f2 oIx (fV 0) (fC (.int 0))) fNil)) (fSl (fV 0) (fP (fC (.int 2))) fNoP)))) 
    (fRet (fCall 3 (c i__law_end) [] (fCons (fV 6) (fCons (fV 1) (fCons (fV 2) fNil)))))))))))))
theorem ok__law_end {P : Program} {w : World} {K : PySem.W.Frag} {mg : Str → Option Value} {base : Heap} {n : Nat} {y : Dy} {c : Cs} (T : Tab P w K mg base y n c) {f : Addr} {fd : FuncData} (F : FunF K "_law_end" s__law_end f fd) :
    FnF P w mg base (XRof K er y.cs) (n + 1) f fd ["one", "left", "asked"] (fDef N__law_end.length (m__law_end c)) := okF F sc__law_end fun cdv A outer s H E C =>
    (fss_cons (fs_if (ft_cmp (k_eq C) (fe_ix C (fv 0) fe_int (fun _ _ => rfl)) fe_str (by rfl)) 
      (fss_cons (fs_expr (fe_m opm_append nx_append (pe_bm PySem.F.plainAttrs_list PySem.F.slot_list_append PySem.F.type_list_append mt_append (fv 2) (fa_cons (fe_ix C (fv 0) fe_int (fun _ _ => rfl)) fa_nil)))) 
      (fss_cons (fs_if (ft_cmp (k_eq C) (fv 1) (fe_lst fa_nil) (by rfl)) 
        (fss_one (fs_ret fe_str)) 
        fss_nil) 
      (fss_cons (fs_set (i := 3) sc__law_end.nd rfl (by first | exact Or.inl rfl | exact Or.inr rfl) (fe_m opm_popAt nx_popAt (pe_bm PySem.F.plainAttrs_list PySem.F.slot_list_pop PySem.F.type_list_pop mt_popAt (fv 1) (fa_cons fe_int fa_nil)))) 
      (fss_one (fs_ret (fe_if (ft_cmp (k_eq C) (fv 3) fe_str (by rfl)) fe_str (fv 3))))))) 
      fss_nil) 
    (fss_cons (fs_set (i := 4) sc__law_end.nd rfl (by first | exact Or.inl rfl | exact Or.inr rfl) (fe_call (T.F 23 (by decide)) (T.D 23 (by decide)) C (by rfl) (fa_cons (fe_ix C (fv 0) fe_int (fun _ _ => rfl)) (fa_cons (fv 1) (fa_cons (fv 2) fa_nil))))) 
    (fss_cons (fs_if (ft_cmp (k_eq C) (fe_ix C (fv 0) fe_int (fun _ _ => rfl)) fe_str (by rfl)) 
      (fss_one (fs_ret (fe_get2 C (fe_disp (fp_str fe_str (fp_str fe_str fp_nil)) (by rfl) (by rfl) (by simp) (by decide)) (fv 4) (fv 4) ⟨by rfl, by rfl, by rfl, by rfl⟩))) 
      fss_nil) 
    (fss_cons (fs_if (ft_cmp (k_ni C) (fv 4) (fe_lst (fa_cons fe_str (fa_cons fe_str fa_nil))) (by rfl)) 
      (fss_one (fs_ret (fv 4))) 
      fss_nil) 
    (fss_cons (fs_if (ft_cmp (k_eq C) (fe_ix C (fv 0) fe_int (fun _ _ => rfl)) fe_str (by rfl)) 
      (fss_one (fs_ret (fe_call (T.F 23 (by decide)) (T.D 23 (by decide)) C (by rfl) (fa_cons (fe_if (ft_cmp (k_eq C) (fv 4) fe_str (by rfl)) (fe_ix C (fv 0) fe_int (fun _ _ => rfl)) (fe_ix C (fv 0) fe_int (fun _ _ => rfl))) (fa_cons (fv 1) (fa_cons (fv 2) fa_nil)))))) 
      fss_nil) 
    (fss_cons (fs_set (i := 5) sc__law_end.nd rfl (by first | exact Or.inl rfl | exact Or.inr rfl) (fe_if (ft_cmp (k_eq C) (fe_ix C (fv 0) fe_int (fun _ _ => rfl)) fe_str (by rfl)) fe_str fe_str)) 
    (fss_cons (fs_if (ft_cmp (k_eq C) (fv 4) (fv 5) (by rfl)) 
      (fss_one (fs_ret (fv 5))) 
      fss_nil) 
    (fss_cons (fs_set (i := 6) sc__law_end.nd rfl (by first | exact Or.inl rfl | exact Or.inr rfl) (fe_if (ft_cmp (k_eq C) (fe_len (T.b "len" (by decide)) (by rfl) (fa_cons (fv 0) fa_nil)) fe_int (by rfl)) (fe_ix C (fv 0) fe_int (fun _ _ => rfl)) (fe_add (fe_tup (fa_cons (fe_ix C (fv 0) fe_int (fun _ _ => rfl)) fa_nil)) (fe_sl (fv 0) (fo_some fe_int) fo_none)))) 
    (fss_one (fs_ret (fe_call (T.F 23 (by decide)) (T.D 23 (by decide)) C (by rfl) (fa_cons (fv 6) (fa_cons (fv 1) (fa_cons (fv 2) fa_nil))))))))))))))
/-! _law_run -/
abbrev s__law_run : Stmt := topK 43
abbrev N__law_run : List Str := ["one", "answers", "asked", "end"]
theorem sc__law_run : FnScope N__law_run ["one", "answers"] (defScope s__law_run) := ⟨rfl, rfl, rfl, by decide +kernel, rfl, by decide +kernel, by decide +kernel⟩
def m__law_run (c : Cs) : FS :=
    (fSeq (fSet 2 (fMut fNil)) 
    (fSeq (fSet 3 (fCall 3 (c i__law_end) [] (fCons (fV 0) (fCons (fB1 (o1 lstM) (fCons (fV 1) fNil)) (fCons (fV 2) fNil))))) 
    (fRet (fTup (fCons (fB1 (o1 tupW) (fCons (fV 2) fNil)) (fCons (fV 3) fNil))))))
theorem ok__law_run {P : Program} {w : World} {K : PySem.W.Frag} {mg : Str → Option Value} {base : Heap} {n : Nat} {y : Dy} {c : Cs} (T : Tab P w K mg base y n c) {f : Addr} {fd : FuncData} (F : FunF K "_law_run" s__law_run f fd) :
    FnF P w mg base (XRof K er y.cs) (n + 1) f fd ["one", "answers"] (fDef N__law_run.length (m__law_run c)) := okF F sc__law_run fun cdv A outer s H E C =>
    (fss_cons (fs_set (i := 2) sc__law_run.nd rfl (by first | exact Or.inl rfl | exact Or.inr rfl) (fe_mut fa_nil)) 
    (fss_cons (fs_set (i := 3) sc__law_run.nd rfl (by first | exact Or.inl rfl | exact Or.inr rfl) (fe_call (T.F 23 (by decide)) (T.D 23 (by decide)) C (by rfl) (fa_cons (fv 0) (fa_cons (fe_toMut (T.b "list" (by decide)) (by rfl) (fa_cons (fv 1) fa_nil)) (fa_cons (fv 2) fa_nil))))) 
    (fss_one (fs_ret (fe_tup (fa_cons (fe_toTup (T.b "tuple" (by decide)) (by rfl) (fa_cons (fv 2) fa_nil)) (fa_cons (fv 3) fa_nil)))))))
/-! _law_steady -/
abbrev s__law_steady : Stmt := topK 44
abbrev N__law_steady : List Str := ["one", "known", "asked", "first"]
theorem sc__law_steady : FnScope N__law_steady ["one", "known", "asked"] (defScope s__law_steady) := ⟨rfl, rfl, rfl, by decide +kernel, rfl, by decide +kernel, by decide +kernel⟩
def m__law_steady (c : Cs) : FS :=
    (fSeq (fIfS (fB (f2 cEq (f2 oIx (fV 0) (fC (.int 0))) (fC (.str "test")))) 
      (fSeq (fIfS (fB (f2 cNi (f2 oIx (fV 0) (fC (.int 1))) (fV 1))) 
        (fRet (f2 oAdd (fC (.str "missing ")) (f2 oIx (fV 0) (fC (.int 1))))) 
        fNext) 
      (fSeq (fIfS (fB (f2 cNi (f2 oIx (fV 0) (fC (.int 1))) (fV 2))) 
        (fDrop (fM oAppend (fV 2) (fCons (f2 oIx (fV 0) (fC (.int 1))) fNil))) 
        fNext) 
      (fRet (f2 oIx (fV 1) (f2 oIx (fV 0) (fC (.int 1))))))) 
      fNext) 
    (fSeq (fSet 3 (fCall 3 (c i__law_steady) [] (fCons (f2 oIx (fV 0) (fC (.int 1))) (fCons (fV 1) (fCons (fV 2) fNil))))) 
    (fSeq (fIfS (fB (f2 cNi (fV 3) (fLst (fCons (fC (.str "yes")) (fCons (fC (.str "no")) fNil))))) 
      (fRet (fV 3)) 
      fNext) 
    (fSeq (fIfS (fB (f2 cEq (f2 oIx (fV 0) (fC (.int 0))) (fC (.str "not")))) 
      (fRet (fIf (fB (f2 cEq (fV 3) (fC (.str "yes")))) (fC (.str "no")) (fC (.str "yes")))) 
      fNext) 
    (fSeq (fIfS (fB (f2 cEq (f2 oIx (fV 0) (fC (.int 0))) (fC (.str "if")))) 
      (fRet (fCall 3 (c i__law_steady) [] (fCons (fIf (fB (f2 cEq (fV 3) (fC (.str "yes")))) (f2 oIx (fV 0) (fC (.int 2))) (f2 oIx (fV 0) (fC (.int 3)))) (fCons (fV 1) (fCons (fV 2) fNil))))) 
      fNext) 
    (fSeq (fIfS (fB (f2 cEq (fV 3) (fIf (fB (f2 cEq (f2 oIx (fV 0) (fC (.int 0))) (fC (.str "and")))) (fC (.str "no")) (fC (.str "yes"))))) 
      (fRet (fV 3)) 
      fNext) 
    (fRet (fCall 3 (c i__law_steady) [] (fCons (fIf (fB (f2 cEq (fB1 oLen (fCons (fV 0) fNil)) (fC (.int 3)))) (f2 oIx (fV 0) (fC (.int 2))) (f2 oAdd (fTup (fCons (f2 oIx (fV 0) (fC (.int 0))) fNil)) (fSl (fV 0) (fP (fC (.int 2))) fNoP))) (fCons (fV 1) (fCons (fV 2) fNil)))))))))))
theorem ok__law_steady {P : Program} {w : World} {K : PySem.W.Frag} {mg : Str → Option Value} {base : Heap} {n : Nat} {y : Dy} {c : Cs} (T : Tab P w K mg base y n c) {f : Addr} {fd : FuncData} (F : FunF K "_law_steady" s__law_steady f fd) :
    FnF P w mg base (XRof K er y.cs) (n + 1) f fd ["one", "known", "asked"] (fDef N__law_steady.length (m__law_steady c)) := okF F sc__law_steady fun cdv A outer s H E C =>
    (fss_cons (fs_if (ft_cmp (k_eq C) (fe_ix C (fv 0) fe_int (fun _ _ => rfl)) fe_str (by rfl)) 
      (fss_cons (fs_if (ft_cmp (k_ni C) (fe_ix C (fv 0) fe_int (fun _ _ => rfl)) (fv 1) (by rfl)) 
        (fss_one (fs_ret (fe_add fe_str (fe_ix C (fv 0) fe_int (fun _ _ => rfl))))) 
        fss_nil) 
      (fss_cons (fs_if (ft_cmp (k_ni C) (fe_ix C (fv 0) fe_int (fun _ _ => rfl)) (fv 2) (by rfl)) 
        (fss_one (fs_expr (fe_m opm_append nx_append (pe_bm PySem.F.plainAttrs_list PySem.F.slot_list_append PySem.F.type_list_append mt_append (fv 2) (fa_cons (fe_ix C (fv 0) fe_int (fun _ _ => rfl)) fa_nil))))) 
        fss_nil) 
      (fss_one (fs_ret (fe_ix C (fv 1) (fe_ix C (fv 0) fe_int (fun _ _ => rfl)) (fun _ _ => rfl)))))) 
      fss_nil) 
    (fss_cons (fs_set (i := 3) sc__law_steady.nd rfl (by first | exact Or.inl rfl | exact Or.inr rfl) (fe_call (T.F 25 (by decide)) (T.D 25 (by decide)) C (by rfl) (fa_cons (fe_ix C (fv 0) fe_int (fun _ _ => rfl)) (fa_cons (fv 1) (fa_cons (fv 2) fa_nil))))) 
    (fss_cons (fs_if (ft_cmp (k_ni C) (fv 3) (fe_lst (fa_cons fe_str (fa_cons fe_str fa_nil))) (by rfl)) 
      (fss_one (fs_ret (fv 3))) 
      fss_nil) 
    (fss_cons (fs_if (ft_cmp (k_eq C) (fe_ix C (fv 0) fe_int (fun _ _ => rfl)) fe_str (by rfl)) 
      (fss_one (fs_ret (fe_if (ft_cmp (k_eq C) (fv 3) fe_str (by rfl)) fe_str fe_str))) 
      fss_nil) 
    (fss_cons (fs_if (ft_cmp (k_eq C) (fe_ix C (fv 0) fe_int (fun _ _ => rfl)) fe_str (by rfl)) 
      (fss_one (fs_ret (fe_call (T.F 25 (by decide)) (T.D 25 (by decide)) C (by rfl) (fa_cons (fe_if (ft_cmp (k_eq C) (fv 3) fe_str (by rfl)) (fe_ix C (fv 0) fe_int (fun _ _ => rfl)) (fe_ix C (fv 0) fe_int (fun _ _ => rfl))) (fa_cons (fv 1) (fa_cons (fv 2) fa_nil)))))) 
      fss_nil) 
    (fss_cons (fs_if (ft_cmp (k_eq C) (fv 3) (fe_if (ft_cmp (k_eq C) (fe_ix C (fv 0) fe_int (fun _ _ => rfl)) fe_str (by rfl)) fe_str fe_str) (by rfl)) 
      (fss_one (fs_ret (fv 3))) 
      fss_nil) 
    (fss_one (fs_ret (fe_call (T.F 25 (by decide)) (T.D 25 (by decide)) C (by rfl) (fa_cons (fe_if (ft_cmp (k_eq C) (fe_len (T.b "len" (by decide)) (by rfl) (fa_cons (fv 0) fa_nil)) fe_int (by rfl)) (fe_ix C (fv 0) fe_int (fun _ _ => rfl)) (fe_add (fe_tup (fa_cons (fe_ix C (fv 0) fe_int (fun _ _ => rfl)) fa_nil)) (fe_sl (fv 0) (fo_some fe_int) fo_none))) (fa_cons (fv 1) (fa_cons (fv 2) fa_nil))))))))))))
/-! _law_asked -/
abbrev s__law_asked : Stmt := topK 45
abbrev N__law_asked : List Str := ["one", "assignment", "found", "error", "e"]
theorem sc__law_asked : FnScope N__law_asked ["one", "assignment"] (defScope s__law_asked) := ⟨rfl, rfl, rfl, by decide +kernel, rfl, by decide +kernel, by decide +kernel⟩
def m__law_asked (c : Cs) : FS :=
    (fSeq (fAsg (gTp 2 (gCs (gNm 2) (gCs (gNm 3) gNo))) (fTup (fCons (fC .none) (fCons (fC .none) fNil)))) 
    (fSeq (fTry (fun c => er.sub c 0) 4 
      (fSet 2 (fCall 2 (c i_steady_run) [] (fCons (fV 0) (fCons (fV 1) fNil)))) 
      (fSet 3 (fV 4))) 
    (fRet (fTup (fCons (fV 2) (fCons (fV 3) fNil))))))
theorem ok__law_asked {P : Program} {w : World} {K : PySem.W.Frag} {mg : Str → Option Value} {base : Heap} {n : Nat} {y : Dy} {c : Cs} (T : Tab P w K mg base y n c) {f : Addr} {fd : FuncData} (F : FunF K "_law_asked" s__law_asked f fd) :
    FnF P w mg base (XRof K er y.cs) (n + 1) f fd ["one", "assignment"] (fDef N__law_asked.length (m__law_asked c)) := okF F sc__law_asked fun cdv A outer s H E C =>
    (fss_cons (fs_asg (fe_tup (fa_cons fe_non (fa_cons fe_non fa_nil))) (fg_tup rfl (fgs_cons (fg_nm (i := 2) sc__law_asked.nd rfl (by first | exact Or.inl rfl | exact Or.inr rfl)) (fgs_cons (fg_nm (i := 3) sc__law_asked.nd rfl (by first | exact Or.inl rfl | exact Or.inr rfl)) fgs_nil)))) 
    (fss_cons (fs_try (i := 4) C (by decide : 0 < er.nc) rfl rfl sc__law_asked.nd rfl rfl ⟨by rfl, by decide, .inl (T.cg 0 (by decide))⟩ (fun c h => T.cx c 0 h (by decide)) (fun _ _ _ C => 
      (fss_one (fs_set (i := 2) sc__law_asked.nd rfl (by first | exact Or.inl rfl | exact Or.inr rfl) (fe_call (T.F 6 (by decide)) (T.D 6 (by decide)) C (by rfl) (fa_cons (fv 0) (fa_cons (fv 1) fa_nil)))))) (fun _ _ => 
      (fss_one (fs_set (i := 3) sc__law_asked.nd rfl (by first | exact Or.inl rfl | exact Or.inr rfl) (fv 4))))) 
    (fss_one (fs_ret (fe_tup (fa_cons (fv 2) (fa_cons (fv 3) fa_nil)))))))
/-! _law_steady_good -/
abbrev s__law_steady_good : Stmt := topK 46
abbrev N__law_steady_good : List Str := ["one", "assignment", "asked", "due", "found", "error"]
theorem sc__law_steady_good : FnScope N__law_steady_good ["one", "assignment"] (defScope s__law_steady_good) := ⟨rfl, rfl, rfl, by decide +kernel, rfl, by decide +kernel, by decide +kernel⟩
def m__law_steady_good (c : Cs) : FS :=
    (fSeq (fSet 2 (fMut fNil)) 
    (fSeq (fSet 3 (fCall 3 (c i__law_steady) [] (fCons (fV 0) (fCons (fB1 (o1 dictW) (fCons (fV 1) fNil)) (fCons (fV 2) fNil))))) 
    (fSeq (fAsg (gTp 2 (gCs (gNm 4) (gCs (gNm 5) gNo))) (fCall 2 (c i__law_asked) [] (fCons (fV 0) (fCons (fV 1) fNil)))) 
    (fSeq (fIfS (fB (f2 cIn (fV 3) (fLst (fCons (fC (.str "yes")) (fCons (fC (.str "no")) fNil))))) 
      (fRet (fAnd (f2 cIs (fV 5) (fC .none)) (f2 cEq (fV 4) (fTup (fCons (fB1 (o1 tupW) (fCons (fV 2) fNil)) (fCons (fV 3) fNil)))))) 
      fNext) 
    (fRet (fAnd (fIsC er 4 (fV 5)) (f2 cEq (f2 oAdd (fC (.str "missing ")) (fFld er "name" (fV 5))) (fV 3))))))))
theorem ok__law_steady_good {P : Program} {w : World} {K : PySem.W.Frag} {mg : Str → Option Value} {base : Heap} {n : Nat} {y : Dy} {c : Cs} (T : Tab P w K mg base y n c) {f : Addr} {fd : FuncData} (F : FunF K "_law_steady_good" s__law_steady_good f fd) :
    FnF P w mg base (XRof K er y.cs) (n + 1) f fd ["one", "assignment"] (fDef N__law_steady_good.length (m__law_steady_good c)) := okF F sc__law_steady_good fun cdv A outer s H E C =>
    (fss_cons (fs_set (i := 2) sc__law_steady_good.nd rfl (by first | exact Or.inl rfl | exact Or.inr rfl) (fe_mut fa_nil)) 
    (fss_cons (fs_set (i := 3) sc__law_steady_good.nd rfl (by first | exact Or.inl rfl | exact Or.inr rfl) (fe_call (T.F 25 (by decide)) (T.D 25 (by decide)) C (by rfl) (fa_cons (fv 0) (fa_cons (fe_dict C (T.b "dict" (by decide)) (by rfl) (fa_cons (fv 1) fa_nil)) (fa_cons (fv 2) fa_nil))))) 
    (fss_cons (fs_asg (fe_call (T.F 26 (by decide)) (T.D 26 (by decide)) C (by rfl) (fa_cons (fv 0) (fa_cons (fv 1) fa_nil))) (fg_tup rfl (fgs_cons (fg_nm (i := 4) sc__law_steady_good.nd rfl (by first | exact Or.inl rfl | exact Or.inr rfl)) (fgs_cons (fg_nm (i := 5) sc__law_steady_good.nd rfl (by first | exact Or.inl rfl | exact Or.inr rfl)) fgs_nil)))) 
    (fss_cons (fs_if (ft_cmp (k_in C) (fv 3) (fe_lst (fa_cons fe_str (fa_cons fe_str fa_nil))) (by rfl)) 
      (fss_one (fs_ret (fe_and (fe_cmp (k_is C) (fv 5) fe_non (by rfl)) (fe_one (fe_cmp (k_eq C) (fv 4) (fe_tup (fa_cons (fe_toTup (T.b "tuple" (by decide)) (by rfl) (fa_cons (fv 2) fa_nil)) (fa_cons (fv 3) fa_nil))) (by rfl)))))) 
      fss_nil) 
    (fss_one (fs_ret (fe_and (fe_isC (T.b "isinstance" (by decide)) (by rfl) (fv 5) (by decide : 4 < er.nc) (T.cg 4 (by decide)) (by rfl) T.ce (fun c h => T.ck c 4 h (by decide)) (fun t h => T.cb t 4 h (by decide))) (fe_one (fe_cmp (k_eq C) (fe_add fe_str (fe_fld (fv 5) (fun c h hf => T.cf c _ h hf) (by rfl))) (fv 3) (by rfl))))))))))
/-! _law_good -/
abbrev s__law_good : Stmt := topK 47
abbrev N__law_good : List Str := ["own", "one", "words", "most", "answers", "kept", "found", "k", "pairs", "word"]
theorem sc__law_good : FnScope N__law_good ["own", "one", "words"] (defScope s__law_good) := ⟨rfl, rfl, rfl, by decide +kernel, rfl, by decide +kernel, by decide +kernel⟩
def m__law_good (c : Cs) : FS :=
    (fSeq (fFor (fItems (fLst (fCons (fC (.int 0)) (fCons (fC (.int 4)) (fCons (fC (.int 12)) (fCons (fC (.int 40)) fNil)))))) (gNm 3) 
      (fSeq (fSet 4 (fLc (fRng1 (fCons (fV 3) fNil)) (gNm 7) fYes (f2 oIx (fLst (fCons (fC (.str "yes")) (fCons (fC (.str "no")) (fCons (fC (.str "yes")) (fCons (fC (.str "no")) (fCons (fC (.str "yes")) (fCons (fC (.str "no")) (fCons (fC (.str "yes")) (fCons (fC (.str "fails")) fNil))))))))) (fCall 2 (c i__law_take) [] (fCons (fV 0) (fCons (fC (.int 8)) fNil)))) [7])) 
      (fSeq (fSet 5 (fB1 (o1 lstW) (fCons (fV 4) fNil))) 
      (fSeq (fSet 6 (fCall 2 (c i_run) [] (fCons (fV 1) (fCons (fV 4) fNil)))) 
      (fIfS (fOrT (fNotT (fTr (fIsi "tuple" (fV 6)))) (fOrT (fB (f2 cNe (fV 6) (fCall 2 (c i__law_run) [] (fCons (fV 1) (fCons (fV 4) fNil))))) (fB (f2 cNe (fV 4) (fV 5))))) 
        (fRet (fC (.bool false))) 
        fNext))))) 
    (fSeq (fFor (fRng1 (fCons (fC (.int 4)) fNil)) (gNm 7) 
      (fSeq (fSet 8 (fLc (fItems (fB1 (o1 sortW) (fCons (fV 2) fNil))) (gNm 9) (fB (f2 cGt (fCall 2 (c i__law_take) [] (fCons (fV 0) (fCons (fC (.int 5)) fNil))) (fC (.int 0)))) (fTup (fCons (fV 9) (fCons (f2 oIx (fLst (fCons (fC (.str "yes")) (fCons (fC (.str "no")) fNil))) (fCall 2 (c i__law_take) [] (fCons (fV 0) (fCons (fC (.int 2)) fNil)))) fNil))) [9])) 
      (fIfS (fOrT (fNotT (fTr (fCall 2 (c i__law_steady_good) [] (fCons (fV 1) (fCons (fB1 (o1 tupW) (fCons (fV 8) fNil)) fNil))))) (fNotT (fTr (fCall 2 (c i__law_steady_good) [] (fCons (fV 1) (fCons (fB1 (o1 tupW) (fCons (f2 oAdd (fV 8) (fLst (fCons (fTup (fCons (fC (.str "zz")) (fCons (fC (.str "yes")) fNil))) fNil))) fNil)) fNil)))))) 
        (fRet (fC (.bool false))) 
        fNext))) 
    (fRet (fC (.bool true)))))
theorem ok__law_good {P : Program} {w : World} {K : PySem.W.Frag} {mg : Str → Option Value} {base : Heap} {n : Nat} {y : Dy} {c : Cs} (T : Tab P w K mg base y n c) {f : Addr} {fd : FuncData} (F : FunF K "_law_good" s__law_good f fd) :
    FnF P w mg base (XRof K er y.cs) (n + 1) f fd ["own", "one", "words"] (fDef N__law_good.length (m__law_good c)) := okF F sc__law_good fun cdv A outer s H E C =>
    (fss_cons (fs_for C (fi_any (fe_lst (fa_cons fe_int (fa_cons fe_int (fa_cons fe_int (fa_cons fe_int fa_nil)))))) (fg_nm (i := 3) sc__law_good.nd rfl (by first | exact Or.inl rfl | exact Or.inr rfl)) 
      (fss_cons (fs_setLc0 (i := 4) [("k", 7)] C sc__law_good.nd rfl (by first | rfl | decide +kernel) (by rfl) (fi_rng1 (by rfl) (T.b "range" (by decide)) (fa_cons (fv 3) fa_nil)) (blkOk_by (N := N__law_good) (sc := defScope s__law_good) (by decide +kernel)) (fun _ _ _ _ _ => (fg_nm (i := 7) sc__law_good.nd rfl (by first | exact Or.inl rfl | exact Or.inr rfl))) (by decide) (fun _ _ _ _ _ => (fe_ix C.blk (fe_lst (fa_cons fe_str (fa_cons fe_str (fa_cons fe_str (fa_cons fe_str (fa_cons fe_str (fa_cons fe_str (fa_cons fe_str (fa_cons fe_str fa_nil))))))))) (fe_call (T.F 20 (by decide)) (T.D 20 (by decide)) C.blk (by rfl) (fa_cons (fv 0) (fa_cons fe_int fa_nil))) (fun _ _ => rfl)))) 
      (fss_cons (fs_set (i := 5) sc__law_good.nd rfl (by first | exact Or.inl rfl | exact Or.inr rfl) (fe_toLst (T.b "list" (by decide)) (by rfl) (fa_cons (fv 4) fa_nil))) 
      (fss_cons (fs_set (i := 6) sc__law_good.nd rfl (by first | exact Or.inl rfl | exact Or.inr rfl) (fe_call (T.F 5 (by decide)) (T.D 5 (by decide)) C (by rfl) (fa_cons (fv 1) (fa_cons (fv 4) fa_nil)))) 
      (fss_one (fs_if (ft_w (fw_or (ft_not (ft_tr (fe_isi (T := "tuple") (T.b "isinstance" (by decide)) (by rfl) (fv 6) (T.b "tuple" (by decide)) (by rfl) (by decide +kernel)) (by intro _; rfl))) (fw_or (ft_cmp (k_ne C) (fv 6) (fe_call (T.F 24 (by decide)) (T.D 24 (by decide)) C (by rfl) (fa_cons (fv 1) (fa_cons (fv 4) fa_nil))) (by rfl)) (fw_or1 (ft_cmp (k_ne C) (fv 4) (fv 5) (by rfl)))))) 
        (fss_one (fs_ret fe_bl)) 
        fss_nil)))))) 
    (fss_cons (fs_for C (fi_rng1 (by rfl) (T.b "range" (by decide)) (fa_cons fe_int fa_nil)) (fg_nm (i := 7) sc__law_good.nd rfl (by first | exact Or.inl rfl | exact Or.inr rfl)) 
      (fss_cons (fs_setLc1 (i := 8) [("word", 9)] C sc__law_good.nd rfl (by first | rfl | decide +kernel) (by rfl) (fi_any (fe_sort C (T.b "sorted" (by decide)) (by rfl) (fa_cons (fv 2) fa_nil))) (blkOk_by (N := N__law_good) (sc := defScope s__law_good) (by decide +kernel)) (fun _ _ _ _ _ => (fg_nm (i := 9) sc__law_good.nd rfl (by first | exact Or.inl rfl | exact Or.inr rfl))) (by decide) (fun _ _ _ _ _ => (ft_cmp (k_gt C.blk) (fe_call (T.F 20 (by decide)) (T.D 20 (by decide)) C.blk (by rfl) (fa_cons (fv 0) (fa_cons fe_int fa_nil))) fe_int (by rfl))) (fun _ _ _ _ _ => (fe_tup (fa_cons (fv 9) (fa_cons (fe_ix C.blk (fe_lst (fa_cons fe_str (fa_cons fe_str fa_nil))) (fe_call (T.F 20 (by decide)) (T.D 20 (by decide)) C.blk (by rfl) (fa_cons (fv 0) (fa_cons fe_int fa_nil))) (fun _ _ => rfl)) fa_nil))))) 
      (fss_one (fs_if (ft_w (fw_or (ft_not (ft_tr (fe_call (T.F 27 (by decide)) (T.D 27 (by decide)) C (by rfl) (fa_cons (fv 1) (fa_cons (fe_toTup (T.b "tuple" (by decide)) (by rfl) (fa_cons (fv 8) fa_nil)) fa_nil))) (by intro _; rfl))) (fw_or1 (ft_not (ft_tr (fe_call (T.F 27 (by decide)) (T.D 27 (by decide)) C (by rfl) (fa_cons (fv 1) (fa_cons (fe_toTup (T.b "tuple" (by decide)) (by rfl) (fa_cons (fe_add (fv 8) (fe_lst (fa_cons (fe_tup (fa_cons fe_str (fa_cons fe_str fa_nil))) fa_nil))) fa_nil)) fa_nil))) (by intro _; rfl)))))) 
        (fss_one (fs_ret fe_bl)) 
        fss_nil)))) 
    (fss_one (fs_ret fe_bl))))
/-! _law_large -/
abbrev s__law_large : Stmt := topK 48
abbrev N__law_large : List Str := ["a", "b", "c", "d", "e", "f", "g", "h", "both", "tail", "five", "letter", "one"]
theorem sc__law_large : FnScope N__law_large [] (defScope s__law_large) := ⟨rfl, rfl, rfl, by decide +kernel, rfl, by decide +kernel, by decide +kernel⟩
def m__law_large (c : Cs) : FS :=
    (fSeq (fAsg (gTp 4 (gCs (gNm 0) (gCs (gNm 1) (gCs (gNm 2) (gCs (gNm 3) gNo))))) (fLc (fItems (fC (.str "abcd"))) (gNm 11) fYes (fTup (fCons (fC (.str "test")) (fCons (fV 11) fNil))) [11])) 
    (fSeq (fAsg (gTp 4 (gCs (gNm 4) (gCs (gNm 5) (gCs (gNm 6) (gCs (gNm 7) gNo))))) (fLc (fItems (fC (.str "efgh"))) (gNm 11) fYes (fTup (fCons (fC (.str "test")) (fCons (fV 11) fNil))) [11])) 
    (fSeq (fSet 8 (fTup (fCons (fC (.str "and")) (fCons (fTup (fCons (fC (.str "or")) (fCons (fV 1) (fCons (fV 6) fNil)))) (fCons (fTup (fCons (fC (.str "or")) (fCons (fV 2) (fCons (fV 7) fNil)))) fNil))))) 
    (fSeq (fSet 9 (fTup (fCons (fC (.str "if")) (fCons (fV 5) (fCons (fTup (fCons (fC (.str "if")) (fCons (fV 0) (fCons (fV 8) (fCons (fTup (fCons (fC (.str "not")) (fCons (fV 8) fNil))) fNil))))) (fCons (fTup (fCons (fC (.str "and")) (fCons (fTup (fCons (fC (.str "or")) (fCons (fV 3) (fCons (fV 6) fNil)))) (fCons (fTup (fCons (fC (.str "or")) (fCons (fV 4) (fCons (fV 7) fNil)))) fNil)))) fNil)))))) 
    (fSeq (fSet 10 (fLc (fItems (fLst (fCons (fV 0) (fCons (fV 1) (fCons (fV 2) (fCons (fV 3) (fCons (fV 4) fNil))))))) (gNm 12) fYes (fTup (fCons (fC (.str "or")) (fCons (fV 12) (fCons (fTup (fCons (fC (.str "not")) (fCons (fV 12) fNil))) fNil)))) [12])) 
    (fRet (f2 oAdd (f2 oAdd (fTup (fCons (fC (.str "and")) fNil)) (fB1 (o1 tupW) (fCons (fV 10) fNil))) (fTup (fCons (fV 9) fNil)))))))))
theorem ok__law_large {P : Program} {w : World} {K : PySem.W.Frag} {mg : Str → Option Value} {base : Heap} {n : Nat} {y : Dy} {c : Cs} (T : Tab P w K mg base y n c) {f : Addr} {fd : FuncData} (F : FunF K "_law_large" s__law_large f fd) :
    FnF P w mg base (XRof K er y.cs) (n + 1) f fd [] (fDef N__law_large.length (m__law_large c)) := okF F sc__law_large fun cdv A outer s H E C =>
    (fss_cons (fs_asg (fe_lc0 [("letter", 11)] C sc__law_large.nd (fi_any fe_str) (blkOk_by (N := N__law_large) (sc := defScope s__law_large) (by decide +kernel)) (fun _ _ _ _ _ => (fg_nm (i := 11) sc__law_large.nd rfl (by first | exact Or.inl rfl | exact Or.inr rfl))) (by decide) (fun _ _ _ _ _ => (fe_tup (fa_cons fe_str (fa_cons (fv 11) fa_nil))))) (fg_tup rfl (fgs_cons (fg_nm (i := 0) sc__law_large.nd rfl (by first | exact Or.inl rfl | exact Or.inr rfl)) (fgs_cons (fg_nm (i := 1) sc__law_large.nd rfl (by first | exact Or.inl rfl | exact Or.inr rfl)) (fgs_cons (fg_nm (i := 2) sc__law_large.nd rfl (by first | exact Or.inl rfl | exact Or.inr rfl)) (fgs_cons (fg_nm (i := 3) sc__law_large.nd rfl (by first | exact Or.inl rfl | exact Or.inr rfl)) fgs_nil)))))) 
    (fss_cons (fs_asg (fe_lc0 [("letter", 11)] C sc__law_large.nd (fi_any fe_str) (blkOk_by (N := N__law_large) (sc := defScope s__law_large) (by decide +kernel)) (fun _ _ _ _ _ => (fg_nm (i := 11) sc__law_large.nd rfl (by first | exact Or.inl rfl | exact Or.inr rfl))) (by decide) (fun _ _ _ _ _ => (fe_tup (fa_cons fe_str (fa_cons (fv 11) fa_nil))))) (fg_tup rfl (fgs_cons (fg_nm (i := 4) sc__law_large.nd rfl (by first | exact Or.inl rfl | exact Or.inr rfl)) (fgs_cons (fg_nm (i := 5) sc__law_large.nd rfl (by first | exact Or.inl rfl | exact Or.inr rfl)) (fgs_cons (fg_nm (i := 6) sc__law_large.nd rfl (by first | exact Or.inl rfl | exact Or.inr rfl)) (fgs_cons (fg_nm (i := 7) sc__law_large.nd rfl (by first | exact Or.inl rfl | exact Or.inr rfl)) fgs_nil)))))) 
    (fss_cons (fs_set (i := 8) sc__law_large.nd rfl (by first | exact Or.inl rfl | exact Or.inr rfl) (fe_tup (fa_cons fe_str (fa_cons (fe_tup (fa_cons fe_str (fa_cons (fv 1) (fa_cons (fv 6) fa_nil)))) (fa_cons (fe_tup (fa_cons fe_str (fa_cons (fv 2) (fa_cons (fv 7) fa_nil)))) fa_nil))))) 
    (fss_cons (fs_set (i := 9) sc__law_large.nd rfl (by first | exact Or.inl rfl | exact Or.inr rfl) (fe_tup (fa_cons fe_str (fa_cons (fv 5) (fa_cons (fe_tup (fa_cons fe_str (fa_cons (fv 0) (fa_cons (fv 8) (fa_cons (fe_tup (fa_cons fe_str (fa_cons (fv 8) fa_nil))) fa_nil))))) (fa_cons (fe_tup (fa_cons fe_str (fa_cons (fe_tup (fa_cons fe_str (fa_cons (fv 3) (fa_cons (fv 6) fa_nil)))) (fa_cons (fe_tup (fa_cons fe_str (fa_cons (fv 4) (fa_cons (fv 7) fa_nil)))) fa_nil)))) fa_nil)))))) 
    (fss_cons (fs_setLc0 (i := 10) [("one", 12)] C sc__law_large.nd rfl (by first | rfl | decide +kernel) (by rfl) (fi_any (fe_lst (fa_cons (fv 0) (fa_cons (fv 1) (fa_cons (fv 2) (fa_cons (fv 3) (fa_cons (fv 4) fa_nil))))))) (blkOk_by (N := N__law_large) (sc := defScope s__law_large) (by decide +kernel)) (fun _ _ _ _ _ => (fg_nm (i := 12) sc__law_large.nd rfl (by first | exact Or.inl rfl | exact Or.inr rfl))) (by decide) (fun _ _ _ _ _ => (fe_tup (fa_cons fe_str (fa_cons (fv 12) (fa_cons (fe_tup (fa_cons fe_str (fa_cons (fv 12) fa_nil))) fa_nil)))))) 
    (fss_one (fs_ret (fe_add (fe_add (fe_tup (fa_cons fe_str fa_nil)) (fe_toTup (T.b "tuple" (by decide)) (by rfl) (fa_cons (fv 10) fa_nil))) (fe_tup (fa_cons (fv 9) fa_nil))))))))))
/-! law -/
abbrev s_law : Stmt := topK 49
abbrev N_law : List Str := ["script", "turn", "k", "own", "words", "a", "many", "b", "c", "d", "long", "pairs", "eight", "turned_here", "wide", "letter", "name", "answer"]
theorem sc_law : FnScope N_law ["script"] (defScope s_law) := ⟨rfl, rfl, rfl, by decide +kernel, rfl, by decide +kernel, by decide +kernel⟩
def m_law (c : Cs) : FS :=
    (fSeq (fFor (fRng1 (fCons (fB1 (o2I fun i j => if j > i then j else i) (fCons (fB1 (o2I fun i j => if j < i then j else i) (fCons (fB1 oLen (fCons (fV 0) fNil)) (fCons (fC (.int 5)) fNil))) (fCons (fC (.int 1)) fNil))) fNil)) (gNm 1) 
      (fFor (fRng1 (fCons (fC (.int 3)) fNil)) (gNm 2) 
        (fSeq (fSet 3 (fMut (fCons (fCall 2 (c i__law_cell) [] (fCons (fV 0) (fCons (f2 oAdd (f2 oMul (fV 1) (fC (.int 3))) (fV 2)) fNil))) fNil))) 
        (fSeq (fSet 4 (fCall 2 (c i__law_words) [] (fCons (fV 3) (fCons (fC (.int 4)) fNil)))) 
        (fIfS (fNotT (fTr (fCall 3 (c i__law_good) [] (fCons (fV 3) (fCons (fCall 3 (c i__law_condition) [] (fCons (fV 3) (fCons (fV 4) (fCons (f2 oAdd (fC (.int 1)) (fV 2)) fNil)))) (fCons (fV 4) fNil)))))) 
          (fRet (fC (.bool false))) 
          fNext))))) 
    (fSeq (fSet 5 (fTup (fCons (fC (.str "test")) (fCons (fC (.str "a")) fNil)))) 
    (fSeq (fSet 6 (f2 oMul (fLst (fCons (fC (.str "yes")) fNil)) (fC (.int 200)))) 
    (fSeq (fIfS (fOrT (fB (f2 cNe (fCall 2 (c i_run) [] (fCons (fV 5) (fCons (fV 6) fNil))) (fTup (fCons (fTup (fCons (fC (.str "a")) fNil)) (fCons (fC (.str "yes")) fNil))))) (fB (f2 cNe (fV 6) (f2 oMul (fLst (fCons (fC (.str "yes")) fNil)) (fC (.int 200)))))) 
      (fRet (fC (.bool false))) 
      fNext) 
    (fSeq (fIfS (fOrT (fB (f2 cNe (fCall 2 (c i_run) [] (fCons (f2 oAdd (fTup (fCons (fC (.str "and")) fNil)) (f2 oMul (fTup (fCons (fV 5) fNil)) (fC (.int 60)))) (fCons (f2 oMul (fLst (fCons (fC (.str "yes")) fNil)) (fC (.int 200))) fNil))) (fTup (fCons (f2 oMul (fTup (fCons (fC (.str "a")) fNil)) (fC (.int 60))) (fCons (fC (.str "yes")) fNil))))) (fB (f2 cNe (fCall 2 (c i_run) [] (fCons (fV 5) (fCons (fLst fNil) fNil))) (fTup (fCons (fTup (fCons (fC (.str "a")) fNil)) (fCons (fC (.str "open")) fNil)))))) 
      (fRet (fC (.bool false))) 
      fNext) 
    (fSeq (fAsg (gTp 3 (gCs (gNm 7) (gCs (gNm 8) (gCs (gNm 9) gNo)))) (fLc (fItems (fC (.str "bcd"))) (gNm 15) fYes (fTup (fCons (fC (.str "test")) (fCons (fV 15) fNil))) [15])) 
    (fSeq (fSet 10 (fTup (fCons (fC (.str "or")) (fCons (fTup (fCons (fC (.str "and")) (fCons (fV 5) (fCons (fV 7) (fCons (fV 8) (fCons (fV 9) (fCons (fTup (fCons (fC (.str "not")) (fCons (fV 5) fNil))) (fCons (fV 7) fNil)))))))) (fCons (fTup (fCons (fC (.str "not")) (fCons (fTup (fCons (fC (.str "or")) (fCons (fV 7) (fCons (fV 8) (fCons (fV 9) (fCons (fV 5) (fCons (fV 8) fNil))))))) fNil))) (fCons (fV 9) (fCons (fTup (fCons (fC (.str "and")) (fCons (fV 8) (fCons (fV 9) (fCons (fV 5) (fCons (fV 7) fNil)))))) (fCons (fV 5) fNil)))))))) 
    (fSeq (fIfS (fNotT (fTr (fCall 3 (c i__law_good) [] (fCons (fMut (fCons (fCall 2 (c i__law_cell) [] (fCons (fV 0) (fCons (fC (.int 15)) fNil))) fNil)) (fCons (fV 10) (fCons (fLst (fCons (fC (.str "a")) (fCons (fC (.str "b")) (fCons (fC (.str "c")) (fCons (fC (.str "d")) fNil))))) fNil)))))) 
      (fRet (fC (.bool false))) 
      fNext) 
    (fSeq (fFor (fRng1 (fCons (fC (.int 4)) fNil)) (gNm 2) 
      (fSeq (fSet 3 (fMut (fCons (fCall 2 (c i__law_cell) [] (fCons (fV 0) (fCons (f2 oAdd (fC (.int 20)) (fV 2)) fNil))) fNil))) 
      (fSeq (fSet 11 (fLc (fItems (fC (.str "abcdefgh"))) (gNm 15) fYes (fTup (fCons (fV 15) (fCons (f2 oIx (fLst (fCons (fC (.str "yes")) (fCons (fC (.str "no")) fNil))) (fCall 2 (c i__law_take) [] (fCons (fV 3) (fCons (fC (.int 2)) fNil)))) fNil))) [15])) 
      (fIfS (fNotT (fTr (fCall 2 (c i__law_steady_good) [] (fCons (fCall 0 (c i__law_large) [] fNil) (fCons (fB1 (o1 tupW) (fCons (fV 11) fNil)) fNil))))) 
        (fRet (fC (.bool false))) 
        fNext)))) 
    (fSeq (fSet 12 (fB1 (o1 tupW) (fCons (fLc (fRng1 (fCons (fC (.int 8)) fNil)) (gNm 2) fYes (fTup (fCons (f2 oMul (fC (.str "x")) (f2 oAdd (fV 2) (fC (.int 1)))) (fCons (f2 oIx (fLst (fCons (fC (.str "yes")) (fCons (fC (.str "no")) fNil))) (f2 oMod (fB1 (o1 intW) (fCons (fV 2) fNil)) (fC (.int 2)))) fNil))) [2]) fNil))) 
    (fSeq (fSet 13 (fLc (fItems (fV 12)) (gTp 2 (gCs (gNm 16) (gCs (gNm 17) gNo))) (fB (f2 cEq (fV 17) (fC (.str "yes")))) (fTup (fCons (fC (.str "not")) (fCons (fTup (fCons (fC (.str "test")) (fCons (fV 16) fNil))) fNil))) [16, 17])) 
    (fSeq (fSet 14 (f2 oAdd (f2 oAdd (fTup (fCons (fC (.str "or")) fNil)) (fB1 (o1 tupW) (fCons (fV 13) fNil))) (fTup (fCons (fTup (fCons (fC (.str "test")) (fCons (fC (.str "xx")) fNil))) fNil)))) 
    (fSeq (fIfS (fOrT (fNotT (fTr (fCall 2 (c i__law_steady_good) [] (fCons (fV 14) (fCons (fV 12) fNil))))) (fNotT (fTr (fCall 2 (c i__law_steady_good) [] (fCons (fTup (fCons (fC (.str "and")) (fCons (fV 14) (fCons (fV 5) fNil)))) (fCons (fV 12) fNil)))))) 
      (fRet (fC (.bool false))) 
      fNext) 
    (fRet (f2 cEq (fCall 2 (c i_steady_run) [] (fCons (fTup (fCons (fC (.str "or")) (fCons (fV 5) (fCons (fTup (fCons (fC (.str "not")) (fCons (fV 5) fNil))) fNil)))) (fCons (fTup (fCons (fTup (fCons (fC (.str "a")) (fCons (fC (.str "no")) fNil))) fNil)) fNil))) (fTup (fCons (fTup (fCons (fC (.str "a")) fNil)) (fCons (fC (.str "yes")) fNil))))))))))))))))))
theorem ok_law {P : Program} {w : World} {K : PySem.W.Frag} {mg : Str → Option Value} {base : Heap} {n : Nat} {y : Dy} {c : Cs} (T : Tab P w K mg base y n c) {f : Addr} {fd : FuncData} (F : FunF K "law" s_law f fd) :
    FnF P w mg base (XRof K er y.cs) (n + 1) f fd ["script"] (fDef N_law.length (m_law c)) := okF F sc_law fun cdv A outer s H E C =>
    (fss_cons (fs_for C (fi_rng1 (by rfl) (T.b "range" (by decide)) (fa_cons (fe_max2 C (T.b "max" (by decide)) (by rfl) (fa_cons (fe_min2 C (T.b "min" (by decide)) (by rfl) (fa_cons (fe_len (T.b "len" (by decide)) (by rfl) (fa_cons (fv 0) fa_nil)) (fa_cons fe_int fa_nil))) (fa_cons fe_int fa_nil))) fa_nil)) (fg_nm (i := 1) sc_law.nd rfl (by first | exact Or.inl rfl | exact Or.inr rfl)) 
      (fss_one (fs_for C (fi_rng1 (by rfl) (T.b "range" (by decide)) (fa_cons fe_int fa_nil)) (fg_nm (i := 2) sc_law.nd rfl (by first | exact Or.inl rfl | exact Or.inr rfl)) 
        (fss_cons (fs_set (i := 3) sc_law.nd rfl (by first | exact Or.inl rfl | exact Or.inr rfl) (fe_mut (fa_cons (fe_call (T.F 19 (by decide)) (T.D 19 (by decide)) C (by rfl) (fa_cons (fv 0) (fa_cons (fe_add (fe_mul (fv 1) fe_int) (fv 2)) fa_nil))) fa_nil))) 
        (fss_cons (fs_set (i := 4) sc_law.nd rfl (by first | exact Or.inl rfl | exact Or.inr rfl) (fe_call (T.F 21 (by decide)) (T.D 21 (by decide)) C (by rfl) (fa_cons (fv 3) (fa_cons fe_int fa_nil)))) 
        (fss_one (fs_if (ft_not (ft_tr (fe_call (T.F 28 (by decide)) (T.D 28 (by decide)) C (by rfl) (fa_cons (fv 3) (fa_cons (fe_call (T.F 22 (by decide)) (T.D 22 (by decide)) C (by rfl) (fa_cons (fv 3) (fa_cons (fv 4) (fa_cons (fe_add fe_int (fv 2)) fa_nil)))) (fa_cons (fv 4) fa_nil)))) (by intro _; rfl))) 
          (fss_one (fs_ret fe_bl)) 
          fss_nil))))))) 
    (fss_cons (fs_set (i := 5) sc_law.nd rfl (by first | exact Or.inl rfl | exact Or.inr rfl) (fe_tup (fa_cons fe_str (fa_cons fe_str fa_nil)))) 
    (fss_cons (fs_set (i := 6) sc_law.nd rfl (by first | exact Or.inl rfl | exact Or.inr rfl) (fe_mul (fe_lst (fa_cons fe_str fa_nil)) fe_int)) 
    (fss_cons (fs_if (ft_w (fw_or (ft_cmp (k_ne C) (fe_call (T.F 5 (by decide)) (T.D 5 (by decide)) C (by rfl) (fa_cons (fv 5) (fa_cons (fv 6) fa_nil))) (fe_tup (fa_cons (fe_tup (fa_cons fe_str fa_nil)) (fa_cons fe_str fa_nil))) (by rfl)) (fw_or1 (ft_cmp (k_ne C) (fv 6) (fe_mul (fe_lst (fa_cons fe_str fa_nil)) fe_int) (by rfl))))) 
      (fss_one (fs_ret fe_bl)) 
      fss_nil) 
    (fss_cons (fs_if (ft_w (fw_or (ft_cmp (k_ne C) (fe_call (T.F 5 (by decide)) (T.D 5 (by decide)) C (by rfl) (fa_cons (fe_add (fe_tup (fa_cons fe_str fa_nil)) (fe_mul (fe_tup (fa_cons (fv 5) fa_nil)) fe_int)) (fa_cons (fe_mul (fe_lst (fa_cons fe_str fa_nil)) fe_int) fa_nil))) (fe_tup (fa_cons (fe_mul (fe_tup (fa_cons fe_str fa_nil)) fe_int) (fa_cons fe_str fa_nil))) (by rfl)) (fw_or1 (ft_cmp (k_ne C) (fe_call (T.F 5 (by decide)) (T.D 5 (by decide)) C (by rfl) (fa_cons (fv 5) (fa_cons (fe_lst fa_nil) fa_nil))) (fe_tup (fa_cons (fe_tup (fa_cons fe_str fa_nil)) (fa_cons fe_str fa_nil))) (by rfl))))) 
      (fss_one (fs_ret fe_bl)) 
      fss_nil) 
    (fss_cons (fs_asg (fe_lc0 [("letter", 15)] C sc_law.nd (fi_any fe_str) (blkOk_by (N := N_law) (sc := defScope s_law) (by decide +kernel)) (fun _ _ _ _ _ => (fg_nm (i := 15) sc_law.nd rfl (by first | exact Or.inl rfl | exact Or.inr rfl))) (by decide) (fun _ _ _ _ _ => (fe_tup (fa_cons fe_str (fa_cons (fv 15) fa_nil))))) (fg_tup rfl (fgs_cons (fg_nm (i := 7) sc_law.nd rfl (by first | exact Or.inl rfl | exact Or.inr rfl)) (fgs_cons (fg_nm (i := 8) sc_law.nd rfl (by first | exact Or.inl rfl | exact Or.inr rfl)) (fgs_cons (fg_nm (i := 9) sc_law.nd rfl (by first | exact Or.inl rfl | exact Or.inr rfl)) fgs_nil))))) 
    (fss_cons (fs_set (i := 10) sc_law.nd rfl (by first | exact Or.inl rfl | exact Or.inr rfl) (fe_tup (fa_cons fe_str (fa_cons (fe_tup (fa_cons fe_str (fa_cons (fv 5) (fa_cons (fv 7) (fa_cons (fv 8) (fa_cons (fv 9) (fa_cons (fe_tup (fa_cons fe_str (fa_cons (fv 5) fa_nil))) (fa_cons (fv 7) fa_nil)))))))) (fa_cons (fe_tup (fa_cons fe_str (fa_cons (fe_tup (fa_cons fe_str (fa_cons (fv 7) (fa_cons (fv 8) (fa_cons (fv 9) (fa_cons (fv 5) (fa_cons (fv 8) fa_nil))))))) fa_nil))) (fa_cons (fv 9) (fa_cons (fe_tup (fa_cons fe_str (fa_cons (fv 8) (fa_cons (fv 9) (fa_cons (fv 5) (fa_cons (fv 7) fa_nil)))))) (fa_cons (fv 5) fa_nil)))))))) 
    (fss_cons (fs_if (ft_not (ft_tr (fe_call (T.F 28 (by decide)) (T.D 28 (by decide)) C (by rfl) (fa_cons (fe_mut (fa_cons (fe_call (T.F 19 (by decide)) (T.D 19 (by decide)) C (by rfl) (fa_cons (fv 0) (fa_cons fe_int fa_nil))) fa_nil)) (fa_cons (fv 10) (fa_cons (fe_lst (fa_cons fe_str (fa_cons fe_str (fa_cons fe_str (fa_cons fe_str fa_nil))))) fa_nil)))) (by intro _; rfl))) 
      (fss_one (fs_ret fe_bl)) 
      fss_nil) 
    (fss_cons (fs_for C (fi_rng1 (by rfl) (T.b "range" (by decide)) (fa_cons fe_int fa_nil)) (fg_nm (i := 2) sc_law.nd rfl (by first | exact Or.inl rfl | exact Or.inr rfl)) 
      (fss_cons (fs_set (i := 3) sc_law.nd rfl (by first | exact Or.inl rfl | exact Or.inr rfl) (fe_mut (fa_cons (fe_call (T.F 19 (by decide)) (T.D 19 (by decide)) C (by rfl) (fa_cons (fv 0) (fa_cons (fe_add fe_int (fv 2)) fa_nil))) fa_nil))) 
      (fss_cons (fs_setLc0 (i := 11) [("letter", 15)] C sc_law.nd rfl (by first | rfl | decide +kernel) (by rfl) (fi_any fe_str) (blkOk_by (N := N_law) (sc := defScope s_law) (by decide +kernel)) (fun _ _ _ _ _ => (fg_nm (i := 15) sc_law.nd rfl (by first | exact Or.inl rfl | exact Or.inr rfl))) (by decide) (fun _ _ _ _ _ => (fe_tup (fa_cons (fv 15) (fa_cons (fe_ix C.blk (fe_lst (fa_cons fe_str (fa_cons fe_str fa_nil))) (fe_call (T.F 20 (by decide)) (T.D 20 (by decide)) C.blk (by rfl) (fa_cons (fv 3) (fa_cons fe_int fa_nil))) (fun _ _ => rfl)) fa_nil))))) 
      (fss_one (fs_if (ft_not (ft_tr (fe_call (T.F 27 (by decide)) (T.D 27 (by decide)) C (by rfl) (fa_cons (fe_call0 (T.F 29 (by decide)) (T.D 29 (by decide)) C (by rfl)) (fa_cons (fe_toTup (T.b "tuple" (by decide)) (by rfl) (fa_cons (fv 11) fa_nil)) fa_nil))) (by intro _; rfl))) 
        (fss_one (fs_ret fe_bl)) 
        fss_nil))))) 
    (fss_cons (fs_set (i := 12) sc_law.nd rfl (by first | exact Or.inl rfl | exact Or.inr rfl) (fe_toTup (T.b "tuple" (by decide)) (by rfl) (fa_cons (fe_lc0 [("k", 2)] C sc_law.nd (fi_rng1 (by rfl) (T.b "range" (by decide)) (fa_cons fe_int fa_nil)) (blkOk_by (N := N_law) (sc := defScope s_law) (by decide +kernel)) (fun _ _ _ _ _ => (fg_nm (i := 2) sc_law.nd rfl (by first | exact Or.inl rfl | exact Or.inr rfl))) (by decide) (fun _ _ _ _ _ => (fe_tup (fa_cons (fe_mul fe_str (fe_add (fv 2) fe_int)) (fa_cons (fe_ix C.blk (fe_lst (fa_cons fe_str (fa_cons fe_str fa_nil))) (fe_mod (fe_toInt (T.b "int" (by decide)) (by rfl) (fa_cons (fv 2) fa_nil)) fe_int) (fun _ _ => rfl)) fa_nil))))) fa_nil))) 
    (fss_cons (fs_setLc1 (i := 13) [("name", 16), ("answer", 17)] C sc_law.nd rfl (by first | rfl | decide +kernel) (by rfl) (fi_any (fv 12)) (blkOk_by (N := N_law) (sc := defScope s_law) (by decide +kernel)) (fun _ _ _ _ _ => (fg_tup rfl (fgs_cons (fg_nm (i := 16) sc_law.nd rfl (by first | exact Or.inl rfl | exact Or.inr rfl)) (fgs_cons (fg_nm (i := 17) sc_law.nd rfl (by first | exact Or.inl rfl | exact Or.inr rfl)) fgs_nil)))) (by decide) (fun _ _ _ _ _ => (ft_cmp (k_eq C.blk) (fv 17) fe_str (by rfl))) (fun _ _ _ _ _ => (fe_tup (fa_cons fe_str (fa_cons (fe_tup (fa_cons fe_str (fa_cons (fv 16) fa_nil))) fa_nil))))) 
    (fss_cons (fs_set (i := 14) sc_law.nd rfl (by first | exact Or.inl rfl | exact Or.inr rfl) (fe_add (fe_add (fe_tup (fa_cons fe_str fa_nil)) (fe_toTup (T.b "tuple" (by decide)) (by rfl) (fa_cons (fv 13) fa_nil))) (fe_tup (fa_cons (fe_tup (fa_cons fe_str (fa_cons fe_str fa_nil))) fa_nil)))) 
    (fss_cons (fs_if (ft_w (fw_or (ft_not (ft_tr (fe_call (T.F 27 (by decide)) (T.D 27 (by decide)) C (by rfl) (fa_cons (fv 14) (fa_cons (fv 12) fa_nil))) (by intro _; rfl))) (fw_or1 (ft_not (ft_tr (fe_call (T.F 27 (by decide)) (T.D 27 (by decide)) C (by rfl) (fa_cons (fe_tup (fa_cons fe_str (fa_cons (fv 14) (fa_cons (fv 5) fa_nil)))) (fa_cons (fv 12) fa_nil))) (by intro _; rfl)))))) 
      (fss_one (fs_ret fe_bl)) 
      fss_nil) 
    (fss_one (fs_ret (fe_cmp (k_eq C) (fe_call (T.F 6 (by decide)) (T.D 6 (by decide)) C (by rfl) (fa_cons (fe_tup (fa_cons fe_str (fa_cons (fv 5) (fa_cons (fe_tup (fa_cons fe_str (fa_cons (fv 5) fa_nil))) fa_nil)))) (fa_cons (fe_tup (fa_cons (fe_tup (fa_cons fe_str (fa_cons fe_str fa_nil))) fa_nil)) fa_nil))) (fe_tup (fa_cons (fe_tup (fa_cons fe_str fa_nil)) (fa_cons fe_str fa_nil))) (by rfl)))))))))))))))))
end G53

set_option Elab.async false
set_option linter.all false
set_option maxRecDepth 100000
set_option maxHeartbeats 4000000
namespace G53
open PySem PySem.Spec PyProof.Rows
open L2 FL
abbrev Nn : Nat → Nat := fun i => match i with
  | 0 => N_is_name.length
  | 1 => N_are_names.length
  | 2 => N_is_condition.length
  | 3 => N__is_part.length
  | 4 => N_check_condition.length
  | 5 => N_run.length
  | 6 => N_steady_run.length
  | 7 => N_check_answers.length
  | 8 => N_check_assignment.length
  | 9 => N__is_assignment.length
  | 10 => N__is_answered.length
  | 11 => N_rows_of.length
  | 12 => N__rows.length
  | 13 => N__if_rows.length
  | 14 => N__size.length
  | 15 => N_walked.length
  | 16 => N_steadily_walked.length
  | 17 => N_repeatedly_walked.length
  | 18 => N__law_mixed.length
  | 19 => N__law_cell.length
  | 20 => N__law_take.length
  | 21 => N__law_words.length
  | 22 => N__law_condition.length
  | 23 => N__law_end.length
  | 24 => N__law_run.length
  | 25 => N__law_steady.length
  | 26 => N__law_asked.length
  | 27 => N__law_steady_good.length
  | 28 => N__law_good.length
  | 29 => N__law_large.length
  | 30 => N_law.length
  | _ => 0
abbrev mm : Nat → Cs → FS := fun i => match i with
  | 0 => m_is_name
  | 1 => m_are_names
  | 2 => m_is_condition
  | 3 => m__is_part
  | 4 => m_check_condition
  | 5 => m_run
  | 6 => m_steady_run
  | 7 => m_check_answers
  | 8 => m_check_assignment
  | 9 => m__is_assignment
  | 10 => m__is_answered
  | 11 => m_rows_of
  | 12 => m__rows
  | 13 => m__if_rows
  | 14 => m__size
  | 15 => m_walked
  | 16 => m_steadily_walked
  | 17 => m_repeatedly_walked
  | 18 => m__law_mixed
  | 19 => m__law_cell
  | 20 => m__law_take
  | 21 => m__law_words
  | 22 => m__law_condition
  | 23 => m__law_end
  | 24 => m__law_run
  | 25 => m__law_steady
  | 26 => m__law_asked
  | 27 => m__law_steady_good
  | 28 => m__law_good
  | 29 => m__law_large
  | 30 => m_law
  | _ => fun _ _ _ => .no
abbrev sts : Nat → Stmt := fun i => match i with
  | 0 => s_is_name
  | 1 => s_are_names
  | 2 => s_is_condition
  | 3 => s__is_part
  | 4 => s_check_condition
  | 5 => s_run
  | 6 => s_steady_run
  | 7 => s_check_answers
  | 8 => s_check_assignment
  | 9 => s__is_assignment
  | 10 => s__is_answered
  | 11 => s_rows_of
  | 12 => s__rows
  | 13 => s__if_rows
  | 14 => s__size
  | 15 => s_walked
  | 16 => s_steadily_walked
  | 17 => s_repeatedly_walked
  | 18 => s__law_mixed
  | 19 => s__law_cell
  | 20 => s__law_take
  | 21 => s__law_words
  | 22 => s__law_condition
  | 23 => s__law_end
  | 24 => s__law_run
  | 25 => s__law_steady
  | 26 => s__law_asked
  | 27 => s__law_steady_good
  | 28 => s__law_good
  | 29 => s__law_large
  | 30 => s_law
  | _ => topK 0
@[simp] theorem gdt_0 : gdt 0 = (.int 60) := rfl
@[simp] theorem gdt_1 : gdt 1 = (.int 200) := rfl
@[simp] theorem gdt_2 : gdt 2 = (.int 8) := rfl
@[simp] theorem gdt_3 : gdt 3 = (.int 80) := rfl
@[simp] theorem gdt_4 : gdt 4 = (.int 8) := rfl
@[simp] theorem gdt_5 : gdt 5 = (.tuple [(.str "and"), (.str "or"), (.str "not"), (.str "if"), (.str "else")]) := rfl
@[simp] theorem gdt_6 : gdt 6 = (.tuple [(.str "yes"), (.str "no"), (.str "fails")]) := rfl
@[simp] theorem gdt_7 : gdt 7 = (.tuple [(.str "yes"), (.str "no")]) := rfl
@[simp] theorem gdt_8 : gdt 8 = (.int 200) := rfl
@[simp] theorem dwd_0 : dwd 0 = (.tuple [(.str "yes"), (.str "no")]) := rfl
@[simp] theorem dwd_1 : dwd 1 = (.int 0) := rfl
theorem ok_all {P : Program} {w : World} {K : PySem.W.Frag} {mg : Str → Option Value} {base : Heap} {y : Dy} (F : ∀ i, i < 31 → FunF K (nms i) (sts i) (y.ad i) (y.fds i)) (n : Nat) (c : Cs) (T : Tb P w K mg base sg y n c) :
    ∀ i, i < 31 → FnF P w mg base (XRof K er y.cs) (n + 1) (y.ad i) (y.fds i) (pss i) (fDef (Nn i) (mm i c)) := fun i hi => match i, hi with
  | 0, _ => ok_is_name T (F 0 (by decide))
  | 1, _ => ok_are_names T (F 1 (by decide))
  | 2, _ => ok_is_condition T (F 2 (by decide))
  | 3, _ => ok__is_part T (F 3 (by decide))
  | 4, _ => ok_check_condition T (F 4 (by decide))
  | 5, _ => ok_run T (F 5 (by decide))
  | 6, _ => ok_steady_run T (F 6 (by decide))
  | 7, _ => ok_check_answers T (F 7 (by decide))
  | 8, _ => ok_check_assignment T (F 8 (by decide))
  | 9, _ => ok__is_assignment T (F 9 (by decide))
  | 10, _ => ok__is_answered T (F 10 (by decide))
  | 11, _ => ok_rows_of T (F 11 (by decide))
  | 12, _ => ok__rows T (F 12 (by decide))
  | 13, _ => ok__if_rows T (F 13 (by decide))
  | 14, _ => ok__size T (F 14 (by decide))
  | 15, _ => ok_walked T (F 15 (by decide))
  | 16, _ => ok_steadily_walked T (F 16 (by decide))
  | 17, _ => ok_repeatedly_walked T (F 17 (by decide))
  | 18, _ => ok__law_mixed T (F 18 (by decide))
  | 19, _ => ok__law_cell T (F 19 (by decide))
  | 20, _ => ok__law_take T (F 20 (by decide))
  | 21, _ => ok__law_words T (F 21 (by decide))
  | 22, _ => ok__law_condition T (F 22 (by decide))
  | 23, _ => ok__law_end T (F 23 (by decide))
  | 24, _ => ok__law_run T (F 24 (by decide))
  | 25, _ => ok__law_steady T (F 25 (by decide))
  | 26, _ => ok__law_asked T (F 26 (by decide))
  | 27, _ => ok__law_steady_good T (F 27 (by decide))
  | 28, _ => ok__law_good T (F 28 (by decide))
  | 29, _ => ok__law_large T (F 29 (by decide))
  | 30, _ => ok_law T (F 30 (by decide))
  | j + 31, hj => absurd hj (by show ¬ j + 31 < 31; omega)
theorem mk_is_name {K : PySem.W.Frag} {mg : Str → Option Value} {h : Heap} {f : Addr} {oc kV dc pm cd ct : Value} {od an : Option Addr} {sl : Array (Option Value)} (X : K.In h) (G : h.Ns mainGlobals mg)
    (a : PySem.W.nsIn K mainGlobals "is_name" = some (some (.ref f))) (l : K.lookup f = some ⟨oc, od, .func (PySem.W.fnOf "is_name" "is_name" (defArgs s_is_name) (defBody s_is_name) (defScope s_is_name) .none kV dc pm an cd ct), sl⟩)
    (c : PySem.W.codeIn K cd "is_name" = true) (k : PySem.W.keepIn K (.ref f) = true) : ∃ fd, DefT K mg "is_name" s_is_name ["value"] f fd := def_mk X G a l c k fun us hl => match us, hl with | [_], _ => rfl
theorem mk_are_names {K : PySem.W.Frag} {mg : Str → Option Value} {h : Heap} {f : Addr} {oc kV dc pm cd ct : Value} {od an : Option Addr} {sl : Array (Option Value)} (X : K.In h) (G : h.Ns mainGlobals mg)
    (a : PySem.W.nsIn K mainGlobals "are_names" = some (some (.ref f))) (l : K.lookup f = some ⟨oc, od, .func (PySem.W.fnOf "are_names" "are_names" (defArgs s_are_names) (defBody s_are_names) (defScope s_are_names) .none kV dc pm an cd ct), sl⟩)
    (c : PySem.W.codeIn K cd "are_names" = true) (k : PySem.W.keepIn K (.ref f) = true) : ∃ fd, DefT K mg "are_names" s_are_names ["value"] f fd := def_mk X G a l c k fun us hl => match us, hl with | [_], _ => rfl
theorem mk_is_condition {K : PySem.W.Frag} {mg : Str → Option Value} {h : Heap} {f : Addr} {oc kV dc pm cd ct : Value} {od an : Option Addr} {sl : Array (Option Value)} (X : K.In h) (G : h.Ns mainGlobals mg)
    (a : PySem.W.nsIn K mainGlobals "is_condition" = some (some (.ref f))) (l : K.lookup f = some ⟨oc, od, .func (PySem.W.fnOf "is_condition" "is_condition" (defArgs s_is_condition) (defBody s_is_condition) (defScope s_is_condition) .none kV dc pm an cd ct), sl⟩)
    (c : PySem.W.codeIn K cd "is_condition" = true) (k : PySem.W.keepIn K (.ref f) = true) : ∃ fd, DefT K mg "is_condition" s_is_condition ["value"] f fd := def_mk X G a l c k fun us hl => match us, hl with | [_], _ => rfl
theorem mk__is_part {K : PySem.W.Frag} {mg : Str → Option Value} {h : Heap} {f : Addr} {oc kV dc pm cd ct : Value} {od an : Option Addr} {sl : Array (Option Value)} (X : K.In h) (G : h.Ns mainGlobals mg)
    (a : PySem.W.nsIn K mainGlobals "_is_part" = some (some (.ref f))) (l : K.lookup f = some ⟨oc, od, .func (PySem.W.fnOf "_is_part" "_is_part" (defArgs s__is_part) (defBody s__is_part) (defScope s__is_part) .none kV dc pm an cd ct), sl⟩)
    (c : PySem.W.codeIn K cd "_is_part" = true) (k : PySem.W.keepIn K (.ref f) = true) : ∃ fd, DefT K mg "_is_part" s__is_part ["value"] f fd := def_mk X G a l c k fun us hl => match us, hl with | [_], _ => rfl
theorem mk_check_condition {K : PySem.W.Frag} {mg : Str → Option Value} {h : Heap} {f : Addr} {oc kV dc pm cd ct : Value} {od an : Option Addr} {sl : Array (Option Value)} (X : K.In h) (G : h.Ns mainGlobals mg)
    (a : PySem.W.nsIn K mainGlobals "check_condition" = some (some (.ref f))) (l : K.lookup f = some ⟨oc, od, .func (PySem.W.fnOf "check_condition" "check_condition" (defArgs s_check_condition) (defBody s_check_condition) (defScope s_check_condition) .none kV dc pm an cd ct), sl⟩)
    (c : PySem.W.codeIn K cd "check_condition" = true) (k : PySem.W.keepIn K (.ref f) = true) : ∃ fd, DefT K mg "check_condition" s_check_condition ["value"] f fd := def_mk X G a l c k fun us hl => match us, hl with | [_], _ => rfl
theorem mk_run {K : PySem.W.Frag} {mg : Str → Option Value} {h : Heap} {f : Addr} {oc kV dc pm cd ct : Value} {od an : Option Addr} {sl : Array (Option Value)} (X : K.In h) (G : h.Ns mainGlobals mg)
    (a : PySem.W.nsIn K mainGlobals "run" = some (some (.ref f))) (l : K.lookup f = some ⟨oc, od, .func (PySem.W.fnOf "run" "run" (defArgs s_run) (defBody s_run) (defScope s_run) .none kV dc pm an cd ct), sl⟩)
    (c : PySem.W.codeIn K cd "run" = true) (k : PySem.W.keepIn K (.ref f) = true) : ∃ fd, DefT K mg "run" s_run ["condition", "answers"] f fd := def_mk X G a l c k fun us hl => match us, hl with | [_, _], _ => rfl
theorem mk_steady_run {K : PySem.W.Frag} {mg : Str → Option Value} {h : Heap} {f : Addr} {oc kV dc pm cd ct : Value} {od an : Option Addr} {sl : Array (Option Value)} (X : K.In h) (G : h.Ns mainGlobals mg)
    (a : PySem.W.nsIn K mainGlobals "steady_run" = some (some (.ref f))) (l : K.lookup f = some ⟨oc, od, .func (PySem.W.fnOf "steady_run" "steady_run" (defArgs s_steady_run) (defBody s_steady_run) (defScope s_steady_run) .none kV dc pm an cd ct), sl⟩)
    (c : PySem.W.codeIn K cd "steady_run" = true) (k : PySem.W.keepIn K (.ref f) = true) : ∃ fd, DefT K mg "steady_run" s_steady_run ["condition", "assignment"] f fd := def_mk X G a l c k fun us hl => match us, hl with | [_, _], _ => rfl
theorem mk_check_answers {K : PySem.W.Frag} {mg : Str → Option Value} {h : Heap} {f : Addr} {oc kV dc pm cd ct : Value} {od an : Option Addr} {sl : Array (Option Value)} (X : K.In h) (G : h.Ns mainGlobals mg)
    (a : PySem.W.nsIn K mainGlobals "check_answers" = some (some (.ref f))) (l : K.lookup f = some ⟨oc, od, .func (PySem.W.fnOf "check_answers" "check_answers" (defArgs s_check_answers) (defBody s_check_answers) (defScope s_check_answers) .none kV dc pm an cd ct), sl⟩)
    (c : PySem.W.codeIn K cd "check_answers" = true) (k : PySem.W.keepIn K (.ref f) = true) : ∃ fd, DefT K mg "check_answers" s_check_answers ["value"] f fd := def_mk X G a l c k fun us hl => match us, hl with | [_], _ => rfl
theorem mk_check_assignment {K : PySem.W.Frag} {mg : Str → Option Value} {h : Heap} {f T a2 : Addr} {oc kV dc pm cd ct o1 : Value} {od an o2 : Option Addr} {sl o4 sl2 : Array (Option Value)} {its : Array Value} {m n2 : Nat} (X : K.In h) (G : h.Ns mainGlobals mg)
    (a : PySem.W.nsIn K mainGlobals "check_assignment" = some (some (.ref f))) (l : K.lookup f = some ⟨oc, od, .func (PySem.W.fnOf "check_assignment" "check_assignment" (defArgs s_check_assignment) (defBody s_check_assignment) (defScope s_check_assignment) (.ref T) kV dc pm an cd ct), sl⟩)
    (c : PySem.W.codeIn K cd "check_assignment" = true) (k : PySem.W.keepIn K (.ref f) = true) (lT : K.lookup T = some ⟨o1, o2, .seq #[.ref a2] m, o4⟩) (l2 : K.lookup a2 = some ⟨.type "tuple", none, .seq its n2, sl2⟩) (e : StrsAre its.toList ["yes", "no"]) (z : its.size ≤ sizeLine) : ∃ fd, DefD K mg "check_assignment" s_check_assignment ["value", "answers"] (dwd 0) f fd (.ref a2) (.ref a2) :=
  defD_mk (n := 1) X G a l c k lT rfl (dr_strs (zs := ["yes", "no"]) l2 e z) rfl (fun us its hu hi => match us, its, hu, hi with | [_, _], [_], _, _ => ⟨_, rfl, rfl⟩) (fun us its hu hi => match us, its, hu, hi with | [_], [_], _, _ => ⟨_, rfl, rfl⟩)
theorem mk__is_assignment {K : PySem.W.Frag} {mg : Str → Option Value} {h : Heap} {f : Addr} {oc kV dc pm cd ct : Value} {od an : Option Addr} {sl : Array (Option Value)} (X : K.In h) (G : h.Ns mainGlobals mg)
    (a : PySem.W.nsIn K mainGlobals "_is_assignment" = some (some (.ref f))) (l : K.lookup f = some ⟨oc, od, .func (PySem.W.fnOf "_is_assignment" "_is_assignment" (defArgs s__is_assignment) (defBody s__is_assignment) (defScope s__is_assignment) .none kV dc pm an cd ct), sl⟩)
    (c : PySem.W.codeIn K cd "_is_assignment" = true) (k : PySem.W.keepIn K (.ref f) = true) : ∃ fd, DefT K mg "_is_assignment" s__is_assignment ["value", "answers"] f fd := def_mk X G a l c k fun us hl => match us, hl with | [_, _], _ => rfl
theorem mk__is_answered {K : PySem.W.Frag} {mg : Str → Option Value} {h : Heap} {f : Addr} {oc kV dc pm cd ct : Value} {od an : Option Addr} {sl : Array (Option Value)} (X : K.In h) (G : h.Ns mainGlobals mg)
    (a : PySem.W.nsIn K mainGlobals "_is_answered" = some (some (.ref f))) (l : K.lookup f = some ⟨oc, od, .func (PySem.W.fnOf "_is_answered" "_is_answered" (defArgs s__is_answered) (defBody s__is_answered) (defScope s__is_answered) .none kV dc pm an cd ct), sl⟩)
    (c : PySem.W.codeIn K cd "_is_answered" = true) (k : PySem.W.keepIn K (.ref f) = true) : ∃ fd, DefT K mg "_is_answered" s__is_answered ["value", "answers"] f fd := def_mk X G a l c k fun us hl => match us, hl with | [_, _], _ => rfl
theorem mk_rows_of {K : PySem.W.Frag} {mg : Str → Option Value} {h : Heap} {f : Addr} {oc kV dc pm cd ct : Value} {od an : Option Addr} {sl : Array (Option Value)} (X : K.In h) (G : h.Ns mainGlobals mg)
    (a : PySem.W.nsIn K mainGlobals "rows_of" = some (some (.ref f))) (l : K.lookup f = some ⟨oc, od, .func (PySem.W.fnOf "rows_of" "rows_of" (defArgs s_rows_of) (defBody s_rows_of) (defScope s_rows_of) .none kV dc pm an cd ct), sl⟩)
    (c : PySem.W.codeIn K cd "rows_of" = true) (k : PySem.W.keepIn K (.ref f) = true) : ∃ fd, DefT K mg "rows_of" s_rows_of ["condition"] f fd := def_mk X G a l c k fun us hl => match us, hl with | [_], _ => rfl
theorem mk__rows {K : PySem.W.Frag} {mg : Str → Option Value} {h : Heap} {f : Addr} {oc kV dc pm cd ct : Value} {od an : Option Addr} {sl : Array (Option Value)} (X : K.In h) (G : h.Ns mainGlobals mg)
    (a : PySem.W.nsIn K mainGlobals "_rows" = some (some (.ref f))) (l : K.lookup f = some ⟨oc, od, .func (PySem.W.fnOf "_rows" "_rows" (defArgs s__rows) (defBody s__rows) (defScope s__rows) .none kV dc pm an cd ct), sl⟩)
    (c : PySem.W.codeIn K cd "_rows" = true) (k : PySem.W.keepIn K (.ref f) = true) : ∃ fd, DefT K mg "_rows" s__rows ["condition", "start", "yes", "no"] f fd := def_mk X G a l c k fun us hl => match us, hl with | [_, _, _, _], _ => rfl
theorem mk__if_rows {K : PySem.W.Frag} {mg : Str → Option Value} {h : Heap} {f : Addr} {oc kV dc pm cd ct : Value} {od an : Option Addr} {sl : Array (Option Value)} (X : K.In h) (G : h.Ns mainGlobals mg)
    (a : PySem.W.nsIn K mainGlobals "_if_rows" = some (some (.ref f))) (l : K.lookup f = some ⟨oc, od, .func (PySem.W.fnOf "_if_rows" "_if_rows" (defArgs s__if_rows) (defBody s__if_rows) (defScope s__if_rows) .none kV dc pm an cd ct), sl⟩)
    (c : PySem.W.codeIn K cd "_if_rows" = true) (k : PySem.W.keepIn K (.ref f) = true) : ∃ fd, DefT K mg "_if_rows" s__if_rows ["condition", "start", "yes", "no"] f fd := def_mk X G a l c k fun us hl => match us, hl with | [_, _, _, _], _ => rfl
theorem mk__size {K : PySem.W.Frag} {mg : Str → Option Value} {h : Heap} {f : Addr} {oc kV dc pm cd ct : Value} {od an : Option Addr} {sl : Array (Option Value)} (X : K.In h) (G : h.Ns mainGlobals mg)
    (a : PySem.W.nsIn K mainGlobals "_size" = some (some (.ref f))) (l : K.lookup f = some ⟨oc, od, .func (PySem.W.fnOf "_size" "_size" (defArgs s__size) (defBody s__size) (defScope s__size) .none kV dc pm an cd ct), sl⟩)
    (c : PySem.W.codeIn K cd "_size" = true) (k : PySem.W.keepIn K (.ref f) = true) : ∃ fd, DefT K mg "_size" s__size ["condition"] f fd := def_mk X G a l c k fun us hl => match us, hl with | [_], _ => rfl
theorem mk_walked {K : PySem.W.Frag} {mg : Str → Option Value} {h : Heap} {f T : Addr} {oc kV dc pm cd ct o1 : Value} {od an o2 : Option Addr} {sl o4 : Array (Option Value)} {m : Nat} {tk : Tok} (X : K.In h) (G : h.Ns mainGlobals mg)
    (a : PySem.W.nsIn K mainGlobals "walked" = some (some (.ref f))) (l : K.lookup f = some ⟨oc, od, .func (PySem.W.fnOf "walked" "walked" (defArgs s_walked) (defBody s_walked) (defScope s_walked) (.ref T) kV dc pm an cd ct), sl⟩)
    (c : PySem.W.codeIn K cd "walked" = true) (k : PySem.W.keepIn K (.ref f) = true) (lT : K.lookup T = some ⟨o1, o2, .seq #[.int 0 tk] m, o4⟩) : ∃ fd, DefD K mg "walked" s_walked ["rows", "answers", "start"] (dwd 1) f fd (.int 0 tk) (.int 0) :=
  defD_mk (n := 2) X G a l c k lT ⟨tk, rfl⟩ (fun H M => by unfold dwd; unfold Dr; rfl) rfl (fun us its hu hi => match us, its, hu, hi with | [_, _, _], [_], _, _ => ⟨_, rfl, rfl⟩) (fun us its hu hi => match us, its, hu, hi with | [_, _], [_], _, _ => ⟨_, rfl, rfl⟩)
theorem mk_steadily_walked {K : PySem.W.Frag} {mg : Str → Option Value} {h : Heap} {f : Addr} {oc kV dc pm cd ct : Value} {od an : Option Addr} {sl : Array (Option Value)} (X : K.In h) (G : h.Ns mainGlobals mg)
    (a : PySem.W.nsIn K mainGlobals "steadily_walked" = some (some (.ref f))) (l : K.lookup f = some ⟨oc, od, .func (PySem.W.fnOf "steadily_walked" "steadily_walked" (defArgs s_steadily_walked) (defBody s_steadily_walked) (defScope s_steadily_walked) .none kV dc pm an cd ct), sl⟩)
    (c : PySem.W.codeIn K cd "steadily_walked" = true) (k : PySem.W.keepIn K (.ref f) = true) : ∃ fd, DefT K mg "steadily_walked" s_steadily_walked ["rows", "assignment"] f fd := def_mk X G a l c k fun us hl => match us, hl with | [_, _], _ => rfl
theorem mk_repeatedly_walked {K : PySem.W.Frag} {mg : Str → Option Value} {h : Heap} {f : Addr} {oc kV dc pm cd ct : Value} {od an : Option Addr} {sl : Array (Option Value)} (X : K.In h) (G : h.Ns mainGlobals mg)
    (a : PySem.W.nsIn K mainGlobals "repeatedly_walked" = some (some (.ref f))) (l : K.lookup f = some ⟨oc, od, .func (PySem.W.fnOf "repeatedly_walked" "repeatedly_walked" (defArgs s_repeatedly_walked) (defBody s_repeatedly_walked) (defScope s_repeatedly_walked) .none kV dc pm an cd ct), sl⟩)
    (c : PySem.W.codeIn K cd "repeatedly_walked" = true) (k : PySem.W.keepIn K (.ref f) = true) : ∃ fd, DefT K mg "repeatedly_walked" s_repeatedly_walked ["rows", "assignment"] f fd := def_mk X G a l c k fun us hl => match us, hl with | [_, _], _ => rfl
theorem mk__law_mixed {K : PySem.W.Frag} {mg : Str → Option Value} {h : Heap} {f : Addr} {oc kV dc pm cd ct : Value} {od an : Option Addr} {sl : Array (Option Value)} (X : K.In h) (G : h.Ns mainGlobals mg)
    (a : PySem.W.nsIn K mainGlobals "_law_mixed" = some (some (.ref f))) (l : K.lookup f = some ⟨oc, od, .func (PySem.W.fnOf "_law_mixed" "_law_mixed" (defArgs s__law_mixed) (defBody s__law_mixed) (defScope s__law_mixed) .none kV dc pm an cd ct), sl⟩)
    (c : PySem.W.codeIn K cd "_law_mixed" = true) (k : PySem.W.keepIn K (.ref f) = true) : ∃ fd, DefT K mg "_law_mixed" s__law_mixed ["cell", "k"] f fd := def_mk X G a l c k fun us hl => match us, hl with | [_, _], _ => rfl
theorem mk__law_cell {K : PySem.W.Frag} {mg : Str → Option Value} {h : Heap} {f : Addr} {oc kV dc pm cd ct : Value} {od an : Option Addr} {sl : Array (Option Value)} (X : K.In h) (G : h.Ns mainGlobals mg)
    (a : PySem.W.nsIn K mainGlobals "_law_cell" = some (some (.ref f))) (l : K.lookup f = some ⟨oc, od, .func (PySem.W.fnOf "_law_cell" "_law_cell" (defArgs s__law_cell) (defBody s__law_cell) (defScope s__law_cell) .none kV dc pm an cd ct), sl⟩)
    (c : PySem.W.codeIn K cd "_law_cell" = true) (k : PySem.W.keepIn K (.ref f) = true) : ∃ fd, DefT K mg "_law_cell" s__law_cell ["script", "k"] f fd := def_mk X G a l c k fun us hl => match us, hl with | [_, _], _ => rfl
theorem mk__law_take {K : PySem.W.Frag} {mg : Str → Option Value} {h : Heap} {f : Addr} {oc kV dc pm cd ct : Value} {od an : Option Addr} {sl : Array (Option Value)} (X : K.In h) (G : h.Ns mainGlobals mg)
    (a : PySem.W.nsIn K mainGlobals "_law_take" = some (some (.ref f))) (l : K.lookup f = some ⟨oc, od, .func (PySem.W.fnOf "_law_take" "_law_take" (defArgs s__law_take) (defBody s__law_take) (defScope s__law_take) .none kV dc pm an cd ct), sl⟩)
    (c : PySem.W.codeIn K cd "_law_take" = true) (k : PySem.W.keepIn K (.ref f) = true) : ∃ fd, DefT K mg "_law_take" s__law_take ["own", "options"] f fd := def_mk X G a l c k fun us hl => match us, hl with | [_, _], _ => rfl
theorem mk__law_words {K : PySem.W.Frag} {mg : Str → Option Value} {h : Heap} {f : Addr} {oc kV dc pm cd ct : Value} {od an : Option Addr} {sl : Array (Option Value)} (X : K.In h) (G : h.Ns mainGlobals mg)
    (a : PySem.W.nsIn K mainGlobals "_law_words" = some (some (.ref f))) (l : K.lookup f = some ⟨oc, od, .func (PySem.W.fnOf "_law_words" "_law_words" (defArgs s__law_words) (defBody s__law_words) (defScope s__law_words) .none kV dc pm an cd ct), sl⟩)
    (c : PySem.W.codeIn K cd "_law_words" = true) (k : PySem.W.keepIn K (.ref f) = true) : ∃ fd, DefT K mg "_law_words" s__law_words ["own", "many"] f fd := def_mk X G a l c k fun us hl => match us, hl with | [_, _], _ => rfl
theorem mk__law_condition {K : PySem.W.Frag} {mg : Str → Option Value} {h : Heap} {f : Addr} {oc kV dc pm cd ct : Value} {od an : Option Addr} {sl : Array (Option Value)} (X : K.In h) (G : h.Ns mainGlobals mg)
    (a : PySem.W.nsIn K mainGlobals "_law_condition" = some (some (.ref f))) (l : K.lookup f = some ⟨oc, od, .func (PySem.W.fnOf "_law_condition" "_law_condition" (defArgs s__law_condition) (defBody s__law_condition) (defScope s__law_condition) .none kV dc pm an cd ct), sl⟩)
    (c : PySem.W.codeIn K cd "_law_condition" = true) (k : PySem.W.keepIn K (.ref f) = true) : ∃ fd, DefT K mg "_law_condition" s__law_condition ["own", "words", "deep"] f fd := def_mk X G a l c k fun us hl => match us, hl with | [_, _, _], _ => rfl
theorem mk__law_end {K : PySem.W.Frag} {mg : Str → Option Value} {h : Heap} {f : Addr} {oc kV dc pm cd ct : Value} {od an : Option Addr} {sl : Array (Option Value)} (X : K.In h) (G : h.Ns mainGlobals mg)
    (a : PySem.W.nsIn K mainGlobals "_law_end" = some (some (.ref f))) (l : K.lookup f = some ⟨oc, od, .func (PySem.W.fnOf "_law_end" "_law_end" (defArgs s__law_end) (defBody s__law_end) (defScope s__law_end) .none kV dc pm an cd ct), sl⟩)
    (c : PySem.W.codeIn K cd "_law_end" = true) (k : PySem.W.keepIn K (.ref f) = true) : ∃ fd, DefT K mg "_law_end" s__law_end ["one", "left", "asked"] f fd := def_mk X G a l c k fun us hl => match us, hl with | [_, _, _], _ => rfl
theorem mk__law_run {K : PySem.W.Frag} {mg : Str → Option Value} {h : Heap} {f : Addr} {oc kV dc pm cd ct : Value} {od an : Option Addr} {sl : Array (Option Value)} (X : K.In h) (G : h.Ns mainGlobals mg)
    (a : PySem.W.nsIn K mainGlobals "_law_run" = some (some (.ref f))) (l : K.lookup f = some ⟨oc, od, .func (PySem.W.fnOf "_law_run" "_law_run" (defArgs s__law_run) (defBody s__law_run) (defScope s__law_run) .none kV dc pm an cd ct), sl⟩)
    (c : PySem.W.codeIn K cd "_law_run" = true) (k : PySem.W.keepIn K (.ref f) = true) : ∃ fd, DefT K mg "_law_run" s__law_run ["one", "answers"] f fd := def_mk X G a l c k fun us hl => match us, hl with | [_, _], _ => rfl
theorem mk__law_steady {K : PySem.W.Frag} {mg : Str → Option Value} {h : Heap} {f : Addr} {oc kV dc pm cd ct : Value} {od an : Option Addr} {sl : Array (Option Value)} (X : K.In h) (G : h.Ns mainGlobals mg)
    (a : PySem.W.nsIn K mainGlobals "_law_steady" = some (some (.ref f))) (l : K.lookup f = some ⟨oc, od, .func (PySem.W.fnOf "_law_steady" "_law_steady" (defArgs s__law_steady) (defBody s__law_steady) (defScope s__law_steady) .none kV dc pm an cd ct), sl⟩)
    (c : PySem.W.codeIn K cd "_law_steady" = true) (k : PySem.W.keepIn K (.ref f) = true) : ∃ fd, DefT K mg "_law_steady" s__law_steady ["one", "known", "asked"] f fd := def_mk X G a l c k fun us hl => match us, hl with | [_, _, _], _ => rfl
theorem mk__law_asked {K : PySem.W.Frag} {mg : Str → Option Value} {h : Heap} {f : Addr} {oc kV dc pm cd ct : Value} {od an : Option Addr} {sl : Array (Option Value)} (X : K.In h) (G : h.Ns mainGlobals mg)
    (a : PySem.W.nsIn K mainGlobals "_law_asked" = some (some (.ref f))) (l : K.lookup f = some ⟨oc, od, .func (PySem.W.fnOf "_law_asked" "_law_asked" (defArgs s__law_asked) (defBody s__law_asked) (defScope s__law_asked) .none kV dc pm an cd ct), sl⟩)
    (c : PySem.W.codeIn K cd "_law_asked" = true) (k : PySem.W.keepIn K (.ref f) = true) : ∃ fd, DefT K mg "_law_asked" s__law_asked ["one", "assignment"] f fd := def_mk X G a l c k fun us hl => match us, hl with | [_, _], _ => rfl
theorem mk__law_steady_good {K : PySem.W.Frag} {mg : Str → Option Value} {h : Heap} {f : Addr} {oc kV dc pm cd ct : Value} {od an : Option Addr} {sl : Array (Option Value)} (X : K.In h) (G : h.Ns mainGlobals mg)
    (a : PySem.W.nsIn K mainGlobals "_law_steady_good" = some (some (.ref f))) (l : K.lookup f = some ⟨oc, od, .func (PySem.W.fnOf "_law_steady_good" "_law_steady_good" (defArgs s__law_steady_good) (defBody s__law_steady_good) (defScope s__law_steady_good) .none kV dc pm an cd ct), sl⟩)
    (c : PySem.W.codeIn K cd "_law_steady_good" = true) (k : PySem.W.keepIn K (.ref f) = true) : ∃ fd, DefT K mg "_law_steady_good" s__law_steady_good ["one", "assignment"] f fd := def_mk X G a l c k fun us hl => match us, hl with | [_, _], _ => rfl
theorem mk__law_good {K : PySem.W.Frag} {mg : Str → Option Value} {h : Heap} {f : Addr} {oc kV dc pm cd ct : Value} {od an : Option Addr} {sl : Array (Option Value)} (X : K.In h) (G : h.Ns mainGlobals mg)
    (a : PySem.W.nsIn K mainGlobals "_law_good" = some (some (.ref f))) (l : K.lookup f = some ⟨oc, od, .func (PySem.W.fnOf "_law_good" "_law_good" (defArgs s__law_good) (defBody s__law_good) (defScope s__law_good) .none kV dc pm an cd ct), sl⟩)
    (c : PySem.W.codeIn K cd "_law_good" = true) (k : PySem.W.keepIn K (.ref f) = true) : ∃ fd, DefT K mg "_law_good" s__law_good ["own", "one", "words"] f fd := def_mk X G a l c k fun us hl => match us, hl with | [_, _, _], _ => rfl
theorem mk__law_large {K : PySem.W.Frag} {mg : Str → Option Value} {h : Heap} {f : Addr} {oc kV dc pm cd ct : Value} {od an : Option Addr} {sl : Array (Option Value)} (X : K.In h) (G : h.Ns mainGlobals mg)
    (a : PySem.W.nsIn K mainGlobals "_law_large" = some (some (.ref f))) (l : K.lookup f = some ⟨oc, od, .func (PySem.W.fnOf "_law_large" "_law_large" (defArgs s__law_large) (defBody s__law_large) (defScope s__law_large) .none kV dc pm an cd ct), sl⟩)
    (c : PySem.W.codeIn K cd "_law_large" = true) (k : PySem.W.keepIn K (.ref f) = true) : ∃ fd, DefT K mg "_law_large" s__law_large [] f fd := def_mk X G a l c k fun us hl => match us, hl with | [], _ => rfl
theorem mk_law {K : PySem.W.Frag} {mg : Str → Option Value} {h : Heap} {f : Addr} {oc kV dc pm cd ct : Value} {od an : Option Addr} {sl : Array (Option Value)} (X : K.In h) (G : h.Ns mainGlobals mg)
    (a : PySem.W.nsIn K mainGlobals "law" = some (some (.ref f))) (l : K.lookup f = some ⟨oc, od, .func (PySem.W.fnOf "law" "law" (defArgs s_law) (defBody s_law) (defScope s_law) .none kV dc pm an cd ct), sl⟩)
    (c : PySem.W.codeIn K cd "law" = true) (k : PySem.W.keepIn K (.ref f) = true) : ∃ fd, DefT K mg "law" s_law ["script"] f fd ∧ ∀ (s : Shared) (u : Value), BindsTo s fd ⟨[u], []⟩ [("script", u)] := def_mkL X G a l c k fun us hl => match us, hl with | [_], _ => rfl
abbrev si_Missing : Stmt := inClass (topK 5) 0
theorem sci_Missing : FnScope ["self", "name"] ["self", "name"] (defScope si_Missing) := ⟨rfl, rfl, rfl, by decide +kernel, rfl, by decide +kernel, by decide +kernel⟩
theorem mkf_Missing {P : Program} {w : World} {K : PySem.W.Frag} {mg : Str → Option Value} {h : Heap} {C fI T N : Addr} {nm q : Str} {bs bm sub : List Value} {sn : List Str} {ab : Bool} {col : Option Bool} {dd : Option Addr} {k0 k1 k2 k3 k5 : Option Value} {oc kV dc pm cd ct o1 : Value} {od an o2 : Option Addr} {sl o4 : Array (Option Value)} {m : Nat} (X : K.In h) (G : h.Ns mainGlobals mg)
    (a : PySem.W.nsIn K mainGlobals "Missing" = some (some (.ref C))) (oC : K.lookup C = some (excClassObj nm q C N bs bm true sn sub ab col dd k0 k1 k2 k3 k5 "ValueError.__new__")) (oB : PySem.HandSPX.refsVE bm = true)
    (sa : PySem.W.findIn K (.ref C) "__setattr__" = some (some (.builtin "object.__setattr__"))) (sb : PySem.W.subIn K (.ref C) (.type "BaseException") = some true) (ty : PySem.W.typeIn K (.ref C) = some (.type "type")) (kp : PySem.W.keepIn K (.ref C) = true)
    (noN : PySem.W.findIn K (.ref C) "name" = some none) (iC : PySem.W.findIn K (.ref C) "__init__" = some (some (.ref fI))) (tI : PySem.W.typeIn K (.ref fI) = some (.type "function"))
    (l : K.lookup fI = some ⟨oc, od, .func (PySem.W.fnOf "__init__" "Missing.__init__" (defArgs si_Missing) (defBody si_Missing) (defScope si_Missing) (.ref T) kV dc pm an cd ct), sl⟩) (lT : K.lookup T = some ⟨o1, o2, .seq #[.none] m, o4⟩)
    (c : PySem.W.codeIn K cd "Missing.__init__" = true) (k : PySem.W.keepIn K (.ref fI) = true) (base : Heap) : MkF P w K mg base C "Missing" "name" :=
  fld_mk (ps := ["self", "name"]) X G ⟨⟨nm, q, N, bs, bm, sn, sub, ab, col, dd, k0, k1, k2, k3, k5, oC, oB⟩, sa, sb, ty, kp⟩ noN iC tI l lT c k sci_Missing rfl (fun _ _ _ _ _ _ => pss_one (ps_ost (pv 0) (pv 1))) (fun us its hu hi => match us, its, hu, hi with | [_, _], [_], _, _ => ⟨_, rfl, rfl⟩) (PySem.W.mg_of X G a) (by decide)
theorem all_mk {P : Program} {w : World} {K : PySem.W.Frag} {mg : Str → Option Value} {h : Heap} {fa : Addr} {c0 c1 c2 c3 c4 f0 f1 f2 f3 f4 f5 f6 f7 f8 f9 f10 f11 f12 f13 f14 f15 f16 f17 f18 f19 f20 f21 f22 f23 f24 f25 f26 f27 f28 f29 f30 : Addr} {du0 du1 : Value} {dv0 dv1 : V} (X : K.In h) (G : h.Ns mainGlobals mg) (hfa : mg "law" = some (.ref fa))
    (A : topB K sg [c0, c1, c2, c3, c4] = true)
    (g0 : Gd K mg (gnm 0) (gdt 0))
    (g1 : Gd K mg (gnm 1) (gdt 1))
    (g2 : Gd K mg (gnm 2) (gdt 2))
    (g3 : Gd K mg (gnm 3) (gdt 3))
    (g4 : Gd K mg (gnm 4) (gdt 4))
    (g5 : Gd K mg (gnm 5) (gdt 5))
    (g6 : Gd K mg (gnm 6) (gdt 6))
    (g7 : Gd K mg (gnm 7) (gdt 7))
    (g8 : Gd K mg (gnm 8) (gdt 8))
    (x4 : ∀ base : Heap, MkF P w K mg base c4 "Missing" "name")
    (e0 : ∃ fd, DefT K mg "is_name" s_is_name ["value"] f0 fd)
    (e1 : ∃ fd, DefT K mg "are_names" s_are_names ["value"] f1 fd)
    (e2 : ∃ fd, DefT K mg "is_condition" s_is_condition ["value"] f2 fd)
    (e3 : ∃ fd, DefT K mg "_is_part" s__is_part ["value"] f3 fd)
    (e4 : ∃ fd, DefT K mg "check_condition" s_check_condition ["value"] f4 fd)
    (e5 : ∃ fd, DefT K mg "run" s_run ["condition", "answers"] f5 fd)
    (e6 : ∃ fd, DefT K mg "steady_run" s_steady_run ["condition", "assignment"] f6 fd)
    (e7 : ∃ fd, DefT K mg "check_answers" s_check_answers ["value"] f7 fd)
    (e8 : ∃ fd, DefD K mg "check_assignment" s_check_assignment ["value", "answers"] (dwd 0) f8 fd du0 dv0)
    (e9 : ∃ fd, DefT K mg "_is_assignment" s__is_assignment ["value", "answers"] f9 fd)
    (e10 : ∃ fd, DefT K mg "_is_answered" s__is_answered ["value", "answers"] f10 fd)
    (e11 : ∃ fd, DefT K mg "rows_of" s_rows_of ["condition"] f11 fd)
    (e12 : ∃ fd, DefT K mg "_rows" s__rows ["condition", "start", "yes", "no"] f12 fd)
    (e13 : ∃ fd, DefT K mg "_if_rows" s__if_rows ["condition", "start", "yes", "no"] f13 fd)
    (e14 : ∃ fd, DefT K mg "_size" s__size ["condition"] f14 fd)
    (e15 : ∃ fd, DefD K mg "walked" s_walked ["rows", "answers", "start"] (dwd 1) f15 fd du1 dv1)
    (e16 : ∃ fd, DefT K mg "steadily_walked" s_steadily_walked ["rows", "assignment"] f16 fd)
    (e17 : ∃ fd, DefT K mg "repeatedly_walked" s_repeatedly_walked ["rows", "assignment"] f17 fd)
    (e18 : ∃ fd, DefT K mg "_law_mixed" s__law_mixed ["cell", "k"] f18 fd)
    (e19 : ∃ fd, DefT K mg "_law_cell" s__law_cell ["script", "k"] f19 fd)
    (e20 : ∃ fd, DefT K mg "_law_take" s__law_take ["own", "options"] f20 fd)
    (e21 : ∃ fd, DefT K mg "_law_words" s__law_words ["own", "many"] f21 fd)
    (e22 : ∃ fd, DefT K mg "_law_condition" s__law_condition ["own", "words", "deep"] f22 fd)
    (e23 : ∃ fd, DefT K mg "_law_end" s__law_end ["one", "left", "asked"] f23 fd)
    (e24 : ∃ fd, DefT K mg "_law_run" s__law_run ["one", "answers"] f24 fd)
    (e25 : ∃ fd, DefT K mg "_law_steady" s__law_steady ["one", "known", "asked"] f25 fd)
    (e26 : ∃ fd, DefT K mg "_law_asked" s__law_asked ["one", "assignment"] f26 fd)
    (e27 : ∃ fd, DefT K mg "_law_steady_good" s__law_steady_good ["one", "assignment"] f27 fd)
    (e28 : ∃ fd, DefT K mg "_law_good" s__law_good ["own", "one", "words"] f28 fd)
    (e29 : ∃ fd, DefT K mg "_law_large" s__law_large [] f29 fd)
    (e30 : ∃ fd, DefT K mg "law" s_law ["script"] f30 fd ∧ ∀ (s : Shared) (u : Value), BindsTo s fd ⟨[u], []⟩ [("script", u)])
    : ∃ (fd : FuncData) (XR : XRel K), (∀ (s : Shared) (u : Value), BindsTo s fd ⟨[u], []⟩ [("script", u)]) ∧ ∀ base : Heap, K.In base → base.Ns mainGlobals mg → FnF P w mg base XR 102 fa fd ["script"] (lev Nn mm 100 30) := by
  obtain ⟨d0, t0⟩ := e0
  obtain ⟨d1, t1⟩ := e1
  obtain ⟨d2, t2⟩ := e2
  obtain ⟨d3, t3⟩ := e3
  obtain ⟨d4, t4⟩ := e4
  obtain ⟨d5, t5⟩ := e5
  obtain ⟨d6, t6⟩ := e6
  obtain ⟨d7, t7⟩ := e7
  obtain ⟨d8, t8⟩ := e8
  obtain ⟨d9, t9⟩ := e9
  obtain ⟨d10, t10⟩ := e10
  obtain ⟨d11, t11⟩ := e11
  obtain ⟨d12, t12⟩ := e12
  obtain ⟨d13, t13⟩ := e13
  obtain ⟨d14, t14⟩ := e14
  obtain ⟨d15, t15⟩ := e15
  obtain ⟨d16, t16⟩ := e16
  obtain ⟨d17, t17⟩ := e17
  obtain ⟨d18, t18⟩ := e18
  obtain ⟨d19, t19⟩ := e19
  obtain ⟨d20, t20⟩ := e20
  obtain ⟨d21, t21⟩ := e21
  obtain ⟨d22, t22⟩ := e22
  obtain ⟨d23, t23⟩ := e23
  obtain ⟨d24, t24⟩ := e24
  obtain ⟨d25, t25⟩ := e25
  obtain ⟨d26, t26⟩ := e26
  obtain ⟨d27, t27⟩ := e27
  obtain ⟨d28, t28⟩ := e28
  obtain ⟨d29, t29⟩ := e29
  obtain ⟨d30, t30, bL⟩ := e30
  have e := hfa.symm.trans t30.d.g
  cases e
  let y : Dy := ⟨fun i => [c0, c1, c2, c3, c4].getD i 0, fun i => [f0, f1, f2, f3, f4, f5, f6, f7, f8, f9, f10, f11, f12, f13, f14, f15, f16, f17, f18, f19, f20, f21, f22, f23, f24, f25, f26, f27, f28, f29, fa].getD i 0, (fun i => match i with | 0 => d0 | 1 => d1 | 2 => d2 | 3 => d3 | 4 => d4 | 5 => d5 | 6 => d6 | 7 => d7 | 8 => d8 | 9 => d9 | 10 => d10 | 11 => d11 | 12 => d12 | 13 => d13 | 14 => d14 | 15 => d15 | 16 => d16 | 17 => d17 | 18 => d18 | 19 => d19 | 20 => d20 | 21 => d21 | 22 => d22 | 23 => d23 | 24 => d24 | 25 => d25 | 26 => d26 | 27 => d27 | 28 => d28 | 29 => d29 | 30 => d30 | _ => d0 : Nat → FuncData), (fun i => match i with | 0 => du0 | 1 => du1 | _ => .none : Nat → Value), (fun i => match i with | 0 => dv0 | 1 => dv1 | _ => .non : Nat → V)⟩
  have D : ∀ i, i < 31 → Fd K mg (nms i) (pss i) [] (y.ad i) (y.fds i) := fun i hi => match i, hi with
    | 0, _ => t0.d
    | 1, _ => t1.d
    | 2, _ => t2.d
    | 3, _ => t3.d
    | 4, _ => t4.d
    | 5, _ => t5.d
    | 6, _ => t6.d
    | 7, _ => t7.d
    | 8, _ => t8.t.d
    | 9, _ => t9.d
    | 10, _ => t10.d
    | 11, _ => t11.d
    | 12, _ => t12.d
    | 13, _ => t13.d
    | 14, _ => t14.d
    | 15, _ => t15.t.d
    | 16, _ => t16.d
    | 17, _ => t17.d
    | 18, _ => t18.d
    | 19, _ => t19.d
    | 20, _ => t20.d
    | 21, _ => t21.d
    | 22, _ => t22.d
    | 23, _ => t23.d
    | 24, _ => t24.d
    | 25, _ => t25.d
    | 26, _ => t26.d
    | 27, _ => t27.d
    | 28, _ => t28.d
    | 29, _ => t29.d
    | 30, _ => t30.d
    | j + 31, hj => absurd hj (by show ¬ j + 31 < 31; omega)
  have F : ∀ i, i < 31 → FunF K (nms i) (sts i) (y.ad i) (y.fds i) := fun i hi => match i, hi with
    | 0, _ => t0.F
    | 1, _ => t1.F
    | 2, _ => t2.F
    | 3, _ => t3.F
    | 4, _ => t4.F
    | 5, _ => t5.F
    | 6, _ => t6.F
    | 7, _ => t7.F
    | 8, _ => t8.t.F
    | 9, _ => t9.F
    | 10, _ => t10.F
    | 11, _ => t11.F
    | 12, _ => t12.F
    | 13, _ => t13.F
    | 14, _ => t14.F
    | 15, _ => t15.t.F
    | 16, _ => t16.F
    | 17, _ => t17.F
    | 18, _ => t18.F
    | 19, _ => t19.F
    | 20, _ => t20.F
    | 21, _ => t21.F
    | 22, _ => t22.F
    | 23, _ => t23.F
    | 24, _ => t24.F
    | 25, _ => t25.F
    | 26, _ => t26.F
    | 27, _ => t27.F
    | 28, _ => t28.F
    | 29, _ => t29.F
    | 30, _ => t30.F
    | j + 31, hj => absurd hj (by show ¬ j + 31 < 31; omega)
  have gg : ∀ i, i < 9 → Gd K mg (gnm i) (gdt i) := fun i hi => match i, hi with
    | 0, _ => g0
    | 1, _ => g1
    | 2, _ => g2
    | 3, _ => g3
    | 4, _ => g4
    | 5, _ => g5
    | 6, _ => g6
    | 7, _ => g7
    | 8, _ => g8
    | j + 9, hj => absurd hj (by show ¬ j + 9 < 9; omega)
  have hb : ∀ i, i < 5 → (cnm i == ("__debug__" : Str)) = false := fun i hi => match i, hi with
    | 0, _ => by decide
    | 1, _ => by decide
    | 2, _ => by decide
    | 3, _ => by decide
    | 4, _ => by decide
    | j + 5, hj => absurd hj (by show ¬ j + 5 < 5; omega)
  have S : ∀ base : Heap, Top P w K mg base sg y := fun base => topB_ok A X G rfl D gg hb (fun i nm hi hf => match i, hi, hf with
    | 0, _, hf => by cases hf
    | 1, _, hf => by cases hf
    | 2, _, hf => by cases hf
    | 3, _, hf => by cases hf
    | 4, _, hf => by cases hf; exact x4 base
    | j + 5, hj, _ => absurd hj (by show ¬ j + 5 < 5; omega))
    (fun i hi => match i, hi with
    | 0, _ => t8.p
    | 1, _ => t15.p
    | j + 2, hj => absurd hj (by show ¬ j + 2 < 2; omega))
    (fun i hi => match i, hi with
    | 0, _ => t8.r
    | 1, _ => t15.r
    | j + 2, hj => absurd hj (by show ¬ j + 2 < 2; omega))
    (fun i hi => match i, hi with
    | 0, _ => t8.w
    | 1, _ => t15.w
    | j + 2, hj => absurd hj (by show ¬ j + 2 < 2; omega))
  exact ⟨_, XRof K er y.cs, bL, fun base KX GX => (tb_all (S base) (fun n c T => ok_all F n c T) 100).F 30 (by decide)⟩
theorem all_mk0 {P : Program} {w : World} {K : PySem.W.Frag} {mg : Str → Option Value} {h : Heap} {fa : Addr} {c0 c1 c2 c3 c4 f0 f1 f2 f3 f4 f5 f6 f7 f8 f9 f10 f11 f12 f13 f14 f15 f16 f17 f18 f19 f20 f21 f22 f23 f24 f25 f26 f27 f28 f29 f30 : Addr} {du0 du1 : Value} {dv0 dv1 : V} (X : K.In h) (G : h.Ns mainGlobals mg) (hfa : mg "law" = some (.ref fa))
    (n0 : PySem.W.nsIn K mainGlobals "LeftFirstError" = some (some (.ref c0)))
    (n1 : PySem.W.nsIn K mainGlobals "InvalidCondition" = some (some (.ref c1)))
    (n2 : PySem.W.nsIn K mainGlobals "InvalidAnswers" = some (some (.ref c2)))
    (n3 : PySem.W.nsIn K mainGlobals "InvalidAssignment" = some (some (.ref c3)))
    (n4 : PySem.W.nsIn K mainGlobals "Missing" = some (some (.ref c4)))
    (A : topB K sg [c0, c1, c2, c3, c4] = true)
    (g0 : Gd K mg (gnm 0) (gdt 0))
    (g1 : Gd K mg (gnm 1) (gdt 1))
    (g2 : Gd K mg (gnm 2) (gdt 2))
    (g3 : Gd K mg (gnm 3) (gdt 3))
    (g4 : Gd K mg (gnm 4) (gdt 4))
    (g5 : Gd K mg (gnm 5) (gdt 5))
    (g6 : Gd K mg (gnm 6) (gdt 6))
    (g7 : Gd K mg (gnm 7) (gdt 7))
    (g8 : Gd K mg (gnm 8) (gdt 8))
    (x4 : ∀ base : Heap, MkF P w K mg base c4 "Missing" "name")
    (e0 : ∃ fd, DefT K mg "is_name" s_is_name ["value"] f0 fd)
    (e1 : ∃ fd, DefT K mg "are_names" s_are_names ["value"] f1 fd)
    (e2 : ∃ fd, DefT K mg "is_condition" s_is_condition ["value"] f2 fd)
    (e3 : ∃ fd, DefT K mg "_is_part" s__is_part ["value"] f3 fd)
    (e4 : ∃ fd, DefT K mg "check_condition" s_check_condition ["value"] f4 fd)
    (e5 : ∃ fd, DefT K mg "run" s_run ["condition", "answers"] f5 fd)
    (e6 : ∃ fd, DefT K mg "steady_run" s_steady_run ["condition", "assignment"] f6 fd)
    (e7 : ∃ fd, DefT K mg "check_answers" s_check_answers ["value"] f7 fd)
    (e8 : ∃ fd, DefD K mg "check_assignment" s_check_assignment ["value", "answers"] (dwd 0) f8 fd du0 dv0)
    (e9 : ∃ fd, DefT K mg "_is_assignment" s__is_assignment ["value", "answers"] f9 fd)
    (e10 : ∃ fd, DefT K mg "_is_answered" s__is_answered ["value", "answers"] f10 fd)
    (e11 : ∃ fd, DefT K mg "rows_of" s_rows_of ["condition"] f11 fd)
    (e12 : ∃ fd, DefT K mg "_rows" s__rows ["condition", "start", "yes", "no"] f12 fd)
    (e13 : ∃ fd, DefT K mg "_if_rows" s__if_rows ["condition", "start", "yes", "no"] f13 fd)
    (e14 : ∃ fd, DefT K mg "_size" s__size ["condition"] f14 fd)
    (e15 : ∃ fd, DefD K mg "walked" s_walked ["rows", "answers", "start"] (dwd 1) f15 fd du1 dv1)
    (e16 : ∃ fd, DefT K mg "steadily_walked" s_steadily_walked ["rows", "assignment"] f16 fd)
    (e17 : ∃ fd, DefT K mg "repeatedly_walked" s_repeatedly_walked ["rows", "assignment"] f17 fd)
    (e18 : ∃ fd, DefT K mg "_law_mixed" s__law_mixed ["cell", "k"] f18 fd)
    (e19 : ∃ fd, DefT K mg "_law_cell" s__law_cell ["script", "k"] f19 fd)
    (e20 : ∃ fd, DefT K mg "_law_take" s__law_take ["own", "options"] f20 fd)
    (e21 : ∃ fd, DefT K mg "_law_words" s__law_words ["own", "many"] f21 fd)
    (e22 : ∃ fd, DefT K mg "_law_condition" s__law_condition ["own", "words", "deep"] f22 fd)
    (e23 : ∃ fd, DefT K mg "_law_end" s__law_end ["one", "left", "asked"] f23 fd)
    (e24 : ∃ fd, DefT K mg "_law_run" s__law_run ["one", "answers"] f24 fd)
    (e25 : ∃ fd, DefT K mg "_law_steady" s__law_steady ["one", "known", "asked"] f25 fd)
    (e26 : ∃ fd, DefT K mg "_law_asked" s__law_asked ["one", "assignment"] f26 fd)
    (e27 : ∃ fd, DefT K mg "_law_steady_good" s__law_steady_good ["one", "assignment"] f27 fd)
    (e28 : ∃ fd, DefT K mg "_law_good" s__law_good ["own", "one", "words"] f28 fd)
    (e29 : ∃ fd, DefT K mg "_law_large" s__law_large [] f29 fd)
    (e30 : ∃ fd, DefT K mg "law" s_law ["script"] f30 fd ∧ ∀ (s : Shared) (u : Value), BindsTo s fd ⟨[u], []⟩ [("script", u)])
    : ∃ (fd : FuncData) (XR : XRel K), (∀ (s : Shared) (u : Value), BindsTo s fd ⟨[u], []⟩ [("script", u)]) ∧ ∀ base : Heap, K.In base → base.Ns mainGlobals mg → FnF P w mg base XR 102 fa fd ["script"] (lev Nn mm 100 30) :=
  all_mk X G hfa A g0 g1 g2 g3 g4 g5 g6 g7 g8 x4 e0 e1 e2 e3 e4 e5 e6 e7 e8 e9 e10 e11 e12 e13 e14 e15 e16 e17 e18 e19 e20 e21 e22 e23 e24 e25 e26 e27 e28 e29 e30
end G53

set_option linter.all false
set_option maxHeartbeats 1000000
namespace G53
open FL PySem L2
@[simp] theorem s_atI : type_of% @atI.eq_1 := @atI.eq_1
@[simp] theorem s_ixN : type_of% @ixN.eq_1 := @ixN.eq_1
@[simp] theorem take_set_len (S : So) (k : Nat) (o : Ob) : (S.set k o).take S.length = S.set k o := List.take_of_length_le (by simp)
theorem take_ok (n k : Nat) (S : So) (i o : Int) (h : S[k]? = some (.l [.int i])) (o0 : 0 < o) (o1 : o < 1073741824) : lev Nn mm (n + 1) i__law_take [.r k, .d (.int o)] S = .ok (.d (.int (i % o))) (S.set k (.l [.int (i / o)])) := by
  have hk : k < S.length := (List.getElem?_eq_some_iff.mp h).1
  show fDef 3 (m__law_take (lev Nn mm n)) _ _ = _
  unfold m__law_take
  have h2 : S[k] = .l [.int i] := by
    have := List.getElem?_eq_getElem hk
    rw [h] at this
    exact (Option.some.inj this).symm
  simp [h2, o0, o1, hk]
end G53

set_option linter.all false
set_option maxHeartbeats 2000000
namespace G53
open FL PySem L2
/-! conditions as trees -/
inductive Cn where
  | t (x : Str)
  | n (c : Cn)
  | m (b : Bool) (cs : List Cn)
  | i (c x y : Cn)
mutual
def Cn.d : Cn → PyData
  | .t x => .tuple [.str "test", .str x]
  | .n c => .tuple [.str "not", c.d]
  | .m b cs => .tuple (.str (if b then "and" else "or") :: Cn.ds cs)
  | .i c x y => .tuple [.str "if", c.d, x.d, y.d]
def Cn.ds : List Cn → List PyData
  | [] => []
  | c :: cs => c.d :: Cn.ds cs
end
mutual
def Cn.sz : Cn → Nat
  | .t _ => 1
  | .n c => c.sz
  | .m _ cs => Cn.szs cs
  | .i c x y => c.sz + x.sz + y.sz
def Cn.szs : List Cn → Nat
  | [] => 0
  | c :: cs => c.sz + Cn.szs cs
end
mutual
def Cn.dp : Cn → Nat
  | .t _ => 1
  | .n c => c.dp + 1
  | .m _ cs => Cn.dps cs + 1
  | .i c x y => max c.dp (max x.dp y.dp) + 1
def Cn.dps : List Cn → Nat
  | [] => 0
  | c :: cs => max c.dp (Cn.dps cs)
end
/-- the members behind the kind -/
def Cn.sub : Cn → List Cn
  | .t _ => []
  | .n c => [c]
  | .m _ cs => cs
  | .i c x y => [c, x, y]

/-- a comprehension whose step is known and leaves the store -/
theorem lcL_map {α : Type} {g : FG} {te : FE} {ev0 : Ev} {S : So} {dt : α → PyData} {f : α → PyData} : ∀ (xs : List α) (acc : List PyData), (∀ x, x ∈ xs → ∃ e1, g (.d (dt x)) ev0 = some e1 ∧ te e1 S = .ok (.d (f x)) S) → acc.length + xs.length ≤ sizeLine →
    lcL g fYes te ev0 (xs.map dt) S acc = .ok (acc ++ xs.map f) S
  | [], acc, _, _ => by simp
  | x :: xs, acc, h, hl => by
    obtain ⟨e1, h1, h2⟩ := h x List.mem_cons_self
    rw [List.length_cons] at hl
    rw [List.map_cons]
    unfold lcL
    rw [h1]
    dsimp only
    rw [h2]
    dsimp only
    rw [if_pos ⟨rfl, by omega⟩, lcL_map xs (acc ++ [f x]) (fun y hy => h y (List.mem_cons_of_mem _ hy)) (by rw [List.length_append, List.length_singleton]; omega), List.map_cons, List.append_assoc]
    rfl
theorem ds_map : ∀ cs : List Cn, Cn.ds cs = cs.map Cn.d
  | [] => rfl
  | c :: cs => by rw [Cn.ds, List.map_cons, ds_map cs]
theorem szs_sum : ∀ cs : List Cn, ((cs.map fun c => (c.sz : Int)).sum) = (Cn.szs cs : Nat)
  | [] => rfl
  | c :: cs => by
    rw [List.map_cons, List.sum_cons, szs_sum cs, Cn.szs]
    omega
theorem ints_map : ∀ ns : List Int, intsP (ns.map PyData.int) = some ns
  | [] => rfl
  | n :: ns => by
    rw [List.map_cons]
    unfold intsP
    rw [ints_map ns]
    rfl
/-! single steps -/
@[simp] theorem cEq_ss (a b : Str) (S : So) : cEq (.d (.str a)) (.d (.str b)) S = .ok (.d (.bool (PyData.eqv (.str a) (.str b)))) S := by
  unfold cEq oEq
  simp [toP, PyData.plain, PyData.depth]
@[simp] theorem ix_tup (x : PyData) (xs : List PyData) (S : So) : oIx (.d (.tuple (x :: xs))) (.d (.int 0)) S = .ok (.d x) S := by
  simp
@[simp] theorem sl_1 (x : PyData) (xs : List PyData) (S : So) : oSl (.d (.tuple (x :: xs))) (some 1) none S = .ok (.d (.tuple xs)) S := by
  unfold oSl
  simp [HT.sIx, cutP]
mutual
/-- the members' numbers as they must be -/
def Cn.few : Cn → Prop
  | .t _ => True
  | .n c => c.few
  | .m _ cs => 2 ≤ cs.length ∧ cs.length ≤ 60 ∧ Cn.fews cs
  | .i c x y => c.few ∧ x.few ∧ y.few
def Cn.fews : List Cn → Prop
  | [] => True
  | c :: cs => c.few ∧ Cn.fews cs
end
theorem fews_mem : ∀ {cs : List Cn} {c : Cn}, Cn.fews cs → c ∈ cs → c.few
  | d :: ds, c, h, m => by
    unfold Cn.fews at h
    rcases List.mem_cons.mp m with e | m
    · rw [e]
      exact h.1
    · exact fews_mem h.2 m
theorem dps_mem : ∀ {cs : List Cn} {c : Cn}, c ∈ cs → c.dp ≤ Cn.dps cs
  | d :: ds, c, m => by
    unfold Cn.dps
    rcases List.mem_cons.mp m with e | m
    · rw [e]
      omega
    · have := dps_mem m
      omega
theorem sz_pos : ∀ c : Cn, c.few → 0 < c.sz
  | .t _, _ => by unfold Cn.sz; omega
  | .n c, h => by
    unfold Cn.few at h
    unfold Cn.sz
    exact sz_pos c h
  | .m _ (c :: _), h => by
    unfold Cn.few at h
    obtain ⟨_, _, h⟩ := h
    unfold Cn.fews at h
    have := sz_pos c h.1
    unfold Cn.sz Cn.szs
    omega
  | .m _ [], h => by
    unfold Cn.few at h
    simp at h
  | .i c x y, h => by
    unfold Cn.few at h
    have := sz_pos c h.1
    unfold Cn.sz
    omega
/-- what stands behind the kind -/
theorem size_go (n : Nat) (S : So) (k : Str) (cs : List Cn) (hk : PyData.eqv (.str k) (.str "test") = false) (hl : cs.length ≤ 60) (ih : ∀ c, c ∈ cs → lev Nn mm n i__size [.d c.d] S = .ok (.d (.int c.sz)) S) :
    lev Nn mm (n + 1) i__size [.d (.tuple (.str k :: cs.map Cn.d))] S = .ok (.d (.int (Cn.szs cs : Nat))) S := by
  show fDef 2 (m__size (lev Nn mm n)) _ _ = _
  unfold m__size
  have hm := lcL_map (g := gNm 1) (te := fCall 1 (lev Nn mm n i__size) [] (fCons (fV 1) fNil)) (ev0 := [some (.d (.tuple (.str k :: cs.map Cn.d))), none]) (S := S) (dt := Cn.d) (f := fun c => .int c.sz) cs []
    (fun c hc => ⟨_, rfl, by simp [ih c hc]⟩) (by rw [sizeLine_eq]; simp; omega)
  have hi : intsP (cs.map fun c => PyData.int c.sz) = some (cs.map fun c => (c.sz : Int)) := by
    have := ints_map (cs.map fun c => (c.sz : Int))
    rw [List.map_map] at this
    exact this
  simp at hm
  simp [-gNm, -lcL, -oIx, -oSl, hk, hm, hi, szs_sum, asB]
theorem eqv_str (a b : Str) : PyData.eqv (.str a) (.str b) = decide (a = b) := by
  have e : PyData.eqv (.str a) (.str b) = (a == b) := by simp [PyData.eqv]
  rw [e, Bool.eq_iff_iff, beq_iff_eq, decide_eq_true_eq]
theorem size_ok : ∀ (n : Nat) (c : Cn) (S : So), c.few → c.dp ≤ n → lev Nn mm n i__size [.d c.d] S = .ok (.d (.int c.sz)) S
  | 0, c, S, _, h => by
    cases c <;> simp [Cn.dp] at h
  | n + 1, c, S, f, h => by
    have e2 : c.d = .tuple [.str "test", .str "x"] → True := fun _ => trivial
    cases c with
    | t x =>
      have e1 : (Cn.t x).d = .tuple [.str "test", .str x] := by rw [Cn.d]
      have e3 : (Cn.t x).sz = 1 := by rw [Cn.sz]
      rw [e1, e3]
      show fDef 2 (m__size (lev Nn mm n)) [.d (.tuple [.str "test", .str x])] S = _
      unfold m__size
      simp [asB, eqv_str, -oIx]
    | n c =>
      unfold Cn.few at f
      unfold Cn.dp at h
      have := size_go n S "not" [c] (by rw [eqv_str]; decide) (by simp) (fun d hd => by rw [List.mem_singleton.mp hd]; exact size_ok n c S f (by omega))
      simpa [Cn.d, Cn.sz, Cn.szs] using this
    | m b cs =>
      unfold Cn.few at f
      unfold Cn.dp at h
      have := size_go n S (if b then "and" else "or") cs (by rw [eqv_str]; cases b <;> decide) f.2.1 (fun d hd => size_ok n d S (fews_mem f.2.2 hd) (by have := dps_mem hd; omega))
      simpa [Cn.d, Cn.sz, ds_map] using this
    | i c x y =>
      unfold Cn.few at f
      unfold Cn.dp at h
      have := size_go n S "if" [c, x, y] (by rw [eqv_str]; decide) (by simp) (fun d hd => by
        simp only [List.mem_cons, List.not_mem_nil, or_false] at hd
        rcases hd with e | e | e <;> rw [e]
        · exact size_ok n c S f.1 (by omega)
        · exact size_ok n x S f.2.1 (by omega)
        · exact size_ok n y S f.2.2 (by omega))
      simpa [Cn.d, Cn.sz, Cn.szs, Nat.add_assoc] using this
end G53

set_option linter.all false
set_option maxHeartbeats 4000000
namespace G53
open FL PySem L2
/-! rows -/
mutual
def Cn.rw : Cn → Int → PyData → PyData → List PyData
  | .t x, _, y, g => [.tuple [.str x, y, g]]
  | .n c, s, y, g => c.rw s g y
  | .m b cs, s, y, g => Cn.rws b cs s y g
  | .i c x z, s, y, g => c.rw s (.int (s + c.sz)) (.int (s + c.sz + x.sz)) ++ (x.rw (s + c.sz) y g ++ z.rw (s + c.sz + x.sz) y g)
def Cn.rws (b : Bool) : List Cn → Int → PyData → PyData → List PyData
  | [], _, _, _ => []
  | [c], s, y, g => c.rw s y g
  | c :: d :: r, s, y, g => (if b then c.rw s (.int (s + c.sz)) g else c.rw s y (.int (s + c.sz))) ++ Cn.rws b (d :: r) (s + c.sz) y g
end
mutual
theorem rw_len : ∀ (c : Cn) (s : Int) (y g : PyData), (c.rw s y g).length = c.sz
  | .t x, s, y, g => by rw [Cn.rw, Cn.sz]; rfl
  | .n c, s, y, g => by rw [Cn.rw, Cn.sz, rw_len c]
  | .m b cs, s, y, g => by rw [Cn.rw, Cn.sz, rws_len b cs]
  | .i c x z, s, y, g => by rw [Cn.rw, Cn.sz, List.length_append, List.length_append, rw_len c, rw_len x, rw_len z, Nat.add_assoc]
theorem rws_len (b : Bool) : ∀ (cs : List Cn) (s : Int) (y g : PyData), (Cn.rws b cs s y g).length = Cn.szs cs
  | [], s, y, g => by rw [Cn.rws, Cn.szs]; rfl
  | [c], s, y, g => by rw [Cn.rws, Cn.szs, Cn.szs, rw_len c, Nat.add_zero]
  | c :: d :: r, s, y, g => by
    rw [Cn.rws, Cn.szs, List.length_append, rws_len b (d :: r)]
    cases b
    · simp [rw_len c]
    · simp [rw_len c]
end
/-- the rows of the members but the last -/
def preRows (b : Bool) : List Cn → Int → PyData → PyData → List PyData
  | [], _, _, _ => []
  | c :: r, s, y, g => (if b then c.rw s (.int (s + c.sz)) g else c.rw s y (.int (s + c.sz))) ++ preRows b r (s + c.sz) y g
theorem rws_split (b : Bool) : ∀ (cs : List Cn) (e : Cn) (s : Int) (y g : PyData), Cn.rws b (cs ++ [e]) s y g = preRows b cs s y g ++ e.rw (s + Cn.szs cs) y g
  | [], e, s, y, g => by
    rw [List.nil_append, Cn.rws, preRows, Cn.szs]
    simp
  | [c], e, s, y, g => by
    have := rws_split b [] e (s + c.sz) y g
    rw [List.nil_append] at this
    rw [List.singleton_append, Cn.rws, this, preRows, Cn.szs, Cn.szs]
    simp [preRows, Cn.szs]
  | c :: d :: r, e, s, y, g => by
    have h := rws_split b (d :: r) e (s + c.sz) y g
    have e1 : Cn.szs (c :: d :: r) = c.sz + Cn.szs (d :: r) := by rw [Cn.szs]
    have e2 : s + ((Cn.szs (c :: d :: r) : Nat) : Int) = s + (c.sz : Nat) + (Cn.szs (d :: r) : Nat) := by
      rw [e1]
      omega
    have e3 : preRows b (c :: d :: r) s y g = (if b then c.rw s (.int (s + c.sz)) g else c.rw s y (.int (s + c.sz))) ++ preRows b (d :: r) (s + c.sz) y g := by rw [preRows]
    have e4 : Cn.rws b (c :: (d :: (r ++ [e]))) s y g = (if b then c.rw s (.int (s + c.sz)) g else c.rw s y (.int (s + c.sz))) ++ Cn.rws b (d :: (r ++ [e])) (s + c.sz) y g := by rw [Cn.rws]
    rw [List.cons_append, List.cons_append, e4, e2, e3, List.append_assoc]
    exact congrArg _ h
theorem pre_len (b : Bool) : ∀ (cs : List Cn) (s : Int) (y g : PyData), (preRows b cs s y g).length = Cn.szs cs
  | [], _, _, _ => by rw [preRows, Cn.szs]; rfl
  | c :: r, s, y, g => by
    rw [preRows, Cn.szs, List.length_append, pre_len b r]
    cases b <;> simp [rw_len c]
end G53

set_option linter.all false
set_option maxHeartbeats 4000000
namespace G53
open FL PySem L2
theorem seq_nx {f g : FS} {ev e1 : Ev} {S S1 : So} (h : f ev S = .nx e1 S1) : fSeq f g ev S = g e1 S1 := by
  unfold fSeq
  rw [h]
  rfl
theorem seq_rt {f g : FS} {ev : Ev} {S S1 : So} {w : W} (h : f ev S = .rt w S1) : fSeq f g ev S = .rt w S1 := by
  unfold fSeq
  rw [h]
  rfl
def rowsBody (c : Cs) : FS := (fSeq (fSet 7 (f2 oAdd (fV 1) (fB1 oLen (fCons (fV 5) fNil))))
      (fSeq (fSet 8 (f2 oAdd (fV 7) (fCall 1 (c i__size) [] (fCons (fV 6) fNil))))
      (fIfS (fB (f2 cEq (fV 4) (fC (.str "and"))))
        (fDrop (fM oExtend (fV 5) (fCons (fCall 4 (c i__rows) [] (fCons (fV 6) (fCons (fV 7) (fCons (fV 8) (fCons (fV 3) fNil))))) fNil)))
        (fDrop (fM oExtend (fV 5) (fCons (fCall 4 (c i__rows) [] (fCons (fV 6) (fCons (fV 7) (fCons (fV 2) (fCons (fV 8) fNil))))) fNil))))))
@[simp] theorem add_ii (i j : Int) (S : So) : oAdd (.d (.int i)) (.d (.int j)) S = .ok (.d (.int (i + j))) S := by
  simp [oAdd]
theorem len_r (S : So) (xs : List PyData) (k : Nat) (h : S[k]? = some (.l xs)) : lenW (.r k) S = .ok (.d (.int xs.length)) S := by
  simp [lenW, seqW, h]
theorem rows_loop (n : Nat) (b : Bool) (st : Int) (y g : PyData) (kind : Str) (hk : PyData.eqv (.str kind) (.str "and") = b) (cd : Option W) (S : So) : ∀ (cs : List Cn) (acc : List PyData) (v6 v7 v8 : Option W),
    (∀ c, c ∈ cs → ∀ T, lev Nn mm n i__size [.d c.d] T = .ok (.d (.int c.sz)) T) → (∀ c, c ∈ cs → ∀ T s y g, lev Nn mm n i__rows [.d c.d, .d (.int s), .d y, .d g] T = .ok (.d (.list (c.rw s y g))) T) → acc.length + Cn.szs cs ≤ 1000 →
    ∃ w6 w7 w8, forL (gNm 6) (rowsBody (lev Nn mm n)) (cs.map Cn.d) [cd, some (.d (.int st)), some (.d y), some (.d g), some (.d (.str kind)), some (.r S.length), v6, v7, v8] (S ++ [.l acc]) =
      .nx [cd, some (.d (.int st)), some (.d y), some (.d g), some (.d (.str kind)), some (.r S.length), w6, w7, w8] (S ++ [.l (acc ++ preRows b cs (st + acc.length) y g)])
  | [], acc, v6, v7, v8, _, _, _ => ⟨v6, v7, v8, by rw [preRows, List.append_nil]; rfl⟩
  | c :: cs, acc, v6, v7, v8, h13, h11, hl => by
    rw [Cn.szs] at hl
    have hS : (S ++ [Ob.l acc])[S.length]? = some (.l acc) := by simp
    have e13 := h13 c List.mem_cons_self
    have e11 := h11 c List.mem_cons_self
    obtain ⟨w6, w7, w8, ih⟩ := rows_loop n b st y g kind hk cd S cs (acc ++ (if b then c.rw (st + acc.length) (.int (st + acc.length + c.sz)) g else c.rw (st + acc.length) y (.int (st + acc.length + c.sz)))) (some (.d c.d)) (some (.d (.int (st + acc.length)))) (some (.d (.int (st + acc.length + c.sz))))
      (fun d hd => h13 d (List.mem_cons_of_mem _ hd)) (fun d hd => h11 d (List.mem_cons_of_mem _ hd)) (by cases b <;> simp [rw_len c] <;> omega)
    refine ⟨w6, w7, w8, ?_⟩
    have e1 : rowsBody (lev Nn mm n) [cd, some (.d (.int st)), some (.d y), some (.d g), some (.d (.str kind)), some (.r S.length), some (.d c.d), v7, v8] (S ++ [.l acc]) =
        .nx [cd, some (.d (.int st)), some (.d y), some (.d g), some (.d (.str kind)), some (.r S.length), some (.d c.d), some (.d (.int (st + acc.length))), some (.d (.int (st + acc.length + c.sz)))]
          (S ++ [.l (acc ++ (if b then c.rw (st + acc.length) (.int (st + acc.length + c.sz)) g else c.rw (st + acc.length) y (.int (st + acc.length + c.sz))))]) := by
      unfold rowsBody
      have hll := len_r _ _ _ hS
      cases b
      · simp [oLen, hll, e13, e11, hk, asB, fM, oExtend, rw_len c, sizeLine_eq]
        rw [if_pos (by omega)]
      · simp [oLen, hll, e13, e11, hk, asB, fM, oExtend, rw_len c, sizeLine_eq]
        rw [if_pos (by omega)]
    rw [List.map_cons]
    unfold forL
    show (match rowsBody (lev Nn mm n) [cd, some (.d (.int st)), some (.d y), some (.d g), some (.d (.str kind)), some (.r S.length), some (.d c.d), v7, v8] (S ++ [.l acc]) with
      | .nx e2 S2 => forL (gNm 6) (rowsBody (lev Nn mm n)) (cs.map Cn.d) e2 S2
      | .ct e2 S2 => forL (gNm 6) (rowsBody (lev Nn mm n)) (cs.map Cn.d) e2 S2
      | .bk e2 S2 => .nx e2 S2
      | r => r) = _
    rw [e1]
    dsimp only
    rw [ih, preRows, List.append_assoc]
    have e2 : (((acc ++ (if b then c.rw (st + acc.length) (.int (st + acc.length + c.sz)) g else c.rw (st + acc.length) y (.int (st + acc.length + c.sz)))).length : Nat) : Int) = acc.length + c.sz := by
      cases b <;> simp [rw_len c]
    rw [e2, Int.add_assoc]
end G53

set_option linter.all false
set_option maxHeartbeats 4000000
namespace G53
open FL PySem L2
@[simp] theorem allD_map : ∀ ds : List PyData, allD (ds.map W.d) = some ds
  | [] => rfl
  | d :: ds => by
    rw [List.map_cons]
    unfold allD
    rw [allD_map ds]
    rfl
theorem ifrows_ok (n : Nat) (c x z : Cn) (T : So) (s : Int) (y g : PyData) (hc : c.sz + x.sz + z.sz ≤ 1000) (h13 : ∀ d, d ∈ [c, x, z] → ∀ T, lev Nn mm n i__size [.d d.d] T = .ok (.d (.int d.sz)) T)
    (h11 : ∀ d, d ∈ [c, x, z] → ∀ T s y g, lev Nn mm n i__rows [.d d.d, .d (.int s), .d y, .d g] T = .ok (.d (.list (d.rw s y g))) T) :
    lev Nn mm (n + 1) i__if_rows [.d (Cn.i c x z).d, .d (.int s), .d y, .d g] T = .ok (.d (.list ((Cn.i c x z).rw s y g))) T := by
  have e1 : (Cn.i c x z).d = .tuple [.str "if", c.d, x.d, z.d] := by rw [Cn.d]
  have c13 := h13 c (by simp)
  have x13 := h13 x (by simp)
  have c11 := h11 c (by simp)
  have x11 := h11 x (by simp)
  have z11 := h11 z (by simp)
  rw [e1, Cn.rw]
  show fDef 10 (m__if_rows (lev Nn mm n)) [.d (.tuple [.str "if", c.d, x.d, z.d]), .d (.int s), .d y, .d g] T = _
  unfold m__if_rows
  simp [fAsg, gTp, gCs, gNo, c13, x13, c11, x11, z11, fLst, fStar, seqW, rw_len, sizeLine_eq]
  rw [← List.map_append, ← List.map_append, allD_map]
  dsimp only
  rw [if_pos (by simp [rw_len]; omega)]
  simp
theorem rows_t (n : Nat) (x : Str) (T : So) (s : Int) (y g : PyData) : lev Nn mm (n + 1) i__rows [.d (Cn.t x).d, .d (.int s), .d y, .d g] T = .ok (.d (.list ((Cn.t x).rw s y g))) T := by
  have e1 : (Cn.t x).d = .tuple [.str "test", .str x] := by rw [Cn.d]
  rw [e1, Cn.rw]
  show fDef 9 (m__rows (lev Nn mm n)) [.d (.tuple [.str "test", .str x]), .d (.int s), .d y, .d g] T = _
  unfold m__rows
  simp [asB, eqv_str, fLst, fTup, allD, sizeLine_eq]
theorem rows_n (n : Nat) (c : Cn) (T : So) (s : Int) (y g : PyData) (h11 : ∀ T s y g, lev Nn mm n i__rows [.d c.d, .d (.int s), .d y, .d g] T = .ok (.d (.list (c.rw s y g))) T) :
    lev Nn mm (n + 1) i__rows [.d (Cn.n c).d, .d (.int s), .d y, .d g] T = .ok (.d (.list ((Cn.n c).rw s y g))) T := by
  have e1 : (Cn.n c).d = .tuple [.str "not", c.d] := by rw [Cn.d]
  rw [e1, Cn.rw]
  show fDef 9 (m__rows (lev Nn mm n)) [.d (.tuple [.str "not", c.d]), .d (.int s), .d y, .d g] T = _
  unfold m__rows
  have k1 : ("not" : Str) ≠ "test" := by decide
  simp [asB, eqv_str, fLst, fTup, allD, sizeLine_eq, h11, k1]
theorem rows_i (n : Nat) (c x z : Cn) (T : So) (s : Int) (y g : PyData) (h12 : lev Nn mm n i__if_rows [.d (Cn.i c x z).d, .d (.int s), .d y, .d g] T = .ok (.d (.list ((Cn.i c x z).rw s y g))) T) :
    lev Nn mm (n + 1) i__rows [.d (Cn.i c x z).d, .d (.int s), .d y, .d g] T = .ok (.d (.list ((Cn.i c x z).rw s y g))) T := by
  have e1 : (Cn.i c x z).d = .tuple [.str "if", c.d, x.d, z.d] := by rw [Cn.d]
  rw [e1] at h12 ⊢
  show fDef 9 (m__rows (lev Nn mm n)) [.d (.tuple [.str "if", c.d, x.d, z.d]), .d (.int s), .d y, .d g] T = _
  unfold m__rows
  have k1 : ("if" : Str) ≠ "test" := by decide
  have k2 : ("if" : Str) ≠ "not" := by decide
  simp [asB, eqv_str, fLst, fTup, allD, sizeLine_eq, h12, k1, k2]
theorem cut_mid (k : PyData) (cs : List Cn) (e : Cn) (S : So) : oSl (.d (.tuple (k :: (cs ++ [e]).map Cn.d))) (some 1) (some (-1)) S = .ok (.d (.tuple (cs.map Cn.d))) S := by
  have h : cutP (k :: (cs ++ [e]).map Cn.d) (some 1) (some (-1)) = cs.map Cn.d := by
    unfold cutP
    have e1 : HT.sIx (k :: (cs ++ [e]).map Cn.d).length 0 (some 1) = 1 := by simp [HT.sIx]
    have e2 : HT.sIx (k :: (cs ++ [e]).map Cn.d).length (k :: (cs ++ [e]).map Cn.d).length (some (-1)) = cs.length + 1 := by simp [HT.sIx]; omega
    rw [e1, e2]
    simp
  unfold oSl
  simp only [asT]
  rw [h]
  rw [if_neg (fun c => by
    have := c.1
    simp [HT.sIx] at this)]
theorem ix_last (k : PyData) (cs : List Cn) (e : Cn) (S : So) : oIx (.d (.tuple (k :: (cs ++ [e]).map Cn.d))) (.d (.int (-1))) S = .ok (.d e.d) S := by
  have e1 : atI (k :: (cs ++ [e]).map Cn.d) (-1) = some e.d := by
    unfold atI ixN
    rw [if_neg (by decide), if_pos (by simp; omega)]
    have e2 : ((-1 : Int) + ((k :: (cs ++ [e]).map Cn.d).length : Nat)).toNat = cs.length + 1 := by simp; omega
    simp only [Option.bind_some, e2]
    simp
  unfold oIx oOr oIxT
  simp only [asT, asI, e1]
end G53

set_option linter.all false
set_option maxHeartbeats 4000000
namespace G53
open FL PySem L2
theorem rows_m (n : Nat) (b : Bool) (cs : List Cn) (e : Cn) (T : So) (s : Int) (y g : PyData) (hz : Cn.szs (cs ++ [e]) ≤ 1000) (h13 : ∀ c, c ∈ cs → ∀ T, lev Nn mm n i__size [.d c.d] T = .ok (.d (.int c.sz)) T)
    (h11 : ∀ c, c ∈ cs ++ [e] → ∀ T s y g, lev Nn mm n i__rows [.d c.d, .d (.int s), .d y, .d g] T = .ok (.d (.list (c.rw s y g))) T) :
    lev Nn mm (n + 1) i__rows [.d (.tuple (.str (if b then "and" else "or") :: (cs ++ [e]).map Cn.d)), .d (.int s), .d y, .d g] T = .ok (.d (.list (Cn.rws b (cs ++ [e]) s y g))) T := by
  have k1 : (if b then ("and" : Str) else "or") ≠ "test" := by cases b <;> decide
  have k2 : (if b then ("and" : Str) else "or") ≠ "not" := by cases b <;> decide
  have k3 : (if b then ("and" : Str) else "or") ≠ "if" := by cases b <;> decide
  have k4 : PyData.eqv (.str (if b then ("and" : Str) else "or")) (.str "and") = b := by rw [eqv_str]; cases b <;> decide
  have zs : ∀ l : List Cn, Cn.szs (l ++ [e]) = Cn.szs l + e.sz := fun l => by
    induction l with
    | nil => rw [List.nil_append, Cn.szs, Cn.szs, Cn.szs]; omega
    | cons a l ih => rw [List.cons_append, Cn.szs, ih, Cn.szs]; omega
  have hz2 := zs cs
  generalize hk : (if b then ("and" : Str) else "or") = kind at k1 k2 k3 k4 ⊢
  obtain ⟨w6, w7, w8, hl⟩ := rows_loop n b s y g kind k4 (some (.d (.tuple (.str kind :: (cs ++ [e]).map Cn.d)))) T cs [] none none none h13 (fun c hc => h11 c (List.mem_append_left _ hc)) (by simp; omega)
  have e11 := h11 e (by simp)
  generalize hcd : (PyData.tuple (.str kind :: (cs ++ [e]).map Cn.d)) = cd at hl
  have hb : m__rows (lev Nn mm n) [some (.d cd), some (.d (.int s)), some (.d y), some (.d g), none, none, none, none, none] T =
      .rt (.d (.list (Cn.rws b (cs ++ [e]) s y g))) (T ++ [.l (preRows b cs s y g)]) := by
    unfold m__rows
    have i0 : ∀ S, oIx (.d cd) (.d (.int 0)) S = .ok (.d (.str kind)) S := fun S => by rw [← hcd, List.map_append]; exact ix_tup _ _ _
    rw [seq_nx (e1 := [some (.d cd), some (.d (.int s)), some (.d y), some (.d g), some (.d (.str kind)), none, none, none, none]) (S1 := T) (by simp [i0, -oIx])]
    rw [seq_nx (e1 := [some (.d cd), some (.d (.int s)), some (.d y), some (.d g), some (.d (.str kind)), none, none, none, none]) (S1 := T) (by simp [asB, eqv_str, k1])]
    rw [seq_nx (e1 := [some (.d cd), some (.d (.int s)), some (.d y), some (.d g), some (.d (.str kind)), none, none, none, none]) (S1 := T) (by simp [asB, eqv_str, k2])]
    rw [seq_nx (e1 := [some (.d cd), some (.d (.int s)), some (.d y), some (.d g), some (.d (.str kind)), none, none, none, none]) (S1 := T) (by simp [asB, eqv_str, k3])]
    rw [seq_nx (e1 := [some (.d cd), some (.d (.int s)), some (.d y), some (.d g), some (.d (.str kind)), some (.r T.length), none, none, none]) (S1 := T ++ [.l []]) (by simp [fMut, allD, sizeLine_eq])]
    have hf : fFor (fItems (fSl (fV 0) (fP (fC (.int 1))) (fP (f1 oNeg (fC (.int 1)))))) (gNm 6) (rowsBody (lev Nn mm n)) [some (.d cd), some (.d (.int s)), some (.d y), some (.d g), some (.d (.str kind)), some (.r T.length), none, none, none] (T ++ [.l []]) =
        .nx [some (.d cd), some (.d (.int s)), some (.d y), some (.d g), some (.d (.str kind)), some (.r T.length), w6, w7, w8] (T ++ [.l (preRows b cs s y g)]) := by
      have hs : ∀ S, oSl (.d cd) (some 1) (some (-1)) S = .ok (.d (.tuple (cs.map Cn.d))) S := fun S => by rw [← hcd]; exact cut_mid _ _ _ _
      have hi : fItems (fSl (fV 0) (fP (fC (.int 1))) (fP (f1 oNeg (fC (.int 1))))) [some (.d cd), some (.d (.int s)), some (.d y), some (.d g), some (.d (.str kind)), some (.r T.length), none, none, none] (T ++ [.l []]) = .ok (cs.map Cn.d) (T ++ [.l []]) := by
        simp [hs, oNeg, -oSl]
      unfold fFor
      rw [hi]
      dsimp only
      rw [hl]
      simp
    unfold rowsBody at hf
    rw [seq_nx hf]
    have il : ∀ S, oIx (.d cd) (.d (.int (-1))) S = .ok (.d e.d) S := fun S => by rw [← hcd]; exact ix_last _ _ _ _
    have hS : (T ++ [Ob.l (preRows b cs s y g)])[T.length]? = some (.l (preRows b cs s y g)) := by simp
    have hll := len_r _ _ _ hS
    have ps := pre_len b cs s y g
    simp [fLst, fStar, seqW, il, oNeg, oLen, hll, e11, ps, -oIx]
    rw [← List.map_append, allD_map]
    dsimp only
    rw [if_pos (by rw [sizeLine_eq, List.length_append, ps, rw_len]; omega)]
    simp [rws_split]
  show (match m__rows (lev Nn mm n) [some (.d cd), some (.d (.int s)), some (.d y), some (.d g), none, none, none, none, none] T with
    | .rt w S' => fin T.length w S'
    | .nx _ S' => fin T.length (.d .none) S'
    | .ex c f _ S' => .ex c f (S'.take T.length)
    | _ => .no) = _
  rw [hb]
  simp
/-- _rows, all conditions -/
theorem rows_ok : ∀ (n : Nat) (c : Cn) (T : So) (s : Int) (y g : PyData), c.few → 2 * c.dp ≤ n → c.sz ≤ 1000 → lev Nn mm n i__rows [.d c.d, .d (.int s), .d y, .d g] T = .ok (.d (.list (c.rw s y g))) T
  | 0, c, T, s, y, g, _, h, _ => by
    cases c <;> simp [Cn.dp] at h
  | n + 1, .t x, T, s, y, g, _, _, _ => rows_t n x T s y g
  | n + 1, .n c, T, s, y, g, f, h, z => by
    unfold Cn.few at f
    unfold Cn.dp at h
    unfold Cn.sz at z
    exact rows_n n c T s y g fun T s y g => rows_ok n c T s y g f (by omega) z
  | 1, .i c x z, T, s, y, g, _, h, _ => by
    unfold Cn.dp at h
    omega
  | n + 2, .i c x z, T, s, y, g, f, h, hz => by
    unfold Cn.few at f
    unfold Cn.dp at h
    unfold Cn.sz at hz
    have mem : ∀ {P : Cn → Prop}, P c → P x → P z → ∀ d, d ∈ [c, x, z] → P d := fun a b e d hd => by
      simp only [List.mem_cons, List.not_mem_nil, or_false] at hd
      rcases hd with q | q | q <;> rw [q] <;> assumption
    refine rows_i (n + 1) c x z T s y g (ifrows_ok n c x z T s y g hz ?_ ?_)
    · exact mem (fun T => size_ok n c T f.1 (by omega)) (fun T => size_ok n x T f.2.1 (by omega)) (fun T => size_ok n z T f.2.2 (by omega))
    · exact mem (fun T s y g => rows_ok n c T s y g f.1 (by omega) (by omega)) (fun T s y g => rows_ok n x T s y g f.2.1 (by omega) (by omega)) (fun T s y g => rows_ok n z T s y g f.2.2 (by omega) (by omega))
  | n + 1, .m b cs, T, s, y, g, f, h, hz => by
    unfold Cn.few at f
    unfold Cn.dp at h
    unfold Cn.sz at hz
    have e1 : (Cn.m b cs).d = .tuple (.str (if b then "and" else "or") :: cs.map Cn.d) := by rw [Cn.d, ds_map]
    rw [e1, Cn.rw]
    have hne : cs ≠ [] := fun e => by rw [e] at f; simp at f
    have hsp : cs = cs.dropLast ++ [cs.getLast hne] := (List.dropLast_concat_getLast hne).symm
    have szm : ∀ {l : List Cn} {c : Cn}, c ∈ l → c.sz ≤ Cn.szs l := fun {l} => by
      induction l with
      | nil => intro c hc; cases hc
      | cons a l ih =>
        intro c hc
        rw [Cn.szs]
        rcases List.mem_cons.mp hc with q | q
        · rw [q]; omega
        · have := ih q; omega
    have k11 : ∀ c, c ∈ cs → ∀ T s y g, lev Nn mm n i__rows [.d c.d, .d (.int s), .d y, .d g] T = .ok (.d (.list (c.rw s y g))) T := fun c hc T s y g => rows_ok n c T s y g (fews_mem f.2.2 hc) (by have := dps_mem hc; omega) (by have := szm hc; omega)
    have k13 : ∀ c, c ∈ cs → ∀ T, lev Nn mm n i__size [.d c.d] T = .ok (.d (.int c.sz)) T := fun c hc T => size_ok n c T (fews_mem f.2.2 hc) (by have := dps_mem hc; omega)
    rw [hsp]
    exact rows_m n b cs.dropLast _ T s y g (by rw [← hsp]; exact hz) (fun c hc => k13 c (List.dropLast_subset cs hc)) (fun c hc => k11 c (by rw [hsp]; exact hc))
end G53

set_option linter.all false
set_option maxHeartbeats 4000000
namespace G53
open FL PySem L2
variable {z0 : Option W}
/-! walked -/
def walkBody : FS := (fSeq (fAsg (gTp 3 (gCs (gNm 5) (gCs (gNm 6) (gCs (gNm 7) gNo)))) (f2 oIx (fV 0) (fV 4))) 
      (fSeq (fDrop (fM oAppend (fV 3) (fCons (fV 5) fNil))) 
      (fSeq (fIfS (fB (f2 cGt (fB1 oLen (fCons (fV 3) fNil)) (fB1 oLen (fCons (fV 1) fNil)))) 
        (fRet (fTup (fCons (fB1 (FL.o1 tupW) (fCons (fV 3) fNil)) (fCons (fC (.str "open")) fNil)))) 
        fNext) 
      (fSeq (fSet 8 (f2 oIx (fV 1) (f2 oSub (fB1 oLen (fCons (fV 3) fNil)) (fC (.int 1))))) 
      (fSeq (fIfS (fB (f2 cEq (fV 8) (fC (.str "fails")))) 
        (fRet (fTup (fCons (fB1 (FL.o1 tupW) (fCons (fV 3) fNil)) (fCons (fC (.str "failed")) fNil)))) 
        fNext) 
      (fSet 4 (fIf (fB (f2 cEq (fV 8) (fC (.str "yes")))) (fV 6) (fV 7))))))))
abbrev wE (z0 : Option W) (R A : List PyData) (k : Nat) (t : PyData) (v4 v5 v6 v7 : Option W) : Ev := [some (.d (.list R)), some (.d (.list A)), z0, some (.r k), some (.d t), v4, v5, v6, v7]
theorem ixL_nat (xs : List PyData) (i : Nat) (x : PyData) (S : So) (h : xs[i]? = some x) : oIx (.d (.list xs)) (.d (.int i)) S = .ok (.d x) S := by
  have hi : i < xs.length := (List.getElem?_eq_some_iff.mp h).1
  have e1 : atI xs (i : Int) = some x := by
    unfold atI ixN
    rw [if_pos (by omega), if_pos (by omega)]
    simp [h]
  simp [-s_atI, -s_ixN, e1]
/-- a row is asked and answered -/
theorem walk_step (R : List PyData) (A : List Str) (S : So) (a : List Str) (s : Nat) (x : Str) (y g : PyData) (v4 v5 v6 v7 : Option W) (hR : R[s]? = some (.tuple [.str x, y, g])) (ha : a.length < 1000) (an : Str) (hA : A[a.length]? = some an) (hf : an ≠ "fails") :
    walkBody (wE z0 R (A.map .str) S.length (.int s) v4 v5 v6 v7) (S ++ [.l (a.map .str)]) =
      .nx (wE z0 R (A.map .str) S.length (if an = "yes" then y else g) (some (.d (.str x))) (some (.d y)) (some (.d g)) (some (.d (.str an)))) (S ++ [.l ((a ++ [x]).map .str)]) := by
  have hl : a.length < A.length := (List.getElem?_eq_some_iff.mp hA).1
  have hS : (S ++ [Ob.l (a.map PyData.str)])[S.length]? = some (.l (a.map .str)) := by simp
  have hS2 : (S ++ [Ob.l ((a ++ [x]).map PyData.str)])[S.length]? = some (.l ((a ++ [x]).map .str)) := by simp
  have hl3 : lenW (.r S.length) (S ++ [.l (a.map PyData.str ++ [.str x])]) = .ok (.d (.int ((a.length : Int) + 1))) (S ++ [.l (a.map PyData.str ++ [.str x])]) := by
    have h := len_r (S ++ [.l (a.map PyData.str ++ [.str x])]) (a.map PyData.str ++ [.str x]) S.length (by simp)
    rw [h]
    simp
  have i1 : ∀ T, oIx (.d (.list R)) (.d (.int s)) T = .ok (.d (.tuple [.str x, y, g])) T := fun T => ixL_nat R s _ T hR
  have i2 : ∀ T, oIx (.d (.list (A.map .str))) (.d (.int a.length)) T = .ok (.d (.str an)) T := fun T => ixL_nat _ a.length _ T (by rw [List.getElem?_map, hA]; rfl)
  unfold walkBody wE
  rw [seq_nx (e1 := [some (.d (.list R)), some (.d (.list (A.map .str))), z0, some (.r S.length), some (.d (.int s)), some (.d (.str x)), some (.d y), some (.d g), v7]) (S1 := S ++ [.l (a.map .str)]) (by simp [fAsg, gTp, gCs, gNo, i1, -oIx])]
  rw [seq_nx (e1 := [some (.d (.list R)), some (.d (.list (A.map .str))), z0, some (.r S.length), some (.d (.int s)), some (.d (.str x)), some (.d y), some (.d g), v7]) (S1 := S ++ [.l ((a ++ [x]).map .str)]) (by simp [fM, oAppend, sizeLine_eq]; rw [if_pos (by omega)])]
  rw [seq_nx (e1 := [some (.d (.list R)), some (.d (.list (A.map .str))), z0, some (.r S.length), some (.d (.int s)), some (.d (.str x)), some (.d y), some (.d g), v7]) (S1 := S ++ [.l ((a ++ [x]).map .str)]) (by
    simp [oLen, lenW, seqW, cGt, asB]
    rw [decide_eq_false (by omega)])]
  rw [seq_nx (e1 := [some (.d (.list R)), some (.d (.list (A.map .str))), z0, some (.r S.length), some (.d (.int s)), some (.d (.str x)), some (.d y), some (.d g), some (.d (.str an))]) (S1 := S ++ [.l ((a ++ [x]).map .str)]) (by
    simp [oLen, hl3, oSub, i2, -oIx])]
  rw [seq_nx (e1 := [some (.d (.list R)), some (.d (.list (A.map .str))), z0, some (.r S.length), some (.d (.int s)), some (.d (.str x)), some (.d y), some (.d g), some (.d (.str an))]) (S1 := S ++ [.l ((a ++ [x]).map .str)]) (by simp [asB, eqv_str, hf])]
  by_cases c : an = "yes"
  · simp [fIf, asB, eqv_str, c]
  · simp [fIf, asB, eqv_str, c]
end G53

set_option linter.all false
set_option maxHeartbeats 4000000
namespace G53
open FL PySem L2
variable {z0 : Option W}
/-- no answer is left -/
theorem walk_open (R : List PyData) (A : List Str) (S : So) (a : List Str) (s : Nat) (x : Str) (y g : PyData) (v4 v5 v6 v7 : Option W) (hR : R[s]? = some (.tuple [.str x, y, g])) (ha : a.length < 1000) (hA : A.length ≤ a.length) :
    walkBody (wE z0 R (A.map .str) S.length (.int s) v4 v5 v6 v7) (S ++ [.l (a.map .str)]) = .rt (.d (.tuple [.tuple ((a ++ [x]).map .str), .str "open"])) (S ++ [.l ((a ++ [x]).map .str)]) := by
  have i1 : ∀ T, oIx (.d (.list R)) (.d (.int s)) T = .ok (.d (.tuple [.str x, y, g])) T := fun T => ixL_nat R s _ T hR
  unfold walkBody wE
  rw [seq_nx (e1 := [some (.d (.list R)), some (.d (.list (A.map .str))), z0, some (.r S.length), some (.d (.int s)), some (.d (.str x)), some (.d y), some (.d g), v7]) (S1 := S ++ [.l (a.map .str)]) (by simp [fAsg, gTp, gCs, gNo, i1, -oIx])]
  rw [seq_nx (e1 := [some (.d (.list R)), some (.d (.list (A.map .str))), z0, some (.r S.length), some (.d (.int s)), some (.d (.str x)), some (.d y), some (.d g), v7]) (S1 := S ++ [.l ((a ++ [x]).map .str)]) (by simp [fM, oAppend, sizeLine_eq]; rw [if_pos (by omega)])]
  rw [seq_rt (w := .d (.tuple [.tuple ((a ++ [x]).map .str), .str "open"])) (S1 := S ++ [.l ((a ++ [x]).map .str)]) (by
    simp [oLen, lenW, seqW, cGt, asB, fTup, tupW, allD, sizeLine_eq]
    rw [decide_eq_true (by omega)])]
/-- the answer fails -/
theorem walk_fail (R : List PyData) (A : List Str) (S : So) (a : List Str) (s : Nat) (x : Str) (y g : PyData) (v4 v5 v6 v7 : Option W) (hR : R[s]? = some (.tuple [.str x, y, g])) (ha : a.length < 1000) (hA : A[a.length]? = some "fails") :
    walkBody (wE z0 R (A.map .str) S.length (.int s) v4 v5 v6 v7) (S ++ [.l (a.map .str)]) = .rt (.d (.tuple [.tuple ((a ++ [x]).map .str), .str "failed"])) (S ++ [.l ((a ++ [x]).map .str)]) := by
  have hl : a.length < A.length := (List.getElem?_eq_some_iff.mp hA).1
  have i1 : ∀ T, oIx (.d (.list R)) (.d (.int s)) T = .ok (.d (.tuple [.str x, y, g])) T := fun T => ixL_nat R s _ T hR
  have i2 : ∀ T, oIx (.d (.list (A.map .str))) (.d (.int a.length)) T = .ok (.d (.str "fails")) T := fun T => ixL_nat _ a.length _ T (by rw [List.getElem?_map, hA]; rfl)
  have hl3 : lenW (.r S.length) (S ++ [.l (a.map PyData.str ++ [.str x])]) = .ok (.d (.int ((a.length : Int) + 1))) (S ++ [.l (a.map PyData.str ++ [.str x])]) := by
    have h := len_r (S ++ [.l (a.map PyData.str ++ [.str x])]) (a.map PyData.str ++ [.str x]) S.length (by simp)
    rw [h]
    simp
  unfold walkBody wE
  rw [seq_nx (e1 := [some (.d (.list R)), some (.d (.list (A.map .str))), z0, some (.r S.length), some (.d (.int s)), some (.d (.str x)), some (.d y), some (.d g), v7]) (S1 := S ++ [.l (a.map .str)]) (by simp [fAsg, gTp, gCs, gNo, i1, -oIx])]
  rw [seq_nx (e1 := [some (.d (.list R)), some (.d (.list (A.map .str))), z0, some (.r S.length), some (.d (.int s)), some (.d (.str x)), some (.d y), some (.d g), v7]) (S1 := S ++ [.l ((a ++ [x]).map .str)]) (by simp [fM, oAppend, sizeLine_eq]; rw [if_pos (by omega)])]
  rw [seq_nx (e1 := [some (.d (.list R)), some (.d (.list (A.map .str))), z0, some (.r S.length), some (.d (.int s)), some (.d (.str x)), some (.d y), some (.d g), v7]) (S1 := S ++ [.l ((a ++ [x]).map .str)]) (by
    simp [oLen, lenW, seqW, cGt, asB]
    rw [decide_eq_false (by omega)])]
  rw [seq_nx (e1 := [some (.d (.list R)), some (.d (.list (A.map .str))), z0, some (.r S.length), some (.d (.int s)), some (.d (.str x)), some (.d y), some (.d g), some (.d (.str "fails"))]) (S1 := S ++ [.l ((a ++ [x]).map .str)]) (by
    simp [oLen, hl3, oSub, i2, -oIx])]
  rw [seq_rt (w := .d (.tuple [.tuple ((a ++ [x]).map .str), .str "failed"])) (S1 := S ++ [.l ((a ++ [x]).map .str)]) (by simp [asB, eqv_str, fTup, tupW, allD, sizeLine_eq])]
/-! what a condition asks, how it ends: .inl: yes or no, .inr: it ended at once -/
mutual
def Cn.ev : Cn → List Str → List Str × (Bool ⊕ Str)
  | .t x, [] => ([x], .inr "open")
  | .t x, a :: _ => ([x], if a = "fails" then .inr "failed" else .inl (decide (a = "yes")))
  | .n c, A => match c.ev A with
    | (q, .inl b) => (q, .inl !b)
    | (q, .inr e) => (q, .inr e)
  | .m b cs, A => Cn.evs b cs A
  | .i c x z, A => match c.ev A with
    | (q, .inr e) => (q, .inr e)
    | (q, .inl true) => (q ++ (x.ev (A.drop q.length)).1, (x.ev (A.drop q.length)).2)
    | (q, .inl false) => (q ++ (z.ev (A.drop q.length)).1, (z.ev (A.drop q.length)).2)
def Cn.evs (b : Bool) : List Cn → List Str → List Str × (Bool ⊕ Str)
  | [], _ => ([], .inl b)
  | c :: cs, A => match c.ev A with
    | (q, .inr e) => (q, .inr e)
    | (q, .inl v) => if v = b then (q ++ (Cn.evs b cs (A.drop q.length)).1, (Cn.evs b cs (A.drop q.length)).2) else (q, .inl v)
end
end G53

set_option linter.all false
set_option maxHeartbeats 4000000
namespace G53
open FL PySem L2
variable {z0 : Option W}
abbrev wT : FT := fTr (fIsi "int" (fV 4))
theorem wT_int (R A : List PyData) (k : Nat) (s : Int) (v4 v5 v6 v7 : Option W) (S : So) : wT (wE z0 R A k (.int s) v4 v5 v6 v7) S = .ok true S := by
  have e : kitB "int" "int" = some true := by decide +kernel
  simp [fIsi, tyW, e, tru]
/-- what the walk does over the rows of a condition -/
def Wk (z0 : Option W) (R : List PyData) (A : List Str) (S : So) (a : List Str) (s : Nat) (y g : PyData) (q : List Str) : Bool ⊕ Str → Prop
  | .inl b => ∀ v4 v5 v6 v7, ∃ w4 w5 w6 w7, ∀ m, whl wT walkBody (m + q.length) (wE z0 R (A.map .str) S.length (.int s) v4 v5 v6 v7) (S ++ [.l (a.map .str)]) = whl wT walkBody m (wE z0 R (A.map .str) S.length (if b then y else g) w4 w5 w6 w7) (S ++ [.l ((a ++ q).map .str)])
  | .inr e => ∀ v4 v5 v6 v7 m, whl wT walkBody (m + q.length) (wE z0 R (A.map .str) S.length (.int s) v4 v5 v6 v7) (S ++ [.l (a.map .str)]) = .rt (.d (.tuple [.tuple ((a ++ q).map .str), .str e])) (S ++ [.l ((a ++ q).map .str)])
theorem Wk.then {R : List PyData} {A : List Str} {S : So} {a q q2 : List Str} {s s2 : Nat} {y g y2 g2 : PyData} {b : Bool} {r : Bool ⊕ Str} (h1 : Wk z0 R A S a s y2 g2 q (.inl b)) (e : (if b then y2 else g2) = .int s2) (h2 : Wk z0 R A S (a ++ q) s2 y g q2 r) : Wk z0 R A S a s y g (q ++ q2) r := by
  cases r with
  | inl b2 =>
    intro v4 v5 v6 v7
    obtain ⟨w4, w5, w6, w7, h⟩ := h1 v4 v5 v6 v7
    obtain ⟨u4, u5, u6, u7, h'⟩ := h2 w4 w5 w6 w7
    refine ⟨u4, u5, u6, u7, fun m => ?_⟩
    rw [List.length_append, show m + (q.length + q2.length) = (m + q2.length) + q.length by omega, h, e, h' m, List.append_assoc]
  | inr e2 =>
    intro v4 v5 v6 v7 m
    obtain ⟨w4, w5, w6, w7, h⟩ := h1 v4 v5 v6 v7
    rw [List.length_append, show m + (q.length + q2.length) = (m + q2.length) + q.length by omega, h, e, h2 w4 w5 w6 w7 m, List.append_assoc]
/-- a test -/
theorem walk_t (R : List PyData) (A : List Str) (S : So) (a : List Str) (s : Nat) (x : Str) (y g : PyData) (hR : R[s]? = some (.tuple [.str x, y, g])) (ha : a.length < 1000) :
    Wk z0 R A S a s y g ((Cn.t x).ev (A.drop a.length)).1 ((Cn.t x).ev (A.drop a.length)).2 := by
  cases hd : A.drop a.length with
  | nil =>
    have hl : A.length ≤ a.length := List.drop_eq_nil_iff.mp hd
    rw [Cn.ev]
    intro v4 v5 v6 v7 m
    show whl wT walkBody (m + 1) _ _ = _
    unfold whl
    rw [wT_int]
    dsimp only [Res.toOutB]
    rw [walk_open R A S a s x y g v4 v5 v6 v7 hR ha hl]
  | cons an rest =>
    have hA : A[a.length]? = some an := by
      have := congrArg (fun l => l[0]?) hd
      simpa using this
    rw [Cn.ev]
    by_cases c : an = "fails"
    · subst c
      simp only [if_true]
      intro v4 v5 v6 v7 m
      show whl wT walkBody (m + 1) _ _ = _
      unfold whl
      rw [wT_int]
      dsimp only [Res.toOutB]
      rw [walk_fail R A S a s x y g v4 v5 v6 v7 hR ha hA]
    · simp only [if_neg c]
      intro v4 v5 v6 v7
      refine ⟨some (.d (.str x)), some (.d y), some (.d g), some (.d (.str an)), fun m => ?_⟩
      show whl wT walkBody (m + 1) _ _ = _
      rw [whl]
      rw [wT_int]
      dsimp only [Res.toOutB]
      rw [walk_step R A S a s x y g v4 v5 v6 v7 hR ha an hA c]
      dsimp only
      by_cases d : an = "yes"
      · simp [d]
      · simp [d]
end G53

set_option linter.all false
set_option maxHeartbeats 4000000
namespace G53
open FL PySem L2
variable {z0 : Option W}
/-- the rows stand in the table from s on -/
def At (R : List PyData) (s : Nat) (l : List PyData) : Prop := ∀ i, i < l.length → R[s + i]? = l[i]?
theorem At.left {R : List PyData} {s : Nat} {l m : List PyData} (h : At R s (l ++ m)) : At R s l := fun i hi => by
  rw [h i (by rw [List.length_append]; omega), List.getElem?_append_left hi]
theorem At.right {R : List PyData} {s : Nat} {l m : List PyData} (h : At R s (l ++ m)) : At R (s + l.length) m := fun i hi => by
  have := h (l.length + i) (by rw [List.length_append]; omega)
  rw [List.getElem?_append_right (by omega), show l.length + i - l.length = i by omega] at this
  rw [← this, Nat.add_assoc]
theorem Wk.flip {R : List PyData} {A : List Str} {S : So} {a q : List Str} {s : Nat} {y g : PyData} {b : Bool} (h : Wk z0 R A S a s g y q (.inl b)) : Wk z0 R A S a s y g q (.inl !b) := by
  intro v4 v5 v6 v7
  obtain ⟨w4, w5, w6, w7, h⟩ := h v4 v5 v6 v7
  refine ⟨w4, w5, w6, w7, fun m => ?_⟩
  rw [h m]
  cases b <;> rfl
theorem Wk.stop {R : List PyData} {A : List Str} {S : So} {a q : List Str} {s : Nat} {y g y2 g2 : PyData} {e : Str} (h : Wk z0 R A S a s y2 g2 q (.inr e)) : Wk z0 R A S a s y g q (.inr e) := h
theorem Wk.to {R : List PyData} {A : List Str} {S : So} {a q : List Str} {s : Nat} {y g y2 g2 : PyData} {b : Bool} (h : Wk z0 R A S a s y2 g2 q (.inl b)) (e : (if b then y2 else g2) = if b then y else g) : Wk z0 R A S a s y g q (.inl b) := by
  intro v4 v5 v6 v7
  obtain ⟨w4, w5, w6, w7, h⟩ := h v4 v5 v6 v7
  exact ⟨w4, w5, w6, w7, fun m => by rw [h m, e]⟩
theorem castN (s k : Nat) : ((s + k : Nat) : Int) = (s : Int) + (k : Int) := by omega
theorem drop_app (A : List Str) (a q : List Str) : A.drop (a ++ q).length = (A.drop a.length).drop q.length := by rw [List.length_append, List.drop_drop]
mutual
theorem walk_ok (R : List PyData) (A : List Str) (S : So) : ∀ (c : Cn) (a : List Str) (s : Nat) (y g : PyData), At R s (c.rw s y g) → a.length + c.sz ≤ 1000 → c.few →
    (c.ev (A.drop a.length)).1.length ≤ c.sz ∧ Wk z0 R A S a s y g (c.ev (A.drop a.length)).1 (c.ev (A.drop a.length)).2
  | .t x, a, s, y, g, h, hl, _ => by
    have hR : R[s]? = some (.tuple [.str x, y, g]) := by
      have := h 0 (by rw [Cn.rw]; simp)
      rw [Cn.rw] at this
      simpa using this
    rw [Cn.sz] at hl ⊢
    refine ⟨?_, walk_t R A S a s x y g hR (by omega)⟩
    cases A.drop a.length <;> rw [Cn.ev] <;> simp
  | .n c, a, s, y, g, h, hl, f => by
    rw [Cn.sz] at hl ⊢
    rw [Cn.rw] at h
    unfold Cn.few at f
    obtain ⟨h1, h2⟩ := walk_ok R A S c a s g y h hl f
    rw [Cn.ev]
    revert h1 h2
    cases c.ev (A.drop a.length) with
    | mk q r =>
      intro h1 h2
      cases r with
      | inl b => exact ⟨h1, Wk.flip h2⟩
      | inr e => exact ⟨h1, h2⟩
  | .i c x z, a, s, y, g, h, hl, f => by
    rw [Cn.sz] at hl ⊢
    rw [Cn.rw, ← castN, ← castN] at h
    unfold Cn.few at f
    have hx := h.right.left
    have hz := h.right.right
    rw [rw_len] at hx hz
    rw [rw_len] at hz
    obtain ⟨h1, h2⟩ := walk_ok R A S c a s _ _ h.left (by omega) f.1
    rw [Cn.ev]
    revert h1 h2
    cases c.ev (A.drop a.length) with
    | mk q r =>
      intro h1 h2
      cases r with
      | inr e => exact ⟨by have : q.length ≤ c.sz := h1; show q.length ≤ _; omega, h2⟩
      | inl b =>
        have h1 : q.length ≤ c.sz := h1
        cases b with
        | true =>
          obtain ⟨h3, h4⟩ := walk_ok R A S x (a ++ q) (s + c.sz) y g hx (by rw [List.length_append]; omega) f.2.1
          rw [drop_app] at h3 h4
          exact ⟨by show (q ++ _).length ≤ _; rw [List.length_append]; omega, Wk.then h2 rfl h4⟩
        | false =>
          obtain ⟨h3, h4⟩ := walk_ok R A S z (a ++ q) (s + c.sz + x.sz) y g hz (by rw [List.length_append]; omega) f.2.2
          rw [drop_app] at h3 h4
          exact ⟨by show (q ++ _).length ≤ _; rw [List.length_append]; omega, Wk.then h2 rfl h4⟩
  | .m b cs, a, s, y, g, h, hl, f => by
    rw [Cn.sz] at hl ⊢
    rw [Cn.rw] at h
    unfold Cn.few at f
    rw [Cn.ev]
    exact walks_ok R A S b cs a s y g (fun e => by rw [e] at f; simp at f) h hl f.2.2
theorem walks_ok (R : List PyData) (A : List Str) (S : So) (b : Bool) : ∀ (cs : List Cn) (a : List Str) (s : Nat) (y g : PyData), cs ≠ [] → At R s (Cn.rws b cs s y g) → a.length + Cn.szs cs ≤ 1000 → Cn.fews cs →
    (Cn.evs b cs (A.drop a.length)).1.length ≤ Cn.szs cs ∧ Wk z0 R A S a s y g (Cn.evs b cs (A.drop a.length)).1 (Cn.evs b cs (A.drop a.length)).2
  | [], _, _, _, _, ne, _, _, _ => absurd rfl ne
  | [c], a, s, y, g, _, h, hl, f => by
    rw [Cn.szs, Cn.szs] at hl ⊢
    rw [Cn.rws] at h
    unfold Cn.fews at f
    obtain ⟨h1, h2⟩ := walk_ok R A S c a s y g h (by omega) f.1
    rw [Cn.evs]
    revert h1 h2
    cases c.ev (A.drop a.length) with
    | mk q r =>
      intro h1 h2
      have h1 : q.length ≤ c.sz := h1
      cases r with
      | inr e => exact ⟨by show q.length ≤ _; omega, h2⟩
      | inl v =>
        dsimp only
        by_cases hv : v = b
        · rw [if_pos hv, Cn.evs]
          subst hv
          exact ⟨by show (q ++ []).length ≤ _; rw [List.append_nil]; omega, by show Wk z0 R A S a s y g (q ++ []) (.inl v); rw [List.append_nil]; exact h2⟩
        · rw [if_neg hv]
          exact ⟨by show q.length ≤ _; omega, h2⟩
  | c :: d :: r, a, s, y, g, _, h, hl, f => by
    have e1 : Cn.szs (c :: d :: r) = c.sz + Cn.szs (d :: r) := by rw [Cn.szs]
    rw [e1] at hl ⊢
    have e2 : Cn.rws b (c :: d :: r) s y g = (if b then c.rw s (.int ((s + c.sz : Nat) : Int)) g else c.rw s y (.int ((s + c.sz : Nat) : Int))) ++ Cn.rws b (d :: r) ((s + c.sz : Nat) : Int) y g := by rw [Cn.rws, castN]
    rw [e2] at h
    unfold Cn.fews at f
    have hr := h.right
    have hlen : (if b then c.rw s (.int ((s + c.sz : Nat) : Int)) g else c.rw s y (.int ((s + c.sz : Nat) : Int))).length = c.sz := by cases b <;> simp [rw_len c]
    rw [hlen] at hr
    have e3 : Cn.evs b (c :: d :: r) (A.drop a.length) = match c.ev (A.drop a.length) with
      | (q, .inr e) => (q, .inr e)
      | (q, .inl v) => if v = b then (q ++ (Cn.evs b (d :: r) ((A.drop a.length).drop q.length)).1, (Cn.evs b (d :: r) ((A.drop a.length).drop q.length)).2) else (q, .inl v) := by
      rw [Cn.evs]
      all_goals
        cases c.ev (A.drop a.length) with
        | mk q r => cases r <;> rfl
    rw [e3]
    have next : ∀ (q : List Str) (y2 g2 : PyData), q.length ≤ c.sz → Wk z0 R A S a s y2 g2 q (.inl b) → (if b then y2 else g2) = .int ((s + c.sz : Nat) : Int) →
        (q ++ (Cn.evs b (d :: r) ((A.drop a.length).drop q.length)).1).length ≤ c.sz + Cn.szs (d :: r) ∧ Wk z0 R A S a s y g (q ++ (Cn.evs b (d :: r) ((A.drop a.length).drop q.length)).1) (Cn.evs b (d :: r) ((A.drop a.length).drop q.length)).2 := fun q y2 g2 hq hw e => by
      obtain ⟨h3, h4⟩ := walks_ok R A S b (d :: r) (a ++ q) (s + c.sz) y g (by simp) hr (by rw [List.length_append]; omega) f.2
      rw [drop_app] at h3 h4
      exact ⟨by rw [List.length_append]; omega, Wk.then hw e h4⟩
    cases b with
    | true =>
      obtain ⟨h1, h2⟩ := walk_ok R A S c a s _ _ h.left (by omega) f.1
      revert h1 h2
      cases c.ev (A.drop a.length) with
      | mk q r2 =>
        intro h1 h2
        have h1 : q.length ≤ c.sz := h1
        cases r2 with
        | inr e => exact ⟨by show q.length ≤ _; omega, h2⟩
        | inl v =>
          cases v with
          | true => exact next q _ _ h1 h2 rfl
          | false => exact ⟨by show q.length ≤ _; omega, Wk.to h2 rfl⟩
    | false =>
      obtain ⟨h1, h2⟩ := walk_ok R A S c a s _ _ h.left (by omega) f.1
      revert h1 h2
      cases c.ev (A.drop a.length) with
      | mk q r2 =>
        intro h1 h2
        have h1 : q.length ≤ c.sz := h1
        cases r2 with
        | inr e => exact ⟨by show q.length ≤ _; omega, h2⟩
        | inl v =>
          cases v with
          | false => exact next q _ _ h1 h2 rfl
          | true => exact ⟨by show q.length ≤ _; omega, Wk.to h2 rfl⟩
end
end G53

set_option linter.all false
set_option maxHeartbeats 4000000
namespace G53
open FL PySem L2
def endS : Bool ⊕ Str → Str
  | .inl true => "yes"
  | .inl false => "no"
  | .inr e => e
theorem wT_str {z0 : Option W} (R A : List PyData) (k : Nat) (z : Str) (v4 v5 v6 v7 : Option W) (S : So) : wT (wE z0 R A k (.str z) v4 v5 v6 v7) S = .ok false S := by
  have e : kitB "str" "int" = some false := by decide +kernel
  simp [fIsi, tyW, e, tru]
theorem walked_ok (n : Nat) (c : Cn) (A : List Str) (T : So) (f : c.few) (hz : c.sz ≤ 1000) :
    lev Nn mm (n + 1) i_walked [.d (.list (c.rw 0 (.str "yes") (.str "no"))), .d (.list (A.map .str)), .d (.int 0)] T = .ok (.d (.tuple [.tuple ((c.ev A).1.map .str), .str (endS (c.ev A).2)])) T := by
  obtain ⟨h1, h2⟩ := walk_ok (z0 := some (.d (.int 0))) (c.rw 0 (.str "yes") (.str "no")) A T c [] 0 (.str "yes") (.str "no") (fun i hi => by rw [Nat.zero_add]; rfl) (by simpa using hz) f
  rw [List.length_nil, List.drop_zero] at h1 h2
  have hw : (c.ev A).1.length ≤ 1000 := by omega
  have hb : m_walked (lev Nn mm n) [some (.d (.list (c.rw 0 (.str "yes") (.str "no")))), some (.d (.list (A.map .str))), some (.d (.int 0)), none, none, none, none, none, none] T =
      .rt (.d (.tuple [.tuple ((c.ev A).1.map .str), .str (endS (c.ev A).2)])) (T ++ [.l ((c.ev A).1.map .str)]) := by
    unfold m_walked
    rw [seq_nx (e1 := [some (.d (.list (c.rw 0 (.str "yes") (.str "no")))), some (.d (.list (A.map .str))), some (.d (.int 0)), some (.r T.length), none, none, none, none, none]) (S1 := T ++ [.l []]) (by simp [fMut, allD, sizeLine_eq])]
    rw [seq_nx (e1 := [some (.d (.list (c.rw 0 (.str "yes") (.str "no")))), some (.d (.list (A.map .str))), some (.d (.int 0)), some (.r T.length), some (.d (.int 0)), none, none, none, none]) (S1 := T ++ [.l []]) (by simp)]
    generalize c.ev A = qr at h2 hw ⊢
    obtain ⟨q, r⟩ := qr
    have hq : q.length ≤ 1000 := hw
    have split : (100000 : Nat) = (100000 - q.length) + q.length := by omega
    cases r with
    | inr e =>
      have h3 := h2 none none none none (100000 - q.length)
      rw [← split] at h3
      exact seq_rt h3
    | inl b =>
      obtain ⟨w4, w5, w6, w7, h3⟩ := h2 none none none none
      have h3 := h3 (100000 - q.length)
      rw [← split] at h3
      have h4 : whl wT walkBody (100000 - q.length) (wE (some (.d (.int 0))) (c.rw 0 (.str "yes") (.str "no")) (A.map .str) T.length (if b then .str "yes" else .str "no") w4 w5 w6 w7) (T ++ [.l ((([] : List Str) ++ q).map .str)]) =
          .nx (wE (some (.d (.int 0))) (c.rw 0 (.str "yes") (.str "no")) (A.map .str) T.length (if b then .str "yes" else .str "no") w4 w5 w6 w7) (T ++ [.l ((([] : List Str) ++ q).map .str)]) := by
        rw [show 100000 - q.length = (99999 - q.length) + 1 by omega]
        unfold whl
        cases b
        · simp only [Bool.false_eq_true, if_false]
          rw [wT_str]
          rfl
        · simp only [if_true]
          rw [wT_str]
          rfl
      rw [h4] at h3
      refine (seq_nx h3).trans ?_
      cases b
      · simp [fTup, tupW, allD, sizeLine_eq, endS]
      · simp [fTup, tupW, allD, sizeLine_eq, endS]
  show (match m_walked (lev Nn mm n) [some (.d (.list (c.rw 0 (.str "yes") (.str "no")))), some (.d (.list (A.map .str))), some (.d (.int 0)), none, none, none, none, none, none] T with
    | .rt w S' => fin T.length w S'
    | .nx _ S' => fin T.length (.d .none) S'
    | .ex c f _ S' => .ex c f (S'.take T.length)
    | _ => .no) = _
  rw [hb]
  simp
end G53

set_option linter.all false
set_option maxHeartbeats 4000000
namespace G53
open FL PySem L2
/-! is_condition of trees -/

@[simp] theorem cEq_ii (a b : Int) (S : So) : cEq (.d (.int a)) (.d (.int b)) S = .ok (.d (.bool (decide (a = b)))) S := by
  unfold cEq oEq
  simp [toP, PyData.plain, PyData.depth, PyData.eqv]
  rfl
@[simp] theorem ix_tup1 (x y : PyData) (xs : List PyData) (S : So) : oIx (.d (.tuple (x :: y :: xs))) (.d (.int 1)) S = .ok (.d y) S := by
  simp
  rw [if_pos (by omega)]
  rfl
def NmOk (x : Str) : Prop := ∀ n S, lev Nn mm (n + 1) i_is_name [.d (.str x)] S = .ok (.d (.bool true)) S
mutual
def Cn.on (ws : List Str) : Cn → Prop
  | .t x => x ∈ ws
  | .n c => c.on ws
  | .m _ cs => Cn.ons ws cs
  | .i c x y => c.on ws ∧ x.on ws ∧ y.on ws
def Cn.ons (ws : List Str) : List Cn → Prop
  | [] => True
  | c :: cs => c.on ws ∧ Cn.ons ws cs
end
mutual
def Cn.nt : Cn → Nat
  | .t _ => 0
  | .n c => c.nt + 1
  | .m _ cs => Cn.nts cs
  | .i c x y => c.nt + x.nt + y.nt
def Cn.nts : List Cn → Nat
  | [] => 0
  | c :: cs => c.nt + Cn.nts cs
end
mutual
def Cn.nd : Cn → Nat
  | .t _ => 1
  | .n c => c.nd + 1
  | .m _ cs => Cn.nds cs + 1
  | .i c x y => c.nd + x.nd + y.nd + 1
def Cn.nds : List Cn → Nat
  | [] => 0
  | c :: cs => c.nd + Cn.nds cs
end
def Cn.nm : Cn → List Str
  | .t x => [x]
  | _ => []
def Cn.n1 : Cn → Nat
  | .n _ => 1
  | _ => 0
theorem kit_tt : kitB "tuple" "tuple" = some true := by decide +kernel
@[simp] theorem isi_tup (xs : List PyData) (S : So) (f : FE) (ev : Ev) (h : f ev S = .ok (.d (.tuple xs)) S) : fIsi "tuple" f ev S = .ok (.d (.bool true)) S := by
  simp [fIsi, h, tyW, kit_tt]
theorem part_ok (n : Nat) (c : Cn) (S : So) (f : c.few) (h : ∀ x, c = .t x → NmOk x) : lev Nn mm (n + 2) i__is_part [.d c.d] S = .ok (.d (.bool true)) S := by
  cases c with
  | t x =>
    have e1 : (Cn.t x).d = .tuple [.str "test", .str x] := by rw [Cn.d]
    have hx := h x rfl n
    rw [e1]
    show fDef 2 (m__is_part (lev Nn mm (n + 1))) [.d (.tuple [.str "test", .str x])] S = _
    unfold m__is_part
    simp [fIsi, tyW, kit_tt, tru, oLen, lenW, seqW, cLt, asB, eqv_str, hx, fAnd, -oIx]
  | n c =>
    have e1 : (Cn.n c).d = .tuple [.str "not", c.d] := by rw [Cn.d]
    rw [e1]
    show fDef 2 (m__is_part (lev Nn mm (n + 1))) [.d (.tuple [.str "not", c.d])] S = _
    unfold m__is_part
    have k1 : ("not" : Str) ≠ "test" := by decide
    simp [fIsi, tyW, kit_tt, tru, oLen, lenW, seqW, cLt, asB, eqv_str, k1, fAnd, -oIx]
  | i c x y =>
    have e1 : (Cn.i c x y).d = .tuple [.str "if", c.d, x.d, y.d] := by rw [Cn.d]
    rw [e1]
    show fDef 2 (m__is_part (lev Nn mm (n + 1))) [.d (.tuple [.str "if", c.d, x.d, y.d])] S = _
    unfold m__is_part
    have k1 : ("if" : Str) ≠ "test" := by decide
    have k2 : ("if" : Str) ≠ "not" := by decide
    simp [fIsi, tyW, kit_tt, tru, oLen, lenW, seqW, cLt, asB, eqv_str, k1, k2, fAnd, -oIx]
  | m b cs =>
    unfold Cn.few at f
    have e1 : (Cn.m b cs).d = .tuple (.str (if b then "and" else "or") :: cs.map Cn.d) := by rw [Cn.d, ds_map]
    have k1 : (if b then ("and" : Str) else "or") ≠ "test" := by cases b <;> decide
    have k2 : (if b then ("and" : Str) else "or") ≠ "not" := by cases b <;> decide
    have k3 : (if b then ("and" : Str) else "or") ≠ "if" := by cases b <;> decide
    have k4 : cIn (.d (.str (if b then ("and" : Str) else "or"))) (.d (.tuple [.str "and", .str "or"])) S = .ok (.d (.bool true)) S := by cases b <;> rfl
    rw [e1]
    generalize (if b then ("and" : Str) else "or") = kind at k1 k2 k3 k4 ⊢
    show fDef 2 (m__is_part (lev Nn mm (n + 1))) [.d (.tuple (.str kind :: cs.map Cn.d))] S = _
    unfold m__is_part
    simp [fIsi, tyW, kit_tt, tru, oLen, lenW, seqW, cLt, asB, eqv_str, k1, k2, k3, k4, fAnd, fTup, allD, sizeLine_eq, cGe, -oIx]
    rw [decide_eq_false (by omega)]
    simp [eqv_str, k1, k2, k3, k4, fTup, allD, sizeLine_eq, cGe, lenW, seqW, asB, -oIx]
    omega
end G53

set_option linter.all false
set_option maxHeartbeats 4000000
namespace G53
open FL PySem L2
def condBody (c : Cs) : FS := (fSeq (fAsg (gTp 2 (gCs (gNm 4) (gCs (gNm 5) gNo))) (f1 oPop (fV 1))) 
      (fSeq (fIfS (fOrT (fB (f2 cGt (fV 5) (fC (sg.gdt 3)))) (fNotT (fTr (fCall 1 (c i__is_part) [] (fCons (fV 4) fNil))))) 
        (fRet (fC (.bool false))) 
        fNext) 
      (fSeq (fIfS (fB (f2 cEq (f2 oIx (fV 4) (fC (.int 0))) (fC (.str "test")))) 
        (fDrop (fM oAppend (fV 2) (fCons (f2 oIx (fV 4) (fC (.int 1))) fNil))) 
        (fDrop (fM oExtend (fV 1) (fCons (fLc (fItems (fSl (fV 4) (fP (fC (.int 1))) fNoP)) (gNm 6) fYes (fTup (fCons (fV 6) (fCons (f2 oAdd (fV 5) (fC (.int 1))) fNil))) [6]) fNil)))) 
      (fSeq (fIfS (fB (f2 cEq (f2 oIx (fV 4) (fC (.int 0))) (fC (.str "not")))) 
        (fAug 3 (fun i j => i + j) (fC (.int 1))) 
        fNext) 
      (fIfS (fOrT (fB (f2 cGt (fB1 oLen (fCons (fV 2) fNil)) (fC (sg.gdt 0)))) (fB (f2 cGt (fV 3) (fC (sg.gdt 1))))) 
        (fRet (fC (.bool false))) 
        fNext)))))
@[simp] theorem s2g0 (S : So) (a b : Ob) : (S ++ [a, b])[S.length]? = some a := by simp
@[simp] theorem s2g1 (S : So) (a b : Ob) : (S ++ [a, b])[S.length + 1]? = some b := by simp
@[simp] theorem s2s0 (S : So) (a b x : Ob) : (S ++ [a, b]).set S.length x = S ++ [x, b] := by simp
@[simp] theorem s2s1 (S : So) (a b x : Ob) : (S ++ [a, b]).set (S.length + 1) x = S ++ [a, x] := by simp
def wd (L : List (Cn × Nat)) : List PyData := (L.map fun p => PyData.tuple [p.1.d, .int p.2]).reverse
theorem wd_cons (p : Cn × Nat) (L : List (Cn × Nat)) : wd (p :: L) = wd L ++ [.tuple [p.1.d, .int p.2]] := by simp [wd]
theorem wd_app (cs : List Cn) (d : Nat) (L : List (Cn × Nat)) : wd ((cs.map (fun x => (x, d + 1))).reverse ++ L) = wd L ++ cs.map (fun c => PyData.tuple [c.d, .int ((d : Int) + 1)]) := by simp [wd, Function.comp_def]
theorem pop_wd (S : So) (p : Cn × Nat) (L : List (Cn × Nat)) (b : Ob) : oPop (.r S.length) (S ++ [.l (wd (p :: L)), b]) = .ok (.d (.tuple [p.1.d, .int p.2])) (S ++ [.l (wd L), b]) := by
  unfold oPop
  rw [wd_cons]
  simp
@[simp] theorem cGt_ii (a b : Int) (S : So) : cGt (.d (.int a)) (.d (.int b)) S = .ok (.d (.bool (decide (b < a)))) S := by simp [cGt]
abbrev cE (v0 : Option W) (k : Nat) (nots : Nat) (v4 v5 v6 : Option W) : Ev := [v0, some (.r k), some (.r (k + 1)), some (.d (.int nots)), v4, v5, v6]
theorem d_of (c : Cn) : (∃ x, c = .t x) ∨ ∃ k : Str, k ≠ "test" ∧ c.n1 = (if k = "not" then 1 else 0) ∧ c.nm = [] ∧ c.d = .tuple (.str k :: c.sub.map Cn.d) := by
  cases c with
  | t x => exact .inl ⟨x, rfl⟩
  | n c => exact .inr ⟨"not", by decide, by rw [if_pos rfl]; rfl, rfl, by rw [Cn.d]; rfl⟩
  | m b cs => exact .inr ⟨if b then "and" else "or", by cases b <;> decide, by rw [if_neg (by cases b <;> decide)]; rfl, rfl, by rw [Cn.d, ds_map]; rfl⟩
  | i c x y => exact .inr ⟨"if", by decide, by rw [if_neg (by decide)]; rfl, rfl, by rw [Cn.d]; rfl⟩
theorem cond_step (n : Nat) (v0 : Option W) (S : So) (c : Cn) (d : Nat) (L : List (Cn × Nat)) (fs : List Str) (nots : Nat) (v4 v5 v6 : Option W) (f : c.few) (hx : ∀ x, c = .t x → NmOk x) (hd : d ≤ 80) (hf : (fs ++ c.nm).length ≤ 60) (hn : nots + c.n1 ≤ 200) (hL : L.length + c.sub.length ≤ 10000) :
    ∃ w4 w5 w6, condBody (lev Nn mm (n + 2)) (cE v0 S.length nots v4 v5 v6) (S ++ [.l (wd ((c, d) :: L)), .l (fs.map .str)]) =
      .nx (cE v0 S.length (nots + c.n1) w4 w5 w6) (S ++ [.l (wd ((c.sub.map (fun x => (x, d + 1))).reverse ++ L)), .l ((fs ++ c.nm).map .str)]) := by
  have hp := fun S => part_ok n c S f hx
  rcases d_of c with ⟨x, rfl⟩ | ⟨k, k1, k2, k3, k4⟩
  · have e1 : (Cn.t x).d = .tuple [.str "test", .str x] := by rw [Cn.d]
    rw [e1] at hp
    refine ⟨some (.d (.tuple [.str "test", .str x])), some (.d (.int d)), v6, ?_⟩
    have hl : fs.length + 1 ≤ 60 := by simpa [Cn.nm] using hf
    have hn' : nots ≤ 200 := by simpa [Cn.n1] using hn
    unfold condBody cE
    rw [seq_nx (e1 := [v0, some (.r S.length), some (.r (S.length + 1)), some (.d (.int nots)), some (.d (.tuple [.str "test", .str x])), some (.d (.int d)), v6]) (S1 := S ++ [.l (wd L), .l (fs.map .str)]) (by
      simp [fAsg, pop_wd, gTp, gCs, gNo, e1])]
    rw [seq_nx (e1 := [v0, some (.r S.length), some (.r (S.length + 1)), some (.d (.int nots)), some (.d (.tuple [.str "test", .str x])), some (.d (.int d)), v6]) (S1 := S ++ [.l (wd L), .l (fs.map .str)]) (by
      simp [hp, asB, tru]; rw [decide_eq_false (by omega)])]
    rw [seq_nx (e1 := [v0, some (.r S.length), some (.r (S.length + 1)), some (.d (.int nots)), some (.d (.tuple [.str "test", .str x])), some (.d (.int d)), v6]) (S1 := S ++ [.l (wd L), .l ((fs ++ [x]).map .str)]) (by
      simp [asB, eqv_str, fM, oAppend, sizeLine_eq, -oIx]; rw [if_pos (by omega)])]
    rw [seq_nx (e1 := [v0, some (.r S.length), some (.r (S.length + 1)), some (.d (.int nots)), some (.d (.tuple [.str "test", .str x])), some (.d (.int d)), v6]) (S1 := S ++ [.l (wd L), .l ((fs ++ [x]).map .str)]) (by
      have kt : ("test" : Str) ≠ "not" := by decide
      simp [asB, eqv_str, kt, -oIx])]
    simp [oLen, lenW, seqW, asB, Cn.n1, Cn.nm, Cn.sub]
    rw [decide_eq_false (by omega)]
    simp
    rw [decide_eq_false (by omega)]
  · rw [k3, List.append_nil] at hf ⊢
    rw [k4] at hp
    refine ⟨some (.d (.tuple (.str k :: c.sub.map Cn.d))), some (.d (.int d)), v6, ?_⟩
    unfold condBody cE
    rw [seq_nx (e1 := [v0, some (.r S.length), some (.r (S.length + 1)), some (.d (.int nots)), some (.d (.tuple (.str k :: c.sub.map Cn.d))), some (.d (.int d)), v6]) (S1 := S ++ [.l (wd L), .l (fs.map .str)]) (by
      simp [fAsg, pop_wd, gTp, gCs, gNo, k4])]
    rw [seq_nx (e1 := [v0, some (.r S.length), some (.r (S.length + 1)), some (.d (.int nots)), some (.d (.tuple (.str k :: c.sub.map Cn.d))), some (.d (.int d)), v6]) (S1 := S ++ [.l (wd L), .l (fs.map .str)]) (by
      simp [hp, asB, tru]; rw [decide_eq_false (by omega)])]
    have hm := lcL_map (g := gNm 6) (te := (fTup (fCons (fV 6) (fCons (f2 oAdd (fV 5) (fC (.int 1))) fNil)))) (ev0 := [v0, some (.r S.length), some (.r (S.length + 1)), some (.d (.int nots)), some (.d (.tuple (.str k :: c.sub.map Cn.d))), some (.d (.int d)), none]) (S := S ++ [.l (wd L), .l (fs.map .str)]) (dt := Cn.d) (f := fun c => .tuple [c.d, .int ((d + 1 : Nat) : Int)]) c.sub []
      (fun c hc => ⟨_, rfl, by simp [fTup, allD, sizeLine_eq]⟩) (by rw [sizeLine_eq]; simp; omega)
    have hsl : ∀ S, oSl (.d (.tuple (.str k :: c.sub.map Cn.d))) (some 1) none S = .ok (.d (.tuple (c.sub.map Cn.d))) S := fun S => sl_1 _ _ S
    have hi : fLc (fItems (fSl (fV 4) (fP (fC (.int 1))) fNoP)) (gNm 6) fYes (fTup (fCons (fV 6) (fCons (f2 oAdd (fV 5) (fC (.int 1))) fNil))) [6] [v0, some (.r S.length), some (.r (S.length + 1)), some (.d (.int nots)), some (.d (.tuple (.str k :: c.sub.map Cn.d))), some (.d (.int d)), v6] (S ++ [.l (wd L), .l (fs.map .str)]) =
        .ok (.d (.list (c.sub.map fun c => .tuple [c.d, .int ((d + 1 : Nat) : Int)]))) (S ++ [.l (wd L), .l (fs.map .str)]) := by
      unfold fLc
      have h1 : fItems (fSl (fV 4) (fP (fC (.int 1))) fNoP) [v0, some (.r S.length), some (.r (S.length + 1)), some (.d (.int nots)), some (.d (.tuple (.str k :: c.sub.map Cn.d))), some (.d (.int d)), v6] (S ++ [.l (wd L), .l (fs.map .str)]) = .ok (c.sub.map Cn.d) (S ++ [.l (wd L), .l (fs.map .str)]) := by
        simp [hsl, -oSl]
      rw [h1]
      show ((lcL (gNm 6) fYes _ [v0, some (.r S.length), some (.r (S.length + 1)), some (.d (.int nots)), some (.d (.tuple (.str k :: c.sub.map Cn.d))), some (.d (.int d)), none] _ _ []).bind _) = _
      rw [hm]
      rfl
    have hlw : (wd L).length = L.length := by simp [wd]
    rw [seq_nx (e1 := [v0, some (.r S.length), some (.r (S.length + 1)), some (.d (.int nots)), some (.d (.tuple (.str k :: c.sub.map Cn.d))), some (.d (.int d)), v6]) (S1 := S ++ [.l (wd ((c.sub.map (fun x => (x, d + 1))).reverse ++ L)), .l (fs.map .str)]) (by
      simp [-fLc, asB, eqv_str, k1, fM, oExtend, hi, sizeLine_eq, -oIx, hlw, wd_app]
      rw [if_pos (by omega)]; try simp)]
    have e5 : (if k = "not" then ((nots : Int) + 1) else (nots : Int)) = ((nots + c.n1 : Nat) : Int) := by
      rw [k2]
      split <;> simp
    rw [seq_nx (e1 := [v0, some (.r S.length), some (.r (S.length + 1)), some (.d (.int ((nots + c.n1 : Nat) : Int))), some (.d (.tuple (.str k :: c.sub.map Cn.d))), some (.d (.int d)), v6]) (S1 := S ++ [.l (wd ((c.sub.map (fun x => (x, d + 1))).reverse ++ L)), .l (fs.map .str)]) (by
      rw [← e5]
      by_cases c : k = "not"
      · simp [asB, eqv_str, c, fAug, -oIx]
      · simp [asB, eqv_str, c, fAug, -oIx])]
    simp [oLen, lenW, seqW, asB]
    rw [decide_eq_false (by omega)]
    simp
    rw [decide_eq_false (by omega)]
end G53

set_option linter.all false
set_option maxHeartbeats 4000000
namespace G53
open FL PySem L2
theorem few_sub : ∀ {c : Cn}, c.few → ∀ s ∈ c.sub, s.few
  | .t _, _, s, h => by cases h
  | .n c, f, s, h => by
    unfold Cn.few at f
    rw [List.mem_singleton.mp h]
    exact f
  | .m _ cs, f, s, h => by
    unfold Cn.few at f
    exact fews_mem f.2.2 h
  | .i c x y, f, s, h => by
    unfold Cn.few at f
    simp only [Cn.sub, List.mem_cons, List.not_mem_nil, or_false] at h
    rcases h with h | h | h <;> rw [h]
    · exact f.1
    · exact f.2.1
    · exact f.2.2
theorem ons_mem {ws : List Str} : ∀ {cs : List Cn} {c : Cn}, Cn.ons ws cs → c ∈ cs → c.on ws
  | d :: ds, c, h, m => by
    unfold Cn.ons at h
    rcases List.mem_cons.mp m with e | m
    · rw [e]
      exact h.1
    · exact ons_mem h.2 m
theorem on_sub {ws : List Str} : ∀ {c : Cn}, c.on ws → ∀ s ∈ c.sub, s.on ws
  | .t _, _, s, h => by cases h
  | .n c, f, s, h => by
    unfold Cn.on at f
    rw [List.mem_singleton.mp h]
    exact f
  | .m _ cs, f, s, h => by
    unfold Cn.on at f
    exact ons_mem f h
  | .i c x y, f, s, h => by
    unfold Cn.on at f
    simp only [Cn.sub, List.mem_cons, List.not_mem_nil, or_false] at h
    rcases h with h | h | h <;> rw [h]
    · exact f.1
    · exact f.2.1
    · exact f.2.2
theorem dp_sub : ∀ {c : Cn}, ∀ s ∈ c.sub, s.dp + 1 ≤ c.dp
  | .t _, s, h => by cases h
  | .n c, s, h => by
    rw [List.mem_singleton.mp h, Cn.dp]
    omega
  | .m _ cs, s, h => by
    have := dps_mem (show s ∈ cs from h)
    rw [Cn.dp]
    omega
  | .i c x y, s, h => by
    simp only [Cn.sub, List.mem_cons, List.not_mem_nil, or_false] at h
    rw [Cn.dp]
    rcases h with h | h | h <;> rw [h] <;> omega
theorem nds_sum : ∀ cs : List Cn, Cn.nds cs = (cs.map Cn.nd).sum
  | [] => by rw [Cn.nds]; rfl
  | c :: cs => by rw [Cn.nds, nds_sum cs, List.map_cons, List.sum_cons]
theorem nts_sum : ∀ cs : List Cn, Cn.nts cs = (cs.map Cn.nt).sum
  | [] => by rw [Cn.nts]; rfl
  | c :: cs => by rw [Cn.nts, nts_sum cs, List.map_cons, List.sum_cons]
theorem szs_sumN : ∀ cs : List Cn, Cn.szs cs = (cs.map Cn.sz).sum
  | [] => by rw [Cn.szs]; rfl
  | c :: cs => by rw [Cn.szs, szs_sumN cs, List.map_cons, List.sum_cons]
theorem nd_sub (c : Cn) : c.nd = 1 + (c.sub.map Cn.nd).sum := by
  cases c with
  | t x => simp [Cn.nd, Cn.sub]
  | n c => simp [Cn.nd, Cn.sub]; omega
  | m b cs => simp [Cn.nd, Cn.sub, nds_sum]; omega
  | i c x y => simp [Cn.nd, Cn.sub]; omega
theorem sz_sub (c : Cn) : c.sz = c.nm.length + (c.sub.map Cn.sz).sum := by
  cases c with
  | t x => simp [Cn.sz, Cn.sub, Cn.nm]
  | n c => simp [Cn.sz, Cn.sub, Cn.nm]
  | m b cs => simp [Cn.sz, Cn.sub, Cn.nm, szs_sumN]
  | i c x y => simp [Cn.sz, Cn.sub, Cn.nm]; omega
theorem nt_sub (c : Cn) : c.nt = c.n1 + (c.sub.map Cn.nt).sum := by
  cases c with
  | t x => simp [Cn.nt, Cn.sub, Cn.n1]
  | n c => simp [Cn.nt, Cn.sub, Cn.n1]; omega
  | m b cs => simp [Cn.nt, Cn.sub, Cn.n1, nts_sum]
  | i c x y => simp [Cn.nt, Cn.sub, Cn.n1]; omega
theorem len_nd : ∀ cs : List Cn, cs.length ≤ (cs.map Cn.nd).sum
  | [] => by simp
  | c :: cs => by
    have := len_nd cs
    have := nd_sub c
    rw [List.map_cons, List.sum_cons, List.length_cons]
    omega
def tot (g : Cn → Nat) (L : List (Cn × Nat)) : Nat := (L.map fun p => g p.1).sum
theorem tot_cons (g : Cn → Nat) (c : Cn) (d : Nat) (L : List (Cn × Nat)) : tot g ((c, d) :: L) = g c + tot g L := by simp [tot]
theorem tot_sub (g : Cn → Nat) (cs : List Cn) (e : Nat) (L : List (Cn × Nat)) : tot g ((cs.map fun x => (x, e)).reverse ++ L) = (cs.map g).sum + tot g L := by
  simp [tot, List.sum_append, List.sum_reverse, Function.comp_def]
theorem len_tot : ∀ L : List (Cn × Nat), L.length ≤ tot Cn.nd L
  | [] => by simp
  | (c, d) :: L => by
    have := len_tot L
    have := nd_sub c
    rw [tot_cons, List.length_cons]
    omega
theorem cond_loop (n : Nat) (v0 : Option W) (S : So) (ws : List Str) (hw : ∀ x ∈ ws, NmOk x) : ∀ (N : Nat) (L : List (Cn × Nat)) (fs : List Str) (nots : Nat) (v4 v5 v6 : Option W) (m : Nat), tot Cn.nd L ≤ N → N < m →
    (∀ p ∈ L, p.1.few ∧ p.1.on ws ∧ p.2 + p.1.dp ≤ 81) → fs.length + tot Cn.sz L ≤ 60 → nots + tot Cn.nt L ≤ 200 → tot Cn.nd L ≤ 10000 → (∀ x ∈ fs, x ∈ ws) →
    ∃ (w4 w5 w6 : Option W) (nots' : Nat) (fs' : List Str), whl (fTr (fV 1)) (condBody (lev Nn mm (n + 2))) m (cE v0 S.length nots v4 v5 v6) (S ++ [.l (wd L), .l (fs.map .str)]) = .nx (cE v0 S.length nots' w4 w5 w6) (S ++ [.l [], .l (fs'.map .str)]) ∧ fs'.length ≤ 60 ∧ ∀ x ∈ fs', x ∈ ws := by
  intro N
  induction N with
  | zero =>
    intro L fs nots v4 v5 v6 m hN hm hg hs ht hl hf
    cases L with
    | nil =>
      refine ⟨v4, v5, v6, nots, fs, ?_, by omega, hf⟩
      obtain ⟨m, rfl⟩ : ∃ k, m = k + 1 := ⟨m - 1, by omega⟩
      unfold whl
      simp [tru, wd]
    | cons p L =>
      have := nd_sub p.1
      obtain ⟨c, d⟩ := p
      rw [tot_cons] at hN
      dsimp only at this
      omega
  | succ N ih =>
    intro L fs nots v4 v5 v6 m hN hm hg hs ht hl hf
    obtain ⟨m, rfl⟩ : ∃ k, m = k + 1 := ⟨m - 1, by omega⟩
    cases L with
    | nil =>
      refine ⟨v4, v5, v6, nots, fs, ?_, by omega, hf⟩
      unfold whl
      simp [tru, wd]
    | cons p L =>
      obtain ⟨c, d⟩ := p
      obtain ⟨f, o, dp⟩ := hg (c, d) List.mem_cons_self
      dsimp only at f o dp
      rw [tot_cons] at hN hs ht hl
      have e1 := nd_sub c
      have e2 := sz_sub c
      have e3 := nt_sub c
      have e4 := len_nd c.sub
      have dp0 : 1 ≤ c.dp := by cases c <;> simp [Cn.dp]
      have e5 := len_tot L
      obtain ⟨w4, w5, w6, st⟩ := cond_step n v0 S c d L fs nots v4 v5 v6 f (fun x e => by
        subst e
        unfold Cn.on at o
        exact hw x o) (by omega) (by rw [List.length_append]; omega) (by omega) (by omega)
      obtain ⟨u4, u5, u6, nots', fs', g1, g2, g3⟩ := ih ((c.sub.map fun x => (x, d + 1)).reverse ++ L) (fs ++ c.nm) (nots + c.n1) w4 w5 w6 m (by rw [tot_sub]; omega) (by omega)
        (fun p hp => by
          rcases List.mem_append.mp hp with h | h
          · obtain ⟨s, hs, rfl⟩ := List.mem_map.mp (List.mem_reverse.mp h)
            have := dp_sub s hs
            exact ⟨few_sub f s hs, on_sub o s hs, by dsimp only; omega⟩
          · exact hg p (List.mem_cons_of_mem _ h)) (by rw [tot_sub, List.length_append]; omega) (by rw [tot_sub]; omega) (by rw [tot_sub]; omega)
        (fun x hx => by
          rcases List.mem_append.mp hx with h | h
          · exact hf x h
          · cases c with
            | t y =>
              rw [List.mem_singleton.mp h]
              unfold Cn.on at o
              exact o
            | n _ => cases h
            | m _ _ => cases h
            | i _ _ _ => cases h)
      refine ⟨u4, u5, u6, nots', fs', ?_, g2, g3⟩
      unfold whl
      have ht : fTr (fV 1) (cE v0 S.length nots v4 v5 v6) (S ++ [.l (wd ((c, d) :: L)), .l (fs.map .str)]) = .ok true (S ++ [.l (wd ((c, d) :: L)), .l (fs.map .str)]) := by
        simp [tru, wd]
      rw [ht]
      dsimp only [Res.toOutB]
      rw [st]
      exact g1
theorem strs_map : ∀ zs : List Str, strsP (zs.map PyData.str) = some zs
  | [] => rfl
  | z :: zs => by
    rw [List.map_cons]
    unfold strsP
    rw [strs_map zs]
    rfl
theorem nodup_le : ∀ {l ws : List Str}, l.Nodup → (∀ x ∈ l, x ∈ ws) → l.length ≤ ws.length
  | [], _, _, _ => by simp
  | x :: l, ws, h, g => by
    have hx := g x List.mem_cons_self
    have h2 := List.nodup_cons.mp h
    have := nodup_le (l := l) (ws := ws.erase x) h2.2 fun y hy => by
      have ne : y ≠ x := fun e => h2.1 (e ▸ hy)
      exact (List.mem_erase_of_ne ne).mpr (g y (List.mem_cons_of_mem _ hy))
    rw [List.length_erase_of_mem hx] at this
    have : 0 < ws.length := List.length_pos_of_mem hx
    rw [List.length_cons]
    omega
theorem dist_fold : ∀ (zs : List Str) (q : (Str → Bool) × Nat) (l : List Str), l.Nodup → (∀ x, q.1 x = true ↔ x ∈ l) → q.2 = l.length → ∃ l' : List Str, l'.Nodup ∧ (zs.foldl addTxt q).2 = l'.length ∧ ∀ x ∈ l', x ∈ l ∨ x ∈ zs
  | [], q, l, h1, h2, h3 => ⟨l, h1, h3, fun x hx => .inl hx⟩
  | z :: zs, q, l, h1, h2, h3 => by
    rw [List.foldl_cons]
    by_cases c : q.1 z = true
    · obtain ⟨l', g1, g2, g3⟩ := dist_fold zs (addTxt q z) l h1 (fun x => by
        unfold addTxt
        dsimp only
        rw [Bool.or_eq_true, h2 x, decide_eq_true_eq]
        exact ⟨fun h => h.elim id fun e => by rw [e]; exact (h2 z).mp c, .inl⟩) (by unfold addTxt; dsimp only; rw [if_pos c]; exact h3)
      exact ⟨l', g1, g2, fun x hx => (g3 x hx).elim .inl fun h => .inr (List.mem_cons_of_mem _ h)⟩
    · obtain ⟨l', g1, g2, g3⟩ := dist_fold zs (addTxt q z) (z :: l) (List.nodup_cons.mpr ⟨fun h => c ((h2 z).mpr h), h1⟩) (fun x => by
        unfold addTxt
        dsimp only
        rw [Bool.or_eq_true, h2 x, decide_eq_true_eq, List.mem_cons]
        exact or_comm) (by unfold addTxt; dsimp only; rw [if_neg c, h3, List.length_cons])
      refine ⟨l', g1, g2, fun x hx => (g3 x hx).elim (fun h => ?_) fun h => .inr (List.mem_cons_of_mem _ h)⟩
      rcases List.mem_cons.mp h with e | h
      · rw [e]
        exact .inr List.mem_cons_self
      · exact .inl h
theorem dist_le {zs ws : List Str} (h : ∀ x ∈ zs, x ∈ ws) : distinct zs ≤ ws.length := by
  obtain ⟨l, h1, h2, h3⟩ := dist_fold zs (fun _ => false, 0) [] List.Pairwise.nil (fun x => by simp) rfl
  unfold distinct
  rw [h2]
  exact nodup_le h1 fun x hx => (h3 x hx).elim (fun z => by cases z) (h x)
/-- within the bounds, over at most 8 names of ws -/
structure Cn.Ok (c : Cn) (ws : List Str) : Prop where
  few : c.few
  on : c.on ws
  names : ∀ x ∈ ws, NmOk x
  w8 : ws.length ≤ 8
  sz : c.sz ≤ 60
  nt : c.nt ≤ 200
  dp : c.dp ≤ 80
  nd : c.nd ≤ 9000
theorem cond_ok (n : Nat) (c : Cn) (S : So) (ws : List Str) (h : c.Ok ws) : lev Nn mm (n + 3) i_is_condition [.d c.d] S = .ok (.d (.bool true)) S := by
  show fDef 7 (m_is_condition (lev Nn mm (n + 2))) [.d c.d] S = _
  obtain ⟨w4, w5, w6, nots', fs', g1, g2, g3⟩ := cond_loop n (some (.d c.d)) S ws h.names 9000 [(c, 1)] [] 0 none none none 100000 (by simpa [tot] using h.nd) (by omega) (fun p hp => by
    rw [List.mem_singleton.mp hp]
    exact ⟨h.few, h.on, by have := h.dp; dsimp only; omega⟩) (by simpa [tot] using h.sz) (by simpa [tot] using h.nt) (by have := h.nd; simp [tot]; omega) (fun x hx => by cases hx)
  have dl := dist_le g3
  have w8 := h.w8
  have hb : m_is_condition (lev Nn mm (n + 2)) [some (.d c.d), none, none, none, none, none, none] S = .rt (.d (.bool true)) (S ++ [.l [], .l (fs'.map .str)]) := by
    unfold m_is_condition
    rw [seq_nx (e1 := [some (.d c.d), some (.r S.length), none, none, none, none, none]) (S1 := S ++ [.l (wd [(c, 1)])]) (by simp [fMut, fTup, allD, sizeLine_eq, wd])]
    rw [seq_nx (e1 := [some (.d c.d), some (.r S.length), some (.r (S.length + 1)), none, none, none, none]) (S1 := S ++ [.l (wd [(c, 1)]), .l (([] : List Str).map .str)]) (by simp [fMut, allD, sizeLine_eq])]
    rw [seq_nx (e1 := cE (some (.d c.d)) S.length 0 none none none) (S1 := S ++ [.l (wd [(c, 1)]), .l (([] : List Str).map .str)]) (by simp)]
    refine (seq_nx g1).trans ?_
    simp [fLenSet, asQs, seqW, strs_map, cLe]
    rw [if_pos (by omega)]
    simp
    omega
  unfold fDef
  show (match m_is_condition (lev Nn mm (n + 2)) [some (.d c.d), none, none, none, none, none, none] S with
    | .rt w S' => fin S.length w S'
    | .nx _ S' => fin S.length (.d .none) S'
    | .ex c f _ S' => .ex c f (S'.take S.length)
    | _ => .no) = _
  rw [hb]
  simp
theorem check_ok (n : Nat) (c : Cn) (S : So) (ws : List Str) (h : c.Ok ws) : lev Nn mm (n + 4) i_check_condition [.d c.d] S = .ok (.d .none) S := by
  show fDef 1 (m_check_condition (lev Nn mm (n + 3))) [.d c.d] S = _
  unfold m_check_condition
  simp [cond_ok n c S ws h, tru]
end G53

set_option linter.all false
set_option maxHeartbeats 4000000
namespace G53
open FL PySem L2
/-! two places of the store -/
def st2 (S : So) (j k : Nat) (X Y : List PyData) : So := (S.set k (.l Y)).set j (.l X)
section
variable {S : So} {j k : Nat} {X Y : List PyData}
theorem st2_gj (hj : j < S.length) : (st2 S j k X Y)[j]? = some (.l X) := by simp [st2, hj]
theorem st2_gk (hk : k < S.length) (ne : j ≠ k) : (st2 S j k X Y)[k]? = some (.l Y) := by simp [st2, hk, ne]
theorem st2_sj {X' : List PyData} : (st2 S j k X Y).set j (.l X') = st2 S j k X' Y := by simp [st2]
theorem st2_sk {Y' : List PyData} (ne : j ≠ k) : (st2 S j k X Y).set k (.l Y') = st2 S j k X Y' := by
  unfold st2
  rw [List.set_comm _ _ ne, List.set_set]
@[simp] theorem st2_len : (st2 S j k X Y).length = S.length := by simp [st2]
@[simp] theorem st2_take : (st2 S j k X Y).take S.length = st2 S j k X Y := List.take_of_length_le (by simp)
end
theorem ev_len_m (b : Bool) : ∀ (cs : List Cn), (∀ c ∈ cs, ∀ A, (c.ev A).1.length ≤ c.sz) → ∀ A, (Cn.evs b cs A).1.length ≤ Cn.szs cs
  | [], _, A => by rw [Cn.evs]; simp
  | c :: cs, h, A => by
    have h1 := h c List.mem_cons_self A
    rw [Cn.evs, Cn.szs]
    revert h1
    cases c.ev A with
    | mk q r =>
      intro h1
      have h1 : q.length ≤ c.sz := h1
      cases r with
      | inr e => show q.length ≤ _; omega
      | inl v =>
        dsimp only
        split
        · have := ev_len_m b cs (fun d hd => h d (List.mem_cons_of_mem _ hd)) (A.drop q.length)
          rw [List.length_append]
          omega
        · show q.length ≤ _; omega
mutual
theorem ev_len : ∀ (c : Cn) (A : List Str), (c.ev A).1.length ≤ c.sz
  | .t x, A => by cases A <;> rw [Cn.ev, Cn.sz] <;> simp
  | .n c, A => by
    have h1 := ev_len c A
    rw [Cn.ev, Cn.sz]
    revert h1
    cases c.ev A with
    | mk q r =>
      intro h1
      cases r <;> exact h1
  | .m b cs, A => by
    rw [Cn.ev, Cn.sz]
    exact evs_len b cs A
  | .i c x z, A => by
    have h1 := ev_len c A
    rw [Cn.ev, Cn.sz]
    revert h1
    cases c.ev A with
    | mk q r =>
      intro h1
      have h1 : q.length ≤ c.sz := h1
      cases r with
      | inr e => show q.length ≤ _; omega
      | inl v =>
        cases v with
        | true =>
          have := ev_len x (A.drop q.length)
          show (q ++ _).length ≤ _
          rw [List.length_append]
          omega
        | false =>
          have := ev_len z (A.drop q.length)
          show (q ++ _).length ≤ _
          rw [List.length_append]
          omega
theorem evs_len (b : Bool) : ∀ (cs : List Cn) (A : List Str), (Cn.evs b cs A).1.length ≤ Cn.szs cs
  | [], A => by rw [Cn.evs]; simp
  | c :: cs, A => by
    have h1 := ev_len c A
    rw [Cn.evs, Cn.szs]
    revert h1
    cases c.ev A with
    | mk q r =>
      intro h1
      have h1 : q.length ≤ c.sz := h1
      cases r with
      | inr e => show q.length ≤ _; omega
      | inl v =>
        dsimp only
        split
        · have := evs_len b cs (A.drop q.length)
          rw [List.length_append]
          omega
        · show q.length ≤ _; omega
end
mutual
theorem ev_inr : ∀ (c : Cn) (A : List Str) (e : Str), (c.ev A).2 = .inr e → e = "open" ∨ e = "failed"
  | .t x, [], e, h => by
    rw [Cn.ev] at h
    cases h
    exact .inl rfl
  | .t x, a :: A, e, h => by
    rw [Cn.ev] at h
    dsimp only at h
    split at h
    · cases h
      exact .inr rfl
    · cases h
  | .n c, A, e, h => by
    have h1 := ev_inr c A e
    rw [Cn.ev] at h
    revert h1 h
    cases c.ev A with
    | mk q r =>
      intro h h1
      cases r with
      | inr f => exact h1 h
      | inl v => cases h
  | .m b cs, A, e, h => by
    rw [Cn.ev] at h
    exact evs_inr b cs A e h
  | .i c x z, A, e, h => by
    have h1 := ev_inr c A e
    rw [Cn.ev] at h
    revert h1 h
    cases c.ev A with
    | mk q r =>
      intro h h1
      cases r with
      | inr f => exact h1 h
      | inl v =>
        cases v with
        | true => exact ev_inr x _ e h
        | false => exact ev_inr z _ e h
theorem evs_inr (b : Bool) : ∀ (cs : List Cn) (A : List Str) (e : Str), (Cn.evs b cs A).2 = .inr e → e = "open" ∨ e = "failed"
  | [], A, e, h => by
    rw [Cn.evs] at h
    cases h
  | c :: cs, A, e, h => by
    have h1 := ev_inr c A e
    rw [Cn.evs] at h
    revert h1 h
    cases c.ev A with
    | mk q r =>
      intro h h1
      cases r with
      | inr f => exact h1 h
      | inl v =>
        dsimp only at h
        split at h
        · exact evs_inr b cs _ e h
        · cases h
end
@[simp] theorem ix_tup2 (x y z : PyData) (xs : List PyData) (S : So) : oIx (.d (.tuple (x :: y :: z :: xs))) (.d (.int 2)) S = .ok (.d z) S := by
  simp
  rw [if_pos (by omega)]
  rfl
@[simp] theorem ix_tup3 (x y z u : PyData) (xs : List PyData) (S : So) : oIx (.d (.tuple (x :: y :: z :: u :: xs))) (.d (.int 3)) S = .ok (.d u) S := by
  simp
  rw [if_pos (by omega)]
  rfl
@[simp] theorem sl_2 (x y : PyData) (xs : List PyData) (S : So) : oSl (.d (.tuple (x :: y :: xs))) (some 2) none S = .ok (.d (.tuple xs)) S := by
  unfold oSl
  simp [HT.sIx, cutP]
theorem nd_pos (c : Cn) : 1 ≤ c.nd := by
  have := nd_sub c
  omega
def Ans (A : List Str) : Prop := ∀ x ∈ A, x = "yes" ∨ x = "no" ∨ x = "fails"
theorem Ans.drop {A : List Str} (h : Ans A) (n : Nat) : Ans (A.drop n) := fun x hx => h x (List.mem_of_mem_drop hx)
theorem strs_plain : ∀ A : List Str, PyData.plainAll (A.map .str) = true
  | [] => rfl
  | a :: A => by
    rw [List.map_cons, PyData.plainAll, strs_plain A]
    rfl
theorem strs_depth : ∀ A : List Str, PyData.depthAll (A.map .str) ≤ 1
  | [] => by simp [PyData.depthAll]
  | a :: A => by
    have := strs_depth A
    rw [List.map_cons, PyData.depthAll]
    simp only [PyData.depth]
    omega
theorem strs_eqv : ∀ A B : List Str, PyData.eqvAll (A.map .str) (B.map .str) = decide (A = B)
  | [], [] => rfl
  | [], _ :: _ => rfl
  | _ :: _, [] => rfl
  | a :: A, b :: B => by
    rw [List.map_cons, List.map_cons, PyData.eqvAll, strs_eqv A B, eqv_str, Bool.eq_iff_iff]
    simp
theorem cEq_strs {x y : W} {S : So} {A B : List Str} (hx : toP x S = some (.list (A.map .str))) (hy : toP y S = some (.list (B.map .str))) : cEq x y S = .ok (.d (.bool (decide (A = B)))) S := by
  have d1 : PyData.depth (.list (A.map .str)) ≤ 150 := by
    have := strs_depth A
    simp only [PyData.depth]
    omega
  unfold cEq oEq
  rw [hx, hy]
  dsimp only
  rw [if_pos ⟨by rw [PyData.plain]; exact strs_plain A, by rw [PyData.plain]; exact strs_plain B, d1⟩]
  simp only [Bool.false_eq_true, if_false, PyData.eqv, strs_eqv]
@[simp] theorem toP_d (d : PyData) (S : So) : toP (.d d) S = some d := rfl
theorem toP_r {S : So} {k : Nat} {X : List PyData} (h : S[k]? = some (.l X)) : toP (.r k) S = some (.list X) := by
  show (match S[k]? with
    | some (.l xs) => some (PyData.list xs)
    | _ => none) = _
  rw [h]
theorem end_t (S : So) (j k : Nat) (hj : j < S.length) (hk : k < S.length) (ne : j ≠ k) (n : Nat) (x : Str) (A a : List Str) (hA : Ans A) (hl : a.length + 1 ≤ 1000) :
    lev Nn mm (n + 1) i__law_end [.d (Cn.t x).d, .r j, .r k] (st2 S j k (A.map .str) (a.map .str)) =
      .ok (.d (.str (endS ((Cn.t x).ev A).2))) (st2 S j k ((A.drop ((Cn.t x).ev A).1.length).map .str) ((a ++ ((Cn.t x).ev A).1).map .str)) := by
  have e1 : (Cn.t x).d = .tuple [.str "test", .str x] := by rw [Cn.d]
  rw [e1]
  show fDef 7 (m__law_end (lev Nn mm n)) [.d (.tuple [.str "test", .str x]), .r j, .r k] _ = _
  unfold m__law_end
  have c1 : ∀ T : So, T[j]? = some (.l (A.map .str)) → cEq (.r j) (.d (.list [])) T = .ok (.d (.bool (decide (A = [])))) T := fun T hT => cEq_strs (B := []) (toP_r hT) rfl
  have c2 : cEq (.r j) (.d (.list [])) (st2 S j k (A.map .str) ((a ++ [x]).map .str)) = .ok (.d (.bool (decide (A = [])))) (st2 S j k (A.map .str) ((a ++ [x]).map .str)) := c1 _ (st2_gj hj)
  have s1 : (fM oAppend (fV 2) (fCons (f2 oIx (fV 0) (fC (.int 1))) fNil)) [some (.d (.tuple [.str "test", .str x])), some (.r j), some (.r k), none, none, none, none] (st2 S j k (A.map .str) (a.map .str)) = .ok (.d .none) (st2 S j k (A.map .str) ((a ++ [x]).map .str)) := by
    simp [fM, st2_gk hk ne, oAppend, sizeLine_eq, st2_sk ne, -oIx]
    omega
  simp [asB, eqv_str, s1, -oIx, -List.map_append]
  cases A with
  | nil =>
    rw [Cn.ev]
    simp only [List.map_nil] at c2
    simp [fLst, allD, sizeLine_eq, asB, endS, c2, -List.map_append]
  | cons an A =>
    rw [Cn.ev]
    simp only [List.map_cons] at c2
    have g1 : (st2 S j k (.str an :: A.map .str) ((a ++ [x]).map .str))[j]? = some (.l (.str an :: A.map .str)) := st2_gj hj
    have s2 : (fM oPopAt (fV 1) (fCons (fC (.int 0)) fNil)) [some (.d (.tuple [.str "test", .str x])), some (.r j), some (.r k), none, none, none, none] (st2 S j k (.str an :: A.map .str) ((a ++ [x]).map .str)) = .ok (.d (.str an)) (st2 S j k (A.map .str) ((a ++ [x]).map .str)) := by
      simp [fM, g1, oPopAt, seqIndex?, st2_sj, -List.map_append]
    simp [fLst, allD, sizeLine_eq, asB, endS, c2, s2, fIf, eqv_str, -List.map_append]
    rcases hA an List.mem_cons_self with e | e | e
    · subst e
      have k1 : ("yes" : Str) ≠ "fails" := by decide
      simp [k1, endS]
    · subst e
      have k1 : ("no" : Str) ≠ "fails" := by decide
      have k2 : ("no" : Str) ≠ "yes" := by decide
      simp [k1, k2, endS]
    · subst e
      simp [endS]
end G53

set_option linter.all false
set_option maxHeartbeats 4000000
namespace G53
open FL PySem L2
def endTail (c : Cs) : FS := (fSeq (fIfS (fB (f2 cEq (f2 oIx (fV 0) (fC (.int 0))) (fC (.str "not")))) 
      (fRet (fGet2 (fDisp ((.inr "yes", (fC (.str "no"))) :: ((.inr "no", (fC (.str "yes"))) :: []))) (fV 4) (fV 4))) 
      fNext) 
    (fSeq (fIfS (fB (f2 cNi (fV 4) (fLst (fCons (fC (.str "yes")) (fCons (fC (.str "no")) fNil))))) 
      (fRet (fV 4)) 
      fNext) 
    (fSeq (fIfS (fB (f2 cEq (f2 oIx (fV 0) (fC (.int 0))) (fC (.str "if")))) 
      (fRet (fCall 3 (c i__law_end) [] (fCons (fIf (fB (f2 cEq (fV 4) (fC (.str "yes")))) (f2 oIx (fV 0) (fC (.int 2))) (f2 oIx (fV 0) (fC (.int 3)))) (fCons (fV 1) (fCons (fV 2) fNil))))) 
      fNext) 
    (fSeq (fSet 5 (fIf (fB (f2 cEq (f2 oIx (fV 0) (fC (.int 0))) (fC (.str "and")))) (fC (.str "no")) (fC (.str "yes")))) 
    (fSeq (fIfS (fB (f2 cEq (fV 4) (fV 5))) 
      (fRet (fV 5)) 
      fNext) 
    (fSeq (fSet 6 (fIf (fB (f2 cEq (fB1 oLen (fCons (fV 0) fNil)) (fC (.int 3)))) (f2 oIx (fV 0) (fC (.int 2))) (f2 oAdd (fTup (fCons (f2 oIx (fV 0) (fC (.int 0))) fNil)) (fSl (fV 0) (fP (fC (.int 2))) fNoP)))) 
    (fRet (fCall 3 (c i__law_end) [] (fCons (fV 6) (fCons (fV 1) (fCons (fV 2) fNil)))))))))))
abbrev eE (d : PyData) (j k : Nat) (f : Str) : Ev := [some (.d d), some (.r j), some (.r k), none, some (.d (.str f)), none, none]
theorem end_head (n j k : Nat) (kind : Str) (y : PyData) (ys : List PyData) (f : Str) (T T1 : So) (hk : kind ≠ "test") (h : lev Nn mm n i__law_end [.d y, .r j, .r k] T = .ok (.d (.str f)) T1) :
    m__law_end (lev Nn mm n) [some (.d (.tuple (.str kind :: y :: ys))), some (.r j), some (.r k), none, none, none, none] T = endTail (lev Nn mm n) (eE (.tuple (.str kind :: y :: ys)) j k f) T1 := by
  unfold m__law_end
  rw [seq_nx (e1 := [some (.d (.tuple (.str kind :: y :: ys))), some (.r j), some (.r k), none, none, none, none]) (S1 := T) (by simp [asB, eqv_str, hk, -oIx])]
  rw [seq_nx (e1 := eE (.tuple (.str kind :: y :: ys)) j k f) (S1 := T1) (by simp [h, -oIx])]
  rfl
@[simp] theorem ny : (("no" : Str) = "yes") = False := eq_false (by decide)
@[simp] theorem yn : (("yes" : Str) = "no") = False := eq_false (by decide)
abbrev yesno : List (Key × PyData) := [(.inr "yes", .str "no"), (.inr "no", .str "yes")]
theorem look_turn (f : Str) : look yesno (.d (.str f)) = some (if f = "yes" then some (.str "no") else if f = "no" then some (.str "yes") else none) := by
  have k1 : ¬ ("yes" : Str) = "no" := by decide
  have k2 : ∀ g : Str, ((Sum.inr g : Key) = .inr f) = (g = f) := fun g => by simp
  unfold look asKey valP yesno
  by_cases c : f = "yes"
  · subst c
    simp
  · by_cases c2 : f = "no"
    · subst c2
      simp [k1]
    · have c' : ¬ ("yes" : Str) = f := fun e => c e.symm
      have c2' : ¬ ("no" : Str) = f := fun e => c2 e.symm
      simp [c, c2, c', c2', List.find?_cons]
theorem end_not (n j k : Nat) (ys : List PyData) (f : Str) (T : So) :
    endTail (lev Nn mm n) (eE (.tuple (.str "not" :: ys)) j k f) T = .rt (.d (.str (if f = "yes" then "no" else if f = "no" then "yes" else f))) T := by
  have hd : fDisp ((.inr "yes", (fC (.str "no"))) :: ((.inr "no", (fC (.str "yes"))) :: [])) (eE (.tuple (.str "not" :: ys)) j k f) T = .ok (.k yesno) T := by
    have : mergeP [] yesno = yesno := by rfl
    simp [fDisp, fPairs]
    exact this
  unfold endTail
  rw [seq_rt (w := .d (.str (if f = "yes" then "no" else if f = "no" then "yes" else f))) (S1 := T) ?_]
  have hg : fGet2 (fDisp ((.inr "yes", (fC (.str "no"))) :: ((.inr "no", (fC (.str "yes"))) :: []))) (fV 4) (fV 4) (eE (.tuple (.str "not" :: ys)) j k f) T = .ok (.d (.str (if f = "yes" then "no" else if f = "no" then "yes" else f))) T := by
    unfold fGet2
    rw [hd]
    simp only [Res.bind, asD, fV, eE, List.getElem?_cons_succ, List.getElem?_cons_zero, look_turn]
    by_cases c : f = "yes"
    · simp [c]
    · by_cases c2 : f = "no"
      · simp [c2]
      · simp [c, c2]
  simp [asB, eqv_str, hg, -oIx]
theorem cNi_yn (f : Str) (T : So) : cNi (.d (.str f)) (.d (.list [.str "yes", .str "no"])) T = .ok (.d (.bool (!(decide (f = "yes") || decide (f = "no"))))) T := by
  unfold cNi oOr oIn
  simp [seqP, PyData.plain, PyData.plainAll, PyData.depth, eqv_str]
  congr 3
  · by_cases c : f = "yes"
    · simp [c]
    · have c' : ¬ ("yes" : Str) = f := fun e => c e.symm
      simp [c, c']
  · by_cases c : f = "no"
    · simp [c]
    · have c' : ¬ ("no" : Str) = f := fun e => c e.symm
      simp [c, c']
/-- what is no end goes up -/
theorem end_up (n j k : Nat) (kind : Str) (ys : List PyData) (f : Str) (T : So) (hk : kind ≠ "not") (h1 : f ≠ "yes") (h2 : f ≠ "no") : endTail (lev Nn mm n) (eE (.tuple (.str kind :: ys)) j k f) T = .rt (.d (.str f)) T := by
  unfold endTail
  rw [seq_nx (e1 := eE (.tuple (.str kind :: ys)) j k f) (S1 := T) (by simp [asB, eqv_str, hk, -oIx])]
  rw [seq_rt (w := .d (.str f)) (S1 := T) (by simp [fLst, allD, sizeLine_eq, cNi_yn, h1, h2, asB])]
theorem end_if (n j k : Nat) (a x z : PyData) (b : Bool) (T T1 : So) (g : W) (h : lev Nn mm n i__law_end [.d (if b then x else z), .r j, .r k] T = .ok g T1) :
    endTail (lev Nn mm n) (eE (.tuple [.str "if", a, x, z]) j k (if b then "yes" else "no")) T = .rt g T1 := by
  have k1 : ("if" : Str) ≠ "not" := by decide
  have k2 : ("no" : Str) ≠ "yes" := by decide
  unfold endTail
  rw [seq_nx (e1 := eE (.tuple [.str "if", a, x, z]) j k (if b then "yes" else "no")) (S1 := T) (by simp [asB, eqv_str, k1, -oIx])]
  rw [seq_nx (e1 := eE (.tuple [.str "if", a, x, z]) j k (if b then "yes" else "no")) (S1 := T) (by cases b <;> simp [fLst, allD, sizeLine_eq, cNi_yn, asB])]
  rw [seq_rt (w := g) (S1 := T1) (by
    cases b
    · have h' : lev Nn mm n i__law_end [.d z, .r j, .r k] T = .ok g T1 := h
      simp [asB, eqv_str, fIf, h', k2, -oIx]
    · have h' : lev Nn mm n i__law_end [.d x, .r j, .r k] T = .ok g T1 := h
      simp [asB, eqv_str, fIf, h', -oIx])]
/-- an and, an or that is settled -/
theorem end_stop (n j k : Nat) (b : Bool) (ys : List PyData) (T : So) : endTail (lev Nn mm n) (eE (.tuple (.str (if b then "and" else "or") :: ys)) j k (if b then "no" else "yes")) T = .rt (.d (.str (if b then "no" else "yes"))) T := by
  unfold endTail
  have k0 : ("no" : Str) ≠ "yes" := by decide
  cases b
  · have k1 : ("or" : Str) ≠ "not" := by decide
    have k2 : ("or" : Str) ≠ "if" := by decide
    have k3 : ("or" : Str) ≠ "and" := by decide
    simp [asB, eqv_str, k1, k2, k3, fLst, allD, sizeLine_eq, cNi_yn, fIf, -oIx]
  · have k1 : ("and" : Str) ≠ "not" := by decide
    have k2 : ("and" : Str) ≠ "if" := by decide
    simp [asB, eqv_str, k1, k2, fLst, allD, sizeLine_eq, cNi_yn, fIf, k0, -oIx]
theorem end_on2 (n j k : Nat) (b : Bool) (y z : PyData) (T T1 : So) (g : W) (h : lev Nn mm n i__law_end [.d z, .r j, .r k] T = .ok g T1) :
    endTail (lev Nn mm n) (eE (.tuple [.str (if b then "and" else "or"), y, z]) j k (if b then "yes" else "no")) T = .rt g T1 := by
  unfold endTail
  have k0 : ("no" : Str) ≠ "yes" := by decide
  have k4 : ("yes" : Str) ≠ "no" := by decide
  cases b
  · have k1 : ("or" : Str) ≠ "not" := by decide
    have k2 : ("or" : Str) ≠ "if" := by decide
    have k3 : ("or" : Str) ≠ "and" := by decide
    simp [asB, eqv_str, k0, k1, k2, k3, fLst, allD, sizeLine_eq, cNi_yn, fIf, oLen, lenW, seqW, h, -oIx]
  · have k1 : ("and" : Str) ≠ "not" := by decide
    have k2 : ("and" : Str) ≠ "if" := by decide
    simp [asB, eqv_str, k1, k2, k4, fLst, allD, sizeLine_eq, cNi_yn, fIf, oLen, lenW, seqW, h, -oIx]
theorem add_tt (x : PyData) (xs ys : List PyData) (S : So) (h : xs.length + ys.length ≤ 10000) : oAdd (.d (.tuple (x :: xs))) (.d (.tuple ys)) S = .ok (.d (.tuple (x :: xs ++ ys))) S := by
  simp [oAdd, oI, asI, oAddS, asS, oAddL, asL, oAddT, asT, sizeLine_eq]
  omega
theorem end_on (n j k : Nat) (b : Bool) (y z u : PyData) (zs : List PyData) (hl : zs.length ≤ 1000) (T T1 : So) (g : W) (h : lev Nn mm n i__law_end [.d (.tuple (.str (if b then "and" else "or") :: z :: u :: zs)), .r j, .r k] T = .ok g T1) :
    endTail (lev Nn mm n) (eE (.tuple (.str (if b then "and" else "or") :: y :: z :: u :: zs)) j k (if b then "yes" else "no")) T = .rt g T1 := by
  unfold endTail
  have k0 : ("no" : Str) ≠ "yes" := by decide
  have k4 : ("yes" : Str) ≠ "no" := by decide
  have e1 : ¬ ((zs.length : Int) + 1 + 1 + 1 + 1 = 3) := by omega
  cases b
  · have k1 : ("or" : Str) ≠ "not" := by decide
    have k2 : ("or" : Str) ≠ "if" := by decide
    have k3 : ("or" : Str) ≠ "and" := by decide
    have h' : lev Nn mm n i__law_end [.d (.tuple (.str "or" :: z :: u :: zs)), .r j, .r k] T = .ok g T1 := h
    simp [asB, eqv_str, k0, k1, k2, k3, fLst, fTup, allD, sizeLine_eq, cNi_yn, fIf, oLen, lenW, seqW, e1, add_tt _ [] (z :: u :: zs) T (by simp; omega), h', -oIx, -oSl]
  · have k1 : ("and" : Str) ≠ "not" := by decide
    have k2 : ("and" : Str) ≠ "if" := by decide
    have h' : lev Nn mm n i__law_end [.d (.tuple (.str "and" :: z :: u :: zs)), .r j, .r k] T = .ok g T1 := h
    simp [asB, eqv_str, k1, k2, k4, fLst, fTup, allD, sizeLine_eq, cNi_yn, fIf, oLen, lenW, seqW, e1, add_tt _ [] (z :: u :: zs) T (by simp; omega), h', -oIx, -oSl]
end G53

set_option linter.all false
set_option maxHeartbeats 4000000
namespace G53
open FL PySem L2
theorem fdef_d {k : Nat} {b : FS} {ws : List W} {S S1 : So} {x : PyData} (h : b (ws.map some ++ List.replicate (k - ws.length) none) S = .rt (.d x) S1) : fDef k b ws S = .ok (.d x) (S1.take S.length) := by
  unfold fDef
  rw [h]
  rfl
theorem evs_one (b : Bool) (d : Cn) (A : List Str) : Cn.evs b [d] A = d.ev A := by
  rw [Cn.evs]
  cases d.ev A with
  | mk q r =>
    cases r with
    | inr e => rfl
    | inl v =>
      dsimp only
      split
      · rename_i h
        rw [Cn.evs, List.append_nil, h]
      · rfl
def turnR : Bool ⊕ Str → Bool ⊕ Str
  | .inl b => .inl (!b)
  | .inr e => .inr e
theorem turn_end (r : Bool ⊕ Str) (h : ∀ e, r = .inr e → e = "open" ∨ e = "failed") :
    (if endS r = "yes" then ("no" : Str) else if endS r = "no" then "yes" else endS r) = endS (turnR r) := by
  cases r with
  | inl b => cases b <;> simp [endS, turnR]
  | inr e =>
    rcases h e rfl with e1 | e1
    · subst e1
      rfl
    · subst e1
      rfl
theorem not_yn {r : Str} (h : r = "open" ∨ r = "failed") : r ≠ "yes" ∧ r ≠ "no" := by
  rcases h with e | e <;> subst e <;> exact ⟨by decide, by decide⟩
section
variable (S : So) (j k : Nat) (hj : j < S.length) (hk : k < S.length) (ne : j ≠ k)
include hj hk ne
theorem end_ok : ∀ (n : Nat) (c : Cn) (A a : List Str), c.nd ≤ n → c.few → Ans A → a.length + c.sz ≤ 1000 →
    lev Nn mm n i__law_end [.d c.d, .r j, .r k] (st2 S j k (A.map .str) (a.map .str)) =
      .ok (.d (.str (endS (c.ev A).2))) (st2 S j k ((A.drop (c.ev A).1.length).map .str) ((a ++ (c.ev A).1).map .str))
  | 0, c, A, a, h, _, _, _ => by
    have := nd_pos c
    omega
  | n + 1, .t x, A, a, _, _, hA, hl => end_t S j k hj hk ne n x A a hA (by rw [Cn.sz] at hl; exact hl)
  | n + 1, .n c, A, a, h, f, hA, hl => by
    rw [Cn.nd] at h
    rw [Cn.sz] at hl
    unfold Cn.few at f
    have ih := end_ok n c A a (by omega) f hA hl
    have hi := ev_inr c A
    have e1 : (Cn.n c).d = .tuple [.str "not", c.d] := by rw [Cn.d]
    have e2 : (Cn.n c).ev A = ((c.ev A).1, turnR (c.ev A).2) := by
      rw [Cn.ev]
      all_goals
        cases c.ev A with
        | mk q r => cases r <;> rfl
    rw [e1, e2]
    show fDef 7 (m__law_end (lev Nn mm n)) [.d (.tuple [.str "not", c.d]), .r j, .r k] _ = _
    rw [fdef_d ((end_head n j k "not" c.d [] _ _ _ (by decide) ih).trans (end_not n j k _ _ _))]
    rw [turn_end _ hi, st2_len, st2_take]
  | n + 1, .i c x z, A, a, h, f, hA, hl => by
    rw [Cn.nd] at h
    rw [Cn.sz] at hl
    unfold Cn.few at f
    have ih := end_ok n c A a (by omega) f.1 hA (by omega)
    have hi := ev_inr c A
    have hq := ev_len c A
    have e1 : (Cn.i c x z).d = .tuple [.str "if", c.d, x.d, z.d] := by rw [Cn.d]
    rw [e1, Cn.ev]
    show fDef 7 (m__law_end (lev Nn mm n)) [.d (.tuple [.str "if", c.d, x.d, z.d]), .r j, .r k] _ = _
    revert ih hi hq
    cases c.ev A with
    | mk q r =>
      intro ih hi hq
      have hq : q.length ≤ c.sz := hq
      have hh := end_head n j k "if" c.d [x.d, z.d] _ _ _ (by decide) ih
      cases r with
      | inr e =>
        obtain ⟨g1, g2⟩ := not_yn (hi e rfl)
        rw [fdef_d (hh.trans (end_up n j k "if" _ _ _ (by decide) g1 g2)), st2_len, st2_take]
      | inl v =>
        have he : endS (.inl v) = (if v then ("yes" : Str) else "no") := by cases v <;> rfl
        have hd : a ++ q = a ++ q := rfl
        have hh2 : m__law_end (lev Nn mm n) [some (.d (.tuple [.str "if", c.d, x.d, z.d])), some (.r j), some (.r k), none, none, none, none] (st2 S j k (A.map .str) (a.map .str)) =
            endTail (lev Nn mm n) (eE (.tuple [.str "if", c.d, x.d, z.d]) j k (if v then "yes" else "no")) (st2 S j k ((A.drop q.length).map .str) ((a ++ q).map .str)) := by
          rw [← he]
          exact hh
        cases v with
        | true =>
          have ix := end_ok n x (A.drop q.length) (a ++ q) (by omega) f.2.1 (hA.drop _) (by rw [List.length_append]; omega)
          rw [fdef_d (hh2.trans (end_if n j k c.d x.d z.d true _ _ _ ix)), st2_len, st2_take]
          dsimp only
          rw [List.length_append, ← List.drop_drop, List.append_assoc]
        | false =>
          have iz := end_ok n z (A.drop q.length) (a ++ q) (by omega) f.2.2 (hA.drop _) (by rw [List.length_append]; omega)
          rw [fdef_d (hh2.trans (end_if n j k c.d x.d z.d false _ _ _ iz)), st2_len, st2_take]
          dsimp only
          rw [List.length_append, ← List.drop_drop, List.append_assoc]
  | n + 1, .m b [], A, a, h, f, hA, hl => by
    unfold Cn.few at f
    simp at f
  | n + 1, .m b [c], A, a, h, f, hA, hl => by
    unfold Cn.few at f
    simp at f
  | n + 1, .m b (c :: d :: zs), A, a, h, f, hA, hl => by
    rw [Cn.nd, Cn.nds] at h
    rw [Cn.sz, Cn.szs] at hl
    unfold Cn.few Cn.fews at f
    obtain ⟨f1, f2, f3, f4⟩ := f
    have ih := end_ok n c A a (by omega) f3 hA (by omega)
    have hi := ev_inr c A
    have hq := ev_len c A
    have np := nd_pos c
    have e1 : (Cn.m b (c :: d :: zs)).d = .tuple (.str (if b then "and" else "or") :: c.d :: d.d :: zs.map Cn.d) := by rw [Cn.d, ds_map]; rfl
    have e3 : (Cn.m b (c :: d :: zs)).ev A = match c.ev A with
      | (q, .inr e) => (q, .inr e)
      | (q, .inl v) => if v = b then (q ++ (Cn.evs b (d :: zs) (A.drop q.length)).1, (Cn.evs b (d :: zs) (A.drop q.length)).2) else (q, .inl v) := by
      rw [Cn.ev, Cn.evs]
      all_goals
        cases c.ev A with
        | mk q r => cases r <;> rfl
    rw [e1, e3]
    show fDef 7 (m__law_end (lev Nn mm n)) [.d (.tuple (.str (if b then "and" else "or") :: c.d :: d.d :: zs.map Cn.d)), .r j, .r k] _ = _
    have kt : (if b then ("and" : Str) else "or") ≠ "test" := by cases b <;> decide
    have kn : (if b then ("and" : Str) else "or") ≠ "not" := by cases b <;> decide
    revert ih hi hq
    cases c.ev A with
    | mk q r =>
      intro ih hi hq
      have hq : q.length ≤ c.sz := hq
      have hh := end_head n j k (if b then "and" else "or") c.d (d.d :: zs.map Cn.d) _ _ _ kt ih
      cases r with
      | inr e =>
        obtain ⟨g1, g2⟩ := not_yn (hi e rfl)
        rw [fdef_d (hh.trans (end_up n j k _ _ _ _ kn g1 g2)), st2_len, st2_take]
      | inl v =>
        dsimp only
        by_cases hv : v = b
        · subst hv
          rw [if_pos rfl]
          have he : endS (.inl v) = (if v then ("yes" : Str) else "no") := by cases v <;> rfl
          have hh2 : m__law_end (lev Nn mm n) [some (.d (.tuple (.str (if v then "and" else "or") :: c.d :: d.d :: zs.map Cn.d))), some (.r j), some (.r k), none, none, none, none] (st2 S j k (A.map .str) (a.map .str)) =
              endTail (lev Nn mm n) (eE (.tuple (.str (if v then "and" else "or") :: c.d :: d.d :: zs.map Cn.d)) j k (if v then "yes" else "no")) (st2 S j k ((A.drop q.length).map .str) ((a ++ q).map .str)) := by
            rw [← he]
            exact hh
          cases zs with
          | nil =>
            rw [Cn.fews] at f4
            rw [Cn.szs, Cn.szs] at hl
            rw [Cn.nds, Cn.nds] at h
            have ix := end_ok n d (A.drop q.length) (a ++ q) (by omega) f4.1 (hA.drop _) (by rw [List.length_append]; omega)
            rw [fdef_d (hh2.trans (end_on2 n j k v c.d d.d _ _ _ ix)), st2_len, st2_take, evs_one]
            dsimp only
            rw [List.length_append, ← List.drop_drop, List.append_assoc]
          | cons u zs =>
            have ix := end_ok n (.m v (d :: u :: zs)) (A.drop q.length) (a ++ q) (by rw [Cn.nd]; omega) (by
              unfold Cn.few
              simp only [List.length_cons] at f1 f2 ⊢
              exact ⟨by omega, by omega, f4⟩) (hA.drop _) (by rw [List.length_append, Cn.sz]; omega)
            have e5 : (Cn.m v (d :: u :: zs)).d = .tuple (.str (if v then "and" else "or") :: d.d :: u.d :: zs.map Cn.d) := by rw [Cn.d, ds_map]; rfl
            have e6 : (Cn.m v (d :: u :: zs)).ev (A.drop q.length) = Cn.evs v (d :: u :: zs) (A.drop q.length) := by rw [Cn.ev]
            rw [e5, e6] at ix
            rw [fdef_d (hh2.trans (end_on n j k v c.d d.d u.d (zs.map Cn.d) (by simp only [List.length_cons] at f2; rw [List.length_map]; omega) _ _ _ ix)), st2_len, st2_take]
            dsimp only
            rw [List.length_append, ← List.drop_drop, List.append_assoc]
        · rw [if_neg hv]
          have he : endS (.inl v) = (if b then ("no" : Str) else "yes") := by cases v <;> cases b <;> simp_all [endS]
          rw [he] at hh ⊢
          rw [fdef_d (hh.trans (end_stop n j k b _ _)), st2_len, st2_take]
end
end G53

set_option linter.all false
set_option maxHeartbeats 4000000
namespace G53
open FL PySem L2
/-! _law_run -/
theorem st2_app (T : So) (a b : Ob) (X Y : List PyData) : st2 (T ++ [a, b]) (T.length + 1) T.length X Y = T ++ [.l Y, .l X] := by simp [st2]
theorem lawrun_ok (n : Nat) (c : Cn) (A : List Str) (T : So) (h : c.nd ≤ n) (f : c.few) (hA : Ans A) (hz : c.sz ≤ 1000) (hl : A.length ≤ 1000) :
    lev Nn mm (n + 1) i__law_run [.d c.d, .d (.list (A.map .str))] T = .ok (.d (.tuple [.tuple ((c.ev A).1.map .str), .str (endS (c.ev A).2)])) T := by
  have he := end_ok (T ++ [.l [], .l []]) (T.length + 1) T.length (by simp) (by simp) (by omega) n c A [] h f hA (by simpa using hz)
  rw [st2_app, st2_app] at he
  show fDef 4 (m__law_run (lev Nn mm n)) [.d c.d, .d (.list (A.map .str))] T = _
  have hq := ev_len c A
  have hb : m__law_run (lev Nn mm n) ([W.d c.d, .d (.list (A.map .str))].map some ++ List.replicate (4 - 2) none) T = .rt (.d (.tuple [.tuple ((c.ev A).1.map .str), .str (endS (c.ev A).2)])) (T ++ [.l (([] ++ (c.ev A).1).map .str), .l ((A.drop (c.ev A).1.length).map .str)]) := by
    unfold m__law_run
    rw [seq_nx (e1 := [some (.d c.d), some (.d (.list (A.map .str))), some (.r T.length), none]) (S1 := T ++ [.l []]) (by simp [fMut, allD, sizeLine_eq])]
    rw [seq_nx (e1 := [some (.d c.d), some (.d (.list (A.map .str))), some (.r T.length), some (.d (.str (endS (c.ev A).2)))]) (S1 := T ++ [.l (([] ++ (c.ev A).1).map .str), .l ((A.drop (c.ev A).1.length).map .str)]) (by
      have he' : lev Nn mm n i__law_end [.d c.d, .r (T.length + 1), .r T.length] (T ++ [.l [], .l (A.map .str)]) = _ := he
      simp [lstM, seqW, he'])]
    simp [tupW, fTup, allD, sizeLine_eq]
  rw [fdef_d hb]
  simp
/-! check_answers, run -/
theorem bools_true {α : Type} : ∀ l : List α, bools (l.map fun _ => PyData.bool true) = some (l.map fun _ => true)
  | [] => rfl
  | a :: l => by
    rw [List.map_cons]
    unfold bools
    rw [bools_true l]
    rfl
theorem all_true {α : Type} (l : List α) (S : So) : allW (.d (.list (l.map fun _ => .bool true))) S = .ok (.d (.bool true)) S := by
  unfold allW
  simp only [asL, bools_true]
  simp
theorem in_strs (x : Str) (B : List Str) (S : So) : cIn (.d (.str x)) (.d (.tuple (B.map .str))) S = .ok (.d (.bool (decide (x ∈ B)))) S := by
  have e : ((B.map PyData.str).any fun z => PyData.eqv z (.str x)) = decide (x ∈ B) := by
    rw [List.any_map, Bool.eq_iff_iff, List.any_eq_true, decide_eq_true_eq]
    constructor
    · rintro ⟨y, hy, h⟩
      have h' : PyData.eqv (.str y) (.str x) = true := h
      rw [eqv_str, decide_eq_true_eq] at h'
      exact h' ▸ hy
    · intro h
      refine ⟨x, h, ?_⟩
      show PyData.eqv (.str x) (.str x) = true
      rw [eqv_str, decide_eq_true_eq]
  unfold cIn oOr oIn
  simp only [toP_d, seqP]
  rw [if_pos ⟨rfl, strs_plain B, by simp [PyData.depth]⟩]
  simp [e]
theorem isi_list (S : So) (xs : List PyData) : (match tyW (.d (.list xs)) S with | some t => kitB t "list" | none => none) = some true := by
  have : kitB "list" "list" = some true := by decide +kernel
  simp [tyW, this]
theorem answers_ok (n : Nat) (A : List Str) (T : So) (hA : Ans A) (hl : A.length ≤ 200) : lev Nn mm (n + 1) i_check_answers [.d (.list (A.map .str))] T = .ok (.d .none) T := by
  show fDef 2 (m_check_answers (lev Nn mm n)) [.d (.list (A.map .str))] T = _
  unfold m_check_answers
  have hk : kitB "list" "list" = some true := by decide +kernel
  have hm := lcL_map (g := gNm 1) (te := (f2 cIn (fV 1) (fC (sg.gdt 6)))) (ev0 := [some (.d (.list (A.map .str))), none]) (S := T) (dt := PyData.str) (f := fun _ => .bool true) A []
    (fun x hx => ⟨_, rfl, by
      have h1 := in_strs x ["yes", "no", "fails"] T
      simp only [List.map_cons, List.map_nil] at h1
      have h2 := hA x hx
      simp [h1, h2]⟩) (by rw [sizeLine_eq]; simp; omega)
  have ha := all_true A T
  simp at hm ha
  simp [fIsi, tyW, hk, tru, oLen, lenW, seqW, asB, hm, ha, -lcL]
  rw [decide_eq_false (by omega)]
  simp
theorem run_ok (n : Nat) (c : Cn) (A : List Str) (T : So) (ws : List Str) (h : c.Ok ws) (hd : 2 * c.dp + 1 ≤ n) (h4 : 4 ≤ n) (hA : Ans A) (hl : A.length ≤ 200) :
    lev Nn mm (n + 1) i_run [.d c.d, .d (.list (A.map .str))] T = .ok (.d (.tuple [.tuple ((c.ev A).1.map .str), .str (endS (c.ev A).2)])) T := by
  obtain ⟨m, rfl⟩ : ∃ m, n = m + 4 := ⟨n - 4, by omega⟩
  have h1 := check_ok m c T ws h
  have h2 := answers_ok (m + 3) A T hA hl
  have h3 := rows_ok (m + 3) c T 0 (.str "yes") (.str "no") h.few (by omega) (by have := h.sz; omega)
  have h4 := walked_ok (m + 3) c A T h.few (by have := h.sz; omega)
  have h5 : lev Nn mm (m + 4) i_rows_of [.d c.d] T = .ok (.d (.list (c.rw 0 (.str "yes") (.str "no")))) T := by
    show fDef 1 (m_rows_of (lev Nn mm (m + 3))) [.d c.d] T = _
    unfold m_rows_of
    simp [h3]
  show fDef 2 (m_run (lev Nn mm (m + 4))) [.d c.d, .d (.list (A.map .str))] T = _
  unfold m_run
  simp [h1, h2, h5, h4]
end G53

set_option linter.all false
set_option maxHeartbeats 4000000
namespace G53
open FL PySem L2
/-! names keep their answers: what is asked, how it ends; .inr: the name that is missing -/
mutual
def Cn.sv (g : Str → Option Bool) : Cn → List Str × (Bool ⊕ Str)
  | .t x => match g x with
    | some b => ([x], .inl b)
    | none => ([], .inr x)
  | .n c => ((c.sv g).1, turnR (c.sv g).2)
  | .m b cs => Cn.svs g b cs
  | .i c x z => match c.sv g with
    | (q, .inr e) => (q, .inr e)
    | (q, .inl true) => (q ++ (x.sv g).1, (x.sv g).2)
    | (q, .inl false) => (q ++ (z.sv g).1, (z.sv g).2)
def Cn.svs (g : Str → Option Bool) (b : Bool) : List Cn → List Str × (Bool ⊕ Str)
  | [] => ([], .inl b)
  | c :: cs => match c.sv g with
    | (q, .inr e) => (q, .inr e)
    | (q, .inl v) => if v = b then (q ++ (Cn.svs g b cs).1, (Cn.svs g b cs).2) else (q, .inl v)
end
def yn_ (b : Bool) : Str := if b then "yes" else "no"
/-- the dict that an assignment gives -/
def kv (K : List (Str × Bool)) : Dic := K.map fun p => (.inr p.1, .str (yn_ p.2))
def gK (K : List (Str × Bool)) (x : Str) : Option Bool := (K.find? fun p => decide (p.1 = x)).map (·.2)
theorem val_kv (x : Str) : ∀ K : List (Str × Bool), valP (kv K) (.inr x) = (gK K x).map fun b => .str (yn_ b)
  | [] => rfl
  | (y, b) :: K => by
    have ih := val_kv x K
    unfold kv valP gK at *
    rw [List.map_cons, List.find?_cons, List.find?_cons]
    by_cases c : y = x
    · subst c
      simp
    · have c' : decide ((Sum.inr y : Key) = .inr x) = false := by simp [c]
      have c2 : decide (y = x) = false := by simp [c]
      simp only [c', c2]
      exact ih
def rwBody : FS := (fSeq (fAsg (gTp 3 (gCs (gNm 5) (gCs (gNm 6) (gCs (gNm 7) gNo)))) (f2 oIx (fV 0) (fV 4))) 
      (fSeq (fIfS (fB (f2 cNi (fV 5) (fV 2))) 
        (fRaiseF 4 (fV 5)) 
        fNext) 
      (fSeq (fDrop (fM oAppend (fV 3) (fCons (fV 5) fNil))) 
      (fSeq (fIfS (fB (f2 cEq (f2 oIx (fV 2) (fV 5)) (fC (.str "fails")))) 
        (fRet (fTup (fCons (fV 3) (fCons (fC (.str "failed")) fNil)))) 
        fNext) 
      (fSet 4 (fIf (fB (f2 cEq (f2 oIx (fV 2) (fV 5)) (fC (.str "yes")))) (fV 6) (fV 7)))))))
abbrev rE (z1 : Option W) (R : List PyData) (K : List (Str × Bool)) (k : Nat) (t : PyData) (v5 v6 v7 : Option W) : Ev := [some (.d (.list R)), z1, some (.k (kv K)), some (.r k), some (.d t), v5, v6, v7]
theorem ni_kv (x : Str) (K : List (Str × Bool)) (S : So) : cNi (.d (.str x)) (.k (kv K)) S = .ok (.d (.bool !(gK K x).isSome)) S := by
  simp [cNi, oOr, oIn, seqP, toP, oInK, asD, look, asKey, val_kv]
theorem ix_kv (x : Str) (K : List (Str × Bool)) (S : So) (b : Bool) (h : gK K x = some b) : oIx (.k (kv K)) (.d (.str x)) S = .ok (.d (.str (yn_ b))) S := by
  simp [oIx, oOr, oIxT, oIxL, oIxK, asT, asL, asD, look, asKey, val_kv, h]
section
variable {z1 : Option W}
theorem rw_step (R : List PyData) (K : List (Str × Bool)) (S : So) (a : List Str) (s : Nat) (x : Str) (y g : PyData) (v5 v6 v7 : Option W) (hR : R[s]? = some (.tuple [.str x, y, g])) (ha : a.length < 1000) (b : Bool) (hb : gK K x = some b) :
    rwBody (rE z1 R K S.length (.int s) v5 v6 v7) (S ++ [.l (a.map .str)]) =
      .nx (rE z1 R K S.length (if b then y else g) (some (.d (.str x))) (some (.d y)) (some (.d g))) (S ++ [.l ((a ++ [x]).map .str)]) := by
  have i1 : ∀ T, oIx (.d (.list R)) (.d (.int s)) T = .ok (.d (.tuple [.str x, y, g])) T := fun T => ixL_nat R s _ T hR
  have kf : ∀ b, (yn_ b = "fails") = False := fun b => eq_false (by cases b <;> decide)
  unfold rwBody rE
  rw [seq_nx (e1 := [some (.d (.list R)), z1, some (.k (kv K)), some (.r S.length), some (.d (.int s)), some (.d (.str x)), some (.d y), some (.d g)]) (S1 := S ++ [.l (a.map .str)]) (by simp [fAsg, gTp, gCs, gNo, i1, -oIx])]
  rw [seq_nx (e1 := [some (.d (.list R)), z1, some (.k (kv K)), some (.r S.length), some (.d (.int s)), some (.d (.str x)), some (.d y), some (.d g)]) (S1 := S ++ [.l (a.map .str)]) (by simp [ni_kv, hb, asB])]
  rw [seq_nx (e1 := [some (.d (.list R)), z1, some (.k (kv K)), some (.r S.length), some (.d (.int s)), some (.d (.str x)), some (.d y), some (.d g)]) (S1 := S ++ [.l ((a ++ [x]).map .str)]) (by simp [fM, oAppend, sizeLine_eq]; rw [if_pos (by omega)])]
  rw [seq_nx (e1 := [some (.d (.list R)), z1, some (.k (kv K)), some (.r S.length), some (.d (.int s)), some (.d (.str x)), some (.d y), some (.d g)]) (S1 := S ++ [.l ((a ++ [x]).map .str)]) (by simp [ix_kv x K _ b hb, asB, eqv_str, kf, -oIx])]
  cases b
  · simp [ix_kv x K _ false hb, fIf, asB, eqv_str, yn_, -oIx]
  · simp [ix_kv x K _ true hb, fIf, asB, eqv_str, yn_, -oIx]
theorem rw_miss (R : List PyData) (K : List (Str × Bool)) (S : So) (a : List Str) (s : Nat) (x : Str) (y g : PyData) (v5 v6 v7 : Option W) (hR : R[s]? = some (.tuple [.str x, y, g])) (hb : gK K x = none) :
    rwBody (rE z1 R K S.length (.int s) v5 v6 v7) (S ++ [.l (a.map .str)]) =
      .ex 4 (.str x) (rE z1 R K S.length (.int s) (some (.d (.str x))) (some (.d y)) (some (.d g))) (S ++ [.l (a.map .str)]) := by
  have i1 : ∀ T, oIx (.d (.list R)) (.d (.int s)) T = .ok (.d (.tuple [.str x, y, g])) T := fun T => ixL_nat R s _ T hR
  unfold rwBody rE
  rw [seq_nx (e1 := [some (.d (.list R)), z1, some (.k (kv K)), some (.r S.length), some (.d (.int s)), some (.d (.str x)), some (.d y), some (.d g)]) (S1 := S ++ [.l (a.map .str)]) (by simp [fAsg, gTp, gCs, gNo, i1, -oIx])]
  simp [ni_kv, hb, asB, fRaiseF]
theorem wT2_int (R : List PyData) (K : List (Str × Bool)) (k : Nat) (s : Int) (v5 v6 v7 : Option W) (S : So) : wT (rE z1 R K k (.int s) v5 v6 v7) S = .ok true S := by
  have e : kitB "int" "int" = some true := by decide +kernel
  simp [fIsi, tyW, e, tru]
theorem wT2_str (R : List PyData) (K : List (Str × Bool)) (k : Nat) (z : Str) (v5 v6 v7 : Option W) (S : So) : wT (rE z1 R K k (.str z) v5 v6 v7) S = .ok false S := by
  have e : kitB "str" "int" = some false := by decide +kernel
  simp [fIsi, tyW, e, tru]
def Wq (z1 : Option W) (R : List PyData) (K : List (Str × Bool)) (S : So) (a : List Str) (s : Nat) (y g : PyData) (q : List Str) : Bool ⊕ Str → Prop
  | .inl b => ∀ v5 v6 v7, ∃ w5 w6 w7, ∀ m, whl wT rwBody (m + q.length) (rE z1 R K S.length (.int s) v5 v6 v7) (S ++ [.l (a.map .str)]) = whl wT rwBody m (rE z1 R K S.length (if b then y else g) w5 w6 w7) (S ++ [.l ((a ++ q).map .str)])
  | .inr x => ∀ v5 v6 v7 m, ∃ e, whl wT rwBody (m + 1 + q.length) (rE z1 R K S.length (.int s) v5 v6 v7) (S ++ [.l (a.map .str)]) = .ex 4 (.str x) e (S ++ [.l ((a ++ q).map .str)])
theorem Wq.then {R : List PyData} {K : List (Str × Bool)} {S : So} {a q q2 : List Str} {s s2 : Nat} {y g y2 g2 : PyData} {b : Bool} {r : Bool ⊕ Str} (h1 : Wq z1 R K S a s y2 g2 q (.inl b)) (e : (if b then y2 else g2) = .int s2) (h2 : Wq z1 R K S (a ++ q) s2 y g q2 r) : Wq z1 R K S a s y g (q ++ q2) r := by
  cases r with
  | inl b2 =>
    intro v5 v6 v7
    obtain ⟨w5, w6, w7, h⟩ := h1 v5 v6 v7
    obtain ⟨u5, u6, u7, h'⟩ := h2 w5 w6 w7
    refine ⟨u5, u6, u7, fun m => ?_⟩
    rw [List.length_append, show m + (q.length + q2.length) = (m + q2.length) + q.length by omega, h, e, h' m, List.append_assoc]
  | inr e2 =>
    intro v5 v6 v7 m
    obtain ⟨w5, w6, w7, h⟩ := h1 v5 v6 v7
    obtain ⟨e3, h'⟩ := h2 w5 w6 w7 m
    refine ⟨e3, ?_⟩
    rw [List.length_append, show m + 1 + (q.length + q2.length) = (m + 1 + q2.length) + q.length by omega, h, e, h', List.append_assoc]
theorem Wq.to {R : List PyData} {K : List (Str × Bool)} {S : So} {a q : List Str} {s : Nat} {y g y2 g2 : PyData} {b : Bool} (h : Wq z1 R K S a s y2 g2 q (.inl b)) (e : (if b then y2 else g2) = if b then y else g) : Wq z1 R K S a s y g q (.inl b) := by
  intro v5 v6 v7
  obtain ⟨w5, w6, w7, h⟩ := h v5 v6 v7
  exact ⟨w5, w6, w7, fun m => by rw [h m, e]⟩
theorem Wq.turn {R : List PyData} {K : List (Str × Bool)} {S : So} {a q : List Str} {s : Nat} {y g : PyData} {r : Bool ⊕ Str} (h : Wq z1 R K S a s g y q r) : Wq z1 R K S a s y g q (turnR r) := by
  cases r with
  | inr e => exact h
  | inl b =>
    intro v5 v6 v7
    obtain ⟨w5, w6, w7, h⟩ := h v5 v6 v7
    refine ⟨w5, w6, w7, fun m => ?_⟩
    rw [h m]
    cases b <;> rfl
theorem rw_t (R : List PyData) (K : List (Str × Bool)) (S : So) (a : List Str) (s : Nat) (x : Str) (y g : PyData) (hR : R[s]? = some (.tuple [.str x, y, g])) (ha : a.length < 1000) :
    Wq z1 R K S a s y g ((Cn.t x).sv (gK K)).1 ((Cn.t x).sv (gK K)).2 := by
  rw [Cn.sv]
  cases hb : gK K x with
  | none =>
    intro v5 v6 v7 m
    refine ⟨rE z1 R K S.length (.int s) (some (.d (.str x))) (some (.d y)) (some (.d g)), ?_⟩
    show whl wT rwBody (m + 1) _ _ = _
    unfold whl
    rw [wT2_int]
    dsimp only [Res.toOutB]
    rw [rw_miss R K S a s x y g v5 v6 v7 hR hb]
    simp
  | some b =>
    intro v5 v6 v7
    refine ⟨some (.d (.str x)), some (.d y), some (.d g), fun m => ?_⟩
    show whl wT rwBody (m + 1) _ _ = _
    rw [whl]
    rw [wT2_int]
    dsimp only [Res.toOutB]
    rw [rw_step R K S a s x y g v5 v6 v7 hR ha b hb]
mutual
theorem rw_ok (R : List PyData) (K : List (Str × Bool)) (S : So) : ∀ (c : Cn) (a : List Str) (s : Nat) (y g : PyData), At R s (c.rw s y g) → a.length + c.sz ≤ 1000 → c.few →
    (c.sv (gK K)).1.length ≤ c.sz ∧ Wq z1 R K S a s y g (c.sv (gK K)).1 (c.sv (gK K)).2
  | .t x, a, s, y, g, h, hl, _ => by
    have hR : R[s]? = some (.tuple [.str x, y, g]) := by
      have := h 0 (by rw [Cn.rw]; simp)
      rw [Cn.rw] at this
      simpa using this
    rw [Cn.sz] at hl ⊢
    refine ⟨?_, rw_t R K S a s x y g hR (by omega)⟩
    rw [Cn.sv]
    cases gK K x <;> simp
  | .n c, a, s, y, g, h, hl, f => by
    rw [Cn.sz] at hl ⊢
    rw [Cn.rw] at h
    unfold Cn.few at f
    obtain ⟨h1, h2⟩ := rw_ok R K S c a s g y h hl f
    rw [Cn.sv]
    exact ⟨h1, Wq.turn h2⟩
  | .i c x z, a, s, y, g, h, hl, f => by
    rw [Cn.sz] at hl ⊢
    rw [Cn.rw, ← castN, ← castN] at h
    unfold Cn.few at f
    have hx := h.right.left
    have hz := h.right.right
    rw [rw_len] at hx hz
    rw [rw_len] at hz
    obtain ⟨h1, h2⟩ := rw_ok R K S c a s _ _ h.left (by omega) f.1
    rw [Cn.sv]
    revert h1 h2
    cases c.sv (gK K) with
    | mk q r =>
      intro h1 h2
      cases r with
      | inr e => exact ⟨by have : q.length ≤ c.sz := h1; show q.length ≤ _; omega, h2⟩
      | inl b =>
        have h1 : q.length ≤ c.sz := h1
        cases b with
        | true =>
          obtain ⟨h3, h4⟩ := rw_ok R K S x (a ++ q) (s + c.sz) y g hx (by rw [List.length_append]; omega) f.2.1
          exact ⟨by show (q ++ _).length ≤ _; rw [List.length_append]; omega, Wq.then h2 rfl h4⟩
        | false =>
          obtain ⟨h3, h4⟩ := rw_ok R K S z (a ++ q) (s + c.sz + x.sz) y g hz (by rw [List.length_append]; omega) f.2.2
          exact ⟨by show (q ++ _).length ≤ _; rw [List.length_append]; omega, Wq.then h2 rfl h4⟩
  | .m b cs, a, s, y, g, h, hl, f => by
    rw [Cn.sz] at hl ⊢
    rw [Cn.rw] at h
    unfold Cn.few at f
    rw [Cn.sv]
    exact rws_ok R K S b cs a s y g (fun e => by rw [e] at f; simp at f) h hl f.2.2
theorem rws_ok (R : List PyData) (K : List (Str × Bool)) (S : So) (b : Bool) : ∀ (cs : List Cn) (a : List Str) (s : Nat) (y g : PyData), cs ≠ [] → At R s (Cn.rws b cs s y g) → a.length + Cn.szs cs ≤ 1000 → Cn.fews cs →
    (Cn.svs (gK K) b cs).1.length ≤ Cn.szs cs ∧ Wq z1 R K S a s y g (Cn.svs (gK K) b cs).1 (Cn.svs (gK K) b cs).2
  | [], _, _, _, _, ne, _, _, _ => absurd rfl ne
  | [c], a, s, y, g, _, h, hl, f => by
    rw [Cn.szs, Cn.szs] at hl ⊢
    rw [Cn.rws] at h
    unfold Cn.fews at f
    obtain ⟨h1, h2⟩ := rw_ok R K S c a s y g h (by omega) f.1
    rw [Cn.svs]
    revert h1 h2
    cases c.sv (gK K) with
    | mk q r =>
      intro h1 h2
      have h1 : q.length ≤ c.sz := h1
      cases r with
      | inr e => exact ⟨by show q.length ≤ _; omega, h2⟩
      | inl v =>
        dsimp only
        by_cases hv : v = b
        · rw [if_pos hv, Cn.svs]
          subst hv
          exact ⟨by show (q ++ []).length ≤ _; rw [List.append_nil]; omega, by show Wq z1 R K S a s y g (q ++ []) (.inl v); rw [List.append_nil]; exact h2⟩
        · rw [if_neg hv]
          exact ⟨by show q.length ≤ _; omega, h2⟩
  | c :: d :: r, a, s, y, g, _, h, hl, f => by
    have e1 : Cn.szs (c :: d :: r) = c.sz + Cn.szs (d :: r) := by rw [Cn.szs]
    rw [e1] at hl ⊢
    have e2 : Cn.rws b (c :: d :: r) s y g = (if b then c.rw s (.int ((s + c.sz : Nat) : Int)) g else c.rw s y (.int ((s + c.sz : Nat) : Int))) ++ Cn.rws b (d :: r) ((s + c.sz : Nat) : Int) y g := by rw [Cn.rws, castN]
    rw [e2] at h
    unfold Cn.fews at f
    have hr := h.right
    have hlen : (if b then c.rw s (.int ((s + c.sz : Nat) : Int)) g else c.rw s y (.int ((s + c.sz : Nat) : Int))).length = c.sz := by cases b <;> simp [rw_len c]
    rw [hlen] at hr
    have e3 : Cn.svs (gK K) b (c :: d :: r) = match c.sv (gK K) with
      | (q, .inr e) => (q, .inr e)
      | (q, .inl v) => if v = b then (q ++ (Cn.svs (gK K) b (d :: r)).1, (Cn.svs (gK K) b (d :: r)).2) else (q, .inl v) := by
      rw [Cn.svs]
    rw [e3]
    have next : ∀ (q : List Str) (y2 g2 : PyData), q.length ≤ c.sz → Wq z1 R K S a s y2 g2 q (.inl b) → (if b then y2 else g2) = .int ((s + c.sz : Nat) : Int) →
        (q ++ (Cn.svs (gK K) b (d :: r)).1).length ≤ c.sz + Cn.szs (d :: r) ∧ Wq z1 R K S a s y g (q ++ (Cn.svs (gK K) b (d :: r)).1) (Cn.svs (gK K) b (d :: r)).2 := fun q y2 g2 hq hw e => by
      obtain ⟨h3, h4⟩ := rws_ok R K S b (d :: r) (a ++ q) (s + c.sz) y g (by simp) hr (by rw [List.length_append]; omega) f.2
      exact ⟨by rw [List.length_append]; omega, Wq.then hw e h4⟩
    cases b with
    | true =>
      obtain ⟨h1, h2⟩ := rw_ok R K S c a s _ _ h.left (by omega) f.1
      revert h1 h2
      cases c.sv (gK K) with
      | mk q r2 =>
        intro h1 h2
        have h1 : q.length ≤ c.sz := h1
        cases r2 with
        | inr e => exact ⟨by show q.length ≤ _; omega, h2⟩
        | inl v =>
          cases v with
          | true => exact next q _ _ h1 h2 rfl
          | false => exact ⟨by show q.length ≤ _; omega, Wq.to h2 rfl⟩
    | false =>
      obtain ⟨h1, h2⟩ := rw_ok R K S c a s _ _ h.left (by omega) f.1
      revert h1 h2
      cases c.sv (gK K) with
      | mk q r2 =>
        intro h1 h2
        have h1 : q.length ≤ c.sz := h1
        cases r2 with
        | inr e => exact ⟨by show q.length ≤ _; omega, h2⟩
        | inl v =>
          cases v with
          | false => exact next q _ _ h1 h2 rfl
          | true => exact ⟨by show q.length ≤ _; omega, Wq.to h2 rfl⟩
end
end
end G53

set_option linter.all false
set_option maxHeartbeats 4000000
namespace G53
open FL PySem L2
def pr (K : List (Str × Bool)) : List PyData := K.map fun p => PyData.tuple [.str p.1, .str (yn_ p.2)]
theorem pairs_pr : ∀ K : List (Str × Bool), pairsP (pr K) = some (kv K)
  | [] => rfl
  | (x, b) :: K => by
    unfold pr kv
    rw [List.map_cons, List.map_cons]
    unfold pairsP
    have := pairs_pr K
    unfold pr kv at this
    rw [this]
    rfl
theorem merge_new : ∀ (K : List (Str × Bool)) (acc : Dic), (∀ p ∈ K, ∀ q ∈ acc, q.1 ≠ .inr p.1) → (K.map (·.1)).Nodup → mergeP acc (kv K) = acc ++ kv K
  | [], acc, _, _ => by simp [mergeP, kv]
  | (x, b) :: K, acc, h, nd => by
    have ha : (acc.any fun p => decide (p.1 = (.inr x : Key))) = false := by
      rw [List.any_eq_false]
      intro q hq
      have := h (x, b) List.mem_cons_self q hq
      simpa using this
    rw [List.map_cons] at nd
    have nd2 := List.nodup_cons.mp nd
    have ih := merge_new K (acc ++ [(.inr x, .str (yn_ b))]) (fun p hp q hq => by
      rcases List.mem_append.mp hq with hq | hq
      · exact h p (List.mem_cons_of_mem _ hp) q hq
      · rw [List.mem_singleton.mp hq]
        intro e
        have e' : x = p.1 := by simpa using e
        rw [e'] at nd2
        exact nd2.1 (List.mem_map.mpr ⟨p, hp, rfl⟩)) nd2.2
    unfold mergeP kv at ih ⊢
    rw [List.map_cons, List.foldl_cons]
    simp only [ha]
    simp only [Bool.false_eq_true, if_false]
    rw [ih, List.append_assoc]
    rfl
theorem dict_pr (K : List (Str × Bool)) (T : So) (nd : (K.map (·.1)).Nodup) : dictW (.d (.tuple (pr K))) T = .ok (.k (kv K)) T := by
  unfold dictW pairsW
  simp only [asT, pairs_pr]
  rw [merge_new K [] (fun _ _ q hq => by cases hq) nd]
  rfl
def repR (q : List Str) (T : So) : Bool ⊕ Str → Res W
  | .inl b => .ok (.d (.tuple [.list (q.map .str), .str (yn_ b)])) T
  | .inr x => .ex 4 (.str x) T
theorem rep_ok (n : Nat) (c : Cn) (K : List (Str × Bool)) (T : So) (f : c.few) (hz : c.sz ≤ 1000) (nd : (K.map (·.1)).Nodup) :
    lev Nn mm (n + 1) i_repeatedly_walked [.d (.list (c.rw 0 (.str "yes") (.str "no"))), .d (.tuple (pr K))] T = repR (c.sv (gK K)).1 T (c.sv (gK K)).2 := by
  obtain ⟨h1, h2⟩ := rw_ok (z1 := some (.d (.tuple (pr K)))) (c.rw 0 (.str "yes") (.str "no")) K T c [] 0 (.str "yes") (.str "no") (fun i hi => by rw [Nat.zero_add]; rfl) (by simpa using hz) f
  revert h1 h2
  generalize c.sv (gK K) = qr
  obtain ⟨q, r⟩ := qr
  intro h1 h2
  have hq : q.length ≤ c.sz := h1
  show fDef 8 (m_repeatedly_walked (lev Nn mm n)) [.d (.list (c.rw 0 (.str "yes") (.str "no"))), .d (.tuple (pr K))] T = _
  have start : ∀ o, fSeq (fWhile wT rwBody) (fRet (fTup (fCons (fV 3) (fCons (fV 4) fNil)))) (rE (some (.d (.tuple (pr K)))) (c.rw 0 (.str "yes") (.str "no")) K T.length (.int 0) none none none) (T ++ [.l []]) = o →
      m_repeatedly_walked (lev Nn mm n) [some (.d (.list (c.rw 0 (.str "yes") (.str "no")))), some (.d (.tuple (pr K))), none, none, none, none, none, none] T = o := by
    intro o ho
    unfold m_repeatedly_walked
    rw [seq_nx (e1 := [some (.d (.list (c.rw 0 (.str "yes") (.str "no")))), some (.d (.tuple (pr K))), some (.k (kv K)), none, none, none, none, none]) (S1 := T) (by simp [dict_pr K T nd])]
    rw [seq_nx (e1 := [some (.d (.list (c.rw 0 (.str "yes") (.str "no")))), some (.d (.tuple (pr K))), some (.k (kv K)), some (.r T.length), none, none, none, none]) (S1 := T ++ [.l []]) (by simp [fMut, allD, sizeLine_eq])]
    rw [seq_nx (e1 := rE (some (.d (.tuple (pr K)))) (c.rw 0 (.str "yes") (.str "no")) K T.length (.int 0) none none none) (S1 := T ++ [.l []]) (by simp)]
    exact ho
  cases r with
  | inl b =>
    have split : (100000 : Nat) = (100000 - q.length) + q.length := by omega
    obtain ⟨w5, w6, w7, h3⟩ := h2 none none none
    have h3 := h3 (100000 - q.length)
    dsimp only at h3
    rw [← split] at h3
    have h4 : whl wT rwBody (100000 - q.length) (rE (some (.d (.tuple (pr K)))) (c.rw 0 (.str "yes") (.str "no")) K T.length (if b then .str "yes" else .str "no") w5 w6 w7) (T ++ [.l ((([] : List Str) ++ q).map .str)]) =
        .nx (rE (some (.d (.tuple (pr K)))) (c.rw 0 (.str "yes") (.str "no")) K T.length (if b then .str "yes" else .str "no") w5 w6 w7) (T ++ [.l ((([] : List Str) ++ q).map .str)]) := by
      rw [show 100000 - q.length = (99999 - q.length) + 1 by omega]
      unfold whl
      cases b
      · simp only [Bool.false_eq_true, if_false]
        rw [wT2_str]
        rfl
      · simp only [if_true]
        rw [wT2_str]
        rfl
    rw [h4] at h3
    have e : m_repeatedly_walked (lev Nn mm n) [some (.d (.list (c.rw 0 (.str "yes") (.str "no")))), some (.d (.tuple (pr K))), none, none, none, none, none, none] T = .rt (.p [.r T.length, .d (.str (yn_ b))]) (T ++ [.l (q.map .str)]) := by
      refine start _ ((seq_nx h3).trans ?_)
      cases b <;> simp [fTup, allD, allP, sizeLine_eq, yn_]
    unfold fDef
    show (match m_repeatedly_walked (lev Nn mm n) [some (.d (.list (c.rw 0 (.str "yes") (.str "no")))), some (.d (.tuple (pr K))), none, none, none, none, none, none] T with
      | .rt w S' => fin T.length w S'
      | .nx _ S' => fin T.length (.d .none) S'
      | .ex c f _ S' => .ex c f (S'.take T.length)
      | _ => .no) = _
    rw [e]
    simp [fin, frz, frzPs, frzP, mkP, allPd, repR]
  | inr x =>
    have split : (100000 : Nat) = 99999 - q.length + 1 + q.length := by omega
    obtain ⟨ev, h3⟩ := h2 none none none (99999 - q.length)
    dsimp only at h3
    rw [← split] at h3
    have e : m_repeatedly_walked (lev Nn mm n) [some (.d (.list (c.rw 0 (.str "yes") (.str "no")))), some (.d (.tuple (pr K))), none, none, none, none, none, none] T = .ex 4 (.str x) ev (T ++ [.l (q.map .str)]) := by
      refine start _ ?_
      unfold fSeq fWhile
      have h3' : whl wT rwBody 100000 (rE (some (.d (.tuple (pr K)))) (c.rw 0 (.str "yes") (.str "no")) K T.length (.int 0) none none none) (T ++ [.l []]) = .ex 4 (.str x) ev (T ++ [.l (q.map .str)]) := h3
      rw [h3']
      rfl
    unfold fDef
    show (match m_repeatedly_walked (lev Nn mm n) [some (.d (.list (c.rw 0 (.str "yes") (.str "no")))), some (.d (.tuple (pr K))), none, none, none, none, none, none] T with
      | .rt w S' => fin T.length w S'
      | .nx _ S' => fin T.length (.d .none) S'
      | .ex c f _ S' => .ex c f (S'.take T.length)
      | _ => .no) = _
    rw [e]
    simp [repR]
/-! once each -/
def add1 (a : List Str) (x : Str) : List Str := if x ∈ a then a else a ++ [x]
def addAll (a q : List Str) : List Str := q.foldl add1 a
theorem addAll_app (a q q2 : List Str) : addAll a (q ++ q2) = addAll (addAll a q) q2 := by simp [addAll]
theorem addAll_len : ∀ (q a : List Str), (addAll a q).length ≤ a.length + q.length
  | [], a => by simp [addAll]
  | x :: q, a => by
    have h := addAll_len q (add1 a x)
    have h1 : (add1 a x).length ≤ a.length + 1 := by
      unfold add1
      split <;> simp
    unfold addAll at *
    rw [List.foldl_cons, List.length_cons]
    omega
def ky (a : List Str) : Dic := a.map fun x => (.inr x, .bool true)
theorem put_ky (a : List Str) (x : Str) : putP (ky a) (.inr x) (.bool true) = ky (add1 a x) := by
  have e : ((ky a).any fun p => decide (p.1 = (.inr x : Key))) = decide (x ∈ a) := by
    unfold ky
    rw [List.any_map, Bool.eq_iff_iff, List.any_eq_true, decide_eq_true_eq]
    constructor
    · rintro ⟨y, hy, h⟩
      have h' : y = x := by simpa using h
      exact h' ▸ hy
    · intro h
      exact ⟨x, h, by simp⟩
  unfold putP add1
  rw [e]
  by_cases c : x ∈ a
  · simp only [decide_eq_true c, if_true, if_pos c]
    unfold ky
    rw [List.map_map]
    refine List.map_congr_left fun y _ => ?_
    simp only [Function.comp]
    split
    · rename_i h
      have h' : y = x := by simpa using h
      rw [h']
    · rfl
  · simp only [decide_eq_false c, Bool.false_eq_true, if_false, if_neg c]
    simp [ky]
theorem dcL_ky (ev0 : Ev) (h4 : 4 < ev0.length) (S : So) : ∀ (q a : List Str), a.length + q.length ≤ 1000 → dcL (gNm 4) fYes (fV 4) (fC (.bool true)) ev0 (q.map .str) S (ky a) = .ok (ky (addAll a q)) S
  | [], a, _ => rfl
  | x :: q, a, hl => by
    rw [List.map_cons]
    unfold dcL
    rw [List.length_cons] at hl
    have hk : (ky a).length < sizeLine := by
      rw [sizeLine_eq]
      simp only [ky, List.length_map]
      omega
    have ha : (add1 a x).length ≤ a.length + 1 := by
      unfold add1
      split <;> simp
    have hs : (ev0.set 4 (some (.d (.str x))))[4]? = some (some (.d (.str x))) := by simp [h4]
    simp only [gNm, fV, hs, fYes, fC, asKey]
    rw [if_pos ⟨trivial, hk⟩, put_ky, dcL_ky ev0 h4 S q (add1 a x) (by omega)]
    rfl
def stR (q : List Str) (T : So) : Bool ⊕ Str → Res W
  | .inl b => .ok (.d (.tuple [.tuple ((addAll [] q).map .str), .str (yn_ b)])) T
  | .inr x => .ex 4 (.str x) T
theorem steadily_ok (n : Nat) (c : Cn) (K : List (Str × Bool)) (T : So) (f : c.few) (hz : c.sz ≤ 1000) (hq : (c.sv (gK K)).1.length ≤ 1000) (nd : (K.map (·.1)).Nodup) :
    lev Nn mm (n + 2) i_steadily_walked [.d (.list (c.rw 0 (.str "yes") (.str "no"))), .d (.tuple (pr K))] T = stR (c.sv (gK K)).1 T (c.sv (gK K)).2 := by
  have h1 := rep_ok n c K T f hz nd
  revert h1 hq
  generalize c.sv (gK K) = qr
  obtain ⟨q, r⟩ := qr
  intro hq h1
  have hq : q.length ≤ 1000 := hq
  show fDef 5 (m_steadily_walked (lev Nn mm (n + 1))) [.d (.list (c.rw 0 (.str "yes") (.str "no"))), .d (.tuple (pr K))] T = _
  unfold m_steadily_walked
  cases r with
  | inr x =>
    simp only [repR] at h1
    simp [fAsg, h1, stR]
  | inl b =>
    simp only [repR] at h1
    have hd := dcL_ky [some (.d (.list (c.rw 0 (.str "yes") (.str "no")))), some (.d (.tuple (pr K))), some (.d (.list (q.map .str))), some (.d (.str (yn_ b))), none] (by simp) T q [] (by simpa using hq)
    have hd' : dcL (gNm 4) fYes (fV 4) (fC (.bool true)) [some (.d (.list (c.rw 0 (.str "yes") (.str "no")))), some (.d (.tuple (pr K))), some (.d (.list (q.map .str))), some (.d (.str (yn_ b))), none] (q.map .str) T [] = .ok (ky (addAll [] q)) T := hd
    have hf : fDc (fItems (fV 2)) (gNm 4) fYes (fV 4) (fC (.bool true)) [4] [some (.d (.list (c.rw 0 (.str "yes") (.str "no")))), some (.d (.tuple (pr K))), some (.d (.list (q.map .str))), some (.d (.str (yn_ b))), none] T = .ok (.k (ky (addAll [] q))) T := by
      unfold fDc
      have hi : fItems (fV 2) [some (.d (.list (c.rw 0 (.str "yes") (.str "no")))), some (.d (.tuple (pr K))), some (.d (.list (q.map .str))), some (.d (.str (yn_ b))), none] T = .ok (q.map .str) T := by simp
      rw [hi]
      show ((dcL (gNm 4) fYes (fV 4) (fC (.bool true)) [some (.d (.list (c.rw 0 (.str "yes") (.str "no")))), some (.d (.tuple (pr K))), some (.d (.list (q.map .str))), some (.d (.str (yn_ b))), none] (q.map .str) T []).bind _) = _
      rw [hd']
      rfl
    have hk : (ky (addAll [] q)).map (fun kv => keyP kv.1) = (addAll [] q).map .str := by simp [ky, keyP, Function.comp_def]
    simp [fAsg, h1, stR, gTp, gCs, gNo, hf, tupD, asD, hk, fTup, allD, sizeLine_eq, -fItems]
end G53

set_option linter.all false
set_option maxHeartbeats 4000000
namespace G53
open FL PySem L2
/-! assignments -/
structure AsOk (K : List (Str × Bool)) : Prop where
  nd : (K.map (·.1)).Nodup
  l8 : K.length ≤ 8
  nm : ∀ p ∈ K, NmOk p.1
  so : srt (ddp (K.map (·.1))) = K.map (·.1)
theorem arenames_ok (n : Nat) (zs : List Str) (T : So) (hz : ∀ x ∈ zs, NmOk x) (hl : zs.length ≤ 8) (hs : srt (ddp zs) = zs) : lev Nn mm (n + 2) i_are_names [.d (.tuple (zs.map .str))] T = .ok (.d (.bool true)) T := by
  show fDef 2 (m_are_names (lev Nn mm (n + 1))) [.d (.tuple (zs.map .str))] T = _
  unfold m_are_names
  have hm := lcL_map (g := gNm 1) (te := (fCall 1 (lev Nn mm (n + 1) i_is_name) [] (fCons (fV 1) fNil))) (ev0 := [some (.d (.tuple (zs.map .str))), none]) (S := T) (dt := PyData.str) (f := fun _ => .bool true) zs []
    (fun x hx => ⟨_, rfl, by simp [hz x hx n]⟩) (by rw [sizeLine_eq]; simp; omega)
  have ha := all_true zs T
  have he := cEq_strs (x := .d (.list (zs.map .str))) (y := .d (.list ((srt (ddp zs)).map .str))) (S := T) (A := zs) (B := srt (ddp zs)) rfl rfl
  rw [hs] at he
  simp at hm ha he
  simp [fIsi, tyW, kit_tt, tru, oLen, lenW, seqW, asB, hm, ha, -lcL]
  rw [decide_eq_false (by omega)]
  simp [lstW, seqW, fSortSet, asQs, strs_map, hs, he]
  rw [if_pos (by omega)]
  simp [he]
theorem in_yn (b : Bool) (S : So) : cIn (.d (.str (yn_ b))) (.d (.tuple [.str "yes", .str "no"])) S = .ok (.d (.bool true)) S := by
  have h1 := in_strs (yn_ b) ["yes", "no"] S
  simp only [List.map_cons, List.map_nil] at h1
  rw [h1]
  cases b <;> simp [yn_]
theorem answered_ok (n : Nat) (x : Str) (b : Bool) (T : So) : lev Nn mm (n + 1) i__is_answered [.d (.tuple [.str x, .str (yn_ b)]), .d (.tuple [.str "yes", .str "no"])] T = .ok (.d (.bool true)) T := by
  show fDef 2 (m__is_answered (lev Nn mm n)) [.d (.tuple [.str x, .str (yn_ b)]), .d (.tuple [.str "yes", .str "no"])] T = _
  unfold m__is_answered
  simp [fAnd, fIsi, tyW, kit_tt, oLen, lenW, seqW, asB, in_yn, -oIx]
theorem isassign_ok (n : Nat) (K : List (Str × Bool)) (T : So) (h : AsOk K) : lev Nn mm (n + 3) i__is_assignment [.d (.tuple (pr K)), .d (.tuple [.str "yes", .str "no"])] T = .ok (.d (.bool true)) T := by
  show fDef 5 (m__is_assignment (lev Nn mm (n + 2))) [.d (.tuple (pr K)), .d (.tuple [.str "yes", .str "no"])] T = _
  unfold m__is_assignment
  have l8 := h.l8
  have hm := lcL_map (g := gNm 2) (te := (fCall 2 (lev Nn mm (n + 2) i__is_answered) [] (fCons (fV 2) (fCons (fV 1) fNil)))) (ev0 := [some (.d (.tuple (pr K))), some (.d (.tuple [.str "yes", .str "no"])), none, none, none]) (S := T)
    (dt := fun p : Str × Bool => PyData.tuple [.str p.1, .str (yn_ p.2)]) (f := fun _ => .bool true) K []
    (fun p hp => ⟨_, rfl, by simp [answered_ok (n + 1)]⟩) (by rw [sizeLine_eq]; simp; omega)
  have hm2 := lcL_map (g := gTp 2 (gCs (gNm 3) (gCs (gNm 4) gNo))) (te := fV 3) (ev0 := [some (.d (.tuple (pr K))), some (.d (.tuple [.str "yes", .str "no"])), none, none, none]) (S := T)
    (dt := fun p : Str × Bool => PyData.tuple [.str p.1, .str (yn_ p.2)]) (f := fun p => .str p.1) K []
    (fun p hp => ⟨_, rfl, by simp⟩) (by rw [sizeLine_eq]; simp; omega)
  have ha := all_true K T
  have hn := arenames_ok n (K.map (·.1)) T (fun x hx => by
    obtain ⟨p, hp, rfl⟩ := List.mem_map.mp hx
    exact h.nm p hp) (by simpa using l8) h.so
  rw [List.map_map] at hn
  have hn' : lev Nn mm (n + 2) i_are_names [.d (.tuple (K.map fun p => PyData.str p.1))] T = .ok (.d (.bool true)) T := hn
  have hf1 : fLc (fItems (fV 0)) (gNm 2) fYes (fCall 2 (lev Nn mm (n + 2) i__is_answered) [] (fCons (fV 2) (fCons (fV 1) fNil))) [2] [some (.d (.tuple (pr K))), some (.d (.tuple [.str "yes", .str "no"])), none, none, none] T = .ok (.d (.list (K.map fun _ => .bool true))) T := by
    unfold fLc
    have hi : fItems (fV 0) [some (.d (.tuple (pr K))), some (.d (.tuple [.str "yes", .str "no"])), none, none, none] T = .ok (pr K) T := by simp
    rw [hi]
    show ((lcL (gNm 2) fYes _ [some (.d (.tuple (pr K))), some (.d (.tuple [.str "yes", .str "no"])), none, none, none] (pr K) T []).bind _) = _
    unfold pr at hm ⊢
    rw [hm]
    rfl
  have hf2 : fLc (fItems (fV 0)) (gTp 2 (gCs (gNm 3) (gCs (gNm 4) gNo))) fYes (fV 3) [3, 4] [some (.d (.tuple (pr K))), some (.d (.tuple [.str "yes", .str "no"])), none, none, none] T = .ok (.d (.list (K.map fun p => .str p.1))) T := by
    unfold fLc
    have hi : fItems (fV 0) [some (.d (.tuple (pr K))), some (.d (.tuple [.str "yes", .str "no"])), none, none, none] T = .ok (pr K) T := by simp
    rw [hi]
    show ((lcL _ fYes _ [some (.d (.tuple (pr K))), some (.d (.tuple [.str "yes", .str "no"])), none, none, none] (pr K) T []).bind _) = _
    unfold pr at hm2 ⊢
    rw [hm2]
    rfl
  simp [fIsi, tyW, kit_tt, tru, asB, hf1, hf2, ha, tupW, hn', -fLc]
theorem checkas_ok (n : Nat) (K : List (Str × Bool)) (T : So) (h : AsOk K) : lev Nn mm (n + 4) i_check_assignment [.d (.tuple (pr K)), .d (.tuple [.str "yes", .str "no"])] T = .ok (.d .none) T := by
  show fDef 2 (m_check_assignment (lev Nn mm (n + 3))) [.d (.tuple (pr K)), .d (.tuple [.str "yes", .str "no"])] T = _
  unfold m_check_assignment
  simp [isassign_ok n K T h, tru]
theorem sv_len (c : Cn) (K : List (Str × Bool)) (f : c.few) (hz : c.sz ≤ 1000) : (c.sv (gK K)).1.length ≤ c.sz :=
  (rw_ok (z1 := none) (c.rw 0 (.str "yes") (.str "no")) K [] c [] 0 (.str "yes") (.str "no") (fun i hi => by rw [Nat.zero_add]; rfl) (by simpa using hz) f).1
theorem steadyrun_ok (n : Nat) (c : Cn) (K : List (Str × Bool)) (T : So) (ws : List Str) (h : c.Ok ws) (hK : AsOk K) (hd : 2 * c.dp + 1 ≤ n) (h4 : 4 ≤ n) :
    lev Nn mm (n + 1) i_steady_run [.d c.d, .d (.tuple (pr K))] T = stR (c.sv (gK K)).1 T (c.sv (gK K)).2 := by
  obtain ⟨m, rfl⟩ : ∃ m, n = m + 4 := ⟨n - 4, by omega⟩
  have hz := h.sz
  have h1 := check_ok m c T ws h
  have h2 := checkas_ok m K T hK
  have h3 := rows_ok (m + 3) c T 0 (.str "yes") (.str "no") h.few (by omega) (by omega)
  have hl := sv_len c K h.few (by omega)
  have h4 := steadily_ok (m + 2) c K T h.few (by omega) (by omega) hK.nd
  have h5 : lev Nn mm (m + 4) i_rows_of [.d c.d] T = .ok (.d (.list (c.rw 0 (.str "yes") (.str "no")))) T := by
    show fDef 1 (m_rows_of (lev Nn mm (m + 3))) [.d c.d] T = _
    unfold m_rows_of
    simp [h3]
  show fDef 2 (m_steady_run (lev Nn mm (m + 4))) [.d c.d, .d (.tuple (pr K))] T = _
  unfold m_steady_run
  revert h4
  generalize (c.sv (gK K)) = qr
  obtain ⟨q, r⟩ := qr
  intro h4
  cases r with
  | inl b =>
    simp only [stR] at h4 ⊢
    simp [h1, h2, h5, h4]
  | inr x =>
    simp only [stR] at h4 ⊢
    simp [h1, h2, h5, h4]
end G53

set_option linter.all false
set_option maxHeartbeats 4000000
namespace G53
open FL PySem L2
/-! _law_steady -/
def stS : Bool ⊕ Str → Str
  | .inl b => yn_ b
  | .inr x => "missing " ++ x
theorem miss_len (x : Str) : ("missing " ++ x : Str).length = 8 + x.length := by
  rw [PySem.Str.length_append]
  rfl
theorem miss_yn (x : Str) : ("missing " ++ x : Str) ≠ "yes" ∧ ("missing " ++ x : Str) ≠ "no" := by
  constructor
  · intro e
    have h := congrArg Str.length e
    rw [miss_len] at h
    have : ("yes" : Str).length = 3 := rfl
    omega
  · intro e
    have h := congrArg Str.length e
    rw [miss_len] at h
    have : ("no" : Str).length = 2 := rfl
    omega
theorem ni_strs (x : Str) (k : Nat) (a : List Str) (S : So) (h : S[k]? = some (.l (a.map .str))) : cNi (.d (.str x)) (.r k) S = .ok (.d (.bool !(decide (x ∈ a)))) S := by
  have e : ((a.map PyData.str).any fun z => PyData.eqv z (.str x)) = decide (x ∈ a) := by
    rw [List.any_map, Bool.eq_iff_iff, List.any_eq_true, decide_eq_true_eq]
    constructor
    · rintro ⟨y, hy, h⟩
      have h' : PyData.eqv (.str y) (.str x) = true := h
      rw [eqv_str, decide_eq_true_eq] at h'
      exact h' ▸ hy
    · intro h
      refine ⟨x, h, ?_⟩
      show PyData.eqv (.str x) (.str x) = true
      rw [eqv_str, decide_eq_true_eq]
  unfold cNi oOr oIn
  simp only [toP_d, seqP, toP_r h]
  rw [if_pos ⟨rfl, strs_plain a, by simp [PyData.depth]⟩]
  simp [e]
theorem add_ss (x y : Str) (S : So) (h : x.length + y.length ≤ 10000) : oAdd (.d (.str x)) (.d (.str y)) S = .ok (.d (.str (x ++ y))) S := by
  simp [oAdd, oI, asI, oAddS, asS, sizeLine_eq]
  rw [if_pos (by omega)]
abbrev sS (T : So) (a : List Str) : So := T ++ [.l (a.map .str)]
@[simp] theorem take_s1 (T : So) (o : Ob) : (T ++ [o]).take (T.length + 1) = T ++ [o] := List.take_of_length_le (by simp)
theorem steady_t (n : Nat) (x : Str) (K : List (Str × Bool)) (T : So) (a : List Str) (hx : x.length ≤ 1000) (ha : a.length ≤ 1000) :
    lev Nn mm (n + 1) i__law_steady [.d (Cn.t x).d, .k (kv K), .r T.length] (sS T a) = .ok (.d (.str (stS ((Cn.t x).sv (gK K)).2))) (sS T (addAll a ((Cn.t x).sv (gK K)).1)) := by
  have e1 : (Cn.t x).d = .tuple [.str "test", .str x] := by rw [Cn.d]
  rw [e1]
  show fDef 4 (m__law_steady (lev Nn mm n)) [.d (.tuple [.str "test", .str x]), .k (kv K), .r T.length] _ = _
  have hS : (sS T a)[T.length]? = some (.l (a.map .str)) := by simp
  rw [Cn.sv]
  cases hb : gK K x with
  | none =>
    have hm := add_ss "missing " x (sS T a) (by have : ("missing " : Str).length = 8 := rfl; omega)
    refine (fdef_d (x := .str ("missing " ++ x)) (S1 := sS T a) ?_).trans ?_
    · unfold m__law_steady
      simp [asB, eqv_str, ni_kv, hb, hm, -oIx]
    · simp [stS, addAll]
  | some b =>
    have hn := ni_strs x T.length a (sS T a) hS
    have hi := fun S => ix_kv x K S b hb
    refine (fdef_d (x := .str (yn_ b)) (S1 := sS T (add1 a x)) ?_).trans ?_
    · unfold m__law_steady add1
      by_cases c : x ∈ a
      · simp only [c, decide_true, Bool.not_true] at hn
        simp [asB, eqv_str, ni_kv, hb, hn, hi, c, -oIx]
      · simp only [c, decide_false, Bool.not_false] at hn
        simp [asB, eqv_str, ni_kv, hb, hn, hi, c, -oIx, fM, oAppend, sizeLine_eq]
        rw [if_pos (by omega)]
        simp [hi, -oIx]
    · simp [stS, addAll]
def stTail (c : Cs) : FS := (fSeq (fIfS (fB (f2 cNi (fV 3) (fLst (fCons (fC (.str "yes")) (fCons (fC (.str "no")) fNil))))) 
      (fRet (fV 3)) 
      fNext) 
    (fSeq (fIfS (fB (f2 cEq (f2 oIx (fV 0) (fC (.int 0))) (fC (.str "not")))) 
      (fRet (fIf (fB (f2 cEq (fV 3) (fC (.str "yes")))) (fC (.str "no")) (fC (.str "yes")))) 
      fNext) 
    (fSeq (fIfS (fB (f2 cEq (f2 oIx (fV 0) (fC (.int 0))) (fC (.str "if")))) 
      (fRet (fCall 3 (c i__law_steady) [] (fCons (fIf (fB (f2 cEq (fV 3) (fC (.str "yes")))) (f2 oIx (fV 0) (fC (.int 2))) (f2 oIx (fV 0) (fC (.int 3)))) (fCons (fV 1) (fCons (fV 2) fNil))))) 
      fNext) 
    (fSeq (fIfS (fB (f2 cEq (fV 3) (fIf (fB (f2 cEq (f2 oIx (fV 0) (fC (.int 0))) (fC (.str "and")))) (fC (.str "no")) (fC (.str "yes"))))) 
      (fRet (fV 3)) 
      fNext) 
    (fRet (fCall 3 (c i__law_steady) [] (fCons (fIf (fB (f2 cEq (fB1 oLen (fCons (fV 0) fNil)) (fC (.int 3)))) (f2 oIx (fV 0) (fC (.int 2))) (f2 oAdd (fTup (fCons (f2 oIx (fV 0) (fC (.int 0))) fNil)) (fSl (fV 0) (fP (fC (.int 2))) fNoP))) (fCons (fV 1) (fCons (fV 2) fNil)))))))))
abbrev tE (d : PyData) (K : List (Str × Bool)) (k : Nat) (f : Str) : Ev := [some (.d d), some (.k (kv K)), some (.r k), some (.d (.str f))]
theorem st_head (n k : Nat) (K : List (Str × Bool)) (kind : Str) (y : PyData) (ys : List PyData) (f : Str) (T T1 : So) (hk : kind ≠ "test") (h : lev Nn mm n i__law_steady [.d y, .k (kv K), .r k] T = .ok (.d (.str f)) T1) :
    m__law_steady (lev Nn mm n) [some (.d (.tuple (.str kind :: y :: ys))), some (.k (kv K)), some (.r k), none] T = stTail (lev Nn mm n) (tE (.tuple (.str kind :: y :: ys)) K k f) T1 := by
  unfold m__law_steady
  rw [seq_nx (e1 := [some (.d (.tuple (.str kind :: y :: ys))), some (.k (kv K)), some (.r k), none]) (S1 := T) (by simp [asB, eqv_str, hk, -oIx])]
  rw [seq_nx (e1 := tE (.tuple (.str kind :: y :: ys)) K k f) (S1 := T1) (by simp [h, -oIx])]
  rfl
theorem st_up (n k : Nat) (K : List (Str × Bool)) (d : PyData) (f : Str) (T : So) (h1 : f ≠ "yes") (h2 : f ≠ "no") : stTail (lev Nn mm n) (tE d K k f) T = .rt (.d (.str f)) T := by
  unfold stTail
  rw [seq_rt (w := .d (.str f)) (S1 := T) (by simp [fLst, allD, sizeLine_eq, cNi_yn, h1, h2, asB])]
theorem st_not (n k : Nat) (K : List (Str × Bool)) (ys : List PyData) (b : Bool) (T : So) : stTail (lev Nn mm n) (tE (.tuple (.str "not" :: ys)) K k (yn_ b)) T = .rt (.d (.str (yn_ !b))) T := by
  unfold stTail
  cases b <;> simp [fLst, allD, sizeLine_eq, cNi_yn, asB, eqv_str, fIf, yn_, -oIx]
theorem st_if (n k : Nat) (K : List (Str × Bool)) (a x z : PyData) (b : Bool) (T T1 : So) (g : W) (h : lev Nn mm n i__law_steady [.d (if b then x else z), .k (kv K), .r k] T = .ok g T1) :
    stTail (lev Nn mm n) (tE (.tuple [.str "if", a, x, z]) K k (yn_ b)) T = .rt g T1 := by
  have k1 : ("if" : Str) ≠ "not" := by decide
  unfold stTail
  cases b
  · have h' : lev Nn mm n i__law_steady [.d z, .k (kv K), .r k] T = .ok g T1 := h
    simp [fLst, allD, sizeLine_eq, cNi_yn, asB, eqv_str, fIf, yn_, k1, h', -oIx]
  · have h' : lev Nn mm n i__law_steady [.d x, .k (kv K), .r k] T = .ok g T1 := h
    simp [fLst, allD, sizeLine_eq, cNi_yn, asB, eqv_str, fIf, yn_, k1, h', -oIx]
theorem st_stop (n k : Nat) (K : List (Str × Bool)) (b : Bool) (ys : List PyData) (T : So) : stTail (lev Nn mm n) (tE (.tuple (.str (if b then "and" else "or") :: ys)) K k (yn_ !b)) T = .rt (.d (.str (yn_ !b))) T := by
  unfold stTail
  cases b
  · have k1 : ("or" : Str) ≠ "not" := by decide
    have k2 : ("or" : Str) ≠ "if" := by decide
    have k3 : ("or" : Str) ≠ "and" := by decide
    simp [asB, eqv_str, k1, k2, k3, fLst, allD, sizeLine_eq, cNi_yn, fIf, yn_, -oIx]
  · have k1 : ("and" : Str) ≠ "not" := by decide
    have k2 : ("and" : Str) ≠ "if" := by decide
    simp [asB, eqv_str, k1, k2, fLst, allD, sizeLine_eq, cNi_yn, fIf, yn_, -oIx]
theorem st_on2 (n k : Nat) (K : List (Str × Bool)) (b : Bool) (y z : PyData) (T T1 : So) (g : W) (h : lev Nn mm n i__law_steady [.d z, .k (kv K), .r k] T = .ok g T1) :
    stTail (lev Nn mm n) (tE (.tuple [.str (if b then "and" else "or"), y, z]) K k (yn_ b)) T = .rt g T1 := by
  unfold stTail
  cases b
  · have k1 : ("or" : Str) ≠ "not" := by decide
    have k2 : ("or" : Str) ≠ "if" := by decide
    have k3 : ("or" : Str) ≠ "and" := by decide
    simp [asB, eqv_str, k1, k2, k3, fLst, allD, sizeLine_eq, cNi_yn, fIf, yn_, oLen, lenW, seqW, h, -oIx]
  · have k1 : ("and" : Str) ≠ "not" := by decide
    have k2 : ("and" : Str) ≠ "if" := by decide
    simp [asB, eqv_str, k1, k2, fLst, allD, sizeLine_eq, cNi_yn, fIf, yn_, oLen, lenW, seqW, h, -oIx]
theorem st_on (n k : Nat) (K : List (Str × Bool)) (b : Bool) (y z u : PyData) (zs : List PyData) (hl : zs.length ≤ 1000) (T T1 : So) (g : W) (h : lev Nn mm n i__law_steady [.d (.tuple (.str (if b then "and" else "or") :: z :: u :: zs)), .k (kv K), .r k] T = .ok g T1) :
    stTail (lev Nn mm n) (tE (.tuple (.str (if b then "and" else "or") :: y :: z :: u :: zs)) K k (yn_ b)) T = .rt g T1 := by
  unfold stTail
  have e1 : ¬ ((zs.length : Int) + 1 + 1 + 1 + 1 = 3) := by omega
  cases b
  · have k1 : ("or" : Str) ≠ "not" := by decide
    have k2 : ("or" : Str) ≠ "if" := by decide
    have k3 : ("or" : Str) ≠ "and" := by decide
    have h' : lev Nn mm n i__law_steady [.d (.tuple (.str "or" :: z :: u :: zs)), .k (kv K), .r k] T = .ok g T1 := h
    simp [asB, eqv_str, k1, k2, k3, fLst, fTup, allD, sizeLine_eq, cNi_yn, fIf, yn_, oLen, lenW, seqW, e1, add_tt _ [] (z :: u :: zs) T (by simp; omega), h', -oIx, -oSl]
  · have k1 : ("and" : Str) ≠ "not" := by decide
    have k2 : ("and" : Str) ≠ "if" := by decide
    have h' : lev Nn mm n i__law_steady [.d (.tuple (.str "and" :: z :: u :: zs)), .k (kv K), .r k] T = .ok g T1 := h
    simp [asB, eqv_str, k1, k2, fLst, fTup, allD, sizeLine_eq, cNi_yn, fIf, yn_, oLen, lenW, seqW, e1, add_tt _ [] (z :: u :: zs) T (by simp; omega), h', -oIx, -oSl]
theorem svs_one (g : Str → Option Bool) (b : Bool) (d : Cn) : Cn.svs g b [d] = d.sv g := by
  rw [Cn.svs]
  cases d.sv g with
  | mk q r =>
    cases r with
    | inr e => rfl
    | inl v =>
      dsimp only
      split
      · rename_i h
        rw [Cn.svs, List.append_nil, h]
      · rfl
def Short (c : Cn) : Prop := ∃ ws : List Str, c.on ws ∧ ∀ x ∈ ws, x.length ≤ 1000
theorem steady_ok (K : List (Str × Bool)) (T : So) (ws : List Str) (hw : ∀ x ∈ ws, x.length ≤ 1000) : ∀ (n : Nat) (c : Cn) (a : List Str), c.nd ≤ n → c.few → c.on ws → a.length + c.sz ≤ 1000 →
    lev Nn mm n i__law_steady [.d c.d, .k (kv K), .r T.length] (sS T a) = .ok (.d (.str (stS (c.sv (gK K)).2))) (sS T (addAll a (c.sv (gK K)).1))
  | 0, c, a, h, _, _, _ => by
    have := nd_pos c
    omega
  | n + 1, .t x, a, _, _, o, hl => by
    unfold Cn.on at o
    exact steady_t n x K T a (hw x o) (by omega)
  | n + 1, .n c, a, h, f, o, hl => by
    rw [Cn.nd] at h
    rw [Cn.sz] at hl
    unfold Cn.few at f
    unfold Cn.on at o
    have ih := steady_ok K T ws hw n c a (by omega) f o hl
    have e1 : (Cn.n c).d = .tuple [.str "not", c.d] := by rw [Cn.d]
    rw [e1, Cn.sv]
    show fDef 4 (m__law_steady (lev Nn mm n)) [.d (.tuple [.str "not", c.d]), .k (kv K), .r T.length] _ = _
    revert ih
    cases c.sv (gK K) with
    | mk q r =>
      intro ih
      have hh := st_head n T.length K "not" c.d [] _ _ _ (by decide) ih
      cases r with
      | inr e =>
        obtain ⟨g1, g2⟩ := miss_yn e
        rw [fdef_d (hh.trans (st_up n _ K _ _ _ g1 g2))]
        simp [turnR, stS]
      | inl b =>
        rw [fdef_d (hh.trans (st_not n _ K _ b _))]
        simp [turnR, stS]
  | n + 1, .i c x z, a, h, f, o, hl => by
    rw [Cn.nd] at h
    rw [Cn.sz] at hl
    unfold Cn.few at f
    unfold Cn.on at o
    have ih := steady_ok K T ws hw n c a (by omega) f.1 o.1 (by omega)
    have hq := sv_len c K f.1 (by omega)
    have e1 : (Cn.i c x z).d = .tuple [.str "if", c.d, x.d, z.d] := by rw [Cn.d]
    rw [e1, Cn.sv]
    show fDef 4 (m__law_steady (lev Nn mm n)) [.d (.tuple [.str "if", c.d, x.d, z.d]), .k (kv K), .r T.length] _ = _
    revert ih hq
    cases c.sv (gK K) with
    | mk q r =>
      intro ih hq
      have hq : q.length ≤ c.sz := hq
      have hal := addAll_len q a
      have hh := st_head n T.length K "if" c.d [x.d, z.d] _ _ _ (by decide) ih
      cases r with
      | inr e =>
        obtain ⟨g1, g2⟩ := miss_yn e
        rw [fdef_d (hh.trans (st_up n _ K _ _ _ g1 g2))]
        simp [stS]
      | inl v =>
        cases v with
        | true =>
          have ix := steady_ok K T ws hw n x (addAll a q) (by omega) f.2.1 o.2.1 (by omega)
          rw [fdef_d (hh.trans (st_if n _ K c.d x.d z.d true _ _ _ ix))]
          simp [addAll_app]
        | false =>
          have iz := steady_ok K T ws hw n z (addAll a q) (by omega) f.2.2 o.2.2 (by omega)
          rw [fdef_d (hh.trans (st_if n _ K c.d x.d z.d false _ _ _ iz))]
          simp [addAll_app]
  | n + 1, .m b [], a, h, f, _, hl => by
    unfold Cn.few at f
    simp at f
  | n + 1, .m b [c], a, h, f, _, hl => by
    unfold Cn.few at f
    simp at f
  | n + 1, .m b (c :: d :: zs), a, h, f, o, hl => by
    rw [Cn.nd, Cn.nds] at h
    rw [Cn.sz, Cn.szs] at hl
    unfold Cn.few Cn.fews at f
    unfold Cn.on Cn.ons at o
    obtain ⟨f1, f2, f3, f4⟩ := f
    have ih := steady_ok K T ws hw n c a (by omega) f3 o.1 (by omega)
    have hq := sv_len c K f3 (by omega)
    have np := nd_pos c
    have e1 : (Cn.m b (c :: d :: zs)).d = .tuple (.str (if b then "and" else "or") :: c.d :: d.d :: zs.map Cn.d) := by rw [Cn.d, ds_map]; rfl
    have e3 : (Cn.m b (c :: d :: zs)).sv (gK K) = match c.sv (gK K) with
      | (q, .inr e) => (q, .inr e)
      | (q, .inl v) => if v = b then (q ++ (Cn.svs (gK K) b (d :: zs)).1, (Cn.svs (gK K) b (d :: zs)).2) else (q, .inl v) := by
      rw [Cn.sv, Cn.svs]
      all_goals
        cases c.sv (gK K) with
        | mk q r => cases r <;> rfl
    rw [e1, e3]
    show fDef 4 (m__law_steady (lev Nn mm n)) [.d (.tuple (.str (if b then "and" else "or") :: c.d :: d.d :: zs.map Cn.d)), .k (kv K), .r T.length] _ = _
    have kt : (if b then ("and" : Str) else "or") ≠ "test" := by cases b <;> decide
    revert ih hq
    cases c.sv (gK K) with
    | mk q r =>
      intro ih hq
      have hq : q.length ≤ c.sz := hq
      have hal := addAll_len q a
      have hh := st_head n T.length K (if b then "and" else "or") c.d (d.d :: zs.map Cn.d) _ _ _ kt ih
      cases r with
      | inr e =>
        obtain ⟨g1, g2⟩ := miss_yn e
        rw [fdef_d (hh.trans (st_up n _ K _ _ _ g1 g2))]
        simp [stS]
      | inl v =>
        dsimp only
        by_cases hv : v = b
        · subst hv
          rw [if_pos rfl]
          cases zs with
          | nil =>
            rw [Cn.fews] at f4
            rw [Cn.ons] at o
            rw [Cn.szs, Cn.szs] at hl
            rw [Cn.nds, Cn.nds] at h
            have ix := steady_ok K T ws hw n d (addAll a q) (by omega) f4.1 o.2.1 (by omega)
            rw [fdef_d (hh.trans (st_on2 n _ K v c.d d.d _ _ _ ix)), svs_one]
            simp [addAll_app]
          | cons u zs =>
            have ix := steady_ok K T ws hw n (.m v (d :: u :: zs)) (addAll a q) (by rw [Cn.nd]; omega) (by
              unfold Cn.few
              simp only [List.length_cons] at f1 f2 ⊢
              exact ⟨by omega, by omega, f4⟩) (by unfold Cn.on; exact o.2) (by rw [Cn.sz]; omega)
            have e5 : (Cn.m v (d :: u :: zs)).d = .tuple (.str (if v then "and" else "or") :: d.d :: u.d :: zs.map Cn.d) := by rw [Cn.d, ds_map]; rfl
            have e6 : (Cn.m v (d :: u :: zs)).sv (gK K) = Cn.svs (gK K) v (d :: u :: zs) := by rw [Cn.sv]
            rw [e5, e6] at ix
            rw [fdef_d (hh.trans (st_on n _ K v c.d d.d u.d (zs.map Cn.d) (by simp only [List.length_cons] at f2; rw [List.length_map]; omega) _ _ _ ix))]
            simp [addAll_app]
        · rw [if_neg hv]
          have he : v = !b := by cases v <;> cases b <;> simp_all
          subst he
          rw [fdef_d (hh.trans (st_stop n _ K b _ _))]
          simp [stS]
end G53

set_option linter.all false
set_option maxHeartbeats 4000000
namespace G53
open FL PySem L2
/-! _law_asked, _law_steady_good -/
def askR (q : List Str) (T : So) : Bool ⊕ Str → Res W
  | .inl b => .ok (.d (.tuple [.tuple [.tuple ((addAll [] q).map .str), .str (yn_ b)], .none])) T
  | .inr x => .ok (.p [.d .none, .x 4 (.str x)]) T
theorem asked_ok (n : Nat) (c : Cn) (K : List (Str × Bool)) (T : So) (h : lev Nn mm n i_steady_run [.d c.d, .d (.tuple (pr K))] T = stR (c.sv (gK K)).1 T (c.sv (gK K)).2) :
    lev Nn mm (n + 1) i__law_asked [.d c.d, .d (.tuple (pr K))] T = askR (c.sv (gK K)).1 T (c.sv (gK K)).2 := by
  show fDef 5 (m__law_asked (lev Nn mm n)) [.d c.d, .d (.tuple (pr K))] T = _
  revert h
  generalize (c.sv (gK K)) = qr
  obtain ⟨q, r⟩ := qr
  intro h
  unfold m__law_asked
  cases r with
  | inl b =>
    simp only [stR] at h
    simp [fAsg, gTp, gCs, gNo, fTup, allD, sizeLine_eq, fTry, h, askR]
  | inr x =>
    simp only [stR] at h
    have hc : csb 4 0 = true := rfl
    simp [fAsg, gTp, gCs, gNo, fTup, allD, allP, sizeLine_eq, fTry, h, askR, frzPs, frzP, mkP, allPd, hc]
theorem in_yn2 (f : Str) (T : So) : cIn (.d (.str f)) (.d (.list [.str "yes", .str "no"])) T = .ok (.d (.bool (decide (f = "yes") || decide (f = "no")))) T := by
  unfold cIn oOr oIn
  simp [seqP, PyData.plain, PyData.plainAll, PyData.depth, eqv_str]
  congr 2
  · by_cases c : f = "yes"
    · simp [c]
    · have c' : ¬ ("yes" : Str) = f := fun e => c e.symm
      simp [c, c']
  · by_cases c : f = "no"
    · simp [c]
    · have c' : ¬ ("no" : Str) = f := fun e => c e.symm
      simp [c, c']
theorem cEq_refl (d : PyData) (T : So) (h : d.plain = true) (hd : d.depth ≤ 150) : cEq (.d d) (.d d) T = .ok (.d (.bool true)) T := by
  unfold cEq oEq
  simp only [toP_d]
  rw [if_pos ⟨h, h, hd⟩]
  simp [PySem.SeqAt.eqv_refl_plain d h]
theorem run_plain (zs : List Str) (e : Str) : PyData.plain (.tuple [.tuple (zs.map .str), .str e]) = true ∧ PyData.depth (.tuple [.tuple (zs.map .str), .str e]) ≤ 150 := by
  have h1 := strs_plain zs
  have h2 := strs_depth zs
  constructor
  · simp [PyData.plain, PyData.plainAll, h1]
  · simp only [PyData.depth, PyData.depthAll]
    omega
mutual
theorem sv_inr (g : Str → Option Bool) (ws : List Str) : ∀ (c : Cn) (e : Str), c.on ws → (c.sv g).2 = .inr e → e ∈ ws
  | .t x, e, o, h => by
    unfold Cn.on at o
    rw [Cn.sv] at h
    cases hb : g x with
    | none =>
      rw [hb] at h
      cases h
      exact o
    | some b =>
      rw [hb] at h
      cases h
  | .n c, e, o, h => by
    unfold Cn.on at o
    rw [Cn.sv] at h
    cases hr : (c.sv g).2 with
    | inl b =>
      rw [hr] at h
      cases h
    | inr f =>
      rw [hr] at h
      cases h
      exact sv_inr g ws c e o hr
  | .m b cs, e, o, h => by
    unfold Cn.on at o
    rw [Cn.sv] at h
    exact svs_inr g ws b cs e o h
  | .i c x z, e, o, h => by
    unfold Cn.on at o
    have h1 := sv_inr g ws c
    have h2 := sv_inr g ws x
    have h3 := sv_inr g ws z
    rw [Cn.sv] at h
    revert h1 h
    cases c.sv g with
    | mk q r =>
      intro h h1
      cases r with
      | inr f =>
        cases h
        exact h1 e o.1 rfl
      | inl b =>
        cases b with
        | true => exact h2 e o.2.1 h
        | false => exact h3 e o.2.2 h
theorem svs_inr (g : Str → Option Bool) (ws : List Str) (b : Bool) : ∀ (cs : List Cn) (e : Str), Cn.ons ws cs → (Cn.svs g b cs).2 = .inr e → e ∈ ws
  | [], e, o, h => by
    rw [Cn.svs] at h
    cases h
  | c :: cs, e, o, h => by
    unfold Cn.ons at o
    have h1 := sv_inr g ws c
    have h2 := svs_inr g ws b cs
    rw [Cn.svs] at h
    revert h1 h
    cases c.sv g with
    | mk q r =>
      intro h h1
      cases r with
      | inr f =>
        cases h
        exact h1 e o.1 rfl
      | inl v =>
        dsimp only at h
        split at h
        · exact h2 e o.2 h
        · cases h
end
theorem steadygood_ok (n : Nat) (c : Cn) (K : List (Str × Bool)) (T : So) (ws : List Str) (h : c.Ok ws) (hw : ∀ x ∈ ws, x.length ≤ 1000) (hK : AsOk K) (hn : c.nd ≤ n + 1) (hd : 2 * c.dp + 1 ≤ n) (h4 : 4 ≤ n) :
    lev Nn mm (n + 3) i__law_steady_good [.d c.d, .d (.tuple (pr K))] T = .ok (.d (.bool true)) T := by
  show fDef 6 (m__law_steady_good (lev Nn mm (n + 2))) [.d c.d, .d (.tuple (pr K))] T = _
  have hz := h.sz
  have h1 := steady_ok K T ws hw (n + 2) c [] (by omega) h.few h.on (by simp; omega)
  have h2 := asked_ok (n + 1) c K (sS T (addAll [] (c.sv (gK K)).1)) (steadyrun_ok n c K _ ws h hK hd h4)
  have hin := fun e => sv_inr (gK K) ws c e h.on
  revert h1 h2 hin
  generalize (c.sv (gK K)) = qr
  obtain ⟨q, r⟩ := qr
  intro h1 h2 hin
  have hdt := fun T => dict_pr K T hK.nd
  have h1' : lev Nn mm (n + 2) i__law_steady [.d c.d, .k (kv K), .r T.length] (T ++ [.l []]) = .ok (.d (.str (stS r))) (T ++ [.l ((addAll [] q).map .str)]) := h1
  have h2' : lev Nn mm (n + 2) i__law_asked [.d c.d, .d (.tuple (pr K))] (T ++ [.l ((addAll [] q).map .str)]) = askR q (T ++ [.l ((addAll [] q).map .str)]) r := h2
  unfold m__law_steady_good
  cases r with
  | inl b =>
    simp only [askR] at h2'
    have hr := cEq_refl (.tuple [.tuple ((addAll [] q).map .str), .str (yn_ b)]) (T ++ [.l ((addAll [] q).map .str)]) (run_plain _ _).1 (run_plain _ _).2
    have hy : (decide (yn_ b = "yes") || decide (yn_ b = "no")) = true := by cases b <;> simp [yn_]
    simp [fMut, allD, sizeLine_eq, hdt, h1', h2', fAsg, gTp, gCs, gNo, stS, fLst, in_yn2, hy, asB, fAnd, cIs, oIs, fTup, tupW, hr]
  | inr x =>
    simp only [askR] at h2'
    obtain ⟨g1, g2⟩ := miss_yn x
    have hx := hw x (hin x rfl)
    have ha := add_ss "missing " x (T ++ [.l ((addAll [] q).map .str)]) (by have : ("missing " : Str).length = 8 := rfl; omega)
    have hc : csb 4 4 = true := rfl
    have hfl : cfl 4 = some "name" := rfl
    have hr := cEq_refl (.str ("missing " ++ x)) (T ++ [.l ((addAll [] q).map .str)]) rfl (by simp [PyData.depth])
    simp [fMut, allD, sizeLine_eq, hdt, h1', h2', fAsg, gTp, gCs, gNo, pmW, stS, fLst, in_yn2, g1, g2, asB, fAnd, fIsC, hc, fFld, hfl, ha, hr, -cEq_ss]
end G53

set_option linter.all false
set_option maxHeartbeats 4000000
namespace G53
open FL PySem L2
/-! draws -/
def own (S : So) (k : Nat) (i : Int) : So := S.set k (.l [.int i])
section
variable {S : So} {k : Nat} {i j : Int}
@[simp] theorem own_len : (own S k i).length = S.length := by simp [own]
@[simp] theorem own_set : (own S k i).set k (.l [.int j]) = own S k j := by simp [own]
@[simp] theorem own_own : own (own S k i) k j = own S k j := by simp [own]
theorem own_get (h : k < S.length) : (own S k i)[k]? = some (.l [.int i]) := by simp [own, h]
@[simp] theorem own_take : (own S k i).take S.length = own S k i := List.take_of_length_le (by simp)
theorem own_self (h : S[k]? = some (.l [.int i])) : own S k i = S := by
  unfold own
  obtain ⟨hk, e⟩ := List.getElem?_eq_some_iff.mp h
  rw [← e]
  exact List.set_getElem_self hk
end
theorem take_own (n k : Nat) (S : So) (i o : Int) (h : k < S.length) (o0 : 0 < o) (o1 : o < 1073741824) : lev Nn mm (n + 1) i__law_take [.r k, .d (.int o)] (own S k i) = .ok (.d (.int (i % o))) (own S k (i / o)) := by
  rw [take_ok n k (own S k i) i o (own_get h) o0 o1, own_set]
theorem mixed_ok (n : Nat) (c k : Int) (T : So) : ∃ i : Int, lev Nn mm (n + 1) i__law_mixed [.d (.int c), .d (.int k)] T = .ok (.d (.int i)) T := by
  have h1 : ∀ x : Int, 0 ≤ x % 2147483629 ∧ x % 2147483629 < 2147483629 := fun x => ⟨Int.emod_nonneg _ (by decide), Int.emod_lt_of_pos _ (by decide)⟩
  have h2 : ∀ x : Int, 0 ≤ x % 2147483587 ∧ x % 2147483587 < 2147483587 := fun x => ⟨Int.emod_nonneg _ (by decide), Int.emod_lt_of_pos _ (by decide)⟩
  refine ⟨((((c % 2147483647 * 48271 + k * 69621 + 1048583) % 2147483629) * ((c % 2147483647 * 48271 + k * 69621 + 1048583) % 2147483629) % 2147483587) * ((((c % 2147483647 * 48271 + k * 69621 + 1048583) % 2147483629) * ((c % 2147483647 * 48271 + k * 69621 + 1048583) % 2147483629) % 2147483587) + 2)) % 2147483579, ?_⟩
  show fDef 3 (m__law_mixed (lev Nn mm n)) [.d (.int c), .d (.int k)] T = _
  unfold m__law_mixed
  have m1 : ∀ (a b : Int) (T : So), -(2 ^ 64) < b → b < 2 ^ 64 → oMul (.d (.int a)) (.d (.int b)) T = .ok (.d (.int (a * b))) T := fun a b T l u => by
    unfold oMul oOr oI
    have : cSm a b = true := by
      unfold cSm
      rw [decide_eq_true_eq]
      exact .inr ⟨l, u⟩
    simp [asI, this]
  have z1 := h1 (c % 2147483647 * 48271 + k * 69621 + 1048583)
  have e1 := m1 (c % 2147483647) 48271 T (by decide) (by decide)
  have e2 := m1 k 69621 T (by decide) (by decide)
  generalize hx : (c % 2147483647 * 48271 + k * 69621 + 1048583) % 2147483629 = x at z1 ⊢
  have e3 := m1 x x T (by omega) (by omega)
  have z2 := h2 (x * x)
  generalize hy : x * x % 2147483587 = y at z2 ⊢
  have e4 := m1 y (y + 2) T (by omega) (by omega)
  simp [e1, e2, hx, e3, hy, e4]
end G53

set_option linter.all false

set_option maxHeartbeats 4000000
namespace G53
open FL PySem L2
theorem forL_inv (I : Ev → So → Prop) (g : FG) (b : FS) : ∀ (ds : List PyData) (ev : Ev) (S : So), I ev S → (∀ d ∈ ds, ∀ ev S, I ev S → ∃ e1 ev' S', g (.d d) ev = some e1 ∧ b e1 S = .nx ev' S' ∧ I ev' S') →
    ∃ ev' S', forL g b ds ev S = .nx ev' S' ∧ I ev' S'
  | [], ev, S, h, _ => ⟨ev, S, rfl, h⟩
  | d :: ds, ev, S, h, st => by
    obtain ⟨e1, ev1, S1, h1, h2, h3⟩ := st d List.mem_cons_self ev S h
    obtain ⟨ev', S', h4, h5⟩ := forL_inv I g b ds ev1 S1 h3 fun x hx => st x (List.mem_cons_of_mem _ hx)
    refine ⟨ev', S', ?_, h5⟩
    unfold forL
    rw [h1]
    dsimp only
    rw [h2]
    exact h4
theorem mul_w (a b : Int) (T : So) (h : cMulW a b = true) : oMul (.d (.int a)) (.d (.int b)) T = .ok (.d (.int (a * b))) T := by
  unfold oMul oOr oI
  simp only [asI]
  by_cases c : cSm a b = true
  · rw [if_pos c]
  · rw [if_neg c, if_pos h]
theorem mul_s (a b : Int) (T : So) (l : -(2 ^ 64) < b) (u : b < 2 ^ 64) : oMul (.d (.int a)) (.d (.int b)) T = .ok (.d (.int (a * b))) T := by
  unfold oMul oOr oI
  have : cSm a b = true := by
    unfold cSm
    rw [decide_eq_true_eq]
    exact .inr ⟨l, u⟩
  simp [asI, this]
theorem mul_s' (a b : Int) (T : So) (l : -(2 ^ 64) < a) (u : a < 2 ^ 64) : oMul (.d (.int a)) (.d (.int b)) T = .ok (.d (.int (a * b))) T := by
  unfold oMul oOr oI
  have : cSm a b = true := by
    unfold cSm
    rw [decide_eq_true_eq]
    exact .inl ⟨l, u⟩
  simp [asI, this]
theorem pow_ok (j : Int) (T : So) (h0 : 0 ≤ j) (h1 : j ≤ 1000) : oPow (.d (.int 10)) (.d (.int j)) T = .ok (.d (.int (10 ^ j.toNat))) T := by
  unfold oPow oI
  have : cPw 10 j = true := by
    unfold cPw
    rw [decide_eq_true_eq]
    exact ⟨h0, by omega, by decide⟩
  simp [asI, this]
def cellG (om : W → W → So → Res W) (c : Cs) : FS := (fSet 3 (f2 oAdd (f2 om (fV 3) (fC (.int 2147483579))) (fCall 2 (c i__law_mixed) [] (fCons (fV 2) (fCons (f2 oAdd (f2 oAdd (f2 om (fC (.int 7)) (fV 1)) (f2 om (fC (.int 100)) (fV 4))) (f2 om (fV 4) (fV 4))) fNil)))))
abbrev cellBody (c : Cs) : FS := cellG oMul c
theorem cellG_step (om : W → W → So → Res W) (c : Cs) (ns : List Int) (k j x y z a b d e : Int) (S : So) (a1 : om (.d (.int y)) (.d (.int 2147483579)) S = .ok (.d (.int a)) S) (a2 : om (.d (.int 7)) (.d (.int k)) S = .ok (.d (.int b)) S)
    (a3 : om (.d (.int 100)) (.d (.int j)) S = .ok (.d (.int d)) S) (a4 : om (.d (.int j)) (.d (.int j)) S = .ok (.d (.int e)) S) (hz : c i__law_mixed [.d (.int x), .d (.int (b + d + e))] S = .ok (.d (.int z)) S) :
    cellG om c [some (.s ns), some (.d (.int k)), some (.d (.int x)), some (.d (.int y)), some (.d (.int j))] S = .nx [some (.s ns), some (.d (.int k)), some (.d (.int x)), some (.d (.int (a + z))), some (.d (.int j))] S := by
  unfold cellG
  simp [a1, a2, a3, a4, hz]
theorem nums : ∃ A1 B1 B2 B3 B : Int, (∀ T, oPow (.d (.int 10)) (.d (.int 18)) T = .ok (.d (.int A1)) T) ∧ (∀ T, oPow (.d (.int 10)) (.d (.int 60)) T = .ok (.d (.int B1)) T) ∧
    (∀ T, oMul (.d (.int B1)) (.d (.int B1)) T = .ok (.d (.int B2)) T) ∧ (∀ T, oMul (.d (.int B2)) (.d (.int B1)) T = .ok (.d (.int B3)) T) ∧ (∀ T, oMul (.d (.int B3)) (.d (.int B1)) T = .ok (.d (.int B)) T) ∧ 0 < B :=
  ⟨_, _, _, _, _, fun T => pow_ok 18 T (by decide) (by decide), fun T => pow_ok 60 T (by decide) (by decide), fun T => mul_w _ _ T (by decide +kernel), fun T => mul_w _ _ T (by decide +kernel), fun T => mul_w _ _ T (by decide +kernel), by decide +kernel⟩
theorem cell_step (n : Nat) (ns : List Int) (k j : Nat) (x y : Int) (v : W) (S : So) (hk : k ≤ 1000) (hj : j < 24) : ∃ z : Int, cellBody (lev Nn mm (n + 1)) [some (.s ns), some (.d (.int k)), some (.d (.int x)), some (.d (.int y)), some (.d (.int j))] S =
    .nx [some (.s ns), some (.d (.int k)), some (.d (.int x)), some (.d (.int z)), some (.d (.int j))] S := by
  obtain ⟨z, hz⟩ := mixed_ok n x (7 * k + 100 * j + j * j) S
  have a1 := mul_s y 2147483579 S (by decide) (by decide)
  have a2 := mul_s' 7 k S (by decide) (by decide)
  have a3 := mul_s' 100 j S (by decide) (by decide)
  have a4 := mul_s j j S (by omega) (by omega)
  exact ⟨_, cellG_step oMul _ ns k j x y z _ _ _ _ S a1 a2 a3 a4 hz⟩
theorem cell_ok (n : Nat) (ns : List Int) (k : Nat) (T : So) (hk : k ≤ 1000) (hl : ns.length ≤ 1000) : ∃ i : Int, lev Nn mm (n + 2) i__law_cell [.s ns, .d (.int k)] T = .ok (.d (.int i)) T := by
  obtain ⟨A1, B1, B2, B3, B, p18, p60, q2, q3, q4, hBp⟩ := nums
  -- the cell
  have hcell : ∃ x : Int, ∀ v3 v4, (fIfS (fB (f2 cLt (fV 1) (fB1 oLen (fCons (fV 0) fNil)))) (fSet 2 (f2 oIx (fV 0) (fV 1))) fNext) [some (.s ns), some (.d (.int k)), some (.d (.int 0)), v3, v4] T = .nx [some (.s ns), some (.d (.int k)), some (.d (.int x)), v3, v4] T := by
    by_cases c : k < ns.length
    · refine ⟨ns[k], fun v3 v4 => ?_⟩
      have h1 : atI ns (k : Int) = some ns[k] := by
        unfold atI ixN
        rw [if_pos (by omega), if_pos (by omega)]
        simp [c]
      have h2 : oIx (.s ns) (.d (.int k)) T = .ok (.d (.int ns[k])) T := by
        simp [oIx, oOr, oIxT, oIxL, oIxK, oIxS, oIxN, asT, asL, asD, asS, asN, asI, h1, -s_atI]
      simp [oLen, lenW, cLt, asB, h2, -oIx]
      rw [decide_eq_true (by omega)]
    · refine ⟨0, fun v3 v4 => ?_⟩
      simp [oLen, lenW, cLt, asB, -oIx]
      rw [decide_eq_false (by omega)]
  obtain ⟨x, hx⟩ := hcell
  by_cases c : A1 ≤ x
  · refine ⟨(x - A1) % B, ?_⟩
    show fDef 5 (m__law_cell (lev Nn mm (n + 1))) [.s ns, .d (.int k)] T = _
    refine (fdef_d (x := .int ((x - A1) % B)) (S1 := T) ?_).trans (by simp)
    show m__law_cell (lev Nn mm (n + 1)) [some (.s ns), some (.d (.int k)), none, none, none] T = _
    unfold m__law_cell
    rw [seq_nx (e1 := [some (.s ns), some (.d (.int k)), some (.d (.int 0)), none, none]) (S1 := T) (by simp)]
    rw [seq_nx (hx none none)]
    rw [seq_rt (w := .d (.int ((x - A1) % B))) (S1 := T) (by
      simp [p18, p60, q2, q3, q4, cGe, asB, oSub]
      rw [decide_eq_true c]
      simp [p18, p60, q2, q3, q4, hBp])]
  · -- the mixed digits
    obtain ⟨ev', S', h1, h2, v, y, h3⟩ := forL_inv (fun ev S => S = T ∧ ∃ (v : Option W) (y : Int), ev = [some (.s ns), some (.d (.int k)), some (.d (.int x)), some (.d (.int y)), v]) (gNm 4) (cellBody (lev Nn mm (n + 1))) (rgD 0 24) [some (.s ns), some (.d (.int k)), some (.d (.int x)), some (.d (.int 0)), none] T ⟨rfl, none, 0, rfl⟩ (by
      rintro d hd ev S ⟨rfl, v, y, rfl⟩
      obtain ⟨j, hj, rfl⟩ := List.mem_map.mp hd
      have hj := List.mem_range.mp hj
      obtain ⟨z, hz⟩ := cell_step n ns k j x y (.d .none) S hk hj
      rw [Int.zero_add]
      exact ⟨_, _, S, rfl, hz, rfl, some (.d (.int j)), z, rfl⟩)
    subst h2 h3
    refine ⟨y, ?_⟩
    show fDef 5 (m__law_cell (lev Nn mm (n + 1))) [.s ns, .d (.int k)] S' = _
    refine (fdef_d (x := .int y) (S1 := S') ?_).trans (by simp)
    show m__law_cell (lev Nn mm (n + 1)) [some (.s ns), some (.d (.int k)), none, none, none] S' = _
    unfold m__law_cell
    rw [seq_nx (e1 := [some (.s ns), some (.d (.int k)), some (.d (.int 0)), none, none]) (S1 := S') (by simp)]
    rw [seq_nx (hx none none)]
    rw [seq_nx (e1 := [some (.s ns), some (.d (.int k)), some (.d (.int x)), none, none]) (S1 := S') (by
      simp [p18, cGe, asB]
      rw [decide_eq_false c])]
    rw [seq_nx (e1 := [some (.s ns), some (.d (.int k)), some (.d (.int x)), some (.d (.int 0)), none]) (S1 := S') (by simp)]
    have hf : fFor (fRng1 (fCons (fC (.int 24)) fNil)) (gNm 4) (cellBody (lev Nn mm (n + 1))) [some (.s ns), some (.d (.int k)), some (.d (.int x)), some (.d (.int 0)), none] S' = .nx [some (.s ns), some (.d (.int k)), some (.d (.int x)), some (.d (.int y)), v] S' := by
      unfold fFor
      have hr : fRng1 (fCons (fC (.int 24)) fNil) [some (.s ns), some (.d (.int k)), some (.d (.int x)), some (.d (.int 0)), none] S' = .ok (rgD 0 24) S' := by simp [fRng1]
      rw [hr]
      exact h1
    refine (seq_nx hf).trans ?_
    simp
end G53

set_option linter.all false
set_option maxHeartbeats 4000000
namespace G53
open FL PySem L2
/-! words -/
def some10 : List Str := ["a", "ab", "goto", "test", "c", "yes", "longname", "iff", "jump", "no"]
def fixedN : List Str := ["zz", "b", "d", "e", "f", "g", "h", "x", "xx", "xxx", "xxxx", "xxxxx", "xxxxxx", "xxxxxxx", "xxxxxxxx"]
theorem name_ok (x : Str) (h1 : 1 ≤ x.length) (h8 : x.length ≤ 8) (hw : x ∉ (["and", "or", "not", "if", "else"] : List Str)) (hc : ∀ c ∈ x.cps.toList, leS "a" ⟨#[c]⟩ = true ∧ leS ⟨#[c]⟩ "z" = true) : NmOk x := by
  intro n S
  show fDef 2 (m_is_name (lev Nn mm n)) [.d (.str x)] S = _
  unfold m_is_name
  have hk : kitB "str" "str" = some true := by decide +kernel
  have hi := in_strs x ["and", "or", "not", "if", "else"] S
  rw [decide_eq_false hw] at hi
  have hz : x.length ≤ sizeLine := by rw [sizeLine_eq]; omega
  have hle : ∀ (a b : Str) (T : So), cLe (.d (.str a)) (.d (.str b)) T = .ok (.d (.bool (leS a b))) T := fun a b T => by
    simp [cLe, oOr, oI, asI, oSS, asS]
  have hm := lcL_map (g := gNm 1) (te := (fChain cLe cLe (fC (.str "a")) (fV 1) (fC (.str "z")))) (ev0 := [some (.d (.str x)), none]) (S := S) (dt := fun c : Nat => PyData.str ⟨#[c]⟩) (f := fun _ => .bool true) x.cps.toList []
    (fun c hcm => ⟨_, rfl, by simp [fChain, hle, asB, hc c hcm]⟩) (by rw [sizeLine_eq]; simp; have : x.cps.size = x.length := rfl; omega)
  have ha := all_true x.cps.toList S
  simp at hm ha hi
  have l1 : cLe (.d (.int 1)) (.d (.int (x.length : Int))) S = .ok (.d (.bool true)) S := by simp [cLe, oOr, oI, asI]; omega
  have l2 : cLe (.d (.int (x.length : Int))) (.d (.int 8)) S = .ok (.d (.bool true)) S := by simp [cLe, oOr, oI, asI]; omega
  simp [fIsi, tyW, hk, tru, oLen, lenW, hz, fChain, l1, l2, asB, hi, hm, ha, -lcL]
theorem nm_all : ∀ x ∈ some10 ++ fixedN, NmOk x := by
  intro x hx
  have h : ∀ x ∈ some10 ++ fixedN, (1 ≤ x.length ∧ x.length ≤ 8) ∧ x ∉ (["and", "or", "not", "if", "else"] : List Str) ∧ ∀ c ∈ x.cps.toList, leS "a" ⟨#[c]⟩ = true ∧ leS ⟨#[c]⟩ "z" = true := by decide +kernel
  obtain ⟨⟨h1, h2⟩, h3, h4⟩ := h x hx
  exact name_ok x h1 h2 h3 h4
theorem len_all : ∀ x ∈ some10 ++ fixedN, x.length ≤ 1000 := by decide
def wl (d : Nat) : List Str := (some10.drop d ++ some10.take d).take 4
theorem wl_mem (d : Nat) : ∀ x ∈ wl d, x ∈ some10 := fun x hx => by
  have h := List.mem_of_mem_take hx
  rcases List.mem_append.mp h with h | h
  · exact List.mem_of_mem_drop h
  · exact List.mem_of_mem_take h
theorem wl_len : ∀ d, d < 10 → (wl d).length = 4 := by decide
theorem wl_nd : ∀ d, d < 10 → (wl d).Nodup := by decide
theorem words_ok (n k : Nat) (S : So) (i : Int) (hk : k < S.length) : lev Nn mm (n + 2) i__law_words [.r k, .d (.int 4)] (own S k i) = .ok (.d (.list ((wl (i % 10).toNat).map .str))) (own S k (i / 10)) := by
  show fDef 4 (m__law_words (lev Nn mm (n + 1))) [.r k, .d (.int 4)] (own S k i) = _
  have ht := take_own n k S i 10 hk (by decide) (by decide)
  have hd : i % 10 = 0 ∨ i % 10 = 1 ∨ i % 10 = 2 ∨ i % 10 = 3 ∨ i % 10 = 4 ∨ i % 10 = 5 ∨ i % 10 = 6 ∨ i % 10 = 7 ∨ i % 10 = 8 ∨ i % 10 = 9 := by omega
  have tl : ∀ j, (own S k j).take S.length = own S k j := fun j => own_take
  refine (fdef_d (x := .list ((wl (i % 10).toNat).map .str)) (S1 := own S k (i / 10)) ?_).trans (by simp [tl])
  show m__law_words (lev Nn mm (n + 1)) [some (.r k), some (.d (.int 4)), none, none] (own S k i) = _
  unfold m__law_words
  rw [seq_nx (e1 := [some (.r k), some (.d (.int 4)), some (.d (.list (some10.map .str))), none]) (S1 := own S k i) (by simp [fLst, allD, sizeLine_eq, some10])]
  rw [seq_nx (e1 := [some (.r k), some (.d (.int 4)), some (.d (.list (some10.map .str))), some (.d (.int (i % 10)))]) (S1 := own S k (i / 10)) (by simp [ht])]
  rcases hd with h | h | h | h | h | h | h | h | h | h <;> rw [h] <;> kernel_rfl
end G53

set_option linter.all false
set_option maxHeartbeats 4000000
namespace G53
open FL PySem L2
/-- a comprehension that draws -/
theorem lcL_draw (P : PyData → Prop) (S : So) (k : Nat) (g : FG) (te : FE) (ev0 : Ev) : ∀ (ds : List PyData) (i : Int) (acc : List PyData), (∀ d ∈ ds, ∃ e1, g (.d d) ev0 = some e1 ∧ ∀ i, ∃ y i', te e1 (own S k i) = .ok (.d y) (own S k i') ∧ P y) → acc.length + ds.length ≤ sizeLine →
    ∃ ys i', lcL g fYes te ev0 ds (own S k i) acc = .ok (acc ++ ys) (own S k i') ∧ ys.length = ds.length ∧ ∀ y ∈ ys, P y
  | [], i, acc, _, _ => ⟨[], i, by simp, rfl, fun y h => by cases h⟩
  | d :: ds, i, acc, h, hl => by
    obtain ⟨e1, h1, h2⟩ := h d List.mem_cons_self
    obtain ⟨y, i1, h3, h4⟩ := h2 i
    rw [List.length_cons] at hl
    obtain ⟨ys, i', g1, g2, g3⟩ := lcL_draw P S k g te ev0 ds i1 (acc ++ [y]) (fun x hx => h x (List.mem_cons_of_mem _ hx)) (by rw [List.length_append, List.length_singleton]; omega)
    refine ⟨y :: ys, i', ?_, by simp [g2], fun z hz => ?_⟩
    · unfold lcL
      rw [h1]
      dsimp only
      rw [h3]
      dsimp only
      rw [if_pos ⟨by simp, by omega⟩, g1, List.append_assoc]
      rfl
    · rcases List.mem_cons.mp hz with e | hz
      · rw [e]; exact h4
      · exact g3 z hz
mutual
theorem sz_nd : ∀ c : Cn, c.sz ≤ c.nd
  | .t _ => by rw [Cn.sz, Cn.nd]; omega
  | .n c => by have := sz_nd c; rw [Cn.sz, Cn.nd]; omega
  | .m _ cs => by have := szs_nds cs; rw [Cn.sz, Cn.nd]; omega
  | .i c x y => by have := sz_nd c; have := sz_nd x; have := sz_nd y; rw [Cn.sz, Cn.nd]; omega
theorem szs_nds : ∀ cs : List Cn, Cn.szs cs ≤ Cn.nds cs
  | [] => by rw [Cn.szs, Cn.nds]; omega
  | c :: cs => by have := sz_nd c; have := szs_nds cs; rw [Cn.szs, Cn.nds]; omega
end
mutual
theorem nt_nd : ∀ c : Cn, c.nt ≤ c.nd
  | .t _ => by rw [Cn.nt, Cn.nd]; omega
  | .n c => by have := nt_nd c; rw [Cn.nt, Cn.nd]; omega
  | .m _ cs => by have := nts_nds cs; rw [Cn.nt, Cn.nd]; omega
  | .i c x y => by have := nt_nd c; have := nt_nd x; have := nt_nd y; rw [Cn.nt, Cn.nd]; omega
theorem nts_nds : ∀ cs : List Cn, Cn.nts cs ≤ Cn.nds cs
  | [] => by rw [Cn.nts, Cn.nds]; omega
  | c :: cs => by have := nt_nd c; have := nts_nds cs; rw [Cn.nts, Cn.nds]; omega
end
def bnd : Nat → Nat
  | 0 => 1
  | d + 1 => 1 + 3 * bnd d
structure Dw (ws : List Str) (deep : Nat) (c : Cn) : Prop where
  few : c.few
  on : c.on ws
  dp : c.dp ≤ deep + 1
  nd : c.nd ≤ bnd deep
theorem of_all (ws : List Str) (deep : Nat) : ∀ ys : List PyData, (∀ y ∈ ys, ∃ c : Cn, y = c.d ∧ Dw ws deep c) → ∃ cs : List Cn, ys = cs.map Cn.d ∧ cs.length = ys.length ∧ (∀ c ∈ cs, Dw ws deep c)
  | [], _ => ⟨[], rfl, rfl, fun c h => by cases h⟩
  | y :: ys, h => by
    obtain ⟨c, rfl, hc⟩ := h _ List.mem_cons_self
    obtain ⟨cs, rfl, h2, h3⟩ := of_all ws deep ys fun z hz => h z (List.mem_cons_of_mem _ hz)
    exact ⟨c :: cs, rfl, by simp, fun d hd => by
      rcases List.mem_cons.mp hd with e | hd
      · rw [e]; exact hc
      · exact h3 d hd⟩
theorem all_few (ws : List Str) (deep : Nat) : ∀ cs : List Cn, (∀ c ∈ cs, Dw ws deep c) → Cn.fews cs ∧ Cn.ons ws cs ∧ Cn.dps cs ≤ deep + 1 ∧ Cn.nds cs ≤ cs.length * bnd deep
  | [], _ => by
    unfold Cn.fews Cn.ons Cn.dps Cn.nds
    exact ⟨trivial, trivial, by omega, by simp⟩
  | c :: cs, h => by
    obtain ⟨h1, h2, h3, h4⟩ := all_few ws deep cs fun d hd => h d (List.mem_cons_of_mem _ hd)
    have hc := h c List.mem_cons_self
    unfold Cn.fews Cn.ons Cn.dps Cn.nds
    have := hc.dp
    have := hc.nd
    refine ⟨⟨hc.few, h1⟩, ⟨hc.on, h2⟩, by omega, ?_⟩
    rw [List.length_cons, Nat.succ_mul]
    omega
theorem rg_mem {n : Nat} {d : PyData} (h : d ∈ rgD 0 n) : ∃ j : Nat, d = .int j := by
  obtain ⟨j, _, e⟩ := List.mem_map.mp h
  exact ⟨j, by rw [← e, Int.zero_add]⟩
@[simp] theorem rg_len (n : Nat) : (rgD 0 n).length = n := by simp [rgD]
section
variable (ws : List Str) (hws : ws.length = 4) (S : So) (k : Nat) (hk : k < S.length)
abbrev cdE (ws : List Str) (k : Nat) (D p : Int) (v4 : Option W) : Ev := [some (.r k), some (.d (.list (ws.map .str))), some (.d (.int D)), some (.d (.int p)), v4, none]
include hws hk in
theorem cd_test (n : Nat) (i D : Int) (h : D = 0 ∨ i % 9 = 0) : ∃ x i', x ∈ ws ∧ m__law_condition (lev Nn mm (n + 1)) [some (.r k), some (.d (.list (ws.map .str))), some (.d (.int D)), none, none, none] (own S k i) = .rt (.d (Cn.t x).d) (own S k i') := by
  have t1 := take_own n k S i 9 hk (by decide) (by decide)
  have t2 := take_own n k S (i / 9) 4 hk (by decide) (by decide)
  obtain ⟨d, hd⟩ := Int.eq_ofNat_of_zero_le (Int.emod_nonneg (i / 9) (show (4 : Int) ≠ 0 by decide))
  have hd4 : d < 4 := by have := Int.emod_lt_of_pos (i / 9) (show (0 : Int) < 4 by decide); omega
  rw [hd] at t2
  have hdl : d < ws.length := by omega
  have hx : ∀ T, oIx (.d (.list (ws.map .str))) (.d (.int d)) T = .ok (.d (.str ws[d])) T := fun T => ixL_nat _ d _ T (by simp [hdl])
  refine ⟨ws[d], i / 9 / 4, List.getElem_mem hdl, ?_⟩
  unfold m__law_condition
  rw [seq_nx (e1 := cdE ws k D (i % 9) none) (S1 := own S k (i / 9)) (by simp [t1])]
  refine seq_rt ?_
  have e1 : (Cn.t ws[d]).d = .tuple [.str "test", .str ws[d]] := by rw [Cn.d]
  rw [e1]
  have hb : ∀ T, (fOrT (fB (f2 cEq (fV 2) (fC (.int 0)))) (fB (f2 cEq (fV 3) (fC (.int 0))))) (cdE ws k D (i % 9) none) T = .ok true T := fun T => by
    rcases h with h | h
    · simp [asB, h]
    · by_cases c : D = 0
      · simp [asB, c]
      · simp [asB, c, h]
  simp [hb, oLen, lenW, seqW, hws, t2, hx, fTup, allD, sizeLine_eq, -oIx, -fOrT]
include hk in
theorem cd_head (n : Nat) (i D : Int) (h : D ≠ 0) (h2 : i % 9 ≠ 0) (o : Out) (hr : (fSeq (fIfS (fB (f2 cLt (fV 3) (fC (.int 3)))) 
      (fRet (fTup (fCons (fC (.str "not")) (fCons (fCall 3 (lev Nn mm (n + 1) i__law_condition) [] (fCons (fV 0) (fCons (fV 1) (fCons (f2 oSub (fV 2) (fC (.int 1))) fNil)))) fNil)))) 
      fNext) 
    (fSeq (fIfS (fB (f2 cLt (fV 3) (fC (.int 8)))) 
      (fSeq (fSet 4 (fLc (fRng1 (fCons (f2 oAdd (fC (.int 2)) (f2 oDiv (fCall 2 (lev Nn mm (n + 1) i__law_take) [] (fCons (fV 0) (fCons (fC (.int 5)) fNil))) (fC (.int 4)))) fNil)) (gNm 5) fYes (fCall 3 (lev Nn mm (n + 1) i__law_condition) [] (fCons (fV 0) (fCons (fV 1) (fCons (f2 oSub (fV 2) (fC (.int 1))) fNil)))) [5])) 
      (fRet (f2 oAdd (fTup (fCons (f2 oIx (fLst (fCons (fC (.str "and")) (fCons (fC (.str "or")) fNil))) (f2 oMod (fB1 (FL.o1 intW) (fCons (fV 3) fNil)) (fC (.int 2)))) fNil)) (fB1 (FL.o1 tupW) (fCons (fV 4) fNil))))) 
      fNext) 
    (fRet (f2 oAdd (fTup (fCons (fC (.str "if")) fNil)) (fB1 (FL.o1 tupW) (fCons (fLc (fRng1 (fCons (fC (.int 3)) fNil)) (gNm 5) fYes (fCall 3 (lev Nn mm (n + 1) i__law_condition) [] (fCons (fV 0) (fCons (fV 1) (fCons (f2 oSub (fV 2) (fC (.int 1))) fNil)))) [5]) fNil)))))) (cdE ws k D (i % 9) none) (own S k (i / 9)) = o) :
    m__law_condition (lev Nn mm (n + 1)) [some (.r k), some (.d (.list (ws.map .str))), some (.d (.int D)), none, none, none] (own S k i) = o := by
  have t1 := take_own n k S i 9 hk (by decide) (by decide)
  unfold m__law_condition
  rw [seq_nx (e1 := cdE ws k D (i % 9) none) (S1 := own S k (i / 9)) (by simp [t1])]
  rw [seq_nx (e1 := cdE ws k D (i % 9) none) (S1 := own S k (i / 9)) (by simp [asB, h, h2])]
  exact hr
include hws hk in
theorem cond_draw : ∀ (deep n : Nat) (i : Int), deep + 2 ≤ n →
    ∃ c i', lev Nn mm n i__law_condition [.r k, .d (.list (ws.map .str)), .d (.int deep)] (own S k i) = .ok (.d c.d) (own S k i') ∧ Dw ws deep c := by
  have tk : ∀ i, (own S k i).take S.length = own S k i := fun i => own_take
  intro deep
  induction deep with
  | zero =>
    intro n i hn
    obtain ⟨n, rfl⟩ : ∃ m, n = m + 2 := ⟨n - 2, by omega⟩
    obtain ⟨x, i', hx, h⟩ := cd_test ws hws S k hk n i 0 (.inl rfl)
    refine ⟨.t x, i', ?_, ⟨by unfold Cn.few; trivial, by unfold Cn.on; exact hx, by rw [Cn.dp]; omega, by rw [Cn.nd, bnd]; omega⟩⟩
    show fDef 6 (m__law_condition (lev Nn mm (n + 1))) [.r k, .d (.list (ws.map .str)), .d (.int ((0 : Nat) : Int))] (own S k i) = _
    exact (fdef_d h).trans (by simp [tk])
  | succ deep ih =>
    intro n i hn
    obtain ⟨n, rfl⟩ : ∃ m, n = m + 2 := ⟨n - 2, by omega⟩
    have e0 : ((deep + 1 : Nat) : Int) - 1 = (deep : Int) := by omega
    have hne : ((deep + 1 : Nat) : Int) ≠ 0 := by omega
    generalize ((deep + 1 : Nat) : Int) = D at e0 hne ⊢
    have bp : 1 ≤ bnd deep := by cases deep <;> rw [bnd] <;> omega
    have h9 := Int.emod_nonneg i (show (9 : Int) ≠ 0 by decide)
    have h9' := Int.emod_lt_of_pos i (show (0 : Int) < 9 by decide)
    have go : ∀ {x : PyData} {S1 : So}, m__law_condition (lev Nn mm (n + 1)) [some (.r k), some (.d (.list (ws.map .str))), some (.d (.int D)), none, none, none] (own S k i) = .rt (.d x) S1 →
        lev Nn mm (n + 2) i__law_condition [.r k, .d (.list (ws.map .str)), .d (.int D)] (own S k i) = .ok (.d x) (S1.take (own S k i).length) := fun h => fdef_d h
    by_cases p0 : i % 9 = 0
    · obtain ⟨x, i', hx, h⟩ := cd_test ws hws S k hk n i D (.inr p0)
      exact ⟨.t x, i', (go h).trans (by simp [tk]), ⟨by unfold Cn.few; trivial, by unfold Cn.on; exact hx, by rw [Cn.dp]; omega, by rw [Cn.nd, bnd]; omega⟩⟩
    by_cases p3 : i % 9 < 3
    · obtain ⟨c, i', h1, hc⟩ := ih (n + 1) (i / 9) (by omega)
      have := hc.dp
      have := hc.nd
      refine ⟨.n c, i', (go (cd_head ws S k hk n i _ hne p0 (.rt (.d (Cn.n c).d) (own S k i')) (seq_rt ?_))).trans (by simp [tk]), ⟨by unfold Cn.few; exact hc.few, by unfold Cn.on; exact hc.on, by rw [Cn.dp]; omega, by rw [Cn.nd, bnd]; omega⟩⟩
      have e1 : (Cn.n c).d = .tuple [.str "not", c.d] := by rw [Cn.d]
      rw [e1]
      simp [cLt, asB, p3, oSub, e0, h1, fTup, allD, sizeLine_eq]
    by_cases p8 : i % 9 < 8
    · -- and, or
      have t5 := take_own n k S (i / 9) 5 hk (by decide) (by decide)
      have h5 := Int.emod_nonneg (i / 9) (show (5 : Int) ≠ 0 by decide)
      have h5' := Int.emod_lt_of_pos (i / 9) (show (0 : Int) < 5 by decide)
      obtain ⟨m, hm, hm2, hm3⟩ : ∃ m : Nat, 2 + i / 9 % 5 / 4 = (m : Int) ∧ 2 ≤ m ∧ m ≤ 3 := ⟨(2 + i / 9 % 5 / 4).toNat, by omega, by omega, by omega⟩
      obtain ⟨ys, i', h1, h2, h3⟩ := lcL_draw (fun y => ∃ c : Cn, y = c.d ∧ Dw ws deep c) S k (gNm 5) (fCall 3 (lev Nn mm (n + 1) i__law_condition) [] (fCons (fV 0) (fCons (fV 1) (fCons (f2 oSub (fV 2) (fC (.int 1))) fNil)))) (cdE ws k D (i % 9) none) (rgD 0 m) (i / 9 / 5) [] (fun d hd => by
        obtain ⟨j, rfl⟩ := rg_mem hd
        refine ⟨_, rfl, fun i => ?_⟩
        obtain ⟨c, i', h1, hc⟩ := ih (n + 1) i (by omega)
        refine ⟨c.d, i', ?_, ⟨c, rfl, hc⟩⟩
        simp [oSub, e0, h1]) (by rw [sizeLine_eq]; simp; omega)
      obtain ⟨cs, rfl, h4, h5⟩ := of_all ws deep ys h3
      rw [rg_len] at h2
      rw [h2] at h4
      obtain ⟨g1, g2, g3, g4⟩ := all_few ws deep cs h5
      have hfi : fRng1 (fCons (f2 oAdd (fC (.int 2)) (f2 oDiv (fCall 2 (lev Nn mm (n + 1) i__law_take) [] (fCons (fV 0) (fCons (fC (.int 5)) fNil))) (fC (.int 4)))) fNil) (cdE ws k D (i % 9) none) (own S k (i / 9)) = .ok (rgD 0 m) (own S k (i / 9 / 5)) := by
        simp [fRng1, t5, hm]
        omega
      have hl : fLc (fRng1 (fCons (f2 oAdd (fC (.int 2)) (f2 oDiv (fCall 2 (lev Nn mm (n + 1) i__law_take) [] (fCons (fV 0) (fCons (fC (.int 5)) fNil))) (fC (.int 4)))) fNil)) (gNm 5) fYes (fCall 3 (lev Nn mm (n + 1) i__law_condition) [] (fCons (fV 0) (fCons (fV 1) (fCons (f2 oSub (fV 2) (fC (.int 1))) fNil)))) [5] (cdE ws k D (i % 9) none) (own S k (i / 9)) = .ok (.d (.list (cs.map Cn.d))) (own S k i') := by
        unfold fLc
        rw [hfi]
        show ((lcL _ _ _ (cdE ws k D (i % 9) none) _ _ _).bind _) = _
        rw [h1]
        rfl
      have hb2 : i % 9 % 2 = 0 ∨ i % 9 % 2 = 1 := by omega
      have hcm : m * bnd deep ≤ 3 * bnd deep := Nat.mul_le_mul_right _ hm3
      rw [h4] at g4
      have mk : ∀ b : Bool, Dw ws (deep + 1) (.m b cs) := fun b => ⟨by unfold Cn.few; exact ⟨by omega, by omega, g1⟩, by unfold Cn.on; exact g2, by rw [Cn.dp]; omega, by rw [Cn.nd, bnd]; omega⟩
      have fin : ∀ b : Bool, i % 9 % 2 = (if b then 0 else 1) → m__law_condition (lev Nn mm (n + 1)) [some (.r k), some (.d (.list (ws.map .str))), some (.d (.int D)), none, none, none] (own S k i) = .rt (.d (Cn.m b cs).d) (own S k i') := fun b hb => by
        refine cd_head ws S k hk n i _ hne p0 _ ?_
        rw [seq_nx (e1 := cdE ws k D (i % 9) none) (S1 := own S k (i / 9)) (by simp [cLt, asB, p3])]
        refine seq_rt ?_
        have e1 : (Cn.m b cs).d = .tuple (.str (if b then "and" else "or") :: cs.map Cn.d) := by rw [Cn.d, ds_map]
        rw [e1]
        have hadd := add_tt (.str (if b then "and" else "or")) [] (cs.map Cn.d) (own S k i') (by simp; omega)
        have hix : ∀ T, oIx (.d (.list [.str "and", .str "or"])) (.d (.int (i % 9 % 2))) T = .ok (.d (.str (if b then "and" else "or"))) T := fun T => by
          rw [hb]
          cases b
          · exact ixL_nat _ 1 _ T rfl
          · exact ixL_nat _ 0 _ T rfl
        simp [cLt, asB, p8, hl, fLst, fTup, allD, sizeLine_eq, oMod, intW, hix, tupW, hadd, -fLc, -oIx, -oDiv]
      rcases hb2 with h | h
      · exact ⟨.m true cs, i', (go (fin true h)).trans (by simp [tk]), mk true⟩
      · exact ⟨.m false cs, i', (go (fin false h)).trans (by simp [tk]), mk false⟩
    · -- if
      obtain ⟨ys, i', h1, h2, h3⟩ := lcL_draw (fun y => ∃ c : Cn, y = c.d ∧ Dw ws deep c) S k (gNm 5) (fCall 3 (lev Nn mm (n + 1) i__law_condition) [] (fCons (fV 0) (fCons (fV 1) (fCons (f2 oSub (fV 2) (fC (.int 1))) fNil)))) (cdE ws k D (i % 9) none) (rgD 0 3) (i / 9) [] (fun d hd => by
        obtain ⟨j, rfl⟩ := rg_mem hd
        refine ⟨_, rfl, fun i => ?_⟩
        obtain ⟨c, i', h1, hc⟩ := ih (n + 1) i (by omega)
        refine ⟨c.d, i', ?_, ⟨c, rfl, hc⟩⟩
        simp [oSub, e0, h1]) (by rw [sizeLine_eq]; simp)
      obtain ⟨cs, rfl, h4, h5⟩ := of_all ws deep ys h3
      rw [rg_len] at h2
      rw [h2] at h4
      obtain ⟨c, x, z, rfl⟩ : ∃ c x z, cs = [c, x, z] := by
        match cs, h4 with
        | [c, x, z], _ => exact ⟨c, x, z, rfl⟩
      have hc := h5 c (by simp)
      have hx := h5 x (by simp)
      have hz := h5 z (by simp)
      have hl : fLc (fRng1 (fCons (fC (.int 3)) fNil)) (gNm 5) fYes (fCall 3 (lev Nn mm (n + 1) i__law_condition) [] (fCons (fV 0) (fCons (fV 1) (fCons (f2 oSub (fV 2) (fC (.int 1))) fNil)))) [5] (cdE ws k D (i % 9) none) (own S k (i / 9)) = .ok (.d (.list ([c, x, z].map Cn.d))) (own S k i') := by
        unfold fLc
        have hfi : fRng1 (fCons (fC (.int 3)) fNil) (cdE ws k D (i % 9) none) (own S k (i / 9)) = .ok (rgD 0 3) (own S k (i / 9)) := by simp [fRng1]
        rw [hfi]
        show ((lcL _ _ _ (cdE ws k D (i % 9) none) _ _ _).bind _) = _
        rw [h1]
        rfl
      have := hc.dp
      have := hc.nd
      have := hx.dp
      have := hx.nd
      have := hz.dp
      have := hz.nd
      refine ⟨.i c x z, i', (go (cd_head ws S k hk n i _ hne p0 (.rt (.d (Cn.i c x z).d) (own S k i')) ?_)).trans (by simp [tk]), ⟨by unfold Cn.few; exact ⟨hc.few, hx.few, hz.few⟩, by unfold Cn.on; exact ⟨hc.on, hx.on, hz.on⟩, by rw [Cn.dp]; omega, by rw [Cn.nd, bnd]; omega⟩⟩
      rw [seq_nx (e1 := cdE ws k D (i % 9) none) (S1 := own S k (i / 9)) (by simp [cLt, asB, p3])]
      rw [seq_nx (e1 := cdE ws k D (i % 9) none) (S1 := own S k (i / 9)) (by simp [cLt, asB, p8])]
      have e1 : (Cn.i c x z).d = .tuple [.str "if", c.d, x.d, z.d] := by rw [Cn.d]
      rw [e1]
      have hadd := add_tt (.str "if") [] [c.d, x.d, z.d] (own S k i') (by simp)
      simp only [List.map_cons, List.map_nil] at hl
      simp [hl, fTup, allD, sizeLine_eq, tupW, hadd, -fLc]
end
end G53

set_option linter.all false
set_option maxHeartbeats 4000000
namespace G53
open FL PySem L2
/-! in order -/
def Asc (l : List Str) : Prop := l.Pairwise (fun a b => leX a b = true) ∧ l.Nodup
theorem ddp_nd : ∀ {l : List Str}, l.Nodup → ddp l = l
  | [], _ => rfl
  | x :: l, h => by
    have h2 := List.nodup_cons.mp h
    unfold ddp
    rw [ddp_nd h2.2, if_neg h2.1]
theorem asc_srt {l : List Str} (h : Asc l) : srt (ddp l) = l := by
  rw [ddp_nd h.2]
  refine List.Perm.eq_of_pairwise (le := fun a b => leX a b = true) (fun a b _ _ => leX_eq) ?_ h.1 (List.mergeSort_perm l leX)
  exact List.pairwise_mergeSort (le := leX) (fun a b c => leX_tr) leX_to l
theorem srt_asc {l : List Str} (h : l.Nodup) : Asc (srt l) :=
  ⟨List.pairwise_mergeSort (le := leX) (fun a b c => leX_tr) leX_to l, (List.mergeSort_perm l leX).nodup_iff.mpr h⟩
theorem srt_mem {l : List Str} {x : Str} : x ∈ srt l ↔ x ∈ l := (List.mergeSort_perm l leX).mem_iff
theorem srt_len (l : List Str) : (srt l).length = l.length := (List.mergeSort_perm l leX).length_eq
theorem asok_of {K : List (Str × Bool)} (h : Asc (K.map (·.1))) (hl : K.length ≤ 8) (hn : ∀ p ∈ K, NmOk p.1) : AsOk K := ⟨h.2, hl, hn, asc_srt h⟩
/-- pairs of some of the words, with drawn answers -/
theorem lcL_pick (S : So) (k : Nat) (g : FG) (t : FT) (te : FE) (ev0 : Ev) : ∀ (zs : List Str) (i : Int) (acc : List PyData), (∀ z ∈ zs, ∃ e1, g (.d (.str z)) ev0 = some e1 ∧ (∀ i, ∃ b i', t e1 (own S k i) = .ok b (own S k i')) ∧ ∀ i, ∃ b i', te e1 (own S k i) = .ok (.d (.tuple [.str z, .str (yn_ b)])) (own S k i')) → acc.length + zs.length ≤ sizeLine →
    ∃ (K : List (Str × Bool)) (i' : Int), lcL g t te ev0 (zs.map .str) (own S k i) acc = .ok (acc ++ pr K) (own S k i') ∧ (K.map (·.1)).Sublist zs
  | [], i, acc, _, _ => ⟨[], i, by simp [lcL, pr], by simp⟩
  | z :: zs, i, acc, h, hl => by
    obtain ⟨e1, h1, h2, h3⟩ := h z List.mem_cons_self
    rw [List.length_cons] at hl
    obtain ⟨b, i1, h4⟩ := h2 i
    have hr := fun x hx => h x (List.mem_cons_of_mem _ hx)
    rw [List.map_cons]
    cases b with
    | false =>
      obtain ⟨K, i', g1, g2⟩ := lcL_pick S k g t te ev0 zs i1 acc hr (by omega)
      refine ⟨K, i', ?_, g2.cons _⟩
      unfold lcL
      rw [h1]
      dsimp only
      rw [h4]
      dsimp only
      rw [if_pos (by simp), g1]
    | true =>
      obtain ⟨b, i2, h5⟩ := h3 i1
      obtain ⟨K, i', g1, g2⟩ := lcL_pick S k g t te ev0 zs i2 (acc ++ [.tuple [.str z, .str (yn_ b)]]) hr (by rw [List.length_append, List.length_singleton]; omega)
      refine ⟨(z, b) :: K, i', ?_, ?_⟩
      · unfold lcL
        rw [h1]
        dsimp only
        rw [h4]
        dsimp only
        rw [h5]
        dsimp only
        rw [if_pos ⟨by simp, by omega⟩, g1, List.append_assoc]
        rfl
      · rw [List.map_cons]
        exact g2.cons_cons _
theorem ans_of : ∀ ys : List PyData, (∀ y ∈ ys, ∃ a : Str, y = .str a ∧ (a = "yes" ∨ a = "no" ∨ a = "fails")) → ∃ A : List Str, ys = A.map .str ∧ Ans A
  | [], _ => ⟨[], rfl, fun x h => by cases h⟩
  | y :: ys, h => by
    obtain ⟨a, rfl, ha⟩ := h _ List.mem_cons_self
    obtain ⟨A, rfl, hA⟩ := ans_of ys fun z hz => h z (List.mem_cons_of_mem _ hz)
    exact ⟨a :: A, rfl, fun x hx => by
      rcases List.mem_cons.mp hx with e | hx
      · rw [e]; exact ha
      · exact hA x hx⟩
theorem cNe_refl (d : PyData) (T : So) (h : d.plain = true) (hd : d.depth ≤ 150) : cNe (.d d) (.d d) T = .ok (.d (.bool false)) T := by
  unfold cNe oEq
  simp only [toP_d]
  rw [if_pos ⟨h, h, hd⟩]
  simp [PySem.SeqAt.eqv_refl_plain d h]
theorem list_plain (A : List Str) : PyData.plain (.list (A.map .str)) = true ∧ PyData.depth (.list (A.map .str)) ≤ 150 := by
  have h1 := strs_plain A
  have h2 := strs_depth A
  constructor
  · simp [PyData.plain, h1]
  · simp only [PyData.depth]
    omega
theorem add_ll (xs ys : List PyData) (S : So) (h : xs.length + ys.length ≤ 10000) : oAdd (.d (.list xs)) (.d (.list ys)) S = .ok (.d (.list (xs ++ ys))) S := by
  simp [oAdd, oI, asI, oAddS, asS, oAddL, asL, sizeLine_eq]
  rw [if_pos (by omega)]
theorem set_ok {i : Nat} {f : FE} {ev : Ev} {S S1 : So} {w : W} (h : f ev S = .ok w S1) : fSet i f ev S = .nx (ev.set i (some w)) S1 := by
  unfold fSet
  rw [h]
  rfl
theorem f2_ok {op : W → W → So → Res W} {fa fb : FE} {ev : Ev} {S S1 S2 : So} {x y : W} (ha : fa ev S = .ok x S1) (hb : fb ev S1 = .ok y S2) : f2 op fa fb ev S = op x y S2 := by
  unfold f2
  rw [ha]
  show (fb ev S1).bind _ = _
  rw [hb]
  rfl
theorem rng_x {fa : FA} {ev : Ev} {S S1 : So} (x : Int) (h : fa ev S = .ok [.d (.int x)] S1) (h0 : 0 ≤ x) (h1 : x ≤ 1000) : fRng1 fa ev S = .ok (rgD 0 x.toNat) S1 := by
  unfold fRng1
  rw [h]
  simp only [Res.bind, asI]
  rw [if_pos ⟨by omega, by omega⟩]
theorem rng_ok {fa : FA} {ev : Ev} {S S1 : So} (m : Nat) (h : fa ev S = .ok [.d (.int (m : Int))] S1) (hm : m ≤ 1000) : fRng1 fa ev S = .ok (rgD 0 m) S1 := by
  have := rng_x (m : Int) h (by omega) (by omega)
  rw [this, Int.toNat_natCast]
def l8 : FE := (fLst (fCons (fC (.str "yes")) (fCons (fC (.str "no")) (fCons (fC (.str "yes")) (fCons (fC (.str "no")) (fCons (fC (.str "yes")) (fCons (fC (.str "no")) (fCons (fC (.str "yes")) (fCons (fC (.str "fails")) fNil)))))))))
theorem l8_ok (ev : Ev) (S : So) : l8 ev S = .ok (.d (.list [.str "yes", .str "no", .str "yes", .str "no", .str "yes", .str "no", .str "yes", .str "fails"])) S := by
  have hz : ([.str "yes", .str "no", .str "yes", .str "no", .str "yes", .str "no", .str "yes", .str "fails"] : List PyData).length ≤ sizeLine := by rw [sizeLine_eq]; decide
  show (if ([.str "yes", .str "no", .str "yes", .str "no", .str "yes", .str "no", .str "yes", .str "fails"] : List PyData).length ≤ sizeLine then Res.ok (W.d (.list [.str "yes", .str "no", .str "yes", .str "no", .str "yes", .str "no", .str "yes", .str "fails"])) S else Res.no) = _
  rw [if_pos hz]
def goodA (c : Cs) : FS := (fSeq (fSet 4 (fLc (fRng1 (fCons (fV 3) fNil)) (gNm 7) fYes (f2 oIx l8 (fCall 2 (c i__law_take) [] (fCons (fV 0) (fCons (fC (.int 8)) fNil)))) [7])) 
      (fSeq (fSet 5 (fB1 (FL.o1 lstW) (fCons (fV 4) fNil))) 
      (fSeq (fSet 6 (fCall 2 (c i_run) [] (fCons (fV 1) (fCons (fV 4) fNil)))) 
      (fIfS (fOrT (fNotT (fTr (fIsi "tuple" (fV 6)))) (fOrT (fB (f2 cNe (fV 6) (fCall 2 (c i__law_run) [] (fCons (fV 1) (fCons (fV 4) fNil))))) (fB (f2 cNe (fV 4) (fV 5))))) 
        (fRet (fC (.bool false))) 
        fNext))))
def goodB (c : Cs) : FS := (fSeq (fSet 8 (fLc (fItems (fB1 (FL.o1 sortW) (fCons (fV 2) fNil))) (gNm 9) (fB (f2 cGt (fCall 2 (c i__law_take) [] (fCons (fV 0) (fCons (fC (.int 5)) fNil))) (fC (.int 0)))) (fTup (fCons (fV 9) (fCons (f2 oIx (fLst (fCons (fC (.str "yes")) (fCons (fC (.str "no")) fNil))) (fCall 2 (c i__law_take) [] (fCons (fV 0) (fCons (fC (.int 2)) fNil)))) fNil))) [9])) 
      (fIfS (fOrT (fNotT (fTr (fCall 2 (c i__law_steady_good) [] (fCons (fV 1) (fCons (fB1 (FL.o1 tupW) (fCons (fV 8) fNil)) fNil))))) (fNotT (fTr (fCall 2 (c i__law_steady_good) [] (fCons (fV 1) (fCons (fB1 (FL.o1 tupW) (fCons (f2 oAdd (fV 8) (fLst (fCons (fTup (fCons (fC (.str "zz")) (fCons (fC (.str "yes")) fNil))) fNil))) fNil)) fNil)))))) 
        (fRet (fC (.bool false))) 
        fNext))
abbrev gE (k : Nat) (c : Cn) (zs : List Str) (v3 v4 v5 v6 v7 v8 v9 : Option W) : Ev := [some (.r k), some (.d c.d), some (.d (.list (zs.map .str))), v3, v4, v5, v6, v7, v8, v9]
def an8 (q : Nat) : Str := (["yes", "no", "yes", "no", "yes", "no", "yes", "fails"] : List Str).getD q "yes"
theorem an8_ok : ∀ q, q < 8 → an8 q = "yes" ∨ an8 q = "no" ∨ an8 q = "fails" := by decide
theorem an8_ix (q : Nat) (h : q < 8) (T : So) : oIx (.d (.list [.str "yes", .str "no", .str "yes", .str "no", .str "yes", .str "no", .str "yes", .str "fails"])) (.d (.int q)) T = .ok (.d (.str (an8 q))) T := by
  refine ixL_nat _ q _ T ?_
  match q, h with
  | 0, _ | 1, _ | 2, _ | 3, _ | 4, _ | 5, _ | 6, _ | 7, _ => rfl
  | n + 8, h => omega
structure Zs (zs : List Str) : Prop where
  nd : zs.Nodup
  l7 : zs.length ≤ 7
  nm : ∀ x ∈ zs, NmOk x
  lt : ∀ x ∈ zs, leX x "zz" = true
  ne : ("zz" : Str) ∉ zs
  sh : ∀ x ∈ zs, x.length ≤ 1000
section
variable (S : So) (k : Nat) (hk : k < S.length) (c : Cn) (zs : List Str) (hz : Zs zs) (hc : c.Ok zs) (n : Nat) (hn : c.nd ≤ n) (hd : 2 * c.dp + 1 ≤ n) (h4 : 4 ≤ n)
include hk hc hn hd h4
omit hc hn hd h4 in
theorem goodA_draw (most : Nat) (hm : most ≤ 200) (i : Int) (v4 v5 v6 v7 v8 v9 : Option W) : ∃ (A : List Str) (i' : Int), Ans A ∧ A.length = most ∧ (fLc (fRng1 (fCons (fV 3) fNil)) (gNm 7) fYes (f2 oIx l8 (fCall 2 (lev Nn mm (n + 3) i__law_take) [] (fCons (fV 0) (fCons (fC (.int 8)) fNil)))) [7]) (gE k c zs (some (.d (.int most))) v4 v5 v6 v7 v8 v9) (own S k i) = .ok (.d (.list (A.map .str))) (own S k i') := by
  obtain ⟨ys, i', h1, h2, h3⟩ := lcL_draw (fun y => ∃ a : Str, y = .str a ∧ (a = "yes" ∨ a = "no" ∨ a = "fails")) S k (gNm 7) (f2 oIx l8 (fCall 2 (lev Nn mm (n + 3) i__law_take) [] (fCons (fV 0) (fCons (fC (.int 8)) fNil))))
    (gE k c zs (some (.d (.int most))) v4 v5 v6 none v8 v9) (rgD 0 most) i [] (fun d hd => by
      obtain ⟨j, rfl⟩ := rg_mem hd
      refine ⟨_, rfl, fun i => ?_⟩
      have t8 := take_own (n + 2) k S i 8 hk (by decide) (by decide)
      have h0 := Int.emod_nonneg i (show (8 : Int) ≠ 0 by decide)
      have h8 := Int.emod_lt_of_pos i (show (0 : Int) < 8 by decide)
      obtain ⟨q, hq⟩ := Int.eq_ofNat_of_zero_le h0
      rw [hq] at t8
      have hq8 : q < 8 := by omega
      have hx := an8_ix q hq8
      refine ⟨_, i / 8, ?_, ⟨_, rfl, an8_ok q hq8⟩⟩
      exact (f2_ok (l8_ok _ _) (by simp [t8])).trans (hx _)) (by rw [sizeLine_eq]; simp; omega)
  obtain ⟨A, rfl, hA⟩ := ans_of ys h3
  have hAl : A.length = most := by simpa using h2
  have hl : fLc (fRng1 (fCons (fV 3) fNil)) (gNm 7) fYes (f2 oIx l8 (fCall 2 (lev Nn mm (n + 3) i__law_take) [] (fCons (fV 0) (fCons (fC (.int 8)) fNil)))) [7] (gE k c zs (some (.d (.int most))) v4 v5 v6 v7 v8 v9) (own S k i) = .ok (.d (.list (A.map .str))) (own S k i') := by
    unfold fLc
    have hfi : fRng1 (fCons (fV 3) fNil) (gE k c zs (some (.d (.int most))) v4 v5 v6 v7 v8 v9) (own S k i) = .ok (rgD 0 most) (own S k i) := by
      exact rng_ok most rfl (by omega)
    rw [hfi]
    show ((lcL _ _ _ (gE k c zs (some (.d (.int most))) v4 v5 v6 none v8 v9) _ _ _).bind _) = _
    rw [h1]
    rfl
  exact ⟨A, i', hA, hAl, hl⟩
omit hk in
theorem goodA_rest (most : Nat) (A : List Str) (hA : Ans A) (hAl : A.length = most) (hm : most ≤ 200) (i i' : Int) (v4 v5 v6 v7 v8 v9 : Option W) (hl : (fLc (fRng1 (fCons (fV 3) fNil)) (gNm 7) fYes (f2 oIx l8 (fCall 2 (lev Nn mm (n + 3) i__law_take) [] (fCons (fV 0) (fCons (fC (.int 8)) fNil)))) [7]) (gE k c zs (some (.d (.int most))) v4 v5 v6 v7 v8 v9) (own S k i) = .ok (.d (.list (A.map .str))) (own S k i')) : ∃ (w4 w5 w6 w7 w8 w9 : Option W) (i' : Int), goodA (lev Nn mm (n + 3)) (gE k c zs (some (.d (.int most))) v4 v5 v6 v7 v8 v9) (own S k i) = .nx (gE k c zs (some (.d (.int most))) w4 w5 w6 w7 w8 w9) (own S k i') := by
  have hzc := hc.sz
  have hr := run_ok (n + 2) c A (own S k i') zs hc (by omega) (by omega) hA (by omega)
  have hlr := lawrun_ok (n + 2) c A (own S k i') (by omega) hc.few hA (by omega) (by omega)
  have hne := cNe_refl _ (own S k i') (run_plain (c.ev A).1 (endS (c.ev A).2)).1 (run_plain _ _).2
  have hne2 := cNe_refl _ (own S k i') (list_plain A).1 (list_plain A).2
  refine ⟨some (.d (.list (A.map .str))), some (.d (.list (A.map .str))), some (.d (.tuple [.tuple ((c.ev A).1.map .str), .str (endS (c.ev A).2)])), v7, v8, v9, i', ?_⟩
  unfold goodA
  rw [seq_nx (e1 := gE k c zs (some (.d (.int most))) (some (.d (.list (A.map .str)))) v5 v6 v7 v8 v9) (S1 := own S k i') (set_ok hl)]
  rw [seq_nx (e1 := gE k c zs (some (.d (.int most))) (some (.d (.list (A.map .str)))) (some (.d (.list (A.map .str)))) v6 v7 v8 v9) (S1 := own S k i') (by simp [lstW, seqW])]
  rw [seq_nx (e1 := gE k c zs (some (.d (.int most))) (some (.d (.list (A.map .str)))) (some (.d (.list (A.map .str)))) (some (.d (.tuple [.tuple ((c.ev A).1.map .str), .str (endS (c.ev A).2)]))) v7 v8 v9) (S1 := own S k i') (by simp [hr])]
  simp [fIsi, tyW, kit_tt, tru, hlr, hne, hne2, asB]
theorem goodA_ok (most : Nat) (hm : most ≤ 200) (i : Int) (v4 v5 v6 v7 v8 v9 : Option W) : ∃ (w4 w5 w6 w7 w8 w9 : Option W) (i' : Int), goodA (lev Nn mm (n + 3)) (gE k c zs (some (.d (.int most))) v4 v5 v6 v7 v8 v9) (own S k i) = .nx (gE k c zs (some (.d (.int most))) w4 w5 w6 w7 w8 w9) (own S k i') := by
  obtain ⟨A, i', hA, hAl, hl⟩ := goodA_draw S k hk c zs n most hm i v4 v5 v6 v7 v8 v9
  exact goodA_rest S k c zs hc n hn hd h4 most A hA hAl hm i i' v4 v5 v6 v7 v8 v9 hl
include hz in
theorem goodB_ok (i : Int) (v3 v4 v5 v6 v7 v8 v9 : Option W) : ∃ (w3 w4 w5 w6 w7 w8 w9 : Option W) (i' : Int), goodB (lev Nn mm (n + 3)) (gE k c zs v3 v4 v5 v6 v7 v8 v9) (own S k i) = .nx (gE k c zs w3 w4 w5 w6 w7 w8 w9) (own S k i') := by
  have l7 := hz.l7
  have sl := srt_len zs
  have sa := srt_asc hz.nd
  obtain ⟨K, i', h1, h2⟩ := lcL_pick S k (gNm 9) (fB (f2 cGt (fCall 2 (lev Nn mm (n + 3) i__law_take) [] (fCons (fV 0) (fCons (fC (.int 5)) fNil))) (fC (.int 0)))) (fTup (fCons (fV 9) (fCons (f2 oIx (fLst (fCons (fC (.str "yes")) (fCons (fC (.str "no")) fNil))) (fCall 2 (lev Nn mm (n + 3) i__law_take) [] (fCons (fV 0) (fCons (fC (.int 2)) fNil)))) fNil)))
    (gE k c zs v3 v4 v5 v6 v7 v8 none) (srt zs) i [] (fun z hz => by
      refine ⟨gE k c zs v3 v4 v5 v6 v7 v8 (some (.d (.str z))), rfl, fun i => ?_, fun i => ?_⟩
      · have t5 := take_own (n + 2) k S i 5 hk (by decide) (by decide)
        exact ⟨decide (0 < i % 5), i / 5, by simp [t5, asB]⟩
      · have t2 := take_own (n + 2) k S i 2 hk (by decide) (by decide)
        have hx : oIx (.d (.list [.str "yes", .str "no"])) (.d (.int (i % 2))) (own S k (i / 2)) = .ok (.d (.str (yn_ (decide (i % 2 = 0))))) (own S k (i / 2)) := by
          rcases (show i % 2 = 0 ∨ i % 2 = 1 by omega) with h | h
          · rw [h]
            exact ixL_nat _ 0 _ _ rfl
          · rw [h]
            exact ixL_nat _ 1 _ _ rfl
        exact ⟨decide (i % 2 = 0), i / 2, by simp [t2, hx, fTup, fLst, allD, sizeLine_eq, -oIx]⟩) (by rw [sizeLine_eq]; simp; omega)
  have hKl : K.length ≤ 7 := by
    have := h2.length_le
    rw [List.length_map, sl] at this
    omega
  have asc1 : Asc (K.map (·.1)) := ⟨sa.1.sublist h2, sa.2.sublist h2⟩
  have mem1 : ∀ p ∈ K, p.1 ∈ zs := fun p hp => srt_mem.mp (h2.subset (List.mem_map.mpr ⟨p, hp, rfl⟩))
  have as1 : AsOk K := asok_of asc1 (by omega) fun p hp => hz.nm _ (mem1 p hp)
  have as2 : AsOk (K ++ [(("zz" : Str), true)]) := by
    refine asok_of ?_ (by rw [List.length_append, List.length_singleton]; omega) fun p hp => ?_
    · rw [List.map_append]
      have mem2 : ∀ x ∈ K.map (·.1), x ∈ zs := fun x hx => by
        obtain ⟨p, hp, rfl⟩ := List.mem_map.mp hx
        exact mem1 p hp
      refine ⟨List.pairwise_append.mpr ⟨asc1.1, List.pairwise_singleton _ _, fun x hx y hy => ?_⟩, List.nodup_append.mpr ⟨asc1.2, List.pairwise_singleton _ _, fun x hx y hy => ?_⟩⟩
      · rw [List.mem_singleton.mp hy]
        exact hz.lt x (mem2 x hx)
      · rw [List.mem_singleton.mp hy]
        intro e
        have e' : x = "zz" := e
        rw [e'] at hx
        exact hz.ne (mem2 _ hx)
    · rcases List.mem_append.mp hp with hp | hp
      · exact hz.nm _ (mem1 p hp)
      · rw [List.mem_singleton.mp hp]
        exact nm_all "zz" (by decide)
  have hl : fLc (fItems (fB1 (FL.o1 sortW) (fCons (fV 2) fNil))) (gNm 9) (fB (f2 cGt (fCall 2 (lev Nn mm (n + 3) i__law_take) [] (fCons (fV 0) (fCons (fC (.int 5)) fNil))) (fC (.int 0)))) (fTup (fCons (fV 9) (fCons (f2 oIx (fLst (fCons (fC (.str "yes")) (fCons (fC (.str "no")) fNil))) (fCall 2 (lev Nn mm (n + 3) i__law_take) [] (fCons (fV 0) (fCons (fC (.int 2)) fNil)))) fNil))) [9] (gE k c zs v3 v4 v5 v6 v7 v8 v9) (own S k i) = .ok (.d (.list (pr K))) (own S k i') := by
    unfold fLc
    have hfi : fItems (fB1 (FL.o1 sortW) (fCons (fV 2) fNil)) (gE k c zs v3 v4 v5 v6 v7 v8 v9) (own S k i) = .ok ((srt zs).map .str) (own S k i) := by
      simp [sortW, asSs, asL, strs_map]
      rw [if_pos (by omega)]
    rw [hfi]
    show ((lcL _ _ _ (gE k c zs v3 v4 v5 v6 v7 v8 none) _ _ _).bind _) = _
    rw [h1]
    rfl
  have s1 := steadygood_ok n c K (own S k i') zs hc hz.sh as1 (by omega) hd h4
  have s2 := steadygood_ok n c (K ++ [(("zz" : Str), true)]) (own S k i') zs hc hz.sh as2 (by omega) hd h4
  have ep : pr (K ++ [(("zz" : Str), true)]) = pr K ++ [.tuple [.str "zz", .str "yes"]] := by simp [pr, yn_]
  rw [ep] at s2
  have pl : (pr K).length ≤ 100 := by simp [pr]; omega
  have ad := add_ll (pr K) [.tuple [.str "zz", .str "yes"]] (own S k i') (by simp; omega)
  refine ⟨v3, v4, v5, v6, v7, some (.d (.list (pr K))), v9, i', ?_⟩
  unfold goodB
  rw [seq_nx (e1 := gE k c zs v3 v4 v5 v6 v7 (some (.d (.list (pr K)))) v9) (S1 := own S k i') (set_ok hl)]
  simp [tupW, s1, tru, fLst, fTup, allD, sizeLine_eq, ad, s2]
include hz in
theorem good_ok (i : Int) : ∃ i', lev Nn mm (n + 4) i__law_good [.r k, .d c.d, .d (.list (zs.map .str))] (own S k i) = .ok (.d (.bool true)) (own S k i') := by
  show ∃ i', fDef 10 (m__law_good (lev Nn mm (n + 3))) [.r k, .d c.d, .d (.list (zs.map .str))] (own S k i) = _
  obtain ⟨ev1, S1, h1, i1, u3, u4, u5, u6, u7, u8, u9, rfl, rfl⟩ := forL_inv (fun ev S' => ∃ (i' : Int) (v3 v4 v5 v6 v7 v8 v9 : Option W), ev = gE k c zs v3 v4 v5 v6 v7 v8 v9 ∧ S' = own S k i') (gNm 3) (goodA (lev Nn mm (n + 3))) [.int 0, .int 4, .int 12, .int 40]
    (gE k c zs none none none none none none none) (own S k i) ⟨i, none, none, none, none, none, none, none, rfl, rfl⟩ (by
      rintro d hdm ev S' ⟨i', v3, v4, v5, v6, v7, v8, v9, rfl, rfl⟩
      obtain ⟨m, hm, rfl⟩ : ∃ m : Nat, m ≤ 200 ∧ d = .int m := by
        simp only [List.mem_cons, List.not_mem_nil, or_false] at hdm
        rcases hdm with e | e | e | e <;> subst e
        · exact ⟨0, by omega, rfl⟩
        · exact ⟨4, by omega, rfl⟩
        · exact ⟨12, by omega, rfl⟩
        · exact ⟨40, by omega, rfl⟩
      obtain ⟨w4, w5, w6, w7, w8, w9, i2, h⟩ := goodA_ok S k hk c zs hc n hn hd h4 m hm i' v4 v5 v6 v7 v8 v9
      exact ⟨_, _, _, rfl, h, i2, _, w4, w5, w6, w7, w8, w9, rfl, rfl⟩)
  obtain ⟨ev2, S2, h2, i2, t3, t4, t5, t6, t7, t8, t9, rfl, rfl⟩ := forL_inv (fun ev S' => ∃ (i' : Int) (v3 v4 v5 v6 v7 v8 v9 : Option W), ev = gE k c zs v3 v4 v5 v6 v7 v8 v9 ∧ S' = own S k i') (gNm 7) (goodB (lev Nn mm (n + 3))) (rgD 0 4)
    (gE k c zs u3 u4 u5 u6 u7 u8 u9) (own S k i1) ⟨i1, _, _, _, _, _, _, _, rfl, rfl⟩ (by
      rintro d hd' ev S' ⟨i', v3, v4, v5, v6, v7, v8, v9, rfl, rfl⟩
      obtain ⟨w3, w4, w5, w6, w7, w8, w9, i2, h⟩ := goodB_ok S k hk c zs hz hc n hn hd h4 i' v3 v4 v5 v6 (some (.d d)) v8 v9
      exact ⟨_, _, _, rfl, h, i2, w3, w4, w5, w6, w7, w8, w9, rfl, rfl⟩)
  refine ⟨i2, (fdef_d (x := .bool true) (S1 := own S k i2) ?_).trans (by simp)⟩
  show m__law_good (lev Nn mm (n + 3)) (gE k c zs none none none none none none none) (own S k i) = _
  unfold m__law_good
  have hf1 : fFor (fItems (fLst (fCons (fC (.int 0)) (fCons (fC (.int 4)) (fCons (fC (.int 12)) (fCons (fC (.int 40)) fNil)))))) (gNm 3) (goodA (lev Nn mm (n + 3))) (gE k c zs none none none none none none none) (own S k i) = .nx (gE k c zs u3 u4 u5 u6 u7 u8 u9) (own S k i1) := by
    unfold fFor
    have hi : fItems (fLst (fCons (fC (.int 0)) (fCons (fC (.int 4)) (fCons (fC (.int 12)) (fCons (fC (.int 40)) fNil))))) (gE k c zs none none none none none none none) (own S k i) = .ok [.int 0, .int 4, .int 12, .int 40] (own S k i) := by simp [fLst, allD, sizeLine_eq]
    rw [hi]
    exact h1
  have hf2 : fFor (fRng1 (fCons (fC (.int 4)) fNil)) (gNm 7) (goodB (lev Nn mm (n + 3))) (gE k c zs u3 u4 u5 u6 u7 u8 u9) (own S k i1) = .nx (gE k c zs t3 t4 t5 t6 t7 t8 t9) (own S k i2) := by
    unfold fFor
    have hi : fRng1 (fCons (fC (.int 4)) fNil) (gE k c zs u3 u4 u5 u6 u7 u8 u9) (own S k i1) = .ok (rgD 0 4) (own S k i1) := by simp [fRng1]
    rw [hi]
    exact h2
  refine (seq_nx hf1).trans ((seq_nx hf2).trans ?_)
  simp
end
end G53

set_option linter.all false
set_option maxHeartbeats 4000000
namespace G53
open FL PySem L2
/-! the law's drawn part -/
theorem zs_wl (d : Nat) (hd : d < 10) : Zs (wl d) := by
  have hlt : ∀ x ∈ some10, leX x "zz" = true := by decide +kernel
  have hne : ("zz" : Str) ∉ some10 := by decide
  exact ⟨wl_nd d hd, by rw [wl_len d hd]; omega, fun x hx => nm_all x (List.mem_append_left _ (wl_mem d x hx)), fun x hx => hlt x (wl_mem d x hx), fun h => hne (wl_mem d _ h), fun x hx => len_all x (List.mem_append_left _ (wl_mem d x hx))⟩
theorem ok_dw (d deep : Nat) (hd : d < 10) (hdeep : deep ≤ 3) (c : Cn) (h : Dw (wl d) deep c) : c.Ok (wl d) ∧ c.nd ≤ 40 ∧ c.dp ≤ 4 := by
  have hb : bnd deep ≤ 40 := by
    have : ∀ d, d ≤ 3 → bnd d ≤ 40 := by decide
    exact this deep hdeep
  have h1 := h.nd
  have h2 := h.dp
  have h3 := sz_nd c
  have h4 := nt_nd c
  have z := zs_wl d hd
  exact ⟨⟨h.few, h.on, z.nm, by have := z.l7; omega, by omega, by omega, by omega, by omega⟩, by omega, by omega⟩
theorem cons_ok {fa : FE} {fr : FA} {ev : Ev} {S S1 S2 : So} {x : W} {xs : List W} (ha : fa ev S = .ok x S1) (hr : fr ev S1 = .ok xs S2) : fCons fa fr ev S = .ok (x :: xs) S2 := by
  unfold fCons
  rw [ha]
  show (fr ev S1).bind _ = _
  rw [hr]
  rfl
theorem call_ok {k : Nat} {g : List W → So → Res W} {fa : FA} {ev : Ev} {S S1 : So} {ws : List W} {r : Res W} (ha : fa ev S = .ok ws S1) (hk : ws.length = k) (hg : g ws S1 = r) : fCall k g [] fa ev S = r := by
  unfold fCall
  rw [ha]
  show (if (ws ++ []).length = k then g (ws ++ []) S1 else .no) = r
  rw [List.append_nil, if_pos hk, hg]
theorem mut1_ok {fa : FA} {ev : Ev} {S S1 : So} {x : PyData} (ha : fa ev S = .ok [.d x] S1) : fMut fa ev S = .ok (.r S1.length) (S1 ++ [.l [x]]) := by
  unfold fMut
  rw [ha]
  have hz : [x].length ≤ sizeLine := by rw [sizeLine_eq]; simp
  show (if [x].length ≤ sizeLine then Res.ok (W.r S1.length) (S1 ++ [.l [x]]) else Res.no) = _
  rw [if_pos hz]
def drawBody (c : Cs) : FS := (fSeq (fSet 3 (fMut (fCons (fCall 2 (c i__law_cell) [] (fCons (fV 0) (fCons (f2 oAdd (f2 oMul (fV 1) (fC (.int 3))) (fV 2)) fNil))) fNil))) 
        (fSeq (fSet 4 (fCall 2 (c i__law_words) [] (fCons (fV 3) (fCons (fC (.int 4)) fNil)))) 
        (fIfS (fNotT (fTr (fCall 3 (c i__law_good) [] (fCons (fV 3) (fCons (fCall 3 (c i__law_condition) [] (fCons (fV 3) (fCons (fV 4) (fCons (f2 oAdd (fC (.int 1)) (fV 2)) fNil)))) (fCons (fV 4) fNil)))))) 
          (fRet (fC (.bool false))) 
          fNext)))
abbrev lE (ns : List Int) (v1 v2 v3 v4 v5 v6 v7 v8 v9 v10 v11 v12 v13 v14 v15 v16 v17 : Option W) : Ev := [some (.s ns), v1, v2, v3, v4, v5, v6, v7, v8, v9, v10, v11, v12, v13, v14, v15, v16, v17]
theorem draw_ok (n : Nat) (hn : 95 ≤ n) (ns : List Int) (hl : ns.length ≤ 1000) (t k : Nat) (ht : t ≤ 100) (hk : k ≤ 2) (v3 v4 v5 v6 v7 v8 v9 v10 v11 v12 v13 v14 v15 v16 v17 : Option W) (S : So) : ∃ (w3 w4 : Option W) (S' : So),
    drawBody (lev Nn mm (n + 4)) (lE ns (some (.d (.int t))) (some (.d (.int k))) v3 v4 v5 v6 v7 v8 v9 v10 v11 v12 v13 v14 v15 v16 v17) S = .nx (lE ns (some (.d (.int t))) (some (.d (.int k))) w3 w4 v5 v6 v7 v8 v9 v10 v11 v12 v13 v14 v15 v16 v17) S' := by
  obtain ⟨i, hi⟩ := cell_ok (n + 2) ns (t * 3 + k) S (by omega) hl
  have e1 : ((t * 3 + k : Nat) : Int) = (t : Int) * 3 + (k : Int) := by omega
  rw [e1] at hi
  have m1 := mul_s (t : Int) 3 S (by decide) (by decide)
  have hlen : S.length < (S ++ [Ob.l [.int i]]).length := by simp
  have hself : own (S ++ [Ob.l [.int i]]) S.length i = S ++ [Ob.l [.int i]] := own_self (by simp)
  have hw := words_ok (n + 2) S.length (S ++ [Ob.l [.int i]]) i hlen
  rw [hself] at hw
  have hd : (i % 10).toNat < 10 := by omega
  generalize (i % 10).toNat = d at hw hd
  obtain ⟨c, i2, hc, hdw⟩ := cond_draw (wl d) (wl_len d hd) (S ++ [Ob.l [.int i]]) S.length hlen (1 + k) (n + 4) (i / 10) (by omega)
  obtain ⟨ok, nd, dp⟩ := ok_dw d (1 + k) hd (by omega) c hdw
  obtain ⟨i3, hg⟩ := good_ok (S ++ [Ob.l [.int i]]) S.length hlen c (wl d) (zs_wl d hd) ok n (by omega) (by omega) (by omega) i2
  have e2 : ((1 + k : Nat) : Int) = 1 + (k : Int) := by omega
  rw [e2] at hc
  clear e1 e2
  generalize (t : Int) = a at hi m1 ⊢
  generalize (k : Int) = b at hi hc ⊢
  refine ⟨some (.r S.length), some (.d (.list ((wl d).map .str))), own (S ++ [Ob.l [.int i]]) S.length i3, ?_⟩
  unfold drawBody
  rw [seq_nx (e1 := lE ns (some (.d (.int a))) (some (.d (.int b))) (some (.r S.length)) v4 v5 v6 v7 v8 v9 v10 v11 v12 v13 v14 v15 v16 v17) (S1 := S ++ [Ob.l [.int i]]) (set_ok (mut1_ok (cons_ok (call_ok (cons_ok rfl (cons_ok ((f2_ok ((f2_ok rfl rfl).trans m1) rfl).trans (add_ii _ _ _)) rfl)) rfl hi) rfl)))]
  rw [seq_nx (e1 := lE ns (some (.d (.int a))) (some (.d (.int b))) (some (.r S.length)) (some (.d (.list ((wl d).map .str)))) v5 v6 v7 v8 v9 v10 v11 v12 v13 v14 v15 v16 v17) (S1 := own (S ++ [Ob.l [.int i]]) S.length (i / 10)) (by simp [hw])]
  simp [hc, hg, tru]
end G53

set_option linter.all false
set_option maxHeartbeats 4000000
namespace G53
open FL PySem L2
/-! the fixed conditions -/
def cA : Cn := .t "a"
def tt (x : Str) : Cn := .t x
def cMany : Cn := .m true (List.replicate 60 cA)
def cLong : Cn := .m false [.m true [tt "a", tt "b", tt "c", tt "d", .n (tt "a"), tt "b"], .n (.m false [tt "b", tt "c", tt "d", tt "a", tt "c"]), tt "d", .m true [tt "c", tt "d", tt "a", tt "b"], tt "a"]
def cBoth : Cn := .m true [.m false [tt "b", tt "g"], .m false [tt "c", tt "h"]]
def cTail : Cn := .i (tt "f") (.i (tt "a") cBoth (.n cBoth)) (.m true [.m false [tt "d", tt "g"], .m false [tt "e", tt "h"]])
def cFive (x : Str) : Cn := .m false [tt x, .n (tt x)]
def cLarge : Cn := .m true [cFive "a", cFive "b", cFive "c", cFive "d", cFive "e", cTail]
def cWide : Cn := .m false [.n (tt "x"), .n (tt "xxx"), .n (tt "xxxxx"), .n (tt "xxxxxxx"), tt "xx"]
def cWideA : Cn := .m true [cWide, cA]
def cOr : Cn := .m false [cA, .n cA]
theorem nms_of (ws : List Str) (h : ∀ x ∈ ws, x ∈ some10 ++ fixedN) : ∀ x ∈ ws, NmOk x := fun x hx => nm_all x (h x hx)
theorem okA : cA.Ok ["a"] := ⟨by unfold cA Cn.few; trivial, by unfold cA Cn.on; simp, nms_of _ (by decide), by decide, by decide, by decide, by decide, by decide⟩
theorem szs_rep (k : Nat) : Cn.szs (List.replicate k cA) = k := by
  induction k with
  | zero => rw [List.replicate_zero, Cn.szs]
  | succ k ih => rw [List.replicate_succ, Cn.szs, ih]; unfold cA; rw [Cn.sz]; omega
theorem nts_rep (k : Nat) : Cn.nts (List.replicate k cA) = 0 := by
  induction k with
  | zero => rw [List.replicate_zero, Cn.nts]
  | succ k ih => rw [List.replicate_succ, Cn.nts, ih]; unfold cA; rw [Cn.nt]
theorem nds_rep (k : Nat) : Cn.nds (List.replicate k cA) = k := by
  induction k with
  | zero => rw [List.replicate_zero, Cn.nds]
  | succ k ih => rw [List.replicate_succ, Cn.nds, ih]; unfold cA; rw [Cn.nd]; omega
theorem dps_rep (k : Nat) : Cn.dps (List.replicate k cA) ≤ 1 := by
  induction k with
  | zero => rw [List.replicate_zero, Cn.dps]; omega
  | succ k ih => rw [List.replicate_succ, Cn.dps]; unfold cA at *; rw [Cn.dp]; omega
theorem fews_rep (k : Nat) : Cn.fews (List.replicate k cA) := by
  induction k with
  | zero => rw [List.replicate_zero, Cn.fews]; trivial
  | succ k ih => rw [List.replicate_succ, Cn.fews]; exact ⟨by unfold cA Cn.few; trivial, ih⟩
theorem ons_rep (k : Nat) : Cn.ons ["a"] (List.replicate k cA) := by
  induction k with
  | zero => rw [List.replicate_zero, Cn.ons]; trivial
  | succ k ih => rw [List.replicate_succ, Cn.ons]; exact ⟨by unfold cA Cn.on; simp, ih⟩
theorem okMany : cMany.Ok ["a"] := by
  have h1 := szs_rep 60
  have h2 := nts_rep 60
  have h3 := nds_rep 60
  have h4 := dps_rep 60
  refine ⟨?_, ?_, nms_of _ (by decide), by decide, ?_, ?_, ?_, ?_⟩
  · unfold cMany Cn.few
    exact ⟨by simp, by simp, fews_rep 60⟩
  · unfold cMany Cn.on
    exact ons_rep 60
  · unfold cMany
    rw [Cn.sz]
    omega
  · unfold cMany
    rw [Cn.nt]
    omega
  · unfold cMany
    rw [Cn.dp]
    omega
  · unfold cMany
    rw [Cn.nd]
    omega
theorem dpMany : cMany.dp ≤ 2 := by
  have h4 := dps_rep 60
  unfold cMany
  rw [Cn.dp]
  omega
theorem evs_rep : ∀ (k m : Nat), k ≤ m → Cn.evs true (List.replicate k cA) (List.replicate m "yes") = (List.replicate k ("a" : Str), .inl true)
  | 0, m, _ => by
    rw [List.replicate_zero, Cn.evs]
    rfl
  | k + 1, m, h => by
    obtain ⟨m, rfl⟩ : ∃ j, m = j + 1 := ⟨m - 1, by omega⟩
    have ih := evs_rep k m (by omega)
    rw [List.replicate_succ, Cn.evs]
    have e : cA.ev (List.replicate (m + 1) "yes") = ([("a" : Str)], .inl true) := by
      rw [List.replicate_succ]
      unfold cA
      rw [Cn.ev]
      have : ("yes" : Str) ≠ "fails" := by decide
      simp [this]
    rw [e]
    dsimp only
    rw [if_pos rfl]
    have e2 : (List.replicate (m + 1) ("yes" : Str)).drop (["a"] : List Str).length = List.replicate m ("yes" : Str) := by simp
    rw [e2, ih]
    rfl
theorem okLong : cLong.Ok ["a", "b", "c", "d"] := by
  refine ⟨?_, ?_, nms_of _ (by decide), by decide, by decide, by decide, by decide, by decide⟩
  · simp [cLong, tt, Cn.few, Cn.fews]
  · simp [cLong, tt, Cn.on, Cn.ons]
theorem okLarge : cLarge.Ok ["a", "b", "c", "d", "e", "f", "g", "h"] := by
  refine ⟨?_, ?_, nms_of _ (by decide), by decide, by decide, by decide, by decide, by decide⟩
  · simp [cLarge, cFive, cTail, cBoth, tt, Cn.few, Cn.fews]
  · simp [cLarge, cFive, cTail, cBoth, tt, Cn.on, Cn.ons]
theorem okWide : cWide.Ok ["x", "xx", "xxx", "xxxxx", "xxxxxxx"] := by
  refine ⟨?_, ?_, nms_of _ (by decide), by decide, by decide, by decide, by decide, by decide⟩
  · simp [cWide, tt, Cn.few, Cn.fews]
  · simp [cWide, tt, Cn.on, Cn.ons]
theorem okWideA : cWideA.Ok ["x", "xx", "xxx", "xxxxx", "xxxxxxx", "a"] := by
  refine ⟨?_, ?_, nms_of _ (by decide), by decide, by decide, by decide, by decide, by decide⟩
  · simp [cWideA, cWide, cA, tt, Cn.few, Cn.fews]
  · simp [cWideA, cWide, cA, tt, Cn.on, Cn.ons]
theorem okOr : cOr.Ok ["a"] := by
  refine ⟨?_, ?_, nms_of _ (by decide), by decide, by decide, by decide, by decide, by decide⟩
  · simp [cOr, cA, Cn.few, Cn.fews]
  · simp [cOr, cA, Cn.on, Cn.ons]
def K8 : List (Str × Bool) := [("x", true), ("xx", false), ("xxx", true), ("xxxx", false), ("xxxxx", true), ("xxxxxx", false), ("xxxxxxx", true), ("xxxxxxxx", false)]
def abc8 : List Str := ["a", "b", "c", "d", "e", "f", "g", "h"]
theorem asc_abc : Asc abc8 := ⟨by decide +kernel, by decide⟩
theorem as8 : AsOk K8 := asok_of ⟨by decide +kernel, by decide⟩ (by decide) (fun p hp => nms_of (K8.map (·.1)) (by decide) p.1 (List.mem_map.mpr ⟨p, hp, rfl⟩))
theorem as1 : AsOk [("a", false)] := asok_of ⟨by decide +kernel, by decide⟩ (by decide) (fun p hp => nms_of ["a"] (by decide) p.1 (by rw [List.mem_singleton.mp hp]; simp))
theorem lc_strs (fi : FI) (j : Nat) (te : FE) (ev : Ev) (S : So) (zs : List Str) (f : Str → PyData) (hi : fi ev S = .ok (zs.map .str) S) (hl : zs.length ≤ 1000) (h : ∀ z ∈ zs, te ((wipeE ev [j]).set j (some (.d (.str z)))) S = .ok (.d (f z)) S) :
    fLc fi (gNm j) fYes te [j] ev S = .ok (.d (.list (zs.map f))) S := by
  have hm := lcL_map (g := gNm j) (te := te) (ev0 := wipeE ev [j]) (S := S) (dt := PyData.str) (f := f) zs [] (fun z hz => ⟨_, rfl, h z hz⟩) (by rw [sizeLine_eq]; simp; omega)
  unfold fLc
  rw [hi]
  show (lcL (gNm j) fYes te (wipeE ev [j]) (zs.map .str) S []).bind _ = _
  rw [hm]
  rfl
theorem lc_tests (fi : FI) (j : Nat) (te : FE) (ev : Ev) (S : So) (zs : List Str) (f : Str → PyData) (hi : fi ev S = .ok (zs.map fun x => (tt x).d) S) (hl : zs.length ≤ 1000) (h : ∀ z ∈ zs, te ((wipeE ev [j]).set j (some (.d (tt z).d))) S = .ok (.d (f z)) S) :
    fLc fi (gNm j) fYes te [j] ev S = .ok (.d (.list (zs.map f))) S := by
  have hm := lcL_map (g := gNm j) (te := te) (ev0 := wipeE ev [j]) (S := S) (dt := fun x : Str => (tt x).d) (f := f) zs [] (fun z hz => ⟨_, rfl, h z hz⟩) (by rw [sizeLine_eq]; simp; omega)
  unfold fLc
  rw [hi]
  show (lcL (gNm j) fYes te (wipeE ev [j]) (zs.map fun x => (tt x).d) S []).bind _ = _
  rw [hm]
  rfl
theorem tt_d (x : Str) : (tt x).d = .tuple [.str "test", .str x] := by unfold tt; rw [Cn.d]
theorem items_abcd (ev : Ev) (S : So) : fItems (fC (.str "abcd")) ev S = .ok ((["a", "b", "c", "d"] : List Str).map .str) S := by kernel_rfl
theorem items_efgh (ev : Ev) (S : So) : fItems (fC (.str "efgh")) ev S = .ok ((["e", "f", "g", "h"] : List Str).map .str) S := by kernel_rfl
theorem items_bcd (ev : Ev) (S : So) : fItems (fC (.str "bcd")) ev S = .ok ((["b", "c", "d"] : List Str).map .str) S := by kernel_rfl
theorem items_abc8 (ev : Ev) (S : So) : fItems (fC (.str "abcdefgh")) ev S = .ok (abc8.map .str) S := by kernel_rfl
theorem large_ok (n : Nat) (S : So) : lev Nn mm (n + 1) i__law_large [] S = .ok (.d cLarge.d) S := by
  show fDef 13 (m__law_large (lev Nn mm n)) [] S = _
  refine (fdef_d (x := cLarge.d) (S1 := S) ?_).trans (by simp)
  show m__law_large (lev Nn mm n) [none, none, none, none, none, none, none, none, none, none, none, none, none] S = _
  have l1 := lc_strs (fItems (fC (.str "abcd"))) 11 (fTup (fCons (fC (.str "test")) (fCons (fV 11) fNil))) [none, none, none, none, none, none, none, none, none, none, none, none, none] S ["a", "b", "c", "d"] (fun x => (tt x).d) (items_abcd _ _) (by decide) (fun z hz => by simp [fTup, allD, sizeLine_eq, tt_d])
  have l2 := lc_strs (fItems (fC (.str "efgh"))) 11 (fTup (fCons (fC (.str "test")) (fCons (fV 11) fNil))) [some (.d (tt "a").d), some (.d (tt "b").d), some (.d (tt "c").d), some (.d (tt "d").d), none, none, none, none, none, none, none, none, none] S ["e", "f", "g", "h"] (fun x => (tt x).d) (items_efgh _ _) (by decide) (fun z hz => by simp [fTup, allD, sizeLine_eq, tt_d])
  simp only [List.map_cons, List.map_nil] at l1 l2
  have eb : cBoth.d = .tuple [.str "and", .tuple [.str "or", (tt "b").d, (tt "g").d], .tuple [.str "or", (tt "c").d, (tt "h").d]] := by unfold cBoth; simp [Cn.d, Cn.ds]
  have et : cTail.d = .tuple [.str "if", (tt "f").d, .tuple [.str "if", (tt "a").d, cBoth.d, .tuple [.str "not", cBoth.d]], .tuple [.str "and", .tuple [.str "or", (tt "d").d, (tt "g").d], .tuple [.str "or", (tt "e").d, (tt "h").d]]] := by unfold cTail; simp [Cn.d, Cn.ds]
  have el : cLarge.d = .tuple ([.str "and"] ++ (["a", "b", "c", "d", "e"] : List Str).map (fun x : Str => PyData.tuple [.str "or", (tt x).d, .tuple [.str "not", (tt x).d]]) ++ [cTail.d]) := by unfold cLarge cFive; simp [Cn.d, Cn.ds]
  have l3 := lc_tests (fItems (fLst (fCons (fV 0) (fCons (fV 1) (fCons (fV 2) (fCons (fV 3) (fCons (fV 4) fNil))))))) 12 (fTup (fCons (fC (.str "or")) (fCons (fV 12) (fCons (fTup (fCons (fC (.str "not")) (fCons (fV 12) fNil))) fNil)))) [some (.d (tt "a").d), some (.d (tt "b").d), some (.d (tt "c").d), some (.d (tt "d").d), some (.d (tt "e").d), some (.d (tt "f").d), some (.d (tt "g").d), some (.d (tt "h").d), some (.d cBoth.d), some (.d cTail.d), none, none, none] S ["a", "b", "c", "d", "e"] (fun x => PyData.tuple [.str "or", (tt x).d, .tuple [.str "not", (tt x).d]])
    (by simp [fLst, allD, sizeLine_eq]) (by decide) (fun z hz => by simp [fTup, allD, sizeLine_eq])
  unfold m__law_large
  rw [seq_nx (e1 := [some (.d (tt "a").d), some (.d (tt "b").d), some (.d (tt "c").d), some (.d (tt "d").d), none, none, none, none, none, none, none, none, none]) (S1 := S) (by unfold fAsg; rw [l1]; rfl)]
  rw [seq_nx (e1 := [some (.d (tt "a").d), some (.d (tt "b").d), some (.d (tt "c").d), some (.d (tt "d").d), some (.d (tt "e").d), some (.d (tt "f").d), some (.d (tt "g").d), some (.d (tt "h").d), none, none, none, none, none]) (S1 := S) (by unfold fAsg; rw [l2]; rfl)]
  rw [seq_nx (e1 := [some (.d (tt "a").d), some (.d (tt "b").d), some (.d (tt "c").d), some (.d (tt "d").d), some (.d (tt "e").d), some (.d (tt "f").d), some (.d (tt "g").d), some (.d (tt "h").d), some (.d cBoth.d), none, none, none, none]) (S1 := S) (by rw [eb]; simp [fTup, allD, sizeLine_eq])]
  rw [seq_nx (e1 := [some (.d (tt "a").d), some (.d (tt "b").d), some (.d (tt "c").d), some (.d (tt "d").d), some (.d (tt "e").d), some (.d (tt "f").d), some (.d (tt "g").d), some (.d (tt "h").d), some (.d cBoth.d), some (.d cTail.d), none, none, none]) (S1 := S) (by rw [et]; simp [fTup, allD, sizeLine_eq])]
  rw [seq_nx (set_ok l3)]
  have a1 := add_tt (.str "and") [] ((["a", "b", "c", "d", "e"] : List Str).map (fun x : Str => PyData.tuple [.str "or", (tt x).d, .tuple [.str "not", (tt x).d]])) S (by simp)
  have a2 := add_tt (.str "and") ((["a", "b", "c", "d", "e"] : List Str).map (fun x : Str => PyData.tuple [.str "or", (tt x).d, .tuple [.str "not", (tt x).d]])) [cTail.d] S (by simp)
  generalize hL : (["a", "b", "c", "d", "e"] : List Str).map (fun x : Str => PyData.tuple [.str "or", (tt x).d, .tuple [.str "not", (tt x).d]]) = L at a1 a2 el ⊢
  rw [el]
  simp [fTup, allD, sizeLine_eq, tupW, a1, a2]
end G53

set_option linter.all false
set_option maxHeartbeats 8000000
namespace G53
open FL PySem L2
theorem mul_many (T : So) : oMul (.d (.list [.str "yes"])) (.d (.int 200)) T = .ok (.d (.list ((List.replicate 200 ("yes" : Str)).map .str))) T := by
  have : (List.replicate 200 [PyData.str "yes"]).flatten = (List.replicate 200 ("yes" : Str)).map .str := by rw [List.map_replicate, List.flatten_replicate_singleton]
  unfold oMul oOr oI oRepL
  simp only [asI, asL]
  rw [if_pos ⟨by decide, by decide, by rw [sizeLine_eq]; decide⟩]
  exact congrArg (fun l => Res.ok (W.d (.list l)) T) this
theorem mul_tup (x : PyData) (T : So) : oMul (.d (.tuple [x])) (.d (.int 60)) T = .ok (.d (.tuple (List.replicate 60 x))) T := by
  have : (List.replicate 60 [x]).flatten = List.replicate 60 x := by rw [List.flatten_replicate_singleton]
  have h1 : [x].length ≤ 1000 := by simp
  unfold oMul oOr oI oRepL oRepT
  simp only [asI, asL, asT]
  rw [if_pos ⟨rfl, by decide, by decide, h1⟩]
  exact congrArg (fun l => Res.ok (W.d (.tuple l)) T) this
section
variable (n : Nat) (hn : 95 ≤ n) (ns : List Int) (hl : ns.length ≤ 1000) (v1 v2 v3 v4 v5 v6 v7 v8 v9 v10 v11 v12 v13 v14 v15 v16 v17 : Option W) (S : So)
abbrev many_ : PyData := .list ((List.replicate 200 ("yes" : Str)).map .str)
include hn
theorem s4_ok : (fIfS (fOrT (fB (f2 cNe (fCall 2 (lev Nn mm (n + 4) i_run) [] (fCons (fV 5) (fCons (fV 6) fNil))) (fTup (fCons (fTup (fCons (fC (.str "a")) fNil)) (fCons (fC (.str "yes")) fNil))))) (fB (f2 cNe (fV 6) (f2 oMul (fLst (fCons (fC (.str "yes")) fNil)) (fC (.int 200)))))) 
      (fRet (fC (.bool false))) 
      fNext) (lE ns v1 v2 v3 v4 (some (.d cA.d)) (some (.d many_)) v7 v8 v9 v10 v11 v12 v13 v14 v15 v16 v17) S = .nx (lE ns v1 v2 v3 v4 (some (.d cA.d)) (some (.d many_)) v7 v8 v9 v10 v11 v12 v13 v14 v15 v16 v17) S := by
  have hA : Ans (List.replicate 200 ("yes" : Str)) := fun x hx => .inl (List.eq_of_mem_replicate hx)
  have hr := run_ok (n + 3) cA (List.replicate 200 "yes") S ["a"] okA (by unfold cA; rw [Cn.dp]; omega) (by omega) hA (by rw [List.length_replicate]; omega)
  have he : cA.ev (List.replicate 200 "yes") = ([("a" : Str)], .inl true) := by
    rw [show List.replicate 200 ("yes" : Str) = ("yes" : Str) :: List.replicate 199 "yes" from List.replicate_succ]
    unfold cA
    rw [Cn.ev]
    have : ("yes" : Str) ≠ "fails" := by decide
    simp [this]
  rw [he] at hr
  have hne := cNe_refl _ S (run_plain [("a" : Str)] "yes").1 (run_plain _ _).2
  have hne2 := cNe_refl _ S (list_plain (List.replicate 200 ("yes" : Str))).1 (list_plain _).2
  have hm := mul_many S
  unfold many_
  generalize (List.replicate 200 ("yes" : Str)).map PyData.str = L at hr hne2 hm ⊢
  have hr' : lev Nn mm (n + 4) i_run [.d cA.d, .d (.list L)] S = .ok (.d (.tuple [.tuple [.str "a"], .str "yes"])) S := hr
  have hne' : cNe (.d (.tuple [.tuple [.str "a"], .str "yes"])) (.d (.tuple [.tuple [.str "a"], .str "yes"])) S = .ok (.d (.bool false)) S := hne
  simp [hr', fTup, fLst, allD, sizeLine_eq, hne', asB, hm, hne2]
theorem s5_ok : (fIfS (fOrT (fB (f2 cNe (fCall 2 (lev Nn mm (n + 4) i_run) [] (fCons (f2 oAdd (fTup (fCons (fC (.str "and")) fNil)) (f2 oMul (fTup (fCons (fV 5) fNil)) (fC (.int 60)))) (fCons (f2 oMul (fLst (fCons (fC (.str "yes")) fNil)) (fC (.int 200))) fNil))) (fTup (fCons (f2 oMul (fTup (fCons (fC (.str "a")) fNil)) (fC (.int 60))) (fCons (fC (.str "yes")) fNil))))) (fB (f2 cNe (fCall 2 (lev Nn mm (n + 4) i_run) [] (fCons (fV 5) (fCons (fLst fNil) fNil))) (fTup (fCons (fTup (fCons (fC (.str "a")) fNil)) (fCons (fC (.str "open")) fNil)))))) 
      (fRet (fC (.bool false))) 
      fNext) (lE ns v1 v2 v3 v4 (some (.d cA.d)) v6 v7 v8 v9 v10 v11 v12 v13 v14 v15 v16 v17) S = .nx (lE ns v1 v2 v3 v4 (some (.d cA.d)) v6 v7 v8 v9 v10 v11 v12 v13 v14 v15 v16 v17) S := by
  have hA : Ans (List.replicate 200 ("yes" : Str)) := fun x hx => .inl (List.eq_of_mem_replicate hx)
  have hd := dpMany
  have hr := run_ok (n + 3) cMany (List.replicate 200 "yes") S ["a"] okMany (by omega) (by omega) hA (by rw [List.length_replicate]; omega)
  have he : cMany.ev (List.replicate 200 "yes") = (List.replicate 60 ("a" : Str), .inl true) := by
    unfold cMany
    rw [Cn.ev]
    exact evs_rep 60 200 (by omega)
  rw [he] at hr
  have e1 : cMany.d = .tuple (.str "and" :: List.replicate 60 cA.d) := by
    unfold cMany
    rw [Cn.d, ds_map, List.map_replicate]
    rfl
  rw [e1] at hr
  have e2 : (List.replicate 60 ("a" : Str)).map PyData.str = List.replicate 60 (.str "a") := List.map_replicate
  have hne := cNe_refl _ S (run_plain (List.replicate 60 ("a" : Str)) "yes").1 (run_plain _ _).2
  dsimp only at hr
  rw [e2] at hr hne
  have hr2 := run_ok (n + 3) cA [] S ["a"] okA (by unfold cA; rw [Cn.dp]; omega) (by omega) (fun x h => by cases h) (by simp)
  have he2 : cA.ev [] = ([("a" : Str)], .inr "open") := by unfold cA; rw [Cn.ev]
  rw [he2] at hr2
  have hr2' : lev Nn mm (n + 4) i_run [.d cA.d, .d (.list [])] S = .ok (.d (.tuple [.tuple [.str "a"], .str "open"])) S := hr2
  have hne2 := cNe_refl _ S (run_plain [("a" : Str)] "open").1 (run_plain _ _).2
  have hne2' : cNe (.d (.tuple [.tuple [.str "a"], .str "open"])) (.d (.tuple [.tuple [.str "a"], .str "open"])) S = .ok (.d (.bool false)) S := hne2
  have hm := mul_many S
  have ht := mul_tup cA.d S
  have ht2 := mul_tup (.str "a") S
  have hadd := add_tt (.str "and") [] (List.replicate 60 cA.d) S (by simp)
  generalize (List.replicate 200 ("yes" : Str)).map PyData.str = L at hr hm ⊢
  generalize List.replicate 60 cA.d = R at hr ht hadd ⊢
  generalize List.replicate 60 (PyData.str "a") = Q at hr hne ht2 ⊢
  have hr' : lev Nn mm (n + 4) i_run [.d (.tuple (.str "and" :: R)), .d (.list L)] S = .ok (.d (.tuple [.tuple Q, .str "yes"])) S := hr
  have hne' : cNe (.d (.tuple [.tuple Q, .str "yes"])) (.d (.tuple [.tuple Q, .str "yes"])) S = .ok (.d (.bool false)) S := hne
  simp [fTup, fLst, allD, sizeLine_eq, ht, hadd, hm, hr', ht2, hne', asB, hr2', hne2']
omit hn in
theorem s6_ok : (fAsg (gTp 3 (gCs (gNm 7) (gCs (gNm 8) (gCs (gNm 9) gNo)))) (fLc (fItems (fC (.str "bcd"))) (gNm 15) fYes (fTup (fCons (fC (.str "test")) (fCons (fV 15) fNil))) [15])) (lE ns v1 v2 v3 v4 v5 v6 v7 v8 v9 v10 v11 v12 v13 v14 v15 v16 v17) S =
    .nx (lE ns v1 v2 v3 v4 v5 v6 (some (.d (tt "b").d)) (some (.d (tt "c").d)) (some (.d (tt "d").d)) v10 v11 v12 v13 v14 v15 v16 v17) S := by
  have l1 := lc_strs (fItems (fC (.str "bcd"))) 15 (fTup (fCons (fC (.str "test")) (fCons (fV 15) fNil))) (lE ns v1 v2 v3 v4 v5 v6 v7 v8 v9 v10 v11 v12 v13 v14 v15 v16 v17) S ["b", "c", "d"] (fun x => (tt x).d) (items_bcd _ _) (by decide) (fun z hz => by simp [fTup, allD, sizeLine_eq, tt_d])
  simp only [List.map_cons, List.map_nil] at l1
  unfold fAsg
  rw [l1]
  rfl
omit hn in
theorem s7_ok : (fSet 10 (fTup (fCons (fC (.str "or")) (fCons (fTup (fCons (fC (.str "and")) (fCons (fV 5) (fCons (fV 7) (fCons (fV 8) (fCons (fV 9) (fCons (fTup (fCons (fC (.str "not")) (fCons (fV 5) fNil))) (fCons (fV 7) fNil)))))))) (fCons (fTup (fCons (fC (.str "not")) (fCons (fTup (fCons (fC (.str "or")) (fCons (fV 7) (fCons (fV 8) (fCons (fV 9) (fCons (fV 5) (fCons (fV 8) fNil))))))) fNil))) (fCons (fV 9) (fCons (fTup (fCons (fC (.str "and")) (fCons (fV 8) (fCons (fV 9) (fCons (fV 5) (fCons (fV 7) fNil)))))) (fCons (fV 5) fNil)))))))) (lE ns v1 v2 v3 v4 (some (.d cA.d)) v6 (some (.d (tt "b").d)) (some (.d (tt "c").d)) (some (.d (tt "d").d)) v10 v11 v12 v13 v14 v15 v16 v17) S =
    .nx (lE ns v1 v2 v3 v4 (some (.d cA.d)) v6 (some (.d (tt "b").d)) (some (.d (tt "c").d)) (some (.d (tt "d").d)) (some (.d cLong.d)) v11 v12 v13 v14 v15 v16 v17) S := by
  have e : cLong.d = .tuple [.str "or", .tuple [.str "and", cA.d, (tt "b").d, (tt "c").d, (tt "d").d, .tuple [.str "not", cA.d], (tt "b").d], .tuple [.str "not", .tuple [.str "or", (tt "b").d, (tt "c").d, (tt "d").d, cA.d, (tt "c").d]], (tt "d").d, .tuple [.str "and", (tt "c").d, (tt "d").d, cA.d, (tt "b").d], cA.d] := by
    have ea : cA = tt "a" := rfl
    unfold cLong
    rw [ea]
    simp [Cn.d, Cn.ds]
  rw [e]
  simp [fTup, allD, sizeLine_eq]
include hl in
theorem s8_ok : ∃ S', (fIfS (fNotT (fTr (fCall 3 (lev Nn mm (n + 4) i__law_good) [] (fCons (fMut (fCons (fCall 2 (lev Nn mm (n + 4) i__law_cell) [] (fCons (fV 0) (fCons (fC (.int 15)) fNil))) fNil)) (fCons (fV 10) (fCons (fLst (fCons (fC (.str "a")) (fCons (fC (.str "b")) (fCons (fC (.str "c")) (fCons (fC (.str "d")) fNil))))) fNil)))))) 
      (fRet (fC (.bool false))) 
      fNext) (lE ns v1 v2 v3 v4 v5 v6 v7 v8 v9 (some (.d cLong.d)) v11 v12 v13 v14 v15 v16 v17) S = .nx (lE ns v1 v2 v3 v4 v5 v6 v7 v8 v9 (some (.d cLong.d)) v11 v12 v13 v14 v15 v16 v17) S' := by
  obtain ⟨i, hi⟩ := cell_ok (n + 2) ns 15 S (by omega) hl
  have hlen : S.length < (S ++ [Ob.l [.int i]]).length := by simp
  have hself : own (S ++ [Ob.l [.int i]]) S.length i = S ++ [Ob.l [.int i]] := own_self (by simp)
  have z : Zs ["a", "b", "c", "d"] := ⟨by decide, by decide, nms_of _ (by decide), by decide +kernel, by decide, by decide⟩
  have nd : cLong.nd ≤ 40 := by decide
  have dp : cLong.dp ≤ 5 := by decide
  obtain ⟨i3, hg⟩ := good_ok (S ++ [Ob.l [.int i]]) S.length hlen cLong ["a", "b", "c", "d"] z okLong n (by omega) (by omega) (by omega) i
  rw [hself] at hg
  have hi' : lev Nn mm (n + 4) i__law_cell [.s ns, .d (.int 15)] S = .ok (.d (.int i)) S := hi
  have hg' : lev Nn mm (n + 4) i__law_good [.r S.length, .d cLong.d, .d (.list [.str "a", .str "b", .str "c", .str "d"])] (S ++ [Ob.l [.int i]]) = .ok (.d (.bool true)) (own (S ++ [Ob.l [.int i]]) S.length i3) := hg
  refine ⟨own (S ++ [Ob.l [.int i]]) S.length i3, ?_⟩
  simp [hi', fMut, fLst, allD, sizeLine_eq, hg', tru]
end
end G53

set_option linter.all false
set_option maxHeartbeats 8000000
namespace G53
open FL PySem L2
theorem b1_ok {op : List W → So → Res W} {fa : FA} {ev : Ev} {S S1 : So} {ws : List W} (ha : fa ev S = .ok ws S1) : fB1 op fa ev S = op ws S1 := by
  unfold fB1
  rw [ha]
  rfl
section
variable (n : Nat) (hn : 95 ≤ n) (ns : List Int) (hl : ns.length ≤ 1000) (v1 v2 v3 v4 v5 v6 v7 v8 v9 v10 v11 v12 v13 v14 v15 v16 v17 : Option W) (S : So)
def loop9 (c : Cs) : FS := (fSeq (fSet 3 (fMut (fCons (fCall 2 (c i__law_cell) [] (fCons (fV 0) (fCons (f2 oAdd (fC (.int 20)) (fV 2)) fNil))) fNil))) 
      (fSeq (fSet 11 (fLc (fItems (fC (.str "abcdefgh"))) (gNm 15) fYes (fTup (fCons (fV 15) (fCons (f2 oIx (fLst (fCons (fC (.str "yes")) (fCons (fC (.str "no")) fNil))) (fCall 2 (c i__law_take) [] (fCons (fV 3) (fCons (fC (.int 2)) fNil)))) fNil))) [15])) 
      (fIfS (fNotT (fTr (fCall 2 (c i__law_steady_good) [] (fCons (fCall 0 (c i__law_large) [] fNil) (fCons (fB1 (FL.o1 tupW) (fCons (fV 11) fNil)) fNil))))) 
        (fRet (fC (.bool false))) 
        fNext)))
include hn hl
theorem loop9_ok (k : Nat) (hk : k ≤ 100) : ∃ (w3 w11 w15 : Option W) (S' : So), loop9 (lev Nn mm (n + 4)) (lE ns v1 (some (.d (.int k))) v3 v4 v5 v6 v7 v8 v9 v10 v11 v12 v13 v14 v15 v16 v17) S = .nx (lE ns v1 (some (.d (.int k))) w3 v4 v5 v6 v7 v8 v9 v10 w11 v12 v13 v14 w15 v16 v17) S' := by
  obtain ⟨i, hi⟩ := cell_ok (n + 2) ns (20 + k) S (by omega) hl
  have e1 : ((20 + k : Nat) : Int) = 20 + (k : Int) := by omega
  rw [e1] at hi
  generalize (k : Int) = b at hi ⊢
  have hlen : S.length < (S ++ [Ob.l [.int i]]).length := by simp
  have hself : own (S ++ [Ob.l [.int i]]) S.length i = S ++ [Ob.l [.int i]] := own_self (by simp)
  obtain ⟨K, i', h1, h2⟩ := lcL_pick (S ++ [Ob.l [.int i]]) S.length (gNm 15) fYes (fTup (fCons (fV 15) (fCons (f2 oIx (fLst (fCons (fC (.str "yes")) (fCons (fC (.str "no")) fNil))) (fCall 2 (lev Nn mm (n + 4) i__law_take) [] (fCons (fV 3) (fCons (fC (.int 2)) fNil)))) fNil)))
    (lE ns v1 (some (.d (.int b))) (some (.r S.length)) v4 v5 v6 v7 v8 v9 v10 v11 v12 v13 v14 none v16 v17) abc8 i [] (fun z hz => by
      refine ⟨lE ns v1 (some (.d (.int b))) (some (.r S.length)) v4 v5 v6 v7 v8 v9 v10 v11 v12 v13 v14 (some (.d (.str z))) v16 v17, rfl, fun i2 => ⟨true, i2, rfl⟩, fun i2 => ?_⟩
      have t2 := take_own (n + 3) S.length (S ++ [Ob.l [.int i]]) i2 2 hlen (by decide) (by decide)
      have hx : oIx (.d (.list [.str "yes", .str "no"])) (.d (.int (i2 % 2))) (own (S ++ [Ob.l [.int i]]) S.length (i2 / 2)) = .ok (.d (.str (yn_ (decide (i2 % 2 = 0))))) (own (S ++ [Ob.l [.int i]]) S.length (i2 / 2)) := by
        rcases (show i2 % 2 = 0 ∨ i2 % 2 = 1 by omega) with h | h
        · rw [h]
          exact ixL_nat _ 0 _ _ rfl
        · rw [h]
          exact ixL_nat _ 1 _ _ rfl
      exact ⟨decide (i2 % 2 = 0), i2 / 2, by simp [t2, hx, fTup, fLst, allD, sizeLine_eq, -oIx]⟩) (by rw [sizeLine_eq]; simp [abc8])
  rw [hself] at h1
  have hKl : K.length ≤ 8 := by
    have := h2.length_le
    rw [List.length_map] at this
    simpa [abc8] using this
  have asc1 : Asc (K.map (·.1)) := ⟨asc_abc.1.sublist h2, asc_abc.2.sublist h2⟩
  have as : AsOk K := asok_of asc1 hKl fun p hp => nms_of abc8 (by decide) p.1 (h2.subset (List.mem_map.mpr ⟨p, hp, rfl⟩))
  have nd : cLarge.nd ≤ 60 := by decide
  have dp : cLarge.dp ≤ 8 := by decide
  have sg := steadygood_ok (n + 1) cLarge K (own (S ++ [Ob.l [.int i]]) S.length i') ["a", "b", "c", "d", "e", "f", "g", "h"] okLarge (by decide) as (by omega) (by omega) (by omega)
  have hla := large_ok (n + 3) (own (S ++ [Ob.l [.int i]]) S.length i')
  have hf : fLc (fItems (fC (.str "abcdefgh"))) (gNm 15) fYes (fTup (fCons (fV 15) (fCons (f2 oIx (fLst (fCons (fC (.str "yes")) (fCons (fC (.str "no")) fNil))) (fCall 2 (lev Nn mm (n + 4) i__law_take) [] (fCons (fV 3) (fCons (fC (.int 2)) fNil)))) fNil))) [15] (lE ns v1 (some (.d (.int b))) (some (.r S.length)) v4 v5 v6 v7 v8 v9 v10 v11 v12 v13 v14 v15 v16 v17) (S ++ [Ob.l [.int i]]) = .ok (.d (.list (pr K))) (own (S ++ [Ob.l [.int i]]) S.length i') := by
    unfold fLc
    rw [items_abc8]
    show ((lcL _ _ _ (lE ns v1 (some (.d (.int b))) (some (.r S.length)) v4 v5 v6 v7 v8 v9 v10 v11 v12 v13 v14 none v16 v17) _ _ _).bind _) = _
    rw [h1]
    rfl
  refine ⟨some (.r S.length), some (.d (.list (pr K))), v15, own (S ++ [Ob.l [.int i]]) S.length i', ?_⟩
  unfold loop9
  rw [seq_nx (e1 := lE ns v1 (some (.d (.int b))) (some (.r S.length)) v4 v5 v6 v7 v8 v9 v10 v11 v12 v13 v14 v15 v16 v17) (S1 := S ++ [Ob.l [.int i]]) (set_ok (mut1_ok (cons_ok (call_ok (cons_ok rfl (cons_ok ((f2_ok rfl rfl).trans (add_ii _ _ _)) rfl)) rfl hi) rfl)))]
  rw [seq_nx (e1 := lE ns v1 (some (.d (.int b))) (some (.r S.length)) v4 v5 v6 v7 v8 v9 v10 (some (.d (.list (pr K)))) v12 v13 v14 v15 v16 v17) (S1 := own (S ++ [Ob.l [.int i]]) S.length i') (set_ok hf)]
  have hla' : lev Nn mm (n + 4) i__law_large [] (own (S ++ [Ob.l [.int i]]) S.length i') = .ok (.d cLarge.d) (own (S ++ [Ob.l [.int i]]) S.length i') := hla
  have sg' : lev Nn mm (n + 4) i__law_steady_good [.d cLarge.d, .d (.tuple (pr K))] (own (S ++ [Ob.l [.int i]]) S.length i') = .ok (.d (.bool true)) (own (S ++ [Ob.l [.int i]]) S.length i') := sg
  simp [hla', tupW, sg', tru]
omit hn hl in
theorem s10_ok : (fSet 12 (fB1 (FL.o1 tupW) (fCons (fLc (fRng1 (fCons (fC (.int 8)) fNil)) (gNm 2) fYes (fTup (fCons (f2 oMul (fC (.str "x")) (f2 oAdd (fV 2) (fC (.int 1)))) (fCons (f2 oIx (fLst (fCons (fC (.str "yes")) (fCons (fC (.str "no")) fNil))) (f2 oMod (fB1 (FL.o1 intW) (fCons (fV 2) fNil)) (fC (.int 2)))) fNil))) [2]) fNil))) (lE ns v1 v2 v3 v4 v5 v6 v7 v8 v9 v10 v11 v12 v13 v14 v15 v16 v17) S =
    .nx (lE ns v1 v2 v3 v4 v5 v6 v7 v8 v9 v10 v11 (some (.d (.tuple (pr K8)))) v13 v14 v15 v16 v17) S := by
  have hm := lcL_map (g := gNm 2) (te := (fTup (fCons (f2 oMul (fC (.str "x")) (f2 oAdd (fV 2) (fC (.int 1)))) (fCons (f2 oIx (fLst (fCons (fC (.str "yes")) (fCons (fC (.str "no")) fNil))) (f2 oMod (fB1 (FL.o1 intW) (fCons (fV 2) fNil)) (fC (.int 2)))) fNil)))) (ev0 := lE ns v1 none v3 v4 v5 v6 v7 v8 v9 v10 v11 v12 v13 v14 v15 v16 v17) (S := S) (dt := fun i : Nat => .int (0 + (i : Int))) (f := fun i => (pr K8).getD i .none) (List.range 8) [] (fun j hj => by
    have hj := List.mem_range.mp hj
    match j, hj with
    | 0, _ | 1, _ | 2, _ | 3, _ | 4, _ | 5, _ | 6, _ | 7, _ => exact ⟨_, rfl, by kernel_rfl⟩
    | j + 8, hj => omega) (by rw [sizeLine_eq]; simp)
  have hf : fLc (fRng1 (fCons (fC (.int 8)) fNil)) (gNm 2) fYes (fTup (fCons (f2 oMul (fC (.str "x")) (f2 oAdd (fV 2) (fC (.int 1)))) (fCons (f2 oIx (fLst (fCons (fC (.str "yes")) (fCons (fC (.str "no")) fNil))) (f2 oMod (fB1 (FL.o1 intW) (fCons (fV 2) fNil)) (fC (.int 2)))) fNil))) [2] (lE ns v1 v2 v3 v4 v5 v6 v7 v8 v9 v10 v11 v12 v13 v14 v15 v16 v17) S = .ok (.d (.list (pr K8))) S := by
    unfold fLc
    rw [show fRng1 (fCons (fC (.int 8)) fNil) (lE ns v1 v2 v3 v4 v5 v6 v7 v8 v9 v10 v11 v12 v13 v14 v15 v16 v17) S = .ok (rgD 0 8) S from rng_ok 8 rfl (by omega)]
    show ((lcL _ _ _ (lE ns v1 none v3 v4 v5 v6 v7 v8 v9 v10 v11 v12 v13 v14 v15 v16 v17) (rgD 0 8) _ _).bind _) = _
    unfold rgD
    rw [hm]
    rfl
  exact set_ok ((b1_ok (cons_ok hf rfl)).trans rfl)
omit hn hl in
theorem s11_ok : (fSet 13 (fLc (fItems (fV 12)) (gTp 2 (gCs (gNm 16) (gCs (gNm 17) gNo))) (fB (f2 cEq (fV 17) (fC (.str "yes")))) (fTup (fCons (fC (.str "not")) (fCons (fTup (fCons (fC (.str "test")) (fCons (fV 16) fNil))) fNil))) [16, 17])) (lE ns v1 v2 v3 v4 v5 v6 v7 v8 v9 v10 v11 (some (.d (.tuple (pr K8)))) v13 v14 v15 v16 v17) S =
    .nx (lE ns v1 v2 v3 v4 v5 v6 v7 v8 v9 v10 v11 (some (.d (.tuple (pr K8)))) (some (.d (.list [(Cn.n (tt "x")).d, (Cn.n (tt "xxx")).d, (Cn.n (tt "xxxxx")).d, (Cn.n (tt "xxxxxxx")).d]))) v14 v15 v16 v17) S := by
  have hs : ∀ (K : List (Str × Bool)) (acc : List PyData), acc.length + K.length ≤ 1000 → lcL (gTp 2 (gCs (gNm 16) (gCs (gNm 17) gNo))) (fB (f2 cEq (fV 17) (fC (.str "yes")))) (fTup (fCons (fC (.str "not")) (fCons (fTup (fCons (fC (.str "test")) (fCons (fV 16) fNil))) fNil))) (lE ns v1 v2 v3 v4 v5 v6 v7 v8 v9 v10 v11 (some (.d (.tuple (pr K8)))) v13 v14 v15 none none) (pr K) S acc =
      .ok (acc ++ (K.filter (·.2)).map fun p => .tuple [.str "not", .tuple [.str "test", .str p.1]]) S := by
    intro K
    induction K with
    | nil => intro acc _; simp [pr, lcL]
    | cons p K ih =>
      intro acc h
      obtain ⟨x, b⟩ := p
      rw [List.length_cons] at h
      have e1 : pr ((x, b) :: K) = .tuple [.str x, .str (yn_ b)] :: pr K := rfl
      rw [e1]
      unfold lcL
      have hg : gTp 2 (gCs (gNm 16) (gCs (gNm 17) gNo)) (.d (.tuple [.str x, .str (yn_ b)])) (lE ns v1 v2 v3 v4 v5 v6 v7 v8 v9 v10 v11 (some (.d (.tuple (pr K8)))) v13 v14 v15 none none) = some (lE ns v1 v2 v3 v4 v5 v6 v7 v8 v9 v10 v11 (some (.d (.tuple (pr K8)))) v13 v14 v15 (some (.d (.str x))) (some (.d (.str (yn_ b))))) := rfl
      rw [hg]
      dsimp only
      have ht : (fB (f2 cEq (fV 17) (fC (.str "yes")))) (lE ns v1 v2 v3 v4 v5 v6 v7 v8 v9 v10 v11 (some (.d (.tuple (pr K8)))) v13 v14 v15 (some (.d (.str x))) (some (.d (.str (yn_ b))))) S = .ok b S := by
        cases b <;> simp [eqv_str, asB, yn_]
      rw [ht]
      cases b with
      | false =>
        dsimp only
        rw [if_pos rfl, ih acc (by omega)]
        rfl
      | true =>
        have hte : (fTup (fCons (fC (.str "not")) (fCons (fTup (fCons (fC (.str "test")) (fCons (fV 16) fNil))) fNil))) (lE ns v1 v2 v3 v4 v5 v6 v7 v8 v9 v10 v11 (some (.d (.tuple (pr K8)))) v13 v14 v15 (some (.d (.str x))) (some (.d (.str (yn_ true))))) S = .ok (.d (.tuple [.str "not", .tuple [.str "test", .str x]])) S := by
          simp [fTup, allD, sizeLine_eq]
        dsimp only
        rw [hte]
        dsimp only
        rw [if_pos ⟨rfl, by rw [sizeLine_eq]; omega⟩, ih _ (by rw [List.length_append, List.length_singleton]; omega), List.append_assoc]
        rfl
  have h8 := hs K8 [] (by decide)
  refine set_ok ?_
  unfold fLc
  have hi : fItems (fV 12) (lE ns v1 v2 v3 v4 v5 v6 v7 v8 v9 v10 v11 (some (.d (.tuple (pr K8)))) v13 v14 v15 v16 v17) S = .ok (pr K8) S := rfl
  rw [hi]
  show ((lcL _ _ _ (lE ns v1 v2 v3 v4 v5 v6 v7 v8 v9 v10 v11 (some (.d (.tuple (pr K8)))) v13 v14 v15 none none) _ _ _).bind _) = _
  rw [h8]
  rfl
omit hn hl in
theorem s12_ok : (fSet 14 (f2 oAdd (f2 oAdd (fTup (fCons (fC (.str "or")) fNil)) (fB1 (FL.o1 tupW) (fCons (fV 13) fNil))) (fTup (fCons (fTup (fCons (fC (.str "test")) (fCons (fC (.str "xx")) fNil))) fNil)))) (lE ns v1 v2 v3 v4 v5 v6 v7 v8 v9 v10 v11 v12 (some (.d (.list [(Cn.n (tt "x")).d, (Cn.n (tt "xxx")).d, (Cn.n (tt "xxxxx")).d, (Cn.n (tt "xxxxxxx")).d]))) v14 v15 v16 v17) S =
    .nx (lE ns v1 v2 v3 v4 v5 v6 v7 v8 v9 v10 v11 v12 (some (.d (.list [(Cn.n (tt "x")).d, (Cn.n (tt "xxx")).d, (Cn.n (tt "xxxxx")).d, (Cn.n (tt "xxxxxxx")).d]))) (some (.d cWide.d)) v15 v16 v17) S := by
  have e : cWide.d = .tuple ([.str "or"] ++ [(Cn.n (tt "x")).d, (Cn.n (tt "xxx")).d, (Cn.n (tt "xxxxx")).d, (Cn.n (tt "xxxxxxx")).d] ++ [(tt "xx").d]) := by
    simp [cWide, Cn.d, Cn.ds]
  have a1 := add_tt (.str "or") [] [(Cn.n (tt "x")).d, (Cn.n (tt "xxx")).d, (Cn.n (tt "xxxxx")).d, (Cn.n (tt "xxxxxxx")).d] S (by simp)
  have a2 := add_tt (.str "or") [(Cn.n (tt "x")).d, (Cn.n (tt "xxx")).d, (Cn.n (tt "xxxxx")).d, (Cn.n (tt "xxxxxxx")).d] [(tt "xx").d] S (by simp)
  rw [e]
  simp [fTup, allD, sizeLine_eq, tupW, a1, a2, tt_d]
  simp [tt_d] at a1 a2
  simp [a1, a2]
omit hl in
theorem s13_ok : (fIfS (fOrT (fNotT (fTr (fCall 2 (lev Nn mm (n + 4) i__law_steady_good) [] (fCons (fV 14) (fCons (fV 12) fNil))))) (fNotT (fTr (fCall 2 (lev Nn mm (n + 4) i__law_steady_good) [] (fCons (fTup (fCons (fC (.str "and")) (fCons (fV 14) (fCons (fV 5) fNil)))) (fCons (fV 12) fNil)))))) 
      (fRet (fC (.bool false))) 
      fNext) (lE ns v1 v2 v3 v4 (some (.d cA.d)) v6 v7 v8 v9 v10 v11 (some (.d (.tuple (pr K8)))) v13 (some (.d cWide.d)) v15 v16 v17) S = .nx (lE ns v1 v2 v3 v4 (some (.d cA.d)) v6 v7 v8 v9 v10 v11 (some (.d (.tuple (pr K8)))) v13 (some (.d cWide.d)) v15 v16 v17) S := by
  have n1 : cWide.nd ≤ 60 := by decide
  have d1 : cWide.dp ≤ 8 := by decide
  have n2 : cWideA.nd ≤ 60 := by decide
  have d2 : cWideA.dp ≤ 8 := by decide
  have g1 : lev Nn mm (n + 4) i__law_steady_good [.d cWide.d, .d (.tuple (pr K8))] S = .ok (.d (.bool true)) S := steadygood_ok (n + 1) cWide K8 S _ okWide (by decide) as8 (by omega) (by omega) (by omega)
  have g2 : lev Nn mm (n + 4) i__law_steady_good [.d cWideA.d, .d (.tuple (pr K8))] S = .ok (.d (.bool true)) S := steadygood_ok (n + 1) cWideA K8 S _ okWideA (by decide) as8 (by omega) (by omega) (by omega)
  have e : cWideA.d = .tuple [.str "and", cWide.d, cA.d] := by
    unfold cWideA
    rw [Cn.d, ds_map]
    rfl
  rw [e] at g2
  simp [g1, g2, tru, fTup, allD, sizeLine_eq]
omit hl in
theorem s14_ok : (fRet (f2 cEq (fCall 2 (lev Nn mm (n + 4) i_steady_run) [] (fCons (fTup (fCons (fC (.str "or")) (fCons (fV 5) (fCons (fTup (fCons (fC (.str "not")) (fCons (fV 5) fNil))) fNil)))) (fCons (fTup (fCons (fTup (fCons (fC (.str "a")) (fCons (fC (.str "no")) fNil))) fNil)) fNil))) (fTup (fCons (fTup (fCons (fC (.str "a")) fNil)) (fCons (fC (.str "yes")) fNil))))) (lE ns v1 v2 v3 v4 (some (.d cA.d)) v6 v7 v8 v9 v10 v11 v12 v13 v14 v15 v16 v17) S = .rt (.d (.bool true)) S := by
  have d1 : cOr.dp ≤ 8 := by decide
  have hr := steadyrun_ok (n + 3) cOr [("a", false)] S _ okOr as1 (by omega) (by omega)
  have e : cOr.d = .tuple [.str "or", cA.d, .tuple [.str "not", cA.d]] := by
    unfold cOr
    rw [Cn.d, ds_map]
    simp [Cn.d]
  have eg : gK [("a", false)] "a" = some false := by decide
  have es : cOr.sv (gK [("a", false)]) = ([("a" : Str), "a"], .inl true) := by
    unfold cOr cA
    simp [Cn.sv, Cn.svs, eg, turnR]
  rw [es, e] at hr
  have hr' : lev Nn mm (n + 4) i_steady_run [.d (.tuple [.str "or", cA.d, .tuple [.str "not", cA.d]]), .d (.tuple [.tuple [.str "a", .str "no"]])] S = .ok (.d (.tuple [.tuple [.str "a"], .str "yes"])) S := hr
  have he := cEq_refl (.tuple [.tuple [.str "a"], .str "yes"]) S (run_plain [("a" : Str)] "yes").1 (run_plain [("a" : Str)] "yes").2
  simp [fTup, allD, sizeLine_eq, hr', he]
end
end G53

set_option linter.all false
set_option maxHeartbeats 8000000
namespace G53
open FL PySem L2
theorem for_ok {fi : FI} {g : FG} {b : FS} {ev : Ev} {S S1 : So} {ds : List PyData} {o : Out} (hi : fi ev S = .ok ds S1) (h : forL g b ds ev S1 = o) : fFor fi g b ev S = o := by
  unfold fFor
  rw [hi]
  exact h
def innerF (c : Cs) : FS := fFor (fRng1 (fCons (fC (.int 3)) fNil)) (gNm 2) (drawBody c)
abbrev l4 (ns : List Int) (v1 v2 v3 v4 : Option W) : Ev := lE ns v1 v2 v3 v4 none none none none none none none none none none none none none
theorem inner_ok (n : Nat) (hn : 95 ≤ n) (ns : List Int) (hl : ns.length ≤ 1000) (t : Nat) (ht : t ≤ 100) (v2 v3 v4 : Option W) (S : So) : ∃ (w2 w3 w4 : Option W) (S' : So), innerF (lev Nn mm (n + 4)) (l4 ns (some (.d (.int t))) v2 v3 v4) S = .nx (l4 ns (some (.d (.int t))) w2 w3 w4) S' := by
  obtain ⟨ev', S', h, w2, w3, w4, rfl⟩ := forL_inv (fun ev _ => ∃ v2 v3 v4 : Option W, ev = l4 ns (some (.d (.int t))) v2 v3 v4) (gNm 2) (drawBody (lev Nn mm (n + 4))) (rgD 0 3) (l4 ns (some (.d (.int t))) v2 v3 v4) S ⟨_, _, _, rfl⟩ (by
    rintro d hd ev S ⟨v2, v3, v4, rfl⟩
    obtain ⟨k, hk, rfl⟩ := List.mem_map.mp hd
    have hk := List.mem_range.mp hk
    obtain ⟨w3, w4, S', h⟩ := draw_ok n hn ns hl t k ht (by omega) v3 v4 none none none none none none none none none none none none none S
    rw [Int.zero_add]
    exact ⟨_, _, S', rfl, h, _, w3, w4, rfl⟩)
  exact ⟨w2, w3, w4, S', for_ok (rng_ok 3 rfl (by omega)) h⟩
theorem count_ok (ns : List Int) (v1 v2 v3 v4 : Option W) (S : So) : ∃ m : Nat, m ≤ 5 ∧ fRng1 (fCons (fB1 (o2I fun i j => if j > i then j else i) (fCons (fB1 (o2I fun i j => if j < i then j else i) (fCons (fB1 oLen (fCons (fV 0) fNil)) (fCons (fC (.int 5)) fNil))) (fCons (fC (.int 1)) fNil))) fNil) (l4 ns v1 v2 v3 v4) S = .ok (rgD 0 m) S := by
  have h0 : fB1 oLen (fCons (fV 0) fNil) (l4 ns v1 v2 v3 v4) S = .ok (.d (.int ns.length)) S := rfl
  generalize hx : (ns.length : Int) = x at h0
  have h1 : fB1 (o2I fun i j => if j < i then j else i) (fCons (fB1 oLen (fCons (fV 0) fNil)) (fCons (fC (.int 5)) fNil)) (l4 ns v1 v2 v3 v4) S = .ok (.d (.int (if 5 < x then 5 else x))) S := (b1_ok (cons_ok h0 rfl)).trans rfl
  generalize hy : (if 5 < x then 5 else x) = y at h1
  have h2 : fB1 (o2I fun i j => if j > i then j else i) (fCons (fB1 (o2I fun i j => if j < i then j else i) (fCons (fB1 oLen (fCons (fV 0) fNil)) (fCons (fC (.int 5)) fNil))) (fCons (fC (.int 1)) fNil)) (l4 ns v1 v2 v3 v4) S = .ok (.d (.int (if 1 > y then 1 else y))) S := (b1_ok (cons_ok h1 rfl)).trans rfl
  have y5 : y ≤ 5 := by rw [← hy]; split <;> omega
  generalize hz : (if 1 > y then 1 else y) = z at h2
  have z1 : 1 ≤ z ∧ z ≤ 5 := by rw [← hz]; split <;> omega
  exact ⟨z.toNat, by omega, rng_x z (cons_ok h2 rfl) (by omega) (by omega)⟩
theorem law_n (n : Nat) (hn : 95 ≤ n) (ns : List Int) (hl : ns.length ≤ 63) : lev Nn mm (n + 5) i_law [.s ns] [] = .ok (.d (.bool true)) [] := by
  have hl2 : ns.length ≤ 1000 := by omega
  show fDef 18 (m_law (lev Nn mm (n + 4))) [.s ns] [] = _
  obtain ⟨m, hm, hc⟩ := count_ok ns none none none none []
  obtain ⟨ev1, S1, h1, a1, a2, a3, a4, rfl⟩ := forL_inv (fun ev _ => ∃ v1 v2 v3 v4 : Option W, ev = l4 ns v1 v2 v3 v4) (gNm 1) (innerF (lev Nn mm (n + 4))) (rgD 0 m) (l4 ns none none none none) [] ⟨_, _, _, _, rfl⟩ (by
    rintro d hd ev S ⟨v1, v2, v3, v4, rfl⟩
    obtain ⟨t, ht, rfl⟩ := List.mem_map.mp hd
    have ht := List.mem_range.mp ht
    rw [Int.zero_add]
    obtain ⟨w2, w3, w4, S', h⟩ := inner_ok n hn ns hl2 t (by omega) v2 v3 v4 S
    exact ⟨_, _, S', rfl, h, _, w2, w3, w4, rfl⟩)
  have f1 := for_ok hc h1
  obtain ⟨S8, f8⟩ := s8_ok n hn ns hl2 a1 a2 a3 a4 (some (.d cA.d)) (some (.d many_)) (some (.d (tt "b").d)) (some (.d (tt "c").d)) (some (.d (tt "d").d)) none none none none none none none S1
  obtain ⟨ev9, S9, h9, b2, b3, b11, b15, rfl⟩ := forL_inv (fun ev _ => ∃ v2 v3 v11 v15 : Option W, ev = lE ns a1 v2 v3 a4 (some (.d cA.d)) (some (.d many_)) (some (.d (tt "b").d)) (some (.d (tt "c").d)) (some (.d (tt "d").d)) (some (.d cLong.d)) v11 none none none v15 none none) (gNm 2) (loop9 (lev Nn mm (n + 4))) (rgD 0 4)
    (lE ns a1 a2 a3 a4 (some (.d cA.d)) (some (.d many_)) (some (.d (tt "b").d)) (some (.d (tt "c").d)) (some (.d (tt "d").d)) (some (.d cLong.d)) none none none none none none none) S8 ⟨_, _, _, _, rfl⟩ (by
    rintro d hd ev S ⟨v2, v3, v11, v15, rfl⟩
    obtain ⟨k, hk, rfl⟩ := List.mem_map.mp hd
    have hk := List.mem_range.mp hk
    rw [Int.zero_add]
    obtain ⟨w3, w11, w15, S', h⟩ := loop9_ok n hn ns hl2 a1 v3 a4 (some (.d cA.d)) (some (.d many_)) (some (.d (tt "b").d)) (some (.d (tt "c").d)) (some (.d (tt "d").d)) (some (.d cLong.d)) v11 none none none v15 none none S k (by omega)
    exact ⟨_, _, S', rfl, h, _, w3, w11, w15, rfl⟩)
  have f9 := for_ok (rng_ok 4 rfl (by omega) : fRng1 (fCons (fC (.int 4)) fNil) (lE ns a1 a2 a3 a4 (some (.d cA.d)) (some (.d many_)) (some (.d (tt "b").d)) (some (.d (tt "c").d)) (some (.d (tt "d").d)) (some (.d cLong.d)) none none none none none none none) S8 = _) h9
  refine (fdef_d (x := .bool true) (S1 := S9) ?_).trans rfl
  show m_law (lev Nn mm (n + 4)) (l4 ns none none none none) [] = _
  unfold m_law
  refine (seq_nx f1).trans ?_
  rw [seq_nx (e1 := lE ns a1 a2 a3 a4 (some (.d cA.d)) none none none none none none none none none none none none) (S1 := S1) (set_ok (by
    have : cA.d = .tuple [.str "test", .str "a"] := by unfold cA; rw [Cn.d]
    rw [this]
    simp [fTup, allD, sizeLine_eq]))]
  rw [seq_nx (e1 := lE ns a1 a2 a3 a4 (some (.d cA.d)) (some (.d many_)) none none none none none none none none none none none) (S1 := S1) (set_ok ((f2_ok (by simp [fLst, allD, sizeLine_eq]) rfl).trans (mul_many S1)))]
  refine (seq_nx (s4_ok n hn ns a1 a2 a3 a4 none none none none none none none none none none none S1)).trans ?_
  refine (seq_nx (s5_ok n hn ns a1 a2 a3 a4 (some (.d many_)) none none none none none none none none none none none S1)).trans ?_
  refine (seq_nx (s6_ok ns a1 a2 a3 a4 (some (.d cA.d)) (some (.d many_)) none none none none none none none none none none none S1)).trans ?_
  refine (seq_nx (s7_ok ns a1 a2 a3 a4 (some (.d many_)) none none none none none none none none S1)).trans ?_
  refine (seq_nx f8).trans ?_
  refine (seq_nx f9).trans ?_
  refine (seq_nx (s10_ok ns a1 b2 b3 a4 (some (.d cA.d)) (some (.d many_)) (some (.d (tt "b").d)) (some (.d (tt "c").d)) (some (.d (tt "d").d)) (some (.d cLong.d)) b11 none none none b15 none none S9)).trans ?_
  refine (seq_nx (s11_ok ns a1 b2 b3 a4 (some (.d cA.d)) (some (.d many_)) (some (.d (tt "b").d)) (some (.d (tt "c").d)) (some (.d (tt "d").d)) (some (.d cLong.d)) b11 none none b15 none none S9)).trans ?_
  refine (seq_nx (s12_ok ns a1 b2 b3 a4 (some (.d cA.d)) (some (.d many_)) (some (.d (tt "b").d)) (some (.d (tt "c").d)) (some (.d (tt "d").d)) (some (.d cLong.d)) b11 _ none b15 none none S9)).trans ?_
  refine (seq_nx (s13_ok n hn ns a1 b2 b3 a4 (some (.d many_)) (some (.d (tt "b").d)) (some (.d (tt "c").d)) (some (.d (tt "d").d)) (some (.d cLong.d)) b11 _ b15 none none S9)).trans ?_
  exact s14_ok n hn ns a1 b2 b3 a4 (some (.d many_)) (some (.d (tt "b").d)) (some (.d (tt "c").d)) (some (.d (tt "d").d)) (some (.d cLong.d)) b11 _ _ _ b15 none none S9
theorem law_true : ∀ ns : List Int, ns.length ≤ 63 → lev Nn mm 100 i_law [.s ns] [] = .ok (.d (.bool true)) [] := fun ns h => law_n 95 (by omega) ns h
end G53

open PySem PySem.W PyProof.Rows
set_option Elab.async false
set_option maxRecDepth 100000 in
set_option maxHeartbeats 0 in
theorem PySem.Challenge.cw_leftfirst_k53_conditions_run_holds : PySem.Challenge.rw_leftfirst_k53_conditions_run.Holds := by
  w_on; o_law; k_head; (case hw => w_witness2)
  k_fill
  refine FL.walkF (l := PySem.Challenge.rw_leftfirst_k53_conditions_run) (n := 63) (k := 102) (x := "script") (g := FL.lev G53.Nn G53.mm 100 30) rfl (by decide) rfl ⟨rfl, by decide, by decide⟩ (fun w h Y => PySem.W.kIn_of Y) ?F ?go
  case go => exact G53.law_true
  case F =>
    intro w mg fa h KX G hmg
    refine' G53.all_mk0 KX G hmg ?n0 ?n1 ?n2 ?n3 ?n4 ?A ?qa0 ?qa1 ?qa2 ?qa3 ?qa4 ?qa5 ?qa6 ?qa7 ?qa8 ?qx4 ?qe0 ?qe1 ?qe2 ?qe3 ?qe4 ?qe5 ?qe6 ?qe7 ?qe8 ?qe9 ?qe10 ?qe11 ?qe12 ?qe13 ?qe14 ?qe15 ?qe16 ?qe17 ?qe18 ?qe19 ?qe20 ?qe21 ?qe22 ?qe23 ?qe24 ?qe25 ?qe26 ?qe27 ?qe28 ?qe29 ?qe30
    (case n0 => k_is)
    (case n1 => k_is)
    (case n2 => k_is)
    (case n3 => k_is)
    (case n4 => k_is)
    (case A => kernel_rfl)
    (case qa0 => refine' FL.gd_int KX G ?h14a; (case h14a => k_is))
    (case qa1 => refine' FL.gd_int KX G ?h15a; (case h15a => k_is))
    (case qa2 => refine' FL.gd_int KX G ?h16a; (case h16a => k_is))
    (case qa3 => refine' FL.gd_int KX G ?h17a; (case h17a => k_is))
    (case qa4 => refine' FL.gd_int KX G ?h18a; (case h18a => k_is))
    (case qa5 => refine' FL.gd_strs (zs := ["and", "or", "not", "if", "else"]) KX G ?h19a ?h19l ?h19e ?h19z; (case h19a => k_is); (case h19l => k_is); (case h19e => exact (.cons _ _ (.cons _ _ (.cons _ _ (.cons _ _ (.cons _ _ .nil)))))); (case h19z => decide))
    (case qa6 => refine' FL.gd_strs (zs := ["yes", "no", "fails"]) KX G ?h20a ?h20l ?h20e ?h20z; (case h20a => k_is); (case h20l => k_is); (case h20e => exact (.cons _ _ (.cons _ _ (.cons _ _ .nil)))); (case h20z => decide))
    (case qa7 => refine' FL.gd_strs (zs := ["yes", "no"]) KX G ?h21a ?h21l ?h21e ?h21z; (case h21a => k_is); (case h21l => k_is); (case h21e => exact (.cons _ _ (.cons _ _ .nil))); (case h21z => decide))
    (case qa8 => refine' FL.gd_int KX G ?h22a; (case h22a => k_is))
    (case qx4 => refine' G53.mkf_Missing KX G ?h23a ?h23oC ?h23oB ?h23sa ?h23sb ?h23ty ?h23kp ?h23noN ?h23iC ?h23tI ?h23l ?h23lT ?h23c ?h23k; (case h23a => k_is); (case h23oC => k_is); (case h23oB => decide +kernel); (case h23sa => k_is); (case h23sb => k_is); (case h23ty => k_is); (case h23kp => k_is); (case h23noN => k_is); (case h23iC => k_is); (case h23tI => k_is); (case h23l => k_is); (case h23lT => k_is); (case h23c => k_is); (case h23k => k_is))
    (case qe0 => refine' G53.mk_is_name KX G ?h24a ?h24l ?h24c ?h24k; (case h24a => k_is); (case h24l => k_is); (case h24c => k_is); (case h24k => k_is))
    (case qe1 => refine' G53.mk_are_names KX G ?h25a ?h25l ?h25c ?h25k; (case h25a => k_is); (case h25l => k_is); (case h25c => k_is); (case h25k => k_is))
    (case qe2 => refine' G53.mk_is_condition KX G ?h26a ?h26l ?h26c ?h26k; (case h26a => k_is); (case h26l => k_is); (case h26c => k_is); (case h26k => k_is))
    (case qe3 => refine' G53.mk__is_part KX G ?h27a ?h27l ?h27c ?h27k; (case h27a => k_is); (case h27l => k_is); (case h27c => k_is); (case h27k => k_is))
    (case qe4 => refine' G53.mk_check_condition KX G ?h28a ?h28l ?h28c ?h28k; (case h28a => k_is); (case h28l => k_is); (case h28c => k_is); (case h28k => k_is))
    (case qe5 => refine' G53.mk_run KX G ?h29a ?h29l ?h29c ?h29k; (case h29a => k_is); (case h29l => k_is); (case h29c => k_is); (case h29k => k_is))
    (case qe6 => refine' G53.mk_steady_run KX G ?h30a ?h30l ?h30c ?h30k; (case h30a => k_is); (case h30l => k_is); (case h30c => k_is); (case h30k => k_is))
    (case qe7 => refine' G53.mk_check_answers KX G ?h31a ?h31l ?h31c ?h31k; (case h31a => k_is); (case h31l => k_is); (case h31c => k_is); (case h31k => k_is))
    (case qe8 => refine' G53.mk_check_assignment KX G ?h32a ?h32l ?h32c ?h32k ?h32lT ?h32l2 ?h32e ?h32z; (case h32a => k_is); (case h32l => k_is); (case h32c => k_is); (case h32k => k_is); (case h32lT => k_is); (case h32l2 => k_is); (case h32e => exact (.cons _ _ (.cons _ _ .nil))); (case h32z => decide))
    (case qe9 => refine' G53.mk__is_assignment KX G ?h33a ?h33l ?h33c ?h33k; (case h33a => k_is); (case h33l => k_is); (case h33c => k_is); (case h33k => k_is))
    (case qe10 => refine' G53.mk__is_answered KX G ?h34a ?h34l ?h34c ?h34k; (case h34a => k_is); (case h34l => k_is); (case h34c => k_is); (case h34k => k_is))
    (case qe11 => refine' G53.mk_rows_of KX G ?h35a ?h35l ?h35c ?h35k; (case h35a => k_is); (case h35l => k_is); (case h35c => k_is); (case h35k => k_is))
    (case qe12 => refine' G53.mk__rows KX G ?h36a ?h36l ?h36c ?h36k; (case h36a => k_is); (case h36l => k_is); (case h36c => k_is); (case h36k => k_is))
    (case qe13 => refine' G53.mk__if_rows KX G ?h37a ?h37l ?h37c ?h37k; (case h37a => k_is); (case h37l => k_is); (case h37c => k_is); (case h37k => k_is))
    (case qe14 => refine' G53.mk__size KX G ?h38a ?h38l ?h38c ?h38k; (case h38a => k_is); (case h38l => k_is); (case h38c => k_is); (case h38k => k_is))
    (case qe15 => refine' G53.mk_walked KX G ?h39a ?h39l ?h39c ?h39k ?h39lT; (case h39a => k_is); (case h39l => k_is); (case h39c => k_is); (case h39k => k_is); (case h39lT => k_is))
    (case qe16 => refine' G53.mk_steadily_walked KX G ?h40a ?h40l ?h40c ?h40k; (case h40a => k_is); (case h40l => k_is); (case h40c => k_is); (case h40k => k_is))
    (case qe17 => refine' G53.mk_repeatedly_walked KX G ?h41a ?h41l ?h41c ?h41k; (case h41a => k_is); (case h41l => k_is); (case h41c => k_is); (case h41k => k_is))
    (case qe18 => refine' G53.mk__law_mixed KX G ?h42a ?h42l ?h42c ?h42k; (case h42a => k_is); (case h42l => k_is); (case h42c => k_is); (case h42k => k_is))
    (case qe19 => refine' G53.mk__law_cell KX G ?h43a ?h43l ?h43c ?h43k; (case h43a => k_is); (case h43l => k_is); (case h43c => k_is); (case h43k => k_is))
    (case qe20 => refine' G53.mk__law_take KX G ?h44a ?h44l ?h44c ?h44k; (case h44a => k_is); (case h44l => k_is); (case h44c => k_is); (case h44k => k_is))
    (case qe21 => refine' G53.mk__law_words KX G ?h45a ?h45l ?h45c ?h45k; (case h45a => k_is); (case h45l => k_is); (case h45c => k_is); (case h45k => k_is))
    (case qe22 => refine' G53.mk__law_condition KX G ?h46a ?h46l ?h46c ?h46k; (case h46a => k_is); (case h46l => k_is); (case h46c => k_is); (case h46k => k_is))
    (case qe23 => refine' G53.mk__law_end KX G ?h47a ?h47l ?h47c ?h47k; (case h47a => k_is); (case h47l => k_is); (case h47c => k_is); (case h47k => k_is))
    (case qe24 => refine' G53.mk__law_run KX G ?h48a ?h48l ?h48c ?h48k; (case h48a => k_is); (case h48l => k_is); (case h48c => k_is); (case h48k => k_is))
    (case qe25 => refine' G53.mk__law_steady KX G ?h49a ?h49l ?h49c ?h49k; (case h49a => k_is); (case h49l => k_is); (case h49c => k_is); (case h49k => k_is))
    (case qe26 => refine' G53.mk__law_asked KX G ?h50a ?h50l ?h50c ?h50k; (case h50a => k_is); (case h50l => k_is); (case h50c => k_is); (case h50k => k_is))
    (case qe27 => refine' G53.mk__law_steady_good KX G ?h51a ?h51l ?h51c ?h51k; (case h51a => k_is); (case h51l => k_is); (case h51c => k_is); (case h51k => k_is))
    (case qe28 => refine' G53.mk__law_good KX G ?h52a ?h52l ?h52c ?h52k; (case h52a => k_is); (case h52l => k_is); (case h52c => k_is); (case h52k => k_is))
    (case qe29 => refine' G53.mk__law_large KX G ?h53a ?h53l ?h53c ?h53k; (case h53a => k_is); (case h53l => k_is); (case h53c => k_is); (case h53k => k_is))
    (case qe30 => refine' G53.mk_law KX G ?h54a ?h54l ?h54c ?h54k; (case h54a => k_is); (case h54l => k_is); (case h54c => k_is); (case h54k => k_is))

