import PyProof.Rows.All
import Wide.All
import OpenK.AllK
import Wide.FinOn
import KE.KeyNested
import HandS.ForMost
import HandS.IsInst
import HandS.List
import HandS.Walk
import HandS.Text
import HandS.Exc
import HandS.WordsExc
import HandS.ForExc
import PyProof.EqAt
import PyProof.EqKinds
import PyProof.TupleCall
import PyProof.ReprRoads
import PyProof.CallStr
import KE.KExcIs
import KE.DataEq
import KE.KEqDict
import HandS.TupMul
import HandS.TupAny
import HandS.Wide
import HandS.Star
import HandS.Conv
import HandS.WordsDict
import HandS.TryOnly
import PyProof.WalksMore
import HandS.Strs
import HandS.SetFor
import KE.KDictPairs
import HandS.Small
import HandS.ExcOwn
import HandS.ExcInit
import HandS.ExcValue
import HandS.ExcField
import HandS.Defaults
import HandS.Codes
import HandS.DictComp
import PyProof.DictMoreH
import HandS.TupLen
import KE.GoesEnum
import HandS.Iter
import HandS.SetKeys
import HandS.SetBool
import PySem.Challenge.RW_leftfirst_k61_whole_no_shorter_machine
set_option Elab.async false
set_option linter.all false
set_option maxRecDepth 100000
set_option maxHeartbeats 1000000
namespace FL
open PySem PySem.Spec PyProof.Rows
open L2

/-! a value as data, what the heap says of it; M: the places of what may change: m: those that are numbered, x: others -/
structure Ms where
  m : List Addr
  x : List Addr
instance : Membership Addr Ms := ⟨fun M a => a ∈ M.m ∨ a ∈ M.x⟩
def Ms.add (M : Ms) (p : Addr) : Ms := ⟨M.m ++ [p], M.x⟩
def Ms.res (M : Ms) (p : Addr) : Ms := ⟨M.m, p :: M.x⟩
section
variable (K : PySem.W.Frag) (H : Hp) (M : Ms)
def FzL (a : Addr) (xs : List V) : Prop := a ∉ M ∧ H a = some (.lst xs)
def FzT (a : Addr) (xs : List V) : Prop := (a ∉ M ∧ ∃ o, o.dict = none ∧ H a = some (.frz o (.tup xs))) ∨
  ∃ (o : Obj) (its : Array Value) (n : Nat), K.lookup a = some o ∧ o.cls = .type "tuple" ∧ o.dict = none ∧ o.data = .seq its n ∧ its.size ≤ sizeLine ∧ Vals xs its.toList
def FzS (a : Addr) (xs : List V) : Prop := (a ∉ M ∧ ∃ o, H a = some (.frz o (.lst xs))) ∨
  ∃ (o : Obj) (its : Array Value) (n : Nat), K.lookup a = some o ∧ o.cls = .type "list" ∧ o.dict = none ∧ o.data = .seq its n ∧ its.size ≤ sizeLine ∧ Vals xs its.toList
mutual
def Dr : PyData → V → Prop
  | .none, v => v = .non
  | .bool b, v => v = .bl b
  | .int i, v => v = .int i
  | .str x, v => v = .str x
  | .list ds, v => ∃ a xs, v = .ref a ∧ FzL H M a xs ∧ DrL ds xs
  | .tuple ds, v => ∃ a xs, v = .ref a ∧ FzT K H M a xs ∧ DrL ds xs
  | .dict kvs, v => kvs = [] ∧ ∃ a, v = .ref a ∧ a ∉ M ∧ H a = some (.dK [])
def DrL : List PyData → List V → Prop
  | [], xs => xs = []
  | d :: ds, xs => ∃ x r, xs = x :: r ∧ Dr d x ∧ DrL ds r
end
end
theorem FzS.sq {K : PySem.W.Frag} {H : Hp} {M : Ms} {a : Addr} {xs : List V} (h : FzS K H M a xs) : SqL K H a xs := by
  rcases h with ⟨_, o, h⟩ | h
  · exact .inl (.inr ⟨o, h⟩)
  · exact .inr h
/-- from one heap to a later one: what is not numbered stays, new places are new -/
structure Stp (M : Ms) (H : Hp) (M1 : Ms) (H1 : Hp) : Prop where
  pre : M.m <+: M1.m
  sub : ∀ a, a ∈ M.x → a ∈ M1.x
  keep : ∀ a o, a ∉ M.m → H a = some o → H1 a = some o
  new : ∀ a, a ∈ M1.m → a ∉ M.m → H a = none
  newx : ∀ a, a ∈ M1.x → a ∉ M.x → a ∉ M.m → H a = none
  kz : ∀ a od u, H a = some (.frz od u) → H1 a = some (.frz od u)
theorem Stp.refl (M : Ms) (H : Hp) : Stp M H M H := ⟨List.prefix_refl _, fun _ h => h, fun _ _ _ h => h, fun _ h n => absurd h n, fun _ h n _ => absurd h n, fun _ _ _ h => h⟩
theorem Stp.ext {M M1 : Ms} {H H1 : Hp} (s : Stp M H M1 H1) (a : Addr) (o : HO) (n : a ∉ M) (e : H a = some o) : H1 a = some o := s.keep a o (fun h => n (Or.inl h)) e
theorem Stp.out {M M1 : Ms} {H H1 : Hp} (s : Stp M H M1 H1) {a : Addr} {o : HO} (n : a ∉ M) (e : H a = some o) : a ∉ M1 := fun h => by
  rcases h with h | h
  · rw [s.new a h fun z => n (Or.inl z)] at e
    cases e
  · rw [s.newx a h (fun z => n (Or.inr z)) fun z => n (Or.inl z)] at e
    cases e
theorem Stp.trans {M M1 M2 : Ms} {H H1 H2 : Hp} (s : Stp M H M1 H1) (t : Stp M1 H1 M2 H2) : Stp M H M2 H2 := by
  have back : ∀ a, a ∉ M.m → H1 a = none → H a = none := fun a n z => by
    cases e : H a with
    | none => rfl
    | some o =>
      rw [s.keep a o n e] at z
      cases z
  refine ⟨s.pre.trans t.pre, fun a h => t.sub a (s.sub a h), fun a o n e => ?_, fun a h n => ?_, fun a h n n2 => ?_, fun a od u e => t.kz a od u (s.kz a od u e)⟩
  · refine t.keep a o (fun h => ?_) (s.keep a o n e)
    rw [s.new a h n] at e
    cases e
  · by_cases c : a ∈ M1.m
    · exact s.new a c n
    · exact back a n (t.new a h c)
  · by_cases c : a ∈ M1.x
    · exact s.newx a c n n2
    · by_cases d : a ∈ M1.m
      · exact s.new a d n2
      · exact back a n2 (t.newx a h c d)
section
variable {K : PySem.W.Frag} {H H1 : Hp} {M M1 : Ms}
theorem FzL.stp (s : Stp M H M1 H1) {a : Addr} {xs : List V} (h : FzL H M a xs) : FzL H1 M1 a xs := ⟨s.out h.1 h.2, s.ext _ _ h.1 h.2⟩
theorem FzT.stp (s : Stp M H M1 H1) {a : Addr} {xs : List V} (h : FzT K H M a xs) : FzT K H1 M1 a xs := by
  rcases h with h | h
  · obtain ⟨h1, o, h2, h3⟩ := h
    exact .inl ⟨s.out h1 h3, o, h2, s.ext _ _ h1 h3⟩
  · exact .inr h
mutual
theorem Dr.stp (s : Stp M H M1 H1) : ∀ (d : PyData) (v : V), Dr K H M d v → Dr K H1 M1 d v
  | .none, v, h => by unfold Dr at h ⊢; exact h
  | .bool b, v, h => by unfold Dr at h ⊢; exact h
  | .int i, v, h => by unfold Dr at h ⊢; exact h
  | .str x, v, h => by unfold Dr at h ⊢; exact h
  | .list ds, v, h => by
    unfold Dr at h ⊢
    obtain ⟨a, xs, e, q, r⟩ := h
    exact ⟨a, xs, e, q.stp s, DrL.stp s ds xs r⟩
  | .tuple ds, v, h => by
    unfold Dr at h ⊢
    obtain ⟨a, xs, e, q, r⟩ := h
    exact ⟨a, xs, e, q.stp s, DrL.stp s ds xs r⟩
  | .dict kvs, v, h => by
    unfold Dr at h ⊢
    obtain ⟨e, a, e2, n, q⟩ := h
    exact ⟨e, a, e2, s.out n q, s.ext _ _ n q⟩
theorem DrL.stp (s : Stp M H M1 H1) : ∀ (ds : List PyData) (xs : List V), DrL K H M ds xs → DrL K H1 M1 ds xs
  | [], xs, h => by unfold DrL at h ⊢; exact h
  | d :: ds, xs, h => by
    unfold DrL at h ⊢
    obtain ⟨x, r, e, h1, h2⟩ := h
    exact ⟨x, r, e, Dr.stp s d x h1, DrL.stp s ds r h2⟩
end
theorem DrL.nil : DrL K H M [] [] := by unfold DrL; rfl
theorem DrL.cons {d : PyData} {ds : List PyData} {x : V} {xs : List V} (h : Dr K H M d x) (t : DrL K H M ds xs) : DrL K H M (d :: ds) (x :: xs) := by
  unfold DrL
  exact ⟨x, xs, rfl, h, t⟩
theorem DrL.cases {d : PyData} {ds : List PyData} {xs : List V} (h : DrL K H M (d :: ds) xs) : ∃ x r, xs = x :: r ∧ Dr K H M d x ∧ DrL K H M ds r := by
  unfold DrL at h
  exact h
theorem DrL.len : ∀ {ds : List PyData} {xs : List V}, DrL K H M ds xs → xs.length = ds.length
  | [], xs, h => by
    unfold DrL at h
    subst h
    rfl
  | d :: ds, xs, h => by
    obtain ⟨x, r, e, _, h2⟩ := h.cases
    rw [e, List.length_cons, List.length_cons, h2.len]
theorem DrL.get : ∀ {ds : List PyData} {xs : List V} {i : Nat} {d : PyData}, DrL K H M ds xs → ds[i]? = some d → ∃ x, xs[i]? = some x ∧ Dr K H M d x
  | [], _, _, _, _, e => by simp at e
  | c :: ds, xs, i, d, h, e => by
    obtain ⟨x, r, e1, h1, h2⟩ := h.cases
    subst e1
    cases i with
    | zero =>
      have e2 : c = d := by simpa using e
      subst e2
      exact ⟨x, rfl, h1⟩
    | succ i =>
      obtain ⟨y, e3, h3⟩ := h2.get (i := i) (by simpa using e)
      exact ⟨y, by simpa using e3, h3⟩
theorem DrL.append : ∀ {ds es : List PyData} {xs ys : List V}, DrL K H M ds xs → DrL K H M es ys → DrL K H M (ds ++ es) (xs ++ ys)
  | [], _, xs, _, h, t => by
    unfold DrL at h
    subst h
    exact t
  | d :: ds, _, xs, _, h, t => by
    obtain ⟨x, r, e, h1, h2⟩ := h.cases
    subst e
    exact .cons h1 (h2.append t)
theorem DrL.take : ∀ {ds : List PyData} {xs : List V} (n : Nat), DrL K H M ds xs → DrL K H M (ds.take n) (xs.take n)
  | _, _, 0, _ => by
    rw [List.take_zero, List.take_zero]
    exact .nil
  | [], xs, n + 1, h => by
    unfold DrL at h
    subst h
    exact .nil
  | d :: ds, xs, n + 1, h => by
    obtain ⟨x, r, e, h1, h2⟩ := h.cases
    subst e
    exact .cons h1 (h2.take n)
theorem DrL.drop : ∀ {ds : List PyData} {xs : List V} (n : Nat), DrL K H M ds xs → DrL K H M (ds.drop n) (xs.drop n)
  | _, _, 0, h => h
  | [], xs, n + 1, h => by
    unfold DrL at h
    subst h
    exact .nil
  | d :: ds, xs, n + 1, h => by
    obtain ⟨x, r, e, h1, h2⟩ := h.cases
    subst e
    exact h2.drop n
theorem DrL.set : ∀ {ds : List PyData} {xs : List V} (n : Nat) {d : PyData} {x : V}, DrL K H M ds xs → Dr K H M d x → DrL K H M (ds.set n d) (xs.set n x)
  | [], xs, n, _, _, h, _ => by
    unfold DrL at h
    subst h
    exact .nil
  | c :: ds, xs, n, d, x, h, hd => by
    obtain ⟨y, r, e, h1, h2⟩ := h.cases
    subst e
    cases n with
    | zero => exact .cons hd h2
    | succ n => exact .cons h1 (h2.set n hd)
theorem DrL.dropLast {ds : List PyData} {xs : List V} (h : DrL K H M ds xs) : DrL K H M ds.dropLast xs.dropLast := by
  rw [List.dropLast_eq_take, List.dropLast_eq_take, h.len]
  exact h.take _
theorem DrL.erase {ds : List PyData} {xs : List V} (n : Nat) (h : DrL K H M ds xs) : DrL K H M (ds.eraseIdx n) (xs.eraseIdx n) := by
  rw [List.eraseIdx_eq_take_drop_succ, List.eraseIdx_eq_take_drop_succ]
  exact (h.take n).append (h.drop (n + 1))
theorem DrL.rep {ds : List PyData} {xs : List V} (h : DrL K H M ds xs) : ∀ k : Nat, DrL K H M (List.replicate k ds).flatten (List.replicate k xs).flatten
  | 0 => .nil
  | k + 1 => by
    rw [List.replicate_succ, List.replicate_succ, List.flatten_cons, List.flatten_cons]
    exact h.append (h.rep k)
end

/-! values of slots, what may change -/
/-- a member of a tuple that holds an error -/
inductive Pm where
  | d (x : PyData)
  | x (c : Nat) (f : PyData)
  | r (n : Nat)
inductive W where
  | d (x : PyData)
  /-- the n-th of what may change -/
  | r (n : Nat)
  /-- a dict that does not change -/
  | k (kvs : List (Key × PyData))
  /-- an error of class number c, with its field -/
  | x (c : Nat) (f : PyData)
  /-- the script -/
  | s (ns : List Int)
  /-- a tuple with an error among its members -/
  | p (xs : List Pm)
inductive Ob where
  | l (xs : List PyData)
  | k (kvs : List (Key × PyData))
  /-- a dict whose keys are tuples of whole numbers, texts and None -/
  | t (kvs : List (NestedKey × PyData))
  /-- a dict while a loop walks it -/
  | z
abbrev So := List Ob
abbrev Ev := List (Option W)
inductive Res (α : Type) where
  | ok (a : α) (S : So)
  | ex (c : Nat) (f : PyData) (S : So)
  | no
inductive Out where
  | nx (e : Ev) (S : So)
  | rt (w : W) (S : So)
  | bk (e : Ev) (S : So)
  | ct (e : Ev) (S : So)
  | ex (c : Nat) (f : PyData) (e : Ev) (S : So)
  | no
abbrev FE := Ev → So → Res W
abbrev FT := Ev → So → Res Bool
abbrev FA := Ev → So → Res (List W)
abbrev FS := Ev → So → Out
@[simp] def Res.bind {α β : Type} (a : Res α) (f : α → So → Res β) : Res β := match a with
  | .ok x S => f x S
  | .ex c v S => .ex c v S
  | .no => .no
/-- a key's member -/
def flatK : NestedKey → Bool
  | .tup _ => false
  | _ => true
def entT (wo : World) (x : NestedKey × Addr × Value) : DictEntry := ⟨x.1.hash wo, .ref x.2.1, x.2.2⟩
/-- a dict whose keys are tuples, by its entries -/
def RawT (wo : World) (a : Addr) (xs : List (NestedKey × Addr × Value)) : HO := .ext fun h => ∃ o es ep, h.get? a = some o ∧ o.ExactDict ∧ o.data = .dict es ep ∧ es.toList = xs.map (entT wo) ∧ (xs.map (·.1)).Nodup ∧ (a == sysModules) = false ∧ xs.length ≤ sizeLine
/-- what errors are: R: one that is held at a place; D: one that flies -/
structure XRel (K : PySem.W.Frag) where
  wo : World
  R : Hp → Ms → Addr → Nat → PyData → Prop
  D : Nat → PyData → Value → Option Addr → Hp → Ms → Prop
  out : ∀ {H M a c f}, R H M a c f → a ∉ M
  stp : ∀ {H M H1 M1 a c f}, Stp M H M1 H1 → R H M a c f → R H1 M1 a c f
  les : ∀ {H M M1 a c f}, (∀ b, b ∈ M1 → b ∈ M) → R H M a c f → R H M1 a c f
  dles : ∀ {c f cls d H M M1}, (∀ b, b ∈ M1 → b ∈ M) → D c f cls d H M → D c f cls d H M1
section
variable {K : PySem.W.Frag} (XR : XRel K) (H : Hp) (M : Ms)
abbrev KD {κ : Type} (p : κ × PyData) (q : κ × V) : Prop := p.1 = q.1 ∧ Dr K H M p.2 q.2
def PmR : Pm → V → Prop
  | .d x, v => Dr K H M x v
  | .x c f, v => ∃ a, v = .ref a ∧ XR.R H M a c f
  | .r n, v => ∃ a, M.m[n]? = some a ∧ v = .ref a
def RW : W → V → Prop
  | .d x, v => Dr K H M x v
  | .r n, v => ∃ a, M.m[n]? = some a ∧ v = .ref a
  | .k kvs, v => ∃ a vs, v = .ref a ∧ a ∉ M ∧ (∃ o, H a = some (.frz o (.dK vs))) ∧ Paired (KD (K := K) H M) kvs vs
  | .x c f, v => ∃ a, v = .ref a ∧ XR.R H M a c f
  | .s ns, v => ∃ a, v = .ref a ∧ FzS K H M a (ns.map V.int)
  | .p xs, v => ∃ a vs, v = .ref a ∧ a ∉ M ∧ (∃ o, o.dict = none ∧ H a = some (.frz o (.tup vs))) ∧ Paired (PmR XR H M) xs vs
variable (K) in
/-- an entry: its key, at a place, its value -/
def TE1 (p : NestedKey × PyData) (x : NestedKey × Addr × Value) : Prop := p.1 = x.1 ∧ (∃ ks, p.1 = .tup ks ∧ ks.all flatK = true) ∧ Dr K H M p.1.data (.ref x.2.1) ∧ ∃ v, Dr K H M p.2 v ∧ RelV v x.2.2
end
section
variable (wo : World) (K : PySem.W.Frag) (H : Hp) (M : Ms)
def RO (a : Addr) : Ob → HO → Prop
  | .l xs, o => ∃ vs, o = .lst vs ∧ DrL K H M xs vs
  | .k kvs, o => ∃ vs, o = .dK vs ∧ Paired (KD (K := K) H M) kvs vs
  | .t kvs, o => ∃ xs, o = RawT wo a xs ∧ Paired (TE1 K H M) kvs xs
  | .z, _ => True
structure Rl (S : So) : Prop where
  nd : M.m.Nodup
  ob : Paired (fun a o => ∃ h, H a = some h ∧ RO wo K H M a o h) M.m S
  ex : ∀ a, a ∈ M.x → a ∉ M.m ∧ H a ≠ none
end
section
variable {K : PySem.W.Frag} (XR : XRel K) (H : Hp) (M : Ms)
def Rs (ev : Ev) (σ : L2.St) : Prop := Paired (fun (x : Option W) (y : Option V) => ∀ w, x = some w → ∃ v, y = some v ∧ RW XR H M w v) ev σ
end
section
variable {wo : World} {K : PySem.W.Frag} {XR : XRel K} {H H1 : Hp} {M M1 : Ms}
theorem Paired.imp {α β : Type} {F G : α → β → Prop} (f : ∀ a b, F a b → G a b) : ∀ {l : List α} {m : List β}, Paired F l m → Paired G l m
  | _, _, .nil => .nil
  | _, _, .cons r t => .cons (f _ _ r) (Paired.imp f t)
theorem Paired.get {α β : Type} {F : α → β → Prop} : ∀ {l : List α} {m : List β} {i : Nat} {a : α}, Paired F l m → l[i]? = some a → ∃ b, m[i]? = some b ∧ F a b
  | _, _, _, _, .nil, e => by simp at e
  | _, _, 0, _, .cons r _, e => by
    simp at e
    subst e
    exact ⟨_, rfl, r⟩
  | _, _, i + 1, _, .cons _ t, e => by
    obtain ⟨b, h1, h2⟩ := Paired.get (i := i) t (by simpa using e)
    exact ⟨b, by simpa using h1, h2⟩
theorem Paired.getR {α β : Type} {F : α → β → Prop} : ∀ {l : List α} {m : List β} {i : Nat} {b : β}, Paired F l m → m[i]? = some b → ∃ a, l[i]? = some a ∧ F a b
  | _, _, _, _, .nil, e => by simp at e
  | _, _, 0, _, .cons r _, e => by
    simp at e
    subst e
    exact ⟨_, rfl, r⟩
  | _, _, i + 1, _, .cons _ t, e => by
    obtain ⟨b, h1, h2⟩ := Paired.getR (i := i) t (by simpa using e)
    exact ⟨b, by simpa using h1, h2⟩
theorem Paired.snoc {α β : Type} {F : α → β → Prop} {a : α} {b : β} (r : F a b) : ∀ {l : List α} {m : List β}, Paired F l m → Paired F (l ++ [a]) (m ++ [b])
  | _, _, .nil => .cons r .nil
  | _, _, .cons q t => .cons q (Paired.snoc r t)
theorem Paired.setB {α β : Type} {F : α → β → Prop} {a : α} {b : β} (r : F a b) : ∀ {l : List α} {m : List β} (i : Nat), Paired F l m → Paired F (l.set i a) (m.set i b)
  | _, _, _, .nil => .nil
  | _, _, 0, .cons q t => .cons r t
  | _, _, i + 1, .cons q t => .cons q (Paired.setB r i t)
theorem KD.stp {κ : Type} (s : Stp M H M1 H1) {kvs : List (κ × PyData)} {vs : List (κ × V)} (h : Paired (KD (K := K) H M) kvs vs) : Paired (KD (K := K) H1 M1) kvs vs :=
  Paired.imp (fun p q z => ⟨z.1, Dr.stp s _ _ z.2⟩) h
theorem PmR.stp (s : Stp M H M1 H1) : ∀ {x : Pm} {v : V}, PmR XR H M x v → PmR XR H1 M1 x v
  | .d x, v, h => Dr.stp s x v h
  | .x c f, v, ⟨a, e, q⟩ => ⟨a, e, XR.stp s q⟩
  | .r n, v, ⟨a, e1, e2⟩ => by
    obtain ⟨t, e3⟩ := s.pre
    refine ⟨a, ?_, e2⟩
    rw [← e3, List.getElem?_append_left (List.getElem?_eq_some_iff.mp e1).1]
    exact e1
theorem RW.stp (s : Stp M H M1 H1) : ∀ {w : W} {v : V}, RW XR H M w v → RW XR H1 M1 w v
  | .d x, v, h => Dr.stp s x v h
  | .r n, v, ⟨a, e1, e2⟩ => by
    obtain ⟨t, e3⟩ := s.pre
    refine ⟨a, ?_, e2⟩
    rw [← e3, List.getElem?_append_left (List.getElem?_eq_some_iff.mp e1).1]
    exact e1
  | .k kvs, v, ⟨a, vs, e1, n, ⟨o, e2⟩, q⟩ => ⟨a, vs, e1, s.out n e2, ⟨o, s.ext _ _ n e2⟩, KD.stp s q⟩
  | .x c f, v, ⟨a, e1, q⟩ => ⟨a, e1, XR.stp s q⟩
  | .s ns, v, ⟨a, e1, .inl ⟨n, o, e2⟩⟩ => ⟨a, e1, .inl ⟨s.out n e2, o, s.ext _ _ n e2⟩⟩
  | .s ns, v, ⟨a, e1, .inr q⟩ => ⟨a, e1, .inr q⟩
  | .p xs, v, ⟨a, vs, e1, n, ⟨o, ho, e2⟩, q⟩ => ⟨a, vs, e1, s.out n e2, ⟨o, ho, s.ext _ _ n e2⟩, Paired.imp (fun _ _ z => PmR.stp s z) q⟩
theorem TE1.stp (s : Stp M H M1 H1) {p : NestedKey × PyData} {x : NestedKey × Addr × Value} (h : TE1 K H M p x) : TE1 K H1 M1 p x := ⟨h.1, h.2.1, Dr.stp s _ _ h.2.2.1, let ⟨v, q, r⟩ := h.2.2.2; ⟨v, Dr.stp s _ _ q, r⟩⟩
theorem RO.stp (s : Stp M H M1 H1) {a : Addr} : ∀ {o : Ob} {h : HO}, RO wo K H M a o h → RO wo K H1 M1 a o h
  | .l xs, h, ⟨vs, e, q⟩ => ⟨vs, e, DrL.stp s xs vs q⟩
  | .k kvs, h, ⟨vs, e, q⟩ => ⟨vs, e, KD.stp s q⟩
  | .t kvs, h, ⟨vs, e, q⟩ => ⟨vs, e, Paired.imp (fun _ _ z => z.stp s) q⟩
  | .z, _, _ => trivial
theorem Rs.stp (s : Stp M H M1 H1) {ev : Ev} {σ : L2.St} (h : Rs XR H M ev σ) : Rs XR H1 M1 ev σ := Paired.imp (fun x y z w e => by
  obtain ⟨v, e1, r⟩ := z w e
  exact ⟨v, e1, r.stp s⟩) h
/-- a new thing that does not change -/
theorem stp_new {p : Addr} {o : HO} (n : H p = none) : Stp M H M (upd H p o) :=
  ⟨List.prefix_refl _, fun _ h => h, fun a u _ e => by rw [upd_ne (ne_of_none e n)]; exact e, fun _ h n => absurd h n, fun _ h n _ => absurd h n, fun a od u e => by rw [upd_ne (ne_of_none e n)]; exact e⟩
theorem Rl.notin {S : So} (h : Rl wo K H M S) {p : Addr} (n : H p = none) : p ∉ M := fun m => by
  rcases m with m | m
  · obtain ⟨i, hi⟩ := List.mem_iff_getElem?.mp m
    obtain ⟨o, _, u, e, _⟩ := Paired.get h.ob hi
    rw [n] at e
    cases e
  · exact (h.ex p m).2 n
theorem upd_some {p a : Addr} {o : HO} (h : H a ≠ none) : upd H p o a ≠ none := by
  unfold upd
  split
  · intro z
    cases z
  · exact h
theorem Rl.new {S : So} (h : Rl wo K H M S) {p : Addr} {o : HO} (n : H p = none) : Rl wo K (upd H p o) M S := by
  refine ⟨h.nd, Paired.imp (fun a b ⟨u, e, r⟩ => ⟨u, ?_, r.stp (stp_new n)⟩) h.ob, fun a m => ⟨(h.ex a m).1, upd_some (h.ex a m).2⟩⟩
  rw [upd_ne (ne_of_none e n)]
  exact e
/-- a new thing that may change -/
theorem stp_mut {p : Addr} {o : HO} (n : H p = none) : Stp M H (M.add p) (upd H p o) := by
  refine ⟨List.prefix_append _ _, fun _ h => h, fun a u _ e => by rw [upd_ne (ne_of_none e n)]; exact e, fun a h n' => ?_, fun _ h n _ => absurd h n, fun a od u e => by rw [upd_ne (ne_of_none e n)]; exact e⟩
  rcases List.mem_append.mp h with h | h
  · exact absurd h n'
  · rw [List.mem_singleton.mp h]
    exact n
/-- a new place is set apart -/
theorem stp_res {p : Addr} {o : HO} (n : H p = none) : Stp M H (M.res p) (upd H p o) := by
  refine ⟨List.prefix_refl _, fun _ h => List.mem_cons_of_mem _ h, fun a u _ e => by rw [upd_ne (ne_of_none e n)]; exact e, fun _ h n => absurd h n, fun a h n' _ => ?_, fun a od u e => by rw [upd_ne (ne_of_none e n)]; exact e⟩
  rcases List.mem_cons.mp h with h | h
  · rw [h]
    exact n
  · exact absurd h n'
theorem Rl.mut {S : So} (h : Rl wo K H M S) {p : Addr} {o : HO} {b : Ob} (n : H p = none) (r : RO wo K (upd H p o) (M.add p) p b o) : Rl wo K (upd H p o) (M.add p) (S ++ [b]) := by
  have np := h.notin n
  refine ⟨?_, Paired.snoc ⟨o, upd_same, r⟩ (Paired.imp (fun a b ⟨u, e, r⟩ => ⟨u, (by rw [upd_ne (ne_of_none e n)]; exact e), r.stp (stp_mut n)⟩) h.ob), fun a m => ⟨fun z => ?_, upd_some (h.ex a m).2⟩⟩
  · show (M.m ++ [p]).Nodup
    rw [List.nodup_append]
    refine ⟨h.nd, by simp, fun a ha b hb => ?_⟩
    rw [List.mem_singleton.mp hb]
    intro e
    subst e
    exact np (Or.inl ha)
  · rcases List.mem_append.mp z with z | z
    · exact (h.ex a m).1 z
    · rw [List.mem_singleton.mp z] at m
      exact np (Or.inr m)
/-- one of what may change is changed -/
theorem stp_set {p : Addr} {o : HO} (m : p ∈ M.m) (nz : ∀ od u, H p ≠ some (.frz od u)) : Stp M H M (upd H p o) := by
  refine ⟨List.prefix_refl _, fun _ h => h, fun a u na e => ?_, fun _ h n => absurd h n, fun _ h n _ => absurd h n, fun a od u e => by rw [upd_ne (fun (c : a = p) => nz od u (by rw [← c]; exact e))]; exact e⟩
  have ne : a ≠ p := by
    intro c
    subst c
    exact na m
  rw [upd_ne ne]
  exact e
theorem Rl.get {S : So} (h : Rl wo K H M S) {n : Nat} {a : Addr} {o : Ob} (e1 : M.m[n]? = some a) (e2 : S[n]? = some o) : ∃ u, H a = some u ∧ RO wo K H M a o u := by
  obtain ⟨b, e3, q⟩ := Paired.get h.ob e1
  rw [e2] at e3
  cases e3
  exact q
theorem Paired.mapI {α β : Type} {F G : α → β → Prop} : ∀ {l : List α} {m : List β}, Paired F l m → (∀ (j : Nat) (x : α) (y : β), l[j]? = some x → F x y → G x y) → Paired G l m
  | _, _, .nil, _ => .nil
  | _, _, .cons r t, f => .cons (f 0 _ _ rfl r) (Paired.mapI t fun j x y e => f (j + 1) x y (by simpa using e))
theorem Paired.setR {α β : Type} {F G : α → β → Prop} {b : β} {a : α} : ∀ {l : List α} {m : List β} (i : Nat), Paired F l m → l[i]? = some a → G a b → (∀ (j : Nat) (x : α) (y : β), j ≠ i → l[j]? = some x → F x y → G x y) → Paired G l (m.set i b)
  | _, _, i, .nil, e, _, _ => by simp at e
  | c :: _, _, 0, .cons q t, e, g, f => by
    have e' : c = a := by simpa using e
    subst e'
    exact .cons g (Paired.mapI t fun j x y e => f (j + 1) x y (by omega) (by simpa using e))
  | _ :: _, _, i + 1, .cons q t, e, g, f => .cons (f 0 _ _ (by omega) rfl q) (Paired.setR i t (by simpa using e) g fun j x y ne e => f (j + 1) x y (by omega) (by simpa using e))
theorem nodup_at {α : Type} {a : α} : ∀ {l : List α} {i j : Nat}, l.Nodup → l[i]? = some a → l[j]? = some a → i = j := by
  intro l i j h e1 e2
  obtain ⟨h1, q1⟩ := List.getElem?_eq_some_iff.mp e1
  obtain ⟨h2, q2⟩ := List.getElem?_eq_some_iff.mp e2
  have p := List.pairwise_iff_getElem.mp h
  rcases Nat.lt_trichotomy i j with l | l | l
  · exact absurd (q1.trans q2.symm) (p i j h1 h2 l)
  · exact l
  · exact absurd (q2.trans q1.symm) (p j i h2 h1 l)
mutual
theorem Dr.upd (s : ∀ a o, a ∉ M → H a = some o → H1 a = some o) : ∀ (d : PyData) (v : V), Dr K H M d v → Dr K H1 M d v
  | .none, v, h => by unfold Dr at h ⊢; exact h
  | .bool b, v, h => by unfold Dr at h ⊢; exact h
  | .int i, v, h => by unfold Dr at h ⊢; exact h
  | .str x, v, h => by unfold Dr at h ⊢; exact h
  | .list ds, v, h => by
    unfold Dr at h ⊢
    obtain ⟨a, xs, e, q, r⟩ := h
    exact ⟨a, xs, e, ⟨q.1, s _ _ q.1 q.2⟩, DrL.upd s ds xs r⟩
  | .tuple ds, v, h => by
    unfold Dr at h ⊢
    obtain ⟨a, xs, e, q, r⟩ := h
    refine ⟨a, xs, e, ?_, DrL.upd s ds xs r⟩
    rcases q with ⟨q1, o, q2, q3⟩ | q
    · exact .inl ⟨q1, o, q2, s _ _ q1 q3⟩
    · exact .inr q
  | .dict kvs, v, h => by
    unfold Dr at h ⊢
    obtain ⟨e, a, e2, n, q⟩ := h
    exact ⟨e, a, e2, n, s _ _ n q⟩
theorem DrL.upd (s : ∀ a o, a ∉ M → H a = some o → H1 a = some o) : ∀ (ds : List PyData) (xs : List V), DrL K H M ds xs → DrL K H1 M ds xs
  | [], xs, h => by unfold DrL at h ⊢; exact h
  | d :: ds, xs, h => by
    unfold DrL at h ⊢
    obtain ⟨x, r, e, h1, h2⟩ := h
    exact ⟨x, r, e, Dr.upd s d x h1, DrL.upd s ds r h2⟩
end
theorem KD.upd {κ : Type} (s : ∀ a o, a ∉ M → H a = some o → H1 a = some o) {kvs : List (κ × PyData)} {vs : List (κ × V)} (h : Paired (KD (K := K) H M) kvs vs) : Paired (KD (K := K) H1 M) kvs vs :=
  Paired.imp (fun p q z => ⟨z.1, Dr.upd s _ _ z.2⟩) h
theorem TE1.upd (s : ∀ a o, a ∉ M → H a = some o → H1 a = some o) {p : NestedKey × PyData} {x : NestedKey × Addr × Value} (h : TE1 K H M p x) : TE1 K H1 M p x := ⟨h.1, h.2.1, Dr.upd s _ _ h.2.2.1, let ⟨v, q, r⟩ := h.2.2.2; ⟨v, Dr.upd s _ _ q, r⟩⟩
theorem RO.upd (s : ∀ a o, a ∉ M → H a = some o → H1 a = some o) {wo : World} {a : Addr} : ∀ {o : Ob} {h : HO}, RO wo K H M a o h → RO wo K H1 M a o h
  | .l xs, h, ⟨vs, e, q⟩ => ⟨vs, e, DrL.upd s xs vs q⟩
  | .k kvs, h, ⟨vs, e, q⟩ => ⟨vs, e, KD.upd s q⟩
  | .t kvs, h, ⟨vs, e, q⟩ => ⟨vs, e, Paired.imp (fun _ _ z => z.upd s) q⟩
  | .z, _, _ => trivial
/-! a dict is locked for good -/
section
variable {a : Addr} {us : List (Key × V)} {od : Obj}
mutual
theorem Dr.lk (h0 : H a = some (.dK us)) (ma : a ∈ M) : ∀ (d : PyData) (v : V), Dr K H M d v → Dr K (L2.upd H a (.frz od (.dK us))) M d v
  | .none, v, h => by unfold Dr at h ⊢; exact h
  | .bool b, v, h => by unfold Dr at h ⊢; exact h
  | .int i, v, h => by unfold Dr at h ⊢; exact h
  | .str x, v, h => by unfold Dr at h ⊢; exact h
  | .list ds, v, h => by
    unfold Dr at h ⊢
    obtain ⟨c, xs, e, q, r⟩ := h
    exact ⟨c, xs, e, ⟨q.1, by rw [upd_ne (ne_of q.2 h0 (fun z => nomatch z))]; exact q.2⟩, DrL.lk h0 ma ds xs r⟩
  | .tuple ds, v, h => by
    unfold Dr at h ⊢
    obtain ⟨c, xs, e, q, r⟩ := h
    refine ⟨c, xs, e, ?_, DrL.lk h0 ma ds xs r⟩
    rcases q with ⟨q1, o, q2, q3⟩ | q
    · exact .inl ⟨q1, o, q2, by rw [upd_ne (ne_of q3 h0 (fun z => nomatch z))]; exact q3⟩
    · exact .inr q
  | .dict kvs, v, h => by
    unfold Dr at h ⊢
    obtain ⟨e, c, e2, n, q⟩ := h
    refine ⟨e, c, e2, n, ?_⟩
    rw [upd_ne (fun (z : c = a) => n (by rw [z]; exact ma))]
    exact q
theorem DrL.lk (h0 : H a = some (.dK us)) (ma : a ∈ M) : ∀ (ds : List PyData) (xs : List V), DrL K H M ds xs → DrL K (L2.upd H a (.frz od (.dK us))) M ds xs
  | [], xs, h => by unfold DrL at h ⊢; exact h
  | d :: ds, xs, h => by
    unfold DrL at h ⊢
    obtain ⟨x, r, e, h1, h2⟩ := h
    exact ⟨x, r, e, Dr.lk h0 ma d x h1, DrL.lk h0 ma ds r h2⟩
end
theorem KD.lk {κ : Type} (h0 : H a = some (.dK us)) (ma : a ∈ M) {kvs : List (κ × PyData)} {vs : List (κ × V)} (h : Paired (KD (K := K) H M) kvs vs) : Paired (KD (K := K) (L2.upd H a (.frz od (.dK us))) M) kvs vs :=
  Paired.imp (fun p q z => ⟨z.1, Dr.lk h0 ma _ _ z.2⟩) h
theorem RO.lk (h0 : H a = some (.dK us)) (ma : a ∈ M) {wo : World} {c : Addr} : ∀ {o : Ob} {h : HO}, RO wo K H M c o h → RO wo K (L2.upd H a (.frz od (.dK us))) M c o h
  | .l xs, h, ⟨vs, e, q⟩ => ⟨vs, e, DrL.lk h0 ma xs vs q⟩
  | .k kvs, h, ⟨vs, e, q⟩ => ⟨vs, e, KD.lk h0 ma q⟩
  | .t kvs, h, ⟨vs, e, q⟩ => ⟨vs, e, Paired.imp (fun _ _ z => ⟨z.1, z.2.1, Dr.lk h0 ma _ _ z.2.2.1, let ⟨v, q, r⟩ := z.2.2.2; ⟨v, Dr.lk h0 ma _ _ q, r⟩⟩) q⟩
  | .z, _, _ => trivial
end
/-- what follows is told of the locked thing -/
def fz (Q : VK) : VK := fun x H' => ∃ d u, x = .ref d ∧ H' d = some u ∧ Mut (some u) ∧ ∀ od, Q x (upd H' d (.frz od u))
theorem Rl.set {S : So} (h : Rl wo K H M S) {n : Nat} {a : Addr} {o : HO} {b : Ob} (e1 : M.m[n]? = some a) (r : RO wo K (upd H a o) M a b o) : Rl wo K (upd H a o) M (S.set n b) := by
  have m : a ∈ M.m := List.mem_iff_getElem?.mpr ⟨n, e1⟩
  refine ⟨h.nd, Paired.setR n h.ob e1 ⟨o, upd_same, r⟩ ?_, fun a m => ⟨(h.ex a m).1, upd_some (h.ex a m).2⟩⟩
  rintro j x y ne e2 ⟨u, e3, q⟩
  refine ⟨u, ?_, RO.upd (fun c o nc ec => by rw [upd_ne (fun (w : c = a) => nc (Or.inl (by rw [w]; exact m)))]; exact ec) q⟩
  rw [upd_ne ?_]
  · exact e3
  · intro c
    subst c
    exact ne (nodup_at h.nd e2 e1)
theorem Rl.res {S : So} (h : Rl wo K H M S) {p : Addr} {o : HO} (n : H p = none) : Rl wo K (upd H p o) (M.res p) S := by
  have np := h.notin n
  refine ⟨h.nd, Paired.imp (fun a b ⟨u, e, r⟩ => ⟨u, (by rw [upd_ne (ne_of_none e n)]; exact e), r.stp (stp_res n)⟩) h.ob, fun a m => ?_⟩
  rcases List.mem_cons.mp m with m | m
  · subst m
    refine ⟨fun z => np (Or.inl z), ?_⟩
    rw [upd_same]
    intro z
    cases z
  · exact ⟨(h.ex a m).1, upd_some (h.ex a m).2⟩
/-! fewer places that may change -/
mutual
theorem Dr.les (s : ∀ b, b ∈ M1 → b ∈ M) : ∀ (d : PyData) (v : V), Dr K H M d v → Dr K H M1 d v
  | .none, v, h => by unfold Dr at h ⊢; exact h
  | .bool b, v, h => by unfold Dr at h ⊢; exact h
  | .int i, v, h => by unfold Dr at h ⊢; exact h
  | .str x, v, h => by unfold Dr at h ⊢; exact h
  | .list ds, v, h => by
    unfold Dr at h ⊢
    obtain ⟨a, xs, e, q, r⟩ := h
    exact ⟨a, xs, e, ⟨fun z => q.1 (s _ z), q.2⟩, DrL.les s ds xs r⟩
  | .tuple ds, v, h => by
    unfold Dr at h ⊢
    obtain ⟨a, xs, e, q, r⟩ := h
    refine ⟨a, xs, e, ?_, DrL.les s ds xs r⟩
    rcases q with q | q
    · exact .inl ⟨fun z => q.1 (s _ z), q.2⟩
    · exact .inr q
  | .dict kvs, v, h => by
    unfold Dr at h ⊢
    obtain ⟨e, a, e2, n, q⟩ := h
    exact ⟨e, a, e2, fun z => n (s _ z), q⟩
theorem DrL.les (s : ∀ b, b ∈ M1 → b ∈ M) : ∀ (ds : List PyData) (xs : List V), DrL K H M ds xs → DrL K H M1 ds xs
  | [], xs, h => by unfold DrL at h ⊢; exact h
  | d :: ds, xs, h => by
    unfold DrL at h ⊢
    obtain ⟨x, r, e, h1, h2⟩ := h
    exact ⟨x, r, e, Dr.les s d x h1, DrL.les s ds r h2⟩
end
theorem KD.les {κ : Type} (s : ∀ b, b ∈ M1 → b ∈ M) {kvs : List (κ × PyData)} {vs : List (κ × V)} (h : Paired (KD (K := K) H M) kvs vs) : Paired (KD (K := K) H M1) kvs vs :=
  Paired.imp (fun p q z => ⟨z.1, Dr.les s _ _ z.2⟩) h
theorem TE1.les (s : ∀ b, b ∈ M1 → b ∈ M) {p : NestedKey × PyData} {x : NestedKey × Addr × Value} (h : TE1 K H M p x) : TE1 K H M1 p x := ⟨h.1, h.2.1, Dr.les s _ _ h.2.2.1, let ⟨v, q, r⟩ := h.2.2.2; ⟨v, Dr.les s _ _ q, r⟩⟩
theorem RO.les (s : ∀ b, b ∈ M1 → b ∈ M) {a : Addr} : ∀ {o : Ob} {h : HO}, RO wo K H M a o h → RO wo K H M1 a o h
  | .l xs, h, ⟨vs, e, q⟩ => ⟨vs, e, DrL.les s xs vs q⟩
  | .k kvs, h, ⟨vs, e, q⟩ => ⟨vs, e, KD.les s q⟩
  | .t kvs, h, ⟨vs, e, q⟩ => ⟨vs, e, Paired.imp (fun _ _ z => z.les s) q⟩
  | .z, _, _ => trivial
theorem PmR.les (s : ∀ b, b ∈ M1 → b ∈ M) (hm : M1.m = M.m) : ∀ {x : Pm} {v : V}, PmR XR H M x v → PmR XR H M1 x v
  | .d x, v, h => Dr.les s x v h
  | .x c f, v, ⟨a, e, q⟩ => ⟨a, e, XR.les s q⟩
  | .r n, v, ⟨a, e1, e2⟩ => ⟨a, by rw [hm]; exact e1, e2⟩
/-- the numbered ones the same -/
theorem RW.les (s : ∀ b, b ∈ M1 → b ∈ M) (hm : M1.m = M.m) : ∀ {w : W} {v : V}, RW XR H M w v → RW XR H M1 w v
  | .d x, v, h => Dr.les s x v h
  | .r n, v, ⟨a, e1, e2⟩ => ⟨a, by rw [hm]; exact e1, e2⟩
  | .k kvs, v, ⟨a, vs, e1, n, e2, q⟩ => ⟨a, vs, e1, fun z => n (s _ z), e2, KD.les s q⟩
  | .x c f, v, ⟨a, e1, q⟩ => ⟨a, e1, XR.les s q⟩
  | .s ns, v, ⟨a, e1, .inl ⟨n, o, e2⟩⟩ => ⟨a, e1, .inl ⟨fun z => n (s _ z), o, e2⟩⟩
  | .s ns, v, ⟨a, e1, .inr q⟩ => ⟨a, e1, .inr q⟩
  | .p xs, v, ⟨a, vs, e1, n, ⟨o, ho, e2⟩, q⟩ => ⟨a, vs, e1, fun z => n (s _ z), ⟨o, ho, e2⟩, Paired.imp (fun _ _ z => PmR.les s hm z) q⟩
end
end FL

set_option Elab.async false
set_option linter.all false
set_option maxRecDepth 100000
set_option maxHeartbeats 1000000
namespace FL
open PySem PySem.Spec PyProof.Rows
open L2
/-! new tuples, told with the very object: it has no attributes -/
abbrev tObj (us : List Value) : Obj := { cls := .type "tuple", data := .seq us.toArray }
def NewT (H : Hp) (xs : List V) (Q : VK) : Prop := ∀ p o, H p = none → o.dict = none → Q (.ref p) (upd H p (.frz o (.tup xs)))
section
variable {X : Cx} {pins : List (Addr × Obj)} {σ : L2.St} {H : Hp} {s : Shared} {xs ys : List V} {us : List Value} {t : TA} {es : List Expr} {pos : Pos}
theorem lay_tup (I : Inv X pins σ H s) (r : Vals xs us) (hz : xs.length ≤ sizeLine) {Q : VK} (q : NewT H xs Q) :
    ∃ x H2, Inv X pins σ H2 { s with heap := s.heap.push (tObj us) } ∧ RelV x (.ref s.heap.objs.size) ∧ Q x H2 := by
  refine ⟨.ref s.heap.objs.size, upd H s.heap.objs.size (.frz (tObj us) (.tup xs)), I.laid (t' := s.toks) (fun b ob e => Heap.get?_push_of_some _ e) (Nat.le_refl _) ⟨Heap.get?_push_size _ rfl, hz, us, r, IsTup.new _ _⟩, rfl, q _ _ (I.hok.fresh (Nat.le_refl _)) rfl⟩
def tTupP (t : TA) : TE := fun σ H Q => t σ H fun xs H1 => xs.length ≤ sizeLine ∧ NewT H1 xs Q
theorem pe_tupP {x1} (h : PA X es t) : PE X (.Tuple es x1 pos) (tTupP t) := by
  refine ⟨fun pins s σ H Q I hq => wpAny_Tuple_spliced (thn (h.run pos pins s σ H _ I hq) fun us s1 ⟨xs, H1, I1, r, z, q⟩ => ⟨by rw [← r.length]; exact z, ?_⟩)⟩
  exact lay_tup I1 r z q
theorem call_tupleP : CallR X (.type "tuple") (fun xs H Q => ∃ p ys, xs = [.ref p] ∧ ((SqL X.K H p ys ∧ NewT H ys Q) ∨ (SqT X.K H p ys ∧ Q (.ref p) H))) := by
  intro pins s σ H xs us Q I r h
  obtain ⟨p, ys, rfl, h⟩ := h
  obtain ⟨u, rfl, rx⟩ := vals1 r
  cases rx
  rcases h with ⟨hq, q⟩ | ⟨hq, q⟩
  · obtain ⟨its, r2, pl, hz⟩ := I.list hq
    have ln := r2.length
    exact call_tuple_list pl.isList (fun h2 kp => lay_tup (I.kept (t' := s.toks) kp) r2 hz q) (by simp only [List.size_toArray] <;> omega)
  · obtain ⟨its, r2, pl, hz⟩ := I.tuple hq
    exact call_tuple_same pl ⟨.ref p, H, I, rfl, q⟩
def rSlP (K : PySem.W.Frag) : V → Option Int → Option Int → Hp → VK → Prop := fun x lo hi H Q => ∃ a xs, x = .ref a ∧ SqT K H a xs ∧ ¬ (HT.sIx xs.length 0 lo = 0 ∧ HT.sIx xs.length xs.length hi = xs.length) ∧ NewT H (cutV xs lo hi) Q
theorem sl_tupP : SlR X (rSlP X.K) := by
  intro pins s σ H x v vl vu lo hi sl Q I rx hs pl pu h
  obtain ⟨a, xs, rfl, hx, hw, q⟩ := h
  cases rx
  obtain ⟨its, r, ht, hz⟩ := I.tuple hx
  have ln : its.toArray.size = xs.length := by rw [List.size_toArray]; exact r.length.symm
  refine ⟨"tuple", _, PyProof.Rows.slot_tuple_getitem.lookup, ht.typeIs, HT.getItem_tuple_cut ht hs pl pu (by rw [ln]; exact hw) ?_ (by rw [ln]; exact hz)⟩
  rw [ln]
  exact lay_tup I ((r.drop (HT.sIx xs.length 0 lo)).take (HT.sIx xs.length xs.length hi - HT.sIx xs.length 0 lo)) (Nat.le_trans (cutV_length xs lo hi) hz) q
def rCatP (K : PySem.W.Frag) : R2 := fun x y H Q => ∃ a b xs ys, x = .ref a ∧ y = .ref b ∧ SqT K H a xs ∧ SqT K H b ys ∧ xs.length + ys.length ≤ sizeLine ∧ (xs = [] → Q (.ref b) H) ∧ (xs ≠ [] → ys = [] → Q (.ref a) H) ∧ (xs ≠ [] → ys ≠ [] → NewT H (xs ++ ys) Q)
theorem op_catP : OpR X (binaryOp .Add) (rCatP X.K) := by
  intro pins s σ H x y v u Q I rx ry h
  obtain ⟨a, b, xs, ys, rfl, rfl, ha, hb, hz, q0, q1, q2⟩ := h
  cases rx
  cases ry
  obtain ⟨its, r1, p1, _⟩ := I.tuple ha
  obtain ⟨jts, r2, p2, _⟩ := I.tuple hb
  by_cases hx : xs = []
  · have e : its = [] := r1.nil_iff.mpr hx
    subst e
    exact cat_tup0 p1 p2 ⟨.ref b, H, I, rfl, q0 hx⟩
  · exact HT.cat_tup p1 p2 (fun z => hx (r1.nil_iff.mp z)) (fun z => ⟨.ref a, H, I, rfl, q1 hx (r2.nil_iff.mp z)⟩) (fun z => lay_tup I (r1.append r2) (by rw [List.length_append]; exact hz) (q2 hx fun w => z (r2.nil_iff.mpr w))) (by rw [← r1.length, ← r2.length]; exact hz)
def rRepP (K : PySem.W.Frag) : R2 := fun x y H Q => ∃ l k xs, x = .ref l ∧ y = .int k ∧ SqT K H l xs ∧ xs ≠ [] ∧ 2 ≤ k ∧ k ≤ 1000 ∧ xs.length ≤ 1000 ∧ NewT H (List.replicate k.toNat xs).flatten Q
theorem op_repP : OpR X (binaryOp .Mult) (rRepP X.K) := by
  intro pins s σ H x y v u Q I rx ry h
  obtain ⟨l, k, xs, rfl, rfl, hT, hne, h1, h2, hz, q⟩ := h
  cases rx
  obtain ⟨tk, rfl⟩ := ry
  obtain ⟨its, r, ⟨⟨cls, dd, data, sl⟩, ho, hc, n, hd⟩, hs⟩ := I.tuple hT
  simp only at hc hd
  subst hc hd
  have ln : its.length = xs.length := r.length.symm
  have sz : its.toArray.size = xs.length := by rw [List.size_toArray, ln]
  have em : its.toArray.isEmpty = false := by
    cases its with
    | nil => exact absurd (List.eq_nil_of_length_eq_zero ln.symm) hne
    | cons _ _ => rfl
  have big : k.toNat * xs.length ≤ 1000 * 1000 := Nat.mul_le_mul (by omega) hz
  have prod : ((its.toArray.size : Nat) : Int) * k ≤ 1000000 := by
    rw [sz]
    have z : ((xs.length : Nat) : Int) * k ≤ 1000 * k := Int.mul_le_mul_of_nonneg_right (by omega) (by omega)
    omega
  have flat : (List.replicate k.toNat its).flatten.length ≤ sizeLine := by
    rw [PyProof.Rows.lm_len_rep_flat, ln, sizeLine_eq]
    omega
  have d0 : (decide (k < -(2 ^ 63)) || decide (k ≥ 2 ^ 63)) = false := by rw [decide_eq_false (by omega), decide_eq_false (by omega)] <;> rfl
  have d1 : (its.toArray.isEmpty || k == 1) = false := by rw [em, Bool.false_or]; exact beq_eq_false_iff_ne.mpr (by omega)
  have d2 : (decide (k ≤ 0) || its.toArray.isEmpty) = false := by rw [em, Bool.or_false]; exact decide_eq_false (by omega)
  have d4 : Builtin.Tuple.tupleTooMany (((its.toArray.size : Nat) : Int) * k) = false := by
    unfold Builtin.Tuple.tupleTooMany
    rw [sizeLine_eq]
    exact decide_eq_false (by omega)
  have mul := tuple_mulW l its.toArray n dd sl k tk d0 d1 d2 (by omega) d4 (by rw [size_rep, List.size_toArray]; exact flat)
  refine wpAny_binaryOp_repeat_ref (T := "tuple") (U := "int") (by decide) ⟨_, ho, rfl⟩ (fun s2 => typeIs_int s2 k tk) noFill_tuple_mul F.fills_int_mul F.slot_int_rmul repeat_tuple F.slot_int_index.lookup ?_
  refine call_meets F.slot_int_rmul (typeIs_int s k tk) F.entry_int_rmul (F.args_int_rmul_2 _ _) (int_rmul_tuple k tk l its.toArray n dd sl) ⟨ho, rfl, ⟨_, ho, rfl⟩, call_meets F.slot_tuple_mul ⟨_, ho, rfl⟩ F.entry_tuple_mul (F.args_tuple_mul_2 _ _) mul ⟨ho, ?_⟩⟩
  rw [size_rep]
  exact lay_tup I (r.rep k.toNat) (by rw [PyProof.Rows.lm_len_rep_flat, sizeLine_eq]; omega) q
end
end FL

set_option Elab.async false
set_option linter.all false
set_option maxRecDepth 100000
set_option maxHeartbeats 1000000
namespace FL
open PySem PySem.Spec PyProof.Rows
open L2
section
variable {K : PySem.W.Frag} (XR : XRel K) (Wx : WX)
/-- what an answer asks of what follows -/
def Pst {α β : Type} (σ : L2.St) (M : Ms) (H : Hp) (rel : Hp → Ms → α → β → Prop) (r : Res α) (Q : β → Hp → Prop) : Prop := match r with
  | .ok w S' => ∀ M' H' v, Stp M H M' H' → Rl XR.wo K H' M' S' → rel H' M' w v → Q v H'
  | .ex c f S' => ∀ M' H' cls dx, Stp M H M' H' → Rl XR.wo K H' M' S' → XR.D c f cls dx H' M' → Wx cls dx σ H'
  | .no => False
variable {XR Wx}
theorem Pst.stp {α β : Type} {σ : L2.St} {M M1 : Ms} {H H1 : Hp} {rel : Hp → Ms → α → β → Prop} {r : Res α} {Q : β → Hp → Prop} (s : Stp M H M1 H1) (h : Pst XR Wx σ M H rel r Q) : Pst XR Wx σ M1 H1 rel r Q := by
  cases r with
  | ok w S' => exact fun M' H' v t => h M' H' v (s.trans t)
  | ex c f S' => exact fun M' H' cls dx t => h M' H' cls dx (s.trans t)
  | no => exact h
theorem Pst.cut {α β γ δ : Type} {σ : L2.St} {M : Ms} {H : Hp} {rel : Hp → Ms → α → β → Prop} {rel' : Hp → Ms → γ → δ → Prop} {r : Res α} {f : α → So → Res γ} {Q : δ → Hp → Prop} {Q1 : β → Hp → Prop}
    (h : Pst XR Wx σ M H rel' (r.bind f) Q) (g : ∀ a S1 M1 H1 v, r = .ok a S1 → Stp M H M1 H1 → Rl XR.wo K H1 M1 S1 → rel H1 M1 a v → Pst XR Wx σ M1 H1 rel' (f a S1) Q → Q1 v H1) : Pst XR Wx σ M H rel r Q1 := by
  cases r with
  | ok a S1 => exact fun M1 H1 v s l q => g a S1 M1 H1 v rfl s l q (Pst.stp s h)
  | ex c f S' => exact h
  | no => exact h
/-- the same, at once -/
theorem Pst.ok {α β : Type} {σ : L2.St} {M : Ms} {H : Hp} {rel : Hp → Ms → α → β → Prop} {w : α} {S : So} {Q : β → Hp → Prop} {v : β} (h : Pst XR Wx σ M H rel (.ok w S) Q) (l : Rl XR.wo K H M S) (r : rel H M w v) : Q v H := h M H v (.refl _ _) l r
variable (XR Wx)
def rE (f : FE) : TE := fun σ H Q => ∃ M S ev, Rl XR.wo K H M S ∧ Rs XR H M ev σ ∧ Pst XR Wx σ M H (RW XR) (f ev S) Q
def rT (f : FT) : TT := fun σ H Q => ∃ M S ev, Rl XR.wo K H M S ∧ Rs XR H M ev σ ∧ Pst XR Wx σ M H (fun _ _ a b => a = b) (f ev S) Q
def RWs (H : Hp) (M : Ms) (ws : List W) (vs : List V) : Prop := Paired (RW XR H M) ws vs
def rA (f : FA) : TA := fun σ H Q => ∃ M S ev, Rl XR.wo K H M S ∧ Rs XR H M ev σ ∧ Pst XR Wx σ M H (RWs XR) (f ev S) Q
variable {XR Wx}
theorem RWs.stp {H H1 : Hp} {M M1 : Ms} (s : Stp M H M1 H1) {ws : List W} {vs : List V} (h : RWs XR H M ws vs) : RWs XR H1 M1 ws vs := Paired.imp (fun _ _ r => r.stp s) h
end
/-- where a rule stands -/
structure Ct (X : Cx) (Wx : WX) (n : Nat) : Prop where
  cal : X.calm = true
  room : Room n X.A
  gds : X.A.guards = some []
  tk : Takes X Wx
  pp : PassesOwn (model X.prog X.w) X.A X.env X.xe
/-! views -/
@[simp] def asL (w : W) (S : So) : Option (List PyData) := match w with
  | .d (.list xs) => some xs
  | .r n => match S[n]? with
    | some (.l xs) => some xs
    | _ => none
  | _ => none
@[simp] def asT : W → Option (List PyData)
  | .d (.tuple xs) => some xs
  | _ => none
/-- as data -/
def toP (w : W) (S : So) : Option PyData := match w with
  | .d x => some x
  | .r n => match S[n]? with
    | some (.l xs) => some (.list xs)
    | _ => none
  | _ => none
section
variable {K : PySem.W.Frag} {XR : XRel K} {H : Hp} {M : Ms} {S : So}
theorem asL_ok (l : Rl XR.wo K H M S) {w : W} {v : V} {xs : List PyData} (r : RW XR H M w v) (e : asL w S = some xs) : ∃ a vs, v = .ref a ∧ H a = some (.lst vs) ∧ DrL K H M xs vs := by
  cases w with
  | d x =>
    cases x with
    | list ys =>
      have e' : ys = xs := by simpa [asL] using e
      subst e'
      have r' : Dr K H M (.list ys) v := r
      unfold Dr at r'
      obtain ⟨a, vs, e1, q, h⟩ := r'
      exact ⟨a, vs, e1, q.2, h⟩
    | none | bool _ | int _ | str _ | tuple _ | dict _ => cases e
  | r n =>
    obtain ⟨a, e1, e2⟩ := r
    cases e3 : S[n]? with
    | none => simp [asL, e3] at e
    | some o =>
      obtain ⟨u, h1, h2⟩ := l.get e1 e3
      cases o with
      | l ys =>
        have e' : ys = xs := by simpa [asL, e3] using e
        subst e'
        obtain ⟨vs, e4, h3⟩ := h2
        subst e4
        exact ⟨a, vs, e2, h1, h3⟩
      | k _ => simp [asL, e3] at e
      | t _ => simp [asL, e3] at e
      | z => simp [asL, e3] at e
  | k _ => cases e
  | x _ _ => cases e
  | s _ => cases e
  | p _ => cases e
theorem FzT.sq {a : Addr} {xs : List V} (h : FzT K H M a xs) : SqT K H a xs := by
  rcases h with h | h
  · obtain ⟨_, o, _, h3⟩ := h
    exact .inl (.inr ⟨o, h3⟩)
  · obtain ⟨o, its, n, h1, h2, _, h3⟩ := h
    exact .inr ⟨o, its, n, h1, h2, h3⟩
theorem asT_ok {w : W} {v : V} {xs : List PyData} (r : RW XR H M w v) (e : asT w = some xs) : ∃ a vs, v = .ref a ∧ FzT K H M a vs ∧ DrL K H M xs vs := by
  cases w with
  | d x =>
    cases x with
    | tuple ys =>
      have e' : ys = xs := by simpa [asT] using e
      subst e'
      have r' : Dr K H M (.tuple ys) v := r
      unfold Dr at r'
      exact r'
    | none | bool _ | int _ | str _ | list _ | dict _ => cases e
  | r n => cases e
  | k _ => cases e
  | x _ _ => cases e
  | s _ => cases e
  | p _ => cases e
mutual
theorem Dr.dp : ∀ (d : PyData) (v : V), d.plain = true → Dr K H M d v → Dp K H v d
  | .none, v, _, h => by
    unfold Dr at h
    subst h
    exact .non
  | .bool b, v, _, h => by
    unfold Dr at h
    subst h
    exact .bl b
  | .int i, v, _, h => by
    unfold Dr at h
    subst h
    exact .int i
  | .str x, v, _, h => by
    unfold Dr at h
    subst h
    exact .str x
  | .list ds, v, p, h => by
    unfold Dr at h
    obtain ⟨a, xs, e, q, r⟩ := h
    subst e
    exact .lst (SqL.of q.2) (DrL.dp ds xs (by simpa [PyData.plain] using p) r)
  | .tuple ds, v, p, h => by
    unfold Dr at h
    obtain ⟨a, xs, e, q, r⟩ := h
    subst e
    exact .tup q.sq (DrL.dp ds xs (by simpa [PyData.plain] using p) r)
  | .dict kvs, v, p, h => by simp [PyData.plain] at p
theorem DrL.dp : ∀ (ds : List PyData) (xs : List V), PyData.plainAll ds = true → DrL K H M ds xs → DpAll K H xs ds
  | [], xs, _, h => by
    unfold DrL at h
    subst h
    exact .nil
  | d :: ds, xs, p, h => by
    obtain ⟨x, r, e, h1, h2⟩ := h.cases
    subst e
    have p' : d.plain = true ∧ PyData.plainAll ds = true := by simpa [PyData.plainAll] using p
    exact .cons (Dr.dp d x p'.1 h1) (DrL.dp ds r p'.2 h2)
end
theorem toP_ok (l : Rl XR.wo K H M S) {w : W} {v : V} {d : PyData} (r : RW XR H M w v) (e : toP w S = some d) (p : d.plain = true) : Dp K H v d := by
  cases w with
  | d x =>
    have e' : x = d := by simpa [toP] using e
    subst e'
    exact Dr.dp x v p r
  | r n =>
    cases e3 : S[n]? with
    | none => simp [toP, e3] at e
    | some o =>
      cases o with
      | l ys =>
        have e' : PyData.list ys = d := by simpa [toP, e3] using e
        subst e'
        obtain ⟨a, vs, e1, h1, h2⟩ := asL_ok (XR := XR) l (w := .r n) r (xs := ys) (by simp [asL, e3])
        subst e1
        exact .lst (SqL.of h1) (DrL.dp ys vs (by simpa [PyData.plain] using p) h2)
      | k _ => simp [toP, e3] at e
      | t _ => simp [toP, e3] at e
      | z => simp [toP, e3] at e
  | k _ => cases e
  | x _ _ => cases e
  | s _ => cases e
  | p _ => cases e
/-- a new tuple, a new list -/
theorem dr_tup {p : Addr} {o : Obj} {xs : List PyData} {vs : List V} (l : Rl XR.wo K H M S) (n : H p = none) (ho : o.dict = none) (h : DrL K H M xs vs) : RW XR (upd H p (.frz o (.tup vs))) M (.d (.tuple xs)) (.ref p) := by
  show Dr K _ M (.tuple xs) (.ref p)
  unfold Dr
  exact ⟨p, vs, rfl, .inl ⟨l.notin n, o, ho, upd_same⟩, DrL.stp (stp_new n) xs vs h⟩
theorem dr_lst {p : Addr} {xs : List PyData} {vs : List V} (l : Rl XR.wo K H M S) (n : H p = none) (h : DrL K H M xs vs) : RW XR (upd H p (.lst vs)) M (.d (.list xs)) (.ref p) := by
  show Dr K _ M (.list xs) (.ref p)
  unfold Dr
  exact ⟨p, vs, rfl, ⟨l.notin n, upd_same⟩, DrL.stp (stp_new n) xs vs h⟩
end
/-! names, constants -/
section
variable {X : Cx} {XR : XRel X.K} {Wx : WX} {pos : Pos}
abbrev FEx (X : Cx) (XR : XRel X.K) (Wx : WX) (e : Expr) (f : FE) : Prop := PE X e (rE XR Wx f)
abbrev FTx (X : Cx) (XR : XRel X.K) (Wx : WX) (e : Expr) (f : FT) : Prop := PT X e (rT XR Wx f)
abbrev FWx (X : Cx) (XR : XRel X.K) (Wx : WX) (e : Expr) (f : FT) : Prop := PW X e (rT XR Wx f)
abbrev FAx (X : Cx) (XR : XRel X.K) (Wx : WX) (es : List Expr) (f : FA) : Prop := PA X es (rA XR Wx f)
theorem PE.imp {e : Expr} {t t' : TE} (h : PE X e t) (g : ∀ σ H Q, t' σ H Q → t σ H Q) : PE X e t' := ⟨fun pins s σ H Q I q => h.run pins s σ H Q I (g _ _ _ q)⟩
theorem PT.imp {e : Expr} {t t' : TT} (h : PT X e t) (g : ∀ σ H Q, t' σ H Q → t σ H Q) : PT X e t' := ⟨fun pins s σ H Q I q => h.run pins s σ H Q I (g _ _ _ q)⟩
theorem PW.imp {e : Expr} {t t' : TT} (h : PW X e t) (g : ∀ σ H Q, t' σ H Q → t σ H Q) : PW X e t' := ⟨fun wh pins s σ H Q I q => h.run wh pins s σ H Q I (g _ _ _ q)⟩
theorem PA.imp {es : List Expr} {t t' : TA} (h : PA X es t) (g : ∀ σ H Q, t' σ H Q → t σ H Q) : PA X es t' := ⟨fun p pins s σ H Q I q => h.run p pins s σ H Q I (g _ _ _ q)⟩
@[simp] def fV (i : Nat) : FE := fun ev S => match ev[i]? with
  | some (some w) => .ok w S
  | _ => .no
@[simp] def fC (d : PyData) : FE := fun _ S => .ok (.d d) S
theorem fe_v {i : Nat} {x : Str} (hN : X.N[i]? = some x) (hv : Vis X.env.scope x) (hd : (x == ("__debug__" : Str)) = false := by decide) (hcd : (x == ("__classdict__" : Str)) = false := by decide) : FEx X XR Wx (.Name x pos) (fV i) := by
  refine PE.imp (pe_var hN hv hd hcd) ?_
  rintro σ H Q ⟨M, S, ev, l, r, h⟩
  unfold fV at h
  split at h
  · rename_i w e
    obtain ⟨y, e1, q⟩ := Paired.get r e
    obtain ⟨v, e2, q⟩ := q w rfl
    exact ⟨v, by rw [e1, e2], h.ok l q⟩
  · exact h.elim
theorem fe_c {e : Expr} {d : PyData} {v : V} (h : PE X e (tC v)) (q : ∀ H M, Dr X.K H M d v) : FEx X XR Wx e (fC d) := by
  refine PE.imp h ?_
  rintro σ H Q ⟨M, S, ev, l, r, h⟩
  exact h.ok (v := v) l (q H M)
theorem fe_int {i j} : FEx X XR Wx (.Constant (.int i) j pos) (fC (.int i)) := fe_c pe_int fun _ _ => by unfold Dr; rfl
theorem fe_bl {b j} : FEx X XR Wx (.Constant (.bool b) j pos) (fC (.bool b)) := fe_c pe_bl fun _ _ => by unfold Dr; rfl
theorem fe_non {j} : FEx X XR Wx (.Constant .none j pos) (fC .none) := fe_c pe_non fun _ _ => by unfold Dr; rfl
theorem fe_str {x j} : FEx X XR Wx (.Constant (.str x) j pos) (fC (.str x)) := fe_c pe_str fun _ _ => by unfold Dr; rfl
/-- what a name of the module holds -/
def Gd (K : PySem.W.Frag) (mg : Str → Option Value) (x : Str) (d : PyData) : Prop := ∃ u v, mg x = some u ∧ RelV v u ∧ ∀ H M, Dr K H M d v
theorem fe_g {x : Str} {d : PyData} (h : Gd X.K X.mg x d) (hg : Gl X x) (hd : (x == ("__debug__" : Str)) = false := by decide) : FEx X XR Wx (.Name x pos) (fC d) := by
  obtain ⟨u, v, hm, r, q⟩ := h
  exact fe_c (pe_glob hg hm r hd) q
/-! two operands -/
@[simp] def f2 (op : W → W → So → Res W) (fa fb : FE) : FE := fun ev S => (fa ev S).bind fun x S1 => (fb ev S1).bind fun y S2 => op x y S2
@[simp] def f1 (op : W → So → Res W) (fa : FE) : FE := fun ev S => (fa ev S).bind fun x S1 => op x S1
/-- an operation of the machine does what op says -/
def Op2 {K : PySem.W.Frag} (XR : XRel K) (op : W → W → So → Res W) (r : R2) : Prop := ∀ (H : Hp) (M : Ms) (S S' : So) (x y w : W) (vx vy : V) (Q : VK), Rl XR.wo K H M S → RW XR H M x vx → RW XR H M y vy → op x y S = .ok w S' →
  (∀ M' H' v, Stp M H M' H' → Rl XR.wo K H' M' S' → RW XR H' M' w v → Q v H') → r vx vy H Q
def Op1 {K : PySem.W.Frag} (XR : XRel K) (op : W → So → Res W) (r : V → Hp → VK → Prop) : Prop := ∀ (H : Hp) (M : Ms) (S S' : So) (x w : W) (vx : V) (Q : VK), Rl XR.wo K H M S → RW XR H M x vx → op x S = .ok w S' →
  (∀ M' H' v, Stp M H M' H' → Rl XR.wo K H' M' S' → RW XR H' M' w v → Q v H') → r vx H Q
/-- op never raises -/
def NX2 (op : W → W → So → Res W) : Prop := ∀ x y S c f S', op x y S ≠ .ex c f S'
def NX1 (op : W → So → Res W) : Prop := ∀ x S c f S', op x S ≠ .ex c f S'
theorem r2_ok {op : W → W → So → Res W} {r : R2} (ho : Op2 XR op r) (nx : NX2 op) {fa fb : FE} {σ : L2.St} {H : Hp} {Q : VK} (h : rE XR Wx (f2 op fa fb) σ H Q) : tOp r (rE XR Wx fa) (rE XR Wx fb) σ H Q := by
  obtain ⟨M, S, ev, l, rs, h⟩ := h
  refine ⟨M, S, ev, l, rs, Pst.cut h ?_⟩
  intro x S1 M1 H1 vx _ s1 l1 r1 h1
  refine ⟨M1, S1, ev, l1, rs.stp s1, Pst.cut h1 ?_⟩
  intro y S2 M2 H2 vy _ s2 l2 r2 h2
  cases e : op x y S2 with
  | ok w S' =>
    rw [e] at h2
    exact ho H2 M2 S2 S' x y w vx vy Q l2 (r1.stp s2) r2 e h2
  | ex c f S' => exact absurd e (nx _ _ _ _ _ _)
  | no =>
    rw [e] at h2
    exact h2.elim
theorem r1_ok {op : W → So → Res W} {r : V → Hp → VK → Prop} (ho : Op1 XR op r) (nx : NX1 op) {fa : FE} {σ : L2.St} {H : Hp} {Q : VK} (h : rE XR Wx (f1 op fa) σ H Q) : tUn r (rE XR Wx fa) σ H Q := by
  obtain ⟨M, S, ev, l, rs, h⟩ := h
  refine ⟨M, S, ev, l, rs, Pst.cut h ?_⟩
  intro x S1 M1 H1 vx _ s1 l1 r1 h1
  cases e : op x S1 with
  | ok w S' =>
    rw [e] at h1
    exact ho H1 M1 S1 S' x w vx Q l1 r1 e h1
  | ex c f S' => exact absurd e (nx _ _ _ _ _)
  | no =>
    rw [e] at h1
    exact h1.elim
end
end FL

set_option Elab.async false
set_option linter.all false
set_option maxRecDepth 100000
set_option maxHeartbeats 1000000
namespace FL
open PySem PySem.Spec PyProof.Rows
open L2
/-- what may follow an answer -/
abbrev Nxt {K : PySem.W.Frag} (XR : XRel K) (M : Ms) (H : Hp) (w : W) (S' : So) (Q : VK) : Prop := ∀ M' H' v, Stp M H M' H' → Rl XR.wo K H' M' S' → RW XR H' M' w v → Q v H'
section
variable {K : PySem.W.Frag} {XR : XRel K} {H : Hp} {M : Ms} {S : So} {Q : VK}
theorem imm {w : W} {v : V} (l : Rl XR.wo K H M S) (q : Nxt XR M H w S Q) (r : RW XR H M w v) : Q v H := q M H v (.refl _ _) l r
theorem imm_d {d : PyData} {v : V} (l : Rl XR.wo K H M S) (q : Nxt XR M H (.d d) S Q) (r : Dr K H M d v) : Q v H := q M H v (.refl _ _) l r
theorem imm_i {i : Int} (l : Rl XR.wo K H M S) (q : Nxt XR M H (.d (.int i)) S Q) : Q (.int i) H := imm_d l q (by unfold Dr; rfl)
theorem imm_b {b : Bool} (l : Rl XR.wo K H M S) (q : Nxt XR M H (.d (.bool b)) S Q) : Q (.bl b) H := imm_d l q (by unfold Dr; rfl)
theorem imm_s {x : Str} (l : Rl XR.wo K H M S) (q : Nxt XR M H (.d (.str x)) S Q) : Q (.str x) H := imm_d l q (by unfold Dr; rfl)
theorem imm_n (l : Rl XR.wo K H M S) (q : Nxt XR M H (.d .none) S Q) : Q .non H := imm_d l q (by unfold Dr; rfl)
theorem new_t {xs : List PyData} {vs : List V} (l : Rl XR.wo K H M S) (q : Nxt XR M H (.d (.tuple xs)) S Q) (h : DrL K H M xs vs) : NewT H vs Q := fun p o n ho => q M _ _ (stp_new n) (l.new n) (dr_tup l n ho h)
theorem new_l {p : Addr} {xs : List PyData} {vs : List V} (l : Rl XR.wo K H M S) (q : Nxt XR M H (.d (.list xs)) S Q) (n : H p = none) (h : DrL K H M xs vs) : Q (.ref p) (upd H p (.lst vs)) := q M _ _ (stp_new n) (l.new n) (dr_lst l n h)
end
@[simp] def asI : W → Option Int
  | .d (.int i) => some i
  | _ => none
@[simp] def asS : W → Option Str
  | .d (.str i) => some i
  | _ => none
def asB : W → Option Bool
  | .d (.bool i) => some i
  | _ => none
section
variable {K : PySem.W.Frag} {XR : XRel K} {H : Hp} {M : Ms} {S : So}
theorem asI_ok {w : W} {v : V} {i : Int} (r : RW XR H M w v) (e : asI w = some i) : v = .int i := by
  unfold asI at e
  split at e
  · cases e
    have r' : Dr K H M (.int i) v := r
    unfold Dr at r'
    exact r'
  · cases e
theorem asS_ok {w : W} {v : V} {i : Str} (r : RW XR H M w v) (e : asS w = some i) : v = .str i := by
  unfold asS at e
  split at e
  · cases e
    have r' : Dr K H M (.str i) v := r
    unfold Dr at r'
    exact r'
  · cases e
theorem asB_ok {w : W} {v : V} {i : Bool} (r : RW XR H M w v) (e : asB w = some i) : v = .bl i := by
  unfold asB at e
  split at e
  · cases e
    have r' : Dr K H M (.bool i) v := r
    unfold Dr at r'
    exact r'
  · cases e
end
/-! ints -/
@[simp] def oI (C : Int → Int → Bool) (g : Int → Int → PyData) : W → W → So → Res W := fun x y S => match asI x, asI y with
  | some i, some j => if C i j = true then .ok (.d (g i j)) S else .no
  | _, _ => .no
theorem oI_nx {C g} : NX2 (oI C g) := by
  intro x y S c f S' e
  unfold oI at e
  split at e
  · split at e <;> cases e
  · cases e
theorem oI_ok {C : Int → Int → Bool} {g : Int → Int → PyData} {x y w : W} {S S' : So} (e : oI C g x y S = .ok w S') : ∃ i j, asI x = some i ∧ asI y = some j ∧ C i j = true ∧ w = .d (g i j) ∧ S' = S := by
  unfold oI at e
  split at e
  · rename_i i j e1 e2
    split at e
    · rename_i c
      cases e
      exact ⟨i, j, e1, e2, c, rfl, rfl⟩
    · cases e
  · cases e
theorem op2_I {K : PySem.W.Frag} {XR : XRel K} {C : Int → Int → Bool} {C' : Int → Int → Prop} {g : Int → Int → Int} (h : ∀ i j, C i j = true → C' i j) : Op2 XR (oI C fun i j => .int (g i j)) (rI C' fun i j => .int (g i j)) := by
  intro H M S S' x y w vx vy Q l rx ry e q
  obtain ⟨i, j, e1, e2, c, rfl, rfl⟩ := oI_ok e
  exact ⟨i, j, asI_ok rx e1, asI_ok ry e2, h i j c, imm_i l q⟩
theorem op2_I0 {K : PySem.W.Frag} {XR : XRel K} {g : Int → Int → Int} : Op2 XR (oI (fun _ _ => true) fun i j => .int (g i j)) (rI0 fun i j => .int (g i j)) := by
  intro H M S S' x y w vx vy Q l rx ry e q
  obtain ⟨i, j, e1, e2, c, rfl, rfl⟩ := oI_ok e
  exact ⟨i, j, asI_ok rx e1, asI_ok ry e2, imm_i l q⟩
theorem op2_B0 {K : PySem.W.Frag} {XR : XRel K} {g : Int → Int → Bool} : Op2 XR (oI (fun _ _ => true) fun i j => .bool (g i j)) (rI0 fun i j => .bl (g i j)) := by
  intro H M S S' x y w vx vy Q l rx ry e q
  obtain ⟨i, j, e1, e2, c, rfl, rfl⟩ := oI_ok e
  exact ⟨i, j, asI_ok rx e1, asI_ok ry e2, imm_b l q⟩
/-- the first that has an answer -/
@[simp] def oOr (f g : W → W → So → Res W) : W → W → So → Res W := fun x y S => match f x y S with
  | .no => g x y S
  | r => r
theorem oOr_nx {f g} (hf : NX2 f) (hg : NX2 g) : NX2 (oOr f g) := by
  intro x y S c v S' e
  unfold oOr at e
  split at e
  · exact hg _ _ _ _ _ _ e
  · exact hf _ _ _ _ _ _ e
theorem op2_or {K : PySem.W.Frag} {XR : XRel K} {f g : W → W → So → Res W} {r r' : R2} (hf : Op2 XR f r) (hg : Op2 XR g r') : Op2 XR (oOr f g) (fun x y H Q => r x y H Q ∨ r' x y H Q) := by
  intro H M S S' x y w vx vy Q l rx ry e q
  unfold oOr at e
  split at e
  · exact .inr (hg H M S S' x y w vx vy Q l rx ry e q)
  · rename_i e'
    exact .inl (hf H M S S' x y w vx vy Q l rx ry e q)
def oAddS : W → W → So → Res W := fun x y S => match asS x, asS y with
  | some a, some b => if a.length + b.length ≤ sizeLine then .ok (.d (.str (a ++ b))) S else .no
  | _, _ => .no
def oAddL : W → W → So → Res W := fun x y S => match asL x S, asL y S with
  | some a, some b => if a.length + b.length ≤ sizeLine then .ok (.d (.list (a ++ b))) S else .no
  | _, _ => .no
def oAddT : W → W → So → Res W := fun x y S => match asT x, asT y with
  | some a, some b => if a.length + b.length ≤ sizeLine then .ok (.d (.tuple (a ++ b))) S else .no
  | _, _ => .no
theorem nx_S : NX2 oAddS := by
  intro x y S c f S' e
  unfold oAddS at e
  split at e
  · split at e <;> cases e
  · cases e
theorem nx_L : NX2 oAddL := by
  intro x y S c f S' e
  unfold oAddL at e
  split at e
  · split at e <;> cases e
  · cases e
theorem nx_T : NX2 oAddT := by
  intro x y S c f S' e
  unfold oAddT at e
  split at e
  · split at e <;> cases e
  · cases e
section
variable {K : PySem.W.Frag} {XR : XRel K}
theorem op2_addS : Op2 XR oAddS (fun x y H Q => ∃ i j, x = .str i ∧ y = .str j ∧ i.length + j.length ≤ sizeLine ∧ Q (.str (i ++ j)) H) := by
  intro H M S S' x y w vx vy Q l rx ry e q
  unfold oAddS at e
  split at e
  · rename_i a b e1 e2
    split at e
    · rename_i c
      cases e
      exact ⟨a, b, asS_ok rx e1, asS_ok ry e2, c, imm_s l q⟩
    · cases e
  · cases e
theorem op2_addL : Op2 XR oAddL rCat := by
  intro H M S S' x y w vx vy Q l rx ry e q
  unfold oAddL at e
  split at e
  · rename_i a b e1 e2
    split at e
    · rename_i c
      cases e
      obtain ⟨p, xs, h1, h2, h3⟩ := asL_ok l rx e1
      obtain ⟨p', ys, g1, g2, g3⟩ := asL_ok l ry e2
      exact ⟨p, p', xs, ys, h1, g1, h2, g2, by rw [h3.len, g3.len]; exact c, fun z n => new_l l q n (h3.append g3)⟩
    · cases e
  · cases e
theorem op2_addT : Op2 XR oAddT (rCatP K) := by
  intro H M S S' x y w vx vy Q l rx ry e q
  unfold oAddT at e
  split at e
  · rename_i a b e1 e2
    split at e
    · rename_i c
      cases e
      obtain ⟨p, xs, h1, h2, h3⟩ := asT_ok rx e1
      obtain ⟨p', ys, g1, g2, g3⟩ := asT_ok ry e2
      refine ⟨p, p', xs, ys, h1, g1, h2.sq, g2.sq, by rw [h3.len, g3.len]; exact c, fun en => ?_, fun _ en => ?_, fun _ _ => new_t l q (h3.append g3)⟩
      · have z := h3.len
        rw [en] at z
        have a0 : a = [] := List.eq_nil_of_length_eq_zero z.symm
        subst a0
        rw [List.nil_append] at q
        have d2 : Dr K H M (.tuple b) vy := by
          unfold Dr
          exact ⟨p', ys, g1, g2, g3⟩
        rw [g1] at d2
        exact imm_d l q d2
      · have z := g3.len
        rw [en] at z
        have b0 : b = [] := List.eq_nil_of_length_eq_zero z.symm
        subst b0
        rw [List.append_nil] at q
        subst h1
        refine imm_d l q ?_
        unfold Dr
        exact ⟨p, xs, rfl, h2, h3⟩
    · cases e
  · cases e
end
def cMulW (i j : Int) : Bool := decide (i.natAbs.log2 + j.natAbs.log2 + 2 ≤ 900000)
def oAdd : W → W → So → Res W := oOr (oI (fun _ _ => true) fun i j => .int (i + j)) (oOr oAddS (oOr oAddL oAddT))
def oSub : W → W → So → Res W := oI (fun _ _ => true) fun i j => .int (i - j)
def oRepL : W → W → So → Res W := fun x y S => match asL x S, asI y with
  | some a, some k => if -(2 ^ 63) ≤ k ∧ k < 2 ^ 63 ∧ a.length * k.toNat ≤ sizeLine then .ok (.d (.list (List.replicate k.toNat a).flatten)) S else .no
  | _, _ => .no
theorem nx_R : NX2 oRepL := by
  intro x y S c f S' e
  unfold oRepL at e
  split at e
  · split at e <;> cases e
  · cases e
theorem op2_repL {K : PySem.W.Frag} {XR : XRel K} : Op2 XR oRepL rRep := by
  intro H M S S' x y w vx vy Q l rx ry e q
  unfold oRepL at e
  split at e
  · rename_i a k e1 e2
    split at e
    · rename_i c
      cases e
      obtain ⟨p, xs, h1, h2, h3⟩ := asL_ok l rx e1
      exact ⟨p, k, xs, h1, asI_ok ry e2, h2, c.1, c.2.1, by rw [h3.len]; exact c.2.2, fun z n => new_l l q n (h3.rep _)⟩
    · cases e
  · cases e
def oRepT : W → W → So → Res W := fun x y S => match asT x, asI y with
  | some a, some k => if a.isEmpty = false ∧ 2 ≤ k ∧ k ≤ 1000 ∧ a.length ≤ 1000 then .ok (.d (.tuple (List.replicate k.toNat a).flatten)) S else .no
  | _, _ => .no
theorem nx_RT : NX2 oRepT := by
  intro x y S c f S' e
  unfold oRepT at e
  split at e
  · split at e <;> cases e
  · cases e
theorem op2_repT {K : PySem.W.Frag} {XR : XRel K} : Op2 XR oRepT (rRepP K) := by
  intro H M S S' x y w vx vy Q l rx ry e q
  unfold oRepT at e
  split at e
  · rename_i a k e1 e2
    split at e
    · rename_i c
      cases e
      obtain ⟨p, xs, h1, h2, h3⟩ := asT_ok rx e1
      refine ⟨p, k, xs, h1, asI_ok ry e2, h2.sq, ?_, c.2.1, c.2.2.1, by rw [h3.len]; exact c.2.2.2, new_t l q (h3.rep _)⟩
      intro en
      have z := h3.len
      rw [en] at z
      have c1 := c.1
      cases a with
      | nil => simp at c1
      | cons _ _ => simp at z
    · cases e
  · cases e
/-- text * int -/
def cMs (z : Str) (k : Int) : Bool := decide (0 ≤ k ∧ k ≤ 1000 ∧ z.length ≤ 1000)
theorem cMs_ok {z : Str} {k : Int} (h : cMs z k = true) : MulOk z k := by
  unfold cMs at h
  obtain ⟨h1, h2, h3⟩ := of_decide_eq_true h
  refine ⟨?_, fun h4 _ => ?_, fun h4 _ => ?_⟩
  · rw [decide_eq_false (by omega), decide_eq_false (by omega)] <;> rfl
  · have h5 : (1000 : Int) < (2 ^ 63 - 1) / k := by
      have h6 : (2 ^ 63 - 1) / (1000 : Int) ≤ (2 ^ 63 - 1) / k := by
        refine (Int.le_ediv_iff_mul_le (by omega)).mpr ?_
        have h7 : (2 ^ 63 - 1) / (1000 : Int) * k ≤ (2 ^ 63 - 1) / (1000 : Int) * 1000 := Int.mul_le_mul_of_nonneg_left h2 (by decide)
        have h8 : (2 ^ 63 - 1) / (1000 : Int) * 1000 ≤ 2 ^ 63 - 1 := by decide
        omega
      have h9 : (1000 : Int) < (2 ^ 63 - 1) / (1000 : Int) := by decide
      omega
    omega
  · have h5 : z.length * k.toNat ≤ 1000 * 1000 := Nat.mul_le_mul h3 (by omega)
    unfold Builtin.Str.tooLong
    rw [sizeLine_eq]
    exact decide_eq_false (by omega)
def oRepS : W → W → So → Res W := fun x y S => match asS x, asI y with
  | some z, some k => if cMs z k = true then .ok (.d (.str (Txt.mul z k))) S else .no
  | _, _ => .no
theorem nx_RS : NX2 oRepS := by
  intro x y S c f S' e
  unfold oRepS at e
  split at e
  · split at e <;> cases e
  · cases e
def rRepS : R2 := fun x y H Q => ∃ z k, x = .str z ∧ y = .int k ∧ MulOk z k ∧ Q (.str (Txt.mul z k)) H
theorem op_repS {X : Cx} : OpR X (binaryOp .Mult) rRepS := by
  rintro pins s σ H x y v u Q I rx ry ⟨z, k, rfl, rfl, ok, q⟩
  obtain ⟨t, rfl⟩ := rx
  obtain ⟨t2, rfl⟩ := ry
  exact PySem.SB.mul ok fun t' k' => ⟨.str _, H, I.tok k', ⟨t', rfl⟩, q⟩
theorem op2_repS {K : PySem.W.Frag} {XR : XRel K} : Op2 XR oRepS rRepS := by
  intro H M S S' x y w vx vy Q l rx ry e q
  unfold oRepS at e
  split at e
  · rename_i z k e1 e2
    split at e
    · rename_i c
      cases e
      exact ⟨z, k, asS_ok rx e1, asI_ok ry e2, cMs_ok c, imm_s l q⟩
    · cases e
  · cases e
def cSm (i j : Int) : Bool := decide ((-(2 ^ 64) < i ∧ i < 2 ^ 64) ∨ (-(2 ^ 64) < j ∧ j < 2 ^ 64))
def oMul : W → W → So → Res W := oOr (oI cSm fun i j => .int (i * j)) (oOr (oI cMulW fun i j => .int (i * j)) (oOr oRepL (oOr oRepT oRepS)))
@[simp] def cDv (_ j : Int) : Bool := decide (0 < j ∧ j < 1073741824)
@[simp] def oDiv : W → W → So → Res W := oI cDv fun i j => .int (i / j)
@[simp] def cPos (_ j : Int) : Bool := decide (0 < j)
@[simp] def oMod : W → W → So → Res W := oI cPos fun i j => .int (i % j)
def cPw (i j : Int) : Bool := decide (0 ≤ j ∧ j ≤ 1000000 ∧ i.natAbs < 2 ^ 64)
def oPow : W → W → So → Res W := oI cPw fun i j => .int (i ^ j.toNat)
theorem cSm_ok {i j : Int} (h : cSm i j = true) : CMul i j := by
  unfold cSm at h
  unfold CMul
  exact of_decide_eq_true h
theorem cMulW_ok {i j : Int} (h : cMulW i j = true) : CMulW i j := by
  unfold cMulW at h
  unfold CMulW
  have := of_decide_eq_true h
  omega
theorem cDv_ok {i j : Int} (h : cDv i j = true) : CDiv i j := by
  unfold cDv at h
  unfold CDiv
  exact of_decide_eq_true h
theorem cPos_ok {i j : Int} (h : cPos i j = true) : 0 < j := by
  unfold cPos at h
  exact of_decide_eq_true h
theorem cPw_ok {i j : Int} (h : cPw i j = true) : CPow i j := by
  unfold cPw at h
  unfold CPow
  exact of_decide_eq_true h
def oBand : W → W → So → Res W := oI (fun _ _ => true) fun i j => .int (Builtin.bitAnd i j)
section
variable {X : Cx} {XR : XRel X.K} {Wx : WX} {pos : Pos} {a b : Expr} {fa fb : FE} {n : Nat}
theorem fe_2 {o : Operator} {op : W → W → So → Res W} {r : R2} (h : OpR X (binaryOp o) r) (ho : Op2 XR op r) (nx : NX2 op) (ha : FEx X XR Wx a fa) (hb : FEx X XR Wx b fb) : FEx X XR Wx (.BinOp a o b pos) (f2 op fa fb) :=
  PE.imp (pe_op h ha hb) fun _ _ _ => r2_ok ho nx
theorem fe_add (ha : FEx X XR Wx a fa) (hb : FEx X XR Wx b fb) : FEx X XR Wx (.BinOp a .Add b pos) (f2 oAdd fa fb) :=
  fe_2 (op_add.or (op_add_str.or (op_cat.or op_catP))) (op2_or op2_I0 (op2_or op2_addS (op2_or op2_addL op2_addT))) (oOr_nx oI_nx (oOr_nx nx_S (oOr_nx nx_L nx_T))) ha hb
theorem fe_sub (ha : FEx X XR Wx a fa) (hb : FEx X XR Wx b fb) : FEx X XR Wx (.BinOp a .Sub b pos) (f2 oSub fa fb) := fe_2 op_sub op2_I0 oI_nx ha hb
theorem fe_mul (ha : FEx X XR Wx a fa) (hb : FEx X XR Wx b fb) : FEx X XR Wx (.BinOp a .Mult b pos) (f2 oMul fa fb) :=
  fe_2 (op_mul.or (op_mulW.or (op_rep.or (op_repP.or op_repS)))) (op2_or (op2_I fun i j h => cSm_ok h) (op2_or (op2_I fun i j h => cMulW_ok h) (op2_or op2_repL (op2_or op2_repT op2_repS))))
    (oOr_nx oI_nx (oOr_nx oI_nx (oOr_nx nx_R (oOr_nx nx_RT nx_RS)))) ha hb
theorem fe_div (ha : FEx X XR Wx a fa) (hb : FEx X XR Wx b fb) : FEx X XR Wx (.BinOp a .FloorDiv b pos) (f2 oDiv fa fb) := fe_2 op_fdiv (op2_I fun i j h => cDv_ok h) oI_nx ha hb
theorem fe_mod (ha : FEx X XR Wx a fa) (hb : FEx X XR Wx b fb) : FEx X XR Wx (.BinOp a .Mod b pos) (f2 oMod fa fb) := fe_2 op_mod (op2_I fun i j h => cPos_ok h) oI_nx ha hb
theorem fe_pow (ha : FEx X XR Wx a fa) (hb : FEx X XR Wx b fb) : FEx X XR Wx (.BinOp a .Pow b pos) (f2 oPow fa fb) := fe_2 op_pow (op2_I fun i j h => cPw_ok h) oI_nx ha hb
theorem fe_band (ha : FEx X XR Wx a fa) (hb : FEx X XR Wx b fb) : FEx X XR Wx (.BinOp a .BitAnd b pos) (f2 oBand fa fb) := fe_2 op_and op2_I0 oI_nx ha hb
def oNeg : W → So → Res W := fun x S => match asI x with
  | some i => .ok (.d (.int (-i))) S
  | _ => .no
theorem fe_neg (ha : FEx X XR Wx a fa) : FEx X XR Wx (.UnaryOp .USub a pos) (f1 oNeg fa) := by
  refine PE.imp (pe_un un_neg ha) fun _ _ _ => r1_ok ?_ ?_
  · intro H M S S' x w vx Q l rx e q
    unfold oNeg at e
    split at e
    · rename_i i e1
      cases e
      exact ⟨i, asI_ok rx e1, imm_i l q⟩
    · cases e
  · intro x S c f S' e
    unfold oNeg at e
    split at e <;> cases e
end
end FL

set_option Elab.async false
set_option linter.all false
set_option maxRecDepth 100000
set_option maxHeartbeats 1000000
namespace FL
open PySem PySem.Spec PyProof.Rows
open L2
/-! == and in of data -/
section
variable {X : Cx}
def rEqF (neg : Bool) (K : PySem.W.Frag) : R2 := fun x y H Q => ∃ d e, Dp K H x d ∧ Dp K H y e ∧ d.plain = true ∧ e.plain = true ∧ d.depth ≤ 150 ∧ Q (.bl (if neg then !PyData.eqv d e else PyData.eqv d e)) H
theorem op_eqF (hu : X.A.units + 200 < cLine) : OpR X (compareOp .Eq) (rEqF false X.K) := by
  intro pins s σ H x y v u Q I rx ry h
  obtain ⟨d, e, hd, he, sd, se, dp, q⟩ := h
  obtain ⟨as, r1⟩ := Dp.reads I d x v hd rx
  obtain ⟨bs, r2⟩ := Dp.reads I e y u he ry
  exact PySem.SeqAt.eq_plain r1 r2 sd se (by omega) ⟨.bl _, H, I, rfl, q⟩
theorem op_neF (hu : X.A.units + 200 < cLine) : OpR X (compareOp .NotEq) (rEqF true X.K) := by
  intro pins s σ H x y v u Q I rx ry h
  obtain ⟨d, e, hd, he, sd, se, dp, q⟩ := h
  obtain ⟨as, r1⟩ := Dp.reads I d x v hd rx
  obtain ⟨bs, r2⟩ := Dp.reads I e y u he ry
  exact PySem.SeqAt.ne_plain r1 r2 sd se (by omega) ⟨.bl _, H, I, rfl, q⟩
def rInF (neg : Bool) (K : PySem.W.Frag) : R2 := fun x y H Q => ∃ d es, Dp K H x d ∧ (Dp K H y (.list es) ∨ Dp K H y (.tuple es)) ∧ d.plain = true ∧ PyData.plainAll es = true ∧ d.depth ≤ 150 ∧ Q (.bl (if neg then !es.any fun z => PyData.eqv z d else es.any fun z => PyData.eqv z d)) H
theorem op_inF (hu : X.A.units + 200 < cLine) : OpR X (compareOp .In) (rInF false X.K) := by
  intro pins s σ H x y v u Q I rx ry h
  obtain ⟨d, es, hd, he, sd, se, dp, q⟩ := h
  obtain ⟨as, r1⟩ := Dp.reads I d x v hd rx
  have hm : ∀ m : Nat, min m d.depth ≤ 150 := fun m => Nat.le_trans (Nat.min_le_right _ _) dp
  rcases he with he | he
  · obtain ⟨bs, r2⟩ := Dp.reads I _ y u he ry
    exact PySem.SeqAt.in_list_data r2 r1 se sd (by have := hm (PyData.depthAll es); omega) ⟨.bl _, H, I, rfl, q⟩
  · obtain ⟨bs, r2⟩ := Dp.reads I _ y u he ry
    exact PySem.SeqAt.in_tuple_data r2 r1 se sd (by have := hm (PyData.depthAll es); omega) ⟨.bl _, H, I, rfl, q⟩
theorem op_niF (hu : X.A.units + 200 < cLine) : OpR X (compareOp .NotIn) (rInF true X.K) := by
  intro pins s σ H x y v u Q I rx ry h
  obtain ⟨d, es, hd, he, sd, se, dp, q⟩ := h
  obtain ⟨as, r1⟩ := Dp.reads I d x v hd rx
  have hm : ∀ m : Nat, min m d.depth ≤ 150 := fun m => Nat.le_trans (Nat.min_le_right _ _) dp
  rcases he with he | he
  · obtain ⟨bs, r2⟩ := Dp.reads I _ y u he ry
    exact PySem.SeqAt.notIn_list_data r2 r1 se sd (by have := hm (PyData.depthAll es); omega) ⟨.bl _, H, I, rfl, q⟩
  · obtain ⟨bs, r2⟩ := Dp.reads I _ y u he ry
    exact PySem.SeqAt.notIn_tuple_data r2 r1 se sd (by have := hm (PyData.depthAll es); omega) ⟨.bl _, H, I, rfl, q⟩
def rInK (neg : Bool) : R2 := fun x y H Q => ∃ a o, y = .ref a ∧ DGet H a x o ∧ Q (.bl (if neg then !o.isSome else o.isSome)) H
theorem op_inK (hu : X.A.units + 200 < cLine) : OpR X (compareOp .In) (rInK false) := by
  intro pins s σ H x y v u Q I rx ry h
  obtain ⟨a, o, rfl, g, q⟩ := h
  cases (show u = Value.ref a from ry)
  exact d_in (by omega) I g rx fun s' I' => ⟨.bl _, H, I', rfl, q⟩
theorem op_niK (hu : X.A.units + 200 < cLine) : OpR X (compareOp .NotIn) (rInK true) := by
  intro pins s σ H x y v u Q I rx ry h
  obtain ⟨a, o, rfl, g, q⟩ := h
  cases (show u = Value.ref a from ry)
  exact d_notIn (by omega) I g rx fun s' I' => ⟨.bl _, H, I', rfl, q⟩
def rIxK : R2 := fun x y H Q => ∃ a v, x = .ref a ∧ DGet H a y (some v) ∧ Q v H
end
def oEq (neg : Bool) : W → W → So → Res W := fun x y S => match toP x S, toP y S with
  | some d, some e => if d.plain = true ∧ e.plain = true ∧ d.depth ≤ 150 then .ok (.d (.bool (if neg then !PyData.eqv d e else PyData.eqv d e))) S else .no
  | _, _ => .no
theorem nx_Eq {neg} : NX2 (oEq neg) := by
  intro x y S c f S' e
  unfold oEq at e
  split at e
  · split at e <;> cases e
  · cases e
/-- the items of a list or tuple -/
def seqP (w : W) (S : So) : Option (List PyData) := match toP w S with
  | some (.list xs) => some xs
  | some (.tuple xs) => some xs
  | _ => none
def oIn (neg : Bool) : W → W → So → Res W := fun x y S => match toP x S, seqP y S with
  | some d, some es => if d.plain = true ∧ PyData.plainAll es = true ∧ d.depth ≤ 150 then .ok (.d (.bool (if neg then !es.any fun z => PyData.eqv z d else es.any fun z => PyData.eqv z d))) S else .no
  | _, _ => .no
theorem nx_In {neg} : NX2 (oIn neg) := by
  intro x y S c f S' e
  unfold oIn at e
  split at e
  · split at e <;> cases e
  · cases e
def asKey : W → Option Key
  | .d (.int i) => some (.inl i)
  | .d (.str x) => some (.inr x)
  | _ => none
def keyP : Key → PyData
  | .inl i => .int i
  | .inr x => .str x
def valP {κ : Type} [DecidableEq κ] (kvs : List (κ × PyData)) (k : κ) : Option PyData := (kvs.find? fun kv => decide (kv.1 = k)).map (·.2)
abbrev Dic := List (Key × PyData)
def asD (w : W) (S : So) : Option Dic := match w with
  | .k kvs => some kvs
  | .r n => match S[n]? with
    | some (.k kvs) => some kvs
    | _ => none
  | _ => none
/-- what a dict holds -/
def look (dd : Dic) (x : W) : Option (Option PyData) := (asKey x).map fun k => valP dd k
def oInK (neg : Bool) : W → W → So → Res W := fun x y S => match asD y S with
  | some dd => match look dd x with
    | some o => .ok (.d (.bool (if neg then !o.isSome else o.isSome))) S
    | none => .no
  | none => .no
theorem nx_InK {neg} : NX2 (oInK neg) := by
  intro x y S c f S' e
  unfold oInK at e
  split at e
  · split at e <;> cases e
  · cases e
section
variable {K : PySem.W.Frag} {XR : XRel K} {H : Hp} {M : Ms} {S : So}
theorem op2_Eq {neg} : Op2 XR (oEq neg) (rEqF neg K) := by
  intro H M S S' x y w vx vy Q l rx ry e q
  unfold oEq at e
  split at e
  · rename_i d e' e1 e2
    split at e
    · rename_i c
      cases e
      exact ⟨d, e', toP_ok l rx e1 c.1, toP_ok l ry e2 c.2.1, c.1, c.2.1, c.2.2, imm_b l q⟩
    · cases e
  · cases e
theorem op2_In {neg} : Op2 XR (oIn neg) (rInF neg K) := by
  intro H M S S' x y w vx vy Q l rx ry e q
  unfold oIn at e
  split at e
  · rename_i d es e1 e2
    split at e
    · rename_i c
      cases e
      refine ⟨d, es, toP_ok l rx e1 c.1, ?_, c.1, c.2.1, c.2.2, imm_b l q⟩
      unfold seqP at e2
      split at e2
      · rename_i e3
        cases e2
        exact .inl (toP_ok l ry e3 (by simpa [PyData.plain] using c.2.1))
      · rename_i e3
        cases e2
        exact .inr (toP_ok l ry e3 (by simpa [PyData.plain] using c.2.1))
      · cases e2
    · cases e
  · cases e
theorem valKD {κ : Type} [DecidableEq κ] {kvs : List (κ × PyData)} {vs : List (κ × V)} (k : κ) (h : Paired (KD (K := K) H M) kvs vs) :
    (valP kvs k = none ∧ valV vs k = none) ∨ ∃ d v, valP kvs k = some d ∧ valV vs k = some v ∧ Dr K H M d v := by
  induction h with
  | nil => exact .inl ⟨rfl, rfl⟩
  | @cons p q ps qs r t ih =>
    obtain ⟨r1, r2⟩ := r
    by_cases e : p.1 = k
    · refine .inr ⟨p.2, q.2, ?_, valV_pos (r1.symm.trans e), r2⟩
      simp [valP, List.find?_cons, e]
    · have e2 : valP (p :: ps) k = valP ps k := by simp [valP, List.find?_cons, e]
      rw [e2, valV_neg (fun c => e (r1.trans c))]
      exact ih
theorem asKey_ok {w : W} {v : V} {k : Key} (r : RW XR H M w v) (e : asKey w = some k) : v = kV k := by
  unfold asKey at e
  split at e
  · cases e
    have r' : Dr K H M (.int _) v := r
    unfold Dr at r'
    exact r'
  · cases e
    have r' : Dr K H M (.str _) v := r
    unfold Dr at r'
    exact r'
  · cases e
/-- what a dict holds, on the heap -/
theorem asD_at (l : Rl XR.wo K H M S) {w : W} {v : V} {dd : Dic} (r : RW XR H M w v) (e : asD w S = some dd) : ∃ a vs, v = .ref a ∧ Rd H a (.dK vs) ∧ Paired (KD (K := K) H M) dd vs := by
  unfold asD at e
  split at e
  · rename_i kvs
    cases e
    obtain ⟨a, vs, e1, n, ha, hp⟩ := r
    exact ⟨a, vs, e1, .inr ha, hp⟩
  · rename_i n
    obtain ⟨a, e1, e3⟩ := r
    split at e
    · rename_i kvs e4
      cases e
      obtain ⟨u, h1, vs, rfl, hp⟩ := l.get e1 e4
      exact ⟨a, vs, e3, .inl h1, hp⟩
    · cases e
  · cases e
theorem asD_ok (l : Rl XR.wo K H M S) {w x : W} {v vx : V} {dd : Dic} {o : Option PyData} (r : RW XR H M w v) (rx : RW XR H M x vx) (e : asD w S = some dd) (e2 : look dd x = some o) :
    ∃ a, v = .ref a ∧ ((o = none ∧ (DGet H a vx none)) ∨ ∃ d u, o = some d ∧ DGet H a vx (some u) ∧ Dr K H M d u) := by
  obtain ⟨a, vs, e1, ha, hp⟩ := asD_at l r e
  refine ⟨a, e1, ?_⟩
  cases e4 : asKey x with
  | none => simp [look, e4] at e2
  | some k =>
    have e5 : valP dd k = o := by simpa [look, e4] using e2
    have e6 := asKey_ok rx e4
    subst e6
    have g : DGet H a (kV k) (valV vs k) := .inl ⟨vs, k, ha, rfl, rfl⟩
    rcases valKD k hp with ⟨h1, h2⟩ | ⟨d, u, h1, h2, h3⟩
    · rw [h2] at g
      exact .inl ⟨e5.symm.trans h1, g⟩
    · rw [h2] at g
      exact .inr ⟨d, u, e5.symm.trans h1, g, h3⟩
theorem op2_InK {neg} : Op2 XR (oInK neg) (rInK neg) := by
  intro H M S S' x y w vx vy Q l rx ry e q
  unfold oInK at e
  split at e
  · rename_i dd e1
    split at e
    · rename_i o e2
      cases e
      obtain ⟨a, e3, h | ⟨d, u, h1, h2, h3⟩⟩ := asD_ok l ry rx e1 e2
      · obtain ⟨h1, h2⟩ := h
        subst h1
        exact ⟨a, none, e3, h2, by cases neg <;> exact imm_b l q⟩
      · subst h1
        exact ⟨a, some u, e3, h2, by cases neg <;> exact imm_b l q⟩
    · cases e
  · cases e
end
/-! None -/
def oIs (neg : Bool) : W → W → So → Res W := fun x y S => match x, y with
  | .d .none, .d .none => .ok (.d (.bool (!neg))) S
  | .x _ _, .d .none => .ok (.d (.bool neg)) S
  | .r _, .d .none => .ok (.d (.bool neg)) S
  | .k _, .d .none => .ok (.d (.bool neg)) S
  | .d (.tuple _), .d .none => .ok (.d (.bool neg)) S
  | .d (.list _), .d .none => .ok (.d (.bool neg)) S
  | .d (.str _), .d .none => .ok (.d (.bool neg)) S
  | .d (.int _), .d .none => .ok (.d (.bool neg)) S
  | .d (.bool _), .d .none => .ok (.d (.bool neg)) S
  | _, _ => .no
theorem nx_Is {neg} : NX2 (oIs neg) := by
  intro x y S c f S' e
  unfold oIs at e
  split at e <;> cases e
def rIsN (neg : Bool) : R2 := fun x y H Q => y = .non ∧ Q (.bl (if neg then !decide (x = .non) else decide (x = .non))) H
theorem op2_Is {K : PySem.W.Frag} {XR : XRel K} {neg} : Op2 XR (oIs neg) (rIsN neg) := by
  intro H M S S' x y w vx vy Q l rx ry e q
  have yn : y = .d .none → vy = .non := fun e => by
    subst e
    have r' : Dr K H M .none vy := ry
    unfold Dr at r'
    exact r'
  have refs : ∀ {a : Addr}, vx = .ref a → w = .d (.bool neg) → y = .d .none → S' = S → rIsN neg vx vy H Q := by
    intro a e1 e2 e3 e4
    subst e1 e2 e4
    refine ⟨yn e3, ?_⟩
    cases neg <;> exact imm_b l q
  unfold oIs at e
  split at e <;> cases e
  · have r' : Dr K H M .none vx := rx
    unfold Dr at r'
    subst r'
    refine ⟨yn rfl, ?_⟩
    cases neg <;> exact imm_b l q
  · obtain ⟨a, e1, _⟩ := rx
    exact refs e1 rfl rfl rfl
  · obtain ⟨a, _, e1⟩ := rx
    exact refs e1 rfl rfl rfl
  · obtain ⟨a, vs, e1, _⟩ := rx
    exact refs e1 rfl rfl rfl
  · have r' : Dr K H M (.tuple _) vx := rx
    unfold Dr at r'
    obtain ⟨a, xs, e1, _⟩ := r'
    exact refs e1 rfl rfl rfl
  · have r' : Dr K H M (.list _) vx := rx
    unfold Dr at r'
    obtain ⟨a, xs, e1, _⟩ := r'
    exact refs e1 rfl rfl rfl
  · have r' : Dr K H M (.str _) vx := rx
    unfold Dr at r'
    subst r'
    refine ⟨yn rfl, ?_⟩
    cases neg <;> exact imm_b l q
  · have r' : Dr K H M (.int _) vx := rx
    unfold Dr at r'
    subst r'
    refine ⟨yn rfl, ?_⟩
    cases neg <;> exact imm_b l q
  · have r' : Dr K H M (.bool _) vx := rx
    unfold Dr at r'
    subst r'
    refine ⟨yn rfl, ?_⟩
    cases neg <;> exact imm_b l q
/-! texts in order -/
def oSS (g : Str → Str → Bool) : W → W → So → Res W := fun x y S => match asS x, asS y with
  | some a, some b => .ok (.d (.bool (g a b))) S
  | _, _ => .no
theorem nx_SS {g} : NX2 (oSS g) := by
  intro x y S c f S' e
  unfold oSS at e
  split at e <;> cases e
theorem op2_SS {K : PySem.W.Frag} {XR : XRel K} {g : Str → Str → Bool} : Op2 XR (oSS g) (fun x y H Q => ∃ i j, x = .str i ∧ y = .str j ∧ Q (.bl (g i j)) H) := by
  intro H M S S' x y w vx vy Q l rx ry e q
  unfold oSS at e
  split at e
  · rename_i a b e1 e2
    cases e
    exact ⟨a, b, asS_ok rx e1, asS_ok ry e2, imm_b l q⟩
  · cases e
def ltS (i j : Str) : Bool := decide (i.cps.toList < j.cps.toList)
def leS (i j : Str) : Bool := !decide (j.cps.toList < i.cps.toList)
def inS (i j : Str) : Bool := !(Builtin.Str.occurrences j i 0 j.length 1).isEmpty
/-- comparisons, each by its operator -/
def cEq : W → W → So → Res W := oEq false
def cNe : W → W → So → Res W := oEq true
def cLt : W → W → So → Res W := oOr (oI (fun _ _ => true) fun i j => .bool (decide (i < j))) (oSS ltS)
def cLe : W → W → So → Res W := oOr (oI (fun _ _ => true) fun i j => .bool (decide (i ≤ j))) (oSS leS)
def cGt : W → W → So → Res W := oI (fun _ _ => true) fun i j => .bool (decide (j < i))
def cGe : W → W → So → Res W := oI (fun _ _ => true) fun i j => .bool (decide (j ≤ i))
def cIn : W → W → So → Res W := oOr (oIn false) (oOr (oInK false) (oSS inS))
def cNi : W → W → So → Res W := oOr (oIn true) (oOr (oInK true) (oSS fun i j => !inS i j))
def cIs : W → W → So → Res W := oIs false
def cIn' : W → W → So → Res W := oIs true
/-- a comparison of the machine -/
def CmpOk (X : Cx) (XR : XRel X.K) (o : CmpOp) (op : W → W → So → Res W) : Prop := ∃ r, OpR X (compareOp o) r ∧ Op2 XR op r ∧ NX2 op
section
variable {X : Cx} {XR : XRel X.K} {Wx : WX} {n : Nat}
theorem Ct.un (C : Ct X Wx n) : X.A.units + 200 < cLine := by
  have := C.room.un
  omega
theorem k_eq (C : Ct X Wx n) : CmpOk X XR .Eq cEq := ⟨_, op_eqF C.un, op2_Eq, nx_Eq⟩
theorem k_ne (C : Ct X Wx n) : CmpOk X XR .NotEq cNe := ⟨_, op_neF C.un, op2_Eq, nx_Eq⟩
theorem k_lt (C : Ct X Wx n) : CmpOk X XR .Lt cLt := ⟨_, op_lt.or op_lt_str, op2_or op2_B0 (op2_SS (g := ltS)), oOr_nx oI_nx nx_SS⟩
theorem k_le (C : Ct X Wx n) : CmpOk X XR .LtE cLe := ⟨_, op_le.or op_le_str, op2_or op2_B0 (op2_SS (g := leS)), oOr_nx oI_nx nx_SS⟩
theorem k_gt (C : Ct X Wx n) : CmpOk X XR .Gt cGt := ⟨_, op_gt, op2_B0, oI_nx⟩
theorem k_ge (C : Ct X Wx n) : CmpOk X XR .GtE cGe := ⟨_, op_ge, op2_B0, oI_nx⟩
theorem k_in (C : Ct X Wx n) : CmpOk X XR .In cIn := ⟨_, (op_inF C.un).or ((op_inK C.un).or op_in_str), op2_or op2_In (op2_or op2_InK (op2_SS (g := inS))), oOr_nx nx_In (oOr_nx nx_InK nx_SS)⟩
theorem k_ni (C : Ct X Wx n) : CmpOk X XR .NotIn cNi := ⟨_, (op_niF C.un).or ((op_niK C.un).or op_notin_str), op2_or op2_In (op2_or op2_InK (op2_SS (g := fun i j => !inS i j))), oOr_nx nx_In (oOr_nx nx_InK nx_SS)⟩
theorem k_is (C : Ct X Wx n) : CmpOk X XR .Is cIs := ⟨_, op_isN, op2_Is (neg := false), nx_Is⟩
theorem k_isn (C : Ct X Wx n) : CmpOk X XR .IsNot cIn' := ⟨_, op_notN, op2_Is (neg := true), nx_Is⟩
variable {a b c : Expr} {fa fb fc : FE} {pos : Pos}
theorem fe_cmp {o : CmpOp} {op : W → W → So → Res W} (h : CmpOk X XR o op) (ha : FEx X XR Wx a fa) (hb : FEx X XR Wx b fb) (hm : behindInMarks o b = false) : FEx X XR Wx (.Compare a [o] [b] pos) (f2 op fa fb) := by
  obtain ⟨r, h1, h2, h3⟩ := h
  exact PE.imp (pe_cmpR h1 ha hb hm) fun _ _ _ => r2_ok h2 h3
/-- a truth value -/
@[simp] def fB (f : FE) : FT := fun ev S => (f ev S).bind fun w S1 => match asB w with
  | some b => .ok b S1
  | none => .no
theorem fb_ok {f : FE} {σ : L2.St} {H : Hp} {Q : Bool → Hp → Prop} (h : rT XR Wx (fB f) σ H Q) : rE XR Wx f σ H fun x H' => ∃ k, x = .bl k ∧ Q k H' := by
  obtain ⟨M, S, ev, l, rs, h⟩ := h
  refine ⟨M, S, ev, l, rs, Pst.cut h ?_⟩
  intro x S1 M1 H1 vx _ s1 l1 r1 h1
  split at h1
  · rename_i b e
    exact ⟨b, asB_ok r1 e, Pst.ok (v := b) h1 l1 rfl⟩
  · exact h1.elim
theorem ft_cmp {o : CmpOp} {op : W → W → So → Res W} (h : CmpOk X XR o op) (ha : FEx X XR Wx a fa) (hb : FEx X XR Wx b fb) (hm : behindInMarks o b = false) : FTx X XR Wx (.Compare a [o] [b] pos) (fB (f2 op fa fb)) := by
  obtain ⟨r, h1, h2, h3⟩ := h
  exact PT.imp (pt_cmpR h1 ha hb hm) fun _ _ _ q => r2_ok h2 h3 (fb_ok q)
/-- a chain of two -/
def fChain (op op' : W → W → So → Res W) (fa fb fc : FE) : FE := fun ev S => (fa ev S).bind fun x S1 => (fb ev S1).bind fun y S2 => (op x y S2).bind fun z S3 => match asB z with
  | some true => (fc ev S3).bind fun u S4 => op' y u S4
  | some false => .ok (.d (.bool false)) S3
  | none => .no
theorem chain_ok {op op' : W → W → So → Res W} {r r' : R2} (ho : Op2 XR op r) (nx : NX2 op) (ho' : Op2 XR op' r') (nx' : NX2 op') {σ : L2.St} {H : Hp} {Q : VK} (h : rE XR Wx (fChain op op' fa fb fc) σ H Q) : tChain r r' (rE XR Wx fa) (rE XR Wx fb) (rE XR Wx fc) σ H Q := by
  obtain ⟨M, S, ev, l, rs, h⟩ := h
  refine ⟨M, S, ev, l, rs, Pst.cut h ?_⟩
  intro x S1 M1 H1 vx _ s1 l1 r1 h1
  refine ⟨M1, S1, ev, l1, rs.stp s1, Pst.cut h1 ?_⟩
  intro y S2 M2 H2 vy _ s2 l2 r2 h2
  cases e : op x y S2 with
  | ex c f S' => exact absurd e (nx _ _ _ _ _ _)
  | no =>
    rw [e] at h2
    exact h2.elim
  | ok z S3 =>
    rw [e] at h2
    refine ho H2 M2 S2 S3 x y z vx vy _ l2 (r1.stp s2) r2 e ?_
    intro M3 H3 vz s3 l3 r3
    have h3 := Pst.stp s3 h2
    dsimp only [Res.bind] at h3
    split at h3
    · rename_i e5
      refine ⟨true, asB_ok r3 e5, ?_⟩
      rw [if_pos rfl]
      refine ⟨M3, S3, ev, l3, (rs.stp (s1.trans s2)).stp s3, Pst.cut (r := fc ev S3) (f := fun u S4 => op' y u S4) h3 ?_⟩
      intro u S4 M4 H4 vu _ s4 l4 r4 h4
      cases e6 : op' y u S4 with
      | ex c f S' => exact absurd e6 (nx' _ _ _ _ _ _)
      | no =>
        rw [e6] at h4
        exact h4.elim
      | ok w S5 =>
        rw [e6] at h4
        exact ho' H4 M4 S4 S5 y u w vy vu Q l4 ((r2.stp s3).stp s4) r4 e6 h4
    · rename_i e5
      refine ⟨false, asB_ok r3 e5, ?_⟩
      rw [if_neg Bool.false_ne_true]
      exact Pst.ok h3 l3 (show Dr X.K H3 M3 (.bool false) (.bl false) by unfold Dr; rfl)
    · exact h3.elim
theorem fe_chain {o o' : CmpOp} {op op' : W → W → So → Res W} (h : CmpOk X XR o op) (h' : CmpOk X XR o' op') (ha : FEx X XR Wx a fa) (hb : FEx X XR Wx b fb) (hc : FEx X XR Wx c fc) (hm : lastMarks [o, o'] [b, c] = false) : FEx X XR Wx (.Compare a [o, o'] [b, c] pos) (fChain op op' fa fb fc) := by
  obtain ⟨r, h1, h2, h3⟩ := h
  obtain ⟨r', h1', h2', h3'⟩ := h'
  exact PE.imp (pe_chain h1 h1' ha hb hc hm) fun _ _ _ => chain_ok h2 h3 h2' h3'
theorem ft_chain {o o' : CmpOp} {op op' : W → W → So → Res W} (h : CmpOk X XR o op) (h' : CmpOk X XR o' op') (ha : FEx X XR Wx a fa) (hb : FEx X XR Wx b fb) (hc : FEx X XR Wx c fc) (hm : lastMarks [o, o'] [b, c] = false) : FTx X XR Wx (.Compare a [o, o'] [b, c] pos) (fB (fChain op op' fa fb fc)) := by
  obtain ⟨r, h1, h2, h3⟩ := h
  obtain ⟨r', h1', h2', h3'⟩ := h'
  exact PT.imp (pt_chain h1 h1' ha hb hc hm) fun _ _ _ q => chain_ok h2 h3 h2' h3' (fb_ok q)
end
end FL

set_option Elab.async false
set_option linter.all false
set_option maxRecDepth 100000
set_option maxHeartbeats 1000000
namespace FL
open PySem PySem.Spec PyProof.Rows
open L2
/-! truth -/
def tru (w : W) (S : So) : Option Bool := match w with
  | .d .none => some false
  | .d (.bool b) => some b
  | .d (.int i) => some (i != 0)
  | .d (.str z) => if z.length ≤ sizeLine then some ((z.length : Int) != 0) else none
  | .d (.list xs) => some (!xs.isEmpty)
  | .d (.tuple xs) => some (!xs.isEmpty)
  | .r n => match S[n]? with
    | some (.l xs) => some (!xs.isEmpty)
    | some (.k kvs) => some (!kvs.isEmpty)
    | _ => none
  | _ => none
section
variable {K : PySem.W.Frag} {XR : XRel K} {H : Hp} {M : Ms} {S : So}
theorem DrL.emp {ds : List PyData} {xs : List V} (h : DrL K H M ds xs) : (!ds.isEmpty) = !xs.isEmpty := by
  have := h.len
  cases ds <;> cases xs <;> simp at this ⊢
theorem Paired.emp {α β : Type} {F : α → β → Prop} {l : List α} {m : List β} (h : Paired F l m) : (!l.isEmpty) = !m.isEmpty := by
  cases h <;> rfl
theorem tru_is (l : Rl XR.wo K H M S) {w : W} {v : V} {b : Bool} (r : RW XR H M w v) (e : tru w S = some b) : TruV K v H b := by
  have hd : ∀ {d : PyData}, w = .d d → Dr K H M d v := fun e => by
    subst e
    exact r
  unfold tru at e
  split at e
  · cases e
    have z := hd rfl
    unfold Dr at z
    subst z
    exact rfl
  · cases e
    have z := hd rfl
    unfold Dr at z
    subst z
    exact rfl
  · cases e
    have z := hd rfl
    unfold Dr at z
    subst z
    exact rfl
  · split at e
    · cases e
      have z := hd rfl
      unfold Dr at z
      subst z
      exact ⟨by assumption, rfl⟩
    · cases e
  · cases e
    have z := hd rfl
    unfold Dr at z
    obtain ⟨a, xs, e1, q, h⟩ := z
    subst e1
    exact .inl ⟨xs, SqL.of q.2, h.emp⟩
  · cases e
    have z := hd rfl
    unfold Dr at z
    obtain ⟨a, xs, e1, q, h⟩ := z
    subst e1
    exact .inr (.inl ⟨xs, q.sq, h.emp⟩)
  · obtain ⟨a, e1, e2⟩ := r
    subst e2
    split at e
    · rename_i xs e3
      cases e
      obtain ⟨u, h1, vs, rfl, h⟩ := l.get e1 e3
      exact .inl ⟨vs, SqL.of h1, h.emp⟩
    · rename_i kvs e3
      cases e
      obtain ⟨u, h1, vs, rfl, h⟩ := l.get e1 e3
      exact .inr (.inr ⟨vs, h1, Paired.emp h⟩)
    · cases e
  · cases e
end
@[simp] def fTr (f : FE) : FT := fun ev S => (f ev S).bind fun w S1 => match tru w S1 with
  | some b => .ok b S1
  | none => .no
@[simp] def fAndT (t u : FT) : FT := fun ev S => (t ev S).bind fun b S1 => match b with
  | true => u ev S1
  | false => .ok false S1
@[simp] def fOrT (t u : FT) : FT := fun ev S => (t ev S).bind fun b S1 => match b with
  | true => .ok true S1
  | false => u ev S1
@[simp] def fNotT (t : FT) : FT := fun ev S => (t ev S).bind fun b S1 => .ok (!b) S1
def fAnd (fa fb : FE) : FE := fun ev S => (fa ev S).bind fun w S1 => match asB w with
  | some true => fb ev S1
  | some false => .ok (.d (.bool false)) S1
  | none => .no
def fOr (fa fb : FE) : FE := fun ev S => (fa ev S).bind fun w S1 => match asB w with
  | some true => .ok (.d (.bool true)) S1
  | some false => fb ev S1
  | none => .no
def fNot (fa : FE) : FE := fun ev S => (fa ev S).bind fun w S1 => match asB w with
  | some b => .ok (.d (.bool (!b))) S1
  | none => .no
def fIf (t : FT) (fa fb : FE) : FE := fun ev S => (t ev S).bind fun b S1 => match b with
  | true => fa ev S1
  | false => fb ev S1
section
variable {X : Cx} {XR : XRel X.K} {Wx : WX} {n : Nat} {a b c : Expr} {fa fb fc : FE} {t u : FT} {rest : List Expr} {pos : Pos}
theorem ft_tr (ha : FEx X XR Wx a fa) (he : ∀ whole, isTrue a X.env whole = (do let v ← whole; standAt a.pos; holding [v] (truthy v))) : FTx X XR Wx a (fTr fa) := by
  refine PT.imp (pt_truth ha he) ?_
  rintro σ H Q ⟨M, S, ev, l, rs, h⟩
  refine ⟨M, S, ev, l, rs, Pst.cut h ?_⟩
  intro x S1 M1 H1 vx _ s1 l1 r1 h1
  split at h1
  · rename_i b e
    exact ⟨b, tru_is l1 r1 e, Pst.ok (v := b) h1 l1 rfl⟩
  · exact h1.elim
theorem fw_and1 (ha : FTx X XR Wx a t) : FWx X XR Wx (.BoolOp .And [a] pos) t := pw_and1 ha
theorem fw_or1 (ha : FTx X XR Wx a t) : FWx X XR Wx (.BoolOp .Or [a] pos) t := pw_or1 ha
theorem andT_ok {σ : L2.St} {H : Hp} {Q : Bool → Hp → Prop} (h : rT XR Wx (fAndT t u) σ H Q) : tAnd (rT XR Wx t) (rT XR Wx u) σ H Q := by
  obtain ⟨M, S, ev, l, rs, h⟩ := h
  refine ⟨M, S, ev, l, rs, Pst.cut h ?_⟩
  rintro x S1 M1 H1 b _ s1 l1 r1 h1
  subst r1
  cases x with
  | true => exact ⟨M1, S1, ev, l1, rs.stp s1, h1⟩
  | false => exact Pst.ok (v := false) h1 l1 rfl
theorem orT_ok {σ : L2.St} {H : Hp} {Q : Bool → Hp → Prop} (h : rT XR Wx (fOrT t u) σ H Q) : tOr (rT XR Wx t) (rT XR Wx u) σ H Q := by
  obtain ⟨M, S, ev, l, rs, h⟩ := h
  refine ⟨M, S, ev, l, rs, Pst.cut h ?_⟩
  rintro x S1 M1 H1 b _ s1 l1 r1 h1
  subst r1
  cases x with
  | true => exact Pst.ok (v := true) h1 l1 rfl
  | false => exact ⟨M1, S1, ev, l1, rs.stp s1, h1⟩
theorem fw_and (ha : FTx X XR Wx a t) (hb : FWx X XR Wx (.BoolOp .And (b :: rest) pos) u) : FWx X XR Wx (.BoolOp .And (a :: b :: rest) pos) (fAndT t u) := PW.imp (pw_and ha hb) fun _ _ _ => andT_ok
theorem fw_or (ha : FTx X XR Wx a t) (hb : FWx X XR Wx (.BoolOp .Or (b :: rest) pos) u) : FWx X XR Wx (.BoolOp .Or (a :: b :: rest) pos) (fOrT t u) := PW.imp (pw_or ha hb) fun _ _ _ => orT_ok
theorem ft_w {e : Expr} (h : FWx X XR Wx e t) : FTx X XR Wx e t := PW.pt h
theorem ft_not (ha : FTx X XR Wx a t) : FTx X XR Wx (.UnaryOp .Not a pos) (fNotT t) := by
  refine PT.imp (pt_not ha) ?_
  rintro σ H Q ⟨M, S, ev, l, rs, h⟩
  refine ⟨M, S, ev, l, rs, Pst.cut h ?_⟩
  rintro x S1 M1 H1 b _ s1 l1 r1 h1
  subst r1
  exact Pst.ok (v := !x) h1 l1 rfl
theorem fe_one {op} (ha : FEx X XR Wx a fa) : FEx X XR Wx (.BoolOp op [a] pos) fa := pe_one ha
theorem dr_b {H : Hp} {M : Ms} {k : Bool} : RW XR H M (.d (.bool k)) (.bl k) := by
  show Dr X.K H M (.bool k) (.bl k)
  unfold Dr
  rfl
theorem fe_and (ha : FEx X XR Wx a fa) (hb : FEx X XR Wx (.BoolOp .And (b :: rest) pos) fb) : FEx X XR Wx (.BoolOp .And (a :: b :: rest) pos) (fAnd fa fb) := by
  refine PE.imp (pe_and ha hb) ?_
  rintro σ H Q ⟨M, S, ev, l, rs, h⟩
  refine ⟨M, S, ev, l, rs, Pst.cut h ?_⟩
  intro x S1 M1 H1 vx _ s1 l1 r1 h1
  split at h1
  · rename_i e
    refine ⟨true, asB_ok r1 e, ?_⟩
    rw [if_pos rfl]
    exact ⟨M1, S1, ev, l1, rs.stp s1, h1⟩
  · rename_i e
    refine ⟨false, asB_ok r1 e, ?_⟩
    rw [if_neg Bool.false_ne_true]
    exact Pst.ok h1 l1 dr_b
  · exact h1.elim
theorem fe_or (ha : FEx X XR Wx a fa) (hb : FEx X XR Wx (.BoolOp .Or (b :: rest) pos) fb) : FEx X XR Wx (.BoolOp .Or (a :: b :: rest) pos) (fOr fa fb) := by
  refine PE.imp (pe_or ha hb) ?_
  rintro σ H Q ⟨M, S, ev, l, rs, h⟩
  refine ⟨M, S, ev, l, rs, Pst.cut h ?_⟩
  intro x S1 M1 H1 vx _ s1 l1 r1 h1
  split at h1
  · rename_i e
    refine ⟨true, asB_ok r1 e, ?_⟩
    rw [if_pos rfl]
    exact Pst.ok h1 l1 dr_b
  · rename_i e
    refine ⟨false, asB_ok r1 e, ?_⟩
    rw [if_neg Bool.false_ne_true]
    exact ⟨M1, S1, ev, l1, rs.stp s1, h1⟩
  · exact h1.elim
theorem fe_not (ha : FEx X XR Wx a fa) : FEx X XR Wx (.UnaryOp .Not a pos) (fNot fa) := by
  refine PE.imp (pe_not ha) ?_
  rintro σ H Q ⟨M, S, ev, l, rs, h⟩
  refine ⟨M, S, ev, l, rs, Pst.cut h ?_⟩
  intro x S1 M1 H1 vx _ s1 l1 r1 h1
  split at h1
  · rename_i k e
    exact ⟨k, asB_ok r1 e, Pst.ok h1 l1 dr_b⟩
  · exact h1.elim
theorem fe_if (hc : FTx X XR Wx c t) (ha : FEx X XR Wx a fa) (hb : FEx X XR Wx b fb) : FEx X XR Wx (.IfExp c a b pos) (fIf t fa fb) := by
  refine PE.imp (pe_ifExp hc ha hb) ?_
  rintro σ H Q ⟨M, S, ev, l, rs, h⟩
  refine ⟨M, S, ev, l, rs, Pst.cut h ?_⟩
  rintro x S1 M1 H1 k _ s1 l1 r1 h1
  subst r1
  cases x with
  | true => exact ⟨M1, S1, ev, l1, rs.stp s1, h1⟩
  | false => exact ⟨M1, S1, ev, l1, rs.stp s1, h1⟩
end
/-! argument lists, displays -/
@[simp] def fNil : FA := fun _ S => .ok [] S
@[simp] def fCons (fa : FE) (fr : FA) : FA := fun ev S => (fa ev S).bind fun x S1 => (fr ev S1).bind fun xs S2 => .ok (x :: xs) S2
def seqW (w : W) (S : So) : Option (List PyData) := match asL w S with
  | some xs => some xs
  | none => asT w
def fStar (fa : FE) (fr : FA) : FA := fun ev S => (fa ev S).bind fun x S1 => match seqW x S1 with
  | some ds => (fr ev S1).bind fun xs S2 => .ok (ds.map W.d ++ xs) S2
  | none => .no
def allD : List W → Option (List PyData)
  | [] => some []
  | .d x :: r => (allD r).map (x :: ·)
  | _ :: _ => none
def allP : List W → Option (List Pm)
  | [] => some []
  | .d x :: r => (allP r).map (.d x :: ·)
  | .x c f :: r => (allP r).map (.x c f :: ·)
  | .r k :: r => (allP r).map (.r k :: ·)
  | _ :: _ => none
def fTup (fa : FA) : FE := fun ev S => (fa ev S).bind fun ws S1 => match allD ws with
  | some ds => if ds.length ≤ sizeLine then .ok (.d (.tuple ds)) S1 else .no
  | none => match allP ws with
    | some xs => if xs.length ≤ sizeLine then .ok (.p xs) S1 else .no
    | none => .no
def fLst (fa : FA) : FE := fun ev S => (fa ev S).bind fun ws S1 => match allD ws with
  | some ds => if ds.length ≤ sizeLine then .ok (.d (.list ds)) S1 else .no
  | none => .no
/-- a list that may change -/
def fMut (fa : FA) : FE := fun ev S => (fa ev S).bind fun ws S1 => match allD ws with
  | some ds => if ds.length ≤ sizeLine then .ok (.r S1.length) (S1 ++ [.l ds]) else .no
  | none => .no
section
variable {X : Cx} {XR : XRel X.K} {Wx : WX} {n : Nat} {e : Expr} {es : List Expr} {fe : FE} {fr : FA} {pos p : Pos} {H : Hp} {M : Ms} {S : So}
theorem allD_ok : ∀ {ws : List W} {vs : List V} {ds : List PyData}, RWs XR H M ws vs → allD ws = some ds → DrL X.K H M ds vs
  | [], _, ds, .nil, e => by
    have e' : ds = [] := by simpa [allD] using e.symm
    subst e'
    exact .nil
  | .d x :: r, _, ds, .cons h t, e => by
    cases e2 : allD r with
    | none => simp [allD, e2] at e
    | some es =>
      have e' : x :: es = ds := by simpa [allD, e2] using e
      subst e'
      exact .cons h (allD_ok t e2)
  | .r _ :: _, _, _, _, e => by simp [allD] at e
  | .k _ :: _, _, _, _, e => by simp [allD] at e
  | .x _ _ :: _, _, _, _, e => by simp [allD] at e
  | .s _ :: _, _, _, _, e => by simp [allD] at e
  | .p _ :: _, _, _, _, e => by simp [allD] at e
theorem allP_ok : ∀ {ws : List W} {vs : List V} {xs : List Pm}, RWs XR H M ws vs → allP ws = some xs → Paired (PmR XR H M) xs vs
  | [], _, xs, .nil, e => by
    cases e
    exact .nil
  | .d x :: r, _, xs, .cons h t, e => by
    cases e2 : allP r with
    | none => simp [allP, e2] at e
    | some es =>
      have e' : Pm.d x :: es = xs := by simpa [allP, e2] using e
      subst e'
      exact .cons h (allP_ok t e2)
  | .x c f :: r, _, xs, .cons h t, e => by
    cases e2 : allP r with
    | none => simp [allP, e2] at e
    | some es =>
      have e' : Pm.x c f :: es = xs := by simpa [allP, e2] using e
      subst e'
      exact .cons h (allP_ok t e2)
  | .r k :: r, _, xs, .cons h t, e => by
    cases e2 : allP r with
    | none => simp [allP, e2] at e
    | some es =>
      have e' : Pm.r k :: es = xs := by simpa [allP, e2] using e
      subst e'
      exact .cons h (allP_ok t e2)
  | .k _ :: _, _, _, _, e => by simp [allP] at e
  | .s _ :: _, _, _, _, e => by simp [allP] at e
  | .p _ :: _, _, _, _, e => by simp [allP] at e
theorem rws_of : ∀ {ds : List PyData} {vs : List V}, DrL X.K H M ds vs → RWs XR H M (ds.map W.d) vs
  | [], vs, h => by
    unfold DrL at h
    subst h
    exact .nil
  | d :: ds, vs, h => by
    obtain ⟨x, r, e1, h1, h2⟩ := h.cases
    subst e1
    exact .cons h1 (rws_of h2)
theorem Paired.app {α β : Type} {F : α → β → Prop} : ∀ {l l' : List α} {m m' : List β}, Paired F l m → Paired F l' m' → Paired F (l ++ l') (m ++ m')
  | _, _, _, _, .nil, t => t
  | _, _, _, _, .cons r h, t => .cons r (Paired.app h t)
theorem seqW_ok (l : Rl XR.wo X.K H M S) {w : W} {v : V} {ds : List PyData} (r : RW XR H M w v) (e : seqW w S = some ds) : ∃ a vs, v = .ref a ∧ (SqT X.K H a vs ∨ SqL X.K H a vs) ∧ DrL X.K H M ds vs := by
  unfold seqW at e
  split at e
  · rename_i xs e1
    cases e
    obtain ⟨a, vs, h1, h2, h3⟩ := asL_ok l r e1
    exact ⟨a, vs, h1, .inr (SqL.of h2), h3⟩
  · obtain ⟨a, vs, h1, h2, h3⟩ := asT_ok r e
    exact ⟨a, vs, h1, .inl h2.sq, h3⟩
theorem fa_nil : FAx X XR Wx [] fNil := by
  refine PA.imp pa_nil ?_
  rintro σ H Q ⟨M, S, ev, l, rs, h⟩
  exact Pst.ok h l .nil
theorem fa_cons (ha : FEx X XR Wx e fe) (hr : FAx X XR Wx es fr) (hs : starEach (e :: es) X.env = (false, eval e X.env) :: starEach es X.env := by rfl) : FAx X XR Wx (e :: es) (fCons fe fr) := by
  refine PA.imp (pa_cons ha hr hs) ?_
  rintro σ H Q ⟨M, S, ev, l, rs, h⟩
  refine ⟨M, S, ev, l, rs, Pst.cut h ?_⟩
  intro x S1 M1 H1 vx _ s1 l1 r1 h1
  refine ⟨M1, S1, ev, l1, rs.stp s1, Pst.cut h1 ?_⟩
  intro xs S2 M2 H2 vxs _ s2 l2 r2 h2
  exact Pst.ok h2 l2 (.cons (r1.stp s2) r2)
theorem fa_star (ha : FEx X XR Wx e fe) (hr : FAx X XR Wx es fr) (hs : starEach (.Starred e p :: es) X.env = (true, eval e X.env) :: starEach es X.env := by rfl) : FAx X XR Wx (.Starred e p :: es) (fStar fe fr) := by
  refine PA.imp (StX.pa_star ha hr hs) ?_
  rintro σ H Q ⟨M, S, ev, l, rs, h⟩
  refine ⟨M, S, ev, l, rs, Pst.cut h ?_⟩
  intro x S1 M1 H1 vx _ s1 l1 r1 h1
  split at h1
  · rename_i ds e1
    obtain ⟨a, vs, e2, q, hd⟩ := seqW_ok l1 r1 e1
    refine ⟨a, vs, e2, q, ⟨M1, S1, ev, l1, rs.stp s1, Pst.cut h1 ?_⟩⟩
    intro xs S2 M2 H2 vxs _ s2 l2 r2 h2
    exact Pst.ok h2 l2 (Paired.app (rws_of (DrL.stp s2 _ _ hd)) r2)
  · exact h1.elim
theorem fe_tup {x1} (ha : FAx X XR Wx es fr) : FEx X XR Wx (.Tuple es x1 pos) (fTup fr) := by
  refine PE.imp (pe_tupP ha) ?_
  rintro σ H Q ⟨M, S, ev, l, rs, h⟩
  refine ⟨M, S, ev, l, rs, Pst.cut h ?_⟩
  intro ws S1 M1 H1 vs _ s1 l1 r1 h1
  split at h1
  · rename_i ds e1
    split at h1
    · rename_i c
      have hd := allD_ok r1 e1
      exact ⟨by rw [hd.len]; exact c, fun p o np ho => h1 M1 _ _ (stp_new np) (l1.new np) (dr_tup l1 np ho hd)⟩
    · exact h1.elim
  · split at h1
    · rename_i xs e2
      split at h1
      · rename_i c
        have hp := allP_ok r1 e2
        exact ⟨by rw [← Paired.length hp]; exact c, fun p o np ho => h1 M1 _ _ (stp_new np) (l1.new np) ⟨p, vs, rfl, l1.notin np, ⟨o, ho, upd_same⟩, Paired.imp (fun _ _ z => PmR.stp (stp_new np) z) hp⟩⟩
      · exact h1.elim
    · exact h1.elim
theorem fe_lst (ha : FAx X XR Wx es fr) : FEx X XR Wx (.List es pos) (fLst fr) := by
  refine PE.imp (pe_lst ha) ?_
  rintro σ H Q ⟨M, S, ev, l, rs, h⟩
  refine ⟨M, S, ev, l, rs, Pst.cut h ?_⟩
  intro ws S1 M1 H1 vs _ s1 l1 r1 h1
  split at h1
  · rename_i ds e1
    split at h1
    · rename_i c
      have hd := allD_ok r1 e1
      exact ⟨by rw [hd.len]; exact c, fun p np => h1 M1 _ _ (stp_new np) (l1.new np) (dr_lst l1 np hd)⟩
    · exact h1.elim
  · exact h1.elim
theorem Rl.len {S : So} (l : Rl XR.wo X.K H M S) : M.m.length = S.length := Paired.length l.ob
/-- a new list that may change -/
theorem new_m {p : Addr} {xs : List PyData} {vs : List V} {Q : VK} (l : Rl XR.wo X.K H M S) (q : Nxt XR M H (.r S.length) (S ++ [.l xs]) Q) (n : H p = none) (h : DrL X.K H M xs vs) : Q (.ref p) (upd H p (.lst vs)) := by
  refine q (M.add p) _ _ (stp_mut n) (l.mut n ⟨vs, rfl, DrL.stp (stp_mut n) xs vs h⟩) ⟨p, ?_, rfl⟩
  rw [← l.len]
  show (M.m ++ [p])[M.m.length]? = some p
  simp
theorem fe_mut (ha : FAx X XR Wx es fr) : FEx X XR Wx (.List es pos) (fMut fr) := by
  refine PE.imp (pe_lst ha) ?_
  rintro σ H Q ⟨M, S, ev, l, rs, h⟩
  refine ⟨M, S, ev, l, rs, Pst.cut h ?_⟩
  intro ws S1 M1 H1 vs _ s1 l1 r1 h1
  split at h1
  · rename_i ds e1
    split at h1
    · rename_i c
      have hd := allD_ok r1 e1
      exact ⟨by rw [hd.len]; exact c, fun p np => new_m l1 h1 np hd⟩
    · exact h1.elim
  · exact h1.elim
end
end FL

set_option Elab.async false
set_option linter.all false
set_option maxRecDepth 100000
set_option maxHeartbeats 1000000
namespace FL
open PySem PySem.Spec PyProof.Rows
open L2
/-! statements -/
section
variable {K : PySem.W.Frag} (XR : XRel K) (Wx : WX)
def PstS (M : Ms) (H : Hp) (r : Out) (D : Ends) : Prop := match r with
  | .nx e S => ∀ M' H' σ', Stp M H M' H' → Rl XR.wo K H' M' S → Rs XR H' M' e σ' → D.nx σ' H'
  | .rt w S => ∀ M' H' v, Stp M H M' H' → Rl XR.wo K H' M' S → RW XR H' M' w v → D.rt v H'
  | .bk e S => ∀ M' H' σ', Stp M H M' H' → Rl XR.wo K H' M' S → Rs XR H' M' e σ' → D.bk σ' H'
  | .ct e S => ∀ M' H' σ', Stp M H M' H' → Rl XR.wo K H' M' S → Rs XR H' M' e σ' → D.ct σ' H'
  | .ex c f e S => ∀ M' H' σ' cls dx, Stp M H M' H' → Rl XR.wo K H' M' S → Rs XR H' M' e σ' → XR.D c f cls dx H' M' → Wx cls dx σ' H'
  | .no => False
def rS (f : FS) : TS := fun D σ H => ∃ M S ev, Rl XR.wo K H M S ∧ Rs XR H M ev σ ∧ PstS XR Wx M H (f ev S) D
variable {XR Wx}
theorem PstS.stp {M M1 : Ms} {H H1 : Hp} {r : Out} {D : Ends} (s : Stp M H M1 H1) (h : PstS XR Wx M H r D) : PstS XR Wx M1 H1 r D := by
  cases r with
  | nx e S => exact fun M' H' σ' t => h M' H' σ' (s.trans t)
  | rt w S => exact fun M' H' v t => h M' H' v (s.trans t)
  | bk e S => exact fun M' H' σ' t => h M' H' σ' (s.trans t)
  | ct e S => exact fun M' H' σ' t => h M' H' σ' (s.trans t)
  | ex c f e S => exact fun M' H' σ' cls dx t => h M' H' σ' cls dx (s.trans t)
  | no => exact h
end
@[simp] def Res.toOut (r : Res W) (ev : Ev) (k : W → So → Out) : Out := match r with
  | .ok w S => k w S
  | .ex c f S => .ex c f ev S
  | .no => .no
@[simp] def Res.toOutB (r : Res Bool) (ev : Ev) (k : Bool → So → Out) : Out := match r with
  | .ok w S => k w S
  | .ex c f S => .ex c f ev S
  | .no => .no
@[simp] def Out.then (r : Out) (k : Ev → So → Out) : Out := match r with
  | .nx e S => k e S
  | r => r
@[simp] def fSeq (f g : FS) : FS := fun ev S => (f ev S).then g
@[simp] def fNext : FS := fun ev S => .nx ev S
@[simp] def fSet (i : Nat) (f : FE) : FS := fun ev S => (f ev S).toOut ev fun w S1 => .nx (ev.set i (some w)) S1
@[simp] def fDrop (f : FE) : FS := fun ev S => (f ev S).toOut ev fun _ S1 => .nx ev S1
@[simp] def fRet (f : FE) : FS := fun ev S => (f ev S).toOut ev fun w S1 => .rt w S1
@[simp] def fIfS (t : FT) (f g : FS) : FS := fun ev S => (t ev S).toOutB ev fun b S1 => match b with
  | true => f ev S1
  | false => g ev S1
def fBreak : FS := fun ev S => .bk ev S
def fCont : FS := fun ev S => .ct ev S
section
variable {X : Cx} {XR : XRel X.K} {Wx : WX} {n : Nat} {st : Stmt} {rest : List Stmt} {f g : FS} {fa : FE} {t : FT} {e : Expr} {pos : Pos}
abbrev FSx (X : Cx) (XR : XRel X.K) (Wx : WX) (st : Stmt) (f : FS) : Prop := PS X st (rS XR Wx f)
abbrev FSs (X : Cx) (XR : XRel X.K) (Wx : WX) (st : List Stmt) (f : FS) : Prop := PSs X st (rS XR Wx f)
theorem PS.imp {st : Stmt} {t t' : TS} (h : PS X st t) (g : ∀ D σ H, t' D σ H → t D σ H) : PS X st t' := ⟨fun pins s σ H D I q => h.run pins s σ H D I (g _ _ _ q)⟩
theorem PSs.imp {st : List Stmt} {t t' : TS} (h : PSs X st t) (g : ∀ D σ H, t' D σ H → t D σ H) : PSs X st t' := ⟨fun pins s σ H D I q => h.run pins s σ H D I (g _ _ _ q)⟩
theorem seq_ok {D : Ends} {σ : L2.St} {H : Hp} (h : rS XR Wx (fSeq f g) D σ H) : tSeq (rS XR Wx f) (rS XR Wx g) D σ H := by
  obtain ⟨M, S, ev, l, rs, h⟩ := h
  refine ⟨M, S, ev, l, rs, ?_⟩
  unfold fSeq at h
  cases e : f ev S with
  | nx e1 S1 =>
    rw [e] at h
    intro M' H' σ' s l' r'
    exact ⟨M', S1, e1, l', r', PstS.stp s h⟩
  | rt w S1 => rw [e] at h; exact h
  | bk e1 S1 => rw [e] at h; exact h
  | ct e1 S1 => rw [e] at h; exact h
  | ex c d e1 S1 => rw [e] at h; exact h
  | no => rw [e] at h; exact h
theorem fss_nil : FSs X XR Wx [] fNext := by
  refine PSs.imp pss_nil ?_
  rintro D σ H ⟨M, S, ev, l, rs, h⟩
  exact h M H σ (.refl _ _) l rs
theorem fss_cons (h1 : FSx X XR Wx st f) (h2 : FSs X XR Wx rest g) : FSs X XR Wx (st :: rest) (fSeq f g) := PSs.imp (pss_cons h1 h2) fun _ _ _ => seq_ok
theorem fss_one (h1 : FSx X XR Wx st f) : FSs X XR Wx [st] f := pss_one h1
/-- an expression, then what follows -/
theorem toOut_ok {k : W → So → Out} {D : Ends} {M : Ms} {S : So} {ev : Ev} {σ : L2.St} {H : Hp} {Q : VK} (l : Rl XR.wo X.K H M S) (rs : Rs XR H M ev σ) (h : PstS XR Wx M H ((fa ev S).toOut ev k) D)
    (g : ∀ w S1 M1 H1 v, Stp M H M1 H1 → Rl XR.wo X.K H1 M1 S1 → Rs XR H1 M1 ev σ → RW XR H1 M1 w v → PstS XR Wx M1 H1 (k w S1) D → Q v H1) : rE XR Wx fa σ H Q := by
  refine ⟨M, S, ev, l, rs, ?_⟩
  cases e : fa ev S with
  | ok w S1 =>
    rw [e] at h
    exact fun M1 H1 v s l1 r1 => g w S1 M1 H1 v s l1 (rs.stp s) r1 (PstS.stp s h)
  | ex c f S1 =>
    rw [e] at h
    exact fun M1 H1 cls dx s l1 d1 => h M1 H1 σ cls dx s l1 (rs.stp s) d1
  | no => rw [e] at h; exact h
theorem toOutB_ok {k : Bool → So → Out} {D : Ends} {M : Ms} {S : So} {ev : Ev} {σ : L2.St} {H : Hp} {Q : Bool → Hp → Prop} (l : Rl XR.wo X.K H M S) (rs : Rs XR H M ev σ) (h : PstS XR Wx M H ((t ev S).toOutB ev k) D)
    (g : ∀ w S1 M1 H1, Stp M H M1 H1 → Rl XR.wo X.K H1 M1 S1 → Rs XR H1 M1 ev σ → PstS XR Wx M1 H1 (k w S1) D → Q w H1) : rT XR Wx t σ H Q := by
  refine ⟨M, S, ev, l, rs, ?_⟩
  cases e : t ev S with
  | ok w S1 =>
    rw [e] at h
    rintro M1 H1 v s l1 r1
    have r1' : w = v := r1
    subst r1'
    exact g w S1 M1 H1 s l1 (rs.stp s) (PstS.stp s h)
  | ex c f S1 =>
    rw [e] at h
    exact fun M1 H1 cls dx s l1 d1 => h M1 H1 σ cls dx s l1 (rs.stp s) d1
  | no => rw [e] at h; exact h
theorem Rs.set {M : Ms} {H : Hp} {ev : Ev} {σ : L2.St} {i : Nat} {w : W} {v : V} (rs : Rs XR H M ev σ) (r : RW XR H M w v) : Rs XR H M (ev.set i (some w)) (σ.set i (some v)) :=
  Paired.setB (fun _ e => by cases e; exact ⟨v, rfl, r⟩) i rs
theorem fs_set {i : Nat} {x : Str} {pos' : Pos} (hN : X.N.Nodup) (hi : X.N[i]? = some x) (hx : Loc X.env.scope x) (he : FEx X XR Wx e fa) (hs : swapsWith e (some (.Name x pos')) pos.line X.env = pure false := by rfl)
    (hf : X.fn x = true ∨ X.env.scope.names.lookup x = some .local := by first | exact .inl rfl | exact .inr rfl | assumption) : FSx X XR Wx (.Assign [.Name x pos'] e pos) (fSet i fa) := by
  refine PS.imp (ps_set hN hi hx he hs hf) ?_
  rintro D σ H ⟨M, S, ev, l, rs, h⟩
  refine toOut_ok l rs h ?_
  intro w S1 M1 H1 v s1 l1 rs1 r1 h1
  exact h1 M1 H1 _ (.refl _ _) l1 (rs1.set r1)
theorem fs_expr (he : FEx X XR Wx e fa) (hs : swapsWith e none pos.line X.env = pure false := by rfl) : FSx X XR Wx (.Expr e pos) (fDrop fa) := by
  refine PS.imp (ps_expr he hs) ?_
  rintro D σ H ⟨M, S, ev, l, rs, h⟩
  refine toOut_ok l rs h ?_
  intro w S1 M1 H1 v s1 l1 rs1 r1 h1
  exact h1 M1 H1 _ (.refl _ _) l1 rs1
theorem fs_ret (he : FEx X XR Wx e fa) : FSx X XR Wx (.Return (some e) pos) (fRet fa) := by
  refine PS.imp (ps_ret he) ?_
  rintro D σ H ⟨M, S, ev, l, rs, h⟩
  refine toOut_ok l rs h ?_
  intro w S1 M1 H1 v s1 l1 rs1 r1 h1
  exact h1 M1 H1 _ (.refl _ _) l1 r1
theorem fs_if {c : Expr} {a b : List Stmt} (hc : FTx X XR Wx c t) (ha : FSs X XR Wx a f) (hb : FSs X XR Wx b g) : FSx X XR Wx (.If c a b pos) (fIfS t f g) := by
  refine PS.imp (ps_if hc ha hb) ?_
  rintro D σ H ⟨M, S, ev, l, rs, h⟩
  refine toOutB_ok l rs h ?_
  intro w S1 M1 H1 s1 l1 rs1 h1
  cases w with
  | true => exact ⟨M1, S1, ev, l1, rs1, h1⟩
  | false => exact ⟨M1, S1, ev, l1, rs1, h1⟩
theorem fs_doc {x : Str} {j : Nat} {pos' : Pos} : FSx X XR Wx (.Expr (.Constant (.str x) j pos) pos') fNext := by
  refine PS.imp ps_doc ?_
  rintro D σ H ⟨M, S, ev, l, rs, h⟩
  exact h M H σ (.refl _ _) l rs
theorem fs_pass : FSx X XR Wx (.Pass pos) fNext := by
  refine PS.imp ps_pass ?_
  rintro D σ H ⟨M, S, ev, l, rs, h⟩
  exact h M H σ (.refl _ _) l rs
theorem fs_break : FSx X XR Wx (.Break pos) fBreak := by
  refine PS.imp ps_break ?_
  rintro D σ H ⟨M, S, ev, l, rs, h⟩
  exact h M H σ (.refl _ _) l rs
theorem fs_cont : FSx X XR Wx (.Continue pos) fCont := by
  refine PS.imp ps_continue ?_
  rintro D σ H ⟨M, S, ev, l, rs, h⟩
  exact h M H σ (.refl _ _) l rs
/-- name += e, ints -/
def fAug (i : Nat) (op : Int → Int → Int) (fa : FE) : FS := fun ev S => match ev[i]? with
  | some (some x) => (fa ev S).toOut ev fun y S1 => match asI x, asI y with
    | some a, some b => .nx (ev.set i (some (.d (.int (op a b))))) S1
    | _, _ => .no
  | _ => .no
theorem fs_aug {i : Nat} {x : Str} {o : Operator} {op : Int → Int → Int} {pos' : Pos} (ho : PIp X o (ipI op)) (hN : X.N.Nodup) (hi : X.N[i]? = some x) (hx : Loc X.env.scope x) (he : FEx X XR Wx e fa)
    (hf : X.fn x = true ∨ X.env.scope.names.lookup x = some .local := by first | exact .inl rfl | exact .inr rfl | assumption) : FSx X XR Wx (.AugAssign (.Name x pos') o e pos) (fAug i op fa) := by
  refine PS.imp (ps_aug hN hi hx he ho hf) ?_
  rintro D σ H ⟨M, S, ev, l, rs, h⟩
  unfold fAug at h
  split at h
  · rename_i w e1
    obtain ⟨y, e2, q⟩ := Paired.get rs e1
    obtain ⟨v, e3, q⟩ := q w rfl
    refine ⟨v, by rw [e2, e3], toOut_ok l rs h ?_⟩
    intro w1 S1 M1 H1 v1 s1 l1 rs1 r1 h1
    split at h1
    · rename_i a b e4 e5
      refine ⟨a, b, asI_ok q e4, asI_ok r1 e5, ?_⟩
      exact h1 M1 H1 _ (.refl _ _) l1 (rs1.set (by show Dr X.K H1 M1 (.int _) _; unfold Dr; rfl))
    · exact h1.elim
  · exact h.elim
/-! while -/
def whl (t : FT) (b : FS) : Nat → Ev → So → Out
  | 0, _, _ => .no
  | m + 1, ev, S => (t ev S).toOutB ev fun c S1 => match c with
    | false => .nx ev S1
    | true => match b ev S1 with
      | .nx e2 S2 => whl t b m e2 S2
      | .ct e2 S2 => whl t b m e2 S2
      | .bk e2 S2 => .nx e2 S2
      | r => r
def fWhile (t : FT) (b : FS) : FS := whl t b 100000
theorem fs_while {c : Expr} {body : List Stmt} (C : Ct X Wx n) (hc : FTx X XR Wx c t) (hb : FSs X XR Wx body f) : FSx X XR Wx (.While c body [] pos) (fWhile t f) := by
  refine PS.imp (ps_while C.pp hc hb) ?_
  rintro D σ H ⟨M, S, ev, l, rs, h⟩
  refine ⟨fun m σ H => ∃ M S ev, Rl XR.wo X.K H M S ∧ Rs XR H M ev σ ∧ PstS XR Wx M H (whl t f m ev S) D, ⟨100000, M, S, ev, l, rs, h⟩, ?_⟩
  rintro m σ H ⟨M, S, ev, l, rs, h⟩
  cases m with
  | zero => exact h.elim
  | succ m =>
    refine toOutB_ok l rs h ?_
    intro w S1 M1 H1 s1 l1 rs1 h1
    cases w with
    | false =>
      rw [if_neg Bool.false_ne_true]
      exact h1 M1 H1 _ (.refl _ _) l1 rs1
    | true =>
      rw [if_pos rfl]
      refine ⟨fun σ' H' => ∃ M S ev, Rl XR.wo X.K H' M S ∧ Rs XR H' M ev σ' ∧ PstS XR Wx M H' (whl t f m ev S) D, fun σ' H' q => ⟨m, Nat.lt_succ_self _, q⟩, M1, S1, ev, l1, rs1, ?_⟩
      dsimp only at h1
      cases e : f ev S1 with
      | nx e2 S2 =>
        rw [e] at h1
        exact fun M2 H2 σ2 s2 l2 rs2 => ⟨M2, S2, e2, l2, rs2, PstS.stp s2 h1⟩
      | ct e2 S2 =>
        rw [e] at h1
        exact fun M2 H2 σ2 s2 l2 rs2 => ⟨M2, S2, e2, l2, rs2, PstS.stp s2 h1⟩
      | bk e2 S2 => rw [e] at h1; exact h1
      | rt w S2 => rw [e] at h1; exact h1
      | ex c d e2 S2 => rw [e] at h1; exact h1
      | no => rw [e] at h1; exact h1
/-! targets -/
theorem wipe_set {i : Nat} {x : Option V} : ∀ {vs : List Nat} {σ : L2.St}, wipe (σ.set i x) vs = if i ∈ vs then wipe σ vs else (wipe σ vs).set i x
  | [], σ => by
    rw [if_neg (by simp)]
    rfl
  | v :: vs, σ => by
    unfold wipe
    rw [wipe_set (vs := vs)]
    by_cases h : i ∈ vs
    · rw [if_pos h, if_pos (List.mem_cons_of_mem _ h)]
    · rw [if_neg h]
      by_cases e : i = v
      · subst e
        rw [if_pos List.mem_cons_self, List.set_set]
      · rw [if_neg (by simp [e, h]), List.set_comm _ _ e]
abbrev FG := W → Ev → Option Ev
def Wp (sl : List Nat) (σ σ' : L2.St) : Prop := ∀ vs : List Nat, (∀ i, i ∈ sl → i ∈ vs) → wipe σ' vs = wipe σ vs
def rG (XR : XRel X.K) (sl : List Nat) (g : FG) : TG := fun v σ H Q => ∃ M S ev w, Rl XR.wo X.K H M S ∧ Rs XR H M ev σ ∧ RW XR H M w v ∧ ∃ e', g w ev = some e' ∧ ∀ σ', Rs XR H M e' σ' → Wp sl σ σ' → Q σ' H
abbrev FGx (X : Cx) (XR : XRel X.K) (tg : Expr) (sl : List Nat) (g : FG) : Prop := PG X tg (rG XR sl g)
theorem PG.imp {tg : Expr} {t t' : TG} (h : PG X tg t) (g : ∀ v σ H Q, t' v σ H Q → t v σ H Q) : PG X tg t' := ⟨fun pins s σ H v u Q I r q => h.run pins s σ H v u Q I r (g _ _ _ _ q)⟩
@[simp] def gNm (i : Nat) : FG := fun w ev => some (ev.set i (some w))
theorem fg_nm {i : Nat} {x : Str} (hN : X.N.Nodup) (hi : X.N[i]? = some x) (hx : Loc X.env.scope x) (hf : X.fn x = true ∨ X.env.scope.names.lookup x = some .local := by first | exact .inl rfl | exact .inr rfl | assumption) : FGx X XR (.Name x pos) [i] (gNm i) := by
  refine PG.imp (pg_name hN hi hx hf) ?_
  rintro v σ H Q ⟨M, S, ev, w, l, rs, r, e', e1, q⟩
  cases e1
  refine q _ (rs.set r) fun vs h => ?_
  rw [wipe_set, if_pos (h i (by simp))]
/-- several names, one after another -/
def rGs (XR : XRel X.K) (sl : List Nat) (g : List W → Ev → Option Ev) : TGs := fun vs σ H Q => ∃ M S ev ds, Rl XR.wo X.K H M S ∧ Rs XR H M ev σ ∧ RWs XR H M ds vs ∧ ∃ e', g ds ev = some e' ∧ ∀ σ', Rs XR H M e' σ' → Wp sl σ σ' → Q σ' H
def gNo : List W → Ev → Option Ev := fun ds ev => match ds with
  | [] => some ev
  | _ => none
def gCs (g : FG) (h : List W → Ev → Option Ev) : List W → Ev → Option Ev := fun ds ev => match ds with
  | d :: r => (g d ev).bind fun ev' => h r ev'
  | [] => none
abbrev FGsx (X : Cx) (XR : XRel X.K) (ts : List Expr) (sl : List Nat) (g : List W → Ev → Option Ev) : Prop := PGs X ts (rGs XR sl g)
theorem PGs.imp {ts : List Expr} {t t' : TGs} (h : PGs X ts t) (g : ∀ v σ H Q, t' v σ H Q → t v σ H Q) : PGs X ts t' := ⟨fun pins s σ H v u Q I r q => h.run pins s σ H v u Q I r (g _ _ _ _ q)⟩
theorem fgs_nil : FGsx X XR [] [] gNo := by
  refine PGs.imp pgs_nil ?_
  rintro vs σ H Q ⟨M, S, ev, ds, l, rs, r, e', e1, q⟩
  cases ds with
  | nil =>
    cases r
    cases e1
    exact ⟨rfl, q _ rs fun _ _ => rfl⟩
  | cons _ _ => cases e1
theorem fgs_cons {tg : Expr} {ts : List Expr} {sl sl' : List Nat} {g : FG} {h : List W → Ev → Option Ev} (h1 : FGx X XR tg sl g) (h2 : FGsx X XR ts sl' h)
    (hs : (assignEach (tg :: ts) X.env).map (·.2) = assign tg X.env :: (assignEach ts X.env).map (·.2) := by rfl) : FGsx X XR (tg :: ts) (sl ++ sl') (gCs g h) := by
  refine PGs.imp (pgs_cons h1 h2 hs) ?_
  rintro vs σ H Q ⟨M, S, ev, ds, l, rs, r, e', e1, q⟩
  cases ds with
  | nil => cases e1
  | cons d ds =>
    cases r with
    | @cons _ x _ xs h3 h4 =>
    unfold gCs at e1
    cases e3 : g d ev with
    | none => simp [e3] at e1
    | some ev1 =>
      have e4 : h ds ev1 = some e' := by simpa [e3] using e1
      refine ⟨x, xs, rfl, M, S, ev, d, l, rs, h3, ev1, e3, fun σ1 rs1 w1 => ⟨M, S, ev1, ds, l, rs1, h4, e', e4, fun σ2 rs2 w2 => q σ2 rs2 fun vs hv => ?_⟩⟩
      exact (w2 vs fun i hi => hv i (List.mem_append_right _ hi)).trans (w1 vs fun i hi => hv i (List.mem_append_left _ hi))
def pmW : Pm → W
  | .d y => W.d y
  | .x c f => W.x c f
  | .r k => W.r k
def gTp (n : Nat) (h : List W → Ev → Option Ev) : FG := fun w ev => match asT w with
  | some ds => if ds.length = n then h (ds.map W.d) ev else none
  | none => match w with
    | .d (.list ds) => if ds.length = n then h (ds.map W.d) ev else none
    | .p xs => if xs.length = n then h (xs.map pmW) ev else none
    | _ => none
theorem pms_ok {H : Hp} {M : Ms} : ∀ {xs : List Pm} {vs : List V}, Paired (PmR XR H M) xs vs → RWs XR H M (xs.map pmW) vs
  | _, _, .nil => .nil
  | .d x :: _, _, .cons r t => .cons r (pms_ok t)
  | .x c f :: _, _, .cons r t => .cons r (pms_ok t)
  | .r k :: _, _, .cons r t => .cons r (pms_ok t)
theorem pg_or {tg : Expr} {t t' : TG} (h : PG X tg t) (h' : PG X tg t') : PG X tg (fun v σ H Q => t v σ H Q ∨ t' v σ H Q) := ⟨fun pins s σ H v u Q I r q => q.elim (h.run pins s σ H v u Q I r) (h'.run pins s σ H v u Q I r)⟩
theorem fg_tup {es : List Expr} {k : Nat} {sl : List Nat} {h : List W → Ev → Option Ev} {m : Nat} (hc : X.calm = true) (hg : FGsx X XR es sl h) (hn : (assignEach es X.env).length = m := by rfl) (hst : (assignEach es X.env).findIdx? (·.1) = none := by rfl) :
    FGx X XR (.Tuple es k pos) sl (gTp m h) := by
  refine PG.imp (pg_or (pg_tup hc hg hn hst) (pg_lst hc hg hn hst)) ?_
  rintro v σ H Q ⟨M, S, ev, w, l, rs, r, e', e1, q⟩
  unfold gTp at e1
  split at e1
  · rename_i ds e2
    split at e1
    · rename_i e3
      obtain ⟨a, vs, e4, h1, h2⟩ := asT_ok r e2
      exact .inl ⟨a, vs, e4, h1.sq, by rw [h2.len]; exact e3, M, S, ev, ds.map W.d, l, rs, rws_of h2, e', e1, q⟩
    · cases e1
  · cases w with
    | d x =>
      cases x with
      | list ds =>
        dsimp only at e1
        split at e1
        · rename_i e3
          obtain ⟨a, vs, e4, h1, h2⟩ := asL_ok (S := S) l r (xs := ds) rfl
          exact .inr ⟨a, vs, e4, SqL.of h1, by rw [h2.len]; exact e3, M, S, ev, ds.map W.d, l, rs, rws_of h2, e', e1, q⟩
        · cases e1
      | none | bool _ | int _ | str _ | tuple _ | dict _ => cases e1
    | r _ => cases e1
    | k _ => cases e1
    | x _ _ => cases e1
    | s _ => cases e1
    | p xs =>
      dsimp only at e1
      split at e1
      · rename_i e3
        obtain ⟨a, vs, e4, n, ⟨o, ho, h1⟩, h2⟩ := r
        exact .inl ⟨a, vs, e4, .inl (.inr ⟨o, h1⟩), by rw [← Paired.length h2]; exact e3, M, S, ev, xs.map pmW, l, rs, pms_ok h2, e', e1, q⟩
      · cases e1
/-- target = e -/
def fAsg (g : FG) (fa : FE) : FS := fun ev S => (fa ev S).toOut ev fun w S1 => match g w ev with
  | some e' => .nx e' S1
  | none => .no
theorem fs_asg {tg : Expr} {sl : List Nat} {g : FG} (he : FEx X XR Wx e fa) (hg : FGx X XR tg sl g) (hs : swapsWithSole [tg] e pos.line X.env = pure false := by rfl) (hw : swappedStores [tg] e X.env = pure none := by rfl)
    (h1 : (assignEach [tg] X.env).map (·.2) = [assign tg X.env] := by rfl) : FSx X XR Wx (.Assign [tg] e pos) (fAsg g fa) := by
  refine PS.imp (ps_asg he hg hs hw h1) ?_
  rintro D σ H ⟨M, S, ev, l, rs, h⟩
  refine toOut_ok l rs h ?_
  intro w S1 M1 H1 v s1 l1 rs1 r1 h1
  split at h1
  · rename_i e' e1
    exact ⟨M1, S1, ev, w, l1, rs1, r1, e', e1, fun σ' rs' _ => h1 M1 H1 σ' (.refl _ _) l1 rs'⟩
  · exact h1.elim
/-- a, b = x, y -/
def fPar (i j : Nat) (fa : FA) : FS := fun ev S => match fa ev S with
  | .ok [x, y] S1 => .nx ((ev.set i (some x)).set j (some y)) S1
  | .ex c d S1 => .ex c d ev S1
  | _ => .no
theorem fs_par {i j : Nat} {x y : Str} {a b : Expr} {fr : FA} {px py pt : Pos} {kt k2 pt2} (hc : X.calm = true) (hN : X.N.Nodup) (hi : X.N[i]? = some x) (hj : X.N[j]? = some y) (hij : i ≠ j)
    (hx : X.env.scope.names.lookup x = some .local) (hy : X.env.scope.names.lookup y = some .local) (ha : FAx X XR Wx [a, b] fr)
    (hw : swappedStores [.Tuple [.Name x px, .Name y py] kt pt] (.Tuple [a, b] k2 pt2) X.env = pure (some [x, y]))
    (hs : swapsWithSole [.Tuple [.Name x px, .Name y py] kt pt] (.Tuple [a, b] k2 pt2) pos.line X.env = pure false := by rfl) :
    FSx X XR Wx (.Assign [.Tuple [.Name x px, .Name y py] kt pt] (.Tuple [a, b] k2 pt2) pos) (fPar i j fr) := by
  refine PS.imp (ps_par hc hN hi hj hij hx hy ha hw hs) ?_
  rintro D σ H ⟨M, S, ev, l, rs, h⟩
  refine ⟨M, S, ev, l, rs, ?_⟩
  unfold fPar at h
  split at h
  · rename_i u w S1 e1
    rw [e1]
    intro M1 H1 vs s1 l1 r1
    cases r1 with
    | cons q1 r2 =>
      cases r2 with
      | cons q2 r3 =>
        cases r3
        exact ⟨_, _, rfl, h M1 H1 _ s1 l1 (((rs.stp s1).set q1).set q2)⟩
  · rename_i c d S1 e1
    rw [e1]
    exact fun M1 H1 cls dx s l1 d1 => h M1 H1 σ cls dx s l1 (rs.stp s) d1
  · exact h.elim
end
end FL

set_option Elab.async false
set_option linter.all false
set_option maxRecDepth 100000
set_option maxHeartbeats 1000000
namespace FL
open PySem PySem.Spec PyProof.Rows
open L2
/-! a def -/
/-- what a def hands back: what it made goes, but its answer -/
def frzP (n : Nat) (S : So) : Pm → Option Pm
  | .d x => some (.d x)
  | .x c f => some (.x c f)
  | .r k => if k < n then some (.r k) else match S[k]? with
    | some (.l xs) => some (.d (.list xs))
    | _ => none
def frzPs (n : Nat) (S : So) : List Pm → Option (List Pm)
  | [] => some []
  | x :: r => (frzP n S x).bind fun y => (frzPs n S r).map (y :: ·)
def allPd : List Pm → Option (List PyData)
  | [] => some []
  | .d x :: r => (allPd r).map (x :: ·)
  | _ :: _ => none
def mkP (xs : List Pm) : W := match allPd xs with
  | some ds => .d (.tuple ds)
  | none => .p xs
@[simp] def frz (n : Nat) (w : W) (S : So) : Option W := match w with
  | .r k => if k < n then some (.r k) else match S[k]? with
    | some (.l xs) => some (.d (.list xs))
    | some (.k kvs) => some (.k kvs)
    | _ => none
  | .p xs => (frzPs n S xs).map mkP
  | w => some w
@[simp] def fin (n : Nat) (w : W) (S : So) : Res W := match frz n w S with
  | some w' => .ok w' (S.take n)
  | none => .no
@[simp] def fDef (k : Nat) (b : FS) : List W → So → Res W := fun ws S => match b (ws.map some ++ List.replicate (k - ws.length) none) S with
  | .rt w S' => fin S.length w S'
  | .nx _ S' => fin S.length (.d .none) S'
  | .ex c f _ S' => .ex c f (S'.take S.length)
  | _ => .no
section
variable {K : PySem.W.Frag} {XR : XRel K}
def spF (XR : XRel K) (g : List W → So → Res W) : Sp := fun vs H Q E => ∃ M S ws, Rl XR.wo K H M S ∧ RWs XR H M ws vs ∧ Pst XR (fun c d _ H' => E c d H') [] M H (RW XR) (g ws S) Q
structure FnF (P : Program) (w : World) (mg : Str → Option Value) (base : Heap) (XR : XRel K) (n : Nat) (f : Addr) (fd : FuncData) (ps : List Str) (g : List W → So → Res W) : Prop where
  run : ∀ (A : Around) (outer : List Env) (s : Shared) (H : Hp) (args : Args) (us : List Value) (vs : List V) (Q : VK) (E : XK), A.guards = some [] → Room n A → Env0 P w K mg base A outer s H → BindsTo s fd args (ps.zip us) → Vals vs us → us.length = ps.length →
    spF XR g vs H Q E → codeAny (model P w) A (.call (.ref f) args) (CR (L2.CX P w) outer P w H s Q E) s
theorem FnF.mono {P : Program} {w : World} {mg : Str → Option Value} {base : Heap} {n m : Nat} {f : Addr} {fd : FuncData} {ps : List Str} {g : List W → So → Res W} (F : FnF P w mg base XR n f fd ps g) (h : n ≤ m) : FnF P w mg base XR m f fd ps g :=
  ⟨fun A outer s H args us vs Q E hg hr => F.run A outer s H args us vs Q E hg (hr.mono h)⟩
structure FunF (K : PySem.W.Frag) (x : Str) (st : Stmt) (f : Addr) (fd : FuncData) : Prop where
  ex : ∃ (oc : Value) (od : Option Addr) (dV kV doc pm : Value) (an : Option Addr) (cdv ct : Value) (osl : Array (Option Value)),
    fd = PySem.W.fnOf x x (defArgs st) (defBody st) (defScope st) dV kV doc pm an cdv ct ∧ K.lookup f = some ⟨oc, od, .func fd, osl⟩ ∧ PySem.W.codeIn K cdv x = true
  kp : PySem.W.keepIn K (.ref f) = true
theorem Stp.back {M M1 : Ms} {H H1 : Hp} (s : Stp M H M1 H1) : Stp M H ⟨M.m, M1.x⟩ H1 :=
  ⟨List.prefix_refl _, s.sub, s.keep, fun a h n => absurd h n, fun a h n n2 => s.newx a h n n2, s.kz⟩
theorem les_back {M M1 : Ms} {H H1 : Hp} (s : Stp M H M1 H1) : ∀ b, b ∈ (⟨M.m, M1.x⟩ : Ms) → b ∈ M1 := fun b h => by
  rcases h with h | h
  · exact Or.inl (s.pre.subset h)
  · exact Or.inr h
theorem Paired.takeN {α β : Type} {F : α → β → Prop} : ∀ {l : List α} {m : List β} (n : Nat), Paired F l m → Paired F (l.take n) (m.take n)
  | _, _, 0, _ => by
    rw [List.take_zero, List.take_zero]
    exact .nil
  | _, _, _ + 1, .nil => .nil
  | _, _, n + 1, .cons r t => .cons r (Paired.takeN n t)
theorem Rl.back {M M1 : Ms} {H H1 : Hp} {S S1 : So} (l : Rl XR.wo K H M S) (s : Stp M H M1 H1) (l1 : Rl XR.wo K H1 M1 S1) : Rl XR.wo K H1 ⟨M.m, M1.x⟩ (S1.take S.length) := by
  have hm : M1.m.take S.length = M.m := by
    have e : M.m.length = S.length := Paired.length l.ob
    rw [← e]
    exact List.prefix_iff_eq_take.mp s.pre ▸ rfl
  refine ⟨l.nd, ?_, fun a h => ⟨fun z => (l1.ex a h).1 (s.pre.subset z), (l1.ex a h).2⟩⟩
  have q := Paired.takeN S.length l1.ob
  rw [hm] at q
  exact Paired.imp (fun a o ⟨u, e, r⟩ => ⟨u, e, r.les (les_back s)⟩) q
theorem Rl.backlk {M M1 : Ms} {H H1 : Hp} {S S1 : So} {a : Addr} {us : List (Key × V)} {od : Obj} (l : Rl XR.wo K H M S) (s : Stp M H M1 H1) (l1 : Rl XR.wo K H1 M1 S1) (h1 : H1 a = some (.dK us)) (ma : a ∈ M1.m) (na : a ∉ M.m) :
    Rl XR.wo K (upd H1 a (.frz od (.dK us))) ⟨M.m, M1.x⟩ (S1.take S.length) := by
  have b := l.back s l1
  have hm : M1.m.take S.length = M.m := by
    have e : M.m.length = S.length := Paired.length l.ob
    rw [← e]
    exact List.prefix_iff_eq_take.mp s.pre ▸ rfl
  have q := Paired.takeN S.length l1.ob
  rw [hm] at q
  exact ⟨b.nd, Paired.mapI q fun j c o e ⟨u, e1, r⟩ => ⟨u, by rw [upd_ne (fun (z : c = a) => na (by rw [← z]; exact List.mem_iff_getElem?.mpr ⟨j, e⟩))]; exact e1, (r.lk h1 (Or.inl ma)).les (les_back s)⟩, fun c m => ⟨(b.ex c m).1, upd_some (b.ex c m).2⟩⟩
theorem frz_ok {M M1 : Ms} {H H1 : Hp} {S S1 : So} {w w' : W} {v : V} (l : Rl XR.wo K H M S) (s : Stp M H M1 H1) (l1 : Rl XR.wo K H1 M1 S1) (r : RW XR H1 M1 w v) (e : frz S.length w S1 = some w') (nk : ¬ ∃ k kvs, w = .r k ∧ ¬ k < S.length ∧ S1[k]? = some (.k kvs)) : RW XR H1 ⟨M.m, M1.x⟩ w' v := by
  have hs := les_back s
  have ln : M.m.length = S.length := Paired.length l.ob
  have out : ∀ {k : Nat} {a : Addr}, ¬ k < S.length → M1.m[k]? = some a → a ∉ (⟨M.m, M1.x⟩ : Ms) := by
    intro k a hk e1 h
    rcases h with h | h
    · obtain ⟨j, hj⟩ := List.mem_iff_getElem?.mp (show a ∈ M.m from h)
      obtain ⟨t, e3⟩ := s.pre
      have e4 : M1.m[j]? = some a := by
        rw [← e3, List.getElem?_append_left (List.getElem?_eq_some_iff.mp hj).1]
        exact hj
      have e5 := nodup_at l1.nd e1 e4
      have e6 := (List.getElem?_eq_some_iff.mp hj).1
      omega
    · exact (l1.ex a h).1 (List.mem_iff_getElem?.mpr ⟨k, e1⟩)
  cases w with
  | r k =>
    obtain ⟨a, e1, e2⟩ := r
    unfold frz at e
    dsimp only at e
    split at e
    · rename_i hk
      cases e
      refine ⟨a, ?_, e2⟩
      obtain ⟨t, e3⟩ := s.pre
      show M.m[k]? = some a
      rw [← e3, List.getElem?_append_left (by omega)] at e1
      exact e1
    · rename_i hk
      split at e
      · rename_i xs e3
        cases e
        obtain ⟨u, h1, vs, rfl, h2⟩ := l1.get e1 e3
        show Dr K H1 _ (.list xs) v
        unfold Dr
        exact ⟨a, vs, e2, ⟨out hk e1, h1⟩, DrL.les hs xs vs h2⟩
      · rename_i kvs e3
        exact absurd ⟨k, kvs, rfl, hk, e3⟩ nk
      · cases e
  | d x =>
    cases e
    exact Dr.les hs x v r
  | k kvs =>
    cases e
    obtain ⟨a, vs, e1, n, h1, h2⟩ := r
    exact ⟨a, vs, e1, fun z => n (hs _ z), h1, KD.les hs h2⟩
  | x c f =>
    cases e
    obtain ⟨a, e1, q⟩ := r
    exact ⟨a, e1, XR.les hs q⟩
  | s ns =>
    cases e
    obtain ⟨a, e1, q⟩ := r
    rcases q with ⟨n, o, e2⟩ | q
    · exact ⟨a, e1, .inl ⟨fun z => n (hs _ z), o, e2⟩⟩
    · exact ⟨a, e1, .inr q⟩
  | p xs =>
    obtain ⟨a, vs, e1, n, ⟨o, ho, e2⟩, q⟩ := r
    have e' : (frzPs S.length S1 xs).map mkP = some w' := e
    cases e3 : frzPs S.length S1 xs with
    | none => rw [e3] at e'; cases e'
    | some ys =>
      rw [e3] at e'
      cases e'
      have one : ∀ {x y : Pm} {u : V}, PmR XR H1 M1 x u → frzP S.length S1 x = some y → PmR XR H1 ⟨M.m, M1.x⟩ y u := by
        intro x y u hx ex
        cases x with
        | d d =>
          cases ex
          exact Dr.les hs d u hx
        | x c f =>
          cases ex
          obtain ⟨b, h1, h2⟩ := hx
          exact ⟨b, h1, XR.les hs h2⟩
        | r k =>
          obtain ⟨b, h1, h2⟩ := hx
          unfold frzP at ex
          dsimp only at ex
          split at ex
          · rename_i hk
            cases ex
            refine ⟨b, ?_, h2⟩
            obtain ⟨t, e3⟩ := s.pre
            show M.m[k]? = some b
            rw [← e3, List.getElem?_append_left (by omega)] at h1
            exact h1
          · rename_i hk
            split at ex
            · rename_i zs e3
              cases ex
              obtain ⟨u', h3, us, rfl, h4⟩ := l1.get h1 e3
              show Dr K H1 _ (.list zs) u
              unfold Dr
              exact ⟨b, us, h2, ⟨out hk h1, h3⟩, DrL.les hs zs us h4⟩
            · cases ex
      have many : ∀ {xs ys : List Pm} {us : List V}, Paired (PmR XR H1 M1) xs us → frzPs S.length S1 xs = some ys → Paired (PmR XR H1 ⟨M.m, M1.x⟩) ys us := by
        intro xs
        induction xs with
        | nil =>
          intro ys us h e
          cases e
          cases h
          exact .nil
        | cons x xs ih =>
          intro ys us h e
          unfold frzPs at e
          cases h with
          | cons h1 h2 =>
            cases e4 : frzP S.length S1 x with
            | none => rw [e4] at e; cases e
            | some y =>
              rw [e4] at e
              cases e5 : frzPs S.length S1 xs with
              | none => rw [e5] at e; cases e
              | some zs =>
                rw [e5] at e
                cases e
                exact .cons (one h1 e4) (ih h2 e5)
      have hq := many q e3
      unfold mkP
      split
      · rename_i ds e4
        show Dr K H1 _ (.tuple ds) v
        unfold Dr
        refine ⟨a, vs, e1, .inl ⟨fun z => n (hs _ z), o, ho, e2⟩, ?_⟩
        have all : ∀ {xs : List Pm} {ds : List PyData} {us : List V}, Paired (PmR XR H1 ⟨M.m, M1.x⟩) xs us → allPd xs = some ds → DrL K H1 ⟨M.m, M1.x⟩ ds us := by
          intro xs
          induction xs with
          | nil =>
            intro ds us h e
            cases e
            cases h
            exact .nil
          | cons x xs ih =>
            intro ds us h e
            cases h with
            | cons h1 h2 =>
              cases x with
              | d d =>
                cases e5 : allPd xs with
                | none => simp [allPd, e5] at e
                | some zs =>
                  have e' : d :: zs = ds := by simpa [allPd, e5] using e
                  subst e'
                  exact .cons h1 (ih h2 e5)
              | x c f => simp [allPd] at e
              | r k => simp [allPd] at e
        exact all hq e4
      · exact ⟨a, vs, e1, fun z => n (hs _ z), ⟨o, ho, e2⟩, hq⟩
theorem start_ok {M : Ms} {H : Hp} {ws : List W} {vs : List V} {N : List Str} (r : RWs XR H M ws vs) : Rs XR H M (ws.map some ++ List.replicate (N.length - ws.length) none) (start N vs) := by
  have ln : ws.length = vs.length := Paired.length r
  unfold L2.start
  rw [ln]
  refine Paired.app ?_ ?_
  · clear ln
    induction r with
    | nil => exact .nil
    | cons r t ih => exact .cons (fun w e => by cases e; exact ⟨_, rfl, r⟩) ih
  · generalize N.length - vs.length = n
    induction n with
    | zero => exact .nil
    | succ n ih => exact .cons (fun w e => by cases e) ih
theorem rw_none {H : Hp} {M : Ms} : RW XR H M (.d .none) .non := by
  show Dr K H M .none .non
  unfold Dr
  rfl
variable {P : Program} {w : World} {mg : Str → Option Value} {base : Heap}
theorem okF {x : Str} {st : Stmt} {f : Addr} {fd : FuncData} {N ps : List Str} {n : Nat} {b : FS} (F : FunF K x st f fd) (S : FnScope N ps (defScope st))
    (hbody : ∀ (cdv : Value) (A : Around) (outer : List Env) (s : Shared) (H : Hp) (E : XK), Ct (cxOf (L2.CX P w) P w K mg base N x (defScope st) f cdv A outer s H E) (fun c d _ H' => E c d H') n →
      FSs (cxOf (L2.CX P w) P w K mg base N x (defScope st) f cdv A outer s H E) XR (fun c d _ H' => E c d H') (defBody st) b) : FnF P w mg base XR (n + 1) f fd ps (fDef N.length b) := by
  obtain ⟨oc, od, dV, kV, doc, pm, an, cdv, ct, osl, rfl, lk, hcd⟩ := F.ex
  refine ⟨fun A outer s H args us vs Q E hgd hr e0 hb rv hul hsp => ?_⟩
  obtain ⟨M, So1, ws, l, rw1, hq⟩ := hsp
  have hl : vs.length = ps.length := by rw [rv.length, hul]
  have KX : K.In s.heap := e0.mod.kin.keeps fun b o e => (e0.bs b o e).1
  have lim : s.heap.NoLimit := e0.mod.nolimit.keeps fun b o e => (e0.bs b o e).1
  have hkind : ∀ y ∈ ps.zip us, (defScope st).names.lookup y.1 = some .local ∨ ((defScope st).names.lookup y.1 = some .cell ∧ ((cellsFrom (s.heap.objs.size + 1) (defScope st).names []).lookup y.1).isSome = true) := fun ⟨n, v⟩ hy => by
    rcases S.par n (List.of_mem_zip hy).1 with q | q
    · exact .inl q
    · exact .inr ⟨q, PySem.W.cellsFrom_some _ _ _ (.inl q)⟩
  refine codeAny_call_function hr.depth (KX _ _ lk) rfl S.co S.gen rfl (PySem.W.codeRec_of KX hcd) (hb _ _ _ _ ?_)
  refine wpAny_newFunctionEnv_cells S.kind hkind fun env he s1 x1 => ?_
  subst he
  refine ⟨lim.keeps x1.toInCall.keep, codeAny_func ?_⟩
  have hr2 := hr.deeper (envOfC x (defScope st) s.heap.objs.size f cdv)
  have ht := hbody cdv A outer s H E ⟨rfl, hr2, hgd, takes_of rfl rfl rfl rfl, passes_of rfl⟩
  have I : Inv (cxOf (L2.CX P w) P w K mg base N x (defScope st) f cdv A outer s H E) [] (start N vs) H s1 := inv_start S hr.hd e0 hl rv x1
  refine wpAny_mono (ht.run [] s1 (start N vs) H { nx := fun _ H' => Q .non H', rt := fun v H' => Q v H' ∨ fz Q v H' } I ⟨M, So1, _, l, start_ok rw1, ?_⟩) (fun fl s' hs => ?_) fun e s' hs => hs
  · -- the body's answer is the def's
    unfold fDef at hq
    cases e : b (ws.map some ++ List.replicate (N.length - ws.length) none) So1 with
    | rt w1 S1 =>
      rw [e] at hq
      intro M1 H1 v s1 l1 r1
      dsimp only at hq
      unfold fin at hq
      cases e2 : frz So1.length w1 S1 with
      | none => rw [e2] at hq; exact hq.elim
      | some w2 =>
        rw [e2] at hq
        by_cases c : ∃ k kvs, w1 = .r k ∧ ¬ k < So1.length ∧ S1[k]? = some (.k kvs)
        · obtain ⟨k, kvs, rfl, hk, e3⟩ := c
          have e4 : w2 = .k kvs := by
            unfold frz at e2
            dsimp only at e2
            rw [if_neg hk, e3] at e2
            cases e2 <;> rfl
          subst e4
          obtain ⟨a, e5, e6⟩ := r1
          obtain ⟨u, h1, us, rfl, h2⟩ := l1.get e5 e3
          have na : a ∉ M.m := fun z => by
            obtain ⟨j, hj⟩ := List.mem_iff_getElem?.mp z
            obtain ⟨tl, e7⟩ := s1.pre
            have e8 : M1.m[j]? = some a := by
              rw [← e7, List.getElem?_append_left (List.getElem?_eq_some_iff.mp hj).1]
              exact hj
            have e9 := nodup_at l1.nd e5 e8
            have e10 := (List.getElem?_eq_some_iff.mp hj).1
            have ln : M.m.length = So1.length := Paired.length l.ob
            omega
          have ma : a ∈ M1.m := List.mem_iff_getElem?.mpr ⟨k, e5⟩
          have nx : a ∉ M1.x := fun z => (l1.ex a z).1 ma
          have hn := s1.new a ma na
          have sb := s1.back
          refine .inr ⟨a, _, e6, h1, trivial, fun od => ?_⟩
          exact hq ⟨M.m, M1.x⟩ _ _ ⟨sb.pre, sb.sub, fun b o nb e => by rw [upd_ne (ne_of_none e hn)]; exact sb.keep b o nb e, sb.new, sb.newx, fun b o u e => by rw [upd_ne (ne_of_none e hn)]; exact sb.kz b o u e⟩ (l.backlk s1 l1 h1 ma na) ⟨a, us, e6, fun z => z.elim na nx, ⟨od, upd_same⟩, KD.les (les_back s1) (KD.lk h1 (Or.inl ma) h2)⟩
        · exact .inl (hq _ _ _ s1.back (l.back s1 l1) (frz_ok l s1 l1 r1 e2 c))
    | nx e1 S1 =>
      rw [e] at hq
      intro M1 H1 v s1 l1 r1
      dsimp only at hq
      unfold fin at hq
      have e2 : frz So1.length (.d .none) S1 = some (.d .none) := rfl
      rw [e2] at hq
      exact hq _ _ _ s1.back (l.back s1 l1) rw_none
    | ex c d e1 S1 =>
      rw [e] at hq
      intro M1 H1 σ' cls dx s1 l1 r1 d1
      exact hq _ _ cls dx s1.back (l.back s1 l1) (XR.dles (les_back s1) d1)
    | bk e1 S1 => rw [e] at hq; exact hq.elim
    | ct e1 S1 => rw [e] at hq; exact hq.elim
    | no => rw [e] at hq; exact hq.elim
  · have fin : ∀ {σ' : L2.St} {H' : Hp} {v : V} {u : Value}, Inv (cxOf (L2.CX P w) P w K mg base N x (defScope st) f cdv A outer s H E) [] σ' H' s' → RelV v u → (Q v H' ∨ fz Q v H') → CE outer P w H s Q u s' :=
      fun {σ' H' v u} J rv q => by
        rcases q with q | ⟨d, o, ex, hd, mu, q⟩
        · exact ⟨v, H', J.os, J.bare, J.base, J.hok, rv, q⟩
        · obtain ⟨od, J2⟩ := J.lock hd mu
          exact ⟨v, _, J2.os, J2.bare, J2.base, J2.hok, rv, q od⟩
    cases fl with
    | ret u =>
      obtain ⟨v, σ', H', J, rv, q⟩ := hs
      exact fin J rv q
    | next =>
      obtain ⟨σ', H', J, q⟩ := hs
      exact fin (v := V.non) (u := Value.none) J rfl (.inl q)
    | brk =>
      obtain ⟨_, _, _, q⟩ := hs
      exact False.elim q
    | cont =>
      obtain ⟨_, _, _, q⟩ := hs
      exact False.elim q
end
/-! a call -/
structure Fd (K : PySem.W.Frag) (mg : Str → Option Value) (x : Str) (ps : List Str) (ds : List Value) (f : Addr) (fd : FuncData) : Prop where
  g : mg x = some (.ref f)
  k : PySem.W.keepIn K (.ref f) = true
  b : Binds K fd ps ds
@[simp] def fCall (k : Nat) (g : List W → So → Res W) (dws : List W) (fa : FA) : FE := fun ev S => (fa ev S).bind fun ws S1 => if (ws ++ dws).length = k then g (ws ++ dws) S1 else .no
section
variable {X : Cx} {XR : XRel X.K} {Wx : WX} {n : Nat} {f : Addr} {fd : FuncData} {ps : List Str} {g : List W → So → Res W} {x : Str} {p pos : Pos} {e : Expr} {es : List Expr} {fa : FA} {ds : List Value} {dvs : List V} {dws : List W}
theorem run_F {pins : List (Addr × Obj)} {σ : L2.St} {H : Hp} {s : Shared} {Q : VK} {us : List Value} {vs : List V} (F : FnF X.prog X.w X.mg X.base XR n f fd ps g) (D : Fd X.K X.mg x ps ds f fd) (C : Ct X Wx n) (I : Inv X pins σ H s) (r : Vals (vs ++ dvs) (us ++ ds)) (hl : (us ++ ds).length = ps.length)
    (h : spF XR g (vs ++ dvs) H Q fun c d H' => Wx c d σ H') : wpAny (model X.prog X.w) X.A (call (.ref f) us) (EP X pins σ Q) X.xe s := by
  refine wpAny_call (codeAny_mono (F.run X.A X.stack s H ⟨us, []⟩ (us ++ ds) (vs ++ dvs) Q _ C.gds C.room I.env0 (D.b s us I.kIn hl) r hl h) fun r s' hq => ?_)
  cases r with
  | error e => exact C.tk e s' (XE.of_call I (fun cls d H' h => h) hq)
  | ok fl =>
    cases fl with
    | ret u => exact I.after hq
    | next => exact False.elim hq
    | brk => exact False.elim hq
    | cont => exact False.elim hq
theorem call_sp {M M1 : Ms} {S1 : So} {σ : L2.St} {H1 : Hp} {Q : VK} {ws : List W} {vs : List V} (hd : ∀ H M, RWs XR H M dws dvs) (l1 : Rl XR.wo X.K H1 M1 S1) (r1 : RWs XR H1 M1 ws vs)
    (h1 : Pst XR Wx σ M1 H1 (RW XR) (if (ws ++ dws).length = ps.length then g (ws ++ dws) S1 else .no) Q) : (vs ++ dvs).length = ps.length ∧ spF XR g (vs ++ dvs) H1 Q fun c d H' => Wx c d σ H' := by
  split at h1
  · rename_i c
    have r2 : RWs XR H1 M1 (ws ++ dws) (vs ++ dvs) := Paired.app r1 (hd _ _)
    refine ⟨by rw [← Paired.length r2]; exact c, M1, S1, ws ++ dws, l1, r2, ?_⟩
    cases e : g (ws ++ dws) S1 with
    | ok w S' => rw [e] at h1; exact h1
    | ex c f S' => rw [e] at h1; exact h1
    | no => rw [e] at h1; exact h1
  · exact h1.elim
theorem fe_callD (F : FnF X.prog X.w X.mg X.base XR n f fd ps g) (D : Fd X.K X.mg x ps ds f fd) (hv : Vals dvs ds) (hd : ∀ H M, RWs XR H M dws dvs) (C : Ct X Wx n) (hg : Gl X x) (ha : FAx X XR Wx (e :: es) fa)
    (hdb : (x == ("__debug__" : Str)) = false := by decide) (he : starEach (e :: es) X.env = (false, eval e X.env) :: starEach es X.env := by rfl) (hpl : (backTo pos (starEach es X.env)).any (·.1) = false := by rfl) :
    FEx X XR Wx (.Call (.Name x p) (e :: es) [] pos) (fCall ps.length g dws fa) := by
  refine ⟨fun pins s σ H Q I h => ?_⟩
  obtain ⟨M, S, ev, l, rs, h⟩ := h
  refine wpAny_Call_Name_kw (ld_glob I hg D.g ?_ hdb)
  refine PySem.W.callWith_K (h₀ := X.base) I.ok.mod.kin D.k (thn (ha.run pos pins s σ H (fun vs H1 => (vs ++ dvs).length = ps.length ∧ spF XR g (vs ++ dvs) H1 Q fun c d H' => Wx c d σ H') I ⟨M, S, ev, l, rs, Pst.cut h ?_⟩) fun us s1 ⟨vs, H1, I1, r, q1, q2⟩ => ⟨I1.kIn, ?_⟩) he hpl
  · intro ws S1 M1 H1 vs _ s1 l1 r1 h1
    exact call_sp (M := M1) hd l1 r1 h1
  · have r2 : Vals (vs ++ dvs) (us ++ ds) := r.append hv
    exact run_F (us := us) F D C I1 r2 (by rw [← r2.length]; exact q1) q2
theorem fe_call (F : FnF X.prog X.w X.mg X.base XR n f fd ps g) (D : Fd X.K X.mg x ps [] f fd) (C : Ct X Wx n) (hg : Gl X x) (ha : FAx X XR Wx (e :: es) fa)
    (hdb : (x == ("__debug__" : Str)) = false := by decide) (he : starEach (e :: es) X.env = (false, eval e X.env) :: starEach es X.env := by rfl) (hpl : (backTo pos (starEach es X.env)).any (·.1) = false := by rfl) :
    FEx X XR Wx (.Call (.Name x p) (e :: es) [] pos) (fCall ps.length g [] fa) := fe_callD (dvs := []) F D .nil (fun _ _ => .nil) C hg ha hdb he hpl
theorem fe_call0 (F : FnF X.prog X.w X.mg X.base XR n f fd [] g) (D : Fd X.K X.mg x [] [] f fd) (C : Ct X Wx n) (hg : Gl X x) (hdb : (x == ("__debug__" : Str)) = false := by decide) :
    FEx X XR Wx (.Call (.Name x p) [] [] pos) (fCall 0 g [] fNil) := by
  refine ⟨fun pins s σ H Q I h => ?_⟩
  obtain ⟨M, S, ev, l, rs, h⟩ := h
  refine wpAny_Call_Name_kw (ld_glob I hg D.g ?_ hdb)
  have q := call_sp (ps := []) (dws := []) (dvs := []) (g := g) (M := M) (ws := []) (vs := []) (fun _ _ => .nil) l .nil (by unfold fCall fNil at h; exact h)
  exact PySem.W.callWith_K0 I.kIn D.k (run_F (us := []) (vs := []) (dvs := []) F D C I .nil rfl q.2)
/-! an error raised -/
def fRaise (c : Nat) : FS := fun ev S => .ex c .none ev S
theorem fs_raise {xe : Expr} {C : Addr} {c : Nat} (Ctx : Ct X Wx n) (hm : PMk X xe fun _ H Q => Q (.ref C) none H) (hD : ∀ H M, XR.D c .none (.ref C) none H M) : FSx X XR Wx (.Raise (some xe) none pos) (fRaise c) := by
  refine PS.imp (ps_raise Ctx.cal Ctx.tk hm) ?_
  rintro D σ H ⟨M, S, ev, l, rs, h⟩
  exact h M H σ _ _ (.refl _ _) l rs (hD H M)
end
end FL

set_option Elab.async false
set_option linter.all false
set_option maxRecDepth 100000
set_option maxHeartbeats 1000000
namespace FL
open PySem PySem.Spec PyProof.Rows
open L2
/-! what a loop walks -/
def WkD (K : PySem.W.Frag) (J : It) (ds : List PyData) (M : Ms) (H : Hp) : Prop := ∃ (G : Hp → Prop) (Y : Nat → Hp → V → Hp → Prop), Walk J ds.length G Y ∧ (∀ M1 H1, Stp M H M1 H1 → G H1) ∧
  ∀ {wo : World} i x M1 H1 H2 S1, Stp M H M1 H1 → Rl wo K H1 M1 S1 → i < ds.length → Y i H1 x H2 → ∃ d, ds[i]? = some d ∧ (∀ a o, H1 a = some o → H2 a = some o) ∧ Rl wo K H2 M1 S1 ∧ Dr K H2 M1 d x
abbrev FI := Ev → So → Res (List PyData)
section
variable {X : Cx} {XR : XRel X.K} {Wx : WX} {n : Nat} {tg iter : Expr}
def rI (XR : XRel X.K) (Wx : WX) (fi : FI) : TI := fun σ H R => ∃ M S ev, Rl XR.wo X.K H M S ∧ Rs XR H M ev σ ∧ Pst XR Wx σ M H (fun H' M' ds J => WkD X.K J ds M' H') (fi ev S) R
abbrev FIx (X : Cx) (XR : XRel X.K) (Wx : WX) (tg iter : Expr) (fi : FI) : Prop := PI X tg iter (rI XR Wx fi)
theorem PI.imp {t t' : TI} (h : PI X tg iter t) (g : ∀ σ H R, t' σ H R → t σ H R) : PI X tg iter t' := ⟨fun pins s σ H R I q => h.run pins s σ H R I (g _ _ _ q)⟩
theorem stp_same {M : Ms} {H H1 : Hp} (s : ∀ a o, H a = some o → H1 a = some o) : Stp M H M H1 := ⟨List.prefix_refl _, fun _ h => h, fun a o _ e => s a o e, fun _ h n => absurd h n, fun _ h n _ => absurd h n, fun a od u e => s a _ e⟩
/-- a list, a tuple, a text -/
def iAny (K : PySem.W.Frag) (tl : TE) : TI := fun σ H R => tl σ H fun x H1 => (∃ a, x = .ref a ∧ (∃ xs, SqL K H1 a xs) ∧ R (Itl K a) H1) ∨ (∃ a, x = .ref a ∧ (∃ xs, SqT K H1 a xs) ∧ R (Itt K a) H1) ∨ (∃ z, x = .str z ∧ R (Its z) H1) ∨ ∃ d o kvs, x = .ref d ∧ H1 d = some (.frz o (.dK kvs)) ∧ R (Itk d o kvs) H1
theorem pi_any {l : Expr} {tl : TE} (hl : PE X l tl) : PI X tg l (iAny X.K tl) := by
  refine ⟨fun pins s σ H R I h => ?_⟩
  refine thn (hl.run pins s σ H _ I h) fun v s1 ⟨x, H1, I1, r1, q1⟩ => ?_
  rcases q1 with ⟨a, e, ⟨xs, hq⟩, q⟩ | ⟨a, e, ⟨xs, hq⟩, q⟩ | ⟨z, e, q⟩ | ⟨d, o, kvs, e, hd, q⟩
  · subst e
    cases r1
    obtain ⟨its, rv, p, hz⟩ := I1.list hq
    refine wpAny_pyIter_list p.isList ?_
    refine ⟨s1.heap.objs.size, [s1.heap.objs.size], _, _, H1, rfl, I1.kept (t' := s1.toks) fun b o e => Heap.get?_push_of_some _ e, turn_list a _, ⟨_, Heap.get?_push_size _ rfl, rfl, rfl⟩, fun b hb => ?_, q⟩
    have e : b = s1.heap.objs.size := by simpa using hb
    subst e
    exact I1.fpOk (Nat.le_refl _) (I1.hok.fresh (Nat.le_refl _))
  · subst e
    cases r1
    obtain ⟨its, rv, p, hz⟩ := I1.tuple hq
    refine wpAny_pyIter_tuple (show s1.heap.IsTuple a its.toArray from p) ?_
    refine ⟨s1.heap.objs.size, [s1.heap.objs.size], _, _, H1, rfl, I1.kept (t' := s1.toks) fun b o e => Heap.get?_push_of_some _ e, turn_tuple a _, ⟨_, Heap.get?_push_size _ rfl, rfl, rfl⟩, fun b hb => ?_, q⟩
    have e : b = s1.heap.objs.size := by simpa using hb
    subst e
    exact I1.fpOk (Nat.le_refl _) (I1.hok.fresh (Nat.le_refl _))
  · subst e
    obtain ⟨t, rfl⟩ := r1
    cases ha : z.cps.all (· < 128)
    · exact wpAny_pyIter_wide ha (pi_one (tk := s1.toks) I1 _ (turn_str _ z t "str_iterator" (.inr rfl)) ⟨_, Heap.get?_push_size _ rfl, rfl, rfl⟩ q)
    · exact wpAny_pyIter_ascii ha (pi_one (tk := s1.toks) I1 _ (turn_str _ z t "str_ascii_iterator" (.inl rfl)) ⟨_, Heap.get?_push_size _ rfl, rfl, rfl⟩ q)
  · subst e
    cases r1
    obtain ⟨lo, gd, xd, es, ep, vs, hdt, hsz, kv, hm⟩ := I1.frzK hd
    exact iter_keys lo gd xd hdt (pi_one (tk := s1.toks) I1 _ (turn_keys _ hdt) ⟨_, Heap.get?_push_size _ rfl, rfl, by rw [hsz] <;> rfl⟩ q)
/-- the items that a value gives -/
@[simp] def itemsW (w : W) : Option (List PyData) := match w with
  | .d (.list xs) => some xs
  | .d (.tuple xs) => some xs
  | .d (.str z) => some (z.cps.toList.map fun c => .str ⟨#[c]⟩)
  | .k kvs => some (kvs.map fun kv => keyP kv.1)
  | _ => none
@[simp] def fItems (fa : FE) : FI := fun ev S => (fa ev S).bind fun w S1 => match itemsW w with
  | some ds => .ok ds S1
  | none => .no
theorem wk_list {H : Hp} {M : Ms} {a : Addr} {ds : List PyData} {vs : List V} {K : PySem.W.Frag} (q : FzL H M a vs) (r : DrL K H M ds vs) : WkD K (Itl K a) ds M H := by
  refine ⟨fun H => SqL K H a vs, YAt vs, by rw [← r.len]; exact walk_list, fun M1 H1 s => SqL.of (q.stp s).2, ?_⟩
  rintro wo i x M1 H1 H2 S1 s l hi ⟨rfl, e⟩
  have hd : ∃ d, ds[i]? = some d := ⟨ds[i], by simp [hi]⟩
  obtain ⟨d, ed⟩ := hd
  obtain ⟨y, e2, h⟩ := (DrL.stp s ds vs r).get ed
  rw [e] at e2
  cases e2
  exact ⟨d, ed, fun _ _ h => h, l, h⟩
theorem wk_tup {H : Hp} {M : Ms} {a : Addr} {ds : List PyData} {vs : List V} {K : PySem.W.Frag} (q : FzT K H M a vs) (r : DrL K H M ds vs) : WkD K (Itt K a) ds M H := by
  refine ⟨fun H => SqT K H a vs, YAt vs, by rw [← r.len]; exact walk_tup, fun M1 H1 s => (q.stp s).sq, ?_⟩
  rintro wo i x M1 H1 H2 S1 s l hi ⟨rfl, e⟩
  have hd : ∃ d, ds[i]? = some d := ⟨ds[i], by simp [hi]⟩
  obtain ⟨d, ed⟩ := hd
  obtain ⟨y, e2, h⟩ := (DrL.stp s ds vs r).get ed
  rw [e] at e2
  cases e2
  exact ⟨d, ed, fun _ _ h => h, l, h⟩
theorem wk_str {H : Hp} {M : Ms} {z : Str} {K : PySem.W.Frag} : WkD K (Its z) (z.cps.toList.map fun c => .str ⟨#[c]⟩) M H := by
  refine ⟨fun _ => True, _, by rw [List.length_map, Array.length_toList]; exact walk_str, fun _ _ _ => trivial, ?_⟩
  rintro wo i x M1 H1 H2 S1 s l hi ⟨rfl, c, e, rfl⟩
  refine ⟨.str ⟨#[c]⟩, ?_, fun _ _ h => h, l, by unfold Dr; rfl⟩
  have e2 : z.cps.toList[i]? = some c := by simpa using e
  rw [List.getElem?_map, e2]
  rfl
theorem wk_k {H : Hp} {M : Ms} {a : Addr} {o : Obj} {kvs : Dic} {us : List (Key × V)} {K : PySem.W.Frag} (ha : H a = some (.frz o (.dK us))) (r : Paired (KD (K := K) H M) kvs us) : WkD K (Itk a o us) (kvs.map fun kv => keyP kv.1) M H := by
  have ln : kvs.length = us.length := Paired.length r
  refine ⟨fun H => H a = some (.frz o (.dK us)), _, by rw [List.length_map, ln]; exact walk_keys, fun M1 H1 s => s.kz _ _ _ ha, ?_⟩
  rintro wo i x M1 H1 H2 S1 s l hi ⟨rfl, k, v, hk, rfl⟩
  obtain ⟨p, ep, r1, r2⟩ := Paired.getR (KD.stp s r) hk
  refine ⟨keyP p.1, by rw [List.getElem?_map, ep]; rfl, fun _ _ h => h, l, ?_⟩
  rw [show p.1 = k from r1]
  cases k with
  | inl i => show Dr K _ M1 (.int i) (.int i); unfold Dr; rfl
  | inr z => show Dr K _ M1 (.str z) (.str z); unfold Dr; rfl
theorem fi_any {l : Expr} {fa : FE} (hl : FEx X XR Wx l fa) : FIx X XR Wx tg l (fItems fa) := by
  refine PI.imp (pi_any hl) ?_
  rintro σ H R ⟨M, S, ev, l, rs, h⟩
  refine ⟨M, S, ev, l, rs, Pst.cut h ?_⟩
  intro w S1 M1 H1 v e0 s1 l1 r1 h1
  clear e0
  split at h1
  · rename_i ds e
    unfold itemsW at e
    split at e
    · cases e
      have r2 : Dr X.K H1 M1 (.list ds) v := r1
      unfold Dr at r2
      obtain ⟨a, vs, e1, q, hd⟩ := r2
      exact .inl ⟨a, e1, ⟨vs, SqL.of q.2⟩, h1.ok (v := Itl X.K a) l1 (wk_list q hd)⟩
    · cases e
      have r2 : Dr X.K H1 M1 (.tuple ds) v := r1
      unfold Dr at r2
      obtain ⟨a, vs, e1, q, hd⟩ := r2
      exact .inr (.inl ⟨a, e1, ⟨vs, q.sq⟩, h1.ok (v := Itt X.K a) l1 (wk_tup q hd)⟩)
    · rename_i z
      cases e
      have r2 : Dr X.K H1 M1 (.str z) v := r1
      unfold Dr at r2
      exact .inr (.inr (.inl ⟨z, r2, h1.ok (v := Its z) l1 wk_str⟩))
    · cases e
      obtain ⟨a, us, e1, n1, ⟨o, ha⟩, hp⟩ := r1
      exact .inr (.inr (.inr ⟨a, o, us, e1, ha, h1.ok (v := Itk a o us) l1 (wk_k ha hp)⟩))
    · cases e
  · exact h1.elim
/-- range -/
def rgD (lo : Int) (n : Nat) : List PyData := (List.range n).map fun (i : Nat) => .int (lo + (i : Int))
def fRng1 (fa : FA) : FI := fun ev S => (fa ev S).bind fun ws S1 => match ws with
  | [w] => match asI w with
    | some j => if -(2 ^ 62) ≤ j ∧ j < 2 ^ 62 then .ok (rgD 0 j.toNat) S1 else .no
    | none => .no
  | _ => .no
def fRng2 (fa : FA) : FI := fun ev S => (fa ev S).bind fun ws S1 => match ws with
  | [w, w'] => match asI w, asI w' with
    | some i, some j => if -(2 ^ 62) ≤ i ∧ i < 2 ^ 62 ∧ -(2 ^ 62) ≤ j ∧ j < 2 ^ 62 then .ok (rgD i (j - i).toNat) S1 else .no
    | _, _ => .no
  | _ => .no
theorem wk_rg {H : Hp} {M : Ms} {lo : Int} {n : Nat} {K : PySem.W.Frag} : WkD K (Itr lo n) (rgD lo n) M H := by
  refine ⟨fun _ => True, _, by unfold rgD; rw [List.length_map, List.length_range]; exact walk_range, fun _ _ _ => trivial, ?_⟩
  rintro wo i x M1 H1 H2 S1 s l hi ⟨rfl, rfl⟩
  refine ⟨.int (lo + (i : Int)), ?_, fun _ _ h => h, l, by unfold Dr; rfl⟩
  unfold rgD at hi ⊢
  rw [List.length_map, List.length_range] at hi
  rw [List.getElem?_map, List.getElem?_range hi]
  rfl
theorem fi_rng1 {a : Expr} {fa : FA} {p pos : Pos} (hg : Gl X "range") (hm : X.mg "range" = none) (ha : FAx X XR Wx [a] fa) (hs : starEach [a] X.env = [(false, eval a X.env)] := by rfl) : FIx X XR Wx tg (.Call (.Name "range" p) [a] [] pos) (fRng1 fa) := by
  refine PI.imp (pi_range1 hg hm ha hs) ?_
  rintro σ H R ⟨M, S, ev, l, rs, h⟩
  refine ⟨M, S, ev, l, rs, Pst.cut h ?_⟩
  intro ws S1 M1 H1 vs _ s1 l1 r1 h1
  split at h1
  · rename_i w
    cases r1 with
    | cons r r2 =>
      cases r2
      split at h1
      · rename_i j e
        split at h1
        · rename_i c
          exact ⟨j, by rw [asI_ok r e], c.1, c.2, h1.ok (v := Itr 0 j.toNat) l1 wk_rg⟩
        · exact h1.elim
      · exact h1.elim
  · exact h1.elim
theorem fi_rng2 {a b : Expr} {fa : FA} {p pos : Pos} (hg : Gl X "range") (hm : X.mg "range" = none) (ha : FAx X XR Wx [a, b] fa) (hs : starEach [a, b] X.env = [(false, eval a X.env), (false, eval b X.env)] := by rfl) (hs2 : starEach [b] X.env = [(false, eval b X.env)] := by rfl) :
    FIx X XR Wx tg (.Call (.Name "range" p) [a, b] [] pos) (fRng2 fa) := by
  refine PI.imp (pi_range2 hg hm ha hs hs2) ?_
  rintro σ H R ⟨M, S, ev, l, rs, h⟩
  refine ⟨M, S, ev, l, rs, Pst.cut h ?_⟩
  intro ws S1 M1 H1 vs _ s1 l1 r1 h1
  split at h1
  · rename_i w w'
    cases r1 with
    | cons r r2 =>
      cases r2 with
      | cons r' r3 =>
        cases r3
        split at h1
        · rename_i i j e e'
          split at h1
          · rename_i c
            exact ⟨i, j, by rw [asI_ok r e, asI_ok r' e'], c, h1.ok (v := Itr i (j - i).toNat) l1 wk_rg⟩
          · exact h1.elim
        · exact h1.elim
  · exact h1.elim
/-! for -/
def forL (g : FG) (b : FS) : List PyData → Ev → So → Out
  | [], ev, S => .nx ev S
  | d :: ds, ev, S => match g (.d d) ev with
    | none => .no
    | some e1 => match b e1 S with
      | .nx e2 S2 => forL g b ds e2 S2
      | .ct e2 S2 => forL g b ds e2 S2
      | .bk e2 S2 => .nx e2 S2
      | r => r
def fFor (fi : FI) (g : FG) (b : FS) : FS := fun ev S => match fi ev S with
  | .ok ds S1 => forL g b ds ev S1
  | .ex c d S1 => .ex c d ev S1
  | .no => .no
theorem fs_for {body : List Stmt} {fi : FI} {sl : List Nat} {g : FG} {fb : FS} {pos : Pos} (C : Ct X Wx n) (hi : FIx X XR Wx tg iter fi) (hg : FGx X XR tg sl g) (hb : FSs X XR Wx body fb)
    (hs : ∀ x, foldedSetIterable iter X.env x = pure x := by intro _; rfl) : FSx X XR Wx (.For tg iter body [] pos) (fFor fi g fb) := by
  refine PS.imp (ps_for C.pp C.cal hi hg hb hs) ?_
  rintro D σ H ⟨M, S, ev, l, rs, h⟩
  refine ⟨M, S, ev, l, rs, ?_⟩
  unfold fFor at h
  cases e : fi ev S with
  | no => rw [e] at h; exact h.elim
  | ex c d S1 =>
    rw [e] at h
    exact fun M1 H1 cls dx s l1 d1 => h M1 H1 σ cls dx s l1 (rs.stp s) d1
  | ok ds S1 =>
    rw [e] at h
    intro M1 H1 J s1 l1 wk
    obtain ⟨G, Y, w, hG, hY⟩ := wk
    refine for_it w (fun i σ' H' => ∃ Mi Si ei, Stp M1 H1 Mi H' ∧ Rl XR.wo X.K H' Mi Si ∧ Rs XR H' Mi ei σ' ∧ PstS XR Wx Mi H' (forL g fb (ds.drop i) ei Si) D) ⟨M1, S1, ev, .refl _ _, l1, rs.stp s1, PstS.stp s1 h⟩ ?_ ?_ ?_
    · rintro i σ' H' _ ⟨Mi, Si, ei, s, _⟩
      exact hG Mi H' s
    · rintro i x σ' H' H2 hi ⟨Mi, Si, ei, s, li, rsi, hp⟩ y
      obtain ⟨d, ed, sm, l2, dr⟩ := hY i x Mi H' H2 Si s li hi y
      have s2 : Stp Mi H' Mi H2 := stp_same sm
      have e3 : ds.drop i = d :: ds.drop (i + 1) := by
        obtain ⟨hlt, e4⟩ := List.getElem?_eq_some_iff.mp ed
        rw [List.drop_eq_getElem_cons hlt, e4]
      rw [e3] at hp
      unfold forL at hp
      cases e5 : g (.d d) ei with
      | none => rw [e5] at hp; exact hp.elim
      | some e1 =>
        rw [e5] at hp
        dsimp only at hp
        refine ⟨Mi, Si, ei, .d d, l2, rsi.stp s2, dr, e1, e5, fun σ1 rs1 _ => ⟨Mi, Si, e1, l2, rs1, ?_⟩⟩
        have hp2 := PstS.stp s2 hp
        cases e6 : fb e1 Si with
        | nx e2 S2 =>
          rw [e6] at hp2
          exact fun M3 H3 σ3 s3 l3 rs3 => ⟨M3, S2, e2, (s.trans s2).trans s3, l3, rs3, PstS.stp s3 hp2⟩
        | ct e2 S2 =>
          rw [e6] at hp2
          exact fun M3 H3 σ3 s3 l3 rs3 => ⟨M3, S2, e2, (s.trans s2).trans s3, l3, rs3, PstS.stp s3 hp2⟩
        | bk e2 S2 => rw [e6] at hp2; exact hp2
        | rt w S2 => rw [e6] at hp2; exact hp2
        | ex c d e2 S2 => rw [e6] at hp2; exact hp2
        | no => rw [e6] at hp2; exact hp2
    · rintro σ' H' ⟨Mi, Si, ei, s, li, rsi, hp⟩
      rw [List.drop_length] at hp
      exact hp Mi H' σ' (.refl _ _) li rsi
/-! a comprehension -/
@[simp] def wipeE (ev : Ev) : List Nat → Ev
  | [] => ev
  | v :: vs => (wipeE ev vs).set v none
theorem wipe_rs {H : Hp} {M : Ms} {ev : Ev} {σ : L2.St} (rs : Rs XR H M ev σ) : ∀ vs : List Nat, Rs XR H M (wipeE ev vs) (wipe σ vs)
  | [] => rs
  | v :: vs => Paired.setB (fun _ e => by cases e) v (wipe_rs rs vs)
theorem wipe_wipe {σ : L2.St} : ∀ {us vs : List Nat}, (∀ i ∈ us, i ∈ vs) → wipe (wipe σ us) vs = wipe σ vs
  | [], _, _ => rfl
  | u :: us, vs, h => by
    show wipe ((wipe σ us).set u none) vs = _
    rw [wipe_set, if_pos (h u List.mem_cons_self)]
    exact wipe_wipe fun i hi => h i (List.mem_cons_of_mem _ hi)
@[simp] def lcL (g : FG) (t : FT) (te : FE) (ev0 : Ev) : List PyData → So → List PyData → Res (List PyData)
  | [], S, acc => .ok acc S
  | d :: ds, S, acc => match g (.d d) ev0 with
    | none => .no
    | some e1 => match t e1 S with
      | .ok true S1 => match te e1 S1 with
        | .ok (.d y) S2 => if S2.length = S.length ∧ acc.length < sizeLine then lcL g t te ev0 ds S2 (acc ++ [y]) else .no
        | _ => .no
      | .ok false S1 => if S1.length = S.length then lcL g t te ev0 ds S1 acc else .no
      | _ => .no
@[simp] def fLc (fi : FI) (g : FG) (t : FT) (te : FE) (vs : List Nat) : FE := fun ev S => (fi ev S).bind fun ds S1 => (lcL g t te (wipeE ev vs) ds S1 []).bind fun ys S2 => .ok (.d (.list ys)) S2
/-- no exception leaves a comprehension's step -/
abbrev Wn : WX := fun _ _ _ _ => False
@[simp] abbrev fYes : FT := fun _ S => .ok true S
theorem lcL_nx {g : FG} {t : FT} {te : FE} {ev0 : Ev} : ∀ {ds : List PyData} {S : So} {acc : List PyData} {c : Nat} {f : PyData} {S' : So}, lcL g t te ev0 ds S acc ≠ .ex c f S'
  | [], _, _, _, _, _ => fun e => by cases e
  | d :: ds, S, acc, c, f, S' => fun e => by
    unfold lcL at e
    split at e
    · cases e
    · split at e
      · split at e
        · split at e
          · exact lcL_nx e
          · cases e
        · cases e
      · split at e
        · exact lcL_nx e
        · cases e
      · cases e
theorem Ct.blk (C : Ct X Wx n) {s : Shared} {H : Hp} {scope : Scope} {cenv : Env} {fp : List Addr} : Ct (X.blk s H scope cenv fp) Wn n := ⟨C.cal, C.room, C.gds, takes0, PassesOwn.never⟩
abbrev Blk (X : Cx) (scope : Scope) (s : Shared) (H : Hp) (C : Addr) (cl : List (Str × Addr)) (fp : List Addr) : Cx := X.blk s H scope (compEnvC scope cl C X.env) fp
theorem lc_ok {sl : List Nat} {fi : FI} {g : FG} {t : FT} {tt : TT} {te : FE} {vs : List Nat} (hsl : ∀ i, i ∈ sl → i ∈ vs) (htt : ∀ σ H Q, rT XR Wn t σ H Q → tt σ H Q) {σ : L2.St} {H : Hp} {Q : VK} (h : rE XR Wx (fLc fi g t te vs) σ H Q) :
    tLc (rI XR Wx fi) (rG (X := X) XR sl g) tt (rE XR Wn te) vs σ H Q := by
  obtain ⟨M, S, ev, l, rs, h⟩ := h
  refine ⟨M, S, ev, l, rs, Pst.cut h ?_⟩
  intro ds S1 M1 H1 J _ s1 l1 wk h1 D nD
  obtain ⟨G, Y, w, hG, hY⟩ := wk
  have rs1 := rs.stp s1
  have sD : Stp M1 H1 (M1.res D) (upd H1 D (.lst [])) := stp_res nD
  have lD : Rl XR.wo X.K (upd H1 D (.lst [])) (M1.res D) S1 := l1.res nD
  refine lc_it w (fun i H' => ∃ Mi Si acc ys, Stp M1 H1 Mi H' ∧ D ∈ Mi.x ∧ Rl XR.wo X.K H' Mi Si ∧ Si.length = S1.length ∧ H' D = some (.lst ys) ∧ DrL X.K H' Mi acc ys ∧
      Pst XR Wx σ M1 H1 (RW XR) ((lcL g t te (wipeE ev vs) (ds.drop i) Si acc).bind fun ys S2 => .ok (.d (.list ys)) S2) Q) ⟨M1.res D, S1, [], [], sD, List.mem_cons_self, lD, rfl, upd_same, .nil, h1⟩ ?_ ?_ ?_
  · rintro i H' _ ⟨Mi, Si, acc, ys, s, _⟩
    exact hG Mi H' s
  · rintro i x H' H2 hi ⟨Mi, Si, acc, ys, s, Dx, li, ln, hD, hacc, hp⟩ y
    obtain ⟨d, ed, sm, l2, dr⟩ := hY i x Mi H' H2 Si s li hi y
    have s2 : Stp Mi H' Mi H2 := stp_same sm
    have hD2 : H2 D = some (.lst ys) := sm D _ hD
    have e3 : ds.drop i = d :: ds.drop (i + 1) := by
      obtain ⟨hlt, e4⟩ := List.getElem?_eq_some_iff.mp ed
      rw [List.drop_eq_getElem_cons hlt, e4]
    rw [e3] at hp
    unfold lcL at hp
    have Dm : D ∉ Mi.m := (li.ex D Dx).1
    have rsi : Rs XR H2 Mi (wipeE ev vs) (wipe σ vs) := wipe_rs ((rs1.stp s).stp s2) vs
    cases e5 : g (.d d) (wipeE ev vs) with
    | none => rw [e5] at hp; exact hp.elim
    | some e1 =>
      rw [e5] at hp
      dsimp only at hp
      refine ⟨Mi, Si, wipeE ev vs, .d d, l2, rsi, dr, e1, e5, fun σ1 rs1' w1 => ⟨by rw [w1 vs hsl]; exact wipe_wipe fun i h => h, htt _ _ _ ⟨Mi, Si, e1, l2, rs1', ?_⟩⟩⟩
      -- what holds behind a turn
      have nxt : ∀ {M4 : Ms} {H4 : Hp} {S4 : So} {acc4 : List PyData} {ys4 : List V}, Stp M1 H1 M4 H4 → D ∈ M4.x → Rl XR.wo X.K H4 M4 S4 → S4.length = Si.length → H4 D = some (.lst ys4) → DrL X.K H4 M4 acc4 ys4 →
          Pst XR Wx σ M1 H1 (RW XR) ((lcL g t te (wipeE ev vs) (ds.drop (i + 1)) S4 acc4).bind fun ys S2 => .ok (.d (.list ys)) S2) Q →
          ∃ Mi Si acc ys, Stp M1 H1 Mi H4 ∧ D ∈ Mi.x ∧ Rl XR.wo X.K H4 Mi Si ∧ Si.length = S1.length ∧ H4 D = some (.lst ys) ∧ DrL X.K H4 Mi acc ys ∧
            Pst XR Wx σ M1 H1 (RW XR) ((lcL g t te (wipeE ev vs) (ds.drop (i + 1)) Si acc).bind fun ys S2 => .ok (.d (.list ys)) S2) Q :=
        fun s4 x4 l4 n4 h4 r4 p4 => ⟨_, _, _, _, s4, x4, l4, by rw [n4, ln], h4, r4, p4⟩
      cases e6 : t e1 Si with
      | no => rw [e6] at hp; exact hp.elim
      | ex c f S' => rw [e6] at hp; exact hp.elim
      | ok b S3 =>
        rw [e6] at hp
        rintro M3 H3 b' s3 l3 r3
        have r3' : b = b' := r3
        subst r3'
        have hD3 : H3 D = some (.lst ys) := s3.keep D _ Dm hD2
        cases b with
        | false =>
          rw [if_neg Bool.false_ne_true]
          dsimp only at hp
          split at hp
          · rename_i c
            exact nxt ((s.trans s2).trans s3) (s3.sub D Dx) l3 c hD3 (DrL.stp (s2.trans s3) acc ys hacc) hp
          · exact hp.elim
        | true =>
          rw [if_pos rfl]
          dsimp only at hp
          refine ⟨M3, S3, e1, l3, rs1'.stp s3, ?_⟩
          cases e7 : te e1 S3 with
          | no => rw [e7] at hp; exact hp.elim
          | ex c f S' => rw [e7] at hp; exact hp.elim
          | ok u S4 =>
            rw [e7] at hp
            cases u with
            | r _ => exact hp.elim
            | k _ => exact hp.elim
            | x _ _ => exact hp.elim
            | s _ => exact hp.elim
            | p _ => exact hp.elim
            | d y =>
              dsimp only at hp
              split at hp
              · rename_i c
                intro M4 H4 v s4 l4 r4
                have Dx3 : D ∈ M3.x := s3.sub D Dx
                have hD4 : H4 D = some (.lst ys) := s4.keep D _ (l3.ex D Dx3).1 hD3
                have Dx4 : D ∈ M4.x := s4.sub D Dx3
                have Dm4 : D ∉ M4.m := (l4.ex D Dx4).1
                have hacc4 : DrL X.K H4 M4 acc ys := DrL.stp ((s2.trans s3).trans s4) acc ys hacc
                refine ⟨ys, hD4, by rw [hacc.len]; exact c.2, ?_⟩
                -- the list grows at D, of which no datum speaks
                have up : ∀ a o, a ∉ M4 → H4 a = some o → upd H4 D (.lst (ys ++ [v])) a = some o := fun a o n e => by
                  rw [upd_ne]
                  · exact e
                  · intro z
                    subst z
                    exact n (Or.inr Dx4)
                have drU : ∀ {d : PyData} {z : V}, Dr X.K H4 M4 d z → Dr X.K (upd H4 D (.lst (ys ++ [v]))) M4 d z := fun {d z} h => Dr.upd up d z h
                have drLU : ∀ {d : List PyData} {z : List V}, DrL X.K H4 M4 d z → DrL X.K (upd H4 D (.lst (ys ++ [v]))) M4 d z := fun {d z} h => DrL.upd up d z h
                have lU : Rl XR.wo X.K (upd H4 D (.lst (ys ++ [v]))) M4 S4 := by
                  refine ⟨l4.nd, Paired.mapI l4.ob fun j a o e ⟨u, h1, h2⟩ => ⟨u, ?_, RO.upd up h2⟩, fun a m => ⟨(l4.ex a m).1, upd_some (l4.ex a m).2⟩⟩
                  rw [upd_ne]
                  · exact h1
                  · intro z
                    subst z
                    exact Dm4 (List.mem_iff_getElem?.mpr ⟨j, e⟩)
                have sU : Stp M1 H1 M4 (upd H4 D (.lst (ys ++ [v]))) := by
                  have s5 := ((s.trans s2).trans s3).trans s4
                  refine ⟨s5.pre, s5.sub, fun a o n e => ?_, s5.new, s5.newx, fun a od u e => by rw [upd_ne (ne_of_none e nD)]; exact s5.kz a od u e⟩
                  rw [upd_ne (ne_of_none e nD)]
                  exact s5.keep a o n e
                exact nxt sU Dx4 lU c.1 upd_same (DrL.append (drLU hacc4) (.cons (drU r4) .nil)) hp
              · exact hp.elim
  · rintro H' ⟨Mi, Si, acc, ys, s, Dx, li, ln, hD, hacc, hp⟩
    rw [List.drop_length] at hp
    -- the list is set free
    have hs2 : ∀ b, b ∈ (⟨Mi.m, Mi.x.filter (· ≠ D)⟩ : Ms) → b ∈ Mi := fun b h => by
      rcases h with h | h
      · exact Or.inl h
      · exact Or.inr (List.mem_filter.mp h).1
    refine hp ⟨Mi.m, Mi.x.filter (· ≠ D)⟩ H' (.ref D) ⟨s.pre, fun a h => List.mem_filter.mpr ⟨s.sub a h, ?_⟩, s.keep, s.new, fun a h n n2 => s.newx a (List.mem_filter.mp h).1 n n2, s.kz⟩ ?_ ?_
    · have ne : a ≠ D := fun z => by
        subst z
        exact l1.notin nD (Or.inr h)
      simpa using ne
    · exact ⟨li.nd, Paired.imp (fun a o ⟨u, e, r⟩ => ⟨u, e, RO.les hs2 r⟩) li.ob, fun a m => li.ex a (List.mem_filter.mp m).1⟩
    · show Dr X.K H' _ (.list acc) (.ref D)
      unfold Dr
      refine ⟨D, ys, rfl, ⟨fun z => ?_, hD⟩, DrL.les hs2 acc ys hacc⟩
      rcases z with z | z
      · exact (li.ex D Dx).1 z
      · have := (List.mem_filter.mp z).2
        simp at this
theorem fe_lc {elt : Expr} {ifs : List Expr} {scope : Scope} {own : List (Str × Nat)} {sl : List Nat} {pos : Pos} {fi : FI} {g : FG} {t : FT} {tt : TT} {te : FE} (C : Ct X Wx n) (hN : X.N.Nodup) (hi : FIx X XR Wx tg iter fi) (ok : BlkOk X.N X.env.scope scope own)
    (hg : ∀ (s : Shared) (H : Hp) (D : Addr) (cl : List (Str × Addr)) (fp : List Addr), FGx (Blk X scope s H D cl fp) XR tg sl g) (hsl : ∀ i, i ∈ sl → i ∈ own.map (·.2))
    (ht : ∀ (s : Shared) (H : Hp) (D : Addr) (cl : List (Str × Addr)) (fp : List Addr), PTs (Blk X scope s H D cl fp) ifs tt) (htt : ∀ σ H Q, rT XR Wn t σ H Q → tt σ H Q)
    (he : ∀ (s : Shared) (H : Hp) (D : Addr) (cl : List (Str × Addr)) (fp : List Addr), FEx (Blk X scope s H D cl fp) XR Wn elt te) (hs : ∀ x, foldedSetIterable iter X.env x = pure x := by intro _; rfl) :
    FEx X XR Wx (.ListComp elt [⟨tg, iter, ifs, 0⟩] scope pos) (fLc fi g t te (own.map (·.2))) :=
  PE.imp (pe_lc (g := rG (X := X) XR sl g) (te := rE XR Wn te) C.cal hN hi ok hg ht he hs) fun _ _ _ => lc_ok hsl htt
/-- name = [..], on one line -/
theorem fs_setLc {i : Nat} {y : Str} {py : Pos} {elt : Expr} {ifs : List Expr} {scope : Scope} {own : List (Str × Nat)} {sl : List Nat} {pos spos : Pos} {fi : FI} {g : FG} {t : FT} {tt : TT} {te : FE} (C : Ct X Wx n) (hN : X.N.Nodup) (hy : X.N[i]? = some y) (hyl : X.env.scope.names.lookup y = some .local)
    (hsw : swapsWith (.ListComp elt [⟨tg, iter, ifs, 0⟩] scope pos) (some (.Name y py)) spos.line X.env = pure true) (hi : FIx X XR Wx tg iter fi) (ok : BlkOk X.N X.env.scope scope own)
    (hg : ∀ (s : Shared) (H : Hp) (D : Addr) (cl : List (Str × Addr)) (fp : List Addr), FGx (Blk X scope s H D cl fp) XR tg sl g) (hsl : ∀ i, i ∈ sl → i ∈ own.map (·.2))
    (ht : ∀ (s : Shared) (H : Hp) (D : Addr) (cl : List (Str × Addr)) (fp : List Addr), PTs (Blk X scope s H D cl fp) ifs tt) (htt : ∀ σ H Q, rT XR Wn t σ H Q → tt σ H Q)
    (he : ∀ (s : Shared) (H : Hp) (D : Addr) (cl : List (Str × Addr)) (fp : List Addr), FEx (Blk X scope s H D cl fp) XR Wn elt te) (hs : ∀ x, foldedSetIterable iter X.env x = pure x := by intro _; rfl) :
    FSx X XR Wx (.Assign [.Name y py] (.ListComp elt [⟨tg, iter, ifs, 0⟩] scope pos) spos) (fSet i (fLc fi g t te (own.map (·.2)))) := by
  refine PS.imp (ps_setLc (g := rG (X := X) XR sl g) (te := rE XR Wn te) C.cal hN hy hyl hsw hi ok hg ht he hs) ?_
  rintro D σ H ⟨M, S, ev, l, rs, h⟩
  refine lc_ok (Wx := Wx) hsl htt (toOut_ok l rs h ?_)
  intro w S1 M1 H1 v s1 l1 rs1 r1 h1
  exact h1 M1 H1 _ (.refl _ _) l1 (rs1.set r1)
end
end FL

set_option Elab.async false
set_option linter.all false
set_option maxRecDepth 100000
set_option maxHeartbeats 1000000
namespace FL
open PySem PySem.Spec PyProof.Rows
open L2
/-! a subscript -/
@[simp] def oIxL : W → W → So → Res W := fun x y S => match asL x S, asI y with
  | some ds, some i => match atI ds i with
    | some d => .ok (.d d) S
    | none => .no
  | _, _ => .no
@[simp] def oIxT : W → W → So → Res W := fun x y S => match asT x, asI y with
  | some ds, some i => match atI ds i with
    | some d => .ok (.d d) S
    | none => .no
  | _, _ => .no
@[simp] def oIxS : W → W → So → Res W := fun x y S => match asS x, asI y with
  | some z, some i => if z.length ≤ sizeLine then match atI z.cps.toList i with
    | some c => .ok (.d (.str ⟨#[c]⟩)) S
    | none => .no else .no
  | _, _ => .no
@[simp] def asN : W → Option (List Int)
  | .s ns => some ns
  | _ => none
@[simp] def oIxN : W → W → So → Res W := fun x y S => match asN x, asI y with
  | some ns, some i => match atI ns i with
    | some k => .ok (.d (.int k)) S
    | none => .no
  | _, _ => .no
@[simp] def oIxK : W → W → So → Res W := fun x y S => match asD x S with
  | some dd => match look dd y with
    | some (some d) => .ok (.d d) S
    | _ => .no
  | none => .no
@[simp] def oIx : W → W → So → Res W := oOr oIxT (oOr oIxL (oOr oIxK (oOr oIxS oIxN)))
theorem nx_IxL : NX2 oIxL := by
  intro x y S c f S' e
  unfold oIxL at e
  split at e
  · split at e <;> cases e
  · cases e
theorem nx_IxT : NX2 oIxT := by
  intro x y S c f S' e
  unfold oIxT at e
  split at e
  · split at e <;> cases e
  · cases e
theorem nx_IxS : NX2 oIxS := by
  intro x y S c f S' e
  unfold oIxS at e
  split at e
  · split at e
    · split at e <;> cases e
    · cases e
  · cases e
theorem nx_IxN : NX2 oIxN := by
  intro x y S c f S' e
  unfold oIxN at e
  split at e
  · split at e <;> cases e
  · cases e
theorem nx_IxK : NX2 oIxK := by
  intro x y S c f S' e
  unfold oIxK at e
  split at e
  · split at e <;> cases e
  · cases e
theorem atI_map {α β : Type} (f : α → β) (xs : List α) (i : Int) : atI (xs.map f) i = (atI xs i).map f := by
  unfold atI
  rw [List.length_map]
  cases ixN xs.length i with
  | none => rfl
  | some j => simp
section
variable {X : Cx} {XR : XRel X.K} {Wx : WX} {n : Nat} {pos : Pos}
theorem DrL.atI {H : Hp} {M : Ms} {ds : List PyData} {vs : List V} {i : Int} {d : PyData} (r : DrL X.K H M ds vs) (e : L2.atI ds i = some d) : ∃ v, L2.atI vs i = some v ∧ Dr X.K H M d v := by
  unfold L2.atI at e ⊢
  rw [r.len]
  cases e1 : ixN ds.length i with
  | none => rw [e1] at e; cases e
  | some j =>
    rw [e1] at e
    obtain ⟨v, e2, h⟩ := r.get (i := j) (by simpa using e)
    exact ⟨v, by simpa using e2, h⟩
def rIxD : R2 := fun x y H Q => ∃ a v, x = .ref a ∧ DGet H a y (some v) ∧ Q v H
theorem ix_dict (hu : X.A.units + 200 < cLine) : IxR X rIxD := by
  intro value slice pins s σ H x y v u Q I rx ry h hs
  obtain ⟨a, z, rfl, g, q⟩ := h
  cases (show v = Value.ref a from rx)
  have hT := dict_typeIs I g
  unfold subscriptTail
  refine wpAny_bind ?_
  rw [getitemInPython_of_ne hT.not_modules]
  refine wpAny_bind (wpAny_specialOf hT PySem.F.slot_dict_getitem.lookup ?_)
  have fin : wpAny (model X.prog X.w) X.A (subscripted slice false (.ref a) u) (fun r s₃ => wpAny (model X.prog X.w) X.A (letTemporaryGo value (.ref a) r >>= fun _ => pure r) (EP X pins σ Q) X.xe s₃) X.xe s := by
    rw [hs]
    exact wpAny_operating (wpAny_mono (d_getItem (by omega) I g ry fun w' s3 I3 rw' => (show EP X pins σ Q w' s3 from ⟨z, H, I3, rw', q⟩)) (fun r s₃ h₃ => wpAny_bind (wpAny_letTemporaryGo (wpAny_pure h₃))) fun _ _ x => x)
  first
    | exact wpAny_pure (wpAny_bind fin)
    | exact wpAny_bind (wpAny_pure (wpAny_bind fin))
    | exact wpAny_bind fin
theorem op2_IxL : Op2 XR oIxL (rIxL X.K) := by
  intro H M S S' x y w vx vy Q l rx ry e q
  unfold oIxL at e
  split at e
  · rename_i ds i e1 e2
    split at e
    · rename_i d e3
      cases e
      obtain ⟨p, vs, h1, h2, h3⟩ := asL_ok l rx e1
      obtain ⟨v, e4, h4⟩ := h3.atI e3
      exact ⟨p, vs, i, v, h1, asI_ok ry e2, SqL.of h2, e4, imm_d l q h4⟩
    · cases e
  · cases e
theorem op2_IxT : Op2 XR oIxT (rIxT X.K) := by
  intro H M S S' x y w vx vy Q l rx ry e q
  unfold oIxT at e
  split at e
  · rename_i ds i e1 e2
    split at e
    · rename_i d e3
      cases e
      obtain ⟨p, vs, h1, h2, h3⟩ := asT_ok rx e1
      obtain ⟨v, e4, h4⟩ := h3.atI e3
      exact ⟨p, vs, i, v, h1, asI_ok ry e2, h2.sq, e4, imm_d l q h4⟩
    · cases e
  · cases e
theorem op2_IxS : Op2 XR oIxS rIxS := by
  intro H M S S' x y w vx vy Q l rx ry e q
  unfold oIxS at e
  split at e
  · rename_i z i e1 e2
    split at e
    · rename_i hz
      split at e
      · rename_i c e3
        cases e
        exact ⟨z, i, c, asS_ok rx e1, asI_ok ry e2, hz, e3, imm_s l q⟩
      · cases e
    · cases e
  · cases e
theorem op2_IxN : Op2 XR oIxN (rIxL X.K) := by
  intro H M S S' x y w vx vy Q l rx ry e q
  unfold oIxN at e
  split at e
  · rename_i ns i e1 e2
    split at e
    · rename_i k e3
      cases e
      unfold asN at e1
      split at e1
      · cases e1
        obtain ⟨a, h1, h2⟩ := rx
        exact ⟨a, ns.map V.int, i, .int k, h1, asI_ok ry e2, h2.sq, by rw [atI_map, e3]; rfl, imm_i l q⟩
      · cases e1
    · cases e
  · cases e
theorem op2_IxK : Op2 XR oIxK rIxD := by
  intro H M S S' x y w vx vy Q l rx ry e q
  unfold oIxK at e
  split at e
  · rename_i dd e1
    split at e
    · rename_i d e2
      cases e
      obtain ⟨a, h1, h2⟩ := asD_ok l rx ry e1 e2
      rcases h2 with ⟨h2, _⟩ | ⟨d', u, h2, h3, h4⟩
      · cases h2
      · cases h2
        exact ⟨a, u, h1, h3, imm_d l q h4⟩
    · cases e
  · cases e
theorem fe_ix {a b : Expr} {fa fb : FE} (C : Ct X Wx n) (ha : FEx X XR Wx a fa) (hb : FEx X XR Wx b fb) (hs : PlainIx b) : FEx X XR Wx (.Subscript a b pos) (f2 oIx fa fb) := by
  refine PE.imp (pe_ix (ix_tup.or (ix_list.or ((ix_dict C.un).or (ix_str.or ix_list)))) ha hb hs) fun _ _ _ => r2_ok (op2_or op2_IxT (op2_or op2_IxL (op2_or op2_IxK (op2_or op2_IxS op2_IxN)))) ?_
  exact oOr_nx nx_IxT (oOr_nx nx_IxL (oOr_nx nx_IxK (oOr_nx nx_IxS nx_IxN)))
/-! slices -/
abbrev FO := Ev → So → Res (Option Int)
def rO (XR : XRel X.K) (Wx : WX) (f : FO) : TO := fun σ H Q => ∃ M S ev, Rl XR.wo X.K H M S ∧ Rs XR H M ev σ ∧ Pst XR Wx σ M H (fun _ _ a b => a = b) (f ev S) Q
abbrev FOx (X : Cx) (XR : XRel X.K) (Wx : WX) (e : Option Expr) (f : FO) : Prop := PO X e (rO XR Wx f)
@[simp] def fNoP : FO := fun _ S => .ok none S
@[simp] def fP (fa : FE) : FO := fun ev S => (fa ev S).bind fun w S1 => match asI w with
  | some i => .ok (some i) S1
  | none => .no
theorem PO.imp {e : Option Expr} {t t' : TO} (h : PO X e t) (g : ∀ σ H Q, t' σ H Q → t σ H Q) : PO X e t' := ⟨fun pins s σ H Q I q => h.run pins s σ H Q I (g _ _ _ q)⟩
theorem fo_none : FOx X XR Wx none fNoP := by
  refine PO.imp po_none ?_
  rintro σ H Q ⟨M, S, ev, l, rs, h⟩
  exact Pst.ok (v := none) h l rfl
theorem fo_some {e : Expr} {fa : FE} (he : FEx X XR Wx e fa) : FOx X XR Wx (some e) (fP fa) := by
  refine PO.imp (po_some he) ?_
  rintro σ H Q ⟨M, S, ev, l, rs, h⟩
  refine ⟨M, S, ev, l, rs, Pst.cut h ?_⟩
  intro w S1 M1 H1 v _ s1 l1 r1 h1
  split at h1
  · rename_i i e
    exact ⟨i, asI_ok r1 e, Pst.ok (v := some i) h1 l1 rfl⟩
  · exact h1.elim
def cutP (xs : List PyData) (lo hi : Option Int) : List PyData := (xs.drop (HT.sIx xs.length 0 lo)).take (HT.sIx xs.length xs.length hi - HT.sIx xs.length 0 lo)
@[simp] def oSl (w : W) (lo hi : Option Int) (S : So) : Res W := match asT w with
  | some ds => if HT.sIx ds.length 0 lo = 0 ∧ HT.sIx ds.length ds.length hi = ds.length then .no else .ok (.d (.tuple (cutP ds lo hi))) S
  | none => match asL w S with
    | some ds => .ok (.d (.list (cutP ds lo hi))) S
    | none => match asS w with
      | some z => if z.length ≤ sizeLine then .ok (.d (.str (cutS z lo hi))) S else .no
      | none => .no
@[simp] def fSl (fa : FE) (fl fh : FO) : FE := fun ev S => (fa ev S).bind fun w S1 => (fl ev S1).bind fun lo S2 => (fh ev S2).bind fun hi S3 => oSl w lo hi S3
theorem cut_ok {H : Hp} {M : Ms} {ds : List PyData} {vs : List V} {lo hi : Option Int} (r : DrL X.K H M ds vs) : DrL X.K H M (cutP ds lo hi) (cutV vs lo hi) := by
  unfold cutP cutV
  rw [r.len]
  exact (r.drop _).take _
theorem fe_sl {a : Expr} {lo hi : Option Expr} {fa : FE} {fl fh : FO} {p2 : Pos} (ha : FEx X XR Wx a fa) (hl : FOx X XR Wx lo fl) (hh : FOx X XR Wx hi fh) : FEx X XR Wx (.Subscript a (.Slice lo hi none p2) pos) (fSl fa fl fh) := by
  refine PE.imp (pe_slice (sl_tupP.or (sl_list.or sl_str)) ha hl hh) ?_
  rintro σ H Q ⟨M, S, ev, l, rs, h⟩
  refine ⟨M, S, ev, l, rs, Pst.cut h ?_⟩
  intro w S1 M1 H1 v _ s1 l1 r1 h1
  refine ⟨M1, S1, ev, l1, rs.stp s1, Pst.cut h1 ?_⟩
  rintro lo S2 M2 H2 lo' _ s2 l2 r2 h2
  subst r2
  refine ⟨M2, S2, ev, l2, (rs.stp s1).stp s2, Pst.cut h2 ?_⟩
  rintro hi S3 M3 H3 hi' _ s3 l3 r3 h3
  subst r3
  have r4 := (r1.stp s2).stp s3
  unfold oSl at h3
  split at h3
  · rename_i ds e1
    split at h3
    · exact h3.elim
    · rename_i c
      obtain ⟨p, vs, h4, h5, h6⟩ := asT_ok r4 e1
      exact .inl ⟨p, vs, h4, h5.sq, by rw [h6.len]; exact c, new_t l3 h3 (cut_ok h6)⟩
  · split at h3
    · rename_i ds e1
      obtain ⟨p, vs, h4, h5, h6⟩ := asL_ok l3 r4 e1
      exact .inr (.inl ⟨p, vs, h4, SqL.of h5, fun p np => new_l l3 h3 np (cut_ok h6)⟩)
    · split at h3
      · rename_i z e1
        split at h3
        · rename_i hz
          exact .inr (.inr ⟨z, asS_ok r4 e1, hz, imm_s l3 h3⟩)
        · exact h3.elim
      · exact h3.elim
/-! built-ins by name -/
@[simp] def fB1 (op : List W → So → Res W) (fa : FA) : FE := fun ev S => (fa ev S).bind fun ws S1 => op ws S1
def OpN {K : PySem.W.Frag} (XR : XRel K) (op : List W → So → Res W) (r : List V → Hp → VK → Prop) : Prop := ∀ (H : Hp) (M : Ms) (S S' : So) (xs : List W) (w : W) (vs : List V) (Q : VK), Rl XR.wo K H M S → RWs XR H M xs vs → op xs S = .ok w S' → Nxt XR M H w S' Q → r vs H Q
def NXN (op : List W → So → Res W) : Prop := ∀ xs S c f S', op xs S ≠ .ex c f S'
theorem rN_ok {op : List W → So → Res W} {r : List V → Hp → VK → Prop} {fa : FA} (ho : OpN XR op r) (nx : NXN op) {σ : L2.St} {H : Hp} {Q : VK} (h : rE XR Wx (fB1 op fa) σ H Q) : tCB r (rA XR Wx fa) σ H Q := by
  obtain ⟨M, S, ev, l, rs, h⟩ := h
  refine ⟨M, S, ev, l, rs, Pst.cut h ?_⟩
  intro ws S1 M1 H1 vs _ s1 l1 r1 h1
  cases e : op ws S1 with
  | ok w S' =>
    rw [e] at h1
    exact ho H1 M1 S1 S' ws w vs Q l1 r1 e h1
  | ex c f S' => exact absurd e (nx _ _ _ _ _)
  | no => rw [e] at h1; exact h1.elim
theorem fe_bi {id : String} {r : List V → Hp → VK → Prop} {op : List W → So → Res W} {x : Str} {e : Expr} {es : List Expr} {p : Pos} {fa : FA} (hc : CallR X (.builtin id) r) (ho : OpN XR op r) (nx : NXN op) (hg : Gl X x) (hm : X.mg x = none) (hv : bootBuiltins x = some (.builtin id)) (ha : FAx X XR Wx (e :: es) fa)
    (hn : x ≠ "__name__" := by decide) (hdb : (x == ("__debug__" : Str)) = false := by decide) (he : starEach (e :: es) X.env = (false, eval e X.env) :: starEach es X.env := by rfl) (hpl : (backTo pos (starEach es X.env)).any (·.1) = false := by rfl) :
    FEx X XR Wx (.Call (.Name x p) (e :: es) [] pos) (fB1 op fa) := PE.imp (pe_callB hc hg hm hv ha hn hdb he hpl) fun _ _ _ => rN_ok ho nx
theorem fe_ty {T : String} {r : List V → Hp → VK → Prop} {op : List W → So → Res W} {x : Str} {e : Expr} {es : List Expr} {p : Pos} {fa : FA} (hc : CallR X (.type T) r) (ho : OpN XR op r) (nx : NXN op) (hg : Gl X x) (hm : X.mg x = none) (hv : bootBuiltins x = some (.type T)) (ha : FAx X XR Wx (e :: es) fa)
    (hn : x ≠ "__name__" := by decide) (hdb : (x == ("__debug__" : Str)) = false := by decide) (he : starEach (e :: es) X.env = (false, eval e X.env) :: starEach es X.env := by rfl) (hpl : (backTo pos (starEach es X.env)).any (·.1) = false := by rfl) :
    FEx X XR Wx (.Call (.Name x p) (e :: es) [] pos) (fB1 op fa) := PE.imp (pe_callTy hc hg hm hv ha hn hdb he hpl) fun _ _ _ => rN_ok ho nx
@[simp] def o1 (f : W → So → Res W) : List W → So → Res W := fun ws S => match ws with
  | [w] => f w S
  | _ => .no
def lenW (w : W) (S : So) : Res W := match w with
  | .d (.str z) => if z.length ≤ sizeLine then .ok (.d (.int z.length)) S else .no
  | .s ns => .ok (.d (.int ns.length)) S
  | w => match seqW w S with
    | some ds => .ok (.d (.int ds.length)) S
    | none => match asD w S with
      | some dd => .ok (.d (.int dd.length)) S
      | none => .no
def oLen : List W → So → Res W := o1 lenW
theorem nx_o1 {f : W → So → Res W} (h : NX1 f) : NXN (o1 f) := by
  intro xs S c v S' e
  unfold o1 at e
  split at e
  · exact h _ _ _ _ _ e
  · cases e
theorem nx_len : NX1 lenW := by
  intro x S c f S' e
  unfold lenW at e
  split at e
  · split at e <;> cases e
  · cases e
  · split at e
    · cases e
    · split at e <;> cases e
def rLen (K : PySem.W.Frag) : List V → Hp → VK → Prop := fun xs H Q => (∃ x n, xs = [x] ∧ LenV K x H n ∧ Q (.int n) H) ∨ ∃ a kvs, xs = [V.ref a] ∧ Rd H a (.dK kvs) ∧ Q (.int kvs.length) H
theorem call_lenRd : CallR X (.builtin "len") (fun xs H Q => ∃ a kvs, xs = [V.ref a] ∧ Rd H a (.dK kvs) ∧ Q (.int kvs.length) H) := by
  intro pins s σ H xs us Q I r h
  obtain ⟨a, kvs, rfl, ha, q⟩ := h
  obtain ⟨u, rfl, ru⟩ := vals1 r
  cases ru
  exact d_len I ha fun t s' I' => ⟨.int kvs.length, H, I', ⟨t, rfl⟩, q⟩
theorem opn_len : OpN XR oLen (rLen X.K) := by
  intro H M S S' xs w vs Q l rx e q
  unfold oLen o1 at e
  split at e
  · rename_i x
    cases rx with
    | cons r rr =>
      cases rr
      unfold lenW at e
      split at e
      · rename_i z
        split at e
        · rename_i hz
          cases e
          have r' : Dr X.K H M (.str z) _ := r
          unfold Dr at r'
          subst r'
          exact .inl ⟨_, z.length, rfl, ⟨hz, rfl⟩, imm_i l q⟩
        · cases e
      · rename_i ns
        cases e
        obtain ⟨a, h1, h2⟩ := r
        subst h1
        exact .inl ⟨_, ns.length, rfl, .inl ⟨ns.map V.int, h2.sq, by rw [List.length_map]⟩, imm_i l q⟩
      · split at e
        · rename_i ds e1
          cases e
          obtain ⟨a, us, h1, h2, h3⟩ := seqW_ok l r e1
          subst h1
          refine .inl ⟨_, ds.length, rfl, ?_, imm_i l q⟩
          rcases h2 with h2 | h2
          · exact .inr ⟨us, h2, h3.len.symm⟩
          · exact .inl ⟨us, h2, h3.len.symm⟩
        · split at e
          · rename_i dd e1
            cases e
            obtain ⟨a, us, h1, h2, h3⟩ := asD_at l r e1
            subst h1
            refine .inr ⟨a, us, rfl, h2, ?_⟩
            have e2 : us.length = dd.length := (Paired.length h3).symm
            rw [e2]
            exact imm_i l q
          · cases e
  · cases e
theorem fe_len {e : Expr} {fa : FA} {p : Pos} (hm : X.mg "len" = none) (hg : Gl X "len") (ha : FAx X XR Wx [e] fa) (he : starEach [e] X.env = (false, eval e X.env) :: starEach [] X.env := by rfl) : FEx X XR Wx (.Call (.Name "len" p) [e] [] pos) (fB1 oLen fa) :=
  fe_bi (call_len.or call_lenRd) opn_len (nx_o1 nx_len) hg hm PySem.boot_len ha (by decide) (by decide) he
end
end FL

set_option Elab.async false
set_option linter.all false
set_option maxRecDepth 100000
set_option maxHeartbeats 1000000
namespace FL
open PySem PySem.Spec PyProof.Rows
open L2
/-! isinstance of built-in types -/
def tyW (w : W) (S : So) : Option String := match w with
  | .d .none => some "NoneType"
  | .d (.bool _) => some "bool"
  | .d (.int _) => some "int"
  | .d (.str _) => some "str"
  | .d (.list _) => some "list"
  | .d (.tuple _) => some "tuple"
  | .d (.dict []) => some "dict"
  | .s _ => some "list"
  | .r n => match S[n]? with
    | some (.l _) => some "list"
    | some (.k _) => some "dict"
    | _ => none
  | _ => none
theorem bIsi : bootBuiltins "isinstance" = some (.builtin "isinstance") := by decide +kernel
section
variable {X : Cx} {XR : XRel X.K} {Wx : WX} {n : Nat} {pos p : Pos} {e o : Expr} {es : List Expr} {fa fo fe fi : FE} {fr : FA} {H : Hp} {M : Ms} {S : So}
theorem tyW_ok (l : Rl XR.wo X.K H M S) {w : W} {v : V} {t : String} (r : RW XR H M w v) (e : tyW w S = some t) : TyX X.K H v (.type t) := by
  have hd : ∀ {d : PyData}, w = .d d → Dr X.K H M d v := fun e => by
    subst e
    exact r
  unfold tyW at e
  split at e
  · cases e
    have z := hd rfl
    unfold Dr at z
    subst z
    exact .base .non
  · cases e
    have z := hd rfl
    unfold Dr at z
    subst z
    exact .base (.bl _)
  · cases e
    have z := hd rfl
    unfold Dr at z
    subst z
    exact .base (.int _)
  · cases e
    have z := hd rfl
    unfold Dr at z
    subst z
    exact .base (.str _)
  · cases e
    have z := hd rfl
    unfold Dr at z
    obtain ⟨a, xs, e1, q, h⟩ := z
    subst e1
    exact .base (.lst q.2)
  · cases e
    have z := hd rfl
    unfold Dr at z
    obtain ⟨a, xs, e1, q, h⟩ := z
    subst e1
    rcases q with ⟨_, o, _, q⟩ | ⟨o, its, n, q1, q2, _⟩
    · exact .fTuple q
    · exact .kTuple q1 q2
  · cases e
    have z := hd rfl
    unfold Dr at z
    obtain ⟨_, a, e1, q, h⟩ := z
    subst e1
    exact .base (.dK h)
  · cases e
    obtain ⟨a, e1, h⟩ := r
    subst e1
    rcases h with ⟨_, o, h⟩ | ⟨o, its, n, h1, h2, _⟩
    · exact .base (.frz h)
    · exact .kList h1 h2
  · obtain ⟨a, e1, e2⟩ := r
    subst e2
    split at e
    · rename_i xs e3
      cases e
      obtain ⟨u, h1, vs, rfl, h2⟩ := l.get e1 e3
      exact .base (.lst h1)
    · rename_i xs e3
      cases e
      obtain ⟨u, h1, vs, rfl, h2⟩ := l.get e1 e3
      exact .base (.dK h1)
    · cases e
  · cases e
def fIsi (t : String) (fa : FE) : FE := fun ev S => (fa ev S).bind fun w S1 => match tyW w S1 with
  | some a => match kitB a t with
    | some b => .ok (.d (.bool b)) S1
    | none => .no
  | none => .no
theorem fe_isi {T : String} {tn : Str} {p2 : Pos} (hm : X.mg "isinstance" = none) (hg : Gl X "isinstance") (ha : FEx X XR Wx e fa) (hm2 : X.mg tn = none) (hg2 : Gl X tn) (hb : bootBuiltins tn = some (.type T)) (hn2 : tn ≠ "__name__" := by decide) (hd2 : (tn == ("__debug__" : Str)) = false := by decide)
    (hs1 : starEach [e, .Name tn p2] X.env = (false, eval e X.env) :: starEach [.Name tn p2] X.env := by rfl) : FEx X XR Wx (.Call (.Name "isinstance" p) [e, .Name tn p2] [] pos) (fIsi T fa) := by
  refine PE.imp (pe_callB call_isi hg hm bIsi (pa_cons ha (pa_cons (pe_bltn hg2 hm2 hb (v := .ty T) rfl hn2 hd2) pa_nil) hs1) (by decide) (by decide) hs1 rfl) ?_
  rintro σ H Q ⟨M, S, ev, l, rs, h⟩
  refine ⟨M, S, ev, l, rs, Pst.cut h ?_⟩
  intro w S1 M1 H1 v _ s1 l1 r1 h1
  split at h1
  · rename_i a e1
    split at h1
    · rename_i b e2
      exact ⟨v, .ty T, .type a, .type T, b, rfl, .ty T, tyW_ok l1 r1 e1, kit_ty e2, imm_b l1 h1⟩
    · exact h1.elim
  · exact h1.elim
/-! int, tuple, list, all, any, sum, max, min -/
@[simp] def intW (w : W) (S : So) : Res W := match w with
  | .d (.int i) => .ok (.d (.int i)) S
  | .d (.bool b) => .ok (.d (.int (if b then 1 else 0))) S
  | _ => .no
theorem nx_int : NX1 intW := by
  intro x S c f S' e
  unfold intW at e
  split at e <;> cases e
theorem opn_int : OpN XR (o1 intW) (fun xs H Q => (∃ i, xs = [.int i] ∧ Q (.int i) H) ∨ ∃ k, xs = [.bl k] ∧ Q (.int (if k then 1 else 0)) H) := by
  intro H M S S' xs w vs Q l rx e q
  unfold o1 at e
  split at e
  · rename_i x
    cases rx with
    | cons r rr =>
      cases rr
      unfold intW at e
      split at e
      · rename_i i
        cases e
        have r' : Dr X.K H M (.int i) _ := r
        unfold Dr at r'
        subst r'
        exact .inl ⟨i, rfl, imm_i l q⟩
      · rename_i b
        cases e
        have r' : Dr X.K H M (.bool b) _ := r
        unfold Dr at r'
        subst r'
        exact .inr ⟨b, rfl, imm_i l q⟩
      · cases e
  · cases e
theorem bInt : bootBuiltins "int" = some (.type "int") := by decide +kernel
theorem bTuple : bootBuiltins "tuple" = some (.type "tuple") := by decide +kernel
theorem bList : bootBuiltins "list" = some (.type "list") := by decide +kernel
theorem bAll : bootBuiltins "all" = some (.builtin "all") := by decide +kernel
theorem bAny : bootBuiltins "any" = some (.builtin "any") := by decide +kernel
theorem bSum : bootBuiltins "sum" = some (.builtin "sum") := by decide +kernel
theorem bMax : bootBuiltins "max" = some (.builtin "max") := by decide +kernel
theorem bMin : bootBuiltins "min" = some (.builtin "min") := by decide +kernel
theorem fe_toInt (hm : X.mg "int" = none) (hg : Gl X "int") (ha : FAx X XR Wx [e] fr) (he : starEach [e] X.env = (false, eval e X.env) :: starEach [] X.env := by rfl) : FEx X XR Wx (.Call (.Name "int" p) [e] [] pos) (fB1 (o1 intW) fr) :=
  fe_ty call_int1 opn_int (nx_o1 nx_int) hg hm bInt ha (by decide) (by decide) he
def tupW (w : W) (S : So) : Res W := match asT w with
  | some ds => .ok (.d (.tuple ds)) S
  | none => match asL w S with
    | some ds => .ok (.d (.tuple ds)) S
    | none => .no
theorem nx_tup : NX1 tupW := by
  intro x S c f S' e
  unfold tupW at e
  split at e
  · cases e
  · split at e <;> cases e
theorem opn_tup : OpN XR (o1 tupW) (fun xs H Q => ∃ p ys, xs = [.ref p] ∧ ((SqL X.K H p ys ∧ NewT H ys Q) ∨ (SqT X.K H p ys ∧ Q (.ref p) H))) := by
  intro H M S S' xs w vs Q l rx e q
  unfold o1 at e
  split at e
  · rename_i x
    cases rx with
    | cons r rr =>
      cases rr
      unfold tupW at e
      split at e
      · rename_i ds e1
        cases e
        obtain ⟨a, us, h1, h2, h3⟩ := asT_ok r e1
        subst h1
        refine ⟨a, us, rfl, .inr ⟨h2.sq, imm_d l q ?_⟩⟩
        unfold Dr
        exact ⟨a, us, rfl, h2, h3⟩
      · split at e
        · rename_i ds e1
          cases e
          obtain ⟨a, us, h1, h2, h3⟩ := asL_ok l r e1
          subst h1
          exact ⟨a, us, rfl, .inl ⟨SqL.of h2, new_t l q h3⟩⟩
        · cases e
  · cases e
theorem fe_toTup (hm : X.mg "tuple" = none) (hg : Gl X "tuple") (ha : FAx X XR Wx [e] fr) (he : starEach [e] X.env = (false, eval e X.env) :: starEach [] X.env := by rfl) : FEx X XR Wx (.Call (.Name "tuple" p) [e] [] pos) (fB1 (o1 tupW) fr) :=
  fe_ty call_tupleP opn_tup (nx_o1 nx_tup) hg hm bTuple ha (by decide) (by decide) he
def lstW (w : W) (S : So) : Res W := match seqW w S with
  | some ds => .ok (.d (.list ds)) S
  | none => .no
def lstM (w : W) (S : So) : Res W := match seqW w S with
  | some ds => .ok (.r S.length) (S ++ [.l ds])
  | none => .no
theorem nx_lst : NX1 lstW := by
  intro x S c f S' e
  unfold lstW at e
  split at e <;> cases e
theorem nx_lstM : NX1 lstM := by
  intro x S c f S' e
  unfold lstM at e
  split at e <;> cases e
def rListOf (K : PySem.W.Frag) : List V → Hp → VK → Prop := fun xs H Q => ∃ p ys, xs = [.ref p] ∧ (SqL K H p ys ∨ SqT K H p ys) ∧ ∀ l, H l = none → Q (.ref l) (upd H l (.lst ys))
theorem opn_lst : OpN XR (o1 lstW) (rListOf X.K) := by
  intro H M S S' xs w vs Q l rx e q
  unfold o1 at e
  split at e
  · rename_i x
    cases rx with
    | cons r rr =>
      cases rr
      unfold lstW at e
      split at e
      · rename_i ds e1
        cases e
        obtain ⟨a, us, h1, h2, h3⟩ := seqW_ok l r e1
        subst h1
        exact ⟨a, us, rfl, h2.symm, fun p np => new_l l q np h3⟩
      · cases e
  · cases e
theorem opn_lstM : OpN XR (o1 lstM) (rListOf X.K) := by
  intro H M S S' xs w vs Q l rx e q
  unfold o1 at e
  split at e
  · rename_i x
    cases rx with
    | cons r rr =>
      cases rr
      unfold lstM at e
      split at e
      · rename_i ds e1
        cases e
        obtain ⟨a, us, h1, h2, h3⟩ := seqW_ok l r e1
        subst h1
        exact ⟨a, us, rfl, h2.symm, fun p np => new_m l q np h3⟩
      · cases e
  · cases e
theorem fe_toLst (hm : X.mg "list" = none) (hg : Gl X "list") (ha : FAx X XR Wx [e] fr) (he : starEach [e] X.env = (false, eval e X.env) :: starEach [] X.env := by rfl) : FEx X XR Wx (.Call (.Name "list" p) [e] [] pos) (fB1 (o1 lstW) fr) :=
  fe_ty call_list_of opn_lst (nx_o1 nx_lst) hg hm bList ha (by decide) (by decide) he
/-- a copy that may change -/
theorem fe_toMut (hm : X.mg "list" = none) (hg : Gl X "list") (ha : FAx X XR Wx [e] fr) (he : starEach [e] X.env = (false, eval e X.env) :: starEach [] X.env := by rfl) : FEx X XR Wx (.Call (.Name "list" p) [e] [] pos) (fB1 (o1 lstM) fr) :=
  fe_ty call_list_of opn_lstM (nx_o1 nx_lstM) hg hm bList ha (by decide) (by decide) he
def bools : List PyData → Option (List Bool)
  | [] => some []
  | .bool b :: r => (bools r).map (b :: ·)
  | _ :: _ => none
theorem bools_ok : ∀ {ds : List PyData} {bs : List Bool} {vs : List V}, DrL X.K H M ds vs → bools ds = some bs → vs = bs.map V.bl
  | [], bs, vs, h, e => by
    unfold DrL at h
    subst h
    cases e
    rfl
  | d :: ds, bs, vs, h, e => by
    obtain ⟨x, r, e1, h1, h2⟩ := h.cases
    subst e1
    cases d with
    | bool b =>
      unfold Dr at h1
      subst h1
      cases e2 : bools ds with
      | none => simp [bools, e2] at e
      | some cs =>
        have e3 : b :: cs = bs := by simpa [bools, e2] using e
        subst e3
        rw [bools_ok h2 e2]
        rfl
    | none | int _ | str _ | list _ | tuple _ | dict _ => cases e
def allW (w : W) (S : So) : Res W := match asL w S with
  | some ds => match bools ds with
    | some bs => .ok (.d (.bool (bs.all id))) S
    | none => .no
  | none => .no
def anyW (w : W) (S : So) : Res W := match asL w S with
  | some ds => match bools ds with
    | some bs => .ok (.d (.bool (bs.any id))) S
    | none => .no
  | none => .no
theorem nx_all : NX1 allW := by
  intro x S c f S' e
  unfold allW at e
  split at e
  · split at e <;> cases e
  · cases e
theorem nx_any : NX1 anyW := by
  intro x S c f S' e
  unfold anyW at e
  split at e
  · split at e <;> cases e
  · cases e
theorem opn_all : OpN XR (o1 allW) (rAll X.K) := by
  intro H M S S' xs w vs Q l rx e q
  unfold o1 at e
  split at e
  · rename_i x
    cases rx with
    | cons r rr =>
      cases rr
      unfold allW at e
      split at e
      · rename_i ds e1
        split at e
        · rename_i bs e2
          cases e
          obtain ⟨a, us, h1, h2, h3⟩ := asL_ok l r e1
          subst h1
          exact ⟨a, bs, rfl, SqL.of (by rw [h2, bools_ok h3 e2]), imm_b l q⟩
        · cases e
      · cases e
  · cases e
theorem opn_any : OpN XR (o1 anyW) (rAny X.K) := by
  intro H M S S' xs w vs Q l rx e q
  unfold o1 at e
  split at e
  · rename_i x
    cases rx with
    | cons r rr =>
      cases rr
      unfold anyW at e
      split at e
      · rename_i ds e1
        split at e
        · rename_i bs e2
          cases e
          obtain ⟨a, us, h1, h2, h3⟩ := asL_ok l r e1
          subst h1
          exact ⟨a, bs, rfl, SqL.of (by rw [h2, bools_ok h3 e2]), imm_b l q⟩
        · cases e
      · cases e
  · cases e
theorem fe_all (C : Ct X Wx n) (hm : X.mg "all" = none) (hg : Gl X "all") (ha : FAx X XR Wx [e] fr) (he : starEach [e] X.env = (false, eval e X.env) :: starEach [] X.env := by rfl) : FEx X XR Wx (.Call (.Name "all" p) [e] [] pos) (fB1 (o1 allW) fr) :=
  fe_bi (cr_all C.cal) opn_all (nx_o1 nx_all) hg hm bAll ha (by decide) (by decide) he
theorem fe_any (C : Ct X Wx n) (hm : X.mg "any" = none) (hg : Gl X "any") (ha : FAx X XR Wx [e] fr) (he : starEach [e] X.env = (false, eval e X.env) :: starEach [] X.env := by rfl) : FEx X XR Wx (.Call (.Name "any" p) [e] [] pos) (fB1 (o1 anyW) fr) :=
  fe_bi (cr_any C.cal) opn_any (nx_o1 nx_any) hg hm bAny ha (by decide) (by decide) he
def intsP : List PyData → Option (List Int)
  | [] => some []
  | .int b :: r => (intsP r).map (b :: ·)
  | _ :: _ => none
theorem ints_ok : ∀ {ds : List PyData} {bs : List Int} {vs : List V}, DrL X.K H M ds vs → intsP ds = some bs → vs = bs.map V.int
  | [], bs, vs, h, e => by
    unfold DrL at h
    subst h
    cases e
    rfl
  | d :: ds, bs, vs, h, e => by
    obtain ⟨x, r, e1, h1, h2⟩ := h.cases
    subst e1
    cases d with
    | int b =>
      unfold Dr at h1
      subst h1
      cases e2 : intsP ds with
      | none => simp [intsP, e2] at e
      | some cs =>
        have e3 : b :: cs = bs := by simpa [intsP, e2] using e
        subst e3
        rw [ints_ok h2 e2]
        rfl
    | none | bool _ | str _ | list _ | tuple _ | dict _ => cases e
@[simp] def sumW (w : W) (S : So) : Res W := match asL w S with
  | some ds => match intsP ds with
    | some bs => .ok (.d (.int bs.sum)) S
    | none => .no
  | none => .no
theorem nx_sum : NX1 sumW := by
  intro x S c f S' e
  unfold sumW at e
  split at e
  · split at e <;> cases e
  · cases e
theorem opn_sum : OpN XR (o1 sumW) (rSum X.K) := by
  intro H M S S' xs w vs Q l rx e q
  unfold o1 at e
  split at e
  · rename_i x
    cases rx with
    | cons r rr =>
      cases rr
      unfold sumW at e
      split at e
      · rename_i ds e1
        split at e
        · rename_i bs e2
          cases e
          obtain ⟨a, us, h1, h2, h3⟩ := asL_ok l r e1
          subst h1
          exact ⟨a, bs, rfl, SqL.of (by rw [h2, ints_ok h3 e2]), imm_i l q⟩
        · cases e
      · cases e
  · cases e
theorem fe_sum (C : Ct X Wx n) (hm : X.mg "sum" = none) (hg : Gl X "sum") (ha : FAx X XR Wx [e] fr) (he : starEach [e] X.env = (false, eval e X.env) :: starEach [] X.env := by rfl) : FEx X XR Wx (.Call (.Name "sum" p) [e] [] pos) (fB1 (o1 sumW) fr) :=
  fe_bi (cr_sum C.cal) opn_sum (nx_o1 nx_sum) hg hm bSum ha (by decide) (by decide) he
def o2I (g : Int → Int → Int) : List W → So → Res W := fun ws S => match ws with
  | [x, y] => match asI x, asI y with
    | some i, some j => .ok (.d (.int (g i j))) S
    | _, _ => .no
  | _ => .no
theorem nx_o2I {g} : NXN (o2I g) := by
  intro xs S c f S' e
  unfold o2I at e
  split at e
  · split at e <;> cases e
  · cases e
theorem opn_2I {g : Int → Int → Int} : OpN XR (o2I g) (fun xs H Q => ∃ i j, xs = [.int i, .int j] ∧ Q (.int (g i j)) H) := by
  intro H M S S' xs w vs Q l rx e q
  unfold o2I at e
  split at e
  · rename_i x y
    cases rx with
    | cons r rr =>
      cases rr with
      | cons r' rr =>
        cases rr
        split at e
        · rename_i i j e1 e2
          cases e
          exact ⟨i, j, by rw [asI_ok r e1, asI_ok r' e2], imm_i l q⟩
        · cases e
  · cases e
theorem fe_max2 {e2 : Expr} (C : Ct X Wx n) (hm : X.mg "max" = none) (hg : Gl X "max") (ha : FAx X XR Wx [e, e2] fr) (he : starEach [e, e2] X.env = (false, eval e X.env) :: starEach [e2] X.env := by rfl) (hpl : (backTo pos (starEach [e2] X.env)).any (·.1) = false := by rfl) :
    FEx X XR Wx (.Call (.Name "max" p) [e, e2] [] pos) (fB1 (o2I fun i j => if j > i then j else i) fr) := fe_bi (call_max2 C.cal) opn_2I nx_o2I hg hm bMax ha (by decide) (by decide) he hpl
theorem fe_min2 {e2 : Expr} (C : Ct X Wx n) (hm : X.mg "min" = none) (hg : Gl X "min") (ha : FAx X XR Wx [e, e2] fr) (he : starEach [e, e2] X.env = (false, eval e X.env) :: starEach [e2] X.env := by rfl) (hpl : (backTo pos (starEach [e2] X.env)).any (·.1) = false := by rfl) :
    FEx X XR Wx (.Call (.Name "min" p) [e, e2] [] pos) (fB1 (o2I fun i j => if j < i then j else i) fr) := fe_bi (call_min2 C.cal) opn_2I nx_o2I hg hm bMin ha (by decide) (by decide) he hpl
/-! methods of lists -/
def fM (op : W → List W → So → Res W) (fo : FE) (fa : FA) : FE := fun ev S => (fo ev S).bind fun x S1 => match asL x S1 with
  | some _ => (fa ev S1).bind fun ws S2 => op x ws S2
  | none => .no
def OpM {K : PySem.W.Frag} (XR : XRel K) (op : W → List W → So → Res W) (r : V → List V → Hp → VK → Prop) : Prop := ∀ (H : Hp) (M : Ms) (S S' : So) (x : W) (xs : List W) (w : W) (vx : V) (vs : List V) (Q : VK),
  Rl XR.wo K H M S → RW XR H M x vx → RWs XR H M xs vs → op x xs S = .ok w S' → Nxt XR M H w S' Q → r vx vs H Q
def NXM (op : W → List W → So → Res W) : Prop := ∀ x xs S c f S', op x xs S ≠ .ex c f S'
theorem mls {w : W} {v : V} {xs : List PyData} (l : Rl XR.wo X.K H M S) (r : RW XR H M w v) (e : asL w S = some xs) : tyV X.K "list" v H := by
  obtain ⟨a, us, h1, h2, h3⟩ := asL_ok l r e
  subst h1
  exact .inl ⟨rfl, us, SqL.of h2⟩
theorem rM_ok {op : W → List W → So → Res W} {r : V → List V → Hp → VK → Prop} (ho : OpM XR op r) (nx : NXM op) {σ : L2.St} {H : Hp} {Q : VK} (h : rE XR Wx (fM op fo fr) σ H Q) : tBM X.K "list" r (rE XR Wx fo) (rA XR Wx fr) σ H Q := by
  obtain ⟨M, S, ev, l, rs, h⟩ := h
  refine ⟨M, S, ev, l, rs, Pst.cut h ?_⟩
  intro x S1 M1 H1 vx _ s1 l1 r1 h1
  split at h1
  · rename_i ds e1
    refine ⟨mls l1 r1 e1, M1, S1, ev, l1, rs.stp s1, Pst.cut h1 ?_⟩
    intro ws S2 M2 H2 vs _ s2 l2 r2 h2
    cases e2 : op x ws S2 with
    | ok w S' =>
      rw [e2] at h2
      exact ho H2 M2 S2 S' x ws w vx vs Q l2 (r1.stp s2) r2 e2 h2
    | ex c f S' => exact absurd e2 (nx _ _ _ _ _ _)
    | no => rw [e2] at h2; exact h2.elim
  · exact h1.elim
/-- one of what may change gets other items -/
theorem set_r {K : PySem.W.Frag} {XR : XRel K} {k : Nat} {a : Addr} {ys : List PyData} {us : List V} {w : W} {v : V} {Q : VK} (l : Rl XR.wo K H M S) (e1 : M.m[k]? = some a) (nz : ∀ od u, H a ≠ some (.frz od u)) (h : DrL K H M ys us) (q : Nxt XR M H w (S.set k (.l ys)) Q) (r : ∀ H', Stp M H M H' → RW XR H' M w v) : Q v (upd H a (.lst us)) := by
  have s : Stp M H M (upd H a (.lst us)) := stp_set (List.mem_iff_getElem?.mpr ⟨k, e1⟩) nz
  exact q M _ v s (l.set e1 ⟨us, rfl, DrL.stp s _ _ h⟩) (r _ s)
theorem fe_m {op : W → List W → So → Res W} {r : V → List V → Hp → VK → Prop} (ho : OpM XR op r) (nx : NXM op) (h : PE X e (tBM X.K "list" r (rE XR Wx fo) (rA XR Wx fr))) : FEx X XR Wx e (fM op fo fr) := PE.imp h fun _ _ _ => rM_ok ho nx
def oAppend : W → List W → So → Res W := fun x ws S => match x, ws with
  | .r k, [.d y] => match S[k]? with
    | some (.l xs) => if xs.length < sizeLine then .ok (.d .none) (S.set k (.l (xs ++ [y]))) else .no
    | _ => .no
  | _, _ => .no
theorem nx_append : NXM oAppend := by
  intro x xs S c f S' e
  unfold oAppend at e
  split at e
  · split at e
    · split at e <;> cases e
    · cases e
  · cases e
theorem opm_append {K : PySem.W.Frag} {XR : XRel K} : OpM XR oAppend rAppend := by
  intro H M S S' x xs w vx vs Q l rx rxs e q
  unfold oAppend at e
  split at e
  · rename_i k y
    obtain ⟨a, e1, e2⟩ := rx
    split at e
    · rename_i ys e3
      split at e
      · rename_i c
        cases e
        obtain ⟨u, h1, us, rfl, h2⟩ := l.get e1 e3
        cases rxs with
        | cons r rr =>
          cases rr
          refine ⟨a, us, _, e2, rfl, h1, by rw [h2.len]; exact c, ?_⟩
          exact set_r l e1 (by intro od u z; rw [h1] at z; cases z) (h2.append (.cons r .nil)) q fun H' s => by show Dr K H' M .none .non; unfold Dr; rfl
      · cases e
    · cases e
  · cases e
def oExtend : W → List W → So → Res W := fun x ws S => match x, ws with
  | .r k, [w] => match S[k]?, asL w S with
    | some (.l xs), some zs => if xs.length + zs.length ≤ sizeLine then .ok (.d .none) (S.set k (.l (xs ++ zs))) else .no
    | _, _ => .no
  | _, _ => .no
theorem nx_extend : NXM oExtend := by
  intro x xs S c f S' e
  unfold oExtend at e
  split at e
  · split at e
    · split at e <;> cases e
    · cases e
  · cases e
theorem opm_extend {K : PySem.W.Frag} {XR : XRel K} : OpM XR oExtend rExtend := by
  intro H M S S' x xs w vx vs Q l rx rxs e q
  unfold oExtend at e
  split at e
  · rename_i k y
    obtain ⟨a, e1, e2⟩ := rx
    split at e
    · rename_i ys zs e3 e4
      split at e
      · rename_i c
        cases e
        obtain ⟨u, h1, us, rfl, h2⟩ := l.get e1 e3
        cases rxs with
        | cons r rr =>
          cases rr
          obtain ⟨b, ts, g1, g2, g3⟩ := asL_ok l r e4
          subst g1
          refine ⟨a, b, us, ts, e2, rfl, h1, g2, by rw [h2.len, g3.len]; exact c, ?_⟩
          exact set_r l e1 (by intro od u z; rw [h1] at z; cases z) (h2.append g3) q fun H' s => by show Dr K H' M .none .non; unfold Dr; rfl
      · cases e
    · cases e
  · cases e
def oPop : W → So → Res W := fun x S => match x with
  | .r k => match S[k]? with
    | some (.l xs) => match xs[xs.length - 1]? with
      | some y => .ok (.d y) (S.set k (.l xs.dropLast))
      | none => .no
    | _ => .no
  | _ => .no
theorem nx_pop : NX1 oPop := by
  intro x S c f S' e
  unfold oPop at e
  split at e
  · split at e
    · split at e <;> cases e
    · cases e
  · cases e
theorem fe_pop {apos : Pos} (ho : FEx X XR Wx o fo) (h : PE X (.Call (.Attribute o "pop" apos) [] [] pos) (tBM0 X.K "list" rPop (rE XR Wx fo))) : FEx X XR Wx (.Call (.Attribute o "pop" apos) [] [] pos) (f1 oPop fo) := by
  refine PE.imp h ?_
  rintro σ H Q ⟨M, S, ev, l, rs, h⟩
  refine ⟨M, S, ev, l, rs, Pst.cut h ?_⟩
  intro x S1 M1 H1 vx _ s1 l1 r1 h1
  unfold oPop at h1
  split at h1
  · rename_i k
    split at h1
    · rename_i xs e1
      split at h1
      · rename_i y e2
        obtain ⟨a, e3, e4⟩ := r1
        obtain ⟨u, g1, us, rfl, g2⟩ := l1.get e3 e1
        subst e4
        refine ⟨.inl ⟨rfl, us, SqL.of g1⟩, ?_⟩
        obtain ⟨v, e5, g3⟩ := g2.get e2
        refine ⟨a, us, v, rfl, rfl, g1, by rw [g2.len]; exact e5, ?_⟩
        exact set_r l1 e3 (by intro od u z; rw [g1] at z; cases z) g2.dropLast h1 fun H' s => Dr.stp s y v g3
      · exact h1.elim
    · exact h1.elim
  · exact h1.elim
def oPopAt : W → List W → So → Res W := fun x ws S => match x, ws with
  | .r k, [w] => match S[k]?, asI w with
    | some (.l xs), some i => if -(2 ^ 63) ≤ i ∧ i < 2 ^ 63 then match seqIndex? i xs.length with
      | some j => match xs[j]? with
        | some y => .ok (.d y) (S.set k (.l (xs.eraseIdx j)))
        | none => .no
      | none => .no else .no
    | _, _ => .no
  | _, _ => .no
theorem nx_popAt : NXM oPopAt := by
  intro x xs S c f S' e
  unfold oPopAt at e
  split at e
  · split at e
    · split at e
      · split at e
        · split at e <;> cases e
        · cases e
      · cases e
    · cases e
  · cases e
theorem opm_popAt {K : PySem.W.Frag} {XR : XRel K} : OpM XR oPopAt rPopAt := by
  intro H M S S' x xs w vx vs Q l rx rxs e q
  unfold oPopAt at e
  split at e
  · rename_i k y
    obtain ⟨a, e1, e2⟩ := rx
    split at e
    · rename_i ys i e3 e4
      split at e
      · rename_i c
        split at e
        · rename_i j e5
          split at e
          · rename_i y e6
            cases e
            obtain ⟨u, h1, us, rfl, h2⟩ := l.get e1 e3
            cases rxs with
            | cons r rr =>
              cases rr
              obtain ⟨v, e7, h3⟩ := h2.get e6
              refine ⟨a, us, i, j, v, e2, by rw [asI_ok r e4], h1, c.1, c.2, by rw [h2.len]; exact e5, e7, ?_⟩
              exact set_r l e1 (by intro od u z; rw [h1] at z; cases z) (h2.erase j) q fun H' s => Dr.stp s y v h3
          · cases e
        · cases e
      · cases e
    · cases e
  · cases e
/-! o[i] = e, a list -/
@[simp] def fSetIx (fe fo fi : FE) : FS := fun ev S => (fe ev S).toOut ev fun v S1 => (fo ev S1).toOut ev fun o S2 => (fi ev S2).toOut ev fun i S3 => match o, asI i, v with
  | .r k, some j, .d y => match S3[k]? with
    | some (.l xs) => match ixN xs.length j with
      | some m => .nx ev (S3.set k (.l (xs.set m y)))
      | none => .no
    | _ => .no
  | _, _, _ => .no
theorem fs_setIx {i : Expr} {p2 : Pos} (he : FEx X XR Wx e fe) (ho : FEx X XR Wx o fo) (hi : FEx X XR Wx i fi)
    (ha : ∀ v, assign (.Subscript o i p2) X.env v = (do
      let ov ← holding [v] (eval o X.env)
      let iv ← holding [v, ov] (eval i X.env)
      standAt p2
      holding [v, ov, iv] (setItem ov iv v)
      release [v, ov, iv] []) := by intro _; rfl)
    (hs : swapsWithSole [.Subscript o i p2] e pos.line X.env = pure false := by rfl) (hw : swappedStores [.Subscript o i p2] e X.env = pure none := by rfl)
    (h1 : (assignEach [.Subscript o i p2] X.env).map (·.2) = [assign (.Subscript o i p2) X.env] := by rfl) : FSx X XR Wx (.Assign [.Subscript o i p2] e pos) (fSetIx fe fo fi) := by
  refine PS.imp (ps_asg he (pg_sub ho hi set_list ha) hs hw h1) ?_
  rintro D σ H ⟨M, S, ev, l, rs, h⟩
  refine toOut_ok l rs h ?_
  intro w S1 M1 H1 v s1 l1 rs1 r1 h1
  refine toOut_ok l1 rs1 h1 ?_
  intro w2 S2 M2 H2 v2 s2 l2 rs2 r2 h2
  refine toOut_ok l2 rs2 h2 ?_
  intro w3 S3 M3 H3 v3 s3 l3 rs3 r3 h3
  split at h3
  · rename_i k j y e1
    split at h3
    · rename_i xs e2
      split at h3
      · rename_i m e3
        obtain ⟨a, e4, e5⟩ := r2.stp s3
        obtain ⟨u, g1, us, rfl, g2⟩ := l3.get e4 e2
        refine ⟨a, us, j, m, e5, asI_ok r3 e1, g1, by rw [g2.len]; exact e3, ?_⟩
        have dy := (r1.stp s2).stp s3
        have s4 : Stp M3 H3 M3 (upd H3 a (.lst (us.set m v))) := stp_set (List.mem_iff_getElem?.mpr ⟨k, e4⟩) (by intro od u z; rw [g1] at z; cases z)
        exact h3 M3 _ σ s4 (l3.set e4 ⟨_, rfl, DrL.stp s4 _ _ (g2.set m dy)⟩) (rs3.stp s4)
      · exact h3.elim
    · exact h3.elim
  · exact h3.elim
end
end FL

set_option Elab.async false
set_option linter.all false
set_option maxRecDepth 100000
set_option maxHeartbeats 1000000
namespace FL
open PySem PySem.Spec PyProof.Rows
open L2
/-! a place that was set apart is set free -/
def Ms.drop (M : Ms) (p : Addr) : Ms := ⟨M.m, M.x.filter (· ≠ p)⟩
section
variable {wo : World} {K : PySem.W.Frag} {H H2 : Hp} {M M2 : Ms} {S S2 : So} {p : Addr} {o : HO}
theorem drop_sub : ∀ b, b ∈ M.drop p → b ∈ M := fun b h => by
  rcases h with h | h
  · exact Or.inl h
  · exact Or.inr (List.mem_filter.mp h).1
theorem drop_out (hm : p ∉ M.m) : p ∉ M.drop p := fun h => by
  rcases h with h | h
  · exact hm h
  · have := (List.mem_filter.mp h).2
    simp at this
theorem release (l : Rl wo K H M S) (np : H p = none) (s : Stp M H M2 H2) (px : p ∈ M2.x) (l2 : Rl wo K H2 M2 S2) :
    Stp M H (M2.drop p) (upd H2 p o) ∧ Rl wo K (upd H2 p o) (M2.drop p) S2 ∧ (∀ d v, Dr K H2 M2 d v → Dr K (upd H2 p o) (M2.drop p) d v) ∧ p ∉ M2.drop p := by
  have pm : p ∉ M2.m := (l2.ex p px).1
  have up : ∀ a u, a ∉ M2 → H2 a = some u → upd H2 p o a = some u := fun a u n e => by
    rw [upd_ne]
    · exact e
    · intro z
      subst z
      exact n (Or.inr px)
  refine ⟨⟨s.pre, fun a h => List.mem_filter.mpr ⟨s.sub a h, ?_⟩, fun a u n e => ?_, s.new, fun a h n n2 => s.newx a (List.mem_filter.mp h).1 n n2, fun a od u e => by rw [upd_ne (ne_of_none e np)]; exact s.kz a od u e⟩, ⟨l2.nd, ?_, fun a m => ⟨(l2.ex a (List.mem_filter.mp m).1).1, upd_some (l2.ex a (List.mem_filter.mp m).1).2⟩⟩, fun d v h => Dr.les drop_sub d v (Dr.upd up d v h), drop_out pm⟩
  · have ne : a ≠ p := fun z => by
      subst z
      exact l.notin np (Or.inr h)
    simpa using ne
  · rw [upd_ne (ne_of_none e np)]
    exact s.keep a u n e
  · refine Paired.mapI l2.ob fun j a b e ⟨u, h1, h2⟩ => ⟨u, ?_, RO.les drop_sub (RO.upd up h2)⟩
    rw [upd_ne]
    · exact h1
    · intro z
      subst z
      exact pm (List.mem_iff_getElem?.mpr ⟨j, e⟩)
theorem release2 {b : Ob} (l : Rl wo K H M S) (np : H p = none) (s : Stp M H M2 H2) (px : p ∈ M2.x) (l2 : Rl wo K H2 M2 S2) (hb : (∀ d v, Dr K H2 M2 d v → Dr K (upd H2 p o) ((M2.drop p).add p) d v) → RO wo K (upd H2 p o) ((M2.drop p).add p) p b o) :
    Stp M H ((M2.drop p).add p) (upd H2 p o) ∧ Rl wo K (upd H2 p o) ((M2.drop p).add p) (S2 ++ [b]) ∧ ((M2.drop p).add p).m[S2.length]? = some p := by
  obtain ⟨s3, l3, d3, n3⟩ := release (o := o) l np s px l2
  have pm : p ∉ M2.m := (l2.ex p px).1
  have sub5 : ∀ c, c ∈ (M2.drop p).add p → c ∈ M2 := fun c h => by
    rcases h with h | h
    · rcases List.mem_append.mp h with z | z
      · exact Or.inl z
      · rw [List.mem_singleton.mp z]
        exact Or.inr px
    · exact Or.inr (List.mem_filter.mp h).1
  have up : ∀ a u, a ∉ M2 → H2 a = some u → upd H2 p o a = some u := fun a u n e => by
    rw [upd_ne]
    · exact e
    · intro z
      subst z
      exact n (Or.inr px)
  refine ⟨⟨s3.pre.trans (List.prefix_append _ _), s3.sub, s3.keep, fun a ha hn => ?_, fun a ha hn hn2 => s3.newx a ha hn hn2, s3.kz⟩, ⟨?_, Paired.snoc ⟨o, upd_same, hb fun d v h => Dr.les sub5 d v (Dr.upd up d v h)⟩ ?_, fun a m => ⟨fun z => ?_, (l3.ex a m).2⟩⟩, ?_⟩
  · rcases List.mem_append.mp ha with z | z
    · exact s3.new a z hn
    · rw [List.mem_singleton.mp z]
      exact np
  · show (M2.m ++ [p]).Nodup
    rw [List.nodup_append]
    refine ⟨l2.nd, by simp, fun a ha b hb => ?_⟩
    rw [List.mem_singleton.mp hb]
    intro e
    subst e
    exact pm ha
  · refine Paired.mapI l2.ob fun j a b e ⟨u, h1, h2⟩ => ⟨u, ?_, RO.les sub5 (RO.upd up h2)⟩
    rw [upd_ne]
    · exact h1
    · intro z
      subst z
      exact pm (List.mem_iff_getElem?.mpr ⟨j, e⟩)
  · rcases List.mem_append.mp z with z | z
    · exact (l3.ex a m).1 z
    · rw [List.mem_singleton.mp z] at m
      exact n3 (Or.inr m)
  · have e : M2.m.length = S2.length := Paired.length l2.ob
    show (M2.m ++ [p])[S2.length]? = some p
    rw [← e]
    simp
end
/-! a written dict -/
def mergeP (kvs more : List (Key × PyData)) : List (Key × PyData) := more.foldl (fun acc kv => if (acc.any fun p => decide (p.1 = kv.1)) = true then acc.map (fun p => if p.1 = kv.1 then (p.1, kv.2) else p) else acc ++ [(kv.1, kv.2)]) kvs
def fPairs : List (Key × FE) → Ev → So → Res (List (Key × PyData))
  | [], _, S => .ok [] S
  | (k, f) :: r, ev, S => (f ev S).bind fun w S1 => match w with
    | .d d => (fPairs r ev S1).bind fun ps S2 => .ok ((k, d) :: ps) S2
    | _ => .no
def fDisp (ps : List (Key × FE)) : FE := fun ev S => (fPairs ps ev S).bind fun kvs S1 => if kvs.length ≤ 15 then .ok (.k (mergeP [] kvs)) S1 else .no
def fDispM (ps : List (Key × FE)) : FE := fun ev S => (fPairs ps ev S).bind fun kvs S1 => if kvs.length ≤ 15 then .ok (.r S1.length) (S1 ++ [.k (mergeP [] kvs)]) else .no
section
variable {X : Cx} {XR : XRel X.K} {Wx : WX} {n : Nat} {pos : Pos}
theorem putP_ok {H : Hp} {M : Ms} {acc : List (Key × PyData)} {vs : List (Key × V)} {k : Key} {d : PyData} {v : V} (h : Paired (KD (K := X.K) H M) acc vs) (hd : Dr X.K H M d v) :
    Paired (KD (K := X.K) H M) (if (acc.any fun p => decide (p.1 = k)) = true then acc.map (fun p => if p.1 = k then (p.1, d) else p) else acc ++ [(k, d)]) (putK vs k v) := by
  unfold putK
  have ea : (acc.any fun p => decide (p.1 = k)) = (vs.any fun p => decide (p.1 = k)) := by
    induction h with
    | nil => rfl
    | @cons p q ps qs r t ih =>
      have e : p.1 = q.1 := r.1
      rw [List.any_cons, List.any_cons, ih, e]
  rw [ea]
  split
  · rename_i c0
    clear ea c0
    induction h with
    | nil => exact .nil
    | @cons p q ps qs r t ih =>
      have e : p.1 = q.1 := r.1
      rw [List.map_cons, List.map_cons]
      refine .cons ?_ ih
      by_cases c : p.1 = k
      · rw [if_pos c, if_pos (e ▸ c)]
        exact ⟨e, hd⟩
      · rw [if_neg c, if_neg (fun z => c (e.trans z))]
        exact r
  · exact Paired.snoc ⟨rfl, hd⟩ h
theorem merge_ok {H : Hp} {M : Ms} : ∀ {more : List (Key × PyData)} {mv : List (Key × V)} {acc : List (Key × PyData)} {vs : List (Key × V)}, Paired (KD (K := X.K) H M) more mv → Paired (KD (K := X.K) H M) acc vs → Paired (KD (K := X.K) H M) (mergeP acc more) (mergeK vs mv)
  | _, _, _, _, .nil, h => h
  | _, _, acc, vs, .cons (a := p) (b := q) r t, h => by
    have e : p.1 = q.1 := r.1
    unfold mergeP mergeK
    rw [List.foldl_cons, List.foldl_cons]
    refine merge_ok t ?_
    rw [← e]
    exact putP_ok h r.2
abbrev PV (K : PySem.W.Frag) (H : Hp) (M : Ms) (ks : List (Key × PyData)) (ps : List (V × V)) : Prop := Paired (fun (a : Key × PyData) (b : V × V) => b.1 = kV a.1 ∧ Dr K H M a.2 b.2) ks ps
theorem PV.stp {K : PySem.W.Frag} {H H1 : Hp} {M M1 : Ms} (s : Stp M H M1 H1) {ks : List (Key × PyData)} {ps : List (V × V)} (h : PV K H M ks ps) : PV K H1 M1 ks ps := Paired.imp (fun _ _ z => ⟨z.1, Dr.stp s _ _ z.2⟩) h
def trs (XR : XRel X.K) (Wx : WX) (ps : List (Key × FE)) : List (TE × TE) := ps.map fun p => (tC (kV p.1), rE XR Wx p.2)
theorem pairs_ok : ∀ {ps : List (Key × FE)} {M : Ms} {S : So} {ev : Ev} {σ : L2.St} {H : Hp} {Q : List (V × V) → Hp → Prop}, Rl XR.wo X.K H M S → Rs XR H M ev σ → Pst XR Wx σ M H (fun H' M' => PV X.K H' M') (fPairs ps ev S) Q → tPairs (trs XR Wx ps) σ H Q
  | [], M, S, ev, σ, H, Q, l, rs, h => Pst.ok (v := []) h l .nil
  | (k, f) :: r, M, S, ev, σ, H, Q, l, rs, h => by
    show rE XR Wx f σ H fun y H2 => tPairs (trs XR Wx r) σ H2 fun ps H3 => Q ((kV k, y) :: ps) H3
    refine ⟨M, S, ev, l, rs, Pst.cut h ?_⟩
    intro w S1 M1 H1 v _ s1 l1 r1 h1
    cases w with
    | d d =>
      refine pairs_ok l1 (rs.stp s1) ?_
      dsimp only at h1
      cases e : fPairs r ev S1 with
      | ok kvs S2 =>
        rw [e] at h1
        intro M2 H2 ps s2 l2 r2
        exact h1 M2 H2 _ s2 l2 (.cons ⟨rfl, Dr.stp s2 _ _ r1⟩ r2)
      | ex c f S2 => rw [e] at h1; exact h1
      | no => rw [e] at h1; exact h1
    | r _ => exact h1.elim
    | k _ => exact h1.elim
    | x _ _ => exact h1.elim
    | s _ => exact h1.elim
    | p _ => exact h1.elim
theorem pv_split {H : Hp} {M : Ms} : ∀ {ks : List (Key × PyData)} {ps : List (V × V)}, PV X.K H M ks ps → ∃ kvs : List (Key × V), ps = kvs.map (fun kv => (kV kv.1, kv.2)) ∧ Paired (KD (K := X.K) H M) ks kvs
  | _, _, .nil => ⟨[], rfl, .nil⟩
  | _, _, .cons (a := a) (b := b) r t => by
    obtain ⟨kvs, e, h⟩ := pv_split t
    refine ⟨(a.1, b.2) :: kvs, ?_, .cons ⟨rfl, r.2⟩ h⟩
    rw [List.map_cons, ← e, ← r.1]
theorem pe_fz {e : Expr} {t : TE} (h : PE X e t) : PE X e (fun σ H Q => t σ H (fz Q)) := by
  refine ⟨fun pins s σ H Q I hw => ?_⟩
  refine thn (h.run pins s σ H _ I hw) fun v s1 ⟨x, H1, I1, r, d, u, ex, hd, mu, q⟩ => ?_
  obtain ⟨od, I2⟩ := I1.lock hd mu
  exact ⟨x, _, I2, r, q od⟩
theorem disp_ok (mu : Bool) {ps : List (Key × FE)} {σ : L2.St} {H : Hp} {Q : VK} (h : rE XR Wx (if mu then fDispM ps else fDisp ps) σ H Q) : tDisp (trs XR Wx ps) σ H (if mu then Q else fz Q) := by
  obtain ⟨M, S, ev, l, rs, h⟩ := h
  intro p np
  have s0 : Stp M H (M.res p) (upd H p (.dK [])) := stp_res np
  have l0 : Rl XR.wo X.K (upd H p (.dK [])) (M.res p) S := l.res np
  refine pairs_ok l0 (rs.stp s0) ?_
  have e0 : (if mu then fDispM ps else fDisp ps) ev S = (fPairs ps ev S).bind fun kvs S1 => if kvs.length ≤ 15 then (if mu then .ok (.r S1.length) (S1 ++ [.k (mergeP [] kvs)]) else .ok (.k (mergeP [] kvs)) S1) else .no := by
    cases mu <;> rfl
  rw [e0] at h
  cases e : fPairs ps ev S with
  | no => rw [e] at h; exact h
  | ex c f S2 =>
    rw [e] at h
    exact fun M2 H2 cls dx s2 => h M2 H2 cls dx (s0.trans s2)
  | ok kvs S2 =>
    rw [e] at h
    intro M2 H2 pv s2 l2 r2
    have px : p ∈ M2.x := s2.sub p List.mem_cons_self
    have pH : H2 p = some (.dK []) := s2.keep p _ (l0.ex p List.mem_cons_self).1 upd_same
    dsimp only [Res.bind] at h
    split at h
    · rename_i c
      obtain ⟨kw, e2, hk⟩ := pv_split r2
      refine ⟨pH, kw, e2, by rw [← Paired.length hk]; exact c, ?_⟩
      obtain ⟨s3, l3, d3, n3⟩ := release (o := .dK (mergeK [] kw)) l np (s0.trans s2) px l2
      have hm : Paired (KD (K := X.K) (upd H2 p (.dK (mergeK [] kw))) (M2.drop p)) (mergeP [] kvs) (mergeK [] kw) := merge_ok (Paired.imp (fun _ _ z => ⟨z.1, d3 _ _ z.2⟩) hk) .nil
      cases mu with
      | false =>
        refine ⟨p, _, rfl, upd_same, trivial, fun od => ?_⟩
        obtain ⟨s5, l5, d5, n5⟩ := release (o := .frz od (.dK (mergeK [] kw))) l np (s0.trans s2) px l2
        rw [upd_upd]
        exact h _ _ _ s5 l5 ⟨p, _, rfl, n5, ⟨od, upd_same⟩, merge_ok (Paired.imp (fun _ _ z => ⟨z.1, d5 _ _ z.2⟩) hk) .nil⟩
      | true =>
        obtain ⟨s4, l4, e4⟩ := release2 (o := .dK (mergeK [] kw)) (b := .k (mergeP [] kvs)) l np (s0.trans s2) px l2 fun d4 => ⟨_, rfl, merge_ok (Paired.imp (fun _ _ z => ⟨z.1, d4 _ _ z.2⟩) hk) .nil⟩
        exact h _ _ _ s4 l4 ⟨p, e4, rfl⟩
    · exact h.elim
theorem fe_disp {keys : List (Option Expr)} {values : List Expr} {ps : List (Key × FE)} (h : PPs X pos keys values (trs XR Wx ps)) (hall : keys.all (·.isSome) = true) (hl : keys.length = values.length) (h0 : keys ≠ []) (h15 : keys.length ≤ 15) :
    FEx X XR Wx (.Dict keys values pos) (fDisp ps) := PE.imp (pe_fz (pe_disp h hall hl h0 h15)) fun _ _ _ => disp_ok false
theorem fe_dispM {keys : List (Option Expr)} {values : List Expr} {ps : List (Key × FE)} (h : PPs X pos keys values (trs XR Wx ps)) (hall : keys.all (·.isSome) = true) (hl : keys.length = values.length) (h0 : keys ≠ []) (h15 : keys.length ≤ 15) :
    FEx X XR Wx (.Dict keys values pos) (fDispM ps) := PE.imp (pe_disp h hall hl h0 h15) fun _ _ _ => disp_ok true
theorem fp_nil : PPs X pos [] [] (trs XR Wx []) := pps_nil
theorem fp_str {x : Str} {j : Nat} {p2 : Pos} {v : Expr} {ks : List (Option Expr)} {vs : List Expr} {f : FE} {r : List (Key × FE)} (hv : FEx X XR Wx v f) (hr : PPs X pos ks vs (trs XR Wx r)) :
    PPs X pos (some (.Constant (.str x) j p2) :: ks) (v :: vs) (trs XR Wx ((.inr x, f) :: r)) := pps_cons pe_str hv hr
theorem fp_int {x : Int} {j : Nat} {p2 : Pos} {v : Expr} {ks : List (Option Expr)} {vs : List Expr} {f : FE} {r : List (Key × FE)} (hv : FEx X XR Wx v f) (hr : PPs X pos ks vs (trs XR Wx r)) :
    PPs X pos (some (.Constant (.int x) j p2) :: ks) (v :: vs) (trs XR Wx ((.inl x, f) :: r)) := pps_cons pe_int hv hr
/-! d.get(k, e) -/
def fGet2 (fo fk fd : FE) : FE := fun ev S => (fo ev S).bind fun x S1 => match asD x S1 with
  | none => .no
  | some _ => (fk ev S1).bind fun y S2 => (fd ev S2).bind fun z S3 => match asD x S3 with
    | none => .no
    | some dd => match look dd y with
      | none => .no
      | some (some d) => .ok (.d d) S3
      | some none => .ok z S3
theorem fe_get2 {o e f : Expr} {apos cpos : Pos} {fo fk fd : FE} (C : Ct X Wx n) (ho : FEx X XR Wx o fo) (he : FEx X XR Wx e fk) (hf : FEx X XR Wx f fd) (m : M2 X o "get" apos e f cpos) : FEx X XR Wx (.Call (.Attribute o "get" apos) [e, f] [] cpos) (fGet2 fo fk fd) := by
  refine PE.imp (pe_dget2 (by have := C.un; omega) ho he hf m) ?_
  rintro σ H Q ⟨M, S, ev, l, rs, h⟩
  refine ⟨M, S, ev, l, rs, Pst.cut h ?_⟩
  intro x S1 M1 H1 vx _ s1 l1 r1 h1
  split at h1
  · exact h1.elim
  · rename_i dd0 e0
    obtain ⟨a, vs, e1, ha, _⟩ := asD_at l1 r1 e0
    refine ⟨a, e1, .inl ⟨vs, ha⟩, M1, S1, ev, l1, rs.stp s1, Pst.cut h1 ?_⟩
    intro y S2 M2 H2 vy _ s2 l2 r2 h2
    refine ⟨M2, S2, ev, l2, (rs.stp s1).stp s2, Pst.cut h2 ?_⟩
    intro z S3 M3 H3 vz _ s3 l3 r3 h3
    split at h3
    · exact h3.elim
    · rename_i dd e2
      split at h3
      · exact h3.elim
      · rename_i d e3
        obtain ⟨b, e4, h4 | ⟨d', u, h4, h5, h6⟩⟩ := asD_ok l3 ((r1.stp s2).stp s3) (r2.stp s3) e2 e3
        · cases h4.1
        · cases h4
          cases e1.symm.trans e4
          exact ⟨some u, h5, imm_d l3 h3 h6⟩
      · rename_i e3
        obtain ⟨b, e4, h4 | ⟨d', u, h4, h5, h6⟩⟩ := asD_ok l3 ((r1.stp s2).stp s3) (r2.stp s3) e2 e3
        · cases e1.symm.trans e4
          exact ⟨none, h4.2, imm l3 h3 r3⟩
        · cases h4
end
end FL

set_option Elab.async false
set_option linter.all false
set_option maxRecDepth 100000
set_option maxHeartbeats 4000000
namespace FL
open PySem PySem.Spec PyProof.Rows
open L2
/-! sets of texts, as they lie -/
def txOf (e : Int × Value) : Str := strOf e.2
section
variable {P : Program} {w : World}
def TxE (P : Program) (w : World) (e : Int × Value) : Prop := ∃ x tk, e = ((PySem.strKind P w).hash x, Value.str x tk)
structure Bd (P : Program) (w : World) (es : Array (Int × Value)) (t : SetTable) (S : Str → Bool) (n : Nat) : Prop where
  g : ∀ e, e ∈ es.toList → TxE P w e
  nd : (es.toList.map txOf).Nodup
  m : ∀ k, S k = true ↔ k ∈ es.toList.map txOf
  z : es.size = n
  b : n < scanBound
  f : t.fits es.size = true
  r : Ris t.place.toList
  l : w.params.followText "set-order" = true ∨ t.led = true
theorem TxE.is {e : Int × Value} (h : TxE P w e) (k : Str) : (PySem.strKind P w).is k e.2 = true ↔ txOf e = k := by
  obtain ⟨x, tk, rfl⟩ := h
  constructor
  · intro q
    exact (PySem.strKind P w).inj (.str x tk) x k (strKind_is _ _ _ _) q
  · rintro rfl
    exact strKind_is _ _ _ _
variable {es : Array (Int × Value)} {t : SetTable} {S : Str → Bool} {n : Nat}
theorem Bd.els (B : Bd P w es t S n) : ElemsOf (PySem.strKind P w) es.toList := fun e he => by
  obtain ⟨x, tk, rfl⟩ := B.g e he
  exact ⟨⟨x, strKind_is _ _ _ _, rfl⟩, rfl⟩
theorem Bd.mem (B : Bd P w es t S n) (k : Str) : S k = true ↔ ∃ e, e ∈ es.toList ∧ (PySem.strKind P w).is k e.2 = true := by
  rw [B.m k, List.mem_map]
  constructor
  · rintro ⟨e, he, q⟩
    exact ⟨e, he, ((B.g e he).is k).2 q⟩
  · rintro ⟨e, he, q⟩
    exact ⟨e, he, ((B.g e he).is k).1 q⟩
theorem Bd.perm (B : Bd P w es t S n) {es2 : Array (Int × Value)} {t2 : SetTable} (p : es2.toList.Perm es.toList) (f : t2.fits es2.size = true) (r : Ris t2.place.toList) (l : t2.led = t.led) : Bd P w es2 t2 S n := by
  refine ⟨fun e he => B.g e (p.mem_iff.mp he), (p.map txOf).nodup_iff.mpr B.nd, fun k => (B.m k).trans (p.map txOf).mem_iff.symm, ?_, B.b, f, r, B.l.imp id fun z => by rw [l]; exact z⟩
  rw [← B.z, ← Array.length_toList, p.length_eq, Array.length_toList]
theorem Bd.relay (B : Bd P w es t S n) (k : Nat) : Bd P w (relayAll t es k).1 (relayAll t es k).2.1 S n :=
  B.perm (relayAll_perm t es k) (relayAll_fits t es k) (relayAll_ris t es k) (relayAll_led t es k)
theorem Bd.off (B : Bd P w es t S n) : Bd P w es { t with plain := false } S n := ⟨B.g, B.nd, B.m, B.z, B.b, SetTable.fits_plain_off B.f, B.r, B.l⟩
theorem Bd.more (B : Bd P w es t S n) {k : Str} (tk : Tok) (hk : S k = false) (room : n + 1 < scanBound) : Bd P w (layNew t es ((PySem.strKind P w).hash k) (.str k tk)).1 (layNew t es ((PySem.strKind P w).hash k) (.str k tk)).2.1 (fun j => S j || decide (j = k)) (n + 1) := by
  have p0 := layNew_perm t es ((PySem.strKind P w).hash k) (.str k tk)
  rw [Array.toList_push] at p0
  have p : (layNew t es ((PySem.strKind P w).hash k) (.str k tk)).1.toList.Perm (((PySem.strKind P w).hash k, Value.str k tk) :: es.toList) := p0.trans (List.perm_append_singleton _ _)
  have pm := p.map txOf
  have nk : k ∉ es.toList.map txOf := fun c => by
    have := (B.m k).2 c
    rw [hk] at this
    cases this
  refine ⟨fun e he => ?_, pm.nodup_iff.mpr (List.nodup_cons.mpr ⟨nk, B.nd⟩), fun i => ?_, ?_, room, layNew_fits t es _ _, layNew_ris t es _ _ B.r, B.l.imp id fun z => by rw [layNew_led]; exact z⟩
  · rcases List.mem_cons.mp (p.mem_iff.mp he) with c | c
    · exact ⟨k, tk, c⟩
    · exact B.g e c
  · rw [pm.mem_iff, List.map_cons, List.mem_cons, Bool.or_eq_true, decide_eq_true_eq, B.m i]
    exact Or.comm
  · rw [← Array.length_toList, p.length_eq, List.length_cons, Array.length_toList, B.z]
theorem Bd.same (B : Bd P w es t S n) {k : Str} (hk : S k = true) : Bd P w es t (fun j => S j || decide (j = k)) n := by
  have e : (fun j => S j || decide (j = k)) = S := by
    funext j
    by_cases c : j = k
    · subst c
      rw [hk, Bool.true_or]
    · rw [decide_eq_false c, Bool.or_false]
  rw [e]
  exact B
def STx (P : Program) (w : World) (h : Heap) (a : Addr) (S : Str → Bool) (n : Nat) : Prop := ∃ o es ep t, h.get? a = some o ∧ o.ExactSet ∧ o.data = .set es ep t ∧ Bd P w es t S n
theorem STx.keep {h h' : Heap} {a : Addr} (R : STx P w h a S n) (k : ∀ o, h.get? a = some o → h'.get? a = some o) : STx P w h' a S n := by
  obtain ⟨o, es, ep, t, ho, q⟩ := R
  exact ⟨o, es, ep, t, k o ho, q⟩
variable {A : Around} {E : Value → Shared → Prop} {s : Shared} {a : Addr}
theorem put_bd {h : Heap} {o : Obj} {ep : Nat} {es2 : Array (Int × Value)} {t2 : SetTable} (ho : h.get? a = some o) (x : o.ExactSet) (hd : o.data = .set es ep t) (B : Bd P w es2 t2 S n) :
    ∃ o2, (h.update a (Obj.putSet es2 t2)).get? a = some o2 ∧ o2.ExactSet ∧ o2.data = .set es2 (ep + 1) t2 ∧ STx P w (h.update a (Obj.putSet es2 t2)) a S n := by
  have q := store_at (es' := es2) (t' := t2) ho hd
  exact ⟨_, q, x, rfl, _, _, _, _, q, x, rfl, B⟩
theorem stx_add {k : Str} {tk : Tok} {Q : Bool → Shared → Prop} (R : STx P w s.heap a S n) (room : n + 1 < scanBound)
    (hQ : ∀ h', Heap.SameBut a s.heap h' → STx P w h' a (fun j => S j || decide (j = k)) (if S k = true then n else n + 1) → Q (!S k) { s with heap := h' }) :
    wpAny (model P w) A (setAddHashed a (.str k tk) ((PySem.strKind P w).hash k)) Q E s := by
  obtain ⟨o, es, ep, t, ho, hex, hd, B⟩ := R
  unfold setAddHashed setAddHashedIn
  refine wpAny_holding (wpAny_bind (wpAny_setState_of ho hd B.f ?_))
  dsimp only
  rw [byScan_of (knd := PySem.strKind P w) (x := .str k tk) rfl (by rw [B.z]; exact B.b) B.els, if_pos rfl]
  unfold setAddByScan
  refine wpAny_bind (wpAny_bind (wpAny_rule (wpAny_bind (wpAny_setScan_of (strKind_is P w k tk) ho hd B.f B.els ?_))))
  cases c : List.findIdx? (fun e => (PySem.strKind P w).is k e.2) es.toList with
  | some j =>
    obtain ⟨hj, pj, _⟩ := List.findIdx?_eq_some_iff_getElem.mp c
    have hk : S k = true := (B.mem k).2 ⟨_, List.getElem_mem hj, pj⟩
    have q := hQ s.heap (.refl a _) ⟨o, es, ep, t, ho, hex, hd, by rw [if_pos hk]; exact B.same hk⟩
    rw [hk] at q
    exact wpAny_pure (wpAny_pure q)
  | none =>
    have hk : S k = false := by
      cases q : S k with
      | false => rfl
      | true =>
        obtain ⟨e, he, p⟩ := (B.mem k).1 q
        rw [List.findIdx?_eq_none_iff.mp c e he] at p
        cases p
    rw [hk] at hQ
    have B1 := B.more tk hk room
    dsimp only
    generalize layNew t es ((PySem.strKind P w).hash k) (.str k tk) = Z at B1 ⊢
    obtain ⟨es1, t1, wd, gv⟩ := Z
    dsimp only at B1 ⊢
    have fin : ∀ h', Heap.SameBut a s.heap h' → STx P w h' a (fun j => S j || decide (j = k)) (n + 1) → Q true { s with heap := h' } := fun h' e r => hQ h' e r
    have step : ∀ (g : Bool) (Q' : Unit → Shared → Prop) (s' : Shared), Q' () s' → wpAny (model P w) A (match g with | true => rule "set.scan.the-table-gave-way" | false => pure ()) Q' E s' := fun g Q' s' q => by
      cases g
      · exact wpAny_pure q
      · exact wpAny_rule q
    refine wpAny_bind (step gv _ _ ?_)
    have B3 : ∀ b : Bool, Bd P w es1 (if b = true then t1 else { t1 with plain := false }) (fun j => S j || decide (j = k)) (n + 1) := fun b => by
      cases b
      · exact B1.off
      · exact B1
    split
    all_goals first | rw [hashByValue_scannable 8 rfl] | skip
    all_goals refine wpAny_bind (wpAny_pure ?_)
    · have B4 := B3 (plainKind (Value.str k tk))
      generalize (if plainKind (Value.str k tk) = true then t1 else { t1 with plain := false }) = t5 at B4 ⊢
      clear B1 B3
      obtain ⟨o2, g2, x2, d2, R2⟩ := put_bd ho hex hd B4
      refine wpAny_bind (wpAny_storeSet_of ho hd ?_ (fits_of_scanBound (by rw [B4.z]; exact room)))
      split
      · have B5 := B4.relay (SetTable.grown es1.size)
        generalize relayAll t5 es1 (SetTable.grown es1.size) = Z at B5 ⊢
        obtain ⟨es6, t6, gw⟩ := Z
        dsimp only at B5 ⊢
        refine wpAny_bind (step gw _ _ ?_)
        obtain ⟨o3, g3, x3, d3, R3⟩ := put_bd g2 x2 d2 B5
        refine wpAny_bind (wpAny_storeSet_of g2 d2 ?_ (fits_of_scanBound (by rw [B5.z]; exact room)))
        exact wpAny_pure (wpAny_pure (fin _ ((Heap.SameBut.update _ _ _).trans (Heap.SameBut.update _ _ _)) R3))
      · exact wpAny_pure (wpAny_pure (fin _ (Heap.SameBut.update _ _ _) R2))
    · have B4 := B3 true
      generalize (if true = true then t1 else { t1 with plain := false }) = t5 at B4 ⊢
      clear B1 B3
      obtain ⟨o2, g2, x2, d2, R2⟩ := put_bd ho hex hd B4
      refine wpAny_bind (wpAny_storeSet_of ho hd ?_ (fits_of_scanBound (by rw [B4.z]; exact room)))
      split
      · have B5 := B4.relay (SetTable.grown es1.size)
        generalize relayAll t5 es1 (SetTable.grown es1.size) = Z at B5 ⊢
        obtain ⟨es6, t6, gw⟩ := Z
        dsimp only at B5 ⊢
        refine wpAny_bind (step gw _ _ ?_)
        obtain ⟨o3, g3, x3, d3, R3⟩ := put_bd g2 x2 d2 B5
        refine wpAny_bind (wpAny_storeSet_of g2 d2 ?_ (fits_of_scanBound (by rw [B5.z]; exact room)))
        exact wpAny_pure (wpAny_pure (fin _ ((Heap.SameBut.update _ _ _).trans (Heap.SameBut.update _ _ _)) R3))
      · exact wpAny_pure (wpAny_pure (fin _ (Heap.SameBut.update _ _ _) R2))
def addTxt (q : (Str → Bool) × Nat) (x : Str) : (Str → Bool) × Nat := (fun k => q.1 k || decide (k = x), if q.1 x then q.2 else q.2 + 1)
def distinct (ns : List Str) : Nat := (ns.foldl addTxt (fun _ => false, 0)).2
/-- the fresh set -/
abbrev bareS (led : Bool) : Obj := { cls := .type "set", dict := none, data := .set #[] 0 (.fresh 0 0 led) }
theorem stx_none {h : Heap} {a : Addr} (ho : h.get? a = some (bareS (!w.params.followText "set-order"))) : STx P w h a (fun _ => false) 0 := by
  refine ⟨_, #[], 0, _, ho, ⟨rfl, rfl, rfl⟩, rfl, ⟨fun e he => by simp at he, List.Pairwise.nil, fun k => by simp, rfl, by decide, by rfl, List.Pairwise.nil, ?_⟩⟩
  cases w.params.followText "set-order"
  · exact .inr rfl
  · exact .inl rfl
end
section
variable {prog : Program} {w : World} {A : Around} {R : Result → Shared → Prop} {J : Addr} {feet pens : List Addr} {G : Array GenState → Array GenState → Prop} {n : Nat} {V₀ : Nat → Value → Prop} {Z : Nat → Shared → Prop}
/-- what the texts from the i-th on make of a set -/
def rest (zs : List Str) (i : Nat) (q : (Str → Bool) × Nat) : (Str → Bool) × Nat := (zs.drop i).foldl addTxt q
theorem rest_step {zs : List Str} {i : Nat} {q : (Str → Bool) × Nat} (h : i < zs.length) : rest zs i q = rest zs (i + 1) (addTxt q (zs.getD i Str.empty)) := by
  unfold rest
  have e : zs.drop i = zs.getD i Str.empty :: zs.drop (i + 1) := by
    rw [List.getD_eq_getElem?_getD, List.getElem?_eq_getElem h]
    exact List.drop_eq_getElem_cons h
  rw [e]
  rfl
theorem rest_end {zs : List Str} {i : Nat} {q : (Str → Bool) × Nat} (h : zs.length ≤ i) : rest zs i q = q := by
  unfold rest
  rw [List.drop_of_length_le h]
  rfl
theorem fill_texts (W : WalksS prog w A.in1 J feet pens G n V₀ Z) (D : Addr) (off : D ∉ feet) (zs : List Str) (ln : zs.length = n) (few : n + 1 < scanBound)
    (txt : ∀ j u, V₀ j u → ∃ tk, u = .str (zs.getD j Str.empty) tk) (out : (Str → Bool) × Nat) :
    ∀ (left i : Nat) (q : (Str → Bool) × Nat) (s : Shared), n - i = left → i ≤ n → q.2 ≤ i → rest zs i q = out → Z i s → STx prog w s.heap D q.1 q.2 →
      (∀ s', Moved (D :: pens) G s s' → STx prog w s'.heap D out.1 out.2 → R (.ok (.ret .none)) s') →
      codeAny (model prog w) A (.builtin "set.update.loop" ⟨[.ref D, .ref J], []⟩) R s := by
  have offW : D ∉ pens := fun c => off (W.sub _ c)
  have more : ∀ b ∈ pens, b ∈ D :: pens := fun b c => List.mem_cons_of_mem _ c
  intro left
  induction left with
  | zero =>
    intro i q s e1 e2 e3 e4 z hs k
    have hn : i = n := by omega
    subst hn
    rw [rest_end (by omega)] at e4
    subst e4
    refine codeAny_builtin PyProof.Rows.F.entry_set_update_loop ?_
    rw [Around.under_plainId PyProof.Rows.F.plain_set_update_loop (_ : Args)]
    show wpAny _ A.in1 (pyNext (.ref J) >>= _) _ _ s
    refine wpAny_bind (W.done s _ _ z fun s1 mv => ?_)
    show wpAny _ A.in1 (ret Value.none) _ _ s1
    refine wpAny_pure (k s1 (mv.mono more) ?_)
    exact hs.keep fun o => mv.heap D o offW
  | succ left ih =>
    intro i q s e1 e2 e3 e4 z hs k
    have lt : i < n := by omega
    refine codeAny_builtin PyProof.Rows.F.entry_set_update_loop ?_
    rw [Around.under_plainId PyProof.Rows.F.plain_set_update_loop (_ : Args)]
    show wpAny _ A.in1 (pyNext (.ref J) >>= _) _ _ s
    refine wpAny_bind (W.item i s _ _ lt z fun u s1 hu z1 mv => ?_)
    obtain ⟨tk, rfl⟩ := txt i u hu
    have hs1 : STx prog w s1.heap D q.1 q.2 := by
      exact hs.keep fun o => mv.heap D o offW
    show wpAny _ A.in1 (holding [Value.str (zs.getD i Str.empty) tk] (setAdd D (.str (zs.getD i Str.empty) tk)) >>= _) _ _ s1
    refine wpAny_bind (wpAny_holding ?_)
    unfold setAdd
    refine wpAny_holding ?_
    refine wpAny_bind ((PySem.strKind prog w).pyHash (k := zs.getD i Str.empty) (strKind_is _ _ _ _) ?_)
    refine stx_add (s := { s1 with toks := s1.toks + 1 }) hs1 (by omega) fun h2 same hs2 => ?_
    have le2 : (addTxt q (zs.getD i Str.empty)).2 ≤ i + 1 := by
      unfold addTxt
      dsimp only
      split <;> omega
    refine wpAny_pure ⟨plainId_quiet PyProof.Rows.F.plain_set_update_loop _, ih (i + 1) (addTxt q (zs.getD i Str.empty)) _ (by omega) lt le2 (by rw [← e4]; exact (rest_step (by omega)).symm) (W.frame _ s1 _ _ z1 (Nat.le_succ _) fun b hb o e => ?_) hs2 fun s3 mv3 hs3 => ?_⟩
    · rw [same.2 b (fun c : b = D => off (c ▸ hb))]
      exact e
    · refine k s3 (Moved.trans W.gtrans ((mv.mono more).then_heap (Nat.le_succ _) fun b o hb e => ?_) mv3) hs3
      rw [same.2 b (fun c : b = D => hb (by rw [c]; exact List.mem_cons_self))]
      exact e
end
section
variable {prog : Program} {w : World} {A : Around} {E : Value → Shared → Prop} {s : Shared}
set_option maxHeartbeats 8000000 in
theorem set_of_texts {L : Addr} {vs : Array Value} {zs : List Str} {Q : Value → Shared → Prop} (calm : A.handled = none) (at_ : s.heap.IsList L vs) (tx : StrsAre vs.toList zs) (few : zs.length + 1 < scanBound)
    (k : ∀ (g : Heap) (tk : Nat), STx prog w g s.heap.objs.size (rest zs 0 (fun _ => false, 0)).1 (rest zs 0 (fun _ => false, 0)).2 →
      (∀ b o, b < s.heap.objs.size → s.heap.get? b = some o → g.get? b = some o) → Q (.ref s.heap.objs.size) { s with heap := g, toks := tk }) :
    wpAny (model prog w) A (call (.type "set") [.ref L]) Q E s := by
  obtain ⟨u1, u2, roM⟩ := PySem.F.called_set.mro
  have mk := PySem.F.called_set.made
  have sb := PySem.F.called_set.sub
  refine wpAny_call (codeAny_of_tree ?_)
  show wpAny _ _ (callAny (.type "set") _) _ _ s
  refine wpAny_pure ⟨Code.quiet_builtin _ (by decide +kernel), codeAny_builtin PySem.F.entry_type_call ?_⟩
  rw [Around.under_plain (weight_type_call_type "set" [.ref L] []) (by rfl)]
  have nt := PySem.F.called_set.notType
  have cc := PySem.F.called_set.canCreate
  have tc := PySem.F.typeCall_set_1 (.ref L)
  repeat (any_goals (first | assumption | wp_step))
  refine codeAny_mono (code_set_led1 (.ref L) (E := E) (Q₁ := fun x s1 => x = .ref s.heap.objs.size ∧ s1 = { s with heap := s.heap.push (bareS (!w.params.followText "set-order")) }) ⟨rfl, rfl⟩) fun r s1 hr => ?_
  cases r with
  | error e => exact hr
  | ok fl =>
    cases fl with
    | ret x =>
      obtain ⟨rfl, rfl⟩ := hr
      have here : (s.heap.push (bareS (!w.params.followText "set-order"))).get? s.heap.objs.size = some (bareS (!w.params.followText "set-order")) := Heap.get?_push_size _ rfl
      have isS : Shared.TypeIs { s with heap := s.heap.push (bareS (!w.params.followText "set-order")) } (.ref s.heap.objs.size) "set" := ⟨_, here, rfl⟩
      have lk := PySem.F.called_set.init.lookup
      have bd := PySem.F.called_set.init.bind (.ref s.heap.objs.size)
      repeat (any_goals (first | assumption | wp_step))
      refine codeAny_mono (codeAny_call_builtin (R := wants (fun r s2 => r = .none ∧ ∃ g tk, s2 = { s with heap := g, toks := tk } ∧
          STx prog w g s.heap.objs.size (rest zs 0 (fun _ => false, 0)).1 (rest zs 0 (fun _ => false, 0)).2 ∧
          (∀ b o, b < s.heap.objs.size → s.heap.get? b = some o → g.get? b = some o)) E) PySem.F.called_set.init.plain PySem.F.entry_set_init (check_set_init_1 isS ?_)) fun r2 s2 hr2 => ?_
      · obtain ⟨ob, hob, clb, nb, dtb⟩ := at_
        obtain ⟨obc, obd, obx, obs⟩ := ob
        simp only at clb dtb
        subst clb; subst dtb
        have keepL : (s.heap.push (bareS (!w.params.followText "set-order"))).get? L = some { cls := .type "list", dict := obd, data := .seq vs nb, slots := obs } := Heap.get?_push_of_some _ hob
        have q1 := PySem.F.sub_list_set
        have q2 := PySem.F.sub_list_frozenset
        have q3 : (Value.type "list" == Value.type "dict") = false := by decide
        have isL : (s.heap.push (bareS (!w.params.followText "set-order"))).IsList L vs := ⟨_, keepL, rfl, nb, rfl⟩
        unfold Builtin.«set.__init__» noKeywords Builtin.Frozenset.updateFrom
        generalize hPI : pyIter = PI
        wp_walk
        subst hPI
        refine wpAny_pyIter_list isL ?_
        refine wpAny_bind (wpAny_runValue ?_)
        have Llt : L < s.heap.objs.size := Heap.lt_size hob
        have calm3 : A.in1.in1.in1.handled = none := by simp [calm]
        have LneI : L ≠ (s.heap.push (bareS (!w.params.followText "set-order"))).objs.size := by
          rw [Heap.size_push]
          exact Nat.ne_of_lt (Nat.lt_succ_of_lt Llt)
        have off : s.heap.objs.size ∉ [(s.heap.push (bareS (!w.params.followText "set-order"))).objs.size, L] := by
          rw [Heap.size_push]
          intro c
          rcases List.mem_cons.mp c with c | c
          · omega
          · have c2 := List.mem_singleton.mp c
            exact absurd c2 (Nat.ne_of_gt Llt)
        have ln : zs.length = vs.size := by rw [← StrsAre.len_eq tx, Array.length_toList]
        have each : ∀ (j : Nat) (u : Value), vs[j]? = some u → ∃ tk, u = .str (zs.getD j Str.empty) tk := fun j u e => SS.strs_at tx j u (by rw [Array.getElem?_toList]; exact e)
        refine fill_texts ((Walks.list calm3 _ L LneI vs).toS) s.heap.objs.size off zs ln (by rw [← ln]; exact few) each _ (vs.size - 0) 0 (fun _ => false, 0) _ (by omega) (Nat.zero_le _) (Nat.le_refl _) rfl
          ⟨⟨_, Heap.get?_push_size _ rfl, rfl, rfl⟩, (isL.push _)⟩ ?first ?last
        case first =>
          have still : ((s.heap.push (bareS (!w.params.followText "set-order"))).push { cls := .type "list_iterator", data := .fields #[.ref L, .int 0 0] }).get? s.heap.objs.size = some (bareS (!w.params.followText "set-order")) := Heap.get?_push_of_some _ here
          exact stx_none still
        case last =>
          intro s3 mv hs3
          obtain ⟨g, gg, dd, tk, oo⟩ := s3
          obtain rfl : gg = s.gens := mv.gens
          obtain rfl : dd = s.drawn := mv.drawn
          obtain rfl : oo = s.os := mv.os
          show wpAny _ _ _ _ _ _
          refine wpAny_pure ?_
          show wpAny _ _ (ret Value.none) _ _ _
          refine wpAny_pure ⟨rfl, g, tk, rfl, hs3, fun b o hb e => ?_⟩
          refine mv.heap b o ?_ (Heap.get?_push_of_some _ (Heap.get?_push_of_some _ e))
          rw [Heap.size_push]
          intro c
          rcases List.mem_cons.mp c with c | c
          · exact absurd c (Nat.ne_of_lt hb)
          · rcases List.mem_cons.mp c with c | c
            · exact absurd c (Nat.ne_of_lt (Nat.lt_succ_of_lt hb))
            · cases c
      · cases r2 with
        | error e => exact hr2
        | ok fl2 =>
          cases fl2 with
          | ret r =>
            obtain ⟨rfl, g, tk, rfl, hg, kept⟩ := hr2
            repeat (any_goals (first | assumption | wp_step))
            exact k _ _ hg kept
          | _ => exact hr2.elim
    | _ => exact hr.elim
set_option maxHeartbeats 8000000 in
theorem set_of_textsT {L : Addr} {vs : Array Value} {zs : List Str} {Q : Value → Shared → Prop} (calm : A.handled = none) (at_ : s.heap.IsTuple L vs) (tx : StrsAre vs.toList zs) (few : zs.length + 1 < scanBound)
    (k : ∀ (g : Heap) (tk : Nat), STx prog w g s.heap.objs.size (rest zs 0 (fun _ => false, 0)).1 (rest zs 0 (fun _ => false, 0)).2 →
      (∀ b o, b < s.heap.objs.size → s.heap.get? b = some o → g.get? b = some o) → Q (.ref s.heap.objs.size) { s with heap := g, toks := tk }) :
    wpAny (model prog w) A (call (.type "set") [.ref L]) Q E s := by
  obtain ⟨u1, u2, roM⟩ := PySem.F.called_set.mro
  have mk := PySem.F.called_set.made
  have sb := PySem.F.called_set.sub
  refine wpAny_call (codeAny_of_tree ?_)
  show wpAny _ _ (callAny (.type "set") _) _ _ s
  refine wpAny_pure ⟨Code.quiet_builtin _ (by decide +kernel), codeAny_builtin PySem.F.entry_type_call ?_⟩
  rw [Around.under_plain (weight_type_call_type "set" [.ref L] []) (by rfl)]
  have nt := PySem.F.called_set.notType
  have cc := PySem.F.called_set.canCreate
  have tc := PySem.F.typeCall_set_1 (.ref L)
  repeat (any_goals (first | assumption | wp_step))
  refine codeAny_mono (code_set_led1 (.ref L) (E := E) (Q₁ := fun x s1 => x = .ref s.heap.objs.size ∧ s1 = { s with heap := s.heap.push (bareS (!w.params.followText "set-order")) }) ⟨rfl, rfl⟩) fun r s1 hr => ?_
  cases r with
  | error e => exact hr
  | ok fl =>
    cases fl with
    | ret x =>
      obtain ⟨rfl, rfl⟩ := hr
      have here : (s.heap.push (bareS (!w.params.followText "set-order"))).get? s.heap.objs.size = some (bareS (!w.params.followText "set-order")) := Heap.get?_push_size _ rfl
      have isS : Shared.TypeIs { s with heap := s.heap.push (bareS (!w.params.followText "set-order")) } (.ref s.heap.objs.size) "set" := ⟨_, here, rfl⟩
      have lk := PySem.F.called_set.init.lookup
      have bd := PySem.F.called_set.init.bind (.ref s.heap.objs.size)
      repeat (any_goals (first | assumption | wp_step))
      refine codeAny_mono (codeAny_call_builtin (R := wants (fun r s2 => r = .none ∧ ∃ g tk, s2 = { s with heap := g, toks := tk } ∧
          STx prog w g s.heap.objs.size (rest zs 0 (fun _ => false, 0)).1 (rest zs 0 (fun _ => false, 0)).2 ∧
          (∀ b o, b < s.heap.objs.size → s.heap.get? b = some o → g.get? b = some o)) E) PySem.F.called_set.init.plain PySem.F.entry_set_init (check_set_init_1 isS ?_)) fun r2 s2 hr2 => ?_
      · obtain ⟨ob, hob, clb, nb, dtb⟩ := at_
        obtain ⟨obc, obd, obx, obs⟩ := ob
        simp only at clb dtb
        subst clb; subst dtb
        have keepL : (s.heap.push (bareS (!w.params.followText "set-order"))).get? L = some { cls := .type "tuple", dict := obd, data := .seq vs nb, slots := obs } := Heap.get?_push_of_some _ hob
        have q1 := PySem.F.sub_tuple_set
        have q2 := PySem.F.sub_tuple_frozenset
        have q3 : (Value.type "tuple" == Value.type "dict") = false := by decide
        have isL : (s.heap.push (bareS (!w.params.followText "set-order"))).IsTuple L vs := ⟨_, keepL, rfl, nb, rfl⟩
        unfold Builtin.«set.__init__» noKeywords Builtin.Frozenset.updateFrom
        generalize hPI : pyIter = PI
        wp_walk
        subst hPI
        refine wpAny_pyIter_tuple isL ?_
        refine wpAny_bind (wpAny_runValue ?_)
        have Llt : L < s.heap.objs.size := Heap.lt_size hob
        have calm3 : A.in1.in1.in1.handled = none := by simp [calm]
        have LneI : L ≠ (s.heap.push (bareS (!w.params.followText "set-order"))).objs.size := by
          rw [Heap.size_push]
          exact Nat.ne_of_lt (Nat.lt_succ_of_lt Llt)
        have off : s.heap.objs.size ∉ [(s.heap.push (bareS (!w.params.followText "set-order"))).objs.size, L] := by
          rw [Heap.size_push]
          intro c
          rcases List.mem_cons.mp c with c | c
          · omega
          · have c2 := List.mem_singleton.mp c
            exact absurd c2 (Nat.ne_of_gt Llt)
        have ln : zs.length = vs.size := by rw [← StrsAre.len_eq tx, Array.length_toList]
        have each : ∀ (j : Nat) (u : Value), vs[j]? = some u → ∃ tk, u = .str (zs.getD j Str.empty) tk := fun j u e => SS.strs_at tx j u (by rw [Array.getElem?_toList]; exact e)
        refine fill_texts ((Walks.tuple calm3 _ L LneI vs).toS) s.heap.objs.size off zs ln (by rw [← ln]; exact few) each _ (vs.size - 0) 0 (fun _ => false, 0) _ (by omega) (Nat.zero_le _) (Nat.le_refl _) rfl
          ⟨⟨_, Heap.get?_push_size _ rfl, rfl, rfl⟩, (isL.push _)⟩ ?first ?last
        case first =>
          have still : ((s.heap.push (bareS (!w.params.followText "set-order"))).push { cls := .type "tuple_iterator", data := .fields #[.ref L, .int 0 0] }).get? s.heap.objs.size = some (bareS (!w.params.followText "set-order")) := Heap.get?_push_of_some _ here
          exact stx_none still
        case last =>
          intro s3 mv hs3
          obtain ⟨g, gg, dd, tk, oo⟩ := s3
          obtain rfl : gg = s.gens := mv.gens
          obtain rfl : dd = s.drawn := mv.drawn
          obtain rfl : oo = s.os := mv.os
          show wpAny _ _ _ _ _ _
          refine wpAny_pure ?_
          show wpAny _ _ (ret Value.none) _ _ _
          refine wpAny_pure ⟨rfl, g, tk, rfl, hs3, fun b o hb e => ?_⟩
          refine mv.heap b o ?_ (Heap.get?_push_of_some _ (Heap.get?_push_of_some _ e))
          rw [Heap.size_push]
          intro c
          rcases List.mem_cons.mp c with c | c
          · exact absurd c (Nat.ne_of_lt hb)
          · rcases List.mem_cons.mp c with c | c
            · exact absurd c (Nat.ne_of_lt (Nat.lt_succ_of_lt hb))
            · cases c
      · cases r2 with
        | error e => exact hr2
        | ok fl2 =>
          cases fl2 with
          | ret r =>
            obtain ⟨rfl, g, tk, rfl, hg, kept⟩ := hr2
            repeat (any_goals (first | assumption | wp_step))
            exact k _ _ hg kept
          | _ => exact hr2.elim
    | _ => exact hr.elim
end
end FL

set_option Elab.async false
set_option linter.all false
set_option maxRecDepth 100000
set_option maxHeartbeats 4000000
namespace FL
open PySem PySem.Spec PyProof.Rows
open L2
section
variable {P : Program} {w : World} {A : Around} {E : Value → Shared → Prop} {s : Shared} {a : Addr} {S : Str → Bool} {n : Nat}
theorem strs_all : ∀ {us : List Value}, (∀ u, u ∈ us → ∃ x tk, u = Value.str x tk) → StrsAre us (us.map strOf)
  | [], _ => .nil
  | u :: us, h => by
    obtain ⟨x, tk, rfl⟩ := h u List.mem_cons_self
    exact .cons x tk (strs_all fun y hy => h y (List.mem_cons_of_mem _ hy))
theorem sorted_txs {Q : Value → Shared → Prop} (R : STx P w s.heap a S n) (calm : A.handled = none) (few : n < 64)
    (k : ∀ s1 p (out : Array Value) (c : Nat) (ys : List Str), (∀ b o, s.heap.get? b = some o → s1.heap.get? b = some o) → s1.gens = s.gens → s1.os = s.os → s.heap.objs.size ≤ p →
      s1.heap.get? p = some (seqObj "list" out c) → StrsAre out.toList ys → sortedS ys = true → ys.Nodup → (∀ x, x ∈ ys ↔ S x = true) → ys.length = n → Q (.ref p) s1) :
    wpAny (model P w) A (call (.builtin "sorted") [.ref a]) Q E s := by
  obtain ⟨o, es, ep, t, ho, hex, hd, B⟩ := R
  refine Calls.call_function_entry kind_sorted plain_sorted entry_sorted (args_sorted1 _) ?_
  unfold Builtin.«sorted»
  refine wpAny_bind (m := checkCount "sorted" 1 1 _) (wpAny_pure (wpAny_bind (collect_set (A := A.in1) calm ⟨o, ho, hex.1, hd⟩ B.f (by rw [B.z]; exact B.b) B.r B.l fun s1 us k1 z1 g1 o1 pm => ?_)))
  have ln : us.length = n := by rw [pm.length_eq, List.length_map, Array.length_toList, B.z]
  have tx : StrsAre us (us.map strOf) := strs_all fun u hu => by
    obtain ⟨e, he, q⟩ := List.mem_map.mp (pm.mem_iff.mp hu)
    obtain ⟨x, tk, rfl⟩ := B.g e he
    exact ⟨x, tk, q.symm⟩
  have pt : (us.map strOf).Perm (es.toList.map txOf) := by
    have q := pm.map strOf
    rw [List.map_map] at q
    exact q
  refine wpAny_bind (wpAny_newList ?_ (by rw [ln, sizeLine_eq]; omega))
  have at1 : (s1.heap.push (seqObj "list" us.toArray 0)).get? s1.heap.objs.size = some (seqObj "list" us.toArray 0) := Heap.get?_push_size _ rfl
  refine wpAny_bind (wpAny_holding (wpAny_call_entry slot_list_sort ⟨_, at1, rfl⟩ entry_list_sort (list_sort_treeK strKind_oneLt at1 tx.keysOf (fun v1 v2 more e => keyKind_strs (by rw [← e]; exact tx)) (by rw [ln]; exact few) fun st hp hs => ⟨_, rfl, ?_⟩) (args_list_sort _)))
  obtain ⟨ys, y1, y2, y3⟩ := sorted_out_str tx hp hs
  obtain ⟨c, hc⟩ := sortedHeap_at (vs := us) (out := (arrOf st).map (·.2)) at1
  have py := y2.trans pt
  refine wpAny_pure ⟨_, rfl, k _ s1.heap.objs.size _ c ys (fun b u e => ?_) g1 o1 z1 hc y1 y3 (py.nodup_iff.mpr B.nd) (fun x => by rw [py.mem_iff, ← B.m x]) ?_⟩
  · have lb := Heap.lt_size (k1 b u e)
    show (sortedHeap (s1.heap.push (seqObj "list" us.toArray 0)) s1.heap.objs.size us _).get? b = some u
    rw [sortedHeap_old (Nat.ne_of_lt lb) (by rw [size_push']; exact Nat.lt_succ_of_lt lb)]
    exact Heap.get?_push_of_some _ (k1 b u e)
  · rw [py.length_eq, List.length_map, Array.length_toList, B.z]
end
/-! texts in order, repeats gone: as functions -/
def leX (x y : Str) : Bool := !ltCps y.cps.toList x.cps.toList
def srt (zs : List Str) : List Str := zs.mergeSort leX
def ddp : List Str → List Str
  | [] => []
  | z :: zs => if z ∈ ddp zs then ddp zs else z :: ddp zs
theorem mem_ddp {x : Str} : ∀ {zs : List Str}, x ∈ ddp zs ↔ x ∈ zs
  | [] => Iff.rfl
  | z :: zs => by
    unfold ddp
    split
    · rename_i h
      rw [mem_ddp, List.mem_cons]
      refine ⟨Or.inr, fun c => c.elim (fun e => ?_) id⟩
      rw [e]
      exact mem_ddp.1 h
    · rw [List.mem_cons, List.mem_cons, mem_ddp]
theorem nd_ddp : ∀ (zs : List Str), (ddp zs).Nodup
  | [] => List.Pairwise.nil
  | z :: zs => by
    unfold ddp
    split
    · exact nd_ddp zs
    · rename_i h
      exact List.nodup_cons.mpr ⟨h, nd_ddp zs⟩
theorem leX_iff {x y : Str} : leX x y = true ↔ x.cps.toList ≤ y.cps.toList := by
  unfold leX
  rw [ltCps_eq, Bool.not_eq_true', decide_eq_false_iff_not]
  exact Iff.rfl
theorem leX_tr {x y z : Str} (h : leX x y = true) (g : leX y z = true) : leX x z = true := leX_iff.2 (List.le_trans (leX_iff.1 h) (leX_iff.1 g))
theorem leX_to (x y : Str) : (leX x y || leX y x) = true := by
  rw [Bool.or_eq_true]
  rcases List.le_total x.cps.toList y.cps.toList with h | h
  · exact .inl (leX_iff.2 h)
  · exact .inr (leX_iff.2 h)
theorem leX_eq {x y : Str} (h : leX x y = true) (g : leX y x = true) : x = y := by
  have e := List.le_antisymm (leX_iff.1 h) (leX_iff.1 g)
  cases x
  cases y
  congr
  exact Array.toList_inj.mp e
theorem pw_rising : ∀ {p : Str} {l : List Str}, risingS p l = true → (p :: l).Pairwise (fun a b => leX a b = true)
  | p, [], _ => by simp
  | p, x :: r, h => by
    have h' : leX p x = true ∧ risingS x r = true := by
      unfold risingS at h
      rw [Bool.and_eq_true] at h
      exact h
    have q := pw_rising h'.2
    refine List.pairwise_cons.mpr ⟨fun y hy => ?_, q⟩
    rcases List.mem_cons.mp hy with e | hy
    · rw [e]
      exact h'.1
    · exact leX_tr h'.1 ((List.pairwise_cons.mp q).1 y hy)
theorem pw_sorted : ∀ {l : List Str}, sortedS l = true → l.Pairwise (fun a b => leX a b = true)
  | [], _ => List.Pairwise.nil
  | x :: r, h => pw_rising h
theorem srt_is {ys zs : List Str} (p : ys.Perm zs) (h : sortedS ys = true) : ys = srt zs := by
  refine List.Perm.eq_of_pairwise (le := fun a b => leX a b = true) (fun a b _ _ => leX_eq) (pw_sorted h) ?_ (p.trans (List.mergeSort_perm zs leX).symm)
  exact List.pairwise_mergeSort (le := leX) (fun a b c => leX_tr) leX_to zs
end FL

set_option Elab.async false
set_option linter.all false
set_option maxRecDepth 100000
set_option maxHeartbeats 2000000
namespace FL
open PySem PySem.Spec PyProof.Rows
open L2
/-! lists of texts -/
def strsP : List PyData → Option (List Str)
  | [] => some []
  | .str x :: r => (strsP r).map (x :: ·)
  | _ => none
def asSs (w : W) (S : So) : Option (List Str) := (asL w S).bind strsP
section
variable {K : PySem.W.Frag} {XR : XRel K} {H : Hp} {M : Ms} {S : So}
theorem strsP_ok : ∀ {ds : List PyData} {zs : List Str} {vs : List V}, strsP ds = some zs → DrL K H M ds vs → vs = zs.map V.str
  | [], zs, vs, e, h => by
    cases e
    unfold DrL at h
    exact h
  | d :: ds, zs, vs, e, h => by
    obtain ⟨x, r, e1, h1, h2⟩ := h.cases
    cases d with
    | str y =>
      unfold strsP at e
      cases e2 : strsP ds with
      | none => rw [e2] at e; cases e
      | some ys =>
        rw [e2] at e
        cases e
        unfold Dr at h1
        rw [e1, h1, strsP_ok e2 h2, List.map_cons]
    | none | bool _ | int _ | list _ | tuple _ | dict _ => cases e
theorem asSs_ok (l : Rl XR.wo K H M S) {w : W} {v : V} {zs : List Str} (r : RW XR H M w v) (e : asSs w S = some zs) : ∃ a, v = .ref a ∧ H a = some (.lst (zs.map V.str)) := by
  unfold asSs at e
  cases e1 : asL w S with
  | none => rw [e1] at e; cases e
  | some ds =>
    rw [e1] at e
    obtain ⟨a, vs, h1, h2, h3⟩ := asL_ok l r e1
    exact ⟨a, h1, by rw [h2, strsP_ok e h3]⟩
theorem drl_strs : ∀ (zs : List Str), DrL K H M (zs.map PyData.str) (zs.map V.str)
  | [] => .nil
  | z :: zs => .cons (by unfold Dr; rfl) (drl_strs zs)
end
theorem distinct_le : ∀ (zs : List Str) (q : (Str → Bool) × Nat), (zs.foldl addTxt q).2 ≤ q.2 + zs.length
  | [], q => Nat.le_refl _
  | z :: zs, q => by
    have h := distinct_le zs (addTxt q z)
    have h1 : (addTxt q z).2 ≤ q.2 + 1 := by
      unfold addTxt
      dsimp only
      split <;> omega
    show (zs.foldl addTxt (addTxt q z)).2 ≤ q.2 + (zs.length + 1)
    omega
theorem mem_fold : ∀ (zs : List Str) (q : (Str → Bool) × Nat) (x : Str), (zs.foldl addTxt q).1 x = true ↔ q.1 x = true ∨ x ∈ zs
  | [], q, x => by simp
  | z :: zs, q, x => by
    rw [List.foldl_cons, mem_fold zs, List.mem_cons]
    unfold addTxt
    dsimp only
    rw [Bool.or_eq_true, decide_eq_true_eq]
    exact or_assoc
/-! len(set(e)), sorted(set(e)) of a list or a tuple of texts -/
def asQs (w : W) (S : So) : Option (List Str) := (seqW w S).bind strsP
theorem asQs_ok {K : PySem.W.Frag} {XR : XRel K} {H : Hp} {M : Ms} {S : So} (l : Rl XR.wo K H M S) {w : W} {v : V} {zs : List Str} (r : RW XR H M w v) (e : asQs w S = some zs) : ∃ a, v = .ref a ∧ (SqT K H a (zs.map V.str) ∨ SqL K H a (zs.map V.str)) := by
  unfold asQs at e
  unfold seqW at e
  split at e
  · rename_i ds e1
    obtain ⟨a, vs, h1, h2, h3⟩ := asL_ok l r e1
    rw [strsP_ok e h3] at h2
    exact ⟨a, h1, .inr (SqL.of h2)⟩
  · cases e1 : asT w with
    | none => rw [e1] at e; cases e
    | some ds =>
      rw [e1] at e
      obtain ⟨a, vs, h1, h2, h3⟩ := asT_ok r e1
      rw [strsP_ok e h3] at h2
      exact ⟨a, h1, .inl h2.sq⟩
def fLenSet (fe : FE) : FE := fun ev S => (fe ev S).bind fun x S1 => match asQs x S1 with
  | some zs => if zs.length ≤ 1000 then .ok (.d (.int (distinct zs : Nat))) S1 else .no
  | none => .no
def fSortSet (fe : FE) : FE := fun ev S => (fe ev S).bind fun x S1 => match asQs x S1 with
  | some zs => if zs.length < 64 then .ok (.d (.list ((srt (ddp zs)).map .str))) S1 else .no
  | none => .no
section
variable {X : Cx} {XR : XRel X.K} {Wx : WX} {n : Nat} {e : Expr} {fe : FE} {p p2 r pos : Pos}
theorem set_run {pins : List (Addr × Obj)} {σ : L2.St} {H : Hp} {s : Shared} {a : Addr} {zs : List Str} {Q : Value → Shared → Prop} (hc : X.calm = true) (I : Inv X pins σ H s) (ha : SqT X.K H a (zs.map V.str) ∨ SqL X.K H a (zs.map V.str)) (few : zs.length ≤ 1000)
    (k : ∀ (g : Heap) (tk : Nat), STx X.prog X.w g s.heap.objs.size (rest zs 0 (fun _ => false, 0)).1 (distinct zs) → Inv X pins σ H { s with heap := g, toks := tk } → Q (.ref s.heap.objs.size) { s with heap := g, toks := tk }) :
    wpAny (model X.prog X.w) X.A (call (.type "set") [.ref a]) Q X.xe s := by
  rcases ha with ha | ha
  · obtain ⟨us, ru, pl, hz⟩ := I.tuple ha
    refine set_of_textsT (zs := zs) (I.ok.hd hc) pl (by simpa using strsAre_of ru) (by unfold scanBound; omega) fun g tk hS kept => ?_
    exact k g tk hS (I.kept fun b o e => kept b o (Heap.lt_size e) e)
  · obtain ⟨us, ru, pl, hz⟩ := I.list ha
    refine set_of_texts (zs := zs) (I.ok.hd hc) pl.isList (by simpa using strsAre_of ru) (by unfold scanBound; omega) fun g tk hS kept => ?_
    exact k g tk hS (I.kept fun b o e => kept b o (Heap.lt_size e) e)
theorem fe_lenSet (C : Ct X Wx n) (m1 : X.mg "len" = none) (g1 : Gl X "len") (m2 : X.mg "set" = none) (g2 : Gl X "set") (he : FEx X XR Wx e fe)
    (na : starEach [e] X.env = (false, eval e X.env) :: starEach [] X.env := by rfl) : FEx X XR Wx (.Call (.Name "len" p) [.Call (.Name "set" p2) [e] [] r] [] pos) (fLenSet fe) := by
  refine ⟨fun pins s σ H Q I h => ?_⟩
  obtain ⟨M, S, ev, l, rs, h⟩ := h
  refine Call_ (ld_blt I g1 m1 boot_len ?_)
  refine PyProof.Rows.callWith_builtin1 (PyProof.Rows.args_cons ?_ rfl) rfl rfl
  refine Call_ (ld_blt I g2 m2 boot_set ?_)
  refine PyProof.Rows.callWith_type1 (PyProof.Rows.args_cons (thn (he.run pins s σ H (fun x H1 => ∃ (a : Addr) (zs : List Str), x = .ref a ∧ (SqT X.K H1 a (zs.map V.str) ∨ SqL X.K H1 a (zs.map V.str)) ∧ zs.length ≤ 1000 ∧ Q (.int (distinct zs : Nat)) H1) I ⟨M, S, ev, l, rs, Pst.cut h ?_⟩) fun v s1 ⟨x, H1, I1, rx, q1⟩ => PyProof.Rows.args_nil ?_) na) na rfl
  · intro x S1 M1 H1 vx _ s1 l1 r1 h1
    split at h1
    · rename_i zs e1
      split at h1
      · rename_i few
        obtain ⟨a, e2, e3⟩ := asQs_ok l1 r1 e1
        exact ⟨a, zs, e2, e3, few, imm_i l1 h1⟩
      · exact h1.elim
    · exact h1.elim
  · obtain ⟨a, zs, rfl, ha, few, q1⟩ := q1
    cases rx
    refine set_run C.cal I1 ha few fun g tk hS I2 => ?_
    refine PyProof.Rows.args_nil ?_
    have dl : distinct zs ≤ 0 + zs.length := distinct_le zs (fun _ => false, 0)
    obtain ⟨o, es, ep, tb, ho, hex, hd, B⟩ := hS
    exact call_len_set ho hex hd B.f (by rw [B.z]; omega) ⟨.int (distinct zs : Nat), H1, I2.tok _, ⟨_, by rw [B.z]⟩, q1⟩
theorem fe_sortSet (C : Ct X Wx n) (m1 : X.mg "sorted" = none) (g1 : Gl X "sorted") (m2 : X.mg "set" = none) (g2 : Gl X "set") (he : FEx X XR Wx e fe)
    (na : starEach [e] X.env = (false, eval e X.env) :: starEach [] X.env := by rfl) : FEx X XR Wx (.Call (.Name "sorted" p) [.Call (.Name "set" p2) [e] [] r] [] pos) (fSortSet fe) := by
  refine ⟨fun pins s σ H Q I h => ?_⟩
  obtain ⟨M, S, ev, l, rs, h⟩ := h
  refine Call_ (ld_blt I g1 m1 (by rfl) ?_)
  refine PyProof.Rows.callWith_builtin1 (PyProof.Rows.args_cons ?_ rfl) rfl rfl
  refine Call_ (ld_blt I g2 m2 boot_set ?_)
  refine PyProof.Rows.callWith_type1 (PyProof.Rows.args_cons (thn (he.run pins s σ H (fun x H1 => ∃ (a : Addr) (zs : List Str), x = .ref a ∧ (SqT X.K H1 a (zs.map V.str) ∨ SqL X.K H1 a (zs.map V.str)) ∧ zs.length < 64 ∧ ∀ p, H1 p = none → Q (.ref p) (upd H1 p (.lst ((srt (ddp zs)).map V.str)))) I ⟨M, S, ev, l, rs, Pst.cut h ?_⟩) fun v s1 ⟨x, H1, I1, rx, q1⟩ => PyProof.Rows.args_nil ?_) na) na rfl
  · intro x S1 M1 H1 vx _ s1 l1 r1 h1
    split at h1
    · rename_i zs e1
      split at h1
      · rename_i few
        obtain ⟨a, e2, e3⟩ := asQs_ok l1 r1 e1
        exact ⟨a, zs, e2, e3, few, fun p np => new_l l1 h1 np (drl_strs _)⟩
      · exact h1.elim
    · exact h1.elim
  · obtain ⟨a, zs, rfl, ha, few, q1⟩ := q1
    cases rx
    refine set_run C.cal I1 ha (by omega) fun g tk hS I2 => ?_
    refine PyProof.Rows.args_nil ?_
    have dl : distinct zs ≤ 0 + zs.length := distinct_le zs (fun _ => false, 0)
    have hS2 : STx X.prog X.w ({ s1 with heap := g, toks := tk } : Shared).heap s1.heap.objs.size (rest zs 0 (fun _ => false, 0)).1 (distinct zs) := hS
    generalize ({ s1 with heap := g, toks := tk } : Shared) = s2 at I2 hS2 ⊢
    refine sorted_txs hS2 (I2.ok.hd C.cal) (by omega) fun s' p out c ys k1 g3 o3 hp hg hi hs hn hm hl => ?_
    have ey : ys = srt (ddp zs) := srt_is ((List.perm_ext_iff_of_nodup hn (nd_ddp zs)).2 fun x => by
      rw [hm x, mem_ddp]
      have q := mem_fold zs (fun _ => false, 0) x
      refine q.trans ⟨fun c => c.elim (fun z => by cases z) id, Or.inr⟩) hs
    have np : H1 p = none := I2.hok.fresh hp
    have len : (ys.map V.str).length ≤ sizeLine := by rw [List.length_map, hl, sizeLine_eq]; omega
    have J : Inv X pins σ (upd H1 p (.lst (ys.map V.str))) { s2 with heap := s'.heap, gens := s'.gens, drawn := s'.drawn, toks := s'.toks } :=
      I2.call (ch := []) (Un.laid k1 hp np) (I2.hok.laid k1 hp ⟨len, out.toList, c, vals_of_strs hi, hg⟩) (by rw [g3]; exact I2.bare) (fun _ z => nomatch z)
    have e : s' = { s2 with heap := s'.heap, gens := s'.gens, drawn := s'.drawn, toks := s'.toks } := by
      cases s'
      cases s2
      cases o3
      rfl
    rw [e]
    rw [ey] at J
    exact ⟨.ref p, _, J, rfl, q1 p np⟩
/-! sorted(e), a list of texts -/
def sortW (w : W) (S : So) : Res W := match asSs w S with
  | some zs => if zs.length < 64 then .ok (.d (.list ((srt zs).map .str))) S else .no
  | none => .no
theorem nx_sort : NX1 sortW := by
  intro x S c f S' e
  unfold sortW at e
  split at e
  · split at e <;> cases e
  · cases e
theorem opn_sort : OpN XR (o1 sortW) (rSortedS X.K) := by
  intro H M S S' xs w vs Q l rx e q
  unfold o1 at e
  split at e
  · rename_i x
    cases rx with
    | cons r rr =>
      cases rr
      unfold sortW at e
      split at e
      · rename_i zs e1
        split at e
        · rename_i few
          cases e
          obtain ⟨a, h1, h2⟩ := asSs_ok l r e1
          subst h1
          refine ⟨a, zs, rfl, SqL.of h2, few, fun ys p py hs np => ?_⟩
          rw [srt_is py hs]
          exact new_l l q np (drl_strs _)
        · cases e
      · cases e
  · cases e
theorem fe_sort {fr : FA} (C : Ct X Wx n) (hm : X.mg "sorted" = none) (hg : Gl X "sorted") (ha : FAx X XR Wx [e] fr) (he : starEach [e] X.env = (false, eval e X.env) :: starEach [] X.env := by rfl) : FEx X XR Wx (.Call (.Name "sorted" p) [e] [] pos) (fB1 (o1 sortW) fr) :=
  fe_bi cr_sortedS opn_sort (nx_o1 nx_sort) hg hm (by rfl) ha (by decide) (by decide) he
end
end FL

set_option Elab.async false
set_option linter.all false
set_option maxRecDepth 100000
set_option maxHeartbeats 2000000
namespace FL
open PySem PySem.Spec PyProof.Rows
open L2
/-! dict(e), e a list or a tuple of pairs -/
def PlT (K : PySem.W.Frag) (H : Hp) (a : Addr) (xs : List V) : Prop := (∃ o, o.dict = none ∧ H a = some (.frz o (.tup xs))) ∨
  ∃ (o : Obj) (its : Array Value) (n : Nat), K.lookup a = some o ∧ o.cls = .type "tuple" ∧ o.dict = none ∧ o.data = .seq its n ∧ its.size ≤ sizeLine ∧ Vals xs its.toList
def rDictOf (K : PySem.W.Frag) : List V → Hp → VK → Prop := fun xs H Q => ∃ (a : Addr) (ps : List Addr) (kvs : List (Key × V)), xs = [.ref a] ∧ (SqL K H a (ps.map V.ref) ∨ PlT K H a (ps.map V.ref)) ∧
  Paired (fun p kv => SqT K H p [kV kv.1, kv.2]) ps kvs ∧ ∀ p, H p = none → Q (.ref p) (upd H p (.dK (mergeK [] kvs)))
section
variable {X : Cx} {pins : List (Addr × Obj)} {σ : L2.St} {H : Hp} {s : Shared}
theorem PlT.at {a : Addr} {xs : List V} (I : Inv X pins σ H s) (h : PlT X.K H a xs) : ∃ its : List Value, Vals xs its ∧ PlainSeq "tuple" s.heap a its.toArray ∧ xs.length ≤ sizeLine := by
  rcases h with ⟨o, hd, e⟩ | ⟨o, its, n, hk, hc, hd, hs, hz, r⟩
  · obtain ⟨e1, hz, its, r, o2, e2, hc, n, hs⟩ := (show ObjOk X.prog X.w H s.heap a (.frz o (.tup xs)) from I.hok a _ e)
    rw [e1] at e2
    cases e2
    exact ⟨its, r, ⟨o, n, e1, hc, hd, hs⟩, hz⟩
  · have ln : xs.length = its.toList.length := r.length
    exact ⟨its.toList, r, ⟨o, n, I.kIn a o hk, hc, hd, by simpa using hs⟩, by rw [ln, Array.length_toList]; exact hz⟩
theorem two_of (I : Inv X pins σ H s) : ∀ {ps : List Addr} {kvs : List (Key × V)}, Paired (fun p kv => SqT X.K H p [kV kv.1, kv.2]) ps kvs →
    ∃ (prs : List (Key × Value)) (vps : List (Value × Value)), KV kvs prs ∧ prs.length = ps.length ∧ vps.length = ps.length ∧
      ∀ (j : Nat) (k v : Value), vps[j]? = some (k, v) → (∃ b, ps[j]? = some b ∧ s.heap.IsTuple b #[k, v]) ∧ ∃ q, prs[j]? = some (q, v) ∧ keyIs q k = true
  | _, _, .nil => ⟨[], [], .nil, rfl, rfl, fun j k v e => by simp at e⟩
  | _, _, .cons (a := p) (b := kv) h t => by
    obtain ⟨prs, vps, r, l1, l2, hp⟩ := two_of I t
    obtain ⟨its, rv, ht, _⟩ := I.tuple h
    obtain ⟨u, y, rfl, ru, ry⟩ := vals2 rv
    refine ⟨(kv.1, y) :: prs, (u, y) :: vps, .cons ⟨rfl, ry⟩ r, by rw [List.length_cons, List.length_cons, l1], by rw [List.length_cons, List.length_cons, l2], fun j k v e => ?_⟩
    cases j with
    | zero =>
      have e2 : (u, y) = (k, v) := Option.some.inj e
      cases e2
      exact ⟨⟨p, rfl, ht⟩, kv.1, rfl, kV_is (P := X.prog) (w := X.w) ru⟩
    | succ j =>
      obtain ⟨⟨b, e1, e2⟩, q, e3, e4⟩ := hp j k v (by simpa using e)
      exact ⟨⟨b, by simpa using e1, e2⟩, q, by simpa using e3, e4⟩
theorem call_dictOf (calm : X.calm = true) : CallR X (.type "dict") (rDictOf X.K) := by
  intro pins s σ H xs us Q I r h
  obtain ⟨a, ps, kvs, rfl, hq, hp, q⟩ := h
  obtain ⟨u, rfl, rx⟩ := vals1 r
  cases rx
  obtain ⟨prs, vps, rel, l1, l2, at_⟩ := two_of I hp
  have items : ∀ its : List Value, Vals (ps.map V.ref) its → PairItems s.heap its.toArray (fun j => ps.getD j 0) vps := fun its rv => by
    have e := refs_at rv
    subst e
    refine ⟨by simp [l2], fun j k v e => ?_⟩
    obtain ⟨⟨b, e1, e2⟩, _⟩ := at_ j k v e
    have e3 : ps.getD j 0 = b := by rw [List.getD_eq_getElem?_getD, e1]; rfl
    exact ⟨by simp [e1], by show PairAt s.heap (ps.getD j 0) k v; rw [e3]; exact .inl e2⟩
  have have_ : PairsHave (mixKind X.prog X.w) vps.length (PairRel vps) prs := ⟨by rw [l1, l2], fun i k v e => by
    obtain ⟨_, q, e3, e4⟩ := at_ i k v e
    exact ⟨q, e3, e4⟩⟩
  have done : vps.length ≤ sizeLine → ∀ (h' : Heap) (tk : Tok), h'.DictOf (mixKind X.prog X.w) s.heap.objs.size (merged [] prs) → (∀ b o, b ∉ ([] : List Addr) → s.heap.get? b = some o → h'.get? b = some o) →
      ∃ x H2, Inv X pins σ H2 { s with heap := h', toks := tk } ∧ RelV x (.ref s.heap.objs.size) ∧ Q x H2 := fun hz h' tk hd hk => by
    have ne : (s.heap.objs.size == sysModules) = false := beq_eq_false_iff_ne.mpr (Nat.ne_of_gt I.big)
    have few : (mergeK [] kvs).length ≤ sizeLine := by
      refine Nat.le_trans (length_mergeK kvs []) ?_
      rw [List.length_nil, Nat.zero_add, rel.length, l1, ← l2]
      exact hz
    exact ⟨.ref s.heap.objs.size, upd H s.heap.objs.size (.dK (mergeK [] kvs)), I.laid (t' := tk) (fun b o e => hk b o (by simp) e) (Nat.le_refl _) ⟨few, ne, merged [] prs, KV.merge rel .nil, hd⟩, rfl, q _ (I.hok.fresh (Nat.le_refl _))⟩
  rcases hq with hq | hq
  · obtain ⟨its, rv, pl, hz⟩ := I.list hq
    have hz2 : vps.length ≤ sizeLine := by rw [l2, ← List.length_map (f := V.ref)]; exact hz
    exact PySem.call_dict_pairs (PairArg.list a its.toArray (fun j => ps.getD j 0) vps) (I.ok.hd calm) ⟨pl, items its rv⟩ have_ hz2 (done hz2)
  · obtain ⟨its, rv, pl, hz⟩ := hq.at I
    have hz2 : vps.length ≤ sizeLine := by rw [l2, ← List.length_map (f := V.ref)]; exact hz
    exact PySem.call_dict_pairs (PairArg.tuple a its.toArray (fun j => ps.getD j 0) vps) (I.ok.hd calm) ⟨pl, items its rv⟩ have_ hz2 (done hz2)
end
def pairsP : List PyData → Option (List (Key × PyData))
  | [] => some []
  | .tuple [.str k, d] :: r => (pairsP r).map ((.inr k, d) :: ·)
  | .tuple [.int k, d] :: r => (pairsP r).map ((.inl k, d) :: ·)
  | _ => none
def pairsW (w : W) (S : So) : Option (List (Key × PyData)) := match asT w with
  | some ds => pairsP ds
  | none => (asL w S).bind pairsP
def dictW (w : W) (S : So) : Res W := match pairsW w S with
  | some kvs => .ok (.k (mergeP [] kvs)) S
  | none => .no
def dictM (w : W) (S : So) : Res W := match pairsW w S with
  | some kvs => .ok (.r S.length) (S ++ [.k (mergeP [] kvs)])
  | none => .no
section
variable {K : PySem.W.Frag} {XR : XRel K} {H : Hp} {M : Ms} {S : So}
theorem pair_of {k : Key} {d kd : PyData} {v : V} (hk : ∀ x, Dr K H M kd x → x = kV k) (h : Dr K H M (.tuple [kd, d]) v) : ∃ p y, v = .ref p ∧ SqT K H p [kV k, y] ∧ Dr K H M d y := by
  unfold Dr at h
  obtain ⟨p, xs, e, q, r⟩ := h
  obtain ⟨x1, r1, e1, h1, h2⟩ := r.cases
  obtain ⟨x2, r2, e2, h3, h4⟩ := h2.cases
  unfold DrL at h4
  subst h4 e2 e1
  rw [hk x1 h1] at q
  exact ⟨p, x2, e, q.sq, h3⟩
theorem pairsP_ok : ∀ {ds : List PyData} {kvs : List (Key × PyData)} {vs : List V}, pairsP ds = some kvs → DrL K H M ds vs →
    ∃ ps kw, vs = ps.map V.ref ∧ Paired (fun p kv => SqT K H p [kV kv.1, kv.2]) ps kw ∧ Paired (KD (K := K) H M) kvs kw
  | [], kvs, vs, e, h => by
    cases e
    unfold DrL at h
    exact ⟨[], [], h, .nil, .nil⟩
  | d :: ds, kvs, vs, e, h => by
    obtain ⟨x, r, e1, h1, h2⟩ := h.cases
    subst e1
    unfold pairsP at e
    split at e
    · rename_i heq
      cases heq
    · rename_i k y r2 heq
      cases heq
      cases e2 : pairsP ds with
      | none => rw [e2] at e; cases e
      | some ks =>
        rw [e2] at e
        cases e
        obtain ⟨ps, kw, e3, q1, q2⟩ := pairsP_ok e2 h2
        obtain ⟨p, z, e4, q3, q4⟩ := pair_of (k := .inr k) (fun x hx => by unfold Dr at hx; exact hx) h1
        exact ⟨p :: ps, (.inr k, z) :: kw, by rw [e3, e4, List.map_cons], .cons q3 q1, .cons ⟨rfl, q4⟩ q2⟩
    · rename_i k y r2 heq
      cases heq
      cases e2 : pairsP ds with
      | none => rw [e2] at e; cases e
      | some ks =>
        rw [e2] at e
        cases e
        obtain ⟨ps, kw, e3, q1, q2⟩ := pairsP_ok e2 h2
        obtain ⟨p, z, e4, q3, q4⟩ := pair_of (k := .inl k) (fun x hx => by unfold Dr at hx; exact hx) h1
        exact ⟨p :: ps, (.inl k, z) :: kw, by rw [e3, e4, List.map_cons], .cons q3 q1, .cons ⟨rfl, q4⟩ q2⟩
    · cases e
theorem FzT.pl {a : Addr} {xs : List V} (h : FzT K H M a xs) : PlT K H a xs := by
  rcases h with ⟨_, h⟩ | h
  · exact .inl h
  · exact .inr h
theorem pairsW_ok (l : Rl XR.wo K H M S) {w : W} {v : V} {kvs : List (Key × PyData)} (r : RW XR H M w v) (e : pairsW w S = some kvs) :
    ∃ a ps kw, v = .ref a ∧ (SqL K H a (ps.map V.ref) ∨ PlT K H a (ps.map V.ref)) ∧ Paired (fun p kv => SqT K H p [kV kv.1, kv.2]) ps kw ∧ Paired (KD (K := K) H M) kvs kw := by
  unfold pairsW at e
  split at e
  · rename_i ds e1
    obtain ⟨a, vs, h1, h2, h3⟩ := asT_ok r e1
    obtain ⟨ps, kw, e3, q1, q2⟩ := pairsP_ok e h3
    exact ⟨a, ps, kw, h1, .inr (by rw [← e3]; exact h2.pl), q1, q2⟩
  · cases e1 : asL w S with
    | none => rw [e1] at e; cases e
    | some ds =>
      rw [e1] at e
      obtain ⟨a, vs, h1, h2, h3⟩ := asL_ok l r e1
      obtain ⟨ps, kw, e3, q1, q2⟩ := pairsP_ok e h3
      exact ⟨a, ps, kw, h1, .inl (by rw [← e3]; exact SqL.of h2), q1, q2⟩
theorem nx_dict : NX1 dictW := by
  intro x S c f S' e
  unfold dictW at e
  split at e <;> cases e
theorem nx_dictM : NX1 dictM := by
  intro x S c f S' e
  unfold dictM at e
  split at e <;> cases e
end
section
variable {X : Cx} {XR : XRel X.K} {Wx : WX} {n : Nat} {e : Expr} {fr : FA} {p pos : Pos}
theorem cr_fz {f : Value} {r : List V → Hp → VK → Prop} (h : CallR X f r) : CallR X f (fun xs H Q => r xs H (fz Q)) := by
  intro pins s σ H xs us Q I rx hq
  refine thn (h pins s σ H xs us (fz Q) I rx hq) fun v s1 ⟨x, H1, I1, r1, d, u, ex, hd, mu, q⟩ => ?_
  obtain ⟨od, I2⟩ := I1.lock hd mu
  exact ⟨x, _, I2, r1, q od⟩
theorem opn_dict : OpN XR (o1 dictW) (fun xs H Q => rDictOf X.K xs H (fz Q)) := by
  intro H M S S' xs w vs Q l rx e q
  unfold o1 at e
  split at e
  · cases rx with
    | cons r rr =>
      cases rr
      unfold dictW at e
      split at e
      · rename_i kvs e1
        cases e
        obtain ⟨a, ps, kw, h1, h2, h3, h4⟩ := pairsW_ok l r e1
        subst h1
        refine ⟨a, ps, kw, rfl, h2, h3, fun p np => ⟨p, _, rfl, upd_same, trivial, fun od => ?_⟩⟩
        rw [upd_upd]
        exact q M _ _ (stp_new np) (l.new np) ⟨p, _, rfl, l.notin np, ⟨od, upd_same⟩, merge_ok (X := X) (KD.stp (stp_new np) h4) .nil⟩
      · cases e
  · cases e
theorem opn_dictM : OpN XR (o1 dictM) (rDictOf X.K) := by
  intro H M S S' xs w vs Q l rx e q
  unfold o1 at e
  split at e
  · cases rx with
    | cons r rr =>
      cases rr
      unfold dictM at e
      split at e
      · rename_i kvs e1
        cases e
        obtain ⟨a, ps, kw, h1, h2, h3, h4⟩ := pairsW_ok l r e1
        subst h1
        refine ⟨a, ps, kw, rfl, h2, h3, fun p np => q (M.add p) _ _ (stp_mut np) (l.mut np ⟨_, rfl, merge_ok (X := X) (KD.stp (stp_mut np) h4) .nil⟩) ⟨p, ?_, rfl⟩⟩
        have ln : M.m.length = S.length := Paired.length l.ob
        show (M.m ++ [p])[S.length]? = some p
        rw [← ln]
        simp
      · cases e
  · cases e
theorem bDict : bootBuiltins "dict" = some (.type "dict") := by rfl
theorem fe_dict (C : Ct X Wx n) (hm : X.mg "dict" = none) (hg : Gl X "dict") (ha : FAx X XR Wx [e] fr) (he : starEach [e] X.env = (false, eval e X.env) :: starEach [] X.env := by rfl) : FEx X XR Wx (.Call (.Name "dict" p) [e] [] pos) (fB1 (o1 dictW) fr) :=
  fe_ty (cr_fz (call_dictOf C.cal)) opn_dict (nx_o1 nx_dict) hg hm bDict ha (by decide) (by decide) he
theorem fe_dictM (C : Ct X Wx n) (hm : X.mg "dict" = none) (hg : Gl X "dict") (ha : FAx X XR Wx [e] fr) (he : starEach [e] X.env = (false, eval e X.env) :: starEach [] X.env := by rfl) : FEx X XR Wx (.Call (.Name "dict" p) [e] [] pos) (fB1 (o1 dictM) fr) :=
  fe_ty (call_dictOf C.cal) opn_dictM (nx_o1 nx_dictM) hg hm bDict ha (by decide) (by decide) he
end
end FL

set_option Elab.async false
set_option linter.all false
set_option maxRecDepth 100000
set_option maxHeartbeats 1000000
namespace FL
open PySem PySem.Spec PyProof.Rows
open L2
section
variable {X : Cx} {XR : XRel X.K} {Wx : WX} {n : Nat} {pos : Pos} {tg iter : Expr}
theorem fv (i : Nat) {x : Str} (hN : X.N[i]? = some x := by rfl) (hv : Vis X.env.scope x := by first | exact Or.inl rfl | exact Or.inr (Or.inl rfl) | exact Or.inr (Or.inr rfl)) (hd : (x == ("__debug__" : Str)) = false := by decide)
    (hcd : (x == ("__classdict__" : Str)) = false := by decide) : FEx X XR Wx (.Name x pos) (fV i) := fe_v hN hv hd hcd
/-- a comprehension without if, with one -/
theorem fe_lc0 {elt : Expr} {scope : Scope} {sl : List Nat} {fi : FI} {g : FG} {te : FE} (own : List (Str × Nat)) (C : Ct X Wx n) (hN : X.N.Nodup) (hi : FIx X XR Wx tg iter fi) (ok : BlkOk X.N X.env.scope scope own)
    (hg : ∀ (s : Shared) (H : Hp) (D : Addr) (cl : List (Str × Addr)) (fp : List Addr), FGx (Blk X scope s H D cl fp) XR tg sl g) (hsl : ∀ i, i ∈ sl → i ∈ own.map (·.2))
    (he : ∀ (s : Shared) (H : Hp) (D : Addr) (cl : List (Str × Addr)) (fp : List Addr), FEx (Blk X scope s H D cl fp) XR Wn elt te) (hs : ∀ x, foldedSetIterable iter X.env x = pure x := by intro _; rfl) :
    FEx X XR Wx (.ListComp elt [⟨tg, iter, [], 0⟩] scope pos) (fLc fi g fYes te (own.map (·.2))) :=
  fe_lc (tt := tYes) C hN hi ok hg hsl (fun _ _ _ _ _ => pts_nil) (fun σ H Q ⟨M, S, ev, l, rs, h⟩ => Pst.ok (v := true) h l rfl) he hs
theorem fe_lc1 {elt c : Expr} {scope : Scope} {sl : List Nat} {fi : FI} {g : FG} {t : FT} {te : FE} (own : List (Str × Nat)) (C : Ct X Wx n) (hN : X.N.Nodup) (hi : FIx X XR Wx tg iter fi) (ok : BlkOk X.N X.env.scope scope own)
    (hg : ∀ (s : Shared) (H : Hp) (D : Addr) (cl : List (Str × Addr)) (fp : List Addr), FGx (Blk X scope s H D cl fp) XR tg sl g) (hsl : ∀ i, i ∈ sl → i ∈ own.map (·.2))
    (ht : ∀ (s : Shared) (H : Hp) (D : Addr) (cl : List (Str × Addr)) (fp : List Addr), FTx (Blk X scope s H D cl fp) XR Wn c t)
    (he : ∀ (s : Shared) (H : Hp) (D : Addr) (cl : List (Str × Addr)) (fp : List Addr), FEx (Blk X scope s H D cl fp) XR Wn elt te) (hs : ∀ x, foldedSetIterable iter X.env x = pure x := by intro _; rfl) :
    FEx X XR Wx (.ListComp elt [⟨tg, iter, [c], 0⟩] scope pos) (fLc fi g t te (own.map (·.2))) :=
  fe_lc (tt := rT XR Wn t) C hN hi ok hg hsl (fun s H D cl fp => pts_one (ht s H D cl fp)) (fun σ H Q h => h) he hs
theorem yes_ok {Wx : WX} {σ : L2.St} {H : Hp} {Q : Bool → Hp → Prop} (h : rT XR Wx fYes σ H Q) : tYes σ H Q := by
  obtain ⟨M, S, ev, l, rs, h⟩ := h
  exact Pst.ok (v := true) h l rfl
theorem fs_setLc0 {i : Nat} {y : Str} {py spos : Pos} {elt : Expr} {scope : Scope} {sl : List Nat} {fi : FI} {g : FG} {te : FE} (own : List (Str × Nat)) (C : Ct X Wx n) (hN : X.N.Nodup) (hy : X.N[i]? = some y) (hyl : X.env.scope.names.lookup y = some .local)
    (hsw : swapsWith (.ListComp elt [⟨tg, iter, [], 0⟩] scope pos) (some (.Name y py)) spos.line X.env = pure true) (hi : FIx X XR Wx tg iter fi) (ok : BlkOk X.N X.env.scope scope own)
    (hg : ∀ (s : Shared) (H : Hp) (D : Addr) (cl : List (Str × Addr)) (fp : List Addr), FGx (Blk X scope s H D cl fp) XR tg sl g) (hsl : ∀ i, i ∈ sl → i ∈ own.map (·.2))
    (he : ∀ (s : Shared) (H : Hp) (D : Addr) (cl : List (Str × Addr)) (fp : List Addr), FEx (Blk X scope s H D cl fp) XR Wn elt te) (hs : ∀ x, foldedSetIterable iter X.env x = pure x := by intro _; rfl) :
    FSx X XR Wx (.Assign [.Name y py] (.ListComp elt [⟨tg, iter, [], 0⟩] scope pos) spos) (fSet i (fLc fi g fYes te (own.map (·.2)))) :=
  fs_setLc (tt := tYes) C hN hy hyl hsw hi ok hg hsl (fun _ _ _ _ _ => pts_nil) (fun σ H Q h => yes_ok h) he hs
theorem fs_setLc1 {i : Nat} {y : Str} {py spos : Pos} {elt c : Expr} {scope : Scope} {sl : List Nat} {fi : FI} {g : FG} {t : FT} {te : FE} (own : List (Str × Nat)) (C : Ct X Wx n) (hN : X.N.Nodup) (hy : X.N[i]? = some y) (hyl : X.env.scope.names.lookup y = some .local)
    (hsw : swapsWith (.ListComp elt [⟨tg, iter, [c], 0⟩] scope pos) (some (.Name y py)) spos.line X.env = pure true) (hi : FIx X XR Wx tg iter fi) (ok : BlkOk X.N X.env.scope scope own)
    (hg : ∀ (s : Shared) (H : Hp) (D : Addr) (cl : List (Str × Addr)) (fp : List Addr), FGx (Blk X scope s H D cl fp) XR tg sl g) (hsl : ∀ i, i ∈ sl → i ∈ own.map (·.2))
    (ht : ∀ (s : Shared) (H : Hp) (D : Addr) (cl : List (Str × Addr)) (fp : List Addr), FTx (Blk X scope s H D cl fp) XR Wn c t)
    (he : ∀ (s : Shared) (H : Hp) (D : Addr) (cl : List (Str × Addr)) (fp : List Addr), FEx (Blk X scope s H D cl fp) XR Wn elt te) (hs : ∀ x, foldedSetIterable iter X.env x = pure x := by intro _; rfl) :
    FSx X XR Wx (.Assign [.Name y py] (.ListComp elt [⟨tg, iter, [c], 0⟩] scope pos) spos) (fSet i (fLc fi g t te (own.map (·.2)))) :=
  fs_setLc (tt := rT XR Wn t) C hN hy hyl hsw hi ok hg hsl (fun s H D cl fp => pts_one (ht s H D cl fp)) (fun σ H Q h => h) he hs
end
end FL

set_option Elab.async false
set_option linter.all false
set_option maxRecDepth 100000
set_option maxHeartbeats 2000000
namespace FL
open PySem PySem.Spec PyProof.Rows
open L2
/-! an exception that is caught and held -/
def EH (cls : Value) (d : Option Addr) (a : Addr) : HO := .ext fun h => ∃ (oe : Obj) (vs : Array Value), h.get? a = some oe ∧ Zc cls d oe ∧ oe.data = .fields vs
theorem eh_ok {P : Program} {w : World} {H : Hp} {h : Heap} {a : Addr} {cls : Value} {d : Option Addr} {oe : Obj} {vs : Array Value} (e : h.get? a = some oe) (z : Zc cls d oe) (dt : oe.data = .fields vs) : ObjOk P w H h a (EH cls d a) :=
  ⟨⟨oe, vs, e, z, dt⟩, ⟨oe, e⟩, fun h1 h2 ⟨o1, v1, q, r⟩ k => ⟨o1, v1, k o1 q, r⟩⟩
section
variable {X : Cx} {pins : List (Addr × Obj)} {σ : L2.St} {H : Hp} {s sI : Shared} {B : Heap} {a : Addr} {o : HO}
theorem landedT (I : Inv X pins σ H sI) (nb : ∀ b o, sI.heap.get? b = some o → b ∉ frs X.stack → B.get? b = some o) (st : B.StaysIn s.heap) (up : sI.heap.UpToSlots s.heap) (os : s.os = sI.os) (ag : AllBare s.gens)
    (n0 : sI.heap.get? a = none) (na : H a = none) (new : ObjOk X.prog X.w (upd H a o) s.heap a o) : Inv X pins σ (upd H a o) s := by
  have J0 := I.landed nb st up os ag
  have ne : ∀ b u, sI.heap.get? b = some u → b ≠ a := fun b u e z => by
    rw [z, n0] at e
    cases e
  have nf : ∀ b, b ∈ frs X.stack → ∀ u, sI.heap.get? b = some u → ∃ sl, s.heap.get? b = some { u with slots := sl } := fun b hb u e => by
    obtain ⟨_, u2, e2, hd⟩ := I.stack.mem hb
    rw [e] at e2
    cases e2
    exact up b u e hd
  have J := I.call (ch := []) (h' := s.heap) (g' := s.gens) (t' := s.toks) (d' := s.drawn) (H' := upd H a o)
    ⟨fun b u e _ hb _ => st b u (nb b u e hb), fun b u e _ hb _ => nf b hb u e, fun b u e n _ => by rw [upd_ne (ne b u e)]; exact n, fun b u e _ => by
      by_cases hb : b ∈ frs X.stack
      · obtain ⟨sl, q⟩ := nf b hb u e
        exact ⟨_, q⟩
      · exact ⟨u, st b u (nb b u e hb)⟩, fun b xs e => by rw [upd_ne (ne_of_none e na)]; exact e, fun b u v e => by rw [upd_ne (ne_of_none e na)]; exact e, fun b ps e => ⟨#[], by rw [upd_ne (ne_of_none e na), e]; simp⟩⟩
    (HOk.laidN J0.hok (fun _ _ q => q) na new) ag (fun _ z => nomatch z)
  obtain ⟨s1, s2, s3, s4, s5⟩ := s
  have e5 : s5 = sI.os := os
  subst e5
  exact J
/-- in an except suite, nothing set apart -/
theorem inSuite (I : Inv X pins σ H s) (b : Addr) : Inv (X.suite b (X.pn ++ pins)) [] σ H s :=
  ⟨I.ok.suite _ _, I.os, I.bare, I.base, I.loc, I.cell, I.free, I.freeC, fun p hp => I.pin p (by rw [List.append_nil] at hp; exact hp), I.hok, I.len⟩
theorem outSuite {pn2 : List (Addr × Obj)} {b : Addr} (I : Inv (X.suite b (X.pn ++ pins)) pn2 σ H s) (ok : X.Ok) : Inv X pins σ H s :=
  ⟨ok, I.os, I.bare, I.base, I.loc, I.cell, I.free, I.freeC, fun p hp => I.pin p (List.mem_append_left _ hp), I.hok, I.len⟩
def wKeep (K : PySem.W.Frag) (c : Value) (i : Nat) (ts : TS) (Wout : WX) (D : Ends) : WX := fun cls d σ H =>
  ∃ b, PySem.W.exmOne K cls c = some b ∧ (b = true → ∀ a, H a = none → ts { nx := fun σ' H' => D.nx (σ'.set i none) H', rt := D.rt, bk := fun σ' H' => D.bk (σ'.set i none) H', ct := fun σ' H' => D.ct (σ'.set i none) H' } (σ.set i (some (.ref a))) (upd H a (EH cls d a))) ∧
    (b = false → Wout cls d σ H)
end
section
variable {X : Cx} {x n : Str} {c : Value} {i : Nat} {body suite : List Stmt} {b₀ : Stmt} {np pos pos' : Pos} {tb : WX → TS} {ts : TS} {Wout : WX}
theorem ps_keep (hs : X.stack = X.env :: X.outer) (hf : X.env.frame = some X.env.locals) (hN : X.N.Nodup) (hi : X.N[i]? = some n) (hln : X.env.kindOf n = some .local) (hc : Names X x c) (tk : Takes X Wout)
    (hb : ∀ (W : WX) (pn : List (Addr × Obj)) (xe : Value → Shared → Prop), Takes (X.tr pn xe) W → PassesOwn (model X.prog X.w) X.A X.env xe → PSs (X.tr pn xe) body (tb W))
    (hsu : ∀ (a : Addr) (pn : List (Addr × Obj)), PSs (X.suite a pn) (b₀ :: suite) ts) :
    PS X (.Try body [.ExceptHandler (some (.Name x np)) (some n) (b₀ :: suite) pos'] [] [] pos) (fun D σ H => tb (wKeep X.K c i ts Wout D) D σ H) := by
  refine ⟨fun pins s σ H D I h => ?_⟩
  have ok := I.ok
  have hfr : X.A.frames = some (X.env :: X.outer) := by rw [ok.frames, hs]
  refine wpAny_Try_except ?_
  refine wpAny_mono ((hb (wKeep X.K c i ts Wout D) (X.pn ++ pins) (fun e s₁ => wpAny (model X.prog X.w) X.A (noteFrame e X.env) (fun _ s₂ => wpAny (model X.prog X.w) X.A (setFlight e none) (fun _ s₃ =>
    wpAny (model X.prog X.w) X.A (handleBy e X.env [.ExceptHandler (some (.Name x np)) (some n) (b₀ :: suite) pos']) (SP X pins D) X.xe s₃) X.xe s₂) X.xe s₁) (fun u s' xx => ?_) PassesOwn.looking).run [] s σ H D (I.toTry _) h) (fun f s1 hsp => ?_) (fun e s1 he => he)
  · obtain ⟨a, B, sI, pins2, σ2, H2, cls, d, rfl, J2, nb, up, sky, na, os, ag, b, hb1, hyes, hno⟩ := xx
    have J : Inv X pins σ2 H2 sI := J2.ofTry ok
    have sky2 : Sky B (X.env :: X.outer) a (Zc cls d) X.env.locals s'.heap := by rw [← hs]; exact sky
    show wpAny (model X.prog X.w) X.A (noteFrame (.ref a) X.env) _ _ _
    refine Sky.land Zc.steady hfr hf sky2 fun h3 fl3 up3 => ?_
    have J3 : Inv X pins σ2 H2 { s' with heap := h3 } := J.landed nb fl3.1 (up.trans up3) os ag
    obtain ⟨oe3, vs3, he3, hz3, hd3⟩ := fl3.there
    have off : a ∉ frs (X.env :: X.outer) := fun hm => by
      obtain ⟨_, o2, e2, hnf⟩ := fl3.2.2.1.mem hm
      rw [he3] at e2
      cases e2
      exact hnf _ hd3
    have n0 : sI.heap.get? a = none := by
      cases e : sI.heap.get? a with
      | none => rfl
      | some u =>
        have q := nb a u e (by rw [hs]; exact off)
        rw [fl3.2.1] at q
        cases q
    have S3 : Inv (X.suite a (X.pn ++ pins)) [] σ2 H2 { s' with heap := h3 } := inSuite J3 a
    refine wpAny_handleBy_cons (codeAny_handlers_test ?_) (by intro q; cases q)
    have LT : PySem.W.Looks (model X.prog X.w) h3 (typeOf (.ref a)) cls := fun A Q E s k q => wpAny_typeOf_ref (k _ _ he3) (by rw [hz3.1]; exact q)
    have LM := PySem.W.exm_one (M := model X.prog X.w) (J3.kIn) LT hb1
    have test : ∀ {Q : Value → Shared → Prop} {E : Value → Shared → Prop}, Q c { s' with heap := h3 } → wpAny (model X.prog X.w) (X.A.mark (some (.ref a))) (eval (.Name x np) X.env) Q E { s' with heap := h3 } := fun {Q E} q => by
      obtain ⟨hg, hdbg, hm | ⟨hm, hv, hnn⟩⟩ := hc
      · exact ld_glob (X := X.suite a (X.pn ++ pins)) S3 hg hm q hdbg
      · exact ld_blt (X := X.suite a (X.pn ++ pins)) S3 hg hm hv q hnn hdbg
    refine test (LM.here ?_)
    cases b with
    | true =>
      refine codeAny_handlers_suite_as (HandSPX.lands_againZ fl3 fun h4 fl4 up4 => ?_)
      obtain ⟨oe4, vs4, he4, hz4, hd4⟩ := fl4.there
      have J4 : Inv X pins σ2 (upd H2 a (EH cls d a)) { s' with heap := h4 } := landedT J nb fl4.1 ((up.trans up3).trans up4) os ag n0 na (eh_ok he4 hz4 hd4)
      refine store_ok (X := X.suite a (X.pn ++ pins)) (v := .ref a) (inSuite J4 a) hN hi (.inl hln) rfl (fun s5 S5 => ?_) (.inr hln)
      refine wpAny_mono ((hsu a (X.pn ++ pins)).run [] s5 _ _ _ S5 (hyes rfl a na)) (fun f s6 hsp => ?_) (fun _ _ z => False.elim z)
      have end_ : ∀ {σ6 : L2.St} {H6 : Hp} {Q : Shared → Prop}, Inv (X.suite a (X.pn ++ pins)) [] σ6 H6 s6 → (∀ s7, Inv X pins (σ6.set i none) H6 s7 → Q s7) →
          wpAny (model X.prog X.w) X.A (do bindName X.env n .none; unbindBehindTheSuite X.env n pos') (fun _ s7 => Q s7) X.xe s6 := fun {σ6 H6 Q} S6 hq => gone_ok (outSuite S6 ok) hN hi hln hq
      cases f with
      | next =>
        obtain ⟨σ6, H6, S6, q6⟩ := hsp
        exact end_ S6 fun s7 J7 => ⟨_, _, J7, q6⟩
      | brk =>
        obtain ⟨σ6, H6, S6, q6⟩ := hsp
        exact end_ S6 fun s7 J7 => ⟨_, _, J7, q6⟩
      | cont =>
        obtain ⟨σ6, H6, S6, q6⟩ := hsp
        exact end_ S6 fun s7 J7 => ⟨_, _, J7, q6⟩
      | ret u =>
        obtain ⟨v6, σ6, H6, S6, r6, q6⟩ := hsp
        exact end_ S6 fun s7 J7 => ⟨_, _, _, J7, r6, q6⟩
    | false =>
      show wpAny _ X.A (handleBy (.ref a) X.env []) _ _ _
      refine wpAny_handleBy_nil ?_
      obtain ⟨k1, k2, k3, oe, vs, T, oT, ts', he, hz, hd, h1, hr⟩ := id fl3
      unfold PySem.passOn
      refine wpAny_bind (wpAny_field he hd h1 ?_)
      rw [if_neg (show ¬ ((Value.ref T == Value.none) = true) from by simp)]
      have go : wpAny (model X.prog X.w) X.A (setFlight (.ref a) X.env.frame) (fun _ s4 => wpAny (model X.prog X.w) X.A (throw (.ref a) : Sem Flow) (SP X pins D) X.xe s4) X.xe { s' with heap := h3 } := by
        rw [hf]
        refine HandSPX.setFlight_upZ fl3 fun h4 hh4 up4 => wpAny_throw (tk _ _ ?_)
        exact ⟨a, B, sI, pins, σ2, H2, cls, d, rfl, J, nb, (up.trans up3).trans up4, .inr (.inr (by rw [hs]; exact hh4)), na, os, ag, hno rfl⟩
      first
        | exact wpAny_bind (wpAny_pure (wpAny_bind go))
        | exact wpAny_bind go
  · cases f with
    | next =>
      obtain ⟨σ2, H2, J2, q⟩ := hsp
      exact wpAny_execs_nil ⟨σ2, H2, J2.ofTry ok, q⟩
    | brk =>
      obtain ⟨σ2, H2, J2, q⟩ := hsp
      exact ⟨σ2, H2, J2.ofTry ok, q⟩
    | cont =>
      obtain ⟨σ2, H2, J2, q⟩ := hsp
      exact ⟨σ2, H2, J2.ofTry ok, q⟩
    | ret u =>
      obtain ⟨v, σ2, H2, J2, r, q⟩ := hsp
      exact ⟨v, σ2, H2, J2.ofTry ok, r, q⟩
end
end FL

set_option Elab.async false
set_option linter.all false
set_option maxRecDepth 100000
set_option maxHeartbeats 2000000
namespace FL
open PySem PySem.Spec PyProof.Rows
open L2
/-! errors: how the classes lie, what is held, what flies -/
structure Er where
  nc : Nat
  cnm : Nat → Str
  fld : Nat → Option Str
  sub : Nat → Nat → Bool
/-- what stands behind a held one -/
def fAt (K : PySem.W.Frag) (e : Er) (H : Hp) (M : Ms) (c : Nat) (f : PyData) (dx : Option Addr) : Prop := match e.fld c with
  | none => f = .none ∧ dx = none
  | some nm => ∃ dd v, dx = some dd ∧ dd ∉ M ∧ H dd = some (.xd [(nm, v)]) ∧ Dr K H M f v
def XRof (K : PySem.W.Frag) (e : Er) (cs : Nat → Addr) (w : World) : XRel K where
  wo := w
  R := fun H M a c f => a ∉ M ∧ c < e.nc ∧ ∃ dx, H a = some (EH (.ref (cs c)) dx a) ∧ fAt K e H M c f dx
  D := fun c f cls dx H M => c < e.nc ∧ cls = .ref (cs c) ∧ fAt K e H M c f dx
  out := fun h => h.1
  stp := fun {H M H1 M1 a c f} s ⟨n, hc, dx, h1, h2⟩ => ⟨s.out n h1, hc, dx, s.ext _ _ n h1, by
    unfold fAt at h2 ⊢
    split at h2
    · exact h2
    · obtain ⟨dd, v, e, nd, h3, h4⟩ := h2
      exact ⟨dd, v, e, s.out nd h3, s.ext _ _ nd h3, Dr.stp s _ _ h4⟩⟩
  les := fun {H M M1 a c f} s ⟨n, hc, dx, h1, h2⟩ => ⟨fun z => n (s _ z), hc, dx, h1, by
    unfold fAt at h2 ⊢
    split at h2
    · exact h2
    · obtain ⟨dd, v, e, nd, h3, h4⟩ := h2
      exact ⟨dd, v, e, fun z => nd (s _ z), h3, Dr.les s _ _ h4⟩⟩
  dles := fun {c f cls dx H M M1} s ⟨hc, h1, h2⟩ => ⟨hc, h1, by
    unfold fAt at h2 ⊢
    split at h2
    · exact h2
    · obtain ⟨dd, v, e, nd, h3, h4⟩ := h2
      exact ⟨dd, v, e, fun z => nd (s _ z), h3, Dr.les s _ _ h4⟩⟩
section
variable {wo : World} {K : PySem.W.Frag} {e : Er} {cs : Nat → Addr} {H : Hp} {M : Ms} {c : Nat} {f : PyData}
theorem xr_held {cls : Value} {dx : Option Addr} {a : Addr} {S : So} (l : Rl wo K H M S) (na : H a = none) (h : (XRof K e cs wo).D c f cls dx H M) : (XRof K e cs wo).R (upd H a (EH cls dx a)) M a c f := by
  obtain ⟨hc, rfl, h2⟩ := h
  refine ⟨l.notin na, hc, dx, upd_same, ?_⟩
  unfold fAt at h2 ⊢
  split at h2
  · exact h2
  · obtain ⟨dd, v, e, nd, h3, h4⟩ := h2
    exact ⟨dd, v, e, nd, (stp_new (M := M) na).ext _ _ nd h3, Dr.stp (stp_new na) _ _ h4⟩
end
/-! try: .. except C as n: .. -/
def fTry (t : Nat → Bool) (i : Nat) (body suite : FS) : FS := fun ev S => match body ev S with
  | .ex c f e1 S1 => if t c then (match suite (e1.set i (some (.x c f))) S1 with
    | .nx e2 S2 => .nx (e2.set i none) S2
    | .rt w S2 => .rt w S2
    | .bk e2 S2 => .bk (e2.set i none) S2
    | .ct e2 S2 => .ct (e2.set i none) S2
    | _ => .no) else .ex c f e1 S1
  | o => o
section
variable {wo : World} {X : Cx} {e : Er} {cs : Nat → Addr} {Wx : WX} {m : Nat} {x n : Str} {k i : Nat} {body suite : List Stmt} {b₀ : Stmt} {np pos pos' : Pos} {fb fs : FS}
theorem Rs.del {XR : XRel X.K} {M : Ms} {H : Hp} {ev : Ev} {σ : L2.St} {i : Nat} (rs : Rs XR H M ev σ) : Rs XR H M (ev.set i none) (σ.set i none) := Paired.setB (fun _ e => by cases e) i rs
theorem fs_try (C : Ct X Wx m) (hk : k < e.nc) (hs : X.stack = X.env :: X.outer) (hf : X.env.frame = some X.env.locals) (hN : X.N.Nodup) (hi : X.N[i]? = some n) (hln : X.env.kindOf n = some .local) (hc : Names X x (.ref (cs k)))
    (ht : ∀ c, c < e.nc → PySem.W.exmOne X.K (.ref (cs c)) (.ref (cs k)) = some (e.sub c k))
    (hb : ∀ (W : WX) (pn : List (Addr × Obj)) (xe : Value → Shared → Prop), Ct (X.tr pn xe) W m → FSs (X.tr pn xe) (XRof X.K e cs wo) W body fb)
    (hsu : ∀ (a : Addr) (pn : List (Addr × Obj)), FSs (X.suite a pn) (XRof X.K e cs wo) Wn (b₀ :: suite) fs) :
    FSx X (XRof X.K e cs wo) Wx (.Try body [.ExceptHandler (some (.Name x np)) (some n) (b₀ :: suite) pos'] [] [] pos) (fTry (fun c => e.sub c k) i fb fs) := by
  refine PS.imp (ps_keep (tb := fun W => rS (XRof X.K e cs wo) W fb) (ts := rS (XRof X.K e cs wo) Wn fs) hs hf hN hi hln hc C.tk (fun W pn xe tk pp => hb W pn xe ⟨C.cal, C.room, C.gds, tk, pp⟩) hsu) ?_
  rintro D σ H ⟨M, S, ev, l, rs, h⟩
  refine ⟨M, S, ev, l, rs, ?_⟩
  unfold fTry at h
  cases eb : fb ev S with
  | nx e1 S1 => rw [eb] at h; exact h
  | rt w S1 => rw [eb] at h; exact h
  | bk e1 S1 => rw [eb] at h; exact h
  | ct e1 S1 => rw [eb] at h; exact h
  | no => rw [eb] at h; exact h
  | ex c f e1 S1 =>
    rw [eb] at h
    dsimp only at h
    intro M1 H1 σ1 cls dx s1 l1 rs1 d1
    have hcls : cls = .ref (cs c) := d1.2.1
    refine ⟨e.sub c k, by rw [hcls]; exact ht c d1.1, fun hy a na => ?_, fun hn => ?_⟩
    · rw [if_pos hy] at h
      have s2 : Stp M1 H1 M1 (upd H1 a (EH cls dx a)) := stp_new na
      refine ⟨M1, S1, e1.set i (some (.x c f)), l1.new na, (rs1.stp s2).set ⟨a, rfl, xr_held l1 na d1⟩, ?_⟩
      cases es : fs (e1.set i (some (.x c f))) S1 with
      | nx e2 S2 =>
        rw [es] at h
        exact fun M3 H3 σ3 s3 l3 r3 => h M3 H3 _ ((s1.trans s2).trans s3) l3 r3.del
      | rt w S2 =>
        rw [es] at h
        exact fun M3 H3 v s3 l3 r3 => h M3 H3 v ((s1.trans s2).trans s3) l3 r3
      | bk e2 S2 =>
        rw [es] at h
        exact fun M3 H3 σ3 s3 l3 r3 => h M3 H3 _ ((s1.trans s2).trans s3) l3 r3.del
      | ct e2 S2 =>
        rw [es] at h
        exact fun M3 H3 σ3 s3 l3 r3 => h M3 H3 _ ((s1.trans s2).trans s3) l3 r3.del
      | ex c2 f2 e2 S2 => rw [es] at h; exact h.elim
      | no => rw [es] at h; exact h.elim
    · rw [if_neg (by rw [hn]; exact Bool.false_ne_true)] at h
      exact h M1 H1 σ1 cls dx s1 l1 rs1 d1
end
/-! isinstance(x, C) of held errors, of data -/
/-- what a class must say for isinstance, for its instances' fields -/
structure ExK (K : PySem.W.Frag) (C : Addr) : Prop where
  hcl : (PySem.W.clsIn K C).isSome = true
  hga : PySem.W.findIn K (.ref C) "__getattribute__" = some (some (.builtin "BaseException.__getattribute__"))
  hgt : PySem.W.findIn K (.ref C) "__getattr__" = some none
  hsub : PySem.W.subIn K (.ref C) (.type "BaseException") = some true
  ha : PySem.W.findIn K (.ref C) "__class__" = some (some (.builtin "object.__class__"))
  hm : PySem.W.mroIn K C (.type "object") = some true
  hn : PySem.W.specialIn K (.builtin "object.__class__") "__get__" = some (some (.builtin "getset_descriptor.__get__"))
  ht : PySem.W.takesIn K (.builtin "object.__class__") = some true
section
variable {wo : World} {X : Cx} {e : Er} {cs : Nat → Addr} {pins : List (Addr × Obj)} {σ : L2.St} {H : Hp} {s : Shared}
theorem held_at {a C : Addr} {dx : Option Addr} (I : Inv X pins σ H s) (h : H a = some (EH (.ref C) dx a)) (hd : ∀ dd, dx = some dd → ∃ fs, H dd = some (.xd fs)) : ∃ ox od, PySem.W.InstAt s.heap a ox C od := by
  obtain ⟨⟨oe, vs, e1, hz, d1⟩, _, _⟩ := (show ObjOk X.prog X.w H s.heap a (EH (.ref C) dx a) from I.hok a _ h)
  cases dx with
  | none => exact ⟨oe, none, e1, hz.1, by unfold PySem.W.notCls; rw [d1] <;> rfl, by rw [hz.2]; exact True.intro⟩
  | some dd =>
    obtain ⟨fs, h2⟩ := hd dd rfl
    obtain ⟨mA, ⟨od, es, ep, ho, _⟩, _⟩ := (show ObjOk X.prog X.w H s.heap dd (.xd fs) from I.hok dd _ h2)
    exact ⟨oe, some od, e1, hz.1, by unfold PySem.W.notCls; rw [d1] <;> rfl, by rw [hz.2]; exact ho⟩
def rIsH (K : PySem.W.Frag) : List V → Hp → VK → Prop := fun xs H Q => ∃ (a C : Addr) (dx : Option Addr) (c : V) (cv : Value) (b : Bool),
  xs = [.ref a, c] ∧ H a = some (EH (.ref C) dx a) ∧ (∀ dd, dx = some dd → ∃ fs, H dd = some (.xd fs)) ∧ ExK K C ∧ ClsV c cv ∧ PySem.W.kitOne K (.ref C) cv = some b ∧ Q (.bl b) H
theorem call_isH : CallR X (.builtin "isinstance") (rIsH X.K) := by
  intro pins s σ H xs us Q I r h
  obtain ⟨a, C, dx, c, cv, b, rfl, hE, hd, T, hcv, e, q⟩ := h
  obtain ⟨u1, u2, rfl, r1, r2⟩ := vals2 r
  obtain ⟨ox, od, J⟩ := held_at I hE hd
  have e2 := hcv.eq r2
  subst e2
  cases (show u1 = Value.ref a from r1)
  exact PySem.W.kia_one (PySem.W.kitx_exc T.hcl T.hga T.hgt T.hsub T.ha T.hn T.ht T.hm) I.kIn J e (fun z => nomatch z) fun tk => ⟨.bl b, H, I.tok tk, rfl, q⟩
theorem call_isHX : CallR X (.builtin "isinstance") (fun xs H Q => rIsH X.K xs H Q ∨ rIsi X.K xs H Q) := by
  intro pins s σ H xs us Q I r h
  rcases h with h | h
  · exact call_isH pins s σ H xs us Q I r h
  · exact call_isi pins s σ H xs us Q I r h
end
def bTys : List String := ["NoneType", "bool", "int", "str", "list", "tuple", "dict"]
def fIsC (e : Er) (k : Nat) (fa : FE) : FE := fun ev S => (fa ev S).bind fun w S1 => match w with
  | .x c _ => .ok (.d (.bool (e.sub c k))) S1
  | w => match tyW w S1 with
    | some t => if t ∈ bTys then .ok (.d (.bool false)) S1 else .no
    | none => .no
section
variable {wo : World} {X : Cx} {e : Er} {cs : Nat → Addr} {Wx : WX} {n k : Nat} {ex : Expr} {fa : FE} {p p2 pos : Pos} {tn : Str}
theorem fAt_d {K : PySem.W.Frag} {H : Hp} {M : Ms} {c : Nat} {f : PyData} {dx : Option Addr} (h : fAt K e H M c f dx) : ∀ dd, dx = some dd → ∃ fs, H dd = some (.xd fs) := fun dd z => by
  unfold fAt at h
  split at h
  · rw [h.2] at z
    cases z
  · obtain ⟨d2, v, e2, _, h3, _⟩ := h
    rw [e2] at z
    cases z
    exact ⟨_, h3⟩
theorem fe_isC (hm : X.mg "isinstance" = none) (hg : Gl X "isinstance") (ha : FEx X (XRof X.K e cs wo) Wx ex fa) (hk : k < e.nc) (hm2 : X.mg tn = some (.ref (cs k))) (hg2 : Gl X tn) (hx : ∀ c, c < e.nc → ExK X.K (cs c))
    (ht : ∀ c, c < e.nc → PySem.W.kitOne X.K (.ref (cs c)) (.ref (cs k)) = some (e.sub c k)) (hb : ∀ t, t ∈ bTys → PySem.W.kitOne X.K (.type t) (.ref (cs k)) = some false) (hd2 : (tn == ("__debug__" : Str)) = false := by decide)
    (hs1 : starEach [ex, .Name tn p2] X.env = (false, eval ex X.env) :: starEach [.Name tn p2] X.env := by rfl) : FEx X (XRof X.K e cs wo) Wx (.Call (.Name "isinstance" p) [ex, .Name tn p2] [] pos) (fIsC e k fa) := by
  refine PE.imp (pe_callB call_isHX hg hm bIsi (pa_cons ha (pa_cons (pe_glob hg2 hm2 (v := .ref (cs k)) rfl hd2) pa_nil) hs1) (by decide) (by decide) hs1 rfl) ?_
  rintro σ H Q ⟨M, S, ev, l, rs, h⟩
  refine ⟨M, S, ev, l, rs, Pst.cut h ?_⟩
  intro w S1 M1 H1 v _ s1 l1 r1 h1
  have tys : ∀ t, tyW w S1 = some t → t ∈ bTys → Pst (XRof X.K e cs wo) Wx σ M1 H1 (RW (XRof X.K e cs wo)) (.ok (.d (.bool false)) S1) Q → rIsi X.K [v, .ref (cs k)] H1 Q := fun t e1 e2 h2 => ⟨v, .ref (cs k), .type t, .ref (cs k), false, rfl, .own _, tyW_ok l1 r1 e1, hb t e2, imm_b l1 h2⟩
  cases w with
  | x c f =>
    obtain ⟨a, e1, n1, hc, dx, h3, h4⟩ := r1
    subst e1
    exact .inl ⟨a, cs c, dx, .ref (cs k), .ref (cs k), e.sub c k, rfl, h3, fAt_d h4, hx c hc, .own _, ht c hc, imm_b l1 h1⟩
  | d x =>
    dsimp only at h1
    split at h1
    · rename_i t e1
      split at h1
      · rename_i e2
        exact .inr (tys t e1 e2 h1)
      · exact h1.elim
    · exact h1.elim
  | r x =>
    dsimp only at h1
    split at h1
    · rename_i t e1
      split at h1
      · rename_i e2
        exact .inr (tys t e1 e2 h1)
      · exact h1.elim
    · exact h1.elim
  | k x =>
    dsimp only at h1
    split at h1
    · rename_i t e1
      split at h1
      · rename_i e2
        exact .inr (tys t e1 e2 h1)
      · exact h1.elim
    · exact h1.elim
  | p x => exact h1.elim
  | s x =>
    dsimp only at h1
    split at h1
    · rename_i t e1
      split at h1
      · rename_i e2
        exact .inr (tys t e1 e2 h1)
      · exact h1.elim
    · exact h1.elim
end
/-! the field of a held error -/
def fFld (e : Er) (nm : Str) (fa : FE) : FE := fun ev S => (fa ev S).bind fun w S1 => match w with
  | .x c f => if e.fld c = some nm then .ok (.d f) S1 else .no
  | _ => .no
section
variable {wo : World} {X : Cx} {e : Er} {cs : Nat → Addr} {Wx : WX} {ex : Expr} {fa : FE} {pos : Pos} {nm : Str}
def tHf (K : PySem.W.Frag) (f : Str) (te : TE) : TE := fun σ H Q => te σ H fun x H1 => ∃ (a C dd : Addr) (fs : List (Str × V)) (v : V),
  x = .ref a ∧ XfC K C ∧ PySem.W.findIn K (.ref C) f = some none ∧ H1 a = some (EH (.ref C) (some dd) a) ∧ H1 dd = some (.xd fs) ∧ fs.lookup f = some v ∧ Q v H1
theorem pe_hf {te : TE} (he : PE X ex te) (hb : attributeBase ex nm X.env (eval ex X.env) = eval ex X.env := by rfl) : PE X (.Attribute ex nm pos) (tHf X.K nm te) := by
  refine ⟨fun pins s σ H Q I h => attr_of hb (thn (he.run pins s σ H _ I h) ?_)⟩
  rintro u s1 ⟨x, H1, I1, rx, a, C, dd, fs, v, rfl, T, hno, ea, ed, l, q⟩
  obtain rfl : u = Value.ref a := rx
  obtain ⟨⟨oe, vs, e1, hz, d1⟩, _, _⟩ := (show ObjOk X.prog X.w H1 s1.heap a (EH (.ref C) (some dd) a) from I1.hok a _ ea)
  obtain ⟨mA, hns, hr⟩ := (show ObjOk X.prog X.w H1 s1.heap dd (.xd fs) from I1.hok dd _ ed)
  obtain ⟨od, hod, hl⟩ := lookIn_ns hns
  obtain ⟨w, hu, ru⟩ := RelO.some_of (v := v) (o := mA nm) (by rw [← l]; exact hr nm)
  have J : PySem.W.InstAt s1.heap a oe C (some od) := ⟨e1, hz.1, by unfold PySem.W.notCls; rw [d1] <;> rfl, by rw [hz.2]; exact hod⟩
  exact HandSPX.exc_get I1.kIn J T.ga T.gg T.exC (PySem.W.findObj_own T.hdC hno rfl (by rw [hl, hu])) (handed_of ru) ⟨v, H1, I1.tok _, ru, q⟩
theorem fe_fld (ha : FEx X (XRof X.K e cs wo) Wx ex fa) (hx : ∀ c, c < e.nc → e.fld c = some nm → XfC X.K (cs c) ∧ PySem.W.findIn X.K (.ref (cs c)) nm = some none) (hb : attributeBase ex nm X.env (eval ex X.env) = eval ex X.env := by rfl) :
    FEx X (XRof X.K e cs wo) Wx (.Attribute ex nm pos) (fFld e nm fa) := by
  refine PE.imp (pe_hf ha hb) ?_
  rintro σ H Q ⟨M, S, ev, l, rs, h⟩
  refine ⟨M, S, ev, l, rs, Pst.cut h ?_⟩
  intro w S1 M1 H1 v _ s1 l1 r1 h1
  cases w with
  | x c f =>
    dsimp only at h1
    split at h1
    · rename_i ef
      obtain ⟨a, e1, n1, hc, dx, h3, h4⟩ := r1
      unfold fAt at h4
      rw [ef] at h4
      obtain ⟨dd, y, e2, nd, h5, h6⟩ := h4
      subst e2
      have z := hx c hc ef
      exact ⟨a, cs c, dd, _, y, e1, z.1, z.2, h3, h5, by simp, imm_d l1 h1 h6⟩
    · exact h1.elim
  | d _ => exact h1.elim
  | r _ => exact h1.elim
  | k _ => exact h1.elim
  | s _ => exact h1.elim
  | p _ => exact h1.elim
end
end FL

set_option Elab.async false
set_option linter.all false
set_option maxRecDepth 100000
set_option maxHeartbeats 2000000
namespace FL
open PySem PySem.Spec PyProof.Rows
open L2
/-! raise C(e), C with a field of its own -/
def tMkF (C : Addr) (nm : Str) (ta : TA) : L2.St → Hp → XK → Prop := fun σ H Q => ta σ H fun vs H1 => ∃ v, vs = [v] ∧ ∀ d, H1 d = none → Q (.ref C) (some d) (upd H1 d (.xd [(nm, v)]))
def MkF (P : Program) (w : World) (K : PySem.W.Frag) (mg : Str → Option Value) (base : Heap) (C : Addr) (x nm : Str) : Prop := ∀ (X : Cx), X.prog = P → X.w = w → X.K = K → X.mg = mg → X.base = base → Room 2 X.A → Gl X x →
  ∀ {a : Expr} {ta : TA} {p pos : Pos}, PA X [a] ta → starEach (a :: []) X.env = (false, eval a X.env) :: starEach [] X.env → (backTo pos (starEach [] X.env)).any (·.1) = false → PMk X (.Call (.Name x p) [a] [] pos) (tMkF C nm ta)
/-- self.nm = nm -/
def spFld (C : Addr) (nm : Str) : Sp := fun vs H Q _ => ∃ (a : Addr) (v : V), vs = [.ref a, v] ∧ H a = some (exo a C none) ∧
  ∀ dx, H dx = none → dx ≠ a → Q .non (upd (upd H dx (exd dx [(nm, v)])) a (exo a C (some dx)))
def upTA (ta : TA) : TA := fun σ H P => ∃ P0, ta σ H P0 ∧ ∀ vs H1, P0 vs H1 → P vs H1
theorem pa_up {X : Cx} {es : List Expr} {ta : TA} (h : PA X es ta) : PA X es (upTA ta) := ⟨fun pos pins s σ H Q I ⟨P0, h0, up⟩ => wpAny_mono (h.run pos pins s σ H P0 I h0) (fun us s1 ⟨vs, H1, I1, r, q⟩ => ⟨vs, H1, I1, r, up _ _ q⟩) fun _ _ z => z⟩
theorem mk_fld {P : Program} {w : World} {K : PySem.W.Frag} {mg : Str → Option Value} {base : Heap} {C fI : Addr} {x nm : Str} {fd : FuncData} {ps : List Str} (T : OexC K C) (iC : PySem.W.findIn K (.ref C) "__init__" = some (some (.ref fI))) (tI : PySem.W.typeIn K (.ref fI) = some (.type "function"))
    (F1 : FnOk P w K mg base CX0 1 fI fd ps (spFld C nm)) (hb : Binds K fd ps []) (hm : mg x = some (.ref C)) (hdb : (x == ("__debug__" : Str)) = false) : MkF P w K mg base C x nm := by
  rintro X rfl rfl rfl rfl rfl hr hg a ta p pos ha he hpl pins s σ H Q I h
  refine pmk_oex (X := X) (k := 1) (dvs := []) (ds := []) T iC tI F1 hr hb .nil pass0 hg hm (pa_up ha) hdb he hpl pins s σ H Q I ⟨_, h, ?_⟩
  rintro vs H1 ⟨v, rfl, q⟩
  refine ⟨by simp, fun b nb => ⟨b, v, rfl, upd_same, fun dx nd ne => ?_⟩⟩
  refine ⟨rfl, dx, [(nm, v)], upd_same, ?_, ?_, ?_⟩
  · rw [upd_ne ne]
    exact upd_same
  · rw [upd_ne ne] at nd
    exact nd
  · have nd1 : H1 dx = none := by
      rw [upd_ne ne] at nd
      exact nd
    have e : upd (del (upd (upd (upd H1 b (exo b C none)) dx (exd dx [(nm, v)])) b (exo b C (some dx))) b) dx (.xd [(nm, v)]) = upd H1 dx (.xd [(nm, v)]) := by
      funext c
      by_cases c1 : c = dx
      · rw [c1, upd_same, upd_same]
      · rw [upd_ne c1, upd_ne c1]
        by_cases c2 : c = b
        · rw [c2, del_same, nb]
        · rw [del_ne c2, upd_ne c2, upd_ne c1, upd_ne c2]
    rw [e]
    exact q dx nd1
def fRaiseF (c : Nat) (fa : FE) : FS := fun ev S => (fa ev S).toOut ev fun w S1 => match w with
  | .d d => .ex c d ev S1
  | _ => .no
section
variable {wo : World} {X : Cx} {e : Er} {cs : Nat → Addr} {Wx : WX} {n c : Nat} {a xe : Expr} {fa : FE} {pos : Pos} {nm : Str}
theorem fs_raiseF (C : Ct X Wx n) (hc : c < e.nc) (hf : e.fld c = some nm) (hm : PMk X xe (tMkF (cs c) nm (tCons (rE (XRof X.K e cs wo) Wx fa) tNil))) : FSx X (XRof X.K e cs wo) Wx (.Raise (some xe) none pos) (fRaiseF c fa) := by
  refine PS.imp (ps_raise C.cal C.tk hm) ?_
  rintro D σ H ⟨M, S, ev, l, rs, h⟩
  refine toOut_ok l rs h ?_
  intro w S1 M1 H1 v s1 l1 rs1 r1 h1
  cases w with
  | d d =>
    refine ⟨v, rfl, fun dx nd => ?_⟩
    have s2 : Stp M1 H1 M1 (upd H1 dx (.xd [(nm, v)])) := stp_new nd
    refine h1 M1 _ σ _ _ s2 (l1.new nd) (rs1.stp s2) ⟨hc, rfl, ?_⟩
    unfold fAt
    rw [hf]
    exact ⟨dx, v, rfl, l1.notin nd, upd_same, Dr.stp s2 _ _ r1⟩
  | r _ => exact h1.elim
  | k _ => exact h1.elim
  | x _ _ => exact h1.elim
  | s _ => exact h1.elim
  | p _ => exact h1.elim
end
/-! a program's table: what its text says, what its run has made -/
structure Sg where
  nf : Nat
  nms : Nat → Str
  pss : Nat → List Str
  bns : List Str
  ng : Nat
  gnm : Nat → Str
  gdt : Nat → PyData
  er : Er
  nd : Nat
  dix : Nat → Nat
  dwd : Nat → PyData
abbrev Cs := Nat → List W → So → Res W
structure Dy where
  cs : Nat → Addr
  ad : Nat → Addr
  fds : Nat → FuncData
  dfv : Nat → Value
  dvv : Nat → V
structure Top (P : Program) (w : World) (K : PySem.W.Frag) (mg : Str → Option Value) (base : Heap) (s : Sg) (y : Dy) : Prop where
  D : ∀ i, i < s.nf → Fd K mg (s.nms i) (s.pss i) [] (y.ad i) (y.fds i)
  b : ∀ x, x ∈ s.bns → mg x = none
  g : ∀ i, i < s.ng → Gd K mg (s.gnm i) (s.gdt i)
  rz : ∀ i, i < s.er.nc → s.er.fld i = none → ∀ (X : Cx), X.K = K → X.mg = mg → ∀ {m : Str} {j : Nat} {p p2 pos : Pos}, Gl X (s.er.cnm i) → PMk X (.Call (.Name (s.er.cnm i) p) [.Constant (.str m) j p2] [] pos) (fun _ H Q => Q (.ref (y.cs i)) none H)
  mf : ∀ i nm, i < s.er.nc → s.er.fld i = some nm → MkF P w K mg base (y.cs i) (s.er.cnm i) nm
  cg : ∀ i, i < s.er.nc → mg (s.er.cnm i) = some (.ref (y.cs i))
  cx : ∀ i k, i < s.er.nc → k < s.er.nc → PySem.W.exmOne K (.ref (y.cs i)) (.ref (y.cs k)) = some (s.er.sub i k)
  ck : ∀ i k, i < s.er.nc → k < s.er.nc → PySem.W.kitOne K (.ref (y.cs i)) (.ref (y.cs k)) = some (s.er.sub i k)
  cb : ∀ t k, t ∈ bTys → k < s.er.nc → PySem.W.kitOne K (.type t) (.ref (y.cs k)) = some false
  ce : ∀ i, i < s.er.nc → ExK K (y.cs i)
  cf : ∀ i nm, i < s.er.nc → s.er.fld i = some nm → XfC K (y.cs i) ∧ PySem.W.findIn K (.ref (y.cs i)) nm = some none
  dd : ∀ i, i < s.nd → Fd K mg (s.nms (s.dix i)) (s.pss (s.dix i)) [y.dfv i] (y.ad (s.dix i)) (y.fds (s.dix i))
  dv : ∀ i, i < s.nd → RelV (y.dvv i) (y.dfv i)
  dw : ∀ i, i < s.nd → ∀ H M, Dr K H M (s.dwd i) (y.dvv i)
structure Tb (P : Program) (w : World) (K : PySem.W.Frag) (mg : Str → Option Value) (base : Heap) (s : Sg) (y : Dy) (n : Nat) (c : Cs) : Prop extends Top P w K mg base s y where
  n2 : 2 ≤ n
  F : ∀ i, i < s.nf → FnF P w mg base (XRof K s.er y.cs w) n (y.ad i) (y.fds i) (s.pss i) (c i)
theorem Tb.rd {P : Program} {w : World} {K : PySem.W.Frag} {mg : Str → Option Value} {base : Heap} {s : Sg} {y : Dy} {n : Nat} {c : Cs} (T : Tb P w K mg base s y n c) (i : Nat) (h : i < s.er.nc) (hf : s.er.fld i = none) (H : Hp) (M : Ms) :
    (XRof K s.er y.cs w).D i .none (.ref (y.cs i)) none H M := ⟨h, rfl, by unfold fAt; rw [hf]; exact ⟨rfl, rfl⟩⟩
theorem vals_1 {v : V} {u : Value} (r : RelV v u) : Vals [v] [u] := .cons r .nil
theorem rws_1 {K : PySem.W.Frag} {XR : XRel K} {d : PyData} {v : V} (h : ∀ H M, Dr K H M d v) (H : Hp) (M : Ms) : RWs XR H M [.d d] [v] := .cons (h H M) .nil
end FL

set_option Elab.async false
set_option linter.all false
set_option maxRecDepth 100000
set_option maxHeartbeats 2000000
/-! ### tuple(d), d a dict -/
namespace FL
open PySem PySem.Spec PyProof.Rows
open L2
section
variable {prog : Program} {w : World} {A : Around} {E : Value → Shared → Prop} {s : Shared} {T : String} {r d : Addr} {n : Nat} {P : Nat → Value → Prop} {OK : Heap → Prop}
theorem collect_kdl {Q : List Value → Shared → Prop} (K : PySem.W.KdlSrc prog w T r d n P OK) (hh : A.handled = none) (hok : OK s.heap) (hn : n ≤ sizeLine)
    (hQ : ∀ (h' : Heap) (tk : Nat) (acc : Array Value), (∀ b o, s.heap.get? b = some o → h'.get? b = some o) → ItemsOf P acc n → Q acc.toList { s with heap := h', toks := tk }) :
    wpAny (model prog w) A (collect (.ref r)) Q E s := by
  unfold collect
  refine wpAny_bind (wpAny_runValue (codeAny_builtin F.entry_proto_collect ?_))
  rw [Around.under_plainId F.plain_proto_collect _]
  show wpAny _ A.in1 (newList [] >>= fun l => again (.builtin "list.__iadd__" ⟨[l, .ref r], []⟩)) _ _ s
  refine wpAny_bind (wpAny_newObj_type ?_)
  refine wpAny_pure ⟨plainId_quiet F.plain_list_iadd _, codeAny_builtin F.entry_list_iadd ?_⟩
  rw [Around.under_plainId F.plain_list_iadd _]
  show wpAny _ A.in1 (Builtin.List.listExtendWith (.ref s.heap.objs.size) (.ref r) (.ref s.heap.objs.size)) _ _ _
  have hS : (s.heap.push { cls := .type "list", data := .seq ([] : List Value).toArray }).get? s.heap.objs.size = some { cls := .type "list", data := .seq #[] 0 } := Heap.get?_push_size _ rfl
  obtain ⟨t1, t2⟩ := K.there _ hok
  refine wpAny_mono (PySem.W.kdl_extend (A := A) (R := fun rr s' => rr = .ok (.ret (.ref s.heap.objs.size)) ∧ ∃ (h' : Heap) (tk : Nat) (acc : Array Value) (c' : Nat), s' = { s with heap := h', toks := tk } ∧
      (∀ b o, s.heap.get? b = some o → h'.get? b = some o) ∧ h'.get? s.heap.objs.size = some { cls := .type "list", dict := none, data := .seq acc c', slots := #[] } ∧ ItemsOf P acc n)
    (s := { s with heap := s.heap.push { cls := .type "list", data := .seq ([] : List Value).toArray } }) K hh (K.keep _ _ hok fun b _ o e => Heap.get?_push_of_some _ e) s.heap.objs.size (Nat.ne_of_gt t1) (Nat.ne_of_gt t2) _ 0 hS
    (fun h' tk acc c' hk e hi => ⟨rfl, h', tk, acc, c', rfl, fun b o q => hk b o (Nat.ne_of_lt (Heap.lt_size q)) (Heap.get?_push_of_some _ q), e, hi⟩) hn) (fun fin s' h => ?_) (fun e s' h => ?_)
  · cases fin with
    | done f =>
      obtain ⟨e, h', tk, acc, c', rfl, hk, hS', hi⟩ := h
      cases e
      show wpAny _ A (load s.heap.objs.size >>= _) _ _ _
      exact wpAny_bind (wpAny_load hS' (wpAny_pure (hQ h' tk acc hk hi)))
    | again c' =>
      refine ⟨h.1, codeAny_mono h.2 fun rr s'' hr' => ?_⟩
      obtain ⟨rfl, h', tk, acc, c', rfl, hk, hS', hi⟩ := hr'
      show wpAny _ A (load s.heap.objs.size >>= _) _ _ _
      exact wpAny_bind (wpAny_load hS' (wpAny_pure (hQ h' tk acc hk hi)))
  · exact absurd h.1 (by simp)
theorem code_tuple_new_kdl {Q₁ : Value → Shared → Prop} (K : PySem.W.KdlSrc prog w "dict" r d n P OK) (hh : A.handled = none) (hok : OK s.heap) (hn : n ≤ sizeLine)
    (h : ∀ (h' : Heap) (tk : Nat) (acc : Array Value), (∀ b o, s.heap.get? b = some o → h'.get? b = some o) → ItemsOf P acc n →
      Q₁ (.ref h'.objs.size) { s with heap := h'.push { cls := .type "tuple", data := .seq acc }, toks := tk }) :
    codeAny (model prog w) A (.call (.builtin "tuple.__new__") ⟨[.type "tuple", .ref r], []⟩) (wants Q₁ E) s := by
  refine codeAny_of_tree ?_
  show wpAny _ A.in1 (do checkBuiltinCall "tuple.__new__" ⟨[.type "tuple", .ref r], []⟩; again (.builtin "tuple.__new__" ⟨[.type "tuple", .ref r], []⟩)) _ _ s
  refine wpAny_bind (wpAny_of_eq (F.newCall_tuple_1 _) (wpAny_pure ⟨plainId_quiet F.plain_tuple_new _, codeAny_builtin F.entry_tuple_new ?_⟩))
  rw [Around.under_plainId F.plain_tuple_new _]
  have hsub := sub_tuple_self
  have hinit := init_tuple_lookup
  have hmh := madeHere_tuple
  have hh1 : A.in1.handled = none := hh
  have hTI : s.TypeIs (.ref r) "dict" := K.type s hok
  wp_walk using wpAny_typeOf hTI, collect_kdl (A := A.in1) K hh1 hok hn
  all_goals try (intro h' tk acc hk hacc)
  all_goals try (show wpAny _ _ (Builtin.Tuple.tupleExact acc.toList.toArray >>= fun v => ret v) _ _ _)
  all_goals try (unfold Builtin.Tuple.tupleExact)
  all_goals try (refine wpAny_bind (wpAny_newObj_type ?_ (by show acc.toList.toArray.size ≤ sizeLine; simp only [Array.toArray_toList]; rw [hacc.1]; exact hn)))
  all_goals try (refine wpAny_pure ?_)
  all_goals try (have e : acc.toList.toArray = acc := by simp)
  all_goals try (rw [e])
  all_goals try (exact h h' tk acc hk hacc)
theorem call_tuple_kdl {Q : Value → Shared → Prop} (K : PySem.W.KdlSrc prog w "dict" r d n P OK) (hh : A.handled = none) (hok : OK s.heap) (hn : n ≤ sizeLine)
    (hQ : ∀ (h' : Heap) (tk : Nat) (acc : Array Value), (∀ b o, s.heap.get? b = some o → h'.get? b = some o) → ItemsOf P acc n →
      Q (.ref h'.objs.size) { s with heap := h'.push { cls := .type "tuple", data := .seq acc }, toks := tk }) :
    wpAny (model prog w) A (call (.type "tuple") [.ref r]) Q E s := by
  refine callType_codes (Q₁ := fun obj s₁ => s₁.TypeIs obj "tuple" ∧ Q obj s₁) F.called_tuple (F.typeCall_tuple_1 _) F.entry_object_init
    (code_tuple_new_kdl (A := A.in1) K hh hok hn fun h' tk acc hk hacc => ⟨⟨_, Heap.get?_push_size _ rfl, rfl⟩, hQ h' tk acc hk hacc⟩) fun obj s₁ h₁ => ?_
  exact ⟨h₁.1, F.args_object_init_2 obj _, object_init_meets F.called_tuple.init.lookup F.called_tuple.made (by decide) prog w A.in1 _ s₁ ⟨h₁.1, rfl, h₁.2⟩⟩
end
def rTupD : List V → Hp → VK → Prop := fun xs H Q => ∃ p kvs, xs = [.ref p] ∧ Rd H p (.dK kvs) ∧ NewT H (kvs.map fun kv => kV kv.1) Q
theorem call_tuple_dK {X : Cx} (hc : X.calm = true) : CallR X (.type "tuple") rTupD := by
  intro pins s σ H xs us Q I r h
  obtain ⟨p, kvs, e, hk, q⟩ := h
  subst e
  obtain ⟨u, eu, rx⟩ := vals1 r
  subst eu
  obtain rfl : u = Value.ref p := rx
  obtain ⟨z, lo, vs, rk, hd⟩ := (show ObjOk X.prog X.w H s.heap p (.dK kvs) from hk.ok I.hok)
  obtain ⟨ep, hat⟩ := hd.dictAt
  have hl : kvs.length = vs.length := Paired.length rk
  refine call_tuple_kdl (PySem.W.kdl_dict (knd := mixKind X.prog X.w) (kvs := vs) (ep := ep) lo) (I.ok.hd hc) hat (by rw [← hl]; exact z) fun h' tk acc hkeep hacc => ?_
  have I2 : Inv X pins σ H { s with heap := h', toks := tk } := I.kept hkeep
  have el : acc.toList.length = acc.size := by simp
  have rv : Vals (kvs.map fun kv => kV kv.1) acc.toList := by
    refine vals_of_at (by rw [List.length_map, el, hacc.1, hl]) fun j x w h1 h2 => ?_
    obtain ⟨k, y, hky, hi⟩ := hacc.2 j w (by rw [← Array.getElem?_toList]; exact h2)
    have e1 : (kvs.map (·.1))[j]? = some k := by
      rw [KV.keys rk, List.getElem?_map, hky] <;> rfl
    have e2 : (kvs.map fun kv => kV kv.1)[j]? = some (kV k) := by
      have e3 : (kvs.map fun kv => kV kv.1) = (kvs.map (·.1)).map kV := by rw [List.map_map] <;> rfl
      rw [e3, List.getElem?_map, e1] <;> rfl
    rw [e2] at h1
    cases h1
    exact keyIs_rel hi
  have e4 : acc = acc.toList.toArray := by simp
  rw [e4]
  exact lay_tup I2 rv (by rw [List.length_map]; exact z) q
def rLstD : List V → Hp → VK → Prop := fun xs H Q => ∃ p kvs, xs = [.ref p] ∧ Rd H p (.dK kvs) ∧ ∀ q, H q = none → Q (.ref q) (upd H q (.lst (kvs.map fun kv => kV kv.1)))
theorem call_lstD {X : Cx} (hc : X.calm = true) : CallR X (.type "list") rLstD := by
  intro pins s σ H xs us Q I r h
  obtain ⟨p, kvs, e, hk, q⟩ := h
  subst e
  obtain ⟨u, eu, rx⟩ := vals1 r
  subst eu
  obtain rfl : u = Value.ref p := rx
  obtain ⟨z, lo, vs, rk, hd⟩ := (show ObjOk X.prog X.w H s.heap p (.dK kvs) from hk.ok I.hok)
  obtain ⟨ep, hat⟩ := hd.dictAt
  have hl : kvs.length = vs.length := Paired.length rk
  refine PySem.W.kdl_call (PySem.W.kdl_dict (knd := mixKind X.prog X.w) (kvs := vs) (ep := ep) lo) (I.ok.hd hc) hat (by rw [← hl]; exact z) fun h2 tk acc c2 kp hS it => ?_
  have el : acc.toList.length = acc.size := by simp
  have rv : Vals (kvs.map fun kv => kV kv.1) acc.toList := by
    refine vals_of_at (by rw [List.length_map, el, it.1, hl]) fun j x w h1 h2 => ?_
    obtain ⟨k, y, hky, hi⟩ := it.2 j w (by rw [← Array.getElem?_toList]; exact h2)
    have e1 : (kvs.map (·.1))[j]? = some k := by
      rw [KV.keys rk, List.getElem?_map, hky] <;> rfl
    have e2 : (kvs.map fun kv => kV kv.1)[j]? = some (kV k) := by
      have e3 : (kvs.map fun kv => kV kv.1) = (kvs.map (·.1)).map kV := by rw [List.map_map] <;> rfl
      rw [e3, List.getElem?_map, e1] <;> rfl
    rw [e2] at h1
    cases h1
    exact keyIs_rel hi
  exact ⟨.ref s.heap.objs.size, _, I.laid (t' := tk) (o := .lst (kvs.map fun kv => kV kv.1)) kp (Nat.le_refl _) ⟨by rw [List.length_map]; exact z, acc.toList, c2, rv, by rw [Array.toArray_toList]; exact hS⟩, rfl, q _ (I.hok.fresh (Nat.le_refl _))⟩
def tupD (w : W) (S : So) : Res W := match asD w S with
  | some kvs => .ok (.d (.tuple (kvs.map fun kv => keyP kv.1))) S
  | none => .no
def lstD (w : W) (S : So) : Res W := match asD w S with
  | some kvs => .ok (.d (.list (kvs.map fun kv => keyP kv.1))) S
  | none => .no
theorem nx_tupD : NX1 tupD := by
  intro x S c f S' e
  unfold tupD at e
  split at e <;> cases e
theorem nx_lstD : NX1 lstD := by
  intro x S c f S' e
  unfold lstD at e
  split at e <;> cases e
section
variable {K : PySem.W.Frag} {XR : XRel K} {H : Hp} {M : Ms} {S : So}
theorem keys_dr : ∀ {kvs : List (Key × PyData)} {vs : List (Key × V)}, Paired (KD (K := K) H M) kvs vs → DrL K H M (kvs.map fun kv => keyP kv.1) (vs.map fun kv => kV kv.1)
  | _, _, .nil => .nil
  | _, _, .cons (a := p) (b := q) r t => by
    have e : p.1 = q.1 := r.1
    rw [List.map_cons, List.map_cons, ← e]
    refine .cons ?_ (keys_dr t)
    cases p.1 with
    | inl i => show Dr K H M (.int i) (.int i); unfold Dr; rfl
    | inr x => show Dr K H M (.str x) (.str x); unfold Dr; rfl
end
section
variable {X : Cx} {XR : XRel X.K} {Wx : WX} {n : Nat} {e : Expr} {fr : FA} {p pos : Pos}
theorem opn_tupD : OpN XR (o1 tupD) rTupD := by
  intro H M S S' xs w vs Q l rx e q
  unfold o1 at e
  split at e
  · cases rx with
    | cons r rr =>
      cases rr
      unfold tupD at e
      split at e
      · rename_i kvs e1
        cases e
        obtain ⟨a, us, h1, h2, h3⟩ := asD_at l r e1
        subst h1
        exact ⟨a, us, rfl, h2, new_t l q (keys_dr h3)⟩
      · cases e
  · cases e
theorem opn_lstD : OpN XR (o1 lstD) rLstD := by
  intro H M S S' xs w vs Q l rx e q
  unfold o1 at e
  split at e
  · cases rx with
    | cons r rr =>
      cases rr
      unfold lstD at e
      split at e
      · rename_i kvs e1
        cases e
        obtain ⟨a, us, h1, h2, h3⟩ := asD_at l r e1
        subst h1
        exact ⟨a, us, rfl, h2, fun p np => new_l l q np (keys_dr h3)⟩
      · cases e
  · cases e
theorem fe_tupD (C : Ct X Wx n) (hm : X.mg "tuple" = none) (hg : Gl X "tuple") (ha : FAx X XR Wx [e] fr) (he : starEach [e] X.env = (false, eval e X.env) :: starEach [] X.env := by rfl) : FEx X XR Wx (.Call (.Name "tuple" p) [e] [] pos) (fB1 (o1 tupD) fr) :=
  fe_ty (call_tuple_dK C.cal) opn_tupD (nx_o1 nx_tupD) hg hm bTuple ha (by decide) (by decide) he
theorem fe_lstD (C : Ct X Wx n) (hm : X.mg "list" = none) (hg : Gl X "list") (ha : FAx X XR Wx [e] fr) (he : starEach [e] X.env = (false, eval e X.env) :: starEach [] X.env := by rfl) : FEx X XR Wx (.Call (.Name "list" p) [e] [] pos) (fB1 (o1 lstD) fr) :=
  fe_ty (call_lstD C.cal) opn_lstD (nx_o1 nx_lstD) hg hm bList ha (by decide) (by decide) he
end
/-! ### dict comprehensions -/
section
variable {J : It} {n : Nat} {G : Hp → Prop} {Y : Nat → Hp → V → Hp → Prop}
theorem dc_it (w : Walk J n G Y) {g : TG} {tt : TT} {tk tv : TE} {vs : List Nat} {σ : L2.St} {H1 : Hp} {D : Addr} {Qd : Hp → Prop} (Pv : Nat → Hp → Prop) (h0 : Pv 0 (upd H1 D (.dK []))) (hG : ∀ i H, i ≤ n → Pv i H → G H)
    (hs : ∀ i x H H', i < n → Pv i H → Y i H x H' → g x (wipe σ vs) H' fun σ2 H2 => wipe σ2 vs = wipe σ vs ∧ tt σ2 H2 fun b H3 =>
      if b = true then tk σ2 H3 fun y H4 => tv σ2 H4 fun z H5 => ∃ kvs k, y = kV k ∧ H5 D = some (.dK kvs) ∧ kvs.length < sizeLine ∧ Pv (i + 1) (upd H5 D (.dK (putK kvs k z))) else Pv (i + 1) H3) (hd : ∀ H, Pv n H → Qd H) :
    ∃ W : Nat → Nat → Hp → Prop, (∃ m, W 0 m (upd H1 D (.dK []))) ∧ ∀ i m H, W i m H →
      (J.stop i H ∧ Qd H) ∨ (J.go i H ∧ ∃ Nx : Hp → Prop, (∀ H', Nx H' → ∃ m', m' < m ∧ W (i + 1) m' H') ∧ ∀ x H', J.yld i H x H' → g x (wipe σ vs) H' fun σ2 H2 => wipe σ2 vs = wipe σ vs ∧ tt σ2 H2 fun b H3 =>
        if b = true then tk σ2 H3 fun y H4 => tv σ2 H4 fun z H5 => ∃ kvs k, y = kV k ∧ H5 D = some (.dK kvs) ∧ kvs.length < sizeLine ∧ Nx (upd H5 D (.dK (putK kvs k z))) else Nx H3) := by
  refine ⟨fun i m H => m = n - i ∧ i ≤ n ∧ Pv i H, ⟨n, by simp, Nat.zero_le _, h0⟩, ?_⟩
  rintro i m H ⟨rfl, hi, p⟩
  have q := hG i H hi p
  by_cases hlt : i < n
  · refine .inr ⟨w.goes i H hlt q, Pv (i + 1), fun H' p' => ⟨n - (i + 1), by omega, rfl, hlt, p'⟩, fun x H' y => hs i x H H' hlt p (w.yields i H x H' hlt q y)⟩
  · have e : i = n := by omega
    subst e
    exact .inl ⟨w.stops H q, hd H p⟩
end
def putP (acc : Dic) (k : Key) (d : PyData) : Dic := if (acc.any fun p => decide (p.1 = k)) = true then acc.map (fun p => if p.1 = k then (p.1, d) else p) else acc ++ [(k, d)]
def dcL (g : FG) (t : FT) (tk tv : FE) (ev0 : Ev) : List PyData → So → Dic → Res Dic
  | [], S, acc => .ok acc S
  | d :: ds, S, acc => match g (.d d) ev0 with
    | none => .no
    | some e1 => match t e1 S with
      | .ok true S1 => match tk e1 S1 with
        | .ok kw S2 => match asKey kw with
          | some k => match tv e1 S2 with
            | .ok (.d y) S3 => if S3.length = S.length ∧ acc.length < sizeLine then dcL g t tk tv ev0 ds S3 (putP acc k y) else .no
            | _ => .no
          | none => .no
        | _ => .no
      | .ok false S1 => if S1.length = S.length then dcL g t tk tv ev0 ds S1 acc else .no
      | _ => .no
def fDc (fi : FI) (g : FG) (t : FT) (tk tv : FE) (vs : List Nat) : FE := fun ev S => (fi ev S).bind fun ds S1 => (dcL g t tk tv (wipeE ev vs) ds S1 []).bind fun kvs S2 => .ok (.k kvs) S2
def dcEnd (mu : Bool) (kvs : Dic) (S2 : So) : Res W := if mu then .ok (.r S2.length) (S2 ++ [.k kvs]) else .ok (.k kvs) S2
def fDcM (fi : FI) (g : FG) (t : FT) (tk tv : FE) (vs : List Nat) : FE := fun ev S => (fi ev S).bind fun ds S1 => (dcL g t tk tv (wipeE ev vs) ds S1 []).bind fun kvs S2 => .ok (.r S2.length) (S2 ++ [.k kvs])
section
variable {X : Cx} {XR : XRel X.K} {Wx : WX} {n : Nat} {tg iter : Expr}
theorem dc_loop (mu : Bool) {sl : List Nat} {g : FG} {t : FT} {tt : TT} {tk tv : FE} {vs : List Nat} (hsl : ∀ i, i ∈ sl → i ∈ vs) (htt : ∀ σ H Q, rT XR Wn t σ H Q → tt σ H Q) {σ : L2.St} {H1 : Hp} {M1 : Ms} {S1 : So} {ev : Ev} {ds : List PyData} {J : It} {Q : VK} (l1 : Rl XR.wo X.K H1 M1 S1)
    (rs1 : Rs XR H1 M1 ev σ) (wk : WkD X.K J ds M1 H1) (h1 : Pst XR Wx σ M1 H1 (RW XR) ((dcL g t tk tv (wipeE ev vs) ds S1 []).bind (dcEnd mu)) Q) : tDc (fun _ _ R => R J H1) (rG (X := X) XR sl g) tt (rE XR Wn tk) (rE XR Wn tv) vs σ H1 (if mu then Q else fz Q) := by
  intro D nD
  obtain ⟨G, Y, w, hG, hY⟩ := wk
  have sD : Stp M1 H1 (M1.res D) (upd H1 D (.dK [])) := stp_res nD
  have lD : Rl XR.wo X.K (upd H1 D (.dK [])) (M1.res D) S1 := l1.res nD
  refine dc_it w (fun i H' => ∃ Mi Si acc ys, Stp M1 H1 Mi H' ∧ D ∈ Mi.x ∧ Rl XR.wo X.K H' Mi Si ∧ Si.length = S1.length ∧ H' D = some (.dK ys) ∧ Paired (KD (K := X.K) H' Mi) acc ys ∧
      Pst XR Wx σ M1 H1 (RW XR) ((dcL g t tk tv (wipeE ev vs) (ds.drop i) Si acc).bind (dcEnd mu)) Q) ⟨M1.res D, S1, [], [], sD, List.mem_cons_self, lD, rfl, upd_same, .nil, h1⟩ ?_ ?_ ?_
  · rintro i H' _ ⟨Mi, Si, acc, ys, s, _⟩
    exact hG Mi H' s
  · rintro i x H' H2 hi ⟨Mi, Si, acc, ys, s, Dx, li, ln, hD, hacc, hp⟩ y
    obtain ⟨d, ed, sm, l2, dr⟩ := hY i x Mi H' H2 Si s li hi y
    have s2 : Stp Mi H' Mi H2 := stp_same sm
    have hD2 : H2 D = some (.dK ys) := sm D _ hD
    have e3 : ds.drop i = d :: ds.drop (i + 1) := by
      obtain ⟨hlt, e4⟩ := List.getElem?_eq_some_iff.mp ed
      rw [List.drop_eq_getElem_cons hlt, e4]
    rw [e3] at hp
    unfold dcL at hp
    have Dm : D ∉ Mi.m := (li.ex D Dx).1
    have rsi : Rs XR H2 Mi (wipeE ev vs) (wipe σ vs) := wipe_rs ((rs1.stp s).stp s2) vs
    cases e5 : g (.d d) (wipeE ev vs) with
    | none => rw [e5] at hp; exact hp.elim
    | some e1 =>
      rw [e5] at hp
      dsimp only at hp
      refine ⟨Mi, Si, wipeE ev vs, .d d, l2, rsi, dr, e1, e5, fun σ1 rs1' w1 => ⟨by rw [w1 vs hsl]; exact wipe_wipe fun i h => h, htt _ _ _ ⟨Mi, Si, e1, l2, rs1', ?_⟩⟩⟩
      have nxt : ∀ {M4 : Ms} {H4 : Hp} {S4 : So} {acc4 : Dic} {ys4 : List (Key × V)}, Stp M1 H1 M4 H4 → D ∈ M4.x → Rl XR.wo X.K H4 M4 S4 → S4.length = Si.length → H4 D = some (.dK ys4) → Paired (KD (K := X.K) H4 M4) acc4 ys4 →
          Pst XR Wx σ M1 H1 (RW XR) ((dcL g t tk tv (wipeE ev vs) (ds.drop (i + 1)) S4 acc4).bind (dcEnd mu)) Q →
          ∃ Mi Si acc ys, Stp M1 H1 Mi H4 ∧ D ∈ Mi.x ∧ Rl XR.wo X.K H4 Mi Si ∧ Si.length = S1.length ∧ H4 D = some (.dK ys) ∧ Paired (KD (K := X.K) H4 Mi) acc ys ∧
            Pst XR Wx σ M1 H1 (RW XR) ((dcL g t tk tv (wipeE ev vs) (ds.drop (i + 1)) Si acc).bind (dcEnd mu)) Q :=
        fun s4 x4 l4 n4 h4 r4 p4 => ⟨_, _, _, _, s4, x4, l4, by rw [n4, ln], h4, r4, p4⟩
      cases e6 : t e1 Si with
      | no => rw [e6] at hp; exact hp.elim
      | ex c f S' => rw [e6] at hp; exact hp.elim
      | ok b S3 =>
        rw [e6] at hp
        rintro M3 H3 b' s3 l3 r3
        have r3' : b = b' := r3
        subst r3'
        have hD3 : H3 D = some (.dK ys) := s3.keep D _ Dm hD2
        cases b with
        | false =>
          rw [if_neg Bool.false_ne_true]
          dsimp only at hp
          split at hp
          · rename_i c
            exact nxt ((s.trans s2).trans s3) (s3.sub D Dx) l3 c hD3 (KD.stp (s2.trans s3) hacc) hp
          · exact hp.elim
        | true =>
          rw [if_pos rfl]
          dsimp only at hp
          refine ⟨M3, S3, e1, l3, rs1'.stp s3, ?_⟩
          cases e7 : tk e1 S3 with
          | no => rw [e7] at hp; exact hp.elim
          | ex c f S' => rw [e7] at hp; exact hp.elim
          | ok kw S4 =>
            rw [e7] at hp
            dsimp only at hp
            cases e8 : asKey kw with
            | none => rw [e8] at hp; exact hp.elim
            | some k =>
              rw [e8] at hp
              dsimp only at hp
              intro M4 H4 vk s4 l4 r4
              have ek := asKey_ok r4 e8
              have Dx3 : D ∈ M3.x := s3.sub D Dx
              have hD4 : H4 D = some (.dK ys) := s4.keep D _ (l3.ex D Dx3).1 hD3
              have Dx4 : D ∈ M4.x := s4.sub D Dx3
              refine ⟨M4, S4, e1, l4, (rs1'.stp s3).stp s4, ?_⟩
              cases e9 : tv e1 S4 with
              | no => rw [e9] at hp; exact hp.elim
              | ex c f S' => rw [e9] at hp; exact hp.elim
              | ok u S5 =>
                rw [e9] at hp
                cases u with
                | r _ => exact hp.elim
                | k _ => exact hp.elim
                | x _ _ => exact hp.elim
                | s _ => exact hp.elim
                | p _ => exact hp.elim
                | d y =>
                  dsimp only at hp
                  split at hp
                  · rename_i c
                    intro M5 H5 v s5 l5 r5
                    have hD5 : H5 D = some (.dK ys) := s5.keep D _ (l4.ex D Dx4).1 hD4
                    have Dx5 : D ∈ M5.x := s5.sub D Dx4
                    have Dm5 : D ∉ M5.m := (l5.ex D Dx5).1
                    have hacc5 : Paired (KD (K := X.K) H5 M5) acc ys := KD.stp (((s2.trans s3).trans s4).trans s5) hacc
                    refine ⟨ys, k, ek, hD5, by rw [← Paired.length hacc5]; exact c.2, ?_⟩
                    have up : ∀ a o, a ∉ M5 → H5 a = some o → upd H5 D (.dK (putK ys k v)) a = some o := fun a o n e => by
                      rw [upd_ne]
                      · exact e
                      · intro z
                        subst z
                        exact n (Or.inr Dx5)
                    have lU : Rl XR.wo X.K (upd H5 D (.dK (putK ys k v))) M5 S5 := by
                      refine ⟨l5.nd, Paired.mapI l5.ob fun j a o e ⟨u, h1, h2⟩ => ⟨u, ?_, RO.upd up h2⟩, fun a m => ⟨(l5.ex a m).1, upd_some (l5.ex a m).2⟩⟩
                      rw [upd_ne]
                      · exact h1
                      · intro z
                        subst z
                        exact Dm5 (List.mem_iff_getElem?.mpr ⟨j, e⟩)
                    have sU : Stp M1 H1 M5 (upd H5 D (.dK (putK ys k v))) := by
                      have s6 := (((s.trans s2).trans s3).trans s4).trans s5
                      refine ⟨s6.pre, s6.sub, fun a o n e => ?_, s6.new, s6.newx, fun a od u e => by rw [upd_ne (ne_of_none e nD)]; exact s6.kz a od u e⟩
                      rw [upd_ne (ne_of_none e nD)]
                      exact s6.keep a o n e
                    exact nxt sU Dx5 lU c.1 upd_same (putP_ok (X := X) (KD.upd up hacc5) (Dr.upd up y v r5)) hp
                  · exact hp.elim
  · rintro H' ⟨Mi, Si, acc, ys, s, Dx, li, ln, hD, hacc, hp⟩
    rw [List.drop_length] at hp
    dsimp only [dcL, Res.bind, dcEnd] at hp
    have eH : upd H' D (.dK ys) = H' := by
      funext b
      by_cases c : b = D
      · subst c
        rw [upd_same, hD]
      · rw [upd_ne c]
    cases mu with
    | false =>
      refine ⟨D, _, rfl, hD, trivial, fun od => ?_⟩
      obtain ⟨s3, l3, d3, n3⟩ := release (o := .frz od (.dK ys)) l1 nD s Dx li
      exact hp _ _ _ s3 l3 ⟨D, ys, rfl, n3, ⟨od, upd_same⟩, Paired.imp (fun _ _ z => ⟨z.1, d3 _ _ z.2⟩) hacc⟩
    | true =>
      obtain ⟨s4, l4, e4⟩ := release2 (o := .dK ys) (b := .k acc) l1 nD s Dx li fun d4 => ⟨_, rfl, Paired.imp (fun _ _ z => ⟨z.1, d4 _ _ z.2⟩) hacc⟩
      rw [eH] at s4 l4
      exact hp _ _ _ s4 l4 ⟨D, e4, rfl⟩
theorem dc_ok (mu : Bool) {sl : List Nat} {fi : FI} {g : FG} {t : FT} {tt : TT} {tk tv : FE} {vs : List Nat} (hsl : ∀ i, i ∈ sl → i ∈ vs) (htt : ∀ σ H Q, rT XR Wn t σ H Q → tt σ H Q) {σ : L2.St} {H : Hp} {Q : VK} (h : rE XR Wx (if mu then fDcM fi g t tk tv vs else fDc fi g t tk tv vs) σ H Q) :
    tDc (rI XR Wx fi) (rG (X := X) XR sl g) tt (rE XR Wn tk) (rE XR Wn tv) vs σ H (if mu then Q else fz Q) := by
  obtain ⟨M, S, ev, l, rs, h⟩ := h
  have e0 : (if mu then fDcM fi g t tk tv vs else fDc fi g t tk tv vs) ev S = (fi ev S).bind fun ds S1 => (dcL g t tk tv (wipeE ev vs) ds S1 []).bind (dcEnd mu) := by
    cases mu <;> rfl
  rw [e0] at h
  refine ⟨M, S, ev, l, rs, Pst.cut h ?_⟩
  intro ds S1 M1 H1 J _ s1 l1 wk h1
  exact dc_loop mu hsl htt l1 (rs.stp s1) wk h1
theorem fe_dcG (mu : Bool) {kx vx : Expr} {ifs : List Expr} {scope : Scope} {own : List (Str × Nat)} {sl : List Nat} {pos : Pos} {fi : FI} {g : FG} {t : FT} {tt : TT} {tk tv : FE} (C : Ct X Wx n) (hN : X.N.Nodup) (hi : FIx X XR Wx tg iter fi) (ok : BlkOk X.N X.env.scope scope own)
    (hg : ∀ (s : Shared) (H : Hp) (D : Addr) (cl : List (Str × Addr)) (fp : List Addr), FGx (Blk X scope s H D cl fp) XR tg sl g) (hsl : ∀ i, i ∈ sl → i ∈ own.map (·.2))
    (ht : ∀ (s : Shared) (H : Hp) (D : Addr) (cl : List (Str × Addr)) (fp : List Addr), PTs (Blk X scope s H D cl fp) ifs tt) (htt : ∀ σ H Q, rT XR Wn t σ H Q → tt σ H Q)
    (hk : ∀ (s : Shared) (H : Hp) (D : Addr) (cl : List (Str × Addr)) (fp : List Addr), FEx (Blk X scope s H D cl fp) XR Wn kx tk)
    (he : ∀ (s : Shared) (H : Hp) (D : Addr) (cl : List (Str × Addr)) (fp : List Addr), FEx (Blk X scope s H D cl fp) XR Wn vx tv) (hs : ∀ x, foldedSetIterable iter X.env x = pure x := by intro _; rfl) :
    FEx X XR Wx (.DictComp kx vx [⟨tg, iter, ifs, 0⟩] scope pos) (if mu then fDcM fi g t tk tv (own.map (·.2)) else fDc fi g t tk tv (own.map (·.2))) :=
  match mu with
  | true => PE.imp (pe_dc (g := rG (X := X) XR sl g) (tk := rE XR Wn tk) (tv := rE XR Wn tv) C.cal hN hi ok hg ht hk he hs) fun _ _ _ => dc_ok true hsl htt
  | false => PE.imp (pe_fz (pe_dc (g := rG (X := X) XR sl g) (tk := rE XR Wn tk) (tv := rE XR Wn tv) C.cal hN hi ok hg ht hk he hs)) fun _ _ _ => dc_ok false hsl htt
theorem fe_dc0 {kx vx : Expr} {scope : Scope} {sl : List Nat} {pos : Pos} {fi : FI} {g : FG} {tk tv : FE} (own : List (Str × Nat)) (C : Ct X Wx n) (hN : X.N.Nodup) (hi : FIx X XR Wx tg iter fi) (ok : BlkOk X.N X.env.scope scope own)
    (hg : ∀ (s : Shared) (H : Hp) (D : Addr) (cl : List (Str × Addr)) (fp : List Addr), FGx (Blk X scope s H D cl fp) XR tg sl g) (hsl : ∀ i, i ∈ sl → i ∈ own.map (·.2))
    (hk : ∀ (s : Shared) (H : Hp) (D : Addr) (cl : List (Str × Addr)) (fp : List Addr), FEx (Blk X scope s H D cl fp) XR Wn kx tk)
    (he : ∀ (s : Shared) (H : Hp) (D : Addr) (cl : List (Str × Addr)) (fp : List Addr), FEx (Blk X scope s H D cl fp) XR Wn vx tv) (hs : ∀ x, foldedSetIterable iter X.env x = pure x := by intro _; rfl) :
    FEx X XR Wx (.DictComp kx vx [⟨tg, iter, [], 0⟩] scope pos) (fDc fi g fYes tk tv (own.map (·.2))) :=
  fe_dcG false (tt := tYes) C hN hi ok hg hsl (fun _ _ _ _ _ => pts_nil) (fun σ H Q ⟨M, S, ev, l, rs, h⟩ => Pst.ok (v := true) h l rfl) hk he hs
theorem fe_dcM0 {kx vx : Expr} {scope : Scope} {sl : List Nat} {pos : Pos} {fi : FI} {g : FG} {tk tv : FE} (own : List (Str × Nat)) (C : Ct X Wx n) (hN : X.N.Nodup) (hi : FIx X XR Wx tg iter fi) (ok : BlkOk X.N X.env.scope scope own)
    (hg : ∀ (s : Shared) (H : Hp) (D : Addr) (cl : List (Str × Addr)) (fp : List Addr), FGx (Blk X scope s H D cl fp) XR tg sl g) (hsl : ∀ i, i ∈ sl → i ∈ own.map (·.2))
    (hk : ∀ (s : Shared) (H : Hp) (D : Addr) (cl : List (Str × Addr)) (fp : List Addr), FEx (Blk X scope s H D cl fp) XR Wn kx tk)
    (he : ∀ (s : Shared) (H : Hp) (D : Addr) (cl : List (Str × Addr)) (fp : List Addr), FEx (Blk X scope s H D cl fp) XR Wn vx tv) (hs : ∀ x, foldedSetIterable iter X.env x = pure x := by intro _; rfl) :
    FEx X XR Wx (.DictComp kx vx [⟨tg, iter, [], 0⟩] scope pos) (fDcM fi g fYes tk tv (own.map (·.2))) :=
  fe_dcG true (tt := tYes) C hN hi ok hg hsl (fun _ _ _ _ _ => pts_nil) (fun σ H Q ⟨M, S, ev, l, rs, h⟩ => Pst.ok (v := true) h l rfl) hk he hs
theorem fe_dc1 {kx vx c : Expr} {scope : Scope} {sl : List Nat} {pos : Pos} {fi : FI} {g : FG} {t : FT} {tk tv : FE} (own : List (Str × Nat)) (C : Ct X Wx n) (hN : X.N.Nodup) (hi : FIx X XR Wx tg iter fi) (ok : BlkOk X.N X.env.scope scope own)
    (hg : ∀ (s : Shared) (H : Hp) (D : Addr) (cl : List (Str × Addr)) (fp : List Addr), FGx (Blk X scope s H D cl fp) XR tg sl g) (hsl : ∀ i, i ∈ sl → i ∈ own.map (·.2))
    (ht : ∀ (s : Shared) (H : Hp) (D : Addr) (cl : List (Str × Addr)) (fp : List Addr), FTx (Blk X scope s H D cl fp) XR Wn c t)
    (hk : ∀ (s : Shared) (H : Hp) (D : Addr) (cl : List (Str × Addr)) (fp : List Addr), FEx (Blk X scope s H D cl fp) XR Wn kx tk)
    (he : ∀ (s : Shared) (H : Hp) (D : Addr) (cl : List (Str × Addr)) (fp : List Addr), FEx (Blk X scope s H D cl fp) XR Wn vx tv) (hs : ∀ x, foldedSetIterable iter X.env x = pure x := by intro _; rfl) :
    FEx X XR Wx (.DictComp kx vx [⟨tg, iter, [c], 0⟩] scope pos) (fDc fi g t tk tv (own.map (·.2))) :=
  fe_dcG false (tt := rT XR Wn t) C hN hi ok hg hsl (fun s H D cl fp => pts_one (ht s H D cl fp)) (fun σ H Q h => h) hk he hs
end
end FL

set_option Elab.async false
set_option linter.all false
set_option maxRecDepth 100000
set_option maxHeartbeats 2000000
/-! ### dicts that may change: {}, d[k] = v; with tuples for keys: {}, d.setdefault(k, x), len(d), list(d) -/
namespace FL
open PySem PySem.Spec PyProof.Rows
open L2
/-- a key's member as a value -/
def kN : NestedKey → V
  | .none => .non
  | .num i => .int i
  | .text x => .str x
  | .tup _ => .non
def atomK : PyData → Option NestedKey
  | .none => some .none
  | .int i => some (.num i)
  | .str x => some (.text x)
  | _ => none
def atomsK : List PyData → Option (List NestedKey)
  | [] => some []
  | d :: r => match atomK d, atomsK r with
    | some a, some b => some (a :: b)
    | _, _ => none
def keyT : W → Option NestedKey
  | .d (.tuple ds) => (atomsK ds).map .tup
  | _ => none
theorem atomK_ok {K : PySem.W.Frag} {H : Hp} {M : Ms} {d : PyData} {k : NestedKey} {v : V} (e : atomK d = some k) (h : Dr K H M d v) : k.data = d ∧ flatK k = true ∧ v = kN k := by
  cases d with
  | none => cases e; unfold Dr at h; exact ⟨rfl, rfl, h⟩
  | bool _ => cases e
  | int i => cases e; unfold Dr at h; exact ⟨rfl, rfl, h⟩
  | str x => cases e; unfold Dr at h; exact ⟨rfl, rfl, h⟩
  | list _ => cases e
  | tuple _ => cases e
  | dict _ => cases e
theorem atomsK_ok {K : PySem.W.Frag} {H : Hp} {M : Ms} : ∀ {ds : List PyData} {ks : List NestedKey} {vs : List V}, atomsK ds = some ks → DrL K H M ds vs → NestedKey.datas ks = ds ∧ ks.all flatK = true ∧ vs = ks.map kN
  | [], ks, vs, e, h => by
    cases e
    unfold DrL at h
    exact ⟨rfl, rfl, h⟩
  | d :: ds, ks, vs, e, h => by
    unfold DrL at h
    obtain ⟨x, r, rfl, h1, h2⟩ := h
    unfold atomsK at e
    split at e
    · rename_i a b e1 e2
      cases e
      obtain ⟨p1, p2, p3⟩ := atomK_ok e1 h1
      obtain ⟨q1, q2, q3⟩ := atomsK_ok e2 h2
      subst p3 q3
      refine ⟨?_, ?_, rfl⟩
      · show a.data :: NestedKey.datas b = _
        rw [p1, q1]
      · rw [List.all_cons, p2, q2]
        rfl
    · cases e
/-- the tuple at q is the key k -/
def KeyAt (K : PySem.W.Frag) (H : Hp) (k : NestedKey) (q : Addr) : Prop := ∃ ks, k = .tup ks ∧ ks.all flatK = true ∧ SqT K H q (ks.map kN)
theorem datas_kN {K : PySem.W.Frag} {H : Hp} {M : Ms} : ∀ {ks : List NestedKey} {vs : List V}, ks.all flatK = true → DrL K H M (NestedKey.datas ks) vs → vs = ks.map kN
  | [], vs, _, h => by
    unfold NestedKey.datas DrL at h
    exact h
  | k :: ks, vs, e, h => by
    rw [List.all_cons, Bool.and_eq_true] at e
    unfold NestedKey.datas DrL at h
    obtain ⟨x, r, rfl, h1, h2⟩ := h
    rw [datas_kN e.2 h2, List.map_cons]
    congr 1
    cases k with
    | none => unfold NestedKey.data Dr at h1; exact h1
    | num i => unfold NestedKey.data Dr at h1; exact h1
    | text x => unfold NestedKey.data Dr at h1; exact h1
    | tup _ => cases e.1
theorem sqT_of {K : PySem.W.Frag} {H : Hp} {M : Ms} {ds : List PyData} {v : V} (h : Dr K H M (.tuple ds) v) : ∃ a vs, v = .ref a ∧ SqT K H a vs ∧ DrL K H M ds vs := by
  unfold Dr at h
  obtain ⟨a, xs, e, q, r⟩ := h
  refine ⟨a, xs, e, ?_, r⟩
  rcases q with ⟨_, o, q2, q3⟩ | ⟨o, its, n, h1, h2, h3, h4, h5, h6⟩
  · exact .inl (.inr ⟨o, q3⟩)
  · exact .inr ⟨o, its, n, h1, h2, h4, h5, h6⟩
theorem keyAt_of {K : PySem.W.Frag} {H : Hp} {M : Ms} {k : NestedKey} {ks : List NestedKey} {q : Addr} (e : k = .tup ks) (f : ks.all flatK = true) (h : Dr K H M k.data (.ref q)) : KeyAt K H k q := by
  subst e
  obtain ⟨a, vs, e1, s, r⟩ := sqT_of (ds := NestedKey.datas ks) (by unfold NestedKey.data at h; exact h)
  cases e1
  rw [datas_kN f r] at s
  exact ⟨ks, rfl, f, s⟩
section
variable {X : Cx} {pins : List (Addr × Obj)} {σ : L2.St} {H : Hp} {s : Shared}
theorem nestAll {h : Heap} : ∀ {ks : List NestedKey} {its : List Value}, ks.all flatK = true → Vals (ks.map kN) its → NestedAll h ks its
  | [], _, _, r => by
    cases r
    exact .nil
  | k :: ks, _, f, r => by
    rw [List.all_cons, Bool.and_eq_true] at f
    cases r with
    | cons r t =>
      refine .cons ?_ (nestAll f.2 t)
      cases k with
      | none =>
        cases (show _ = Value.none from r)
        exact .none
      | num i =>
        obtain ⟨t, e⟩ := r
        cases e
        exact .int i t
      | text x =>
        obtain ⟨t, e⟩ := r
        cases e
        exact .text x t
      | tup _ => cases f.1
theorem flat_depth : ∀ {ks : List NestedKey}, ks.all flatK = true → NestedKey.depthAll ks ≤ 2
  | [], _ => by unfold NestedKey.depthAll; omega
  | k :: ks, f => by
    rw [List.all_cons, Bool.and_eq_true] at f
    have := flat_depth f.2
    have h1 : k.depth ≤ 2 := by
      cases k with
      | none => unfold NestedKey.depth; omega
      | num i => unfold NestedKey.depth; omega
      | text x => unfold NestedKey.depth; omega
      | tup _ => cases f.1
    unfold NestedKey.depthAll
    omega
theorem KeyAt.is {k : NestedKey} {q : Addr} (I : Inv X pins σ H s) (h : KeyAt X.K H k q) : (nestedKind X.prog X.w).is s.heap k q := by
  obtain ⟨ks, rfl, f, t⟩ := h
  obtain ⟨its, rv, pl, _⟩ := I.tuple t
  obtain ⟨o, e1, e2, n, e3⟩ := pl
  refine ⟨.tup e1 e2 e3 (by simpa using nestAll f rv), ?_⟩
  have := flat_depth f
  unfold NestedKey.depth
  omega
theorem raw_dict {a : Addr} {xs : List (NestedKey × Addr × Value)} (I : Inv X pins σ H s) (h : H a = some (RawT X.w a xs)) (hk : ∀ x ∈ xs, KeyAt X.K H x.1 x.2.1) :
    s.heap.DictOfH (nestedKind X.prog X.w) a xs ∧ (a == sysModules) = false ∧ xs.length ≤ sizeLine := by
  obtain ⟨⟨o, es, ep, h1, h2, h3, h4, h5, h6, h7⟩, _, _⟩ := (show ObjOk X.prog X.w H s.heap a (RawT X.w a xs) from I.hok a _ h)
  exact ⟨⟨o, es, ep, h1, h2, h3, h4, fun x hx => (hk x hx).is I, h5⟩, h6, h7⟩
theorem raw_new {P : Program} {w : World} {H' : Hp} {h' : Heap} {a : Addr} {xs : List (NestedKey × Addr × Value)} (d : h'.DictOfH (nestedKind P w) a xs) (hs : (a == sysModules) = false) (z : xs.length ≤ sizeLine) : ObjOk P w H' h' a (RawT w a xs) := by
  obtain ⟨o, es, ep, h1, h2, h3, h4, _, h5⟩ := d
  refine ⟨⟨o, es, ep, h1, h2, h3, h4, h5, hs, z⟩, ⟨o, h1⟩, ?_⟩
  rintro g1 g2 ⟨o, es, ep, h1, h2⟩ k
  exact ⟨o, es, ep, k o h1, h2⟩
theorem raw_at {a : Addr} {xs : List (NestedKey × Addr × Value)} (I : Inv X pins σ H s) (h : H a = some (RawT X.w a xs)) :
    s.TypeIs (.ref a) "dict" ∧ ∀ b, Value.ref a = .ref b → ∃ ob, s.heap.get? b = some ob ∧ ob.dict = none := by
  obtain ⟨⟨o, es, ep, h1, h2, _⟩, _, _⟩ := (show ObjOk X.prog X.w H s.heap a (RawT X.w a xs) from I.hok a _ h)
  refine ⟨⟨o, h1, h2.1⟩, fun b q => ?_⟩
  cases q
  exact ⟨o, h1, h2.2.1⟩
theorem d_setdT {a q : Addr} {k : NestedKey} {xs : List (NestedKey × Addr × Value)} {r : Value} {A : Around} {E : Value → Shared → Prop} {Q : Value → Shared → Prop} (hu : A.units + 20 < cLine) (I : Inv X pins σ H s) (h : H a = some (RawT X.w a xs)) (hk : ∀ x ∈ xs, KeyAt X.K H x.1 x.2.1)
    (kq : KeyAt X.K H k q) (hl : xs.length < sizeLine) (h1 : ∀ p, atKey xs k = some p → ∀ s', Inv X pins σ H s' → Q p.2 s') (h2 : atKey xs k = none → ∀ s', Inv X pins σ (upd H a (RawT X.w a (xs ++ [(k, q, r)]))) s' → Q r s') :
    wpAny (model X.prog X.w) A (call (.builtin "dict.setdefault") [.ref a, .ref q, r]) Q E s := by
  obtain ⟨dd, hd, z⟩ := raw_dict I h hk
  refine call_setdefault_heap (hsz := z) (by show A.units + 1 + 8 < cLine; omega) (kq.is I) hd dd (fun p hp => h1 p hp _ (I.tok _)) fun hn h' dd' hs => h2 hn _ ?_
  rw [storedH_new hn] at dd'
  have he : ∃ u, h'.get? a = some u := let ⟨u, _, _, hu, _⟩ := dd'; ⟨u, hu⟩
  exact d_write (t' := _) I (by rw [h]; trivial) hs he (raw_new dd' hd (by rw [List.length_append]; show xs.length + 1 ≤ _; omega))
end
end FL

set_option Elab.async false
set_option linter.all false
set_option maxRecDepth 100000
set_option maxHeartbeats 2000000
namespace FL
open PySem PySem.Spec PyProof.Rows
open L2
section
variable {X : Cx} {o e f : Expr} {td ty tx : TE} {apos cpos pos : Pos}
/-! the rules of the machine -/
def tNewT (w : World) : TE := fun _ H Q => ∀ p, H p = none → Q (.ref p) (upd H p (RawT w p []))
theorem pe_newT : PE X (.Dict [] [] pos) (tNewT X.w) := ⟨fun pins s σ H Q I h =>
  wpAny_Dict_empty ⟨.ref s.heap.objs.size, _, I.laid (a := s.heap.objs.size) (o := RawT X.w s.heap.objs.size []) (t' := s.toks) (fun _ _ q => Heap.get?_push_of_some _ q) (Nat.le_refl _)
    (raw_new (P := X.prog) (Heap.DictOfH.new s.heap) (beq_eq_false_iff_ne.mpr (Nat.ne_of_gt I.big)) (Nat.zero_le _)), rfl, h _ (I.hok.fresh (Nat.le_refl _))⟩⟩
def tSetdT (w : World) (K : PySem.W.Frag) (td ty tx : TE) : TE := fun σ H Q => td σ H fun x H1 => ∃ a xs0, x = .ref a ∧ H1 a = some (RawT w a xs0) ∧ ty σ H1 fun y H2 => tx σ H2 fun z H3 => ∃ xs k q, H3 a = some (RawT w a xs) ∧ y = .ref q ∧ KeyAt K H3 k q ∧
  (∀ x ∈ xs, KeyAt K H3 x.1 x.2.1) ∧ xs.length < sizeLine ∧ (∀ p, atKey xs k = some p → ∃ v, L2.RelV v p.2 ∧ Q v H3) ∧ (atKey xs k = none → ∀ r, L2.RelV z r → Q z (upd H3 a (RawT w a (xs ++ [(k, q, r)]))))
theorem pe_setdT (hu : X.A.units + 20 < cLine) (ho : PE X o td) (he : PE X e ty) (hf : PE X f tx) (m : M2 X o "setdefault" apos e f cpos) : PE X (.Call (.Attribute o "setdefault" apos) [e, f] [] cpos) (tSetdT X.w X.K td ty tx) := by
  refine ⟨fun pins s σ H Q I h => ?_⟩
  refine wpAny_Call_method m.base m.few m.line PySem.F.plainAttrs_dict PySem.F.slot_dict_setdefault PySem.F.type_dict_setdefault (thn (ho.run pins s σ H _ I h) fun u s1 ⟨x, H1, I1, rx, a, xs0, ex, d, q1⟩ => ?_)
  subst ex
  obtain rfl : u = Value.ref a := rx
  obtain ⟨t1, t2⟩ := raw_at I1 d
  refine ⟨t1, t2, ?_⟩
  rw [m.trees]
  refine Calls.callWith_builtin rfl (Calls.evalArgs_plain (Calls.spliced_cons (thn (he.run pins s1 σ H1 _ I1 q1) fun iv s2 ⟨y, H2, I2, ry, q2⟩ =>
    Calls.spliced_cons (thn (hf.run pins s2 σ H2 _ I2 q2) fun fv s3 ⟨z, H3, I3, rz, xs, k, q, ea, ey, kq, hk, hl, q3, q4⟩ => Calls.spliced_nil ?_))))
  subst ey
  obtain rfl : iv = Value.ref q := ry
  exact d_setdT hu I3 ea hk kq hl (fun p hp s4 I4 => let ⟨v, rv, qv⟩ := q3 p hp; ⟨v, _, I4, rv, qv⟩) fun hn s4 I4 => ⟨z, _, I4, rz, q4 hn fv rz⟩
def rLenR (w : World) (K : PySem.W.Frag) : List V → Hp → VK → Prop := fun xs H Q => ∃ a ys, xs = [.ref a] ∧ H a = some (RawT w a ys) ∧ (∀ x ∈ ys, KeyAt K H x.1 x.2.1) ∧ Q (.int ys.length) H
theorem call_lenR : CallR X (.builtin "len") (rLenR X.w X.K) := by
  intro pins s σ H xs us Q I r h
  obtain ⟨p, ys, rfl, hp, hk, q⟩ := h
  obtain ⟨u, rfl, rx⟩ := vals1 r
  obtain rfl : u = .ref p := rx
  obtain ⟨dd, hd, z⟩ := raw_dict I hp hk
  refine call_len_dictH hd dd (by rw [sizeLine_eq] at z; omega) ?_
  exact ⟨.int ((ys.length : Nat) : Int), H, I.tok _, ⟨_, rfl⟩, q⟩
def rListR (w : World) (K : PySem.W.Frag) : List V → Hp → VK → Prop := fun xs H Q => ∃ a ys, xs = [.ref a] ∧ H a = some (RawT w a ys) ∧ (∀ x ∈ ys, KeyAt K H x.1 x.2.1) ∧ ∀ p, H p = none → Q (.ref p) (upd H p (.lst (ys.map fun y => V.ref y.2.1)))
theorem call_listR (hc : X.calm = true) : CallR X (.type "list") (rListR X.w X.K) := by
  intro pins s σ H xs us Q I r h
  obtain ⟨d, ks, rfl, hd, hk, q⟩ := h
  obtain ⟨u, rfl, rx⟩ := r.one
  cases rx
  obtain ⟨⟨o, es, ep, ho, hx, hdt, he, _, hn⟩, hs, z⟩ := raw_dict I hd hk
  have l1 : es.size = ks.length := size_of_entries he
  refine PySem.W.kdl_call (kdl_raw hs hx hdt) (I.ok.hd hc) ho (by omega) fun h' tk acc' c' kp e it => ?_
  have ea : acc'.toList = ks.map fun x => Value.ref x.2.1 := by
    have hl : acc'.toList.length = ks.length := by rw [Array.length_toList, it.1]; exact l1
    apply List.ext_getElem?
    intro j
    rw [List.getElem?_map]
    cases hj : acc'.toList[j]? with
    | none =>
      have h1 := List.getElem?_eq_none_iff.mp hj
      rw [List.getElem?_eq_none (by omega)]
      all_goals rfl
    | some v =>
      obtain ⟨en, hen, hv⟩ := it.2 j v (by rw [← Array.getElem?_toList]; exact hj)
      have qe := entry_at he j
      rw [hen] at qe
      cases hb : ks[j]? with
      | none =>
        rw [hb] at qe
        exact nomatch (show some en = none from qe)
      | some b =>
        rw [hb] at qe
        have e2 : en = entryOfKey (nestedKind X.prog X.w) b := Option.some.inj qe
        rw [hv, e2]
        all_goals rfl
  have eb : acc'.toList = (ks.map fun x => x.2.1).map Value.ref := by rw [ea, List.map_map]; all_goals rfl
  have rv : Vals (ks.map fun y => V.ref y.2.1) acc'.toList := by
    have e3 : (ks.map fun y => V.ref y.2.1) = (ks.map fun x => x.2.1).map V.ref := by rw [List.map_map]; all_goals rfl
    rw [eb, e3]
    exact vals_refs _
  have hz : (ks.map fun y => V.ref y.2.1).length ≤ sizeLine := by rw [List.length_map]; omega
  refine ⟨.ref s.heap.objs.size, _, I.laid (t' := tk) (o := .lst (ks.map fun y => V.ref y.2.1)) kp (Nat.le_refl _) ?_, rfl, q _ (I.hok.fresh (Nat.le_refl _))⟩
  exact ⟨hz, acc'.toList, c', rv, by rw [Array.toArray_toList]; exact e⟩
end
/-! the readings -/
def fNewK : FE := fun _ S => .ok (.r S.length) (S ++ [.k []])
def fNewT : FE := fun _ S => .ok (.r S.length) (S ++ [.t []])
def lookT (kvs : List (NestedKey × PyData)) (k : NestedKey) : Option PyData := (kvs.find? fun p => decide (p.1 = k)).map (·.2)
def fSetd (fo fk fv : FE) : FE := fun ev S => (fo ev S).bind fun x S1 => match x with
  | .r n => match S1[n]? with
    | some (.t _) => (fk ev S1).bind fun y S2 => (fv ev S2).bind fun z S3 => match S3[n]?, keyT y, z with
      | some (.t kvs), some k, .d d => if kvs.length < sizeLine then (match lookT kvs k with
        | some e => .ok (.d e) S3
        | none => .ok (.d d) (S3.set n (.t (kvs ++ [(k, d)])))) else .no
      | _, _, _ => .no
    | _ => .no
  | _ => .no
def asR (w : W) (S : So) : Option (List (NestedKey × PyData)) := match w with
  | .r n => match S[n]? with
    | some (.t kvs) => some kvs
    | _ => none
  | _ => none
def lenR (w : W) (S : So) : Res W := match asR w S with
  | some kvs => .ok (.d (.int kvs.length)) S
  | none => .no
def lstR (w : W) (S : So) : Res W := match asR w S with
  | some kvs => .ok (.d (.list (kvs.map fun p => p.1.data))) S
  | none => .no
theorem nx_lenR : NX1 lenR := by
  intro x S c f S' e
  unfold lenR at e
  split at e <;> cases e
theorem nx_lstR : NX1 lstR := by
  intro x S c f S' e
  unfold lstR at e
  split at e <;> cases e
section
variable {K : PySem.W.Frag} {XR : XRel K} {H : Hp} {M : Ms} {S : So}
theorem te_keys : ∀ {kvs : List (NestedKey × PyData)} {xs : List (NestedKey × Addr × Value)}, Paired (TE1 K H M) kvs xs → ∀ x ∈ xs, KeyAt K H x.1 x.2.1
  | _, _, .nil, x, hx => by simp at hx
  | _, _, .cons (b := y) r t, x, hx => by
    rcases List.mem_cons.mp hx with hx | hx
    · subst hx
      obtain ⟨e, ⟨ks, e1, f⟩, h, _⟩ := r
      rw [← e]
      exact keyAt_of e1 f h
    · exact te_keys t x hx
theorem te_look {k : NestedKey} : ∀ {kvs : List (NestedKey × PyData)} {xs : List (NestedKey × Addr × Value)}, Paired (TE1 K H M) kvs xs →
    (∀ e, lookT kvs k = some e → ∃ p, atKey xs k = some p ∧ ∃ v, Dr K H M e v ∧ L2.RelV v p.2) ∧ (lookT kvs k = none → atKey xs k = none)
  | _, _, .nil => ⟨fun e h => (nomatch h), fun _ => rfl⟩
  | _, _, .cons (a := p) (b := x) (l₁ := kvs) (l₂ := xs) r t => by
    obtain ⟨i1, i2⟩ := te_look t
    obtain ⟨e, _, _, v, dv, rv⟩ := r
    unfold lookT atKey at *
    rw [List.find?_cons, List.find?_cons, ← e]
    by_cases c : p.1 = k
    · rw [decide_eq_true c]
      refine ⟨fun e h => ?_, fun h => by cases h⟩
      cases h
      exact ⟨_, rfl, v, dv, rv⟩
    · rw [decide_eq_false c]
      exact ⟨i1, i2⟩
theorem te_refs : ∀ {kvs : List (NestedKey × PyData)} {xs : List (NestedKey × Addr × Value)}, Paired (TE1 K H M) kvs xs → DrL K H M (kvs.map fun p => p.1.data) (xs.map fun y => V.ref y.2.1)
  | _, _, .nil => by show DrL K H M [] []; unfold DrL; rfl
  | _, _, .cons r t => by
    rw [List.map_cons, List.map_cons]
    unfold DrL
    exact ⟨_, _, rfl, r.2.2.1, te_refs t⟩
theorem asR_ok (l : Rl XR.wo K H M S) {w : W} {v : V} {kvs : List (NestedKey × PyData)} (r : RW XR H M w v) (e : asR w S = some kvs) : ∃ a xs, v = .ref a ∧ H a = some (RawT XR.wo a xs) ∧ Paired (TE1 K H M) kvs xs := by
  unfold asR at e
  split at e
  · obtain ⟨a, e1, e2⟩ := r
    split at e
    · rename_i n kv e3
      cases e
      obtain ⟨u, h1, xs, rfl, h2⟩ := l.get e1 e3
      exact ⟨a, xs, e2, h1, h2⟩
    · cases e
  · cases e
end
section
variable {X : Cx} {XR : XRel X.K} {Wx : WX} {n : Nat} {e o f : Expr} {fr : FA} {fo fk fv : FE} {p pos apos cpos : Pos}
theorem fe_newK : FEx X XR Wx (.Dict [] [] pos) fNewK := by
  refine PE.imp pe_dnewK ?_
  rintro σ H Q ⟨M, S, ev, l, rs, h⟩ p np
  refine h (M.add p) _ _ (stp_mut np) (l.mut np ⟨[], rfl, .nil⟩) ⟨p, ?_, rfl⟩
  rw [← l.len]
  show (M.m ++ [p])[M.m.length]? = some p
  simp
theorem fe_newT (hw : XR.wo = X.w) : FEx X XR Wx (.Dict [] [] pos) fNewT := by
  refine PE.imp pe_newT ?_
  rintro σ H Q ⟨M, S, ev, l, rs, h⟩ p np
  refine h (M.add p) _ _ (stp_mut np) (l.mut np ⟨[], by rw [hw], .nil⟩) ⟨p, ?_, rfl⟩
  rw [← l.len]
  show (M.m ++ [p])[M.m.length]? = some p
  simp
theorem fe_setd (C : Ct X Wx n) (hw : XR.wo = X.w) (ho : FEx X XR Wx o fo) (he : FEx X XR Wx e fk) (hf : FEx X XR Wx f fv) (m : M2 X o "setdefault" apos e f cpos) : FEx X XR Wx (.Call (.Attribute o "setdefault" apos) [e, f] [] cpos) (fSetd fo fk fv) := by
  refine PE.imp (pe_setdT (by have := C.un; omega) ho he hf m) ?_
  rintro σ H Q ⟨M, S, ev, l, rs, h⟩
  refine ⟨M, S, ev, l, rs, Pst.cut h ?_⟩
  intro x S1 M1 H1 vx _ s1 l1 r1 h1
  split at h1
  · rename_i j _
    split at h1
    · rename_i kv0 e0
      obtain ⟨a, e1, e2⟩ := r1
      obtain ⟨u, g1, xs0, rfl, g2⟩ := l1.get e1 e0
      rw [hw] at g1
      refine ⟨a, xs0, e2, g1, M1, S1, ev, l1, rs.stp s1, Pst.cut h1 ?_⟩
      intro y S2 M2 H2 vy _ s2 l2 r2 h2
      refine ⟨M2, S2, ev, l2, (rs.stp s1).stp s2, Pst.cut h2 ?_⟩
      intro z S3 M3 H3 vz _ s3 l3 r3 h3
      obtain ⟨a', e1', e2'⟩ := RW.stp (w := .r j) (XR := XR) (s2.trans s3) ⟨a, e1, e2⟩
      cases e2.symm.trans e2'
      split at h3
      · skip
        rename_i kvs k d e4 e5 _
        obtain ⟨u, g3, xs, rfl, g4⟩ := l3.get e1' e4
        rw [hw] at g3
        have hy : ∃ q ks, vy = .ref q ∧ k = .tup ks ∧ ks.all flatK = true ∧ Dr X.K H3 M3 k.data (.ref q) := by
          unfold keyT at e5
          split at e5
          · rename_i ds _
            cases e6 : atomsK ds with
            | none => rw [e6] at e5; cases e5
            | some ks =>
              rw [e6] at e5
              cases e5
              have r2' : Dr X.K H3 M3 (.tuple ds) vy := r2.stp s3
              obtain ⟨q, vs, e7, t1, t2⟩ := sqT_of r2'
              obtain ⟨d1, d2, d3⟩ := atomsK_ok e6 t2
              refine ⟨q, ks, e7, rfl, d2, ?_⟩
              unfold NestedKey.data
              rw [d1, ← e7]
              exact r2'
          · cases e5
        obtain ⟨q, ks, ey, ek, ef, dk⟩ := hy
        obtain ⟨i1, i2⟩ := te_look (k := k) g4
        have ln : kvs.length = xs.length := Paired.length g4
        split at h3
        · rename_i cl
          have cl2 : xs.length < sizeLine := by omega
          split at h3
          · rename_i y e7
            obtain ⟨p, p1, v, p2, p3⟩ := i1 y e7
            exact ⟨xs, k, q, g3, ey, keyAt_of ek ef dk, te_keys g4, cl2, ⟨(fun p' hp => by rw [p1] at hp; cases hp; exact ⟨v, p3, imm_d l3 h3 p2⟩), (fun hn => by rw [p1] at hn; cases hn)⟩⟩
          · rename_i e7
            refine ⟨xs, k, q, g3, ey, keyAt_of ek ef dk, te_keys g4, cl2, (fun p' hp => by rw [i2 e7] at hp; cases hp), fun hn r rr => ?_⟩
            have s4 : Stp M3 H3 M3 (upd H3 a (RawT X.w a (xs ++ [(k, q, r)]))) := stp_set (List.mem_iff_getElem?.mpr ⟨j, e1'⟩) (by intro od u z; rw [g3] at z; cases z)
            refine h3 M3 _ _ s4 (l3.set e1' ⟨xs ++ [(k, q, r)], by rw [hw], Paired.snoc ⟨rfl, ⟨ks, ek, ef⟩, Dr.stp s4 _ _ dk, vz, Dr.stp s4 _ _ r3, rr⟩ (Paired.imp (fun _ _ z => z.stp s4) g4)⟩) (Dr.stp s4 _ _ r3)
        · exact h3.elim
      · exact h3.elim
    · exact h1.elim
  · exact h1.elim
end
end FL

set_option Elab.async false
set_option linter.all false
set_option maxRecDepth 100000
set_option maxHeartbeats 2000000
/-! ### enumerate(x), x a list or a tuple -/
namespace FL
open PySem PySem.Spec PyProof.Rows
open L2
section
variable {v : Value} {o : Obj} {Hh : Heap → Prop}
set_option maxHeartbeats 1000000 in
theorem meets_enum1 (B : Begins v o Hh) :
    Meets (Builtin.«enumerate.__new__» ⟨[.type "enumerate", v], []⟩) (fun _ R s => Hh s.heap ∧
      R (.ok (.ret (.ref (s.heap.push o).objs.size))) { s with heap := (s.heap.push o).push { cls := .type "enumerate", data := .fields #[.none, .bool false, .ref s.heap.objs.size, rawInt 0, .none, .none] } }) :=
  .of_wp fun prog w A R s h => by
    obtain ⟨hp, g, d, tk, os⟩ := s; obtain ⟨h1, h⟩ := h
    have hsub := sub_enumerate
    have q1 : ∀ {A' : Around} {E : Value → Shared → Prop} {Q : Value → Shared → Prop}, Q (.ref hp.objs.size) ⟨hp.push o, g, d, tk, os⟩ → wpAny (model prog w) A' (pyIter v) Q E ⟨hp, g, d, tk, os⟩ :=
      fun q => B.iter prog w _ _ ⟨hp, g, d, tk, os⟩ _ h1 q
    wp_walk using q1
    refine wpAny_stack_any fun st => wpAny_pure ?_
    split
    · rename_i c _ _ _ _ _
      cases (c == Value.type "enumerate")
      · wp_walk using q1
        exact ⟨_, rfl, h⟩
      · wp_walk using q1
        exact ⟨_, rfl, h⟩
    · wp_walk using q1
      exact ⟨_, rfl, h⟩
variable {prog : Program} {w : World} {A : Around} {E : Value → Shared → Prop} {s : Shared}
theorem call_enum1 {Q : Value → Shared → Prop} (B : Begins v o Hh) (h1 : Hh s.heap)
    (h : ∀ h', IsEnum h' (s.heap.objs.size + 1) s.heap.objs.size 0 .none → h'.get? s.heap.objs.size = some o → h'.objs.size = s.heap.objs.size + 2 →
      (∀ b o, s.heap.get? b = some o → h'.get? b = some o) → Q (.ref (s.heap.objs.size + 1)) { s with heap := h' }) :
    wpAny (model prog w) A (call (.type "enumerate") [v]) Q E s := by
  refine callType_new F.called_enumerate (by decide) (F.typeCall_enumerate_1 _) (F.newCall_enumerate_1 _) (fun obj => F.args_object_init_2 obj _) F.entry_enumerate_new
    (meets_enum1 B) ⟨h1, ?_⟩
  have hz : (s.heap.push o).objs.size = s.heap.objs.size + 1 := Heap.size_push ..
  show _ ∧ _
  rw [hz]
  have he : IsEnum ((s.heap.push o).push { cls := .type "enumerate", data := .fields #[.none, .bool false, .ref s.heap.objs.size, rawInt 0, .none, .none] }) (s.heap.objs.size + 1) s.heap.objs.size 0 .none := by
    have := Heap.get?_push_size (s.heap.push o) (o := { cls := .type "enumerate", data := .fields #[.none, .bool false, .ref s.heap.objs.size, rawInt 0, .none, .none] }) rfl
    rw [hz] at this; exact this
  refine ⟨⟨_, he, rfl⟩, h _ he (Heap.get?_push_of_some _ (Heap.get?_push_size _ B.free)) (by rw [Heap.size_push, hz]) fun b o x => Heap.get?_push_of_some _ (Heap.get?_push_of_some _ x)⟩
end
/-- the members xs in new pairs -/
def ItE (xs : List V) (G : Hp → Prop) : It :=
  ⟨fun i H => G H ∧ i < xs.length, fun i H v H' => ∃ T x o, v = .ref T ∧ H T = none ∧ o.dict = none ∧ H' = upd H T (.frz o (.tup [.int (i : Nat), x])) ∧ xs[i]? = some x, fun i H => G H ∧ i = xs.length⟩
theorem walk_E {xs : List V} {G : Hp → Prop} : Walk (ItE xs G) xs.length G (fun i H v H' => ∃ T x o, v = .ref T ∧ H T = none ∧ o.dict = none ∧ H' = upd H T (.frz o (.tup [.int (i : Nat), x])) ∧ xs[i]? = some x) :=
  ⟨fun i H hi q => ⟨q, hi⟩, fun H q => ⟨q, rfl⟩, fun _ _ _ _ _ _ y => y⟩
/-- the two kinds: b: a tuple -/
def ItP (b : Bool) (h : Heap) (it a : Addr) (i : Nat) : Prop := if b then h.IsTupleIter it a i else h.IsListIter it a i
def IsP (b : Bool) (h : Heap) (a : Addr) (its : Array Value) : Prop := if b then h.IsTuple a its else h.IsList a its
def SqP (b : Bool) (K : PySem.W.Frag) (H : Hp) (a : Addr) (xs : List V) : Prop := if b then SqT K H a xs else SqL K H a xs
theorem draws_P (b : Bool) {P : Program} {w : World} {A : Around} (hh : A.handled = none) (it a : Addr) (ne : a ≠ it) (its : Array Value) :
    Draws P w A it [it, a] its.size (fun i v => its[i]? = some v) (fun i h => ItP b h it a i ∧ IsP b h a its) := by
  cases b with
  | true => exact Draws.tuple hh it a ne its
  | false => exact Draws.list hh it a ne its
theorem sqP_at {b : Bool} {X : Cx} {pins : List (Addr × Obj)} {σ : L2.St} {H : Hp} {s : Shared} {a : Addr} {xs : List V} (I : Inv X pins σ H s) (h : SqP b X.K H a xs) : ∃ its, Vals xs its ∧ IsP b s.heap a its.toArray := by
  cases b with
  | true =>
    obtain ⟨its, rv, p, _⟩ := I.tuple (show SqT X.K H a xs from h)
    exact ⟨its, rv, p⟩
  | false =>
    obtain ⟨its, rv, p, _⟩ := I.list (show SqL X.K H a xs from h)
    exact ⟨its, rv, p.isList⟩
theorem itP_obj {b : Bool} {h : Heap} {it a : Addr} {i : Nat} (x : ItP b h it a i) : ∃ o, h.get? it = some o ∧ ∀ v, o.data ≠ .cell v := by
  cases b with
  | true =>
    obtain ⟨o, h1, h2, h3⟩ := (show h.IsTupleIter it a i from x)
    exact ⟨o, h1, fun v q => by rw [h3] at q; cases q⟩
  | false =>
    obtain ⟨o, h1, h2, h3⟩ := (show h.IsListIter it a i from x)
    exact ⟨o, h1, fun v q => by rw [h3] at q; cases q⟩
theorem itP_at {b : Bool} {h h' : Heap} {it a : Addr} {i : Nat} (x : ItP b h it a i) (k : ∀ o, h.get? it = some o → h'.get? it = some o) : ItP b h' it a i := by
  cases b with
  | true => exact Heap.IsTupleIter.at (show h.IsTupleIter it a i from x) k
  | false => exact Heap.IsListIter.at (show h.IsListIter it a i from x) k
theorem turn_E {P : Program} {w : World} {K : PySem.W.Frag} {elts : List Expr} {kk : Nat} {tpos : Pos} (b : Bool) (a e it : Addr) (xs : List V) (ne : a ≠ it) (nei : e ≠ it) (nea : e ≠ a) :
    Turn P w K (.Tuple elts kk tpos) (ItE xs fun H => SqP b K H a xs) [e, it] e (fun i h => (∃ old, IsEnum h e it ((i : Nat) : Int) old) ∧ ItP b h it a i) where
  mem := by simp
  obj := fun i h st c hc => by
    obtain ⟨⟨old, he⟩, hi⟩ := st
    have e' : c = e ∨ c = it := by simpa using hc
    rcases e' with z | z
    · rw [z]; exact ⟨_, he, fun v q => nomatch q⟩
    · rw [z]; exact itP_obj hi
  keep := fun i h h' st k => let ⟨⟨old, he⟩, hi⟩ := st; ⟨⟨old, k e (by simp) _ he⟩, itP_at hi fun o q => k it (by simp) o q⟩
  item := by
    intro X hP hw hK hc i pins s σ H E I hf st hg
    subst hP hw hK
    obtain ⟨⟨old, he⟩, hit⟩ := st
    obtain ⟨hq, hx⟩ := hg
    obtain ⟨its, rv, p⟩ := sqP_at I hq
    have hx1 : xs[i]? = some xs[i] := by simp [hx]
    have hel : e < s.heap.objs.size := Heap.lt_size he
    have hil : it < s.heap.objs.size := by obtain ⟨_, q, _⟩ := itP_obj hit; exact Heap.lt_size q
    have ln := rv.length
    refine wpAny_pyNext_enum_itemD (draws_P b (A := X.A.in1) (I.ok.hd hc) it a ne its.toArray) he ⟨hit, p⟩ (by rw [List.size_toArray]; omega) nei (by simp [nei, nea]) fun x h' tk hPx ho hst hT hsz hk => ?_
    obtain ⟨u, hu, ru⟩ := rv.get hx1
    have hxu : x = u := by
      have e1 : its[i]? = some x := by simpa using hPx
      rw [hu] at e1
      cases e1 <;> rfl
    subst hxu
    refine ⟨_, rfl, wpAny_letOwnedTupleGo_enum (s := { s with heap := h', toks := tk + 1 }) ho fun h'' he' sb => ?_⟩
    have hT2 : h''.get? s.heap.objs.size = some { cls := .type "tuple", data := .seq #[.int i tk, x] } := (sb.2 _ (Nat.ne_of_gt hel)).trans hT
    have new : ObjOk X.prog X.w (upd H s.heap.objs.size (.frz { cls := .type "tuple", data := .seq #[.int i tk, x] } (.tup [.int (i : Nat), xs[i]]))) h'' s.heap.objs.size (.frz { cls := .type "tuple", data := .seq #[.int i tk, x] } (.tup [.int (i : Nat), xs[i]])) :=
      ⟨hT2, by show 2 ≤ sizeLine; decide, [.int i tk, x], .cons ⟨_, rfl⟩ (.cons ru .nil), ⟨_, hT2, rfl, _, rfl⟩⟩
    have I1 := I.turnedNew (t' := tk + 1) (ch := [e, it]) (fun c ob hb q => (sb.2 c (fun z => hb (by simp [z]))).trans (hk c ob (fun z => hb (by simp [z])) (fun z => hb (by simp [z])) q)) hf (Nat.le_refl _) new
    refine ⟨.ref s.heap.objs.size, _, I1, rfl, ⟨_, xs[i], _, rfl, I.hok.fresh (Nat.le_refl _), rfl, rfl, hx1⟩, ⟨⟨x, ?_⟩, itP_at hst.1 fun o q => (sb.2 it (Ne.symm nei)).trans q⟩, fun c hb => ?_⟩
    · have e1 : ((i + 1 : Nat) : Int) = (i : Int) + 1 := by omega
      rw [e1]; exact he'
    · have hb' : c < s.heap.objs.size := by
        have e' : c = e ∨ c = it := by simpa using hb
        rcases e' with z | z
        · rw [z]; exact hel
        · rw [z]; exact hil
      rw [upd_ne (Nat.ne_of_lt hb')]
      exact (hf c hb).1
  done := by
    intro X hP hw hK hc i pins s σ H E I hf st hg
    subst hP hw hK
    obtain ⟨⟨old, he⟩, hit⟩ := st
    obtain ⟨hq, hx⟩ := hg
    obtain ⟨its, rv, p⟩ := sqP_at I hq
    obtain ⟨f0, f1, f2, f3, f4, f5⟩ := hf it (by simp)
    have ln := rv.length
    have ei : i = its.toArray.size := by rw [List.size_toArray]; omega
    subst ei
    exact wpAny_pyNext_enum_endD (draws_P b (A := X.A.in1) (I.ok.hd hc) it a ne its.toArray) he ⟨hit, p⟩ fun h' eb => ⟨rfl, I.turned (t' := s.toks) (fun b o hb q => eb b o hb q) f0 f1 f3 f4 f5⟩
  self := fun A i s Q E st h => let ⟨⟨_, he⟩, _⟩ := st; wpAny_pyIter_enum he h
def rEnum (K : PySem.W.Frag) (ta : TA) : TI := fun σ H R => ta σ H fun vs H1 => ∃ b a xs, vs = [.ref a] ∧ SqP b K H1 a xs ∧ R (ItE xs fun H => SqP b K H a xs) H1
theorem pi_enumE {X : Cx} {e : Expr} {ta : TA} {p pos tpos : Pos} {elts : List Expr} {kk : Nat} (hg : Gl X "enumerate") (hm : X.mg "enumerate" = none) (ha : PA X [e] ta) (hs : starEach [e] X.env = [(false, eval e X.env)] := by rfl) :
    PI X (.Tuple elts kk tpos) (.Call (.Name "enumerate" p) [e] [] pos) (rEnum X.K ta) := by
  refine ⟨fun pins s σ H R I h => ?_⟩
  refine Call_ (ld_blt I hg hm boot_enumerate (PyProof.Rows.callWith_type1 (thn (ha.run pos pins s σ H _ I h) fun us s1 ⟨vs, H1, I1, r1, q1⟩ => ?_) hs rfl))
  obtain ⟨b, a, xs, ex, hq, q⟩ := q1
  subst ex
  cases r1 with
  | cons r rr =>
    cases rr
    cases r
    obtain ⟨its, rv, p⟩ := sqP_at I1 hq
    have la : a < s1.heap.objs.size := by
      cases b with
      | true => obtain ⟨o, q, _⟩ := (show s1.heap.IsTuple a its.toArray from p); exact Heap.lt_size q
      | false => obtain ⟨o, q, _⟩ := (show s1.heap.IsList a its.toArray from p); exact Heap.lt_size q
    have fin : ∀ h', IsEnum h' (s1.heap.objs.size + 1) s1.heap.objs.size 0 .none → ItP b h' s1.heap.objs.size a 0 → (∀ c o, s1.heap.get? c = some o → h'.get? c = some o) →
        wpAny (model X.prog X.w) X.A (pyIter (.ref (s1.heap.objs.size + 1))) (PIE X pins σ (.Tuple elts kk tpos) R) X.xe { s1 with heap := h' } := fun h' he hit hk => by
      refine wpAny_pyIter_enum he ?_
      have I2 : Inv X pins σ H1 { s1 with heap := h' } := I1.kept (t' := s1.toks) hk
      refine ⟨s1.heap.objs.size + 1, [s1.heap.objs.size + 1, s1.heap.objs.size], _, _, H1, rfl, I2, turn_E b a (s1.heap.objs.size + 1) s1.heap.objs.size xs (Nat.ne_of_lt la) (Nat.succ_ne_self _) (Nat.ne_of_gt (Nat.lt_succ_of_lt la)), ⟨⟨.none, he⟩, hit⟩, fun c hb => ?_, q⟩
      have e' : c = s1.heap.objs.size + 1 ∨ c = s1.heap.objs.size := by simpa using hb
      have hle : s1.heap.objs.size ≤ c := by
        rcases e' with z | z
        · rw [z]; exact Nat.le_add_right _ _
        · rw [z]; exact Nat.le_refl _
      exact I1.fpOk hle (I1.hok.fresh hle)
    cases b with
    | true => exact call_enum1 (begins_tuple a its.toArray) p fun h' he ho hsz hk => fin h' he ⟨_, ho, rfl, rfl⟩ hk
    | false => exact call_enum1 (begins_list a its.toArray) p fun h' he ho hsz hk => fin h' he ⟨_, ho, rfl, rfl⟩ hk
/-! the reading -/
def enumD : Nat → List PyData → List PyData
  | _, [] => []
  | k, d :: r => .tuple [.int (k : Nat), d] :: enumD (k + 1) r
theorem enumD_length : ∀ (k : Nat) (ds : List PyData), (enumD k ds).length = ds.length
  | _, [] => rfl
  | k, d :: r => by rw [enumD, List.length_cons, enumD_length, List.length_cons]
theorem enumD_get : ∀ (k : Nat) (ds : List PyData) (i : Nat) (d : PyData), ds[i]? = some d → (enumD k ds)[i]? = some (.tuple [.int ((k + i : Nat) : Int), d])
  | _, [], _, _, h => by simp at h
  | k, c :: r, 0, d, h => by
    have e : c = d := by simpa using h
    subst e
    rfl
  | k, c :: r, i + 1, d, h => by
    rw [enumD, List.getElem?_cons_succ, enumD_get (k + 1) r i d (by simpa using h)]
    have e : k + 1 + i = k + (i + 1) := by omega
    rw [e]
def fEnum (fa : FA) : FI := fun ev S => (fa ev S).bind fun ws S1 => match ws with
  | [.d (.list ds)] => .ok (enumD 0 ds) S1
  | [.d (.tuple ds)] => .ok (enumD 0 ds) S1
  | _ => .no
theorem wk_E {H : Hp} {M : Ms} {a : Addr} {ds : List PyData} {vs : List V} {K : PySem.W.Frag} (b : Bool) (hq : ∀ M1 H1, Stp M H M1 H1 → SqP b K H1 a vs) (r : DrL K H M ds vs) : WkD K (ItE vs fun H => SqP b K H a vs) (enumD 0 ds) M H := by
  refine ⟨fun H => SqP b K H a vs, _, by rw [enumD_length, ← r.len]; exact walk_E, fun M1 H1 s => hq M1 H1 s, ?_⟩
  rintro wo i x M1 H1 H2 S1 s l hi ⟨T, y, o, rfl, nT, od, rfl, hx⟩
  rw [enumD_length] at hi
  have hd : ∃ d, ds[i]? = some d := ⟨ds[i], by simp [hi]⟩
  obtain ⟨d, ed⟩ := hd
  obtain ⟨z, e2, h⟩ := (DrL.stp s ds vs r).get ed
  rw [hx] at e2
  cases e2
  have e3 := enumD_get 0 ds i d ed
  refine ⟨_, e3, fun c u e => by rw [upd_ne (ne_of_none e nT)]; exact e, l.new nT, ?_⟩
  have s2 : Stp M1 H1 M1 (upd H1 T (.frz o (.tup [.int (i : Nat), y]))) := stp_new nT
  unfold Dr
  refine ⟨T, _, rfl, .inl ⟨l.notin nT, o, od, upd_same⟩, ?_⟩
  unfold DrL
  refine ⟨_, _, rfl, ?_, ?_⟩
  · unfold Dr
    rw [Nat.zero_add]
  · unfold DrL
    refine ⟨_, _, rfl, Dr.stp s2 _ _ h, ?_⟩
    unfold DrL
    rfl
section
variable {X : Cx} {XR : XRel X.K} {Wx : WX} {n : Nat}
theorem fi_enum {e : Expr} {fa : FA} {p pos tpos : Pos} {elts : List Expr} {kk : Nat} (hg : Gl X "enumerate") (hm : X.mg "enumerate" = none) (ha : FAx X XR Wx [e] fa) (hs : starEach [e] X.env = [(false, eval e X.env)] := by rfl) :
    FIx X XR Wx (.Tuple elts kk tpos) (.Call (.Name "enumerate" p) [e] [] pos) (fEnum fa) := by
  refine PI.imp (pi_enumE hg hm ha hs) ?_
  rintro σ H R ⟨M, S, ev, l, rs, h⟩
  refine ⟨M, S, ev, l, rs, Pst.cut h ?_⟩
  intro ws S1 M1 H1 vs _ s1 l1 r1 h1
  split at h1
  · rename_i ds _
    cases r1 with
    | cons r r2 =>
      cases r2
      have r2 : Dr X.K H1 M1 (.list ds) _ := r
      unfold Dr at r2
      obtain ⟨a, vs, e1, q, hd⟩ := r2
      exact ⟨false, a, vs, by rw [e1], SqL.of q.2, h1.ok (v := ItE vs fun H => SqP false X.K H a vs) l1 (wk_E false (fun M2 H2 s => SqL.of (q.stp s).2) hd)⟩
  · rename_i ds _
    cases r1 with
    | cons r r2 =>
      cases r2
      have r2 : Dr X.K H1 M1 (.tuple ds) _ := r
      unfold Dr at r2
      obtain ⟨a, vs, e1, q, hd⟩ := r2
      exact ⟨true, a, vs, by rw [e1], q.sq, h1.ok (v := ItE vs fun H => SqP true X.K H a vs) l1 (wk_E true (fun M2 H2 s => (q.stp s).sq) hd)⟩
  · exact h1.elim
end
end FL

set_option Elab.async false
set_option linter.all false
set_option maxRecDepth 100000
set_option maxHeartbeats 2000000
/-! ### d[k] = v; list(range(..)); list(d), list(d.values()) -/
namespace FL
open PySem PySem.Spec PyProof.Rows
open L2

def fSetKey (fe fo fi : FE) : FS := fun ev S => (fe ev S).toOut ev fun w S1 => (fo ev S1).toOut ev fun w2 S2 => (fi ev S2).toOut ev fun w3 S3 => match w2, w, asKey w3 with
  | .r n, .d d, some k => match S3[n]? with
    | some (.k kvs) => if kvs.length < sizeLine then .nx ev (S3.set n (.k (putP kvs k d))) else .no
    | _ => .no
  | _, _, _ => .no
def fLstRg1 (fa : FE) : FE := fun ev S => (fa ev S).bind fun w S1 => match asI w with
  | some j => if -(2 ^ 62) ≤ j ∧ j ≤ 2 ^ 24 then .ok (.d (.list (rgD 0 j.toNat))) S1 else .no
  | none => .no
section
variable {X : Cx} {XR : XRel X.K} {Wx : WX} {n : Nat} {e o i a : Expr} {fe fo fi fa : FE} {p p2 p3 pos : Pos}
theorem fs_setKey (C : Ct X Wx n) (he : FEx X XR Wx e fe) (ho : FEx X XR Wx o fo) (hi : FEx X XR Wx i fi) (hs : swapsWith e (some (.Subscript o i p2)) pos.line X.env = pure false := by rfl) :
    FSx X XR Wx (.Assign [.Subscript o i p2] e pos) (fSetKey fe fo fi) := by
  refine PS.imp (ps_dput (by have := C.un; omega) ho hi he hs) ?_
  rintro D σ H ⟨M, S, ev, l, rs, h⟩
  refine toOut_ok l rs h ?_
  intro w S1 M1 H1 v s1 l1 rs1 r1 h1
  refine toOut_ok l1 rs1 h1 ?_
  intro w2 S2 M2 H2 v2 s2 l2 rs2 r2 h2
  refine toOut_ok l2 rs2 h2 ?_
  intro w3 S3 M3 H3 v3 s3 l3 rs3 r3 h3
  split at h3
  · rename_i j d k e1
    split at h3
    · rename_i kvs e2
      split at h3
      · rename_i c
        obtain ⟨b, e4, e5⟩ := r2.stp s3
        obtain ⟨u, g1, us, rfl, g2⟩ := l3.get e4 e2
        have dy := (r1.stp s2).stp s3
        have ln : kvs.length = us.length := Paired.length g2
        have s4 : Stp M3 H3 M3 (upd H3 b (.dK (putK us k v))) := stp_set (List.mem_iff_getElem?.mpr ⟨j, e4⟩) (by intro od u z; rw [g1] at z; cases z)
        refine ⟨b, _, e5, .inl ⟨us, k, g1, asKey_ok r3 e1, by omega, rfl⟩, ?_⟩
        exact h3 M3 _ σ s4 (l3.set e4 ⟨_, rfl, putP_ok (X := X) (KD.stp s4 g2) (Dr.stp s4 _ _ dy)⟩) (rs3.stp s4)
      · exact h3.elim
    · exact h3.elim
  · exact h3.elim
theorem fe_lstRg1 (C : Ct X Wx n) (hm : X.mg "list" = none) (hg : Gl X "list") (hm2 : X.mg "range" = none) (hg2 : Gl X "range") (ha : FEx X XR Wx a fa) (na : starEach [a] X.env = (false, eval a X.env) :: starEach [] X.env := by rfl)
    (nb : starEach [.Call (.Name "range" p2) [a] [] p] X.env = (false, eval (.Call (.Name "range" p2) [a] [] p) X.env) :: starEach [] X.env := by rfl) :
    FEx X XR Wx (.Call (.Name "list" p3) [.Call (.Name "range" p2) [a] [] p] [] pos) (fLstRg1 fa) := by
  refine PE.imp (pe_listRg C.cal hg hm (prg_1 hg2 hm2 ha na) nb) ?_
  rintro σ H Q ⟨M, S, ev, l, rs, h⟩
  refine ⟨M, S, ev, l, rs, Pst.cut h ?_⟩
  intro w S1 M1 H1 v _ s1 l1 r1 h1
  split at h1
  · rename_i j e
    split at h1
    · rename_i c
      refine ⟨j, asI_ok r1 e, ⟨by omega, by omega, c.1, by omega, by omega⟩, fun q nq => ?_⟩
      have e2 : rgV 0 j = (List.range j.toNat).map fun (i : Nat) => V.int (0 + (i : Int)) := by
        unfold rgV
        rw [Int.sub_zero]
      rw [e2]
      refine new_l l1 h1 nq ?_
      unfold rgD
      generalize List.range j.toNat = ks
      clear h1
      induction ks with
      | nil => show DrL X.K H1 M1 [] []; unfold DrL; rfl
      | cons k ks ih =>
        rw [List.map_cons, List.map_cons]
        unfold DrL
        exact ⟨_, _, rfl, by unfold Dr; rfl, ih⟩
    · exact h1.elim
  · exact h1.elim
end
end FL

set_option Elab.async false
set_option linter.all false
set_option maxRecDepth 100000
set_option maxHeartbeats 2000000
/-! ### {e for x in xs if c}: a set of whole numbers and texts, by its members and their number -/
namespace FL
open PySem PySem.Spec PyProof.Rows
open L2
abbrev KS : Type := Key → Bool
def ksPut (S : KS) (k : Key) : KS := fun j => S j || decide (j = k)
def ksNum (S : KS) (n : Nat) (k : Key) : Nat := if S k = true then n else n + 1
theorem sk_fresh {P : Program} {w : World} (h : Heap) : (h.push { cls := .type "set", dict := none, data := .set #[] 0 (.fresh 0 0 (!w.params.followText "set-order")) }).SetOf (mixKind P w) h.objs.size (fun _ => false) 0 :=
  ⟨_, #[], 0, _, Heap.get?_push_size _ rfl, ⟨rfl, rfl, rfl⟩, rfl, (fun _ q => by simp at q), (fun j => by simp), (by decide), (by rfl), rfl⟩
/-- what the turns of the comprehension must keep -/
def skTurn (P : Program) (w : World) (J : It) (g : TG) (tt : TT) (te : TE) (τ : L2.St) (vs : List Nat) (D : Addr) (V : Nat → Nat → Hp → Prop) (Q : VK) : Prop := ∀ i m G, V i m G →
  (J.stop i G ∧ Q (.ref D) G) ∨ (J.go i G ∧ ∃ Z : Hp → Prop, (∀ G', Z G' → ∃ m', m' < m ∧ V (i + 1) m' G') ∧ ∀ x G', J.yld i G x G' → g x τ G' fun ρ G2 => wipe ρ vs = τ ∧ tt ρ G2 fun b G3 =>
    if b = true then te ρ G3 fun y G4 => ∃ (k : Key) (S : KS) (n : Nat), y = kV k ∧ G4 D = some (SetK P w D S n) ∧ n + 1 < scanBound ∧ Z (upd G4 D (SetK P w D (ksPut S k) (ksNum S n k))) else Z G3)
def tSk (P : Program) (w : World) (wi : TI) (g : TG) (tt : TT) (te : TE) (vs : List Nat) : TE := fun σ H Q => wi σ H fun J H1 => ∀ D, H1 D = none → ∃ V : Nat → Nat → Hp → Prop, (∃ m, V 0 m (upd H1 D (SetK P w D (fun _ => false) 0))) ∧ skTurn P w J g tt te (wipe σ vs) vs D V Q
section
variable {X : Cx} {elt tg iter : Expr} {ifs : List Expr} {scope : Scope} {own : List (Str × Nat)} {pos : Pos} {wi : TI} {g : TG} {tt : TT} {te : TE}
theorem sk_add {pins : List (Addr × Obj)} {σ : L2.St} {H : Hp} {s : Shared} {D : Addr} {S : KS} {n : Nat} {k : Key} {u : Value} {E : Value → Shared → Prop} {Q : Value → Shared → Prop} (hx : ∀ v s', Inv X pins σ (upd H D (SetK X.prog X.w D (ksPut S k) (ksNum S n k))) s' → Q v s')
    (I : Inv X pins σ H s) (r : L2.RelV (kV k) u) (hD : H D = some (SetK X.prog X.w D S n)) (room : n + 1 < scanBound) : wpAny (model X.prog X.w) X.A (call (.builtin "set.add") [.ref D, u]) Q E s := by
  refine call_set_add (kV_is r) (key_scan r) (setK_get I hD) room fun h6 sb new => hx _ _ ?_
  have ex : ∃ o, h6.get? D = some o := let ⟨o, _, _, _, z, _⟩ := new; ⟨o, z⟩
  exact I.write (t' := s.toks + 1) (by rw [hD]; exact True.intro) (.inl rfl) (fun b o c z => (sb.2 b c).trans z) ex (setK_new new)
theorem pe_sk (hc : X.calm = true) (hN : X.N.Nodup) (hi : PI X tg iter wi) (ok : BlkOk X.N X.env.scope scope own)
    (hg : ∀ (s : Shared) (H : Hp) (D : Addr) (cl : List (Str × Addr)) (fp : List Addr), PG (Blk X scope s H D cl fp) tg g) (ht : ∀ (s : Shared) (H : Hp) (D : Addr) (cl : List (Str × Addr)) (fp : List Addr), PTs (Blk X scope s H D cl fp) ifs tt)
    (he : ∀ (s : Shared) (H : Hp) (D : Addr) (cl : List (Str × Addr)) (fp : List Addr), PE (Blk X scope s H D cl fp) elt te) (hs : ∀ x, foldedSetIterable iter X.env x = pure x := by intro _; rfl) :
    PE X (.SetComp elt [⟨tg, iter, ifs, 0⟩] scope pos) (tSk X.prog X.w wi g tt te (own.map (·.2))) := by
  refine ⟨fun pins s σ H Q I h => ?_⟩
  rw [PpSet.eval_SetComp]
  have fr : ∀ y ∈ scope.names, y.2 = .free → ∃ c, X.env.cells.lookup y.1 = some c := fun y hy e => (ok.free y hy e).elim (fun k => I.ok.has _ (.inl k)) fun k => I.ok.has _ (.inr k)
  refine wpAny_comprehension_free (use := none) rfl hs (closure_ok fr) ok.kind (fun y hy e => by rw [ok.uniq y hy, e]) (thn (hi.run pins s σ H _ I h) fun xv s1 hx => thn hx fun itv s2 ⟨it, fp, tn, J, H2, e, I2, T, st2, f2, q⟩ => ?_)
  subst e
  refine PpSet.newSet_ok (newEnv_comp ?_)
  obtain ⟨V, ⟨m0, v0⟩, turn⟩ := q s2.heap.objs.size (I2.hok.fresh (Nat.le_refl _))
  generalize hs3 : ({ s2 with heap := s2.heap.push { cls := .type "set", dict := none, data := .set #[] 0 (.fresh 0 0 (!X.w.params.followText "set-order")) } } : Shared) = s3
  have h3 : s3.heap = s2.heap.push { cls := .type "set", dict := none, data := .set #[] 0 (.fresh 0 0 (!X.w.params.followText "set-order")) } := by rw [← hs3]
  have I3 : Inv X pins σ (upd H2 s2.heap.objs.size (SetK X.prog X.w s2.heap.objs.size (fun _ => false) 0)) s3 := by
    rw [← hs3]
    exact I2.laid (t' := s2.toks) (fun b u z => Heap.get?_push_of_some _ z) (Nat.le_refl _) (setK_new (sk_fresh s2.heap))
  have z2 : ∀ b ∈ fp, b < s2.heap.objs.size := fun b hb => let ⟨u, z, _⟩ := T.obj _ _ st2 b hb; Heap.lt_size z
  have st3 : tn 0 s3.heap := T.keep _ _ _ st2 fun b _ u z => by rw [h3]; exact Heap.get?_push_of_some _ z
  have f3 : ∀ b ∈ fp, FpOk X pins (upd H2 s2.heap.objs.size (SetK X.prog X.w s2.heap.objs.size (fun _ => false) 0)) b ∧ b < s3.heap.objs.size := fun b hb =>
    ⟨⟨by rw [upd_ne (Nat.ne_of_lt (z2 b hb))]; exact (f2 b hb).1, (f2 b hb).2⟩, by rw [h3, Heap.size_push]; exact Nat.lt_succ_of_lt (z2 b hb)⟩
  clear z2 f2 st2 h3 hs3 I2 q
  generalize s2.heap.objs.size = D at *
  generalize upd H2 D (SetK X.prog X.w D (fun _ => false) 0) = H3 at *
  have Ib := block_start I3 ok hN f3
  have gg : PG (X.blk s3 H3 scope (compEnvC scope (cellsFrom (s3.heap.objs.size + 1) scope.names (cloFrom X.env.cells scope.names [])) s3.heap.objs.size X.env) fp) tg g := hg s3 H3 s3.heap.objs.size (cellsFrom (s3.heap.objs.size + 1) scope.names (cloFrom X.env.cells scope.names [])) fp
  have gt : PTs (X.blk s3 H3 scope (compEnvC scope (cellsFrom (s3.heap.objs.size + 1) scope.names (cloFrom X.env.cells scope.names [])) s3.heap.objs.size X.env) fp) ifs tt := ht s3 H3 s3.heap.objs.size (cellsFrom (s3.heap.objs.size + 1) scope.names (cloFrom X.env.cells scope.names [])) fp
  have ge : PE (X.blk s3 H3 scope (compEnvC scope (cellsFrom (s3.heap.objs.size + 1) scope.names (cloFrom X.env.cells scope.names [])) s3.heap.objs.size X.env) fp) elt te := he s3 H3 s3.heap.objs.size (cellsFrom (s3.heap.objs.size + 1) scope.names (cloFrom X.env.cells scope.names [])) fp
  show codeAny _ _ (.compStart (.SetComp elt [⟨tg, iter, ifs, 0⟩] scope pos) 0 (.ref it) (.ref D) (compEnvC scope (cellsFrom (s3.heap.objs.size + 1) scope.names (cloFrom X.env.cells scope.names [])) s3.heap.objs.size X.env)) _ { s3 with heap := pushCells (s3.heap.push { cls := .type "dict", data := .dict #[] }) scope.names }
  have cl : (compEnvC scope (cellsFrom (s3.heap.objs.size + 1) scope.names (cloFrom X.env.cells scope.names [])) s3.heap.objs.size X.env).locals = s3.heap.objs.size := rfl
  generalize compEnvC scope (cellsFrom (s3.heap.objs.size + 1) scope.names (cloFrom X.env.cells scope.names [])) s3.heap.objs.size X.env = ce at *
  generalize h4 : ({ s3 with heap := pushCells (s3.heap.push { cls := .type "dict", data := .dict #[] }) scope.names } : Shared) = s4 at *
  have st4 : tn 0 s4.heap := T.keep _ _ _ st3 fun b _ u z => by rw [← h4]; exact pushCells_keeps _ _ _ _ (Heap.get?_push_of_some _ z)
  have own_ : ∀ {τ : L2.St} {G : Hp} {s' : Shared}, Inv (X.blk s3 H3 scope ce fp) [] τ G s' → (∀ b ∈ fp, G b = none) → ∀ b ∈ fp, FpOk (X.blk s3 H3 scope ce fp) [] G b := fun I' z b hb =>
    ⟨z b hb, (I'.ok.exf b hb).1, I'.ok.exfs b hb, .inl hb, fun x c y => (I'.ok.exf b hb).2 x c y, fun p hp => by cases hp⟩
  suffices lp : codeAny (model X.prog X.w) X.A (.compLoop (.SetComp elt [⟨tg, iter, ifs, 0⟩] scope pos) 0 (.ref it) (.ref D) ce) (compPost (model X.prog X.w) X.A X.xe none (EP X pins σ Q) (.ref D) s3.heap.objs.size) s4 from
    PpSet.codeAny_compStart_set lp (T.self X.A 0 _ _ _ st4 lp)
  refine PpSet.compLoopS_any (fun m s' => ∃ i G, Inv (X.blk s3 H3 scope ce fp) [] (wipe σ (own.map (·.2))) G s' ∧ tn i s'.heap ∧ (∀ b ∈ fp, G b = none) ∧ V i m G) ?_ m0 ⟨0, H3, Ib, st4, fun b hb => (f3 b hb).1.1, v0⟩
  rintro m s5 ⟨i, G, I5, st5, n5, v5⟩
  rcases turn i m G v5 with ⟨stp, fin⟩ | ⟨go, Z, less, step⟩
  · refine thnF (T.done (X.blk s3 H3 scope ce fp) rfl rfl rfl hc i [] s5 _ G (fun _ _ => False) I5 (own_ I5 n5) st5 stp) fun r s6 ⟨hr, I6⟩ => ?_
    subst hr
    have nC : G s3.heap.objs.size = none := by
      rw [← cl]
      exact I6.free
    obtain ⟨mp, ns, _⟩ := I6.loc
    have I7 : Inv X pins σ G s6 := I3.call' (ch := fp) I6.os I6.base I6.hok I6.bare fun b hb => let ⟨_, a1, _, a2, a3, a4⟩ := (f3 b hb).1; ⟨a2, a1, a3, a4⟩
    obtain ⟨b0, b1, b2, b3, b4, b5⟩ := I3.fpOk (Nat.le_refl _) nC
    refine ⟨mp, by rw [← cl]; exact ns, fun h6 sb => ?_⟩
    exact ⟨.ref D, G, I7.turned (t' := s6.toks) (fun b u z y => (sb.2 b z).trans y) b0 b1 b3 b4 b5, rfl, fin⟩
  · refine thnF (T.item (X.blk s3 H3 scope ce fp) rfl rfl rfl hc i [] s5 _ G (fun _ _ => False) I5 (own_ I5 n5) st5 go) fun r s6 ⟨u, hr, h6⟩ => ?_
    subst hr
    refine thnF h6 fun _ s7 ⟨x, G7, I7, r7, y7, st7, n7⟩ => ?_
    have back : ∀ {ρ : L2.St} {s' : Shared} {G' : Hp}, wipe ρ (own.map (·.2)) = wipe σ (own.map (·.2)) → Inv (X.blk s3 H3 scope ce fp) ([] ++ pinsAt fp s7.heap) ρ G' s' → Z G' → ∃ m', m' < m ∧ ∃ i G, Inv (X.blk s3 H3 scope ce fp) [] (wipe σ (own.map (·.2))) G s' ∧ tn i s'.heap ∧ (∀ b ∈ fp, G b = none) ∧ V i m' G := fun {ρ s' G'} hw I' z => by
      obtain ⟨m', lt, v'⟩ := less G' z
      have pin : ∀ b ∈ fp, ∀ o, s7.heap.get? b = some o → s'.heap.get? b = some o ∧ G' b = none := fun b hb o e =>
        let y := I'.pin (b, o) (List.mem_append_right _ (List.mem_append_right _ (mem_pinsAt hb e)))
        ⟨y.1, y.2.1⟩
      refine ⟨m', lt, i + 1, G', (I'.unpinned (pins := [])).weak (by rw [← hw, wipe_length]) (fun j v e => ?_), T.keep _ _ _ st7 fun b hb o e => (pin b hb o e).1, fun b hb => ?_, v'⟩
      · rw [← hw] at e
        exact (wipe_some e).1
      · obtain ⟨o, e, _⟩ := T.obj _ _ st7 b hb
        exact (pin b hb o e).2
    refine thnF (gg.run _ s7 _ G7 x u _ (I7.pinned (own_ I7 n7) (T.obj _ _ st7)) r7 (step x G7 y7)) fun _ s8 ⟨ρ, G8, I8, hw, q8⟩ => ?_
    refine thnF (gt.run _ s8 ρ G8 _ I8 q8) fun b s9 ⟨G9, I9, q9⟩ => ?_
    cases b with
    | false =>
      rw [if_neg Bool.false_ne_true] at q9
      simp only [Bool.false_eq_true, if_false]
      exact back hw I9 q9
    | true =>
      rw [if_pos rfl] at q9
      simp only [if_true]
      refine thnF (ge.run _ s9 ρ G9 _ I9 q9) fun z s10 ⟨yv, G10, I10, r10, k, S0, n0, ey, hD, room, zz⟩ => ?_
      subst ey
      exact sk_add (X := X.blk s3 H3 scope ce fp) (fun v s11 I11 => back hw I11 zz) I10 r10 hD room
end
end FL

set_option Elab.async false
set_option linter.all false
set_option maxRecDepth 100000
set_option maxHeartbeats 2000000
/-! ### len({e for x in xs if c}) -/
namespace FL
open PySem PySem.Spec PyProof.Rows
open L2
def keyPut (acc : List Key) (k : Key) : List Key := if (acc.any fun j => decide (j = k)) = true then acc else acc ++ [k]
def scL (g : FG) (t : FT) (te : FE) (ev0 : Ev) : List PyData → So → List Key → Res (List Key)
  | [], S, acc => .ok acc S
  | d :: ds, S, acc => match g (.d d) ev0 with
    | none => .no
    | some e1 => match t e1 S with
      | .ok true S1 => match te e1 S1 with
        | .ok kw S2 => match asKey kw with
          | some k => if S2.length = S.length then scL g t te ev0 ds S2 (keyPut acc k) else .no
          | none => .no
        | _ => .no
      | .ok false S1 => if S1.length = S.length then scL g t te ev0 ds S1 acc else .no
      | _ => .no
def fLenSc (fi : FI) (g : FG) (t : FT) (te : FE) (vs : List Nat) : FE := fun ev S => (fi ev S).bind fun ds S1 => if ds.length ≤ 1000 then (scL g t te (wipeE ev vs) ds S1 []).bind fun acc S2 => .ok (.d (.int acc.length)) S2 else .no
/-- the set at D has the members acc -/
def SkHas (P : Program) (w : World) (H : Hp) (D : Addr) (acc : List Key) : Prop := ∃ S, H D = some (SetK P w D S acc.length) ∧ ∀ j, S j = acc.any fun i => decide (i = j)
theorem ks_put {S : KS} {acc : List Key} (h : ∀ j, S j = acc.any fun i => decide (i = j)) (k : Key) : ksNum S acc.length k = (keyPut acc k).length ∧ ∀ j, ksPut S k j = (keyPut acc k).any fun i => decide (i = j) := by
  unfold ksNum ksPut keyPut
  rw [h k]
  by_cases c : (acc.any fun i => decide (i = k)) = true
  · rw [if_pos c, if_pos c]
    refine ⟨rfl, fun j => ?_⟩
    rw [h j]
    by_cases e : j = k
    · subst e
      rw [c]
      rfl
    · rw [decide_eq_false e, Bool.or_false]
  · rw [if_neg c, if_neg c]
    refine ⟨by rw [List.length_append]; rfl, fun j => ?_⟩
    rw [h j, List.any_append]
    congr 1
    rw [List.any_cons, List.any_nil, Bool.or_false]
    by_cases e : j = k
    · rw [decide_eq_true e, decide_eq_true e.symm]
    · rw [decide_eq_false e, decide_eq_false (fun z => e z.symm)]
section
variable {X : Cx} {XR : XRel X.K} {Wx : WX} {n : Nat} {tg iter : Expr}
theorem sk_ok {sl : List Nat} {fi : FI} {g : FG} {t : FT} {tt : TT} {te : FE} {vs : List Nat} (hsl : ∀ i, i ∈ sl → i ∈ vs) (htt : ∀ σ H Q, rT XR Wn t σ H Q → tt σ H Q) {σ : L2.St} {H : Hp} {Q : VK} (h : rE XR Wx (fLenSc fi g t te vs) σ H Q) :
    tSk X.prog X.w (rI XR Wx fi) (rG (X := X) XR sl g) tt (rE XR Wn te) vs σ H (fun x H' => ∃ D acc, x = .ref D ∧ SkHas X.prog X.w H' D acc ∧ acc.length < scanBound ∧ Q (.int acc.length) H') := by
  obtain ⟨M, S, ev, l, rs, h⟩ := h
  unfold fLenSc at h
  refine ⟨M, S, ev, l, rs, Pst.cut h ?_⟩
  intro ds S1 M1 H1 J _ s1 l1 wk h1 D nD
  split at h1
  · rename_i few
    obtain ⟨G, Y, w, hG, hY⟩ := wk
    have rs1 := rs.stp s1
    have sD : Stp M1 H1 (M1.res D) (upd H1 D (SetK X.prog X.w D (fun _ => false) 0)) := stp_res nD
    have lD : Rl XR.wo X.K (upd H1 D (SetK X.prog X.w D (fun _ => false) 0)) (M1.res D) S1 := l1.res nD
    refine ⟨fun i m H' => m = ds.length - i ∧ i ≤ ds.length ∧ ∃ Mi Si acc, Stp M1 H1 Mi H' ∧ D ∈ Mi.x ∧ Rl XR.wo X.K H' Mi Si ∧ Si.length = S1.length ∧ SkHas X.prog X.w H' D acc ∧ acc.length ≤ i ∧
        Pst XR Wx σ M1 H1 (RW XR) ((scL g t te (wipeE ev vs) (ds.drop i) Si acc).bind fun acc S2 => .ok (.d (.int acc.length)) S2) Q,
      ⟨ds.length, by rw [Nat.sub_zero], Nat.zero_le _, M1.res D, S1, [], sD, List.mem_cons_self, lD, rfl, ⟨_, upd_same, fun _ => rfl⟩, Nat.zero_le _, h1⟩, ?_⟩
    rintro i m H' ⟨rfl, hle, Mi, Si, acc, s, Dx, li, ln, ⟨S0, hD, hS⟩, hacc, hp⟩
    by_cases hi : i < ds.length
    · refine .inr ⟨w.goes i H' hi (hG Mi H' s), fun H4 => ∃ M4 S4 acc4, Stp M1 H1 M4 H4 ∧ D ∈ M4.x ∧ Rl XR.wo X.K H4 M4 S4 ∧ S4.length = S1.length ∧ SkHas X.prog X.w H4 D acc4 ∧ acc4.length ≤ i + 1 ∧
          Pst XR Wx σ M1 H1 (RW XR) ((scL g t te (wipeE ev vs) (ds.drop (i + 1)) S4 acc4).bind fun acc S2 => .ok (.d (.int acc.length)) S2) Q, fun H4 z => ⟨ds.length - (i + 1), by omega, rfl, hi, z⟩, fun x H2 y => ?_⟩
      obtain ⟨d, ed, sm, l2, dr⟩ := hY i x Mi H' H2 Si s li hi (w.yields i H' x H2 hi (hG Mi H' s) y)
      have s2 : Stp Mi H' Mi H2 := stp_same sm
      have hD2 := sm D _ hD
      have e3 : ds.drop i = d :: ds.drop (i + 1) := by
        obtain ⟨hlt, e4⟩ := List.getElem?_eq_some_iff.mp ed
        rw [List.drop_eq_getElem_cons hlt, e4]
      rw [e3] at hp
      unfold scL at hp
      have Dm : D ∉ Mi.m := (li.ex D Dx).1
      have rsi : Rs XR H2 Mi (wipeE ev vs) (wipe σ vs) := wipe_rs ((rs1.stp s).stp s2) vs
      cases e5 : g (.d d) (wipeE ev vs) with
      | none => rw [e5] at hp; exact hp.elim
      | some e1 =>
        rw [e5] at hp
        dsimp only at hp
        refine ⟨Mi, Si, wipeE ev vs, .d d, l2, rsi, dr, e1, e5, fun σ1 rs1' w1 => ⟨by rw [w1 vs hsl]; exact wipe_wipe fun i h => h, htt _ _ _ ⟨Mi, Si, e1, l2, rs1', ?_⟩⟩⟩
        cases e6 : t e1 Si with
        | no => rw [e6] at hp; exact hp.elim
        | ex c f S' => rw [e6] at hp; exact hp.elim
        | ok b S3 =>
          rw [e6] at hp
          rintro M3 H3 b' s3 l3 r3
          have r3' : b = b' := r3
          subst r3'
          have hD3 := s3.keep D _ Dm hD2
          cases b with
          | false =>
            rw [if_neg Bool.false_ne_true]
            dsimp only at hp
            split at hp
            · rename_i c
              exact ⟨M3, S3, acc, (s.trans s2).trans s3, s3.sub D Dx, l3, by rw [c, ln], ⟨S0, hD3, hS⟩, by omega, hp⟩
            · exact hp.elim
          | true =>
            rw [if_pos rfl]
            dsimp only at hp
            refine ⟨M3, S3, e1, l3, rs1'.stp s3, ?_⟩
            cases e7 : te e1 S3 with
            | no => rw [e7] at hp; exact hp.elim
            | ex c f S' => rw [e7] at hp; exact hp.elim
            | ok kw S4 =>
              rw [e7] at hp
              dsimp only at hp
              cases e8 : asKey kw with
              | none => rw [e8] at hp; exact hp.elim
              | some k =>
                rw [e8] at hp
                dsimp only at hp
                split at hp
                · rename_i c
                  intro M4 H4 vk s4 l4 r4
                  have ek := asKey_ok r4 e8
                  have Dx3 : D ∈ M3.x := s3.sub D Dx
                  have hD4 := s4.keep D _ (l3.ex D Dx3).1 hD3
                  have Dx4 : D ∈ M4.x := s4.sub D Dx3
                  have Dm4 : D ∉ M4.m := (l4.ex D Dx4).1
                  obtain ⟨p1, p2⟩ := ks_put hS k
                  refine ⟨k, S0, acc.length, ek, hD4, by unfold scanBound; omega, M4, S4, keyPut acc k, ?_, Dx4, ?_, by rw [c, ln], ⟨ksPut S0 k, by rw [upd_same, p1], p2⟩, ?_, hp⟩
                  · have s6 := ((s.trans s2).trans s3).trans s4
                    refine ⟨s6.pre, s6.sub, fun a o n e => ?_, s6.new, s6.newx, fun a od u e => by rw [upd_ne (ne_of_none e nD)]; exact s6.kz a od u e⟩
                    rw [upd_ne (ne_of_none e nD)]
                    exact s6.keep a o n e
                  · have up : ∀ a o, a ∉ M4 → H4 a = some o → upd H4 D (SetK X.prog X.w D (ksPut S0 k) (ksNum S0 acc.length k)) a = some o := fun a o n e => by
                      rw [upd_ne]
                      · exact e
                      · intro z
                        subst z
                        exact n (Or.inr Dx4)
                    refine ⟨l4.nd, Paired.mapI l4.ob fun j a o e ⟨u, h1, h2⟩ => ⟨u, ?_, RO.upd up h2⟩, fun a m => ⟨(l4.ex a m).1, upd_some (l4.ex a m).2⟩⟩
                    rw [upd_ne]
                    · exact h1
                    · intro z
                      subst z
                      exact Dm4 (List.mem_iff_getElem?.mpr ⟨j, e⟩)
                  · unfold keyPut
                    split
                    · omega
                    · rw [List.length_append]
                      show acc.length + 1 ≤ _
                      omega
                · exact hp.elim
    · have ei : i = ds.length := by omega
      subst ei
      refine .inl ⟨w.stops H' (hG Mi H' s), D, acc, rfl, ⟨S0, hD, hS⟩, by unfold scanBound; omega, ?_⟩
      rw [List.drop_length] at hp
      dsimp only [scL, Res.bind] at hp
      have eH : upd H' D (SetK X.prog X.w D S0 acc.length) = H' := by
        funext b
        by_cases c : b = D
        · subst c
          rw [upd_same, hD]
        · rw [upd_ne c]
      obtain ⟨s3, l3, d3, n3⟩ := release (o := SetK X.prog X.w D S0 acc.length) l1 nD s Dx li
      rw [eH] at s3 l3
      exact hp _ _ _ s3 l3 (by show Dr X.K H' (Mi.drop D) (.int acc.length) (.int acc.length); unfold Dr; rfl)
  · exact h1.elim
theorem fe_lenSc {elt : Expr} {ifs : List Expr} {scope : Scope} {own : List (Str × Nat)} {sl : List Nat} {p pos rpos : Pos} {fi : FI} {g : FG} {t : FT} {tt : TT} {te : FE} (C : Ct X Wx n) (m1 : X.mg "len" = none) (g1 : Gl X "len") (hN : X.N.Nodup) (hi : FIx X XR Wx tg iter fi) (ok : BlkOk X.N X.env.scope scope own)
    (hg : ∀ (s : Shared) (H : Hp) (D : Addr) (cl : List (Str × Addr)) (fp : List Addr), FGx (Blk X scope s H D cl fp) XR tg sl g) (hsl : ∀ i, i ∈ sl → i ∈ own.map (·.2))
    (ht : ∀ (s : Shared) (H : Hp) (D : Addr) (cl : List (Str × Addr)) (fp : List Addr), PTs (Blk X scope s H D cl fp) ifs tt) (htt : ∀ σ H Q, rT XR Wn t σ H Q → tt σ H Q)
    (he : ∀ (s : Shared) (H : Hp) (D : Addr) (cl : List (Str × Addr)) (fp : List Addr), FEx (Blk X scope s H D cl fp) XR Wn elt te) (hs : ∀ x, foldedSetIterable iter X.env x = pure x := by intro _; rfl)
    (na : starEach [.SetComp elt [⟨tg, iter, ifs, 0⟩] scope rpos] X.env = (false, eval (.SetComp elt [⟨tg, iter, ifs, 0⟩] scope rpos) X.env) :: starEach [] X.env := by rfl) :
    FEx X XR Wx (.Call (.Name "len" p) [.SetComp elt [⟨tg, iter, ifs, 0⟩] scope rpos] [] pos) (fLenSc fi g t te (own.map (·.2))) := by
  refine ⟨fun pins s σ H Q I h => ?_⟩
  refine Call_ (ld_blt I g1 m1 boot_len ?_)
  refine PyProof.Rows.callWith_builtin1 (PyProof.Rows.args_cons (thn ((pe_sk (g := rG (X := X) XR sl g) (te := rE XR Wn te) C.cal hN hi ok hg ht he hs).run pins s σ H _ I (sk_ok hsl htt h)) fun v s1 ⟨x, H1, I1, rx, D, acc, ex, ⟨S0, hD, _⟩, lt, q⟩ => PyProof.Rows.args_nil ?_) na) na rfl
  subst ex
  cases rx
  obtain ⟨o, es, ep, tb, ho, hex, hd, _, _, hz, hf, hn⟩ := setK_get I1 hD
  exact call_len_set ho hex hd hf (by rw [hn]; unfold scanBound at lt; omega) ⟨.int acc.length, H1, I1.tok _, ⟨_, by rw [hn]⟩, q⟩
theorem fe_lenSc0 {elt : Expr} {scope : Scope} {sl : List Nat} {p pos rpos : Pos} {fi : FI} {g : FG} {te : FE} (own : List (Str × Nat)) (C : Ct X Wx n) (m1 : X.mg "len" = none) (g1 : Gl X "len") (hN : X.N.Nodup) (hi : FIx X XR Wx tg iter fi) (ok : BlkOk X.N X.env.scope scope own)
    (hg : ∀ (s : Shared) (H : Hp) (D : Addr) (cl : List (Str × Addr)) (fp : List Addr), FGx (Blk X scope s H D cl fp) XR tg sl g) (hsl : ∀ i, i ∈ sl → i ∈ own.map (·.2))
    (he : ∀ (s : Shared) (H : Hp) (D : Addr) (cl : List (Str × Addr)) (fp : List Addr), FEx (Blk X scope s H D cl fp) XR Wn elt te) (hs : ∀ x, foldedSetIterable iter X.env x = pure x := by intro _; rfl)
    (na : starEach [.SetComp elt [⟨tg, iter, [], 0⟩] scope rpos] X.env = (false, eval (.SetComp elt [⟨tg, iter, [], 0⟩] scope rpos) X.env) :: starEach [] X.env := by rfl) :
    FEx X XR Wx (.Call (.Name "len" p) [.SetComp elt [⟨tg, iter, [], 0⟩] scope rpos] [] pos) (fLenSc fi g fYes te (own.map (·.2))) :=
  fe_lenSc (tt := tYes) C m1 g1 hN hi ok hg hsl (fun _ _ _ _ _ => pts_nil) (fun σ H Q ⟨M, S, ev, l, rs, h⟩ => Pst.ok (v := true) h l rfl) he hs na
theorem fe_lenSc1 {elt c : Expr} {scope : Scope} {sl : List Nat} {p pos rpos : Pos} {fi : FI} {g : FG} {t : FT} {te : FE} (own : List (Str × Nat)) (C : Ct X Wx n) (m1 : X.mg "len" = none) (g1 : Gl X "len") (hN : X.N.Nodup) (hi : FIx X XR Wx tg iter fi) (ok : BlkOk X.N X.env.scope scope own)
    (hg : ∀ (s : Shared) (H : Hp) (D : Addr) (cl : List (Str × Addr)) (fp : List Addr), FGx (Blk X scope s H D cl fp) XR tg sl g) (hsl : ∀ i, i ∈ sl → i ∈ own.map (·.2))
    (ht : ∀ (s : Shared) (H : Hp) (D : Addr) (cl : List (Str × Addr)) (fp : List Addr), FTx (Blk X scope s H D cl fp) XR Wn c t)
    (he : ∀ (s : Shared) (H : Hp) (D : Addr) (cl : List (Str × Addr)) (fp : List Addr), FEx (Blk X scope s H D cl fp) XR Wn elt te) (hs : ∀ x, foldedSetIterable iter X.env x = pure x := by intro _; rfl)
    (na : starEach [.SetComp elt [⟨tg, iter, [c], 0⟩] scope rpos] X.env = (false, eval (.SetComp elt [⟨tg, iter, [c], 0⟩] scope rpos) X.env) :: starEach [] X.env := by rfl) :
    FEx X XR Wx (.Call (.Name "len" p) [.SetComp elt [⟨tg, iter, [c], 0⟩] scope rpos] [] pos) (fLenSc fi g t te (own.map (·.2))) :=
  fe_lenSc (tt := rT XR Wn t) C m1 g1 hN hi ok hg hsl (fun s H D cl fp => pts_one (ht s H D cl fp)) (fun σ H Q h => h) he hs na
end
end FL

set_option Elab.async false
set_option linter.all false
set_option maxRecDepth 100000
set_option maxHeartbeats 2000000
/-! ### xs.index(x), xs.count(x); list(d.values()) -/
namespace FL
open PySem PySem.Spec PyProof.Rows
open L2
def flatP : PyData → Bool
  | .none => true
  | .bool _ => true
  | .int _ => true
  | .str _ => true
  | _ => false
def eqP : PyData → PyData → Bool
  | .none, .none => true
  | .bool a, .bool b => a == b
  | .bool a, .int b => (if a then 1 else 0) == b
  | .int a, .bool b => a == (if b then 1 else 0)
  | .int a, .int b => a == b
  | .str a, .str b => a == b
  | _, _ => false
def idxP (d : PyData) : List PyData → Option Nat
  | [] => none
  | c :: r => if eqP c d then some 0 else (idxP d r).map (· + 1)
def oIndex : W → List W → So → Res W := fun x ws S => match asL x S, ws with
  | some ds, [.d d] => if flatP d = true ∧ ds.all flatP = true then (match idxP d ds with
    | some j => .ok (.d (.int (j : Nat))) S
    | none => .no) else .no
  | _, _ => .no
theorem nx_index : NXM oIndex := by
  intro x xs S c f S' e
  unfold oIndex at e
  split at e
  · split at e
    · split at e <;> cases e
    · cases e
  · cases e
section
variable {K : PySem.W.Frag} {XR : XRel K} {H : Hp} {M : Ms}
theorem flat_V {d : PyData} {v : V} (f : flatP d = true) (h : Dr K H M d v) : flatV v = true ∧ ∀ {e : PyData} {u : V}, flatP e = true → Dr K H M e u → eqV v u = eqP d e := by
  cases d with
  | none =>
    unfold Dr at h
    subst h
    refine ⟨rfl, fun {e u} fe he => ?_⟩
    cases e <;> first | (unfold Dr at he; subst he; rfl) | cases fe
  | bool a =>
    unfold Dr at h
    subst h
    refine ⟨rfl, fun {e u} fe he => ?_⟩
    cases e <;> first | (unfold Dr at he; subst he; rfl) | cases fe
  | int a =>
    unfold Dr at h
    subst h
    refine ⟨rfl, fun {e u} fe he => ?_⟩
    cases e <;> first | (unfold Dr at he; subst he; rfl) | cases fe
  | str a =>
    unfold Dr at h
    subst h
    refine ⟨rfl, fun {e u} fe he => ?_⟩
    cases e <;> first | (unfold Dr at he; subst he; rfl) | cases fe
  | list _ => cases f
  | tuple _ => cases f
  | dict _ => cases f
theorem flat_L : ∀ {ds : List PyData} {vs : List V}, ds.all flatP = true → DrL K H M ds vs → vs.all flatV = true
  | [], vs, _, h => by
    unfold DrL at h
    subst h
    rfl
  | d :: ds, vs, f, h => by
    rw [List.all_cons, Bool.and_eq_true] at f
    unfold DrL at h
    obtain ⟨x, r, rfl, h1, h2⟩ := h
    rw [List.all_cons, (flat_V f.1 h1).1, flat_L f.2 h2]
    rfl
theorem idx_ok {d : PyData} {v : V} (fd : flatP d = true) (hd : Dr K H M d v) : ∀ {ds : List PyData} {vs : List V} {j : Nat}, ds.all flatP = true → DrL K H M ds vs → idxP d ds = some j →
    ∃ z, vs[j]? = some z ∧ eqV z v = true ∧ ∀ (m : Nat) (z' : V), m < j → vs[m]? = some z' → eqV z' v = false
  | [], _, _, _, _, e => by cases e
  | c :: ds, vs, j, f, h, e => by
    rw [List.all_cons, Bool.and_eq_true] at f
    unfold DrL at h
    obtain ⟨x, r, rfl, h1, h2⟩ := h
    have ex := (flat_V f.1 h1).2 fd hd
    unfold idxP at e
    split at e
    · rename_i c1
      cases e
      exact ⟨x, rfl, by rw [ex]; exact c1, fun m z' hm => absurd hm (Nat.not_lt_zero _)⟩
    · rename_i c1
      cases e2 : idxP d ds with
      | none => rw [e2] at e; cases e
      | some i =>
        rw [e2] at e
        cases e
        obtain ⟨z, z1, z2, z3⟩ := idx_ok fd hd f.2 h2 e2
        refine ⟨z, by rw [List.getElem?_cons_succ]; exact z1, z2, fun m z' hm hz => ?_⟩
        cases m with
        | zero =>
          cases hz
          rw [ex]
          exact Bool.eq_false_iff.mpr c1
        | succ m => exact z3 m z' (Nat.lt_of_succ_lt_succ hm) (by rw [List.getElem?_cons_succ] at hz; exact hz)
theorem opm_index : OpM XR oIndex (rIndex K) := by
  intro H M S S' x xs w vx vs Q l rx rxs e q
  unfold oIndex at e
  split at e
  · rename_i ds d e1
    split at e
    · rename_i c
      split at e
      · rename_i j e2
        cases e
        obtain ⟨a, us, h1, h2, h3⟩ := asL_ok l rx e1
        cases rxs with
        | cons r rr =>
          cases rr
          obtain ⟨z, z1, z2, z3⟩ := idx_ok c.1 r c.2 h3 e2
          exact ⟨a, us, _, j, z, h1, rfl, SqL.of h2, (flat_V c.1 r).1, flat_L c.2 h3, z1, z2, z3, imm_i l q⟩
      · cases e
    · cases e
  · cases e
end
def valsR (w : W) (S : So) : Res W := match asD w S with
  | some kvs => .ok (.d (.list (kvs.map fun kv => kv.2))) S
  | none => .no
def fVals (fo : FE) : FE := fun ev S => (fo ev S).bind fun w S1 => valsR w S1
section
variable {X : Cx} {XR : XRel X.K} {Wx : WX} {n : Nat} {o : Expr} {fo : FE} {p apos cpos pos : Pos}
theorem vals_dr {K : PySem.W.Frag} {H : Hp} {M : Ms} : ∀ {kvs : List (Key × PyData)} {vs : List (Key × V)}, Paired (KD (K := K) H M) kvs vs → DrL K H M (kvs.map fun kv => kv.2) (vs.map fun kv => kv.2)
  | _, _, .nil => by show DrL K H M [] []; unfold DrL; rfl
  | _, _, .cons r t => by
    rw [List.map_cons, List.map_cons]
    unfold DrL
    exact ⟨_, _, rfl, r.2, vals_dr t⟩
theorem kv_vals : ∀ {kvs : List (Key × V)} {vs : List (Key × Value)}, KV kvs vs → Vals (kvs.map fun kv => kv.2) (vs.map fun kv => kv.2)
  | _, _, .nil => .nil
  | _, _, .cons r t => .cons r.2 (kv_vals t)
theorem fe_vals (C : Ct X Wx n) (hm : X.mg "list" = none) (hg : Gl X "list") (ho : FEx X XR Wx o fo) (hbase : attributeBase o "values" X.env (eval o X.env) = eval o X.env := by rfl) (hline : (apos.endLine == cpos.line) = true := by rfl)
    (na : starEach [.Call (.Attribute o "values" apos) [] [] cpos] X.env = (false, eval (.Call (.Attribute o "values" apos) [] [] cpos) X.env) :: starEach [] X.env := by rfl) :
    FEx X XR Wx (.Call (.Name "list" p) [.Call (.Attribute o "values" apos) [] [] cpos] [] pos) (fVals fo) := by
  refine ⟨fun pins s σ H Q I h => ?_⟩
  obtain ⟨M, S, ev, l, rs, h⟩ := h
  refine Call_ (ld_blt I hg hm boot_list ?_)
  refine PyProof.Rows.callWith_type1 (PyProof.Rows.args_cons ?_ na) na rfl
  refine wpAny_Call_method (T := "dict") (id := "dict.values") hbase rfl hline F.plainAttrs_dict F.slot_dict_values F.type_dict_values (thn (ho.run pins s σ H (fun x H1 => ∃ d kvs, x = .ref d ∧ Rd H1 d (.dK kvs) ∧ ∀ q, H1 q = none → Q (.ref q) (upd H1 q (.lst (kvs.map fun kv => kv.2)))) I ⟨M, S, ev, l, rs, Pst.cut h ?_⟩) fun u s1 ⟨x, H1, I1, rx, d, kvs, ex, hd, q⟩ => ?_)
  · intro w S1 M1 H1 v _ s1 l1 r1 h1
    unfold valsR at h1
    split at h1
    · rename_i kvs e1
      obtain ⟨a, us, e2, e3, e4⟩ := asD_at l1 r1 e1
      exact ⟨a, us, e2, e3, fun q nq => new_l l1 h1 nq (vals_dr e4)⟩
    · exact h1.elim
  · subst ex
    obtain rfl : u = Value.ref d := rx
    obtain ⟨z, hs, vs, rel, dd⟩ := dk_rd I1.hok hd
    refine ⟨dd.typeIs, dd.mapOf.noDict, ?_⟩
    have ln : kvs.length = vs.length := rel.length
    have I2 : Inv X pins σ H1 { s1 with heap := s1.heap.push { cls := .type "dict_values", data := .fields #[.ref d] } } := I1.kept (t' := s1.toks) fun b ob y => Heap.get?_push_of_some _ y
    show wpAny _ _ (callWith cpos (.builtin "dict.values") [.ref d] [] []) _ X.xe s1
    refine method_meetsIn F.slot_dict_values F.entry_dict_values rfl (PySem.evalArgs_none ⟨rfl, dd.typeIs, F.args_dict_values_1 _, _, meets_dict_values (mixKind X.prog X.w) d hs, ⟨vs, dd⟩, ?_⟩)
    refine PyProof.Rows.args_nil ?_
    obtain ⟨ep, hat⟩ := dd.dictAt
    refine PySem.W.kdl_call (PySem.W.kdl_values (r := s1.heap.objs.size) (d := d) (knd := mixKind X.prog X.w) (kvs := vs) (ep := ep)) (I2.ok.hd C.cal) ⟨⟨_, Heap.get?_push_size _ rfl, rfl, rfl⟩, hat.push _⟩ (by rw [← ln]; exact z) fun h' tk acc' c' hk hS hit => ?_
    have ev : acc'.toList = vs.map (·.2) := PySem.W.kdl_vals_eq acc'.toList (by rw [Array.length_toList]; exact hit.1) fun j v e => hit.2 j v (by rw [← Array.getElem?_toList]; exact e)
    refine ⟨.ref _, upd H1 _ (.lst (kvs.map fun kv => kv.2)), I2.laid (t' := tk) hk (Nat.le_refl _) (show ObjOk X.prog X.w _ _ _ (.lst (kvs.map fun kv => kv.2)) from ⟨by rw [List.length_map]; exact z, acc'.toList, c', by rw [ev]; exact kv_vals rel, by rw [Array.toArray_toList]; exact hS⟩), rfl, q _ (I2.hok.fresh (Nat.le_refl _))⟩
end
end FL

set_option Elab.async false
set_option linter.all false
set_option maxRecDepth 100000
set_option maxHeartbeats 2000000
namespace FL
open PySem PySem.Spec PyProof.Rows
open L2
section
variable {X : Cx} {XR : XRel X.K} {Wx : WX} {n : Nat} {e : Expr} {fr : FA} {p pos : Pos}
/-! ### len(d), list(d), d with tuples for keys -/
theorem opn_lenR (hw : XR.wo = X.w) : OpN XR (o1 lenR) (rLenR X.w X.K) := by
  intro H M S S' xs w vs Q l rx e q
  unfold o1 at e
  split at e
  · cases rx with
    | cons r rr =>
      cases rr
      unfold lenR at e
      split at e
      · rename_i kvs e1
        cases e
        obtain ⟨a, us, h1, h2, h3⟩ := asR_ok l r e1
        subst h1
        rw [hw] at h2
        have ln : kvs.length = us.length := Paired.length h3
        exact ⟨a, us, rfl, h2, te_keys h3, by rw [← ln]; exact imm_i l q⟩
      · cases e
  · cases e
theorem opn_lstR (hw : XR.wo = X.w) : OpN XR (o1 lstR) (rListR X.w X.K) := by
  intro H M S S' xs w vs Q l rx e q
  unfold o1 at e
  split at e
  · cases rx with
    | cons r rr =>
      cases rr
      unfold lstR at e
      split at e
      · rename_i kvs e1
        cases e
        obtain ⟨a, us, h1, h2, h3⟩ := asR_ok l r e1
        subst h1
        rw [hw] at h2
        exact ⟨a, us, rfl, h2, te_keys h3, fun p np => new_l l q np (te_refs h3)⟩
      · cases e
  · cases e
theorem fe_lenR (C : Ct X Wx n) (hm : X.mg "len" = none) (hg : Gl X "len") (ha : FAx X XR Wx [e] fr) (he : starEach [e] X.env = (false, eval e X.env) :: starEach [] X.env := by rfl) (hw : XR.wo = X.w := by rfl) : FEx X XR Wx (.Call (.Name "len" p) [e] [] pos) (fB1 (o1 lenR) fr) :=
  fe_bi call_lenR (opn_lenR hw) (nx_o1 nx_lenR) hg hm PySem.boot_len ha (by decide) (by decide) he
theorem fe_lstR (C : Ct X Wx n) (hm : X.mg "list" = none) (hg : Gl X "list") (ha : FAx X XR Wx [e] fr) (he : starEach [e] X.env = (false, eval e X.env) :: starEach [] X.env := by rfl) (hw : XR.wo = X.w := by rfl) : FEx X XR Wx (.Call (.Name "list" p) [e] [] pos) (fB1 (o1 lstR) fr) :=
  fe_ty (call_listR C.cal) (opn_lstR hw) (nx_o1 nx_lstR) hg hm bList ha (by decide) (by decide) he
end
end FL

set_option Elab.async false
set_option linter.all false
set_option maxRecDepth 100000
set_option maxHeartbeats 2000000
/-! ### {k: x for a, b in d.items()}, d a dict that may change, left alone meanwhile -/
namespace FL
open PySem PySem.Spec PyProof.Rows
open L2
/-- the entries of a locked dict in new pairs -/
def ItI (d : Addr) (o : Obj) (kvs : List (Key × V)) : It :=
  ⟨fun i H => H d = some (.frz o (.dK kvs)) ∧ i < kvs.length, fun i H x H' => ∃ T k v ob, kvs[i]? = some (k, v) ∧ x = .ref T ∧ H T = none ∧ ob.dict = none ∧ H' = upd H T (.frz ob (.tup [kV k, v])), fun i H => H d = some (.frz o (.dK kvs)) ∧ i = kvs.length⟩
theorem walk_I {d : Addr} {o : Obj} {kvs : List (Key × V)} : Walk (ItI d o kvs) kvs.length (fun H => H d = some (.frz o (.dK kvs))) (fun i H x H' => ∃ T k v ob, kvs[i]? = some (k, v) ∧ x = .ref T ∧ H T = none ∧ ob.dict = none ∧ H' = upd H T (.frz ob (.tup [kV k, v]))) :=
  ⟨fun _ _ h q => ⟨q, h⟩, fun _ q => ⟨q, rfl⟩, fun _ _ _ _ _ _ y => y⟩
theorem turn_I {P : Program} {w : World} {K : PySem.W.Frag} {d : Addr} {o : Obj} {es : Array DictEntry} {ep : Nat} {kvs : List (Key × V)} {elts : List Expr} {kk : Nat} {tpos : Pos} (it : Addr) (hod : o.data = .dict es ep) :
    Turn P w K (.Tuple elts kk tpos) (ItI d o kvs) [it] it (fun i h => ∃ a b, IsItemIter h it d i kvs.length ep a b) where
  mem := by simp
  obj := fun i h ⟨a, b, e⟩ c hc => by
    cases List.mem_singleton.mp hc
    exact ⟨_, e, fun v z => nomatch z⟩
  keep := fun i h h' ⟨a, b, e⟩ k => ⟨a, b, k it (List.mem_singleton.mpr rfl) _ e⟩
  item := by
    intro X hP hw hK hc i pins s σ H E I hf ⟨a, b, he⟩ ⟨hd, hi⟩
    subst hP hw hK
    obtain ⟨_, _, _, es2, ep2, vs, hdt, _, kv, hm⟩ := I.frzK hd
    obtain ⟨rfl, rfl⟩ := dict_ep hod hdt
    have ln : kvs.length = vs.length := Paired.length kv
    have hk : kvs[i]? = some kvs[i] := List.getElem?_eq_getElem hi
    obtain ⟨u, hu, ru⟩ := kv_get (k := kvs[i].1) (v := kvs[i].2) kv hk
    rw [ln] at he
    have lt : it < s.heap.objs.size := Heap.lt_size he
    refine wpAny_pyNext_items_item he hm hu fun key h1 hkey ho hT hz hk2 => ⟨_, rfl, wpAny_letOwnedTupleGo_items (s := { s with heap := h1 }) ho fun h2 he2 sb => ?_⟩
    have hT2 : h2.get? s.heap.objs.size = some { cls := .type "tuple", data := .seq #[key, u] } := (sb.2 _ (Nat.ne_of_gt lt)).trans hT
    have I1 := I.turnedNew (T := s.heap.objs.size) (ob := .frz { cls := .type "tuple", data := .seq #[key, u] } (.tup [kV kvs[i].1, kvs[i].2])) (t' := s.toks) (ch := [it]) (fun c ob hb e => (sb.2 c (fun z => hb (List.mem_singleton.mpr z))).trans (hk2 c ob (fun z => hb (List.mem_singleton.mpr z)) e)) hf (Nat.le_refl _)
      ⟨hT2, by show 2 ≤ sizeLine; decide, [key, u], .cons (relV_key (show keyIs kvs[i].1 key = true from hkey)) (.cons ru .nil), ⟨_, hT2, rfl, _, rfl⟩⟩
    refine ⟨.ref s.heap.objs.size, _, I1, rfl, ⟨_, kvs[i].1, kvs[i].2, _, hk, rfl, I.hok.fresh (Nat.le_refl _), rfl, rfl⟩, ⟨key, u, by rw [ln]; exact he2⟩, fun c hc => ?_⟩
    cases List.mem_singleton.mp hc
    rw [upd_ne (Nat.ne_of_lt lt)]
    exact (hf it (List.mem_singleton.mpr rfl)).1
  done := by
    intro X hP hw hK hc i pins s σ H E I hf ⟨a, b, he⟩ ⟨hd, hi⟩
    subst hP hw hK
    obtain ⟨f0, f1, _, f3, f4, f5⟩ := hf it (List.mem_singleton.mpr rfl)
    obtain ⟨_, _, _, es2, ep2, vs, hdt, _, kv, hm⟩ := I.frzK hd
    obtain ⟨rfl, rfl⟩ := dict_ep hod hdt
    have ln : kvs.length = vs.length := Paired.length kv
    rw [ln] at he
    exact wpAny_pyNext_items_end (I.ok.hd hc) he hm (List.getElem?_eq_none (by omega)) fun h' eb => ⟨rfl, I.turned (t' := s.toks) (fun c ob hb e => eb c ob hb e) f0 f1 f3 f4 f5⟩
  self := fun A i s Q E ⟨_, _, e⟩ h => PySem.W.kcp_self e h
def rItems (td : TE) : TI := fun σ H R => td σ H fun x H1 => ∃ d o kvs, x = .ref d ∧ H1 d = some (.frz o (.dK kvs)) ∧ R (ItI d o kvs) H1
theorem pi_I {X : Cx} {e : Expr} {td : TE} {elts : List Expr} {kk : Nat} {apos cpos tpos : Pos} (he : PE X e td) (hbase : attributeBase e "items" X.env (eval e X.env) = eval e X.env := by rfl) (hline : (apos.endLine == cpos.line) = true := by rfl) :
    PI X (.Tuple elts kk tpos) (.Call (.Attribute e "items" apos) [] [] cpos) (rItems td) := by
  refine ⟨fun pins s σ H R I h => ?_⟩
  refine wpAny_Call_method (T := "dict") (id := "dict.items") hbase rfl hline F.plainAttrs_dict F.slot_dict_items F.type_dict_items (thn (he.run pins s σ H _ I h) fun u s1 ⟨x, H1, I1, rx, d, o, kvs, ex, hd, q⟩ => ?_)
  subst ex
  obtain rfl : u = Value.ref d := rx
  obtain ⟨lo, _, _, es, ep, vs, hdt, _, kv, hm⟩ := I1.frzK hd
  have ln : kvs.length = vs.length := Paired.length kv
  refine ⟨hm.dictOf.typeIs, hm.dictOf.mapOf.noDict, ?_⟩
  have I2 : Inv X pins σ H1 { s1 with heap := s1.heap.push { cls := .type "dict_items", data := .fields #[.ref d] } } := I1.kept (t' := s1.toks) fun b ob y => Heap.get?_push_of_some _ y
  show wpAny _ _ (callWith cpos (.builtin "dict.items") [.ref d] [] []) _ X.xe s1
  refine method_meetsIn F.slot_dict_items F.entry_dict_items rfl (PySem.evalArgs_none ⟨rfl, hm.dictOf.typeIs, F.args_dict_items_1 _, _, meets_dict_items (mixKind X.prog X.w) d lo, ⟨vs, hm.dictOf⟩, ?_⟩)
  refine wpAny_pyIter_items (d := d) (knd := mixKind X.prog X.w) ⟨_, Heap.get?_push_size _ rfl, rfl, rfl⟩ (hm.push _) (pi_one (tk := s1.toks) I2 _ (turn_I _ hdt) ⟨.none, .none, ?_⟩ q)
  rw [ln]
  exact Heap.get?_push_size _ rfl
def itemsK (kvs : Dic) : List PyData := kvs.map fun kv => .tuple [keyP kv.1, kv.2]
theorem wk_I {K : PySem.W.Frag} {H : Hp} {M : Ms} {a : Addr} {o : Obj} {kvs : Dic} {us : List (Key × V)} (ha : H a = some (.frz o (.dK us))) (r : Paired (KD (K := K) H M) kvs us) : WkD K (ItI a o us) (itemsK kvs) M H := by
  have ln : kvs.length = us.length := Paired.length r
  refine ⟨fun H => H a = some (.frz o (.dK us)), _, by unfold itemsK; rw [List.length_map, ln]; exact walk_I, fun M1 H1 s => s.kz _ _ _ ha, ?_⟩
  rintro wo i x M1 H1 H2 S1 s l hi ⟨T, k, v, ob, hk, rfl, nT, od, rfl⟩
  obtain ⟨p, ep, r1, r2⟩ := Paired.getR (KD.stp s r) hk
  refine ⟨.tuple [keyP p.1, p.2], by unfold itemsK; rw [List.getElem?_map, ep]; rfl, fun c u e => by rw [upd_ne (ne_of_none e nT)]; exact e, l.new nT, ?_⟩
  have s2 : Stp M1 H1 M1 (upd H1 T (.frz ob (.tup [kV k, v]))) := stp_new nT
  have e1 : p.1 = k := r1
  have dk : Dr K (upd H1 T (.frz ob (.tup [kV k, v]))) M1 (keyP p.1) (kV k) := by
    rw [e1]
    cases k with
    | inl i => show Dr K _ M1 (.int i) (.int i); unfold Dr; rfl
    | inr z => show Dr K _ M1 (.str z) (.str z); unfold Dr; rfl
  unfold Dr
  refine ⟨T, _, rfl, .inl ⟨l.notin nT, ob, od, upd_same⟩, ?_⟩
  unfold DrL
  refine ⟨_, _, rfl, dk, ?_⟩
  unfold DrL
  refine ⟨_, _, rfl, Dr.stp s2 _ _ r2, ?_⟩
  unfold DrL
  rfl
/-! the reading -/
def fDcI (i : Nat) (g : FG) (tk tv : FE) (vs : List Nat) : FE := fun ev S => match ev[i]? with
  | some (some (.r n)) => match S[n]? with
    | some (.k kvs) => (dcL g fYes tk tv (wipeE ev vs) (itemsK kvs) (S.set n .z) []).bind fun acc S2 => .ok (.k acc) (S2.set n (.k kvs))
    | _ => .no
  | _ => .no
theorem dcL_nx {g : FG} {t : FT} {tk tv : FE} {ev0 : Ev} : ∀ {ds : List PyData} {S : So} {acc : Dic} {c : Nat} {f : PyData} {S' : So}, dcL g t tk tv ev0 ds S acc ≠ .ex c f S'
  | [], _, _, _, _, _, e => by cases e
  | d :: ds, S, acc, c, f, S', e => by
    unfold dcL at e
    repeat' split at e
    all_goals first | cases e | exact dcL_nx e
section
variable {X : Cx} {XR : XRel X.K} {Wx : WX} {n : Nat}
theorem fe_dcI {i : Nat} {x : Str} {kx vx : Expr} {elts : List Expr} {kk : Nat} {scope : Scope} {sl : List Nat} {pos xpos apos cpos tpos : Pos} {g : FG} {tk tv : FE} (own : List (Str × Nat)) (C : Ct X Wx n) (hN : X.N.Nodup) (hx : X.N[i]? = some x) (hv : Vis X.env.scope x) (ok : BlkOk X.N X.env.scope scope own)
    (hg : ∀ (s : Shared) (H : Hp) (D : Addr) (cl : List (Str × Addr)) (fp : List Addr), FGx (Blk X scope s H D cl fp) XR (.Tuple elts kk tpos) sl g) (hsl : ∀ i, i ∈ sl → i ∈ own.map (·.2))
    (hk : ∀ (s : Shared) (H : Hp) (D : Addr) (cl : List (Str × Addr)) (fp : List Addr), FEx (Blk X scope s H D cl fp) XR Wn kx tk)
    (he : ∀ (s : Shared) (H : Hp) (D : Addr) (cl : List (Str × Addr)) (fp : List Addr), FEx (Blk X scope s H D cl fp) XR Wn vx tv)
    (hd : (x == ("__debug__" : Str)) = false := by decide) (hcd : (x == ("__classdict__" : Str)) = false := by decide)
    (hbase : attributeBase (.Name x xpos) "items" X.env (eval (.Name x xpos) X.env) = eval (.Name x xpos) X.env := by rfl) (hline : (apos.endLine == cpos.line) = true := by rfl)
    (hs : ∀ z, foldedSetIterable (.Call (.Attribute (.Name x xpos) "items" apos) [] [] cpos) X.env z = pure z := by intro _; rfl) :
    FEx X XR Wx (.DictComp kx vx [⟨.Tuple elts kk tpos, .Call (.Attribute (.Name x xpos) "items" apos) [] [] cpos, [], 0⟩] scope pos) (fDcI i g tk tv (own.map (·.2))) := by
  refine PE.imp (pe_lock (pe_fz (pe_dc (g := rG (X := X) XR sl g) (tt := tYes) (tk := rE XR Wn tk) (tv := rE XR Wn tv) C.cal hN (pi_I (pe_var hx hv hd hcd) hbase hline) ok hg (fun _ _ _ _ _ => pts_nil) hk he hs))) ?_
  rintro σ H Q ⟨M, S, ev, l, rs, h⟩
  unfold fDcI at h
  split at h
  · rename_i j e1
    split at h
    · rename_i kvs e2
      obtain ⟨y, f1, f2⟩ := Paired.get rs e1
      obtain ⟨v, f3, a, f4, f5⟩ := f2 _ rfl
      obtain ⟨u, g1, us, rfl, g2⟩ := l.get f4 e2
      subst f3 f5
      have ma : a ∈ M.m := List.mem_iff_getElem?.mpr ⟨j, f4⟩
      have ma' : a ∈ M := Or.inl ma
      refine ⟨a, .dK us, g1, trivial, fun od => ?_⟩
      have sL : Stp M H M (upd H a (.frz od (.dK us))) := stp_set ma (by intro od u z; rw [g1] at z; cases z)
      have l2 : Rl XR.wo X.K (upd H a (.frz od (.dK us))) M (S.set j .z) := l.set f4 trivial
      suffices lp : Pst XR Wx σ M (upd H a (.frz od (.dK us))) (RW XR) ((dcL g fYes tk tv (wipeE ev (own.map (·.2))) (itemsK kvs) (S.set j .z) []).bind (dcEnd false)) (fun v H' => H' a = some (.frz od (.dK us)) ∧ Q v (upd H' a (.dK us))) from
        ⟨.ref a, f1, a, od, us, rfl, upd_same, dc_loop (Wx := Wx) (tt := tYes) false hsl (fun σ H Q ⟨M, S, ev, l, rs, h⟩ => Pst.ok (v := true) h l rfl) l2 (rs.stp sL) (wk_I upd_same (KD.stp sL g2)) lp⟩
      cases e3 : dcL g fYes tk tv (wipeE ev (own.map (·.2))) (itemsK kvs) (S.set j .z) [] with
      | no => rw [e3] at h; exact h.elim
      | ex c f S' => exact absurd e3 dcL_nx
      | ok acc S2 =>
        rw [e3] at h
        intro M2 H2 v s2 l3 r2
        have hz := s2.kz a od _ upd_same
        have nea : ∀ b, b ∉ M.m → b ≠ a := fun b nb c => nb (by rw [c]; exact ma)
        obtain ⟨tl, e4⟩ := s2.pre
        have e5 : M2.m[j]? = some a := by
          rw [← e4, List.getElem?_append_left (List.getElem?_eq_some_iff.mp f4).1]
          exact f4
        have ma2 : a ∈ M2 := Or.inl (List.mem_iff_getElem?.mpr ⟨j, e5⟩)
        have up2 : ∀ b o, b ∉ M2 → H2 b = some o → upd H2 a (.dK us) b = some o := fun b o nb e => by
          rw [upd_ne (fun (c : b = a) => nb (by rw [c]; exact ma2))]
          exact e
        refine ⟨hz, h M2 (upd H2 a (.dK us)) v ⟨s2.pre, s2.sub, fun b o nb e => ?_, fun b hb nb => ?_, fun b hb n1 n2 => ?_, fun b od' u e => ?_⟩ (l3.set e5 ⟨us, rfl, KD.upd up2 (KD.stp (sL.trans s2) g2)⟩) ?_⟩
        · rw [upd_ne (nea b nb)]
          exact s2.keep b o nb (by rw [upd_ne (nea b nb)]; exact e)
        · have q := s2.new b hb nb
          rw [upd_ne (nea b nb)] at q
          exact q
        · have q := s2.newx b hb n1 n2
          rw [upd_ne (nea b n2)] at q
          exact q
        · have ne : b ≠ a := fun c => by
            rw [c, g1] at e
            cases e
          rw [upd_ne ne]
          exact s2.kz b od' u (by rw [upd_ne ne]; exact e)
        · obtain ⟨b, vs, q1, q2, q3, q4⟩ := r2
          obtain ⟨o, q3⟩ := q3
          exact ⟨b, vs, q1, q2, ⟨o, up2 b _ q2 q3⟩, KD.upd up2 q4⟩
    · exact h.elim
  · exact h.elim
end
end FL

set_option Elab.async false
set_option linter.all false
set_option maxRecDepth 100000
set_option maxHeartbeats 2000000
/-! ### for x in xs, xs a list that may change (its members may, its length not) -/
namespace FL
open PySem PySem.Spec PyProof.Rows
open L2
/-- k turns are left of N -/
def forM (n N : Nat) (g : FG) (b : FS) : Nat → Ev → So → Out
  | 0, ev, S => match S[n]? with
    | some (.l xs) => if xs.length = N then .nx ev S else .no
    | _ => .no
  | k + 1, ev, S => match S[n]? with
    | some (.l xs) => if xs.length = N then (match xs[N - (k + 1)]? with
      | some d => match g (.d d) ev with
        | none => .no
        | some e1 => match b e1 S with
          | .nx e2 S2 => forM n N g b k e2 S2
          | .ct e2 S2 => forM n N g b k e2 S2
          | .bk e2 S2 => .nx e2 S2
          | r => r
      | none => .no) else .no
    | _ => .no
def fForM (fo : FE) (g : FG) (b : FS) : FS := fun ev S => (fo ev S).toOut ev fun w S1 => match w with
  | .r n => match S1[n]? with
    | some (.l xs) => forM n xs.length g b xs.length ev S1
    | _ => .no
  | _ => .no
theorem walk_M {K : PySem.W.Frag} {a : Addr} {N : Nat} : Walk (Itl K a) N (fun H => ∃ vs, SqL K H a vs ∧ vs.length = N) (fun i H x H' => H' = H ∧ ∀ vs, SqL K H a vs → vs[i]? = some x) :=
  ⟨fun i H hi ⟨vs, q, e⟩ => ⟨vs, vs[i], q, by simp⟩, fun H ⟨vs, q, e⟩ => ⟨vs, q, by omega⟩, fun _ _ _ _ _ _ y => y⟩
section
variable {X : Cx} {XR : XRel X.K} {Wx : WX} {n : Nat} {tg iter : Expr}
theorem forM_at {j N k : Nat} {g : FG} {fb : FS} {ev : Ev} {M1 Mi : Ms} {H1 H' : Hp} {Si : So} {D : Ends} {a : Addr} (s : Stp M1 H1 Mi H') (e1 : M1.m[j]? = some a) (li : Rl XR.wo X.K H' Mi Si) (h : PstS XR Wx Mi H' (forM j N g fb k ev Si) D) :
    ∃ xs us, Si[j]? = some (.l xs) ∧ xs.length = N ∧ H' a = some (.lst us) ∧ DrL X.K H' Mi xs us := by
  obtain ⟨tl, e4⟩ := s.pre
  have e5 : Mi.m[j]? = some a := by
    rw [← e4, List.getElem?_append_left (List.getElem?_eq_some_iff.mp e1).1]
    exact e1
  have key : ∃ xs, Si[j]? = some (.l xs) ∧ xs.length = N := by
    cases k with
    | zero =>
      unfold forM at h
      split at h
      · rename_i xs e6
        split at h
        · exact ⟨xs, e6, by assumption⟩
        · exact h.elim
      · exact h.elim
    | succ k =>
      unfold forM at h
      split at h
      · rename_i xs e6
        split at h
        · exact ⟨xs, e6, by assumption⟩
        · exact h.elim
      · exact h.elim
  obtain ⟨xs, e6, e7⟩ := key
  obtain ⟨u, h1, us, rfl, h2⟩ := li.get e5 e6
  exact ⟨xs, us, e6, e7, h1, h2⟩
theorem fs_forM {body : List Stmt} {fo : FE} {sl : List Nat} {g : FG} {fb : FS} {pos : Pos} (C : Ct X Wx n) (ho : FEx X XR Wx iter fo) (hg : FGx X XR tg sl g) (hb : FSs X XR Wx body fb)
    (hs : ∀ x, foldedSetIterable iter X.env x = pure x := by intro _; rfl) : FSx X XR Wx (.For tg iter body [] pos) (fForM fo g fb) := by
  refine PS.imp (ps_for C.pp C.cal (pi_any ho) hg hb hs) ?_
  rintro D σ H ⟨M, S, ev, l, rs, h⟩
  refine toOut_ok l rs h ?_
  intro w S1 M1 H1 v s1 l1 rs1 r1 h1
  split at h1
  · rename_i j
    split at h1
    · rename_i xs0 e0
      obtain ⟨a, e1, e2⟩ := r1
      obtain ⟨u0, g1, us0, rfl, g2⟩ := l1.get e1 e0
      refine .inl ⟨a, e2, ⟨us0, SqL.of g1⟩, ?_⟩
      refine for_it (walk_M (N := xs0.length)) (fun i σ' H' => ∃ Mi Si ei, Stp M1 H1 Mi H' ∧ Rl XR.wo X.K H' Mi Si ∧ Rs XR H' Mi ei σ' ∧ PstS XR Wx Mi H' (forM j xs0.length g fb (xs0.length - i) ei Si) D) ⟨M1, S1, ev, .refl _ _, l1, rs1, h1⟩ ?_ ?_ ?_
      · rintro i σ' H' hi ⟨Mi, Si, ei, s, li, rsi, hp⟩
        obtain ⟨xs, us, e6, e7, e8, e9⟩ := forM_at s e1 li hp
        exact ⟨us, SqL.of e8, by rw [← e7]; exact e9.len⟩
      · rintro i x σ' H' H2 hi ⟨Mi, Si, ei, s, li, rsi, hp⟩ ⟨rfl, y⟩
        obtain ⟨xs, us, e6, e7, e8, e9⟩ := forM_at s e1 li hp
        have ek : xs0.length - i = (xs0.length - (i + 1)) + 1 := by omega
        rw [ek] at hp
        unfold forM at hp
        rw [e6] at hp
        dsimp only at hp
        rw [if_pos e7] at hp
        have ei' : xs0.length - (xs0.length - (i + 1) + 1) = i := by omega
        rw [ei'] at hp
        have hx : ∃ d, xs[i]? = some d := ⟨xs[i], by simp⟩
        obtain ⟨d, ed⟩ := hx
        obtain ⟨z, ez, dr⟩ := e9.get ed
        have yz := y us (SqL.of e8)
        rw [ez] at yz
        cases yz
        rw [ed] at hp
        dsimp only at hp
        cases e5 : g (.d d) ei with
        | none => rw [e5] at hp; exact hp.elim
        | some ev1 =>
          rw [e5] at hp
          dsimp only at hp
          refine ⟨Mi, Si, ei, .d d, li, rsi, dr, ev1, e5, fun σ1 rs1 _ => ⟨Mi, Si, ev1, li, rs1, ?_⟩⟩
          cases e10 : fb ev1 Si with
          | nx ev2 S2 =>
            rw [e10] at hp
            exact fun M3 H3 σ3 s3 l3 rs3 => ⟨M3, S2, ev2, s.trans s3, l3, rs3, PstS.stp s3 hp⟩
          | ct ev2 S2 =>
            rw [e10] at hp
            exact fun M3 H3 σ3 s3 l3 rs3 => ⟨M3, S2, ev2, s.trans s3, l3, rs3, PstS.stp s3 hp⟩
          | bk ev2 S2 => rw [e10] at hp; exact hp
          | rt w S2 => rw [e10] at hp; exact hp
          | ex c d ev2 S2 => rw [e10] at hp; exact hp
          | no => rw [e10] at hp; exact hp
      · rintro σ' H' ⟨Mi, Si, ei, s, li, rsi, hp⟩
        obtain ⟨xs, us, e6, e7, e8, e9⟩ := forM_at s e1 li hp
        rw [Nat.sub_self] at hp
        unfold forM at hp
        rw [e6] at hp
        dsimp only at hp
        rw [if_pos e7] at hp
        exact hp Mi H' σ' (.refl _ _) li rsi
    · exact h1.elim
  · exact h1.elim
end
end FL

set_option Elab.async false
set_option linter.all false
set_option maxRecDepth 100000
set_option maxHeartbeats 2000000
/-! ### str(x), x data without dicts; {} as data; list(range(a, b)) -/
namespace FL
open PySem PySem.Spec PyProof.Rows
open L2
mutual
theorem noDict : ∀ d : PyData, d.plain = true → d.hasDict = false
  | .none, _ => by simp only [PyData.hasDict]
  | .bool _, _ => by simp only [PyData.hasDict]
  | .int _, _ => by simp only [PyData.hasDict]
  | .str _, _ => by simp only [PyData.hasDict]
  | .list xs, h => by simp only [PyData.hasDict]; exact noDicts xs (by simpa [PyData.plain] using h)
  | .tuple xs, h => by simp only [PyData.hasDict]; exact noDicts xs (by simpa [PyData.plain] using h)
  | .dict _, h => by simp [PyData.plain] at h
theorem noDicts : ∀ xs : List PyData, PyData.plainAll xs = true → PyData.hasDictAll xs = false
  | [], _ => by simp only [PyData.hasDictAll]
  | x :: xs, h => by
    have h' : x.plain = true ∧ PyData.plainAll xs = true := by simpa [PyData.plainAll] using h
    simp only [PyData.hasDictAll, noDict x h'.1, noDicts xs h'.2, Bool.or_self]
end
/-- the text of str -/
def txtP : PyData → Str
  | .str x => x
  | d => d.shown
def rTxt (K : PySem.W.Frag) : List V → Hp → VK → Prop := fun xs H Q => ∃ v d, xs = [v] ∧ Dp K H v d ∧ d.plain = true ∧ d.showable = true ∧ d.depth ≤ 50 ∧ d.shown.length ≤ sizeLine ∧ Q (.str (txtP d)) H
section
variable {X : Cx}
theorem call_txt (hg : X.A.guards = some []) (hu : X.A.units + 64 < cLine) : CallR X (.type "str") (rTxt X.K) := by
  intro pins s σ H xs us Q I r h
  obtain ⟨v, d, rfl, hd, hp, hs, hdp, hz, q⟩ := h
  obtain ⟨u, rfl, rx⟩ := vals1 r
  obtain ⟨as, hr⟩ := Dp.reads I d v u hd rx
  have hm : d.hasDict = true → sysModules ∉ as := fun z => by
    rw [noDict d hp] at z
    cases z
  cases hr with
  | none => exact PySem.P.str_of_none ⟨.str _, H, I.tok _, ⟨_, rfl⟩, by simpa [txtP, PyData.shown] using q⟩
  | bool b => exact PySem.P.str_of_bool ⟨.str _, H, I.tok _, ⟨_, rfl⟩, by simpa [txtP, PyData.shown] using q⟩
  | int i t => exact PySem.P.str_of_int (by simpa [PyData.showable] using hs) ⟨.str _, H, I.tok _, ⟨_, rfl⟩, by simpa [txtP, PyData.shown] using q⟩
  | str x t => exact PySem.P.str_of_str ⟨.str _, H, I, ⟨_, rfl⟩, by simpa [txtP] using q⟩
  | list h1 h2 h3 h4 =>
    exact str_of_reads (.list h1 h2 h3 h4) hs hm hg (by omega) (fun _ _ e => e) (fun h' u' tk kp => ⟨.str _, H, I.kept (t' := tk) kp, ⟨_, rfl⟩, by simpa [txtP] using q⟩) hz
  | tuple h1 h2 h3 h4 =>
    exact str_of_reads (.tuple h1 h2 h3 h4) hs hm hg (by omega) (fun _ _ e => e) (fun h' u' tk kp => ⟨.str _, H, I.kept (t' := tk) kp, ⟨_, rfl⟩, by simpa [txtP] using q⟩) hz
  | dict h1 h2 h3 h4 h5 => simp [PyData.plain] at hp
end
def txtW (w : W) (S : So) : Res W := match toP w S with
  | some d => if d.plain = true ∧ d.showable = true ∧ d.depth ≤ 50 ∧ d.shown.length ≤ sizeLine then .ok (.d (.str (txtP d))) S else .no
  | none => .no
theorem nx_txt : NX1 txtW := by
  intro x S c f S' e
  unfold txtW at e
  split at e
  · split at e <;> cases e
  · cases e
def fD0 : FE := fun _ S => .ok (.d (.dict [])) S
def fLstRg2 (fa fb : FE) : FE := fun ev S => (fa ev S).bind fun w S1 => (fb ev S1).bind fun w2 S2 => match asI w, asI w2 with
  | some i, some j => if -(2 ^ 62) ≤ i ∧ i < 2 ^ 62 ∧ -(2 ^ 62) ≤ j ∧ j < 2 ^ 62 ∧ (j - i).toNat ≤ 2 ^ 24 then .ok (.d (.list (rgD i (j - i).toNat))) S2 else .no
  | _, _ => .no
section
variable {X : Cx} {XR : XRel X.K} {Wx : WX} {n : Nat} {e a b : Expr} {fa fb : FE} {fr : FA} {p p2 p3 pos : Pos}
theorem opn_txt : OpN XR (o1 txtW) (rTxt X.K) := by
  intro H M S S' xs w vs Q l rx e q
  unfold o1 at e
  split at e
  · cases rx with
    | cons r rr =>
      cases rr
      unfold txtW at e
      split at e
      · rename_i d e1
        split at e
        · rename_i c
          cases e
          exact ⟨_, d, rfl, toP_ok l r e1 c.1, c.1, c.2.1, c.2.2.1, c.2.2.2, imm_s l q⟩
        · cases e
      · cases e
  · cases e
theorem bStr : bootBuiltins "str" = some (.type "str") := by decide +kernel
theorem fe_txt (C : Ct X Wx n) (hm : X.mg "str" = none) (hg : Gl X "str") (ha : FAx X XR Wx [e] fr) (he : starEach [e] X.env = (false, eval e X.env) :: starEach [] X.env := by rfl) : FEx X XR Wx (.Call (.Name "str" p) [e] [] pos) (fB1 (o1 txtW) fr) :=
  fe_ty (call_txt C.gds (by have := C.un; omega)) opn_txt (nx_o1 nx_txt) hg hm bStr ha (by decide) (by decide) he
theorem fe_d0 : FEx X XR Wx (.Dict [] [] pos) fD0 := by
  refine PE.imp pe_dnewK ?_
  rintro σ H Q ⟨M, S, ev, l, rs, h⟩ q nq
  refine h M _ _ (stp_new nq) (l.new nq) ?_
  show Dr X.K _ M (.dict []) (.ref q)
  unfold Dr
  exact ⟨rfl, q, rfl, l.notin nq, upd_same⟩
theorem fe_lstRg2 (C : Ct X Wx n) (hm : X.mg "list" = none) (hg : Gl X "list") (hm2 : X.mg "range" = none) (hg2 : Gl X "range") (ha : FEx X XR Wx a fa) (hb : FEx X XR Wx b fb) (na : starEach [a, b] X.env = (false, eval a X.env) :: starEach [b] X.env := by rfl)
    (nb : starEach [b] X.env = (false, eval b X.env) :: starEach [] X.env := by rfl) (hp : (backTo p (starEach [b] X.env)).any (·.1) = false := by rfl)
    (nc : starEach [.Call (.Name "range" p2) [a, b] [] p] X.env = (false, eval (.Call (.Name "range" p2) [a, b] [] p) X.env) :: starEach [] X.env := by rfl) :
    FEx X XR Wx (.Call (.Name "list" p3) [.Call (.Name "range" p2) [a, b] [] p] [] pos) (fLstRg2 fa fb) := by
  refine PE.imp (pe_listRg C.cal hg hm (prg_2 hg2 hm2 ha hb na nb hp) nc) ?_
  rintro σ H Q ⟨M, S, ev, l, rs, h⟩
  refine ⟨M, S, ev, l, rs, Pst.cut h ?_⟩
  intro w S1 M1 H1 v _ s1 l1 r1 h1
  refine ⟨M1, S1, ev, l1, rs.stp s1, Pst.cut h1 ?_⟩
  intro w2 S2 M2 H2 v2 _ s2 l2 r2 h2
  split at h2
  · rename_i i j e1 e2
    split at h2
    · rename_i c
      refine ⟨i, j, asI_ok (r1.stp s2) e1, asI_ok r2 e2, c, fun q nq => ?_⟩
      unfold rgV
      refine new_l l2 h2 nq ?_
      unfold rgD
      generalize List.range (j - i).toNat = ks
      clear h2
      induction ks with
      | nil => show DrL X.K H2 M2 [] []; unfold DrL; rfl
      | cons k ks ih =>
        rw [List.map_cons, List.map_cons]
        unfold DrL
        exact ⟨_, _, rfl, by unfold Dr; rfl, ih⟩
    · exact h2.elim
  · exact h2.elim
end
end FL

set_option Elab.async false
set_option linter.all false
set_option maxRecDepth 100000
set_option maxHeartbeats 4000000
namespace G61
open PySem PySem.Spec PyProof.Rows
open L2 FL
def topK (i : Nat) : Stmt := PySem.Challenge.pw_leftfirst_k61_whole_no_shorter_machine.main.body.getD i (.Pass ⟨0, 0, 0, 0⟩)
abbrev gdt : Nat → PyData := fun i => match i with
  | 0 => (.int 8)
  | 1 => (.int 8)
  | 2 => (.tuple [(.str "and"), (.str "or"), (.str "not"), (.str "if"), (.str "else")])
  | 3 => (.tuple [(.str "yes"), (.str "no")])
  | 4 => (.int 60)
  | 5 => (.int 120)
  | _ => .none
abbrev gnm : Nat → Str := fun i => match i with
  | 0 => "MOST_NAMES"
  | 1 => "LONGEST_NAME"
  | 2 => "WORDS"
  | 3 => "RESULTS"
  | 4 => "MOST_ROWS"
  | 5 => "MOST_INSTRUCTIONS"
  | _ => ""
abbrev nms : Nat → Str := fun i => match i with
  | 0 => "is_name"
  | 1 => "is_code"
  | 2 => "_is_row"
  | 3 => "is_target"
  | 4 => "check_code"
  | 5 => "_fits"
  | 6 => "bounded"
  | 7 => "tidied"
  | 8 => "_numbered"
  | 9 => "met"
  | 10 => "is_machine"
  | 11 => "_is_instruction"
  | 12 => "_check_machine"
  | 13 => "_rows"
  | 14 => "_row"
  | 15 => "_rows_without_gotos"
  | 16 => "_behind_gotos"
  | 17 => "code_of"
  | 18 => "instructions"
  | 19 => "machine"
  | 20 => "_places"
  | 21 => "_followers"
  | 22 => "_follow"
  | 23 => "_law_mixed"
  | 24 => "_law_cell"
  | 25 => "_law_take"
  | 26 => "_law_words"
  | 27 => "_law_ordered"
  | 28 => "_law_any_code"
  | 29 => "_law_machines"
  | 30 => "_law_good"
  | 31 => "law"
  | _ => ""
abbrev pss : Nat → List Str := fun i => match i with
  | 0 => ["value"]
  | 1 => ["value"]
  | 2 => ["value", "number"]
  | 3 => ["value", "number"]
  | 4 => ["value"]
  | 5 => ["rows"]
  | 6 => ["rows"]
  | 7 => ["rows", "start"]
  | 8 => ["rows", "start"]
  | 9 => ["rows", "start", "avoided"]
  | 10 => ["value"]
  | 11 => ["value", "number"]
  | 12 => ["value"]
  | 13 => ["machine"]
  | 14 => ["instruction", "behind"]
  | 15 => ["machine"]
  | 16 => ["rows", "target"]
  | 17 => ["machine"]
  | 18 => ["code"]
  | 19 => ["code"]
  | 20 => ["code", "followers"]
  | 21 => ["code"]
  | 22 => ["code", "at", "found", "tried"]
  | 23 => ["cell", "k"]
  | 24 => ["script", "k"]
  | 25 => ["own", "options"]
  | 26 => ["own", "many"]
  | 27 => ["rows", "start"]
  | 28 => ["own", "words", "many"]
  | 29 => ["words", "many"]
  | 30 => ["rows", "words"]
  | 31 => ["script"]
  | _ => []
abbrev cnm : Nat → Str := fun i => match i with
  | 0 => "LeftFirstError"
  | 1 => "InvalidCode"
  | 2 => "InvalidMachine"
  | 3 => "TooLarge"
  | _ => ""
abbrev cfl : Nat → Option Str := fun i => match i with

  | _ => none
abbrev csb : Nat → Nat → Bool := fun i j => match i, j with
  | 0, 0 => true
  | 1, 0 => true
  | 1, 1 => true
  | 2, 0 => true
  | 2, 2 => true
  | 3, 0 => true
  | 3, 3 => true
  | _, _ => false
abbrev i_is_name : Nat := 0
abbrev i_is_code : Nat := 1
abbrev i__is_row : Nat := 2
abbrev i_is_target : Nat := 3
abbrev i_check_code : Nat := 4
abbrev i__fits : Nat := 5
abbrev i_bounded : Nat := 6
abbrev i_tidied : Nat := 7
abbrev i__numbered : Nat := 8
abbrev i_met : Nat := 9
abbrev i_is_machine : Nat := 10
abbrev i__is_instruction : Nat := 11
abbrev i__check_machine : Nat := 12
abbrev i__rows : Nat := 13
abbrev i__row : Nat := 14
abbrev i__rows_without_gotos : Nat := 15
abbrev i__behind_gotos : Nat := 16
abbrev i_code_of : Nat := 17
abbrev i_instructions : Nat := 18
abbrev i_machine : Nat := 19
abbrev i__places : Nat := 20
abbrev i__followers : Nat := 21
abbrev i__follow : Nat := 22
abbrev i__law_mixed : Nat := 23
abbrev i__law_cell : Nat := 24
abbrev i__law_take : Nat := 25
abbrev i__law_words : Nat := 26
abbrev i__law_ordered : Nat := 27
abbrev i__law_any_code : Nat := 28
abbrev i__law_machines : Nat := 29
abbrev i__law_good : Nat := 30
abbrev i_law : Nat := 31
abbrev er : Er := ⟨4, cnm, cfl, csb⟩
abbrev dix : Nat → Nat := fun i => match i with
  | 0 => 7
  | 1 => 9
  | _ => 0
abbrev dwd : Nat → PyData := fun i => match i with
  | 0 => (.int 0)
  | 1 => .none
  | _ => .none
abbrev sg : Sg := ⟨32, nms, pss, ["len", "isinstance", "int", "str", "bool", "list", "tuple", "dict", "set", "all", "any", "sum", "max", "min", "range", "sorted", "enumerate", "zip", "reversed"], 6, gnm, gdt, er, 2, dix, dwd⟩
abbrev Tab (P : Program) (w : World) (K : PySem.W.Frag) (mg : Str → Option Value) (base : Heap) (y : Dy) (n : Nat) (c : Cs) : Prop := Tb P w K mg base sg y n c
/-! is_name -/
abbrev s_is_name : Stmt := topK 9
abbrev N_is_name : List Str := ["value", "sign"]
theorem sc_is_name : FnScope N_is_name ["value"] (defScope s_is_name) := ⟨rfl, rfl, rfl, by decide +kernel, rfl, by decide +kernel, by decide +kernel⟩
def m_is_name (c : Cs) : FS :=
    (fSeq (fIfS (fOrT (fNotT (fTr (fIsi "str" (fV 0)))) (fOrT (fNotT (fB (fChain cLe cLe (fC (.int 1)) (fB1 oLen (fCons (fV 0) fNil)) (fC (sg.gdt 1))))) (fB (f2 cIn (fV 0) (fC (sg.gdt 2)))))) 
      (fRet (fC (.bool false))) 
      fNext) 
    (fRet (fB1 (o1 allW) (fCons (fLc (fItems (fV 0)) (gNm 1) fYes (fChain cLe cLe (fC (.str "a")) (fV 1) (fC (.str "z"))) [1]) fNil))))
theorem ok_is_name {P : Program} {w : World} {K : PySem.W.Frag} {mg : Str → Option Value} {base : Heap} {n : Nat} {y : Dy} {c : Cs} (T : Tab P w K mg base y n c) {f : Addr} {fd : FuncData} (F : FunF K "is_name" s_is_name f fd) :
    FnF P w mg base (XRof K er y.cs w) (n + 1) f fd ["value"] (fDef N_is_name.length (m_is_name c)) := okF F sc_is_name fun cdv A outer s H E C =>
    (fss_cons (fs_if (ft_w (fw_or (ft_not (ft_tr (fe_isi (T := "str") (T.b "isinstance" (by decide)) (by rfl) (fv 0) (T.b "str" (by decide)) (by rfl) (by decide +kernel)) (by intro _; rfl))) (fw_or (ft_not (ft_chain (k_le C) (k_le C) fe_int (fe_len (T.b "len" (by decide)) (by rfl) (fa_cons (fv 0) fa_nil)) (fe_g (T.g 1 (by decide)) (by rfl)) (by with_unfolding_all rfl))) (fw_or1 (ft_cmp (k_in C) (fv 0) (fe_g (T.g 2 (by decide)) (by rfl)) (by rfl)))))) 
      (fss_one (fs_ret fe_bl)) 
      fss_nil) 
    (fss_one (fs_ret (fe_all C (T.b "all" (by decide)) (by rfl) (fa_cons (fe_lc0 [("sign", 1)] C sc_is_name.nd (fi_any (fv 0)) (blkOk_by (N := N_is_name) (sc := defScope s_is_name) (by decide +kernel)) (fun _ _ _ _ _ => (fg_nm (i := 1) sc_is_name.nd rfl (by first | exact Or.inl rfl | exact Or.inr rfl))) (by decide) (fun _ _ _ _ _ => (fe_chain (k_le C.blk) (k_le C.blk) fe_str (fv 1) fe_str (by with_unfolding_all rfl)))) fa_nil)))))
/-! is_code -/
abbrev s_is_code : Stmt := topK 13
abbrev N_is_code : List Str := ["value", "row"]
theorem sc_is_code : FnScope N_is_code ["value"] (defScope s_is_code) := ⟨rfl, rfl, rfl, by decide +kernel, rfl, by decide +kernel, by decide +kernel⟩
def m_is_code (c : Cs) : FS :=
    (fSeq (fIfS (fOrT (fNotT (fTr (fIsi "tuple" (fV 0)))) (fNotT (fTr (fV 0)))) 
      (fRet (fC (.bool false))) 
      fNext) 
    (fSeq (fIfS (fNotT (fTr (fB1 (o1 allW) (fCons (fLc (fItems (fV 0)) (gNm 1) fYes (fCall 2 (c i__is_row) [] (fCons (fV 1) (fCons (fB1 oLen (fCons (fV 0) fNil)) fNil))) [1]) fNil)))) 
      (fRet (fC (.bool false))) 
      fNext) 
    (fRet (fAnd (fCall 1 (c i__fits) [] (fCons (fV 0) fNil)) (f2 cEq (fCall 2 (c i_tidied) [.d (sg.dwd 0)] (fCons (fV 0) fNil)) (fV 0))))))
theorem ok_is_code {P : Program} {w : World} {K : PySem.W.Frag} {mg : Str → Option Value} {base : Heap} {n : Nat} {y : Dy} {c : Cs} (T : Tab P w K mg base y n c) {f : Addr} {fd : FuncData} (F : FunF K "is_code" s_is_code f fd) :
    FnF P w mg base (XRof K er y.cs w) (n + 1) f fd ["value"] (fDef N_is_code.length (m_is_code c)) := okF F sc_is_code fun cdv A outer s H E C =>
    (fss_cons (fs_if (ft_w (fw_or (ft_not (ft_tr (fe_isi (T := "tuple") (T.b "isinstance" (by decide)) (by rfl) (fv 0) (T.b "tuple" (by decide)) (by rfl) (by decide +kernel)) (by intro _; rfl))) (fw_or1 (ft_not (ft_tr (fv 0) (by intro _; rfl)))))) 
      (fss_one (fs_ret fe_bl)) 
      fss_nil) 
    (fss_cons (fs_if (ft_not (ft_tr (fe_all C (T.b "all" (by decide)) (by rfl) (fa_cons (fe_lc0 [("row", 1)] C sc_is_code.nd (fi_any (fv 0)) (blkOk_by (N := N_is_code) (sc := defScope s_is_code) (by decide +kernel)) (fun _ _ _ _ _ => (fg_nm (i := 1) sc_is_code.nd rfl (by first | exact Or.inl rfl | exact Or.inr rfl))) (by decide) (fun _ _ _ _ _ => (fe_call (T.F 2 (by decide)) (T.D 2 (by decide)) C.blk (by rfl) (fa_cons (fv 1) (fa_cons (fe_len (T.b "len" (by decide)) (by rfl) (fa_cons (fv 0) fa_nil)) fa_nil))))) fa_nil)) (by intro _; rfl))) 
      (fss_one (fs_ret fe_bl)) 
      fss_nil) 
    (fss_one (fs_ret (fe_and (fe_call (T.F 5 (by decide)) (T.D 5 (by decide)) C (by rfl) (fa_cons (fv 0) fa_nil)) (fe_one (fe_cmp (k_eq C) (fe_callD (T.F 7 (by decide)) (T.dd 0 (by decide)) (vals_1 (T.dv 0 (by decide))) (rws_1 (T.dw 0 (by decide))) C (by rfl) (fa_cons (fv 0) fa_nil)) (fv 0) (by rfl))))))))
/-! _is_row -/
abbrev s__is_row : Stmt := topK 14
abbrev N__is_row : List Str := ["value", "number", "name", "yes", "no"]
theorem sc__is_row : FnScope N__is_row ["value", "number"] (defScope s__is_row) := ⟨rfl, rfl, rfl, by decide +kernel, rfl, by decide +kernel, by decide +kernel⟩
def m__is_row (c : Cs) : FS :=
    (fSeq (fIfS (fOrT (fNotT (fTr (fIsi "tuple" (fV 0)))) (fB (f2 cNe (fB1 oLen (fCons (fV 0) fNil)) (fC (.int 3))))) 
      (fRet (fC (.bool false))) 
      fNext) 
    (fSeq (fAsg (gTp 3 (gCs (gNm 2) (gCs (gNm 3) (gCs (gNm 4) gNo)))) (fV 0)) 
    (fRet (fAnd (fCall 1 (c i_is_name) [] (fCons (fV 2) fNil)) (fAnd (fCall 2 (c i_is_target) [] (fCons (fV 3) (fCons (fV 1) fNil))) (fCall 2 (c i_is_target) [] (fCons (fV 4) (fCons (fV 1) fNil))))))))
theorem ok__is_row {P : Program} {w : World} {K : PySem.W.Frag} {mg : Str → Option Value} {base : Heap} {n : Nat} {y : Dy} {c : Cs} (T : Tab P w K mg base y n c) {f : Addr} {fd : FuncData} (F : FunF K "_is_row" s__is_row f fd) :
    FnF P w mg base (XRof K er y.cs w) (n + 1) f fd ["value", "number"] (fDef N__is_row.length (m__is_row c)) := okF F sc__is_row fun cdv A outer s H E C =>
    (fss_cons (fs_if (ft_w (fw_or (ft_not (ft_tr (fe_isi (T := "tuple") (T.b "isinstance" (by decide)) (by rfl) (fv 0) (T.b "tuple" (by decide)) (by rfl) (by decide +kernel)) (by intro _; rfl))) (fw_or1 (ft_cmp (k_ne C) (fe_len (T.b "len" (by decide)) (by rfl) (fa_cons (fv 0) fa_nil)) fe_int (by rfl))))) 
      (fss_one (fs_ret fe_bl)) 
      fss_nil) 
    (fss_cons (fs_asg (fv 0) (fg_tup rfl (fgs_cons (fg_nm (i := 2) sc__is_row.nd rfl (by first | exact Or.inl rfl | exact Or.inr rfl)) (fgs_cons (fg_nm (i := 3) sc__is_row.nd rfl (by first | exact Or.inl rfl | exact Or.inr rfl)) (fgs_cons (fg_nm (i := 4) sc__is_row.nd rfl (by first | exact Or.inl rfl | exact Or.inr rfl)) fgs_nil))))) 
    (fss_one (fs_ret (fe_and (fe_call (T.F 0 (by decide)) (T.D 0 (by decide)) C (by rfl) (fa_cons (fv 2) fa_nil)) (fe_and (fe_call (T.F 3 (by decide)) (T.D 3 (by decide)) C (by rfl) (fa_cons (fv 3) (fa_cons (fv 1) fa_nil))) (fe_one (fe_call (T.F 3 (by decide)) (T.D 3 (by decide)) C (by rfl) (fa_cons (fv 4) (fa_cons (fv 1) fa_nil))))))))))
/-! is_target -/
abbrev s_is_target : Stmt := topK 15
abbrev N_is_target : List Str := ["value", "number"]
theorem sc_is_target : FnScope N_is_target ["value", "number"] (defScope s_is_target) := ⟨rfl, rfl, rfl, by decide +kernel, rfl, by decide +kernel, by decide +kernel⟩
def m_is_target (c : Cs) : FS :=
    (fSeq (fIfS (fAndT (fTr (fIsi "int" (fV 0))) (fNotT (fTr (fIsi "bool" (fV 0))))) 
      (fRet (fChain cLe cLt (fC (.int 0)) (fV 0) (fV 1))) 
      fNext) 
    (fRet (f2 cIn (fV 0) (fC (sg.gdt 3)))))
theorem ok_is_target {P : Program} {w : World} {K : PySem.W.Frag} {mg : Str → Option Value} {base : Heap} {n : Nat} {y : Dy} {c : Cs} (T : Tab P w K mg base y n c) {f : Addr} {fd : FuncData} (F : FunF K "is_target" s_is_target f fd) :
    FnF P w mg base (XRof K er y.cs w) (n + 1) f fd ["value", "number"] (fDef N_is_target.length (m_is_target c)) := okF F sc_is_target fun cdv A outer s H E C =>
    (fss_cons (fs_if (ft_w (fw_and (ft_tr (fe_isi (T := "int") (T.b "isinstance" (by decide)) (by rfl) (fv 0) (T.b "int" (by decide)) (by rfl) (by decide +kernel)) (by intro _; rfl)) (fw_and1 (ft_not (ft_tr (fe_isi (T := "bool") (T.b "isinstance" (by decide)) (by rfl) (fv 0) (T.b "bool" (by decide)) (by rfl) (by decide +kernel)) (by intro _; rfl)))))) 
      (fss_one (fs_ret (fe_chain (k_le C) (k_lt C) fe_int (fv 0) (fv 1) (by with_unfolding_all rfl)))) 
      fss_nil) 
    (fss_one (fs_ret (fe_cmp (k_in C) (fv 0) (fe_g (T.g 3 (by decide)) (by rfl)) (by rfl)))))
/-! check_code -/
abbrev s_check_code : Stmt := topK 16
abbrev N_check_code : List Str := ["value"]
theorem sc_check_code : FnScope N_check_code ["value"] (defScope s_check_code) := ⟨rfl, rfl, rfl, by decide +kernel, rfl, by decide +kernel, by decide +kernel⟩
def m_check_code (c : Cs) : FS :=
    (fIfS (fNotT (fTr (fCall 1 (c i_is_code) [] (fCons (fV 0) fNil)))) 
      (fRaise 1) 
      fNext)
theorem ok_check_code {P : Program} {w : World} {K : PySem.W.Frag} {mg : Str → Option Value} {base : Heap} {n : Nat} {y : Dy} {c : Cs} (T : Tab P w K mg base y n c) {f : Addr} {fd : FuncData} (F : FunF K "check_code" s_check_code f fd) :
    FnF P w mg base (XRof K er y.cs w) (n + 1) f fd ["value"] (fDef N_check_code.length (m_check_code c)) := okF F sc_check_code fun cdv A outer s H E C =>
    (fss_one (fs_if (ft_not (ft_tr (fe_call (T.F 1 (by decide)) (T.D 1 (by decide)) C (by rfl) (fa_cons (fv 0) fa_nil)) (by intro _; rfl))) 
      (fss_one (fs_raise C (T.rz 1 (by decide) rfl _ rfl rfl (by rfl)) (T.rd 1 (by decide) rfl))) 
      fss_nil))
/-! _fits -/
abbrev s__fits : Stmt := topK 17
abbrev N__fits : List Str := ["rows", "row"]
theorem sc__fits : FnScope N__fits ["rows"] (defScope s__fits) := ⟨rfl, rfl, rfl, by decide +kernel, rfl, by decide +kernel, by decide +kernel⟩
def m__fits (c : Cs) : FS :=
    (fRet (fAnd (f2 cLe (fB1 oLen (fCons (fV 0) fNil)) (fC (sg.gdt 4))) (f2 cLe (fLenSc (fItems (fV 0)) (gNm 1) fYes (f2 oIx (fV 1) (fC (.int 0))) [1]) (fC (sg.gdt 0)))))
theorem ok__fits {P : Program} {w : World} {K : PySem.W.Frag} {mg : Str → Option Value} {base : Heap} {n : Nat} {y : Dy} {c : Cs} (T : Tab P w K mg base y n c) {f : Addr} {fd : FuncData} (F : FunF K "_fits" s__fits f fd) :
    FnF P w mg base (XRof K er y.cs w) (n + 1) f fd ["rows"] (fDef N__fits.length (m__fits c)) := okF F sc__fits fun cdv A outer s H E C =>
    (fss_one (fs_ret (fe_and (fe_cmp (k_le C) (fe_len (T.b "len" (by decide)) (by rfl) (fa_cons (fv 0) fa_nil)) (fe_g (T.g 4 (by decide)) (by rfl)) (by rfl)) (fe_one (fe_cmp (k_le C) (fe_lenSc0 [("row", 1)] C (T.b "len" (by decide)) (by rfl) sc__fits.nd (fi_any (fv 0)) (blkOk_by (N := N__fits) (sc := defScope s__fits) (by decide +kernel)) (fun _ _ _ _ _ => (fg_nm (i := 1) sc__fits.nd rfl (by first | exact Or.inl rfl | exact Or.inr rfl))) (by decide) (fun _ _ _ _ _ => (fe_ix C.blk (fv 1) fe_int (fun _ _ => rfl)))) (fe_g (T.g 0 (by decide)) (by rfl)) (by rfl))))))
/-! bounded -/
abbrev s_bounded : Stmt := topK 18
abbrev N_bounded : List Str := ["rows"]
theorem sc_bounded : FnScope N_bounded ["rows"] (defScope s_bounded) := ⟨rfl, rfl, rfl, by decide +kernel, rfl, by decide +kernel, by decide +kernel⟩
def m_bounded (c : Cs) : FS :=
    (fSeq (fIfS (fNotT (fTr (fCall 1 (c i__fits) [] (fCons (fV 0) fNil)))) 
      (fRaise 3) 
      fNext) 
    (fRet (fV 0)))
theorem ok_bounded {P : Program} {w : World} {K : PySem.W.Frag} {mg : Str → Option Value} {base : Heap} {n : Nat} {y : Dy} {c : Cs} (T : Tab P w K mg base y n c) {f : Addr} {fd : FuncData} (F : FunF K "bounded" s_bounded f fd) :
    FnF P w mg base (XRof K er y.cs w) (n + 1) f fd ["rows"] (fDef N_bounded.length (m_bounded c)) := okF F sc_bounded fun cdv A outer s H E C =>
    (fss_cons (fs_if (ft_not (ft_tr (fe_call (T.F 5 (by decide)) (T.D 5 (by decide)) C (by rfl) (fa_cons (fv 0) fa_nil)) (by intro _; rfl))) 
      (fss_one (fs_raise C (T.rz 3 (by decide) rfl _ rfl rfl (by rfl)) (T.rd 3 (by decide) rfl))) 
      fss_nil) 
    (fss_one (fs_ret (fv 0))))
/-! tidied -/
abbrev s_tidied : Stmt := topK 19
abbrev N_tidied : List Str := ["rows", "start", "places", "merged", "left", "ready", "at", "name", "yes", "no"]
theorem sc_tidied : FnScope N_tidied ["rows", "start"] (defScope s_tidied) := ⟨rfl, rfl, rfl, by decide +kernel, rfl, by decide +kernel, by decide +kernel⟩
def m_tidied (c : Cs) : FS :=
    (fSeq (fSet 2 (fDispM ((.inr "yes", (fC (.str "yes"))) :: ((.inr "no", (fC (.str "no"))) :: [])))) 
    (fSeq (fSet 3 fNewT) 
    (fSeq (fSet 4 (fLstRg1 (fB1 oLen (fCons (fV 0) fNil)))) 
    (fSeq (fWhile (fTr (fV 4)) 
      (fSeq (fSet 5 (fLc (fItems (fV 4)) (gNm 6) (fAndT (fB (f2 cIn (f2 oIx (f2 oIx (fV 0) (fV 6)) (fC (.int 1))) (fV 2))) (fB (f2 cIn (f2 oIx (f2 oIx (fV 0) (fV 6)) (fC (.int 2))) (fV 2)))) (fV 6) [6])) 
      (fSeq (fIfS (fNotT (fTr (fV 5))) 
        (fRet (fC .none)) 
        fNext) 
      (fSeq (fFor (fItems (fV 5)) (gNm 6) 
        (fSeq (fAsg (gTp 3 (gCs (gNm 7) (gCs (gNm 8) (gCs (gNm 9) gNo)))) (f2 oIx (fV 0) (fV 6))) 
        (fSetKey (fSetd (fV 3) (fTup (fCons (fV 7) (fCons (f2 oIx (fV 2) (fV 8)) (fCons (f2 oIx (fV 2) (fV 9)) fNil)))) (fB1 (o1 lenR) (fCons (fV 3) fNil))) (fV 2) (fV 6)))) 
      (fSet 4 (fLc (fItems (fV 4)) (gNm 6) (fB (f2 cNi (fV 6) (fV 2))) (fV 6) [6])))))) 
    (fRet (fCall 2 (c i__numbered) [] (fCons (fB1 (o1 lstR) (fCons (fV 3) fNil)) (fCons (f2 oIx (fV 2) (fV 1)) fNil))))))))
theorem ok_tidied {P : Program} {w : World} {K : PySem.W.Frag} {mg : Str → Option Value} {base : Heap} {n : Nat} {y : Dy} {c : Cs} (T : Tab P w K mg base y n c) {f : Addr} {fd : FuncData} (F : FunF K "tidied" s_tidied f fd) :
    FnF P w mg base (XRof K er y.cs w) (n + 1) f fd ["rows", "start"] (fDef N_tidied.length (m_tidied c)) := okF F sc_tidied fun cdv A outer s H E C =>
    (fss_cons (fs_set (i := 2) sc_tidied.nd rfl (by first | exact Or.inl rfl | exact Or.inr rfl) (fe_dispM (fp_str fe_str (fp_str fe_str fp_nil)) (by rfl) (by rfl) (by simp) (by decide))) 
    (fss_cons (fs_set (i := 3) sc_tidied.nd rfl (by first | exact Or.inl rfl | exact Or.inr rfl) (fe_newT (by rfl))) 
    (fss_cons (fs_set (i := 4) sc_tidied.nd rfl (by first | exact Or.inl rfl | exact Or.inr rfl) (fe_lstRg1 C (T.b "list" (by decide)) (by rfl) (T.b "range" (by decide)) (by rfl) (fe_len (T.b "len" (by decide)) (by rfl) (fa_cons (fv 0) fa_nil)))) 
    (fss_cons (fs_while C (ft_tr (fv 4) (by intro _; rfl)) 
      (fss_cons (fs_setLc1 (i := 5) [("at", 6)] C sc_tidied.nd rfl (by first | rfl | decide +kernel) (by rfl) (fi_any (fv 4)) (blkOk_by (N := N_tidied) (sc := defScope s_tidied) (by decide +kernel)) (fun _ _ _ _ _ => (fg_nm (i := 6) sc_tidied.nd rfl (by first | exact Or.inl rfl | exact Or.inr rfl))) (by decide) (fun _ _ _ _ _ => (ft_w (fw_and (ft_cmp (k_in C.blk) (fe_ix C.blk (fe_ix C.blk (fv 0) (fv 6) (fun _ _ => rfl)) fe_int (fun _ _ => rfl)) (fv 2) (by rfl)) (fw_and1 (ft_cmp (k_in C.blk) (fe_ix C.blk (fe_ix C.blk (fv 0) (fv 6) (fun _ _ => rfl)) fe_int (fun _ _ => rfl)) (fv 2) (by rfl)))))) (fun _ _ _ _ _ => (fv 6))) 
      (fss_cons (fs_if (ft_not (ft_tr (fv 5) (by intro _; rfl))) 
        (fss_one (fs_ret fe_non)) 
        fss_nil) 
      (fss_cons (fs_for C (fi_any (fv 5)) (fg_nm (i := 6) sc_tidied.nd rfl (by first | exact Or.inl rfl | exact Or.inr rfl)) 
        (fss_cons (fs_asg (fe_ix C (fv 0) (fv 6) (fun _ _ => rfl)) (fg_tup rfl (fgs_cons (fg_nm (i := 7) sc_tidied.nd rfl (by first | exact Or.inl rfl | exact Or.inr rfl)) (fgs_cons (fg_nm (i := 8) sc_tidied.nd rfl (by first | exact Or.inl rfl | exact Or.inr rfl)) (fgs_cons (fg_nm (i := 9) sc_tidied.nd rfl (by first | exact Or.inl rfl | exact Or.inr rfl)) fgs_nil))))) 
        (fss_one (fs_setKey C (fe_setd C (by rfl) (fv 3) (fe_tup (fa_cons (fv 7) (fa_cons (fe_ix C (fv 2) (fv 8) (fun _ _ => rfl)) (fa_cons (fe_ix C (fv 2) (fv 9) (fun _ _ => rfl)) fa_nil)))) (fe_lenR C (T.b "len" (by decide)) (by rfl) (fa_cons (fv 3) fa_nil)) ⟨by rfl, by rfl, by rfl, by rfl⟩) (fv 2) (fv 6))))) 
      (fss_one (fs_setLc1 (i := 4) [("at", 6)] C sc_tidied.nd rfl (by first | rfl | decide +kernel) (by rfl) (fi_any (fv 4)) (blkOk_by (N := N_tidied) (sc := defScope s_tidied) (by decide +kernel)) (fun _ _ _ _ _ => (fg_nm (i := 6) sc_tidied.nd rfl (by first | exact Or.inl rfl | exact Or.inr rfl))) (by decide) (fun _ _ _ _ _ => (ft_cmp (k_ni C.blk) (fv 6) (fv 2) (by rfl))) (fun _ _ _ _ _ => (fv 6)))))))) 
    (fss_one (fs_ret (fe_call (T.F 8 (by decide)) (T.D 8 (by decide)) C (by rfl) (fa_cons (fe_lstR C (T.b "list" (by decide)) (by rfl) (fa_cons (fv 3) fa_nil)) (fa_cons (fe_ix C (fv 2) (fv 1) (fun _ _ => rfl)) fa_nil)))))))))
/-! _numbered -/
abbrev s__numbered : Stmt := topK 20
abbrev N__numbered : List Str := ["rows", "start", "order", "places", "found", "at", "number", "name", "yes", "no"]
theorem sc__numbered : FnScope N__numbered ["rows", "start"] (defScope s__numbered) := ⟨rfl, rfl, rfl, by decide +kernel, rfl, by decide +kernel, by decide +kernel⟩
def m__numbered (c : Cs) : FS :=
    (fSeq (fSet 2 (fLc (fItems (fCall 3 (c i_met) [.d (sg.dwd 1)] (fCons (fV 0) (fCons (fV 1) fNil)))) (gNm 5) (fTr (fIsi "int" (fV 5))) (fV 5) [5])) 
    (fSeq (fSet 3 (fDc (fEnum (fCons (fV 2) fNil)) (gTp 2 (gCs (gNm 6) (gCs (gNm 5) gNo))) fYes (fV 5) (fV 6) [6, 5])) 
    (fSeq (fSet 4 (fLc (fItems (fV 2)) (gNm 5) fYes (f2 oIx (fV 0) (fV 5)) [5])) 
    (fRet (fB1 (o1 tupW) (fCons (fLc (fItems (fV 4)) (gTp 3 (gCs (gNm 7) (gCs (gNm 8) (gCs (gNm 9) gNo)))) fYes (fTup (fCons (fV 7) (fCons (fGet2 (fV 3) (fV 8) (fV 8)) (fCons (fGet2 (fV 3) (fV 9) (fV 9)) fNil)))) [7, 8, 9]) fNil))))))
theorem ok__numbered {P : Program} {w : World} {K : PySem.W.Frag} {mg : Str → Option Value} {base : Heap} {n : Nat} {y : Dy} {c : Cs} (T : Tab P w K mg base y n c) {f : Addr} {fd : FuncData} (F : FunF K "_numbered" s__numbered f fd) :
    FnF P w mg base (XRof K er y.cs w) (n + 1) f fd ["rows", "start"] (fDef N__numbered.length (m__numbered c)) := okF F sc__numbered fun cdv A outer s H E C =>
    (fss_cons (fs_setLc1 (i := 2) [("at", 5)] C sc__numbered.nd rfl (by first | rfl | decide +kernel) (by rfl) (fi_any (fe_callD (T.F 9 (by decide)) (T.dd 1 (by decide)) (vals_1 (T.dv 1 (by decide))) (rws_1 (T.dw 1 (by decide))) C (by rfl) (fa_cons (fv 0) (fa_cons (fv 1) fa_nil)))) (blkOk_by (N := N__numbered) (sc := defScope s__numbered) (by decide +kernel)) (fun _ _ _ _ _ => (fg_nm (i := 5) sc__numbered.nd rfl (by first | exact Or.inl rfl | exact Or.inr rfl))) (by decide) (fun _ _ _ _ _ => (ft_tr (fe_isi (T := "int") (T.b "isinstance" (by decide)) (by rfl) (fv 5) (T.b "int" (by decide)) (by rfl) (by decide +kernel)) (by intro _; rfl))) (fun _ _ _ _ _ => (fv 5))) 
    (fss_cons (fs_set (i := 3) sc__numbered.nd rfl (by first | exact Or.inl rfl | exact Or.inr rfl) (fe_dc0 [("number", 6), ("at", 5)] C sc__numbered.nd (fi_enum (by rfl) (T.b "enumerate" (by decide)) (fa_cons (fv 2) fa_nil)) (blkOk_by (N := N__numbered) (sc := defScope s__numbered) (by decide +kernel)) (fun _ _ _ _ _ => (fg_tup rfl (fgs_cons (fg_nm (i := 6) sc__numbered.nd rfl (by first | exact Or.inl rfl | exact Or.inr rfl)) (fgs_cons (fg_nm (i := 5) sc__numbered.nd rfl (by first | exact Or.inl rfl | exact Or.inr rfl)) fgs_nil)))) (by decide) (fun _ _ _ _ _ => (fv 5)) (fun _ _ _ _ _ => (fv 6)))) 
    (fss_cons (fs_setLc0 (i := 4) [("at", 5)] C sc__numbered.nd rfl (by first | rfl | decide +kernel) (by rfl) (fi_any (fv 2)) (blkOk_by (N := N__numbered) (sc := defScope s__numbered) (by decide +kernel)) (fun _ _ _ _ _ => (fg_nm (i := 5) sc__numbered.nd rfl (by first | exact Or.inl rfl | exact Or.inr rfl))) (by decide) (fun _ _ _ _ _ => (fe_ix C.blk (fv 0) (fv 5) (fun _ _ => rfl)))) 
    (fss_one (fs_ret (fe_toTup (T.b "tuple" (by decide)) (by rfl) (fa_cons (fe_lc0 [("name", 7), ("yes", 8), ("no", 9)] C sc__numbered.nd (fi_any (fv 4)) (blkOk_by (N := N__numbered) (sc := defScope s__numbered) (by decide +kernel)) (fun _ _ _ _ _ => (fg_tup rfl (fgs_cons (fg_nm (i := 7) sc__numbered.nd rfl (by first | exact Or.inl rfl | exact Or.inr rfl)) (fgs_cons (fg_nm (i := 8) sc__numbered.nd rfl (by first | exact Or.inl rfl | exact Or.inr rfl)) (fgs_cons (fg_nm (i := 9) sc__numbered.nd rfl (by first | exact Or.inl rfl | exact Or.inr rfl)) fgs_nil))))) (by decide) (fun _ _ _ _ _ => (fe_tup (fa_cons (fv 7) (fa_cons (fe_get2 C.blk (fv 3) (fv 8) (fv 8) ⟨by rfl, by rfl, by rfl, by rfl⟩) (fa_cons (fe_get2 C.blk (fv 3) (fv 9) (fv 9) ⟨by rfl, by rfl, by rfl, by rfl⟩) fa_nil)))))) fa_nil)))))))
/-! met -/
abbrev s_met : Stmt := topK 21
abbrev N_met : List Str := ["rows", "start", "avoided", "found", "waiting", "target"]
theorem sc_met : FnScope N_met ["rows", "start", "avoided"] (defScope s_met) := ⟨rfl, rfl, rfl, by decide +kernel, rfl, by decide +kernel, by decide +kernel⟩
def m_met (c : Cs) : FS :=
    (fSeq (fSet 3 fNewK) 
    (fSeq (fSet 4 (fMut (fCons (fV 1) fNil))) 
    (fSeq (fWhile (fTr (fV 4)) 
      (fSeq (fSet 5 (f1 oPop (fV 4))) 
      (fIfS (fAndT (fB (f2 cNi (fV 5) (fV 3))) (fB (f2 cNe (fV 5) (fV 2)))) 
        (fSeq (fSetKey (fC (.bool true)) (fV 3) (fV 5)) 
        (fIfS (fTr (fIsi "int" (fV 5))) 
          (fDrop (fM oExtend (fV 4) (fCons (fLst (fCons (f2 oIx (f2 oIx (fV 0) (fV 5)) (fC (.int 2))) (fCons (f2 oIx (f2 oIx (fV 0) (fV 5)) (fC (.int 1))) fNil))) fNil))) 
          fNext)) 
        fNext))) 
    (fRet (fB1 (o1 lstD) (fCons (fV 3) fNil))))))
theorem ok_met {P : Program} {w : World} {K : PySem.W.Frag} {mg : Str → Option Value} {base : Heap} {n : Nat} {y : Dy} {c : Cs} (T : Tab P w K mg base y n c) {f : Addr} {fd : FuncData} (F : FunF K "met" s_met f fd) :
    FnF P w mg base (XRof K er y.cs w) (n + 1) f fd ["rows", "start", "avoided"] (fDef N_met.length (m_met c)) := okF F sc_met fun cdv A outer s H E C =>
    (fss_cons (fs_set (i := 3) sc_met.nd rfl (by first | exact Or.inl rfl | exact Or.inr rfl) fe_newK) 
    (fss_cons (fs_set (i := 4) sc_met.nd rfl (by first | exact Or.inl rfl | exact Or.inr rfl) (fe_mut (fa_cons (fv 1) fa_nil))) 
    (fss_cons (fs_while C (ft_tr (fv 4) (by intro _; rfl)) 
      (fss_cons (fs_set (i := 5) sc_met.nd rfl (by first | exact Or.inl rfl | exact Or.inr rfl) (fe_pop (fv 4) (pe_bm0 PySem.F.plainAttrs_list PySem.F.slot_list_pop PySem.F.type_list_pop mt_pop (fv 4)))) 
      (fss_one (fs_if (ft_w (fw_and (ft_cmp (k_ni C) (fv 5) (fv 3) (by rfl)) (fw_and1 (ft_cmp (k_ne C) (fv 5) (fv 2) (by rfl))))) 
        (fss_cons (fs_setKey C fe_bl (fv 3) (fv 5)) 
        (fss_one (fs_if (ft_tr (fe_isi (T := "int") (T.b "isinstance" (by decide)) (by rfl) (fv 5) (T.b "int" (by decide)) (by rfl) (by decide +kernel)) (by intro _; rfl)) 
          (fss_one (fs_expr (fe_m opm_extend nx_extend (pe_bm PySem.F.plainAttrs_list PySem.F.slot_list_extend PySem.F.type_list_extend mt_extend (fv 4) (fa_cons (fe_lst (fa_cons (fe_ix C (fe_ix C (fv 0) (fv 5) (fun _ _ => rfl)) fe_int (fun _ _ => rfl)) (fa_cons (fe_ix C (fe_ix C (fv 0) (fv 5) (fun _ _ => rfl)) fe_int (fun _ _ => rfl)) fa_nil))) fa_nil))))) 
          fss_nil))) 
        fss_nil)))) 
    (fss_one (fs_ret (fe_lstD C (T.b "list" (by decide)) (by rfl) (fa_cons (fv 3) fa_nil)))))))
/-! is_machine -/
abbrev s_is_machine : Stmt := topK 24
abbrev N_is_machine : List Str := ["value", "part"]
theorem sc_is_machine : FnScope N_is_machine ["value"] (defScope s_is_machine) := ⟨rfl, rfl, rfl, by decide +kernel, rfl, by decide +kernel, by decide +kernel⟩
def m_is_machine (c : Cs) : FS :=
    (fSeq (fIfS (fOrT (fNotT (fTr (fIsi "tuple" (fV 0)))) (fNotT (fB (fChain cLe cLe (fC (.int 1)) (fB1 oLen (fCons (fV 0) fNil)) (fC (sg.gdt 5)))))) 
      (fRet (fC (.bool false))) 
      fNext) 
    (fSeq (fIfS (fOrT (fNotT (fTr (fB1 (o1 allW) (fCons (fLc (fItems (fV 0)) (gNm 1) fYes (fCall 2 (c i__is_instruction) [] (fCons (fV 1) (fCons (fB1 oLen (fCons (fV 0) fNil)) fNil))) [1]) fNil)))) (fB (f2 cNe (f2 oIx (f2 oIx (fV 0) (f1 oNeg (fC (.int 1)))) (fC (.int 0))) (fC (.str "goto"))))) 
      (fRet (fC (.bool false))) 
      fNext) 
    (fSeq (fIfS (fB (f2 cGt (fLenSc (fItems (fV 0)) (gNm 1) (fB (f2 cEq (f2 oIx (fV 1) (fC (.int 0))) (fC (.str "jump")))) (f2 oIx (fV 1) (fC (.int 1))) [1]) (fC (sg.gdt 0)))) 
      (fRet (fC (.bool false))) 
      fNext) 
    (fRet (f2 cIn' (fCall 2 (c i_tidied) [.d (sg.dwd 0)] (fCons (fCall 1 (c i__rows) [] (fCons (fV 0) fNil)) fNil)) (fC .none))))))
theorem ok_is_machine {P : Program} {w : World} {K : PySem.W.Frag} {mg : Str → Option Value} {base : Heap} {n : Nat} {y : Dy} {c : Cs} (T : Tab P w K mg base y n c) {f : Addr} {fd : FuncData} (F : FunF K "is_machine" s_is_machine f fd) :
    FnF P w mg base (XRof K er y.cs w) (n + 1) f fd ["value"] (fDef N_is_machine.length (m_is_machine c)) := okF F sc_is_machine fun cdv A outer s H E C =>
    (fss_cons (fs_if (ft_w (fw_or (ft_not (ft_tr (fe_isi (T := "tuple") (T.b "isinstance" (by decide)) (by rfl) (fv 0) (T.b "tuple" (by decide)) (by rfl) (by decide +kernel)) (by intro _; rfl))) (fw_or1 (ft_not (ft_chain (k_le C) (k_le C) fe_int (fe_len (T.b "len" (by decide)) (by rfl) (fa_cons (fv 0) fa_nil)) (fe_g (T.g 5 (by decide)) (by rfl)) (by with_unfolding_all rfl)))))) 
      (fss_one (fs_ret fe_bl)) 
      fss_nil) 
    (fss_cons (fs_if (ft_w (fw_or (ft_not (ft_tr (fe_all C (T.b "all" (by decide)) (by rfl) (fa_cons (fe_lc0 [("part", 1)] C sc_is_machine.nd (fi_any (fv 0)) (blkOk_by (N := N_is_machine) (sc := defScope s_is_machine) (by decide +kernel)) (fun _ _ _ _ _ => (fg_nm (i := 1) sc_is_machine.nd rfl (by first | exact Or.inl rfl | exact Or.inr rfl))) (by decide) (fun _ _ _ _ _ => (fe_call (T.F 11 (by decide)) (T.D 11 (by decide)) C.blk (by rfl) (fa_cons (fv 1) (fa_cons (fe_len (T.b "len" (by decide)) (by rfl) (fa_cons (fv 0) fa_nil)) fa_nil))))) fa_nil)) (by intro _; rfl))) (fw_or1 (ft_cmp (k_ne C) (fe_ix C (fe_ix C (fv 0) (fe_neg fe_int) (fun _ _ => rfl)) fe_int (fun _ _ => rfl)) fe_str (by rfl))))) 
      (fss_one (fs_ret fe_bl)) 
      fss_nil) 
    (fss_cons (fs_if (ft_cmp (k_gt C) (fe_lenSc1 [("part", 1)] C (T.b "len" (by decide)) (by rfl) sc_is_machine.nd (fi_any (fv 0)) (blkOk_by (N := N_is_machine) (sc := defScope s_is_machine) (by decide +kernel)) (fun _ _ _ _ _ => (fg_nm (i := 1) sc_is_machine.nd rfl (by first | exact Or.inl rfl | exact Or.inr rfl))) (by decide) (fun _ _ _ _ _ => (ft_cmp (k_eq C.blk) (fe_ix C.blk (fv 1) fe_int (fun _ _ => rfl)) fe_str (by rfl))) (fun _ _ _ _ _ => (fe_ix C.blk (fv 1) fe_int (fun _ _ => rfl)))) (fe_g (T.g 0 (by decide)) (by rfl)) (by rfl)) 
      (fss_one (fs_ret fe_bl)) 
      fss_nil) 
    (fss_one (fs_ret (fe_cmp (k_isn C) (fe_callD (T.F 7 (by decide)) (T.dd 0 (by decide)) (vals_1 (T.dv 0 (by decide))) (rws_1 (T.dw 0 (by decide))) C (by rfl) (fa_cons (fe_call (T.F 13 (by decide)) (T.D 13 (by decide)) C (by rfl) (fa_cons (fv 0) fa_nil)) fa_nil)) fe_non (by rfl)))))))
/-! _is_instruction -/
abbrev s__is_instruction : Stmt := topK 25
abbrev N__is_instruction : List Str := ["value", "number", "word", "name", "answer", "target"]
theorem sc__is_instruction : FnScope N__is_instruction ["value", "number"] (defScope s__is_instruction) := ⟨rfl, rfl, rfl, by decide +kernel, rfl, by decide +kernel, by decide +kernel⟩
def m__is_instruction (c : Cs) : FS :=
    (fSeq (fIfS (fNotT (fTr (fIsi "tuple" (fV 0)))) 
      (fRet (fC (.bool false))) 
      fNext) 
    (fSeq (fIfS (fB (f2 cEq (fB1 oLen (fCons (fV 0) fNil)) (fC (.int 2)))) 
      (fRet (fAnd (f2 cEq (f2 oIx (fV 0) (fC (.int 0))) (fC (.str "goto"))) (fCall 2 (c i_is_target) [] (fCons (f2 oIx (fV 0) (fC (.int 1))) (fCons (fV 1) fNil))))) 
      fNext) 
    (fSeq (fIfS (fB (f2 cNe (fB1 oLen (fCons (fV 0) fNil)) (fC (.int 4)))) 
      (fRet (fC (.bool false))) 
      fNext) 
    (fSeq (fAsg (gTp 4 (gCs (gNm 2) (gCs (gNm 3) (gCs (gNm 4) (gCs (gNm 5) gNo))))) (fV 0)) 
    (fRet (fAnd (f2 cEq (fV 2) (fC (.str "jump"))) (fAnd (fCall 1 (c i_is_name) [] (fCons (fV 3) fNil)) (fAnd (f2 cIn (fV 4) (fC (sg.gdt 3))) (fCall 2 (c i_is_target) [] (fCons (fV 5) (fCons (fV 1) fNil)))))))))))
theorem ok__is_instruction {P : Program} {w : World} {K : PySem.W.Frag} {mg : Str → Option Value} {base : Heap} {n : Nat} {y : Dy} {c : Cs} (T : Tab P w K mg base y n c) {f : Addr} {fd : FuncData} (F : FunF K "_is_instruction" s__is_instruction f fd) :
    FnF P w mg base (XRof K er y.cs w) (n + 1) f fd ["value", "number"] (fDef N__is_instruction.length (m__is_instruction c)) := okF F sc__is_instruction fun cdv A outer s H E C =>
    (fss_cons (fs_if (ft_not (ft_tr (fe_isi (T := "tuple") (T.b "isinstance" (by decide)) (by rfl) (fv 0) (T.b "tuple" (by decide)) (by rfl) (by decide +kernel)) (by intro _; rfl))) 
      (fss_one (fs_ret fe_bl)) 
      fss_nil) 
    (fss_cons (fs_if (ft_cmp (k_eq C) (fe_len (T.b "len" (by decide)) (by rfl) (fa_cons (fv 0) fa_nil)) fe_int (by rfl)) 
      (fss_one (fs_ret (fe_and (fe_cmp (k_eq C) (fe_ix C (fv 0) fe_int (fun _ _ => rfl)) fe_str (by rfl)) (fe_one (fe_call (T.F 3 (by decide)) (T.D 3 (by decide)) C (by rfl) (fa_cons (fe_ix C (fv 0) fe_int (fun _ _ => rfl)) (fa_cons (fv 1) fa_nil))))))) 
      fss_nil) 
    (fss_cons (fs_if (ft_cmp (k_ne C) (fe_len (T.b "len" (by decide)) (by rfl) (fa_cons (fv 0) fa_nil)) fe_int (by rfl)) 
      (fss_one (fs_ret fe_bl)) 
      fss_nil) 
    (fss_cons (fs_asg (fv 0) (fg_tup rfl (fgs_cons (fg_nm (i := 2) sc__is_instruction.nd rfl (by first | exact Or.inl rfl | exact Or.inr rfl)) (fgs_cons (fg_nm (i := 3) sc__is_instruction.nd rfl (by first | exact Or.inl rfl | exact Or.inr rfl)) (fgs_cons (fg_nm (i := 4) sc__is_instruction.nd rfl (by first | exact Or.inl rfl | exact Or.inr rfl)) (fgs_cons (fg_nm (i := 5) sc__is_instruction.nd rfl (by first | exact Or.inl rfl | exact Or.inr rfl)) fgs_nil)))))) 
    (fss_one (fs_ret (fe_and (fe_cmp (k_eq C) (fv 2) fe_str (by rfl)) (fe_and (fe_call (T.F 0 (by decide)) (T.D 0 (by decide)) C (by rfl) (fa_cons (fv 3) fa_nil)) (fe_and (fe_cmp (k_in C) (fv 4) (fe_g (T.g 3 (by decide)) (by rfl)) (by rfl)) (fe_one (fe_call (T.F 3 (by decide)) (T.D 3 (by decide)) C (by rfl) (fa_cons (fv 5) (fa_cons (fv 1) fa_nil)))))))))))))
/-! _check_machine -/
abbrev s__check_machine : Stmt := topK 26
abbrev N__check_machine : List Str := ["value"]
theorem sc__check_machine : FnScope N__check_machine ["value"] (defScope s__check_machine) := ⟨rfl, rfl, rfl, by decide +kernel, rfl, by decide +kernel, by decide +kernel⟩
def m__check_machine (c : Cs) : FS :=
    (fIfS (fNotT (fTr (fCall 1 (c i_is_machine) [] (fCons (fV 0) fNil)))) 
      (fRaise 2) 
      fNext)
theorem ok__check_machine {P : Program} {w : World} {K : PySem.W.Frag} {mg : Str → Option Value} {base : Heap} {n : Nat} {y : Dy} {c : Cs} (T : Tab P w K mg base y n c) {f : Addr} {fd : FuncData} (F : FunF K "_check_machine" s__check_machine f fd) :
    FnF P w mg base (XRof K er y.cs w) (n + 1) f fd ["value"] (fDef N__check_machine.length (m__check_machine c)) := okF F sc__check_machine fun cdv A outer s H E C =>
    (fss_one (fs_if (ft_not (ft_tr (fe_call (T.F 10 (by decide)) (T.D 10 (by decide)) C (by rfl) (fa_cons (fv 0) fa_nil)) (by intro _; rfl))) 
      (fss_one (fs_raise C (T.rz 2 (by decide) rfl _ rfl rfl (by rfl)) (T.rd 2 (by decide) rfl))) 
      fss_nil))
/-! _rows -/
abbrev s__rows : Stmt := topK 27
abbrev N__rows : List Str := ["machine", "at", "instruction"]
theorem sc__rows : FnScope N__rows ["machine"] (defScope s__rows) := ⟨rfl, rfl, rfl, by decide +kernel, rfl, by decide +kernel, by decide +kernel⟩
def m__rows (c : Cs) : FS :=
    (fRet (fLc (fEnum (fCons (fV 0) fNil)) (gTp 2 (gCs (gNm 1) (gCs (gNm 2) gNo))) fYes (fCall 2 (c i__row) [] (fCons (fV 2) (fCons (f2 oAdd (fV 1) (fC (.int 1))) fNil))) [1, 2]))
theorem ok__rows {P : Program} {w : World} {K : PySem.W.Frag} {mg : Str → Option Value} {base : Heap} {n : Nat} {y : Dy} {c : Cs} (T : Tab P w K mg base y n c) {f : Addr} {fd : FuncData} (F : FunF K "_rows" s__rows f fd) :
    FnF P w mg base (XRof K er y.cs w) (n + 1) f fd ["machine"] (fDef N__rows.length (m__rows c)) := okF F sc__rows fun cdv A outer s H E C =>
    (fss_one (fs_ret (fe_lc0 [("at", 1), ("instruction", 2)] C sc__rows.nd (fi_enum (by rfl) (T.b "enumerate" (by decide)) (fa_cons (fv 0) fa_nil)) (blkOk_by (N := N__rows) (sc := defScope s__rows) (by decide +kernel)) (fun _ _ _ _ _ => (fg_tup rfl (fgs_cons (fg_nm (i := 1) sc__rows.nd rfl (by first | exact Or.inl rfl | exact Or.inr rfl)) (fgs_cons (fg_nm (i := 2) sc__rows.nd rfl (by first | exact Or.inl rfl | exact Or.inr rfl)) fgs_nil)))) (by decide) (fun _ _ _ _ _ => (fe_call (T.F 14 (by decide)) (T.D 14 (by decide)) C.blk (by rfl) (fa_cons (fv 2) (fa_cons (fe_add (fv 1) fe_int) fa_nil)))))))
/-! _row -/
abbrev s__row : Stmt := topK 28
abbrev N__row : List Str := ["instruction", "behind", "_", "name", "answer", "target"]
theorem sc__row : FnScope N__row ["instruction", "behind"] (defScope s__row) := ⟨rfl, rfl, rfl, by decide +kernel, rfl, by decide +kernel, by decide +kernel⟩
def m__row (c : Cs) : FS :=
    (fSeq (fIfS (fB (f2 cEq (f2 oIx (fV 0) (fC (.int 0))) (fC (.str "goto")))) 
      (fRet (fTup (fCons (fC .none) (fCons (f2 oIx (fV 0) (fC (.int 1))) (fCons (f2 oIx (fV 0) (fC (.int 1))) fNil))))) 
      fNext) 
    (fSeq (fAsg (gTp 4 (gCs (gNm 2) (gCs (gNm 3) (gCs (gNm 4) (gCs (gNm 5) gNo))))) (fV 0)) 
    (fRet (fIf (fB (f2 cEq (fV 4) (fC (.str "yes")))) (fTup (fCons (fV 3) (fCons (fV 5) (fCons (fV 1) fNil)))) (fTup (fCons (fV 3) (fCons (fV 1) (fCons (fV 5) fNil))))))))
theorem ok__row {P : Program} {w : World} {K : PySem.W.Frag} {mg : Str → Option Value} {base : Heap} {n : Nat} {y : Dy} {c : Cs} (T : Tab P w K mg base y n c) {f : Addr} {fd : FuncData} (F : FunF K "_row" s__row f fd) :
    FnF P w mg base (XRof K er y.cs w) (n + 1) f fd ["instruction", "behind"] (fDef N__row.length (m__row c)) := okF F sc__row fun cdv A outer s H E C =>
    (fss_cons (fs_if (ft_cmp (k_eq C) (fe_ix C (fv 0) fe_int (fun _ _ => rfl)) fe_str (by rfl)) 
      (fss_one (fs_ret (fe_tup (fa_cons fe_non (fa_cons (fe_ix C (fv 0) fe_int (fun _ _ => rfl)) (fa_cons (fe_ix C (fv 0) fe_int (fun _ _ => rfl)) fa_nil)))))) 
      fss_nil) 
    (fss_cons (fs_asg (fv 0) (fg_tup rfl (fgs_cons (fg_nm (i := 2) sc__row.nd rfl (by first | exact Or.inl rfl | exact Or.inr rfl)) (fgs_cons (fg_nm (i := 3) sc__row.nd rfl (by first | exact Or.inl rfl | exact Or.inr rfl)) (fgs_cons (fg_nm (i := 4) sc__row.nd rfl (by first | exact Or.inl rfl | exact Or.inr rfl)) (fgs_cons (fg_nm (i := 5) sc__row.nd rfl (by first | exact Or.inl rfl | exact Or.inr rfl)) fgs_nil)))))) 
    (fss_one (fs_ret (fe_if (ft_cmp (k_eq C) (fv 4) fe_str (by rfl)) (fe_tup (fa_cons (fv 3) (fa_cons (fv 5) (fa_cons (fv 1) fa_nil)))) (fe_tup (fa_cons (fv 3) (fa_cons (fv 1) (fa_cons (fv 5) fa_nil)))))))))
/-! _rows_without_gotos -/
abbrev s__rows_without_gotos : Stmt := topK 29
abbrev N__rows_without_gotos : List Str := ["machine", "rows", "found", "name", "yes", "no"]
theorem sc__rows_without_gotos : FnScope N__rows_without_gotos ["machine"] (defScope s__rows_without_gotos) := ⟨rfl, rfl, rfl, by decide +kernel, rfl, by decide +kernel, by decide +kernel⟩
def m__rows_without_gotos (c : Cs) : FS :=
    (fSeq (fSet 1 (fCall 1 (c i__rows) [] (fCons (fV 0) fNil))) 
    (fSeq (fSet 2 (fLc (fItems (fV 1)) (gTp 3 (gCs (gNm 3) (gCs (gNm 4) (gCs (gNm 5) gNo)))) fYes (fTup (fCons (fV 3) (fCons (fCall 2 (c i__behind_gotos) [] (fCons (fV 1) (fCons (fV 4) fNil))) (fCons (fCall 2 (c i__behind_gotos) [] (fCons (fV 1) (fCons (fV 5) fNil))) fNil)))) [3, 4, 5])) 
    (fRet (fTup (fCons (fV 2) (fCons (fCall 2 (c i__behind_gotos) [] (fCons (fV 1) (fCons (fC (.int 0)) fNil))) fNil))))))
theorem ok__rows_without_gotos {P : Program} {w : World} {K : PySem.W.Frag} {mg : Str → Option Value} {base : Heap} {n : Nat} {y : Dy} {c : Cs} (T : Tab P w K mg base y n c) {f : Addr} {fd : FuncData} (F : FunF K "_rows_without_gotos" s__rows_without_gotos f fd) :
    FnF P w mg base (XRof K er y.cs w) (n + 1) f fd ["machine"] (fDef N__rows_without_gotos.length (m__rows_without_gotos c)) := okF F sc__rows_without_gotos fun cdv A outer s H E C =>
    (fss_cons (fs_set (i := 1) sc__rows_without_gotos.nd rfl (by first | exact Or.inl rfl | exact Or.inr rfl) (fe_call (T.F 13 (by decide)) (T.D 13 (by decide)) C (by rfl) (fa_cons (fv 0) fa_nil))) 
    (fss_cons (fs_setLc0 (i := 2) [("name", 3), ("yes", 4), ("no", 5)] C sc__rows_without_gotos.nd rfl (by first | rfl | decide +kernel) (by rfl) (fi_any (fv 1)) (blkOk_by (N := N__rows_without_gotos) (sc := defScope s__rows_without_gotos) (by decide +kernel)) (fun _ _ _ _ _ => (fg_tup rfl (fgs_cons (fg_nm (i := 3) sc__rows_without_gotos.nd rfl (by first | exact Or.inl rfl | exact Or.inr rfl)) (fgs_cons (fg_nm (i := 4) sc__rows_without_gotos.nd rfl (by first | exact Or.inl rfl | exact Or.inr rfl)) (fgs_cons (fg_nm (i := 5) sc__rows_without_gotos.nd rfl (by first | exact Or.inl rfl | exact Or.inr rfl)) fgs_nil))))) (by decide) (fun _ _ _ _ _ => (fe_tup (fa_cons (fv 3) (fa_cons (fe_call (T.F 16 (by decide)) (T.D 16 (by decide)) C.blk (by rfl) (fa_cons (fv 1) (fa_cons (fv 4) fa_nil))) (fa_cons (fe_call (T.F 16 (by decide)) (T.D 16 (by decide)) C.blk (by rfl) (fa_cons (fv 1) (fa_cons (fv 5) fa_nil))) fa_nil)))))) 
    (fss_one (fs_ret (fe_tup (fa_cons (fv 2) (fa_cons (fe_call (T.F 16 (by decide)) (T.D 16 (by decide)) C (by rfl) (fa_cons (fv 1) (fa_cons fe_int fa_nil))) fa_nil)))))))
/-! _behind_gotos -/
abbrev s__behind_gotos : Stmt := topK 30
abbrev N__behind_gotos : List Str := ["rows", "target"]
theorem sc__behind_gotos : FnScope N__behind_gotos ["rows", "target"] (defScope s__behind_gotos) := ⟨rfl, rfl, rfl, by decide +kernel, rfl, by decide +kernel, by decide +kernel⟩
def m__behind_gotos (c : Cs) : FS :=
    (fSeq (fWhile (fAndT (fTr (fIsi "int" (fV 1))) (fB (f2 cIs (f2 oIx (f2 oIx (fV 0) (fV 1)) (fC (.int 0))) (fC .none)))) 
      (fSet 1 (f2 oIx (f2 oIx (fV 0) (fV 1)) (fC (.int 1))))) 
    (fRet (fV 1)))
theorem ok__behind_gotos {P : Program} {w : World} {K : PySem.W.Frag} {mg : Str → Option Value} {base : Heap} {n : Nat} {y : Dy} {c : Cs} (T : Tab P w K mg base y n c) {f : Addr} {fd : FuncData} (F : FunF K "_behind_gotos" s__behind_gotos f fd) :
    FnF P w mg base (XRof K er y.cs w) (n + 1) f fd ["rows", "target"] (fDef N__behind_gotos.length (m__behind_gotos c)) := okF F sc__behind_gotos fun cdv A outer s H E C =>
    (fss_cons (fs_while C (ft_w (fw_and (ft_tr (fe_isi (T := "int") (T.b "isinstance" (by decide)) (by rfl) (fv 1) (T.b "int" (by decide)) (by rfl) (by decide +kernel)) (by intro _; rfl)) (fw_and1 (ft_cmp (k_is C) (fe_ix C (fe_ix C (fv 0) (fv 1) (fun _ _ => rfl)) fe_int (fun _ _ => rfl)) fe_non (by rfl))))) 
      (fss_one (fs_set (i := 1) sc__behind_gotos.nd rfl (by first | exact Or.inl rfl | exact Or.inr rfl) (fe_ix C (fe_ix C (fv 0) (fv 1) (fun _ _ => rfl)) fe_int (fun _ _ => rfl))))) 
    (fss_one (fs_ret (fv 1))))
/-! code_of -/
abbrev s_code_of : Stmt := topK 31
abbrev N_code_of : List Str := ["machine", "rows", "start"]
theorem sc_code_of : FnScope N_code_of ["machine"] (defScope s_code_of) := ⟨rfl, rfl, rfl, by decide +kernel, rfl, by decide +kernel, by decide +kernel⟩
def m_code_of (c : Cs) : FS :=
    (fSeq (fDrop (fCall 1 (c i__check_machine) [] (fCons (fV 0) fNil))) 
    (fSeq (fAsg (gTp 2 (gCs (gNm 1) (gCs (gNm 2) gNo))) (fCall 1 (c i__rows_without_gotos) [] (fCons (fV 0) fNil))) 
    (fRet (fIf (fTr (fIsi "str" (fV 2))) (fC .none) (fCall 1 (c i_bounded) [] (fCons (fCall 2 (c i_tidied) [] (fCons (fV 1) (fCons (fV 2) fNil))) fNil))))))
theorem ok_code_of {P : Program} {w : World} {K : PySem.W.Frag} {mg : Str → Option Value} {base : Heap} {n : Nat} {y : Dy} {c : Cs} (T : Tab P w K mg base y n c) {f : Addr} {fd : FuncData} (F : FunF K "code_of" s_code_of f fd) :
    FnF P w mg base (XRof K er y.cs w) (n + 1) f fd ["machine"] (fDef N_code_of.length (m_code_of c)) := okF F sc_code_of fun cdv A outer s H E C =>
    (fss_cons (fs_expr (fe_call (T.F 12 (by decide)) (T.D 12 (by decide)) C (by rfl) (fa_cons (fv 0) fa_nil))) 
    (fss_cons (fs_asg (fe_call (T.F 15 (by decide)) (T.D 15 (by decide)) C (by rfl) (fa_cons (fv 0) fa_nil)) (fg_tup rfl (fgs_cons (fg_nm (i := 1) sc_code_of.nd rfl (by first | exact Or.inl rfl | exact Or.inr rfl)) (fgs_cons (fg_nm (i := 2) sc_code_of.nd rfl (by first | exact Or.inl rfl | exact Or.inr rfl)) fgs_nil)))) 
    (fss_one (fs_ret (fe_if (ft_tr (fe_isi (T := "str") (T.b "isinstance" (by decide)) (by rfl) (fv 2) (T.b "str" (by decide)) (by rfl) (by decide +kernel)) (by intro _; rfl)) fe_non (fe_call (T.F 6 (by decide)) (T.D 6 (by decide)) C (by rfl) (fa_cons (fe_call (T.F 7 (by decide)) (T.D 7 (by decide)) C (by rfl) (fa_cons (fv 1) (fa_cons (fv 2) fa_nil))) fa_nil)))))))
/-! instructions -/
abbrev s_instructions : Stmt := topK 32
abbrev N_instructions : List Str := ["code"]
theorem sc_instructions : FnScope N_instructions ["code"] (defScope s_instructions) := ⟨rfl, rfl, rfl, by decide +kernel, rfl, by decide +kernel, by decide +kernel⟩
def m_instructions (c : Cs) : FS :=
    (fSeq (fDrop (fCall 1 (c i_check_code) [] (fCons (fV 0) fNil))) 
    (fRet (f2 oSub (f2 oMul (fC (.int 2)) (fB1 oLen (fCons (fV 0) fNil))) (fB1 oLen (fCons (fCall 1 (c i__followers) [] (fCons (fV 0) fNil)) fNil)))))
theorem ok_instructions {P : Program} {w : World} {K : PySem.W.Frag} {mg : Str → Option Value} {base : Heap} {n : Nat} {y : Dy} {c : Cs} (T : Tab P w K mg base y n c) {f : Addr} {fd : FuncData} (F : FunF K "instructions" s_instructions f fd) :
    FnF P w mg base (XRof K er y.cs w) (n + 1) f fd ["code"] (fDef N_instructions.length (m_instructions c)) := okF F sc_instructions fun cdv A outer s H E C =>
    (fss_cons (fs_expr (fe_call (T.F 4 (by decide)) (T.D 4 (by decide)) C (by rfl) (fa_cons (fv 0) fa_nil))) 
    (fss_one (fs_ret (fe_sub (fe_mul fe_int (fe_len (T.b "len" (by decide)) (by rfl) (fa_cons (fv 0) fa_nil))) (fe_len (T.b "len" (by decide)) (by rfl) (fa_cons (fe_call (T.F 21 (by decide)) (T.D 21 (by decide)) C (by rfl) (fa_cons (fv 0) fa_nil)) fa_nil))))))
/-! machine -/
abbrev s_machine : Stmt := topK 33
abbrev N_machine : List Str := ["code", "followers", "places", "found", "at", "name", "yes", "no"]
theorem sc_machine : FnScope N_machine ["code"] (defScope s_machine) := ⟨rfl, rfl, rfl, by decide +kernel, rfl, by decide +kernel, by decide +kernel⟩
def m_machine (c : Cs) : FS :=
    (fSeq (fDrop (fCall 1 (c i_check_code) [] (fCons (fV 0) fNil))) 
    (fSeq (fSet 1 (fCall 1 (c i__followers) [] (fCons (fV 0) fNil))) 
    (fSeq (fSet 2 (fCall 2 (c i__places) [] (fCons (fV 0) (fCons (fV 1) fNil)))) 
    (fSeq (fSet 3 (fMut fNil)) 
    (fSeq (fFor (fItems (fV 2)) (gNm 4) 
      (fSeq (fAsg (gTp 3 (gCs (gNm 5) (gCs (gNm 6) (gCs (gNm 7) gNo)))) (f2 oIx (fV 0) (fV 4))) 
      (fSeq (fIfS (fAndT (fB (f2 cIn (fV 4) (fV 1))) (fB (f2 cEq (f2 oIx (fV 1) (fV 4)) (fV 6)))) 
        (fDrop (fM oAppend (fV 3) (fCons (fTup (fCons (fC (.str "jump")) (fCons (fV 5) (fCons (fC (.str "no")) (fCons (fGet2 (fV 2) (fV 7) (fV 7)) fNil))))) fNil))) 
        (fDrop (fM oAppend (fV 3) (fCons (fTup (fCons (fC (.str "jump")) (fCons (fV 5) (fCons (fC (.str "yes")) (fCons (fGet2 (fV 2) (fV 6) (fV 6)) fNil))))) fNil)))) 
      (fIfS (fB (f2 cNi (fV 4) (fV 1))) 
        (fDrop (fM oAppend (fV 3) (fCons (fTup (fCons (fC (.str "goto")) (fCons (fGet2 (fV 2) (fV 7) (fV 7)) fNil))) fNil))) 
        fNext)))) 
    (fRet (fB1 (o1 tupW) (fCons (fV 3) fNil))))))))
theorem ok_machine {P : Program} {w : World} {K : PySem.W.Frag} {mg : Str → Option Value} {base : Heap} {n : Nat} {y : Dy} {c : Cs} (T : Tab P w K mg base y n c) {f : Addr} {fd : FuncData} (F : FunF K "machine" s_machine f fd) :
    FnF P w mg base (XRof K er y.cs w) (n + 1) f fd ["code"] (fDef N_machine.length (m_machine c)) := okF F sc_machine fun cdv A outer s H E C =>
    (fss_cons (fs_expr (fe_call (T.F 4 (by decide)) (T.D 4 (by decide)) C (by rfl) (fa_cons (fv 0) fa_nil))) 
    (fss_cons (fs_set (i := 1) sc_machine.nd rfl (by first | exact Or.inl rfl | exact Or.inr rfl) (fe_call (T.F 21 (by decide)) (T.D 21 (by decide)) C (by rfl) (fa_cons (fv 0) fa_nil))) 
    (fss_cons (fs_set (i := 2) sc_machine.nd rfl (by first | exact Or.inl rfl | exact Or.inr rfl) (fe_call (T.F 20 (by decide)) (T.D 20 (by decide)) C (by rfl) (fa_cons (fv 0) (fa_cons (fv 1) fa_nil)))) 
    (fss_cons (fs_set (i := 3) sc_machine.nd rfl (by first | exact Or.inl rfl | exact Or.inr rfl) (fe_mut fa_nil)) 
    (fss_cons (fs_for C (fi_any (fv 2)) (fg_nm (i := 4) sc_machine.nd rfl (by first | exact Or.inl rfl | exact Or.inr rfl)) 
      (fss_cons (fs_asg (fe_ix C (fv 0) (fv 4) (fun _ _ => rfl)) (fg_tup rfl (fgs_cons (fg_nm (i := 5) sc_machine.nd rfl (by first | exact Or.inl rfl | exact Or.inr rfl)) (fgs_cons (fg_nm (i := 6) sc_machine.nd rfl (by first | exact Or.inl rfl | exact Or.inr rfl)) (fgs_cons (fg_nm (i := 7) sc_machine.nd rfl (by first | exact Or.inl rfl | exact Or.inr rfl)) fgs_nil))))) 
      (fss_cons (fs_if (ft_w (fw_and (ft_cmp (k_in C) (fv 4) (fv 1) (by rfl)) (fw_and1 (ft_cmp (k_eq C) (fe_ix C (fv 1) (fv 4) (fun _ _ => rfl)) (fv 6) (by rfl))))) 
        (fss_one (fs_expr (fe_m opm_append nx_append (pe_bm PySem.F.plainAttrs_list PySem.F.slot_list_append PySem.F.type_list_append mt_append (fv 3) (fa_cons (fe_tup (fa_cons fe_str (fa_cons (fv 5) (fa_cons fe_str (fa_cons (fe_get2 C (fv 2) (fv 7) (fv 7) ⟨by rfl, by rfl, by rfl, by rfl⟩) fa_nil))))) fa_nil))))) 
        (fss_one (fs_expr (fe_m opm_append nx_append (pe_bm PySem.F.plainAttrs_list PySem.F.slot_list_append PySem.F.type_list_append mt_append (fv 3) (fa_cons (fe_tup (fa_cons fe_str (fa_cons (fv 5) (fa_cons fe_str (fa_cons (fe_get2 C (fv 2) (fv 6) (fv 6) ⟨by rfl, by rfl, by rfl, by rfl⟩) fa_nil))))) fa_nil)))))) 
      (fss_one (fs_if (ft_cmp (k_ni C) (fv 4) (fv 1) (by rfl)) 
        (fss_one (fs_expr (fe_m opm_append nx_append (pe_bm PySem.F.plainAttrs_list PySem.F.slot_list_append PySem.F.type_list_append mt_append (fv 3) (fa_cons (fe_tup (fa_cons fe_str (fa_cons (fe_get2 C (fv 2) (fv 7) (fv 7) ⟨by rfl, by rfl, by rfl, by rfl⟩) fa_nil))) fa_nil))))) 
        fss_nil))))) 
    (fss_one (fs_ret (fe_toTup (T.b "tuple" (by decide)) (by rfl) (fa_cons (fv 3) fa_nil)))))))))
/-! _places -/
abbrev s__places : Stmt := topK 34
abbrev N__places : List Str := ["code", "followers", "taken", "places", "number", "first", "at"]
theorem sc__places : FnScope N__places ["code", "followers"] (defScope s__places) := ⟨rfl, rfl, rfl, by decide +kernel, rfl, by decide +kernel, by decide +kernel⟩
def m__places (c : Cs) : FS :=
    (fSeq (fSet 2 (fVals (fV 1))) 
    (fSeq (fSet 3 fNewK) 
    (fSeq (fSet 4 (fC (.int 0))) 
    (fSeq (fFor (fItems (fLc (fRng1 (fCons (fB1 oLen (fCons (fV 0) fNil)) fNil)) (gNm 6) (fB (f2 cNi (fV 6) (fV 2))) (fV 6) [6])) (gNm 5) 
      (fSeq (fSet 6 (fV 5)) 
      (fSeq (fSetKey (fV 4) (fV 3) (fV 6)) 
      (fSeq (fWhile (fB (f2 cIn (fV 6) (fV 1))) 
        (fSeq (fSet 6 (f2 oIx (fV 1) (fV 6))) 
        (fSeq (fAug 4 (fun i j => i + j) (fC (.int 1))) 
        (fSetKey (fV 4) (fV 3) (fV 6))))) 
      (fAug 4 (fun i j => i + j) (fC (.int 2))))))) 
    (fRet (fV 3))))))
theorem ok__places {P : Program} {w : World} {K : PySem.W.Frag} {mg : Str → Option Value} {base : Heap} {n : Nat} {y : Dy} {c : Cs} (T : Tab P w K mg base y n c) {f : Addr} {fd : FuncData} (F : FunF K "_places" s__places f fd) :
    FnF P w mg base (XRof K er y.cs w) (n + 1) f fd ["code", "followers"] (fDef N__places.length (m__places c)) := okF F sc__places fun cdv A outer s H E C =>
    (fss_cons (fs_set (i := 2) sc__places.nd rfl (by first | exact Or.inl rfl | exact Or.inr rfl) (fe_vals C (T.b "list" (by decide)) (by rfl) (fv 1))) 
    (fss_cons (fs_set (i := 3) sc__places.nd rfl (by first | exact Or.inl rfl | exact Or.inr rfl) fe_newK) 
    (fss_cons (fs_set (i := 4) sc__places.nd rfl (by first | exact Or.inl rfl | exact Or.inr rfl) fe_int) 
    (fss_cons (fs_for C (fi_any (fe_lc1 [("at", 6)] C sc__places.nd (fi_rng1 (by rfl) (T.b "range" (by decide)) (fa_cons (fe_len (T.b "len" (by decide)) (by rfl) (fa_cons (fv 0) fa_nil)) fa_nil)) (blkOk_by (N := N__places) (sc := defScope s__places) (by decide +kernel)) (fun _ _ _ _ _ => (fg_nm (i := 6) sc__places.nd rfl (by first | exact Or.inl rfl | exact Or.inr rfl))) (by decide) (fun _ _ _ _ _ => (ft_cmp (k_ni C.blk) (fv 6) (fv 2) (by rfl))) (fun _ _ _ _ _ => (fv 6)))) (fg_nm (i := 5) sc__places.nd rfl (by first | exact Or.inl rfl | exact Or.inr rfl)) 
      (fss_cons (fs_set (i := 6) sc__places.nd rfl (by first | exact Or.inl rfl | exact Or.inr rfl) (fv 5)) 
      (fss_cons (fs_setKey C (fv 4) (fv 3) (fv 6)) 
      (fss_cons (fs_while C (ft_cmp (k_in C) (fv 6) (fv 1) (by rfl)) 
        (fss_cons (fs_set (i := 6) sc__places.nd rfl (by first | exact Or.inl rfl | exact Or.inr rfl) (fe_ix C (fv 1) (fv 6) (fun _ _ => rfl))) 
        (fss_cons (fs_aug (i := 4) ip_add sc__places.nd rfl (by first | exact Or.inl rfl | exact Or.inr rfl) fe_int) 
        (fss_one (fs_setKey C (fv 4) (fv 3) (fv 6)))))) 
      (fss_one (fs_aug (i := 4) ip_add sc__places.nd rfl (by first | exact Or.inl rfl | exact Or.inr rfl) fe_int)))))) 
    (fss_one (fs_ret (fv 3)))))))
/-! _followers -/
abbrev s__followers : Stmt := topK 35
abbrev N__followers : List Str := ["code", "found", "at", "target", "row"]
theorem sc__followers : FnScope N__followers ["code"] (defScope s__followers) := ⟨rfl, rfl, rfl, by decide +kernel, rfl, by decide +kernel, by decide +kernel⟩
def m__followers (c : Cs) : FS :=
    (fSeq (fSet 1 fNewK) 
    (fSeq (fFor (fRng1 (fCons (fB1 oLen (fCons (fV 0) fNil)) fNil)) (gNm 2) 
      (fDrop (fCall 4 (c i__follow) [] (fCons (fV 0) (fCons (fV 2) (fCons (fV 1) (fCons fNewK fNil))))))) 
    (fRet (fDcI 1 (gTp 2 (gCs (gNm 3) (gCs (gNm 4) gNo))) (fV 4) (fV 3) [3, 4]))))
theorem ok__followers {P : Program} {w : World} {K : PySem.W.Frag} {mg : Str → Option Value} {base : Heap} {n : Nat} {y : Dy} {c : Cs} (T : Tab P w K mg base y n c) {f : Addr} {fd : FuncData} (F : FunF K "_followers" s__followers f fd) :
    FnF P w mg base (XRof K er y.cs w) (n + 1) f fd ["code"] (fDef N__followers.length (m__followers c)) := okF F sc__followers fun cdv A outer s H E C =>
    (fss_cons (fs_set (i := 1) sc__followers.nd rfl (by first | exact Or.inl rfl | exact Or.inr rfl) fe_newK) 
    (fss_cons (fs_for C (fi_rng1 (by rfl) (T.b "range" (by decide)) (fa_cons (fe_len (T.b "len" (by decide)) (by rfl) (fa_cons (fv 0) fa_nil)) fa_nil)) (fg_nm (i := 2) sc__followers.nd rfl (by first | exact Or.inl rfl | exact Or.inr rfl)) 
      (fss_one (fs_expr (fe_call (T.F 22 (by decide)) (T.D 22 (by decide)) C (by rfl) (fa_cons (fv 0) (fa_cons (fv 2) (fa_cons (fv 1) (fa_cons fe_newK fa_nil)))))))) 
    (fss_one (fs_ret (fe_dcI (i := 1) [("target", 3), ("row", 4)] C sc__followers.nd rfl (by first | exact Or.inl rfl | exact Or.inr (Or.inl rfl) | exact Or.inr (Or.inr rfl)) (blkOk_by (N := N__followers) (sc := defScope s__followers) (by decide +kernel)) (fun _ _ _ _ _ => (fg_tup rfl (fgs_cons (fg_nm (i := 3) sc__followers.nd rfl (by first | exact Or.inl rfl | exact Or.inr rfl)) (fgs_cons (fg_nm (i := 4) sc__followers.nd rfl (by first | exact Or.inl rfl | exact Or.inr rfl)) fgs_nil)))) (by decide) (fun _ _ _ _ _ => (fv 4)) (fun _ _ _ _ _ => (fv 3)))))))
/-! _follow -/
abbrev s__follow : Stmt := topK 36
abbrev N__follow : List Str := ["code", "at", "found", "tried", "target"]
theorem sc__follow : FnScope N__follow ["code", "at", "found", "tried"] (defScope s__follow) := ⟨rfl, rfl, rfl, by decide +kernel, rfl, by decide +kernel, by decide +kernel⟩
def m__follow (c : Cs) : FS :=
    (fSeq (fFor (fItems (fSl (f2 oIx (fV 0) (fV 1)) (fP (fC (.int 1))) fNoP)) (gNm 4) 
      (fIfS (fAndT (fTr (fIsi "int" (fV 4))) (fB (f2 cNi (fV 4) (fV 3)))) 
        (fSeq (fSetKey (fC (.bool true)) (fV 3) (fV 4)) 
        (fIfS (fOrT (fB (f2 cNi (fV 4) (fV 2))) (fTr (fCall 4 (c i__follow) [] (fCons (fV 0) (fCons (f2 oIx (fV 2) (fV 4)) (fCons (fV 2) (fCons (fV 3) fNil))))))) 
          (fSeq (fSetKey (fV 1) (fV 2) (fV 4)) 
          (fRet (fC (.bool true)))) 
          fNext)) 
        fNext)) 
    (fRet (fC (.bool false))))
theorem ok__follow {P : Program} {w : World} {K : PySem.W.Frag} {mg : Str → Option Value} {base : Heap} {n : Nat} {y : Dy} {c : Cs} (T : Tab P w K mg base y n c) {f : Addr} {fd : FuncData} (F : FunF K "_follow" s__follow f fd) :
    FnF P w mg base (XRof K er y.cs w) (n + 1) f fd ["code", "at", "found", "tried"] (fDef N__follow.length (m__follow c)) := okF F sc__follow fun cdv A outer s H E C =>
    (fss_cons (fs_for C (fi_any (fe_sl (fe_ix C (fv 0) (fv 1) (fun _ _ => rfl)) (fo_some fe_int) fo_none)) (fg_nm (i := 4) sc__follow.nd rfl (by first | exact Or.inl rfl | exact Or.inr rfl)) 
      (fss_one (fs_if (ft_w (fw_and (ft_tr (fe_isi (T := "int") (T.b "isinstance" (by decide)) (by rfl) (fv 4) (T.b "int" (by decide)) (by rfl) (by decide +kernel)) (by intro _; rfl)) (fw_and1 (ft_cmp (k_ni C) (fv 4) (fv 3) (by rfl))))) 
        (fss_cons (fs_setKey C fe_bl (fv 3) (fv 4)) 
        (fss_one (fs_if (ft_w (fw_or (ft_cmp (k_ni C) (fv 4) (fv 2) (by rfl)) (fw_or1 (ft_tr (fe_call (T.F 22 (by decide)) (T.D 22 (by decide)) C (by rfl) (fa_cons (fv 0) (fa_cons (fe_ix C (fv 2) (fv 4) (fun _ _ => rfl)) (fa_cons (fv 2) (fa_cons (fv 3) fa_nil))))) (by intro _; rfl))))) 
          (fss_cons (fs_setKey C (fv 1) (fv 2) (fv 4)) 
          (fss_one (fs_ret fe_bl))) 
          fss_nil))) 
        fss_nil))) 
    (fss_one (fs_ret fe_bl)))
/-! _law_mixed -/
abbrev s__law_mixed : Stmt := topK 38
abbrev N__law_mixed : List Str := ["cell", "k", "mix"]
theorem sc__law_mixed : FnScope N__law_mixed ["cell", "k"] (defScope s__law_mixed) := ⟨rfl, rfl, rfl, by decide +kernel, rfl, by decide +kernel, by decide +kernel⟩
def m__law_mixed (c : Cs) : FS :=
    (fSeq (fSet 2 (f2 oMod (fB1 (o1 intW) (fCons (f2 oAdd (f2 oAdd (f2 oMul (f2 oMod (fB1 (o1 intW) (fCons (fV 0) fNil)) (fC (.int 2147483647))) (fC (.int 48271))) (f2 oMul (fV 1) (fC (.int 69621)))) (fC (.int 1048583))) fNil)) (fC (.int 2147483629)))) 
    (fSeq (fSet 2 (f2 oMod (fB1 (o1 intW) (fCons (f2 oMul (fV 2) (fV 2)) fNil)) (fC (.int 2147483587)))) 
    (fRet (f2 oMod (fB1 (o1 intW) (fCons (f2 oMul (fV 2) (f2 oAdd (fV 2) (fC (.int 2)))) fNil)) (fC (.int 2147483579))))))
theorem ok__law_mixed {P : Program} {w : World} {K : PySem.W.Frag} {mg : Str → Option Value} {base : Heap} {n : Nat} {y : Dy} {c : Cs} (T : Tab P w K mg base y n c) {f : Addr} {fd : FuncData} (F : FunF K "_law_mixed" s__law_mixed f fd) :
    FnF P w mg base (XRof K er y.cs w) (n + 1) f fd ["cell", "k"] (fDef N__law_mixed.length (m__law_mixed c)) := okF F sc__law_mixed fun cdv A outer s H E C =>
    (fss_cons (fs_set (i := 2) sc__law_mixed.nd rfl (by first | exact Or.inl rfl | exact Or.inr rfl) (fe_mod (fe_toInt (T.b "int" (by decide)) (by rfl) (fa_cons (fe_add (fe_add (fe_mul (fe_mod (fe_toInt (T.b "int" (by decide)) (by rfl) (fa_cons (fv 0) fa_nil)) fe_int) fe_int) (fe_mul (fv 1) fe_int)) fe_int) fa_nil)) fe_int)) 
    (fss_cons (fs_set (i := 2) sc__law_mixed.nd rfl (by first | exact Or.inl rfl | exact Or.inr rfl) (fe_mod (fe_toInt (T.b "int" (by decide)) (by rfl) (fa_cons (fe_mul (fv 2) (fv 2)) fa_nil)) fe_int)) 
    (fss_one (fs_ret (fe_mod (fe_toInt (T.b "int" (by decide)) (by rfl) (fa_cons (fe_mul (fv 2) (fe_add (fv 2) fe_int)) fa_nil)) fe_int)))))
/-! _law_cell -/
abbrev s__law_cell : Stmt := topK 39
abbrev N__law_cell : List Str := ["script", "k", "cell", "found", "j"]
theorem sc__law_cell : FnScope N__law_cell ["script", "k"] (defScope s__law_cell) := ⟨rfl, rfl, rfl, by decide +kernel, rfl, by decide +kernel, by decide +kernel⟩
def m__law_cell (c : Cs) : FS :=
    (fSeq (fSet 2 (fC (.int 0))) 
    (fSeq (fIfS (fB (f2 cLt (fV 1) (fB1 oLen (fCons (fV 0) fNil)))) 
      (fSet 2 (f2 oIx (fV 0) (fV 1))) 
      fNext) 
    (fSeq (fIfS (fB (f2 cGe (fV 2) (f2 oPow (fC (.int 10)) (fC (.int 18))))) 
      (fRet (f2 oMod (fB1 (o1 intW) (fCons (f2 oSub (fV 2) (f2 oPow (fC (.int 10)) (fC (.int 18)))) fNil)) (f2 oMul (f2 oMul (f2 oMul (f2 oPow (fC (.int 10)) (fC (.int 60))) (f2 oPow (fC (.int 10)) (fC (.int 60)))) (f2 oPow (fC (.int 10)) (fC (.int 60)))) (f2 oPow (fC (.int 10)) (fC (.int 60)))))) 
      fNext) 
    (fSeq (fSet 3 (fC (.int 0))) 
    (fSeq (fFor (fRng1 (fCons (fC (.int 24)) fNil)) (gNm 4) 
      (fSet 3 (f2 oAdd (f2 oMul (fV 3) (fC (.int 2147483579))) (fCall 2 (c i__law_mixed) [] (fCons (fV 2) (fCons (f2 oAdd (f2 oAdd (f2 oMul (fC (.int 7)) (fV 1)) (f2 oMul (fC (.int 100)) (fV 4))) (f2 oMul (fV 4) (fV 4))) fNil)))))) 
    (fRet (fV 3)))))))
theorem ok__law_cell {P : Program} {w : World} {K : PySem.W.Frag} {mg : Str → Option Value} {base : Heap} {n : Nat} {y : Dy} {c : Cs} (T : Tab P w K mg base y n c) {f : Addr} {fd : FuncData} (F : FunF K "_law_cell" s__law_cell f fd) :
    FnF P w mg base (XRof K er y.cs w) (n + 1) f fd ["script", "k"] (fDef N__law_cell.length (m__law_cell c)) := okF F sc__law_cell fun cdv A outer s H E C =>
    (fss_cons (fs_set (i := 2) sc__law_cell.nd rfl (by first | exact Or.inl rfl | exact Or.inr rfl) fe_int) 
    (fss_cons (fs_if (ft_cmp (k_lt C) (fv 1) (fe_len (T.b "len" (by decide)) (by rfl) (fa_cons (fv 0) fa_nil)) (by rfl)) 
      (fss_one (fs_set (i := 2) sc__law_cell.nd rfl (by first | exact Or.inl rfl | exact Or.inr rfl) (fe_ix C (fv 0) (fv 1) (fun _ _ => rfl)))) 
      fss_nil) 
    (fss_cons (fs_if (ft_cmp (k_ge C) (fv 2) (fe_pow fe_int fe_int) (by rfl)) 
      (fss_one (fs_ret (fe_mod (fe_toInt (T.b "int" (by decide)) (by rfl) (fa_cons (fe_sub (fv 2) (fe_pow fe_int fe_int)) fa_nil)) (fe_mul (fe_mul (fe_mul (fe_pow fe_int fe_int) (fe_pow fe_int fe_int)) (fe_pow fe_int fe_int)) (fe_pow fe_int fe_int))))) 
      fss_nil) 
    (fss_cons (fs_set (i := 3) sc__law_cell.nd rfl (by first | exact Or.inl rfl | exact Or.inr rfl) fe_int) 
    (fss_cons (fs_for C (fi_rng1 (by rfl) (T.b "range" (by decide)) (fa_cons fe_int fa_nil)) (fg_nm (i := 4) sc__law_cell.nd rfl (by first | exact Or.inl rfl | exact Or.inr rfl)) 
      (fss_one (fs_set (i := 3) sc__law_cell.nd rfl (by first | exact Or.inl rfl | exact Or.inr rfl) (fe_add (fe_mul (fv 3) fe_int) (fe_call (T.F 23 (by decide)) (T.D 23 (by decide)) C (by rfl) (fa_cons (fv 2) (fa_cons (fe_add (fe_add (fe_mul fe_int (fv 1)) (fe_mul fe_int (fv 4))) (fe_mul (fv 4) (fv 4))) fa_nil))))))) 
    (fss_one (fs_ret (fv 3))))))))
/-! _law_take -/
abbrev s__law_take : Stmt := topK 40
abbrev N__law_take : List Str := ["own", "options", "digit"]
theorem sc__law_take : FnScope N__law_take ["own", "options"] (defScope s__law_take) := ⟨rfl, rfl, rfl, by decide +kernel, rfl, by decide +kernel, by decide +kernel⟩
def m__law_take (c : Cs) : FS :=
    (fSeq (fSet 2 (f2 oMod (fB1 (o1 intW) (fCons (f2 oIx (fV 0) (fC (.int 0))) fNil)) (fV 1))) 
    (fSeq (fSetIx (f2 oDiv (f2 oIx (fV 0) (fC (.int 0))) (fV 1)) (fV 0) (fC (.int 0))) 
    (fRet (fV 2))))
theorem ok__law_take {P : Program} {w : World} {K : PySem.W.Frag} {mg : Str → Option Value} {base : Heap} {n : Nat} {y : Dy} {c : Cs} (T : Tab P w K mg base y n c) {f : Addr} {fd : FuncData} (F : FunF K "_law_take" s__law_take f fd) :
    FnF P w mg base (XRof K er y.cs w) (n + 1) f fd ["own", "options"] (fDef N__law_take.length (m__law_take c)) := okF F sc__law_take fun cdv A outer s H E C =>
    (fss_cons (fs_set (i := 2) sc__law_take.nd rfl (by first | exact Or.inl rfl | exact Or.inr rfl) (fe_mod (fe_toInt (T.b "int" (by decide)) (by rfl) (fa_cons (fe_ix C (fv 0) fe_int (fun _ _ => rfl)) fa_nil)) (fv 1))) 
    (fss_cons (fs_setIx (fe_div (fe_ix C (fv 0) fe_int (fun _ _ => rfl)) (fv 1)) (fv 0) fe_int) 
    (fss_one (fs_ret (fv 2)))))
/-! _law_words -/
abbrev s__law_words : Stmt := topK 41
abbrev N__law_words : List Str := ["own", "many", "some", "at"]
theorem sc__law_words : FnScope N__law_words ["own", "many"] (defScope s__law_words) := ⟨rfl, rfl, rfl, by decide +kernel, rfl, by decide +kernel, by decide +kernel⟩
def m__law_words (c : Cs) : FS :=
    (fSeq (fSet 2 (fLst (fCons (fC (.str "a")) (fCons (fC (.str "ab")) (fCons (fC (.str "goto")) (fCons (fC (.str "test")) (fCons (fC (.str "c")) (fCons (fC (.str "yes")) (fCons (fC (.str "longname")) (fCons (fC (.str "iff")) (fCons (fC (.str "jump")) (fCons (fC (.str "no")) fNil)))))))))))) 
    (fSeq (fSet 3 (fCall 2 (c i__law_take) [] (fCons (fV 0) (fCons (fC (.int 10)) fNil)))) 
    (fRet (fSl (f2 oAdd (fSl (fV 2) (fP (fV 3)) fNoP) (fSl (fV 2) fNoP (fP (fV 3)))) fNoP (fP (fV 1))))))
theorem ok__law_words {P : Program} {w : World} {K : PySem.W.Frag} {mg : Str → Option Value} {base : Heap} {n : Nat} {y : Dy} {c : Cs} (T : Tab P w K mg base y n c) {f : Addr} {fd : FuncData} (F : FunF K "_law_words" s__law_words f fd) :
    FnF P w mg base (XRof K er y.cs w) (n + 1) f fd ["own", "many"] (fDef N__law_words.length (m__law_words c)) := okF F sc__law_words fun cdv A outer s H E C =>
    (fss_cons (fs_set (i := 2) sc__law_words.nd rfl (by first | exact Or.inl rfl | exact Or.inr rfl) (fe_lst (fa_cons fe_str (fa_cons fe_str (fa_cons fe_str (fa_cons fe_str (fa_cons fe_str (fa_cons fe_str (fa_cons fe_str (fa_cons fe_str (fa_cons fe_str (fa_cons fe_str fa_nil)))))))))))) 
    (fss_cons (fs_set (i := 3) sc__law_words.nd rfl (by first | exact Or.inl rfl | exact Or.inr rfl) (fe_call (T.F 25 (by decide)) (T.D 25 (by decide)) C (by rfl) (fa_cons (fv 0) (fa_cons fe_int fa_nil)))) 
    (fss_one (fs_ret (fe_sl (fe_add (fe_sl (fv 2) (fo_some (fv 3)) fo_none) (fe_sl (fv 2) fo_none (fo_some (fv 3)))) fo_none (fo_some (fv 1)))))))
/-! _law_ordered -/
abbrev s__law_ordered : Stmt := topK 42
abbrev N__law_ordered : List Str := ["rows", "start", "met_v", "left", "at", "found", "name", "yes", "no"]
theorem sc__law_ordered : FnScope N__law_ordered ["rows", "start"] (defScope s__law_ordered) := ⟨rfl, rfl, rfl, by decide +kernel, rfl, by decide +kernel, by decide +kernel⟩
def m__law_ordered (c : Cs) : FS :=
    (fSeq (fPar 2 3 (fCons (fMut fNil) (fCons (fMut (fCons (fV 1) fNil)) fNil))) 
    (fSeq (fWhile (fB (f2 cNe (fV 3) (fLst fNil))) 
      (fSeq (fSet 4 (f1 oPop (fV 3))) 
      (fIfS (fAndT (fTr (fIsi "int" (fV 4))) (fB (f2 cNi (fV 4) (fV 2)))) 
        (fSeq (fDrop (fM oAppend (fV 2) (fCons (fV 4) fNil))) 
        (fSeq (fDrop (fM oAppend (fV 3) (fCons (f2 oIx (f2 oIx (fV 0) (fV 4)) (fC (.int 2))) fNil))) 
        (fDrop (fM oAppend (fV 3) (fCons (f2 oIx (f2 oIx (fV 0) (fV 4)) (fC (.int 1))) fNil))))) 
        fNext))) 
    (fSeq (fSet 5 (fMut fNil)) 
    (fSeq (fForM (fV 2) (gNm 4) 
      (fSeq (fAsg (gTp 3 (gCs (gNm 6) (gCs (gNm 7) (gCs (gNm 8) gNo)))) (f2 oIx (fV 0) (fV 4))) 
      (fSeq (fSet 7 (fIf (fTr (fIsi "int" (fV 7))) (fM oIndex (fV 2) (fCons (fV 7) fNil)) (fV 7))) 
      (fDrop (fM oAppend (fV 5) (fCons (fTup (fCons (fV 6) (fCons (fV 7) (fCons (fIf (fTr (fIsi "int" (fV 8))) (fM oIndex (fV 2) (fCons (fV 8) fNil)) (fV 8)) fNil)))) fNil)))))) 
    (fRet (fB1 (o1 tupW) (fCons (fV 5) fNil)))))))
theorem ok__law_ordered {P : Program} {w : World} {K : PySem.W.Frag} {mg : Str → Option Value} {base : Heap} {n : Nat} {y : Dy} {c : Cs} (T : Tab P w K mg base y n c) {f : Addr} {fd : FuncData} (F : FunF K "_law_ordered" s__law_ordered f fd) :
    FnF P w mg base (XRof K er y.cs w) (n + 1) f fd ["rows", "start"] (fDef N__law_ordered.length (m__law_ordered c)) := okF F sc__law_ordered fun cdv A outer s H E C =>
    (fss_cons (fs_par (i := 2) (j := 3) rfl sc__law_ordered.nd rfl rfl (by decide) rfl rfl (fa_cons (fe_mut fa_nil) (fa_cons (fe_mut (fa_cons (fv 1) fa_nil)) fa_nil)) (by rfl)) 
    (fss_cons (fs_while C (ft_cmp (k_ne C) (fv 3) (fe_lst fa_nil) (by rfl)) 
      (fss_cons (fs_set (i := 4) sc__law_ordered.nd rfl (by first | exact Or.inl rfl | exact Or.inr rfl) (fe_pop (fv 3) (pe_bm0 PySem.F.plainAttrs_list PySem.F.slot_list_pop PySem.F.type_list_pop mt_pop (fv 3)))) 
      (fss_one (fs_if (ft_w (fw_and (ft_tr (fe_isi (T := "int") (T.b "isinstance" (by decide)) (by rfl) (fv 4) (T.b "int" (by decide)) (by rfl) (by decide +kernel)) (by intro _; rfl)) (fw_and1 (ft_cmp (k_ni C) (fv 4) (fv 2) (by rfl))))) 
        (fss_cons (fs_expr (fe_m opm_append nx_append (pe_bm PySem.F.plainAttrs_list PySem.F.slot_list_append PySem.F.type_list_append mt_append (fv 2) (fa_cons (fv 4) fa_nil)))) 
        (fss_cons (fs_expr (fe_m opm_append nx_append (pe_bm PySem.F.plainAttrs_list PySem.F.slot_list_append PySem.F.type_list_append mt_append (fv 3) (fa_cons (fe_ix C (fe_ix C (fv 0) (fv 4) (fun _ _ => rfl)) fe_int (fun _ _ => rfl)) fa_nil)))) 
        (fss_one (fs_expr (fe_m opm_append nx_append (pe_bm PySem.F.plainAttrs_list PySem.F.slot_list_append PySem.F.type_list_append mt_append (fv 3) (fa_cons (fe_ix C (fe_ix C (fv 0) (fv 4) (fun _ _ => rfl)) fe_int (fun _ _ => rfl)) fa_nil))))))) 
        fss_nil)))) 
    (fss_cons (fs_set (i := 5) sc__law_ordered.nd rfl (by first | exact Or.inl rfl | exact Or.inr rfl) (fe_mut fa_nil)) 
    (fss_cons (fs_forM C (fv 2) (fg_nm (i := 4) sc__law_ordered.nd rfl (by first | exact Or.inl rfl | exact Or.inr rfl)) 
      (fss_cons (fs_asg (fe_ix C (fv 0) (fv 4) (fun _ _ => rfl)) (fg_tup rfl (fgs_cons (fg_nm (i := 6) sc__law_ordered.nd rfl (by first | exact Or.inl rfl | exact Or.inr rfl)) (fgs_cons (fg_nm (i := 7) sc__law_ordered.nd rfl (by first | exact Or.inl rfl | exact Or.inr rfl)) (fgs_cons (fg_nm (i := 8) sc__law_ordered.nd rfl (by first | exact Or.inl rfl | exact Or.inr rfl)) fgs_nil))))) 
      (fss_cons (fs_set (i := 7) sc__law_ordered.nd rfl (by first | exact Or.inl rfl | exact Or.inr rfl) (fe_if (ft_tr (fe_isi (T := "int") (T.b "isinstance" (by decide)) (by rfl) (fv 7) (T.b "int" (by decide)) (by rfl) (by decide +kernel)) (by intro _; rfl)) (fe_m opm_index nx_index (pe_bm PySem.F.plainAttrs_list PySem.F.slot_list_index PySem.F.type_list_index mt_index (fv 2) (fa_cons (fv 7) fa_nil))) (fv 7))) 
      (fss_one (fs_expr (fe_m opm_append nx_append (pe_bm PySem.F.plainAttrs_list PySem.F.slot_list_append PySem.F.type_list_append mt_append (fv 5) (fa_cons (fe_tup (fa_cons (fv 6) (fa_cons (fv 7) (fa_cons (fe_if (ft_tr (fe_isi (T := "int") (T.b "isinstance" (by decide)) (by rfl) (fv 8) (T.b "int" (by decide)) (by rfl) (by decide +kernel)) (by intro _; rfl)) (fe_m opm_index nx_index (pe_bm PySem.F.plainAttrs_list PySem.F.slot_list_index PySem.F.type_list_index mt_index (fv 2) (fa_cons (fv 8) fa_nil))) (fv 8)) fa_nil)))) fa_nil)))))))) 
    (fss_one (fs_ret (fe_toTup (T.b "tuple" (by decide)) (by rfl) (fa_cons (fv 5) fa_nil))))))))
/-! _law_any_code -/
abbrev s__law_any_code : Stmt := topK 43
abbrev N__law_any_code : List Str := ["own", "words", "many", "rows", "k", "targets", "yes", "no", "row"]
theorem sc__law_any_code : FnScope N__law_any_code ["own", "words", "many"] (defScope s__law_any_code) := ⟨rfl, rfl, rfl, by decide +kernel, rfl, by decide +kernel, by decide +kernel⟩
def m__law_any_code (c : Cs) : FS :=
    (fSeq (fSet 3 (fMut fNil)) 
    (fSeq (fFor (fRng1 (fCons (fV 2) fNil)) (gNm 4) 
      (fSeq (fSet 5 (f2 oAdd (fLst (fCons (fC (.str "yes")) (fCons (fC (.str "no")) fNil))) (fLstRg1 (fB1 oLen (fCons (fV 3) fNil))))) 
      (fSeq (fPar 6 7 (fCons (f2 oIx (fV 5) (fCall 2 (c i__law_take) [] (fCons (fV 0) (fCons (fB1 oLen (fCons (fV 5) fNil)) fNil)))) (fCons (f2 oIx (fV 5) (fCall 2 (c i__law_take) [] (fCons (fV 0) (fCons (fB1 oLen (fCons (fV 5) fNil)) fNil)))) fNil))) 
      (fSeq (fSet 8 (fTup (fCons (f2 oIx (fV 1) (fCall 2 (c i__law_take) [] (fCons (fV 0) (fCons (fB1 oLen (fCons (fV 1) fNil)) fNil)))) (fCons (fV 6) (fCons (fV 7) fNil))))) 
      (fIfS (fB (f2 cNi (fV 8) (fV 3))) 
        (fDrop (fM oAppend (fV 3) (fCons (fV 8) fNil))) 
        fNext))))) 
    (fRet (fCall 2 (c i__law_ordered) [] (fCons (fV 3) (fCons (f2 oSub (fB1 oLen (fCons (fV 3) fNil)) (fC (.int 1))) fNil))))))
theorem ok__law_any_code {P : Program} {w : World} {K : PySem.W.Frag} {mg : Str → Option Value} {base : Heap} {n : Nat} {y : Dy} {c : Cs} (T : Tab P w K mg base y n c) {f : Addr} {fd : FuncData} (F : FunF K "_law_any_code" s__law_any_code f fd) :
    FnF P w mg base (XRof K er y.cs w) (n + 1) f fd ["own", "words", "many"] (fDef N__law_any_code.length (m__law_any_code c)) := okF F sc__law_any_code fun cdv A outer s H E C =>
    (fss_cons (fs_set (i := 3) sc__law_any_code.nd rfl (by first | exact Or.inl rfl | exact Or.inr rfl) (fe_mut fa_nil)) 
    (fss_cons (fs_for C (fi_rng1 (by rfl) (T.b "range" (by decide)) (fa_cons (fv 2) fa_nil)) (fg_nm (i := 4) sc__law_any_code.nd rfl (by first | exact Or.inl rfl | exact Or.inr rfl)) 
      (fss_cons (fs_set (i := 5) sc__law_any_code.nd rfl (by first | exact Or.inl rfl | exact Or.inr rfl) (fe_add (fe_lst (fa_cons fe_str (fa_cons fe_str fa_nil))) (fe_lstRg1 C (T.b "list" (by decide)) (by rfl) (T.b "range" (by decide)) (by rfl) (fe_len (T.b "len" (by decide)) (by rfl) (fa_cons (fv 3) fa_nil))))) 
      (fss_cons (fs_par (i := 6) (j := 7) rfl sc__law_any_code.nd rfl rfl (by decide) rfl rfl (fa_cons (fe_ix C (fv 5) (fe_call (T.F 25 (by decide)) (T.D 25 (by decide)) C (by rfl) (fa_cons (fv 0) (fa_cons (fe_len (T.b "len" (by decide)) (by rfl) (fa_cons (fv 5) fa_nil)) fa_nil))) (fun _ _ => rfl)) (fa_cons (fe_ix C (fv 5) (fe_call (T.F 25 (by decide)) (T.D 25 (by decide)) C (by rfl) (fa_cons (fv 0) (fa_cons (fe_len (T.b "len" (by decide)) (by rfl) (fa_cons (fv 5) fa_nil)) fa_nil))) (fun _ _ => rfl)) fa_nil)) (by rfl)) 
      (fss_cons (fs_set (i := 8) sc__law_any_code.nd rfl (by first | exact Or.inl rfl | exact Or.inr rfl) (fe_tup (fa_cons (fe_ix C (fv 1) (fe_call (T.F 25 (by decide)) (T.D 25 (by decide)) C (by rfl) (fa_cons (fv 0) (fa_cons (fe_len (T.b "len" (by decide)) (by rfl) (fa_cons (fv 1) fa_nil)) fa_nil))) (fun _ _ => rfl)) (fa_cons (fv 6) (fa_cons (fv 7) fa_nil))))) 
      (fss_one (fs_if (ft_cmp (k_ni C) (fv 8) (fv 3) (by rfl)) 
        (fss_one (fs_expr (fe_m opm_append nx_append (pe_bm PySem.F.plainAttrs_list PySem.F.slot_list_append PySem.F.type_list_append mt_append (fv 3) (fa_cons (fv 8) fa_nil))))) 
        fss_nil)))))) 
    (fss_one (fs_ret (fe_call (T.F 27 (by decide)) (T.D 27 (by decide)) C (by rfl) (fa_cons (fv 3) (fa_cons (fe_sub (fe_len (T.b "len" (by decide)) (by rfl) (fa_cons (fv 3) fa_nil)) fe_int) fa_nil)))))))
/-! _law_machines -/
abbrev s__law_machines : Stmt := topK 44
abbrev N__law_machines : List Str := ["words", "many", "found", "at", "targets", "some", "word", "longer", "rows", "to", "one"]
theorem sc__law_machines : FnScope N__law_machines ["words", "many"] (defScope s__law_machines) := ⟨rfl, rfl, rfl, by decide +kernel, rfl, by decide +kernel, by decide +kernel⟩
def m__law_machines (c : Cs) : FS :=
    (fSeq (fSet 2 (fLst (fCons (fTup fNil) fNil))) 
    (fSeq (fFor (fRng1 (fCons (fV 1) fNil)) (gNm 3) 
      (fSeq (fSet 4 (f2 oAdd (fLst (fCons (fC (.str "yes")) (fCons (fC (.str "no")) fNil))) (fLc (fRng1 (fCons (fV 1) fNil)) (gNm 9) (fB (f2 cNe (fV 9) (fV 3))) (fV 9) [9]))) 
      (fSeq (fSet 5 (fLc (fItems (fV 4)) (gNm 9) fYes (fTup (fCons (fC (.str "goto")) (fCons (fV 9) fNil))) [9])) 
      (fSeq (fIfS (fB (f2 cLt (fV 3) (f2 oSub (fV 1) (fC (.int 1))))) 
        (fFor (fItems (fV 0)) (gNm 6) 
          (fSeq (fSet 5 (f2 oAdd (fV 5) (fLc (fItems (fV 4)) (gNm 9) fYes (fTup (fCons (fC (.str "jump")) (fCons (fV 6) (fCons (fC (.str "yes")) (fCons (fV 9) fNil))))) [9]))) 
          (fSet 5 (f2 oAdd (fV 5) (fLc (fItems (fV 4)) (gNm 9) fYes (fTup (fCons (fC (.str "jump")) (fCons (fV 6) (fCons (fC (.str "no")) (fCons (fV 9) fNil))))) [9]))))) 
        fNext) 
      (fSeq (fSet 7 (fLst fNil)) 
      (fSeq (fFor (fItems (fV 2)) (gNm 8) 
        (fSet 7 (f2 oAdd (fV 7) (fLc (fItems (fV 5)) (gNm 10) fYes (f2 oAdd (fV 8) (fTup (fCons (fV 10) fNil))) [10])))) 
      (fSet 2 (fV 7)))))))) 
    (fRet (fV 2))))
theorem ok__law_machines {P : Program} {w : World} {K : PySem.W.Frag} {mg : Str → Option Value} {base : Heap} {n : Nat} {y : Dy} {c : Cs} (T : Tab P w K mg base y n c) {f : Addr} {fd : FuncData} (F : FunF K "_law_machines" s__law_machines f fd) :
    FnF P w mg base (XRof K er y.cs w) (n + 1) f fd ["words", "many"] (fDef N__law_machines.length (m__law_machines c)) := okF F sc__law_machines fun cdv A outer s H E C =>
    (fss_cons (fs_set (i := 2) sc__law_machines.nd rfl (by first | exact Or.inl rfl | exact Or.inr rfl) (fe_lst (fa_cons (fe_tup fa_nil) fa_nil))) 
    (fss_cons (fs_for C (fi_rng1 (by rfl) (T.b "range" (by decide)) (fa_cons (fv 1) fa_nil)) (fg_nm (i := 3) sc__law_machines.nd rfl (by first | exact Or.inl rfl | exact Or.inr rfl)) 
      (fss_cons (fs_set (i := 4) sc__law_machines.nd rfl (by first | exact Or.inl rfl | exact Or.inr rfl) (fe_add (fe_lst (fa_cons fe_str (fa_cons fe_str fa_nil))) (fe_lc1 [("to", 9)] C sc__law_machines.nd (fi_rng1 (by rfl) (T.b "range" (by decide)) (fa_cons (fv 1) fa_nil)) (blkOk_by (N := N__law_machines) (sc := defScope s__law_machines) (by decide +kernel)) (fun _ _ _ _ _ => (fg_nm (i := 9) sc__law_machines.nd rfl (by first | exact Or.inl rfl | exact Or.inr rfl))) (by decide) (fun _ _ _ _ _ => (ft_cmp (k_ne C.blk) (fv 9) (fv 3) (by rfl))) (fun _ _ _ _ _ => (fv 9))))) 
      (fss_cons (fs_setLc0 (i := 5) [("to", 9)] C sc__law_machines.nd rfl (by first | rfl | decide +kernel) (by rfl) (fi_any (fv 4)) (blkOk_by (N := N__law_machines) (sc := defScope s__law_machines) (by decide +kernel)) (fun _ _ _ _ _ => (fg_nm (i := 9) sc__law_machines.nd rfl (by first | exact Or.inl rfl | exact Or.inr rfl))) (by decide) (fun _ _ _ _ _ => (fe_tup (fa_cons fe_str (fa_cons (fv 9) fa_nil))))) 
      (fss_cons (fs_if (ft_cmp (k_lt C) (fv 3) (fe_sub (fv 1) fe_int) (by rfl)) 
        (fss_one (fs_for C (fi_any (fv 0)) (fg_nm (i := 6) sc__law_machines.nd rfl (by first | exact Or.inl rfl | exact Or.inr rfl)) 
          (fss_cons (fs_set (i := 5) sc__law_machines.nd rfl (by first | exact Or.inl rfl | exact Or.inr rfl) (fe_add (fv 5) (fe_lc0 [("to", 9)] C sc__law_machines.nd (fi_any (fv 4)) (blkOk_by (N := N__law_machines) (sc := defScope s__law_machines) (by decide +kernel)) (fun _ _ _ _ _ => (fg_nm (i := 9) sc__law_machines.nd rfl (by first | exact Or.inl rfl | exact Or.inr rfl))) (by decide) (fun _ _ _ _ _ => (fe_tup (fa_cons fe_str (fa_cons (fv 6) (fa_cons fe_str (fa_cons (fv 9) fa_nil))))))))) 
          (fss_one (fs_set (i := 5) sc__law_machines.nd rfl (by first | exact Or.inl rfl | exact Or.inr rfl) (fe_add (fv 5) (fe_lc0 [("to", 9)] C sc__law_machines.nd (fi_any (fv 4)) (blkOk_by (N := N__law_machines) (sc := defScope s__law_machines) (by decide +kernel)) (fun _ _ _ _ _ => (fg_nm (i := 9) sc__law_machines.nd rfl (by first | exact Or.inl rfl | exact Or.inr rfl))) (by decide) (fun _ _ _ _ _ => (fe_tup (fa_cons fe_str (fa_cons (fv 6) (fa_cons fe_str (fa_cons (fv 9) fa_nil))))))))))))) 
        fss_nil) 
      (fss_cons (fs_set (i := 7) sc__law_machines.nd rfl (by first | exact Or.inl rfl | exact Or.inr rfl) (fe_lst fa_nil)) 
      (fss_cons (fs_for C (fi_any (fv 2)) (fg_nm (i := 8) sc__law_machines.nd rfl (by first | exact Or.inl rfl | exact Or.inr rfl)) 
        (fss_one (fs_set (i := 7) sc__law_machines.nd rfl (by first | exact Or.inl rfl | exact Or.inr rfl) (fe_add (fv 7) (fe_lc0 [("one", 10)] C sc__law_machines.nd (fi_any (fv 5)) (blkOk_by (N := N__law_machines) (sc := defScope s__law_machines) (by decide +kernel)) (fun _ _ _ _ _ => (fg_nm (i := 10) sc__law_machines.nd rfl (by first | exact Or.inl rfl | exact Or.inr rfl))) (by decide) (fun _ _ _ _ _ => (fe_add (fv 8) (fe_tup (fa_cons (fv 10) fa_nil))))))))) 
      (fss_one (fs_set (i := 2) sc__law_machines.nd rfl (by first | exact Or.inl rfl | exact Or.inr rfl) (fv 7))))))))) 
    (fss_one (fs_ret (fv 2)))))
/-! _law_good -/
abbrev s__law_good : Stmt := topK 45
abbrev N__law_good : List Str := ["rows", "words", "many", "best", "fewer", "one"]
theorem sc__law_good : FnScope N__law_good ["rows", "words"] (defScope s__law_good) := ⟨rfl, rfl, rfl, by decide +kernel, rfl, by decide +kernel, by decide +kernel⟩
def m__law_good (c : Cs) : FS :=
    (fSeq (fSet 2 (fCall 1 (c i_instructions) [] (fCons (fV 0) fNil))) 
    (fSeq (fSet 3 (fCall 1 (c i_machine) [] (fCons (fV 0) fNil))) 
    (fSeq (fIfS (fOrT (fB (f2 cNe (fB1 oLen (fCons (fV 3) fNil)) (fV 2))) (fB (f2 cNe (fCall 1 (c i_code_of) [] (fCons (fV 3) fNil)) (fV 0)))) 
      (fRet (fC (.bool false))) 
      fNext) 
    (fSeq (fFor (fRng2 (fCons (fC (.int 1)) (fCons (fB1 (o2I fun i j => if j < i then j else i) (fCons (fV 2) (fCons (fC (.int 4)) fNil))) fNil))) (gNm 4) 
      (fFor (fItems (fCall 2 (c i__law_machines) [] (fCons (fV 1) (fCons (fV 4) fNil)))) (gNm 5) 
        (fIfS (fAndT (fTr (fCall 1 (c i_is_machine) [] (fCons (fV 5) fNil))) (fB (f2 cEq (fCall 1 (c i_code_of) [] (fCons (fV 5) fNil)) (fV 0)))) 
          (fRet (fC (.bool false))) 
          fNext))) 
    (fRet (fC (.bool true)))))))
theorem ok__law_good {P : Program} {w : World} {K : PySem.W.Frag} {mg : Str → Option Value} {base : Heap} {n : Nat} {y : Dy} {c : Cs} (T : Tab P w K mg base y n c) {f : Addr} {fd : FuncData} (F : FunF K "_law_good" s__law_good f fd) :
    FnF P w mg base (XRof K er y.cs w) (n + 1) f fd ["rows", "words"] (fDef N__law_good.length (m__law_good c)) := okF F sc__law_good fun cdv A outer s H E C =>
    (fss_cons (fs_set (i := 2) sc__law_good.nd rfl (by first | exact Or.inl rfl | exact Or.inr rfl) (fe_call (T.F 18 (by decide)) (T.D 18 (by decide)) C (by rfl) (fa_cons (fv 0) fa_nil))) 
    (fss_cons (fs_set (i := 3) sc__law_good.nd rfl (by first | exact Or.inl rfl | exact Or.inr rfl) (fe_call (T.F 19 (by decide)) (T.D 19 (by decide)) C (by rfl) (fa_cons (fv 0) fa_nil))) 
    (fss_cons (fs_if (ft_w (fw_or (ft_cmp (k_ne C) (fe_len (T.b "len" (by decide)) (by rfl) (fa_cons (fv 3) fa_nil)) (fv 2) (by rfl)) (fw_or1 (ft_cmp (k_ne C) (fe_call (T.F 17 (by decide)) (T.D 17 (by decide)) C (by rfl) (fa_cons (fv 3) fa_nil)) (fv 0) (by rfl))))) 
      (fss_one (fs_ret fe_bl)) 
      fss_nil) 
    (fss_cons (fs_for C (fi_rng2 (by rfl) (T.b "range" (by decide)) (fa_cons fe_int (fa_cons (fe_min2 C (T.b "min" (by decide)) (by rfl) (fa_cons (fv 2) (fa_cons fe_int fa_nil))) fa_nil))) (fg_nm (i := 4) sc__law_good.nd rfl (by first | exact Or.inl rfl | exact Or.inr rfl)) 
      (fss_one (fs_for C (fi_any (fe_call (T.F 29 (by decide)) (T.D 29 (by decide)) C (by rfl) (fa_cons (fv 1) (fa_cons (fv 4) fa_nil)))) (fg_nm (i := 5) sc__law_good.nd rfl (by first | exact Or.inl rfl | exact Or.inr rfl)) 
        (fss_one (fs_if (ft_w (fw_and (ft_tr (fe_call (T.F 10 (by decide)) (T.D 10 (by decide)) C (by rfl) (fa_cons (fv 5) fa_nil)) (by intro _; rfl)) (fw_and1 (ft_cmp (k_eq C) (fe_call (T.F 17 (by decide)) (T.D 17 (by decide)) C (by rfl) (fa_cons (fv 5) fa_nil)) (fv 0) (by rfl))))) 
          (fss_one (fs_ret fe_bl)) 
          fss_nil))))) 
    (fss_one (fs_ret fe_bl))))))
/-! law -/
abbrev s_law : Stmt := topK 46
abbrev N_law : List Str := ["script", "turn", "own", "words", "one", "two", "rows"]
theorem sc_law : FnScope N_law ["script"] (defScope s_law) := ⟨rfl, rfl, rfl, by decide +kernel, rfl, by decide +kernel, by decide +kernel⟩
def m_law (c : Cs) : FS :=
    (fSeq (fFor (fRng1 (fCons (fB1 (o2I fun i j => if j > i then j else i) (fCons (fB1 (o2I fun i j => if j < i then j else i) (fCons (fB1 oLen (fCons (fV 0) fNil)) (fCons (fC (.int 2)) fNil))) (fCons (fC (.int 1)) fNil))) fNil)) (gNm 1) 
      (fSeq (fSet 2 (fMut (fCons (fCall 2 (c i__law_cell) [] (fCons (fV 0) (fCons (fV 1) fNil))) fNil))) 
      (fSeq (fSet 3 (fCall 2 (c i__law_words) [] (fCons (fV 2) (fCons (fC (.int 2)) fNil)))) 
      (fSeq (fIfS (fNotT (fTr (fCall 2 (c i__law_good) [] (fCons (fCall 3 (c i__law_any_code) [] (fCons (fV 2) (fCons (fV 3) (fCons (f2 oAdd (fC (.int 1)) (f2 oMod (fB1 (o1 intW) (fCons (fV 1) fNil)) (fC (.int 2)))) fNil)))) (fCons (fB1 (o1 sortW) (fCons (fV 3) fNil)) fNil))))) 
        (fRet (fC (.bool false))) 
        fNext) 
      (fSeq (fAsg (gTp 2 (gCs (gNm 4) (gCs (gNm 5) gNo))) (fV 3)) 
      (fSeq (fSet 6 (fLst (fCons (fTup (fCons (fTup (fCons (fV 4) (fCons (fC (.int 1)) (fCons (fC (.int 1)) fNil)))) (fCons (fTup (fCons (fV 5) (fCons (fC (.str "yes")) (fCons (fC (.str "no")) fNil)))) fNil))) (fCons (fTup (fCons (fTup (fCons (fV 4) (fCons (fC (.int 1)) (fCons (fC (.str "yes")) fNil)))) (fCons (fTup (fCons (fV 5) (fCons (fC (.str "no")) (fCons (fC (.str "no")) fNil)))) fNil))) fNil)))) 
      (fSeq (fSet 6 (f2 oAdd (fV 6) (fLst (fCons (fTup (fCons (fTup (fCons (fV 4) (fCons (fC (.str "no")) (fCons (fC (.int 1)) fNil)))) (fCons (fTup (fCons (fV 4) (fCons (fC (.str "no")) (fCons (fC (.str "yes")) fNil)))) fNil))) fNil)))) 
      (fIfS (fNotT (fTr (fCall 2 (c i__law_good) [] (fCons (f2 oIx (fV 6) (fCall 2 (c i__law_take) [] (fCons (fV 2) (fCons (fC (.int 3)) fNil)))) (fCons (fB1 (o1 sortW) (fCons (fV 3) fNil)) fNil))))) 
        (fRet (fC (.bool false))) 
        fNext)))))))) 
    (fRet (fC (.bool true))))
theorem ok_law {P : Program} {w : World} {K : PySem.W.Frag} {mg : Str → Option Value} {base : Heap} {n : Nat} {y : Dy} {c : Cs} (T : Tab P w K mg base y n c) {f : Addr} {fd : FuncData} (F : FunF K "law" s_law f fd) :
    FnF P w mg base (XRof K er y.cs w) (n + 1) f fd ["script"] (fDef N_law.length (m_law c)) := okF F sc_law fun cdv A outer s H E C =>
    (fss_cons (fs_for C (fi_rng1 (by rfl) (T.b "range" (by decide)) (fa_cons (fe_max2 C (T.b "max" (by decide)) (by rfl) (fa_cons (fe_min2 C (T.b "min" (by decide)) (by rfl) (fa_cons (fe_len (T.b "len" (by decide)) (by rfl) (fa_cons (fv 0) fa_nil)) (fa_cons fe_int fa_nil))) (fa_cons fe_int fa_nil))) fa_nil)) (fg_nm (i := 1) sc_law.nd rfl (by first | exact Or.inl rfl | exact Or.inr rfl)) 
      (fss_cons (fs_set (i := 2) sc_law.nd rfl (by first | exact Or.inl rfl | exact Or.inr rfl) (fe_mut (fa_cons (fe_call (T.F 24 (by decide)) (T.D 24 (by decide)) C (by rfl) (fa_cons (fv 0) (fa_cons (fv 1) fa_nil))) fa_nil))) 
      (fss_cons (fs_set (i := 3) sc_law.nd rfl (by first | exact Or.inl rfl | exact Or.inr rfl) (fe_call (T.F 26 (by decide)) (T.D 26 (by decide)) C (by rfl) (fa_cons (fv 2) (fa_cons fe_int fa_nil)))) 
      (fss_cons (fs_if (ft_not (ft_tr (fe_call (T.F 30 (by decide)) (T.D 30 (by decide)) C (by rfl) (fa_cons (fe_call (T.F 28 (by decide)) (T.D 28 (by decide)) C (by rfl) (fa_cons (fv 2) (fa_cons (fv 3) (fa_cons (fe_add fe_int (fe_mod (fe_toInt (T.b "int" (by decide)) (by rfl) (fa_cons (fv 1) fa_nil)) fe_int)) fa_nil)))) (fa_cons (fe_sort C (T.b "sorted" (by decide)) (by rfl) (fa_cons (fv 3) fa_nil)) fa_nil))) (by intro _; rfl))) 
        (fss_one (fs_ret fe_bl)) 
        fss_nil) 
      (fss_cons (fs_asg (fv 3) (fg_tup rfl (fgs_cons (fg_nm (i := 4) sc_law.nd rfl (by first | exact Or.inl rfl | exact Or.inr rfl)) (fgs_cons (fg_nm (i := 5) sc_law.nd rfl (by first | exact Or.inl rfl | exact Or.inr rfl)) fgs_nil)))) 
      (fss_cons (fs_set (i := 6) sc_law.nd rfl (by first | exact Or.inl rfl | exact Or.inr rfl) (fe_lst (fa_cons (fe_tup (fa_cons (fe_tup (fa_cons (fv 4) (fa_cons fe_int (fa_cons fe_int fa_nil)))) (fa_cons (fe_tup (fa_cons (fv 5) (fa_cons fe_str (fa_cons fe_str fa_nil)))) fa_nil))) (fa_cons (fe_tup (fa_cons (fe_tup (fa_cons (fv 4) (fa_cons fe_int (fa_cons fe_str fa_nil)))) (fa_cons (fe_tup (fa_cons (fv 5) (fa_cons fe_str (fa_cons fe_str fa_nil)))) fa_nil))) fa_nil)))) 
      (fss_cons (fs_set (i := 6) sc_law.nd rfl (by first | exact Or.inl rfl | exact Or.inr rfl) (fe_add (fv 6) (fe_lst (fa_cons (fe_tup (fa_cons (fe_tup (fa_cons (fv 4) (fa_cons fe_str (fa_cons fe_int fa_nil)))) (fa_cons (fe_tup (fa_cons (fv 4) (fa_cons fe_str (fa_cons fe_str fa_nil)))) fa_nil))) fa_nil)))) 
      (fss_one (fs_if (ft_not (ft_tr (fe_call (T.F 30 (by decide)) (T.D 30 (by decide)) C (by rfl) (fa_cons (fe_ix C (fv 6) (fe_call (T.F 25 (by decide)) (T.D 25 (by decide)) C (by rfl) (fa_cons (fv 2) (fa_cons fe_int fa_nil))) (fun _ _ => rfl)) (fa_cons (fe_sort C (T.b "sorted" (by decide)) (by rfl) (fa_cons (fv 3) fa_nil)) fa_nil))) (by intro _; rfl))) 
        (fss_one (fs_ret fe_bl)) 
        fss_nil))))))))) 
    (fss_one (fs_ret fe_bl)))
end G61

set_option Elab.async false
set_option linter.all false
set_option maxRecDepth 100000
set_option maxHeartbeats 4000000
namespace FL
open PySem PySem.Spec PyProof.Rows
open L2
/-! the defs' mirrors, by levels -/
def lev (N : Nat → Nat) (m : Nat → Cs → FS) : Nat → Cs
  | 0 => fun _ _ _ => .no
  | n + 1 => fun i => fDef (N i) (m i (lev N m n))
theorem fnf_no {P : Program} {w : World} {K : PySem.W.Frag} {XR : XRel K} {mg : Str → Option Value} {base : Heap} {n : Nat} {f : Addr} {fd : FuncData} {ps : List Str} : FnF P w mg base XR n f fd ps (fun _ _ => .no) :=
  ⟨fun A outer s H args us vs Q E _ _ _ _ _ _ ⟨M, S, ws, _, _, h⟩ => h.elim⟩
theorem tb_all {P : Program} {w : World} {K : PySem.W.Frag} {mg : Str → Option Value} {base : Heap} {s : Sg} {y : Dy} {N : Nat → Nat} {m : Nat → Cs → FS} (S : Top P w K mg base s y)
    (ok : ∀ n c, Tb P w K mg base s y n c → ∀ i, i < s.nf → FnF P w mg base (XRof K s.er y.cs w) (n + 1) (y.ad i) (y.fds i) (s.pss i) (fDef (N i) (m i c))) : ∀ n, Tb P w K mg base s y (n + 2) (lev N m n)
  | 0 => { S with n2 := by omega, F := fun i _ => fnf_no }
  | n + 1 => { S with n2 := by omega, F := fun i h => ok (n + 2) _ (tb_all S ok n) i h }
/-! the law's own call -/
theorem law_callF {P : Program} {w : World} {K : PySem.W.Frag} {XR : XRel K} {mg mb : Str → Option Value} {k : Nat} {fa a : Addr} {fd : FuncData} {x : Str} {g : List W → So → Res W} {s₁ : Shared} {vs : List Value} {ns : List Int}
    (KX : K.In s₁.heap) (hns : s₁.heap.Ns mainGlobals mg) (hb : s₁.heap.Ns builtinsNs mb) (hbb : ∀ x : Str, x ≠ "__name__" → mb x = bootBuiltins x) (hlim : s₁.heap.NoLimit) (hg : s₁.gens = #[])
    (ha : s₁.heap.get? a = some { cls := .type "list", data := .seq vs.toArray }) (hi : IntsAre vs ns) (hl : ns.length ≤ sizeLine) (hr : Room k callerA)
    (F : ∀ base : Heap, K.In base → base.Ns mainGlobals mg → FnF P w mg base XR k fa fd [x] g) (hbind : ∀ (s : Shared) (u : Value), BindsTo s fd ⟨[u], []⟩ [(x, u)])
    (hgo : g [.s ns] [] = .ok (.d (.bool true)) []) :
    codeAny (model P w) callerA (.call (.ref fa) ⟨[.ref a], []⟩) (fun r s' => r = .ok (.ret (.bool true)) ∧ OldK s₁.heap s'.heap ∧ s'.os = s₁.os ∧ AllBare s'.gens) s₁ := by
  have rv : Vals (ns.map V.int) vs := vals_ints hi
  have core : ∀ H : Hp, (∀ b, H b = none ∨ (b = a ∧ K.lookup b = none ∧ H b = some (.frz { cls := .type "list", data := .seq vs.toArray } (.lst (ns.map V.int))))) → FzS K H ⟨[], []⟩ a (ns.map V.int) → HOk P w H s₁.heap →
      codeAny (model P w) callerA (.call (.ref fa) ⟨[.ref a], []⟩) (fun r s' => r = .ok (.ret (.bool true)) ∧ OldK s₁.heap s'.heap ∧ s'.os = s₁.os ∧ AllBare s'.gens) s₁ := by
    intro H hO hS hok
    have kb : K.In (hidT s₁.heap H) := by
      intro b o e
      refine hidT_get (KX b o e) ?_
      rcases hO b with h | ⟨_, h, _⟩
      · exact h
      · rw [h] at e
        cases e
    have nsb : ∀ {b : Addr} {m : Str → Option Value}, s₁.heap.Ns b m → (hidT s₁.heap H).Ns b m := by
      rintro b m ⟨o, es, ep, e, d, r⟩
      refine ⟨o, es, ep, hidT_get e ?_, d, r⟩
      rcases hO b with h | ⟨rfl, _, _⟩
      · exact h
      · rw [ha] at e
        cases e
        cases d
    have lim : (hidT s₁.heap H).NoLimit := by
      obtain ⟨mc, h1, h2⟩ := hlim
      exact ⟨mc, nsb h1, h2⟩
    have e0 : Env0 P w K mg (hidT s₁.heap H) callerA [] s₁ H := by
      refine ⟨rfl, ⟨kb, nsb hns, ⟨mb, nsb hb, hbb⟩, lim⟩, ?_, Nat.le_of_eq (hidT_size _ _), True.intro, ?_, hok, .of_eq hg⟩
      · intro b o e
        exact of_hidT e
      · intro b z
        cases z
    have sp : spF XR g [.ref a] H (fun v _ => v = .bl true) (fun _ _ _ => False) := by
      refine ⟨⟨[], []⟩, [], [.s ns], ⟨List.Pairwise.nil, .nil, fun b h => by cases h⟩, .cons ⟨a, rfl, hS⟩ .nil, ?_⟩
      rw [hgo]
      intro M1 H1 v s1 l1 r1
      have r2 : Dr K H1 M1 (.bool true) v := r1
      unfold Dr at r2
      exact r2
    apply codeAny_mono ((F _ kb (nsb hns)).run callerA [] s₁ H ⟨[.ref a], []⟩ [.ref a] [.ref a] (fun v _ => v = .bl true) (fun _ _ _ => False) rfl hr e0 (hbind s₁ (.ref a)) (.cons rfl .nil) rfl sp)
    intro r s' h
    cases r with
    | error e =>
      obtain ⟨_, _, _, _, _, _, _, _, _, _, _, _, z⟩ := h
      exact z.elim
    | ok fl =>
      cases fl with
      | next => exact h.elim
      | brk => exact h.elim
      | cont => exact h.elim
      | ret u =>
        obtain ⟨v, H', os, bare, un, hok2, rel, ev⟩ := h
        cases ev
        cases rel
        refine ⟨rfl, OldK.of_keep ?_, os, bare⟩
        intro b o e
        rcases hO b with z | ⟨rfl, _, z⟩
        · exact un.keep b o e z (by intro q; cases q) (by intro q; cases q)
        · obtain ⟨g1, _⟩ := hok b _ z
          obtain ⟨g2, _⟩ := hok2 b _ (un.frzs b _ _ z)
          rw [← e, g1]
          exact g2
  cases hk : K.lookup a with
  | some o =>
    have e := KX a o hk
    rw [ha] at e
    cases e
    refine core (fun _ => none) (fun _ => .inl rfl) (.inr ⟨_, vs.toArray, _, hk, rfl, rfl, rfl, ?_, ?_⟩) ?_
    · rw [List.size_toArray, hi.length]
      exact hl
    · simpa using rv
    · intro b u z
      cases z
  | none =>
    refine core (fun b => if b = a then some (.frz { cls := .type "list", data := .seq vs.toArray } (.lst (ns.map V.int))) else none) ?_ ?_ ?_
    · intro b
      by_cases c : b = a
      · subst c
        exact .inr ⟨rfl, hk, if_pos rfl⟩
      · exact .inl (if_neg c)
    · exact .inl ⟨(fun z => by rcases z with z | z <;> cases z), _, if_pos rfl⟩
    · intro b u z
      by_cases c : b = a
      · subst c
        have z2 := (if_pos rfl).symm.trans z
        cases z2
        refine ⟨ha, ?_, vs, _, rv, ha⟩
        rw [List.length_map]
        exact hl
      · have z2 := (if_neg c).symm.trans z
        cases z2
theorem walkF {l : PySem.W.OpenLaw} {n k : Nat} {q : Program} {loose : List Str} {XP : (Str → Option Value) → Heap → Prop} {YP : World → Heap → Prop} {d : DefRec} {K : Params → PySem.W.Frag} {x : Str} {g : List W → So → Res W}
    (hn : l.most = some n) (hn2 : n ≤ sizeLine) (hdf : d.params.defaults = []) (hr : Room k callerA) (hY : ∀ (w : World) (h : Heap), YP w h → (K w.params).In h)
    (F : ∀ (w : World) (mg : Str → Option Value) (fa : Addr) (h : Heap), (K w.params).In h → h.Ns mainGlobals mg → mg d.name = some (.ref fa) →
      ∃ (fd : FuncData) (XR : XRel (K w.params)), (∀ (s : Shared) (u : Value), BindsTo s fd ⟨[u], []⟩ [(x, u)]) ∧ ∀ base : Heap, (K w.params).In base → base.Ns mainGlobals mg → FnF l.prog w mg base XR k fa fd [x] g)
    (hgo : ∀ ns : List Int, ns.length ≤ n → g [.s ns] [] = .ok (.d (.bool true)) []) : PySem.W.WalkO q loose XP YP l.row.toRowW d [] (fun f vs => PySem.call f vs) := by
  refine Att.attach_call hn hdf ?_
  intro w s₀ s₁ mg mb fa o pm cd doc a vs ns G Y ho hd hcd hmg hobj hints hlen hg
  obtain ⟨fd, XR, hb, hF⟩ := F w mg fa _ (hY w _ Y) G.T.g hmg
  exact law_callF (hY w _ Y) G.T.g G.T.b G.T.builtins G.T.nolimit hg hobj hints (Nat.le_trans hlen hn2) hr hF hb (hgo ns hlen)
end FL

set_option Elab.async false
set_option linter.all false
set_option maxRecDepth 100000
set_option maxHeartbeats 4000000
namespace FL
open PySem PySem.Spec PyProof.Rows
open L2
/-! what the top has written, by one reckoning -/
def bmV : List Value := [.type "ValueError", .type "Exception", .type "BaseException", .type "object"]
def clsB (K : PySem.W.Frag) (e : Er) (i : Nat) (C : Addr) : Bool :=
  (PySem.W.clsIn K C).isSome && (decide (PySem.W.findIn K (.ref C) "__getattribute__" = some (some (.builtin "BaseException.__getattribute__"))) && (decide (PySem.W.findIn K (.ref C) "__getattr__" = some none) &&
  (decide (PySem.W.subIn K (.ref C) (.type "BaseException") = some true) && (decide (PySem.W.findIn K (.ref C) "__class__" = some (some (.builtin "object.__class__"))) && (decide (PySem.W.mroIn K C (.type "object") = some true) &&
  (PySem.W.keepIn K (.ref C) && (decide (PySem.W.typeIn K (.ref C) = some (.type "type")) && (decide (PySem.W.nsIn K PySem.mainGlobals (e.cnm i) = some (some (.ref C))) &&
  (bTys.all (fun t => decide (PySem.W.kitOne K (.type t) (.ref C) = some false)) &&
  (match e.fld i with | none => PySem.W.excIn K C bmV "ValueError.__new__" | some nm => xfB K C && decide (PySem.W.findIn K (.ref C) nm = some none)))))))))))
def topB (K : PySem.W.Frag) (s : Sg) (l : List Addr) : Bool :=
  (List.range s.er.nc).all (fun i => clsB K s.er i (l.getD i 0)) && ((List.range s.er.nc).all (fun i => (List.range s.er.nc).all fun j => decide (PySem.W.exmOne K (.ref (l.getD i 0)) (.ref (l.getD j 0)) = some (s.er.sub i j)) && decide (PySem.W.kitOne K (.ref (l.getD i 0)) (.ref (l.getD j 0)) = some (s.er.sub i j))) &&
  (decide (PySem.W.specialIn K (.builtin "object.__class__") "__get__" = some (some (.builtin "getset_descriptor.__get__"))) && (decide (PySem.W.takesIn K (.builtin "object.__class__") = some true) &&
  s.bns.all (fun x => decide (PySem.W.nsIn K PySem.mainGlobals x = some none)))))
structure ClsB (K : PySem.W.Frag) (e : Er) (i : Nat) (C : Addr) : Prop where
  cl : (PySem.W.clsIn K C).isSome = true
  ga : PySem.W.findIn K (.ref C) "__getattribute__" = some (some (.builtin "BaseException.__getattribute__"))
  gt : PySem.W.findIn K (.ref C) "__getattr__" = some none
  sb : PySem.W.subIn K (.ref C) (.type "BaseException") = some true
  ca : PySem.W.findIn K (.ref C) "__class__" = some (some (.builtin "object.__class__"))
  mo : PySem.W.mroIn K C (.type "object") = some true
  kp : PySem.W.keepIn K (.ref C) = true
  ty : PySem.W.typeIn K (.ref C) = some (.type "type")
  ns : PySem.W.nsIn K PySem.mainGlobals (e.cnm i) = some (some (.ref C))
  bt : ∀ t, t ∈ bTys → PySem.W.kitOne K (.type t) (.ref C) = some false
  ex : (match e.fld i with | none => PySem.W.excIn K C bmV "ValueError.__new__" | some nm => xfB K C && decide (PySem.W.findIn K (.ref C) nm = some none)) = true
theorem clsB_ok {K : PySem.W.Frag} {e : Er} {i : Nat} {C : Addr} (h : clsB K e i C = true) : ClsB K e i C := by
  obtain ⟨h1, h⟩ := Bool.and_eq_true_iff.mp h
  obtain ⟨h2, h⟩ := Bool.and_eq_true_iff.mp h
  obtain ⟨h3, h⟩ := Bool.and_eq_true_iff.mp h
  obtain ⟨h4, h⟩ := Bool.and_eq_true_iff.mp h
  obtain ⟨h5, h⟩ := Bool.and_eq_true_iff.mp h
  obtain ⟨h6, h⟩ := Bool.and_eq_true_iff.mp h
  obtain ⟨h7, h⟩ := Bool.and_eq_true_iff.mp h
  obtain ⟨h8, h⟩ := Bool.and_eq_true_iff.mp h
  obtain ⟨h9, h⟩ := Bool.and_eq_true_iff.mp h
  obtain ⟨h10, h11⟩ := Bool.and_eq_true_iff.mp h
  exact ⟨h1, of_decide_eq_true h2, of_decide_eq_true h3, of_decide_eq_true h4, of_decide_eq_true h5, of_decide_eq_true h6, h7, of_decide_eq_true h8, of_decide_eq_true h9, fun t ht => of_decide_eq_true (List.all_eq_true.mp h10 t ht), h11⟩
/-- one def at the top -/
structure DefT (K : PySem.W.Frag) (mg : Str → Option Value) (x : Str) (st : Stmt) (ps : List Str) (f : Addr) (fd : FuncData) : Prop where
  F : FunF K x st f fd
  d : Fd K mg x ps [] f fd
/-- .. with a default for its last parameter -/
structure DefD (K : PySem.W.Frag) (mg : Str → Option Value) (x : Str) (st : Stmt) (ps : List Str) (d : PyData) (f : Addr) (fd : FuncData) (u : Value) (v : V) : Prop where
  t : DefT K mg x st ps f fd
  p : Fd K mg x ps [u] f fd
  r : RelV v u
  w : ∀ H M, Dr K H M d v
section
variable {K : PySem.W.Frag} {mg : Str → Option Value} {h : Heap}
theorem def_mk {x : Str} {st : Stmt} {ps : List Str} {f : Addr} {oc kV dc pm cd ct : Value} {od an : Option Addr} {sl : Array (Option Value)} (X : K.In h) (G : h.Ns mainGlobals mg)
    (a : PySem.W.nsIn K mainGlobals x = some (some (.ref f))) (l : K.lookup f = some ⟨oc, od, .func (PySem.W.fnOf x x (defArgs st) (defBody st) (defScope st) .none kV dc pm an cd ct), sl⟩)
    (c : PySem.W.codeIn K cd x = true) (k : PySem.W.keepIn K (.ref f) = true)
    (b : ∀ us : List Value, us.length = ps.length → bindArgs (PySem.W.fnOf x x (defArgs st) (defBody st) (defScope st) .none kV dc pm an cd ct) ⟨us, []⟩ = pure (ps.zip us)) : ∃ fd, DefT K mg x st ps f fd :=
  ⟨_, ⟨⟨oc, od, .none, kV, dc, pm, an, cd, ct, sl, rfl, l, c⟩, k⟩, PySem.W.mg_of X G a, k, .all b⟩
theorem def_mkL {x p : Str} {st : Stmt} {f : Addr} {oc kV dc pm cd ct : Value} {od an : Option Addr} {sl : Array (Option Value)} (X : K.In h) (G : h.Ns mainGlobals mg)
    (a : PySem.W.nsIn K mainGlobals x = some (some (.ref f))) (l : K.lookup f = some ⟨oc, od, .func (PySem.W.fnOf x x (defArgs st) (defBody st) (defScope st) .none kV dc pm an cd ct), sl⟩)
    (c : PySem.W.codeIn K cd x = true) (k : PySem.W.keepIn K (.ref f) = true)
    (b : ∀ us : List Value, us.length = 1 → bindArgs (PySem.W.fnOf x x (defArgs st) (defBody st) (defScope st) .none kV dc pm an cd ct) ⟨us, []⟩ = pure ([p].zip us)) : ∃ fd, DefT K mg x st [p] f fd ∧ ∀ (s : Shared) (u : Value), BindsTo s fd ⟨[u], []⟩ [(p, u)] :=
  ⟨_, ⟨⟨⟨oc, od, .none, kV, dc, pm, an, cd, ct, sl, rfl, l, c⟩, k⟩, PySem.W.mg_of X G a, k, .all b⟩, fun s u => BindsTo.of_eq (b [u] rfl)⟩
theorem defD_mk {x : Str} {st : Stmt} {ps : List Str} {d : PyData} {f T : Addr} {oc kV dc pm cd ct o1 u : Value} {od an o2 : Option Addr} {sl o4 : Array (Option Value)} {n m : Nat} {v : V} (X : K.In h) (G : h.Ns mainGlobals mg)
    (a : PySem.W.nsIn K mainGlobals x = some (some (.ref f))) (l : K.lookup f = some ⟨oc, od, .func (PySem.W.fnOf x x (defArgs st) (defBody st) (defScope st) (.ref T) kV dc pm an cd ct), sl⟩)
    (c : PySem.W.codeIn K cd x = true) (k : PySem.W.keepIn K (.ref f) = true) (lT : K.lookup T = some ⟨o1, o2, .seq #[u] m, o4⟩) (r : RelV v u) (w : ∀ H M, Dr K H M d v) (hn : ps.length = n + 1)
    (b1 : ∀ (us its : List Value), us.length = n + 1 → its.length = 1 → ∃ k, bindArgs (PySem.W.fnOf x x (defArgs st) (defBody st) (defScope st) (.ref T) kV dc pm an cd ct) ⟨us, []⟩ = seqItems? (.ref T) >>= k ∧ k (some its.toArray) = pure (ps.zip (us ++ its.drop 1)))
    (b0 : ∀ (us its : List Value), us.length = n → its.length = 1 → ∃ k, bindArgs (PySem.W.fnOf x x (defArgs st) (defBody st) (defScope st) (.ref T) kV dc pm an cd ct) ⟨us, []⟩ = seqItems? (.ref T) >>= k ∧ k (some its.toArray) = pure (ps.zip (us ++ its.drop 0))) :
    ∃ fd, DefD K mg x st ps d f fd u v := by
  have g := PySem.W.mg_of X G a
  refine ⟨_, ⟨⟨⟨oc, od, .ref T, kV, dc, pm, an, cd, ct, sl, rfl, l, c⟩, k⟩, g, k, fun s us Y hl => ?_⟩, ⟨g, k, fun s us Y hl => ?_⟩, r, w⟩
  · refine BindsTo.of_looks fun M => ?_
    obtain ⟨kk, e1, e2⟩ := b1 us [u] (by rw [List.append_nil] at hl; omega) rfl
    rw [e1]
    refine looks_items Y lT rfl (.of_pure ?_)
    exact e2
  · refine BindsTo.of_looks fun M => ?_
    obtain ⟨kk, e1, e2⟩ := b0 us [u] (by rw [List.length_append] at hl; simp at hl; omega) rfl
    rw [e1]
    exact looks_items Y lT rfl (.of_pure e2)
/-! constants -/
theorem gd_int {x : Str} {i : Int} {t : Tok} (X : K.In h) (G : h.Ns mainGlobals mg) (a : PySem.W.nsIn K mainGlobals x = some (some (.int i t))) : Gd K mg x (.int i) :=
  ⟨_, .int i, PySem.W.mg_of X G a, ⟨t, rfl⟩, fun H M => by unfold Dr; rfl⟩
theorem gd_str {x z : Str} {t : Tok} (X : K.In h) (G : h.Ns mainGlobals mg) (a : PySem.W.nsIn K mainGlobals x = some (some (.str z t))) : Gd K mg x (.str z) :=
  ⟨_, .str z, PySem.W.mg_of X G a, ⟨t, rfl⟩, fun H M => by unfold Dr; rfl⟩
theorem dr_strs {f : Addr} {zs : List Str} {its : Array Value} {n : Nat} {sl : Array (Option Value)} (l : K.lookup f = some ⟨.type "tuple", none, .seq its n, sl⟩) (e : StrsAre its.toList zs) (hz : its.size ≤ sizeLine) (H : Hp) (M : Ms) : Dr K H M (.tuple (zs.map .str)) (.ref f) := by
  unfold Dr
  exact ⟨f, zs.map V.str, rfl, .inr ⟨_, its, n, l, rfl, rfl, rfl, hz, vals_of_strs e⟩, drl_strs zs⟩
theorem gd_strs {x : Str} {f : Addr} {zs : List Str} {its : Array Value} {n : Nat} {sl : Array (Option Value)} (X : K.In h) (G : h.Ns mainGlobals mg) (a : PySem.W.nsIn K mainGlobals x = some (some (.ref f)))
    (l : K.lookup f = some ⟨.type "tuple", none, .seq its n, sl⟩) (e : StrsAre its.toList zs) (hz : its.size ≤ sizeLine) : Gd K mg x (.tuple (zs.map .str)) :=
  ⟨_, .ref f, PySem.W.mg_of X G a, rfl, dr_strs l e hz⟩
/-! the error with a field of its own: its __init__ -/
theorem fld_mk {P : Program} {w : World} {base : Heap} {nm x qual : Str} {st : Stmt} {C fI T : Addr} {oc kV dc pm cd ct o1 : Value} {od an o2 : Option Addr} {sl o4 : Array (Option Value)} {m : Nat} {ps : List Str} (X : K.In h) (G : h.Ns mainGlobals mg)
    (ox : OexC K C) (noN : PySem.W.findIn K (.ref C) nm = some none) (iC : PySem.W.findIn K (.ref C) "__init__" = some (some (.ref fI))) (tI : PySem.W.typeIn K (.ref fI) = some (.type "function"))
    (l : K.lookup fI = some ⟨oc, od, .func (PySem.W.fnOf "__init__" qual (defArgs st) (defBody st) (defScope st) (.ref T) kV dc pm an cd ct), sl⟩) (lT : K.lookup T = some ⟨o1, o2, .seq #[.none] m, o4⟩)
    (c : PySem.W.codeIn K cd qual = true) (k : PySem.W.keepIn K (.ref fI) = true) (sc : FnScope ps ps (defScope st)) (p2 : ps.length = 2)
    (body : ∀ (cdv : Value) (A : Around) (outer : List Env) (s : Shared) (H : Hp) (E : XK), PSs (cxOf CX0 P w K mg base ps qual (defScope st) fI cdv A outer s H E) (defBody st) (tOst K nm (tVar 0) (tVar 1)))
    (b1 : ∀ (us its : List Value), us.length = 2 → its.length = 1 → ∃ k, bindArgs (PySem.W.fnOf "__init__" qual (defArgs st) (defBody st) (defScope st) (.ref T) kV dc pm an cd ct) ⟨us, []⟩ = seqItems? (.ref T) >>= k ∧ k (some its.toArray) = pure (ps.zip (us ++ its.drop 1)))
    (hm : mg x = some (.ref C)) (hdb : (x == ("__debug__" : Str)) = false) : MkF P w K mg base C x nm := by
  have F : FunD K "__init__" qual (defArgs st) (defBody st) (defScope st) [.non] [] fI (PySem.W.fnOf "__init__" qual (defArgs st) (defBody st) (defScope st) (.ref T) kV dc pm an cd ct) :=
    ⟨⟨oc, od, .ref T, kV, dc, pm, an, cd, ct, sl, rfl, l, c, .inr ⟨List.cons_ne_nil _ _, T, _, [.none], m, rfl, lT, rfl, .cons rfl .nil⟩, .inl rfl⟩, k⟩
  have F1 : FnOk P w K mg base CX0 1 fI (PySem.W.fnOf "__init__" qual (defArgs st) (defBody st) (defScope st) (.ref T) kV dc pm an cd ct) ps (spFld C nm) := by
    refine F.ok sc (fun vs H Q E h => ?_) (fun cdv A outer s H vs Q E hr h => ⟨_, body cdv A outer s H E, ?_⟩)
    · obtain ⟨a, v, rfl, _⟩ := h
      exact p2.symm
    · obtain ⟨a, v, rfl, ha, q⟩ := h
      exact ⟨v, rfl, .ref a, rfl, a, C, rfl, ox, noN, .inl ⟨ha, q⟩⟩
  refine mk_fld ox iC tI F1 (fun s us Y hl => BindsTo.of_looks fun M => ?_) hm hdb
  obtain ⟨kk, e1, e2⟩ := b1 us [.none] (by rw [List.append_nil] at hl; omega) rfl
  rw [e1]
  exact looks_items Y lT rfl (.of_pure e2)
end
/-! all of it -/
theorem topB_ok {P : Program} {w : World} {K : PySem.W.Frag} {mg : Str → Option Value} {base h : Heap} {s : Sg} {l : List Addr} {y : Dy} (A : topB K s l = true) (X : K.In h) (G : h.Ns mainGlobals mg) (hcs : y.cs = fun i => l.getD i 0)
    (D : ∀ i, i < s.nf → Fd K mg (s.nms i) (s.pss i) [] (y.ad i) (y.fds i)) (g : ∀ i, i < s.ng → Gd K mg (s.gnm i) (s.gdt i)) (hdb : ∀ i, i < s.er.nc → (s.er.cnm i == ("__debug__" : Str)) = false)
    (mf : ∀ i nm, i < s.er.nc → s.er.fld i = some nm → MkF P w K mg base (y.cs i) (s.er.cnm i) nm)
    (dd : ∀ i, i < s.nd → Fd K mg (s.nms (s.dix i)) (s.pss (s.dix i)) [y.dfv i] (y.ad (s.dix i)) (y.fds (s.dix i))) (dv : ∀ i, i < s.nd → RelV (y.dvv i) (y.dfv i)) (dw : ∀ i, i < s.nd → ∀ H M, Dr K H M (s.dwd i) (y.dvv i)) : Top P w K mg base s y := by
  obtain ⟨h1, A⟩ := Bool.and_eq_true_iff.mp A
  obtain ⟨h2, A⟩ := Bool.and_eq_true_iff.mp A
  obtain ⟨h3, A⟩ := Bool.and_eq_true_iff.mp A
  obtain ⟨h4, h5⟩ := Bool.and_eq_true_iff.mp A
  have c : ∀ i, i < s.er.nc → ClsB K s.er i (y.cs i) := fun i hi => by
    rw [hcs]
    exact clsB_ok (List.all_eq_true.mp h1 i (List.mem_range.mpr hi))
  have pr : ∀ i k, i < s.er.nc → k < s.er.nc → PySem.W.exmOne K (.ref (y.cs i)) (.ref (y.cs k)) = some (s.er.sub i k) ∧ PySem.W.kitOne K (.ref (y.cs i)) (.ref (y.cs k)) = some (s.er.sub i k) := fun i k hi hk => by
    have z := List.all_eq_true.mp (List.all_eq_true.mp h2 i (List.mem_range.mpr hi)) k (List.mem_range.mpr hk)
    obtain ⟨z1, z2⟩ := Bool.and_eq_true_iff.mp z
    rw [hcs]
    exact ⟨of_decide_eq_true z1, of_decide_eq_true z2⟩
  refine ⟨D, fun x hx => PySem.W.mg_none_of X G (of_decide_eq_true (List.all_eq_true.mp h5 x hx)), g, fun i hi hf X2 e1 e2 m j p p2 pos hg => ?_, mf, fun i hi => PySem.W.mg_of X G (c i hi).ns, fun i k hi hk => (pr i k hi hk).1, fun i k hi hk => (pr i k hi hk).2,
    fun t k ht hk => (c k hk).bt t ht, fun i hi => ⟨(c i hi).cl, (c i hi).ga, (c i hi).gt, (c i hi).sb, (c i hi).ca, (c i hi).mo, of_decide_eq_true h3, of_decide_eq_true h4⟩, fun i nm hi hf => ?_, dd, dv, dw⟩
  · subst e1 e2
    have z := (c i hi).ex
    rw [hf] at z
    exact pmk_own PySem.F.excBase_ValueError z (PySem.W.mg_of X G (c i hi).ns) (c i hi).kp (raises_own (c i hi).sb (c i hi).ty) hg (hdb i hi)
  · have z := (c i hi).ex
    rw [hf] at z
    obtain ⟨z1, z2⟩ := Bool.and_eq_true_iff.mp z
    exact ⟨xfB_ok z1, of_decide_eq_true z2⟩
end FL

set_option Elab.async false
set_option linter.all false
set_option maxRecDepth 100000
set_option maxHeartbeats 4000000
namespace G61
open PySem PySem.Spec PyProof.Rows
open L2 FL
abbrev Nn : Nat → Nat := fun i => match i with
  | 0 => N_is_name.length
  | 1 => N_is_code.length
  | 2 => N__is_row.length
  | 3 => N_is_target.length
  | 4 => N_check_code.length
  | 5 => N__fits.length
  | 6 => N_bounded.length
  | 7 => N_tidied.length
  | 8 => N__numbered.length
  | 9 => N_met.length
  | 10 => N_is_machine.length
  | 11 => N__is_instruction.length
  | 12 => N__check_machine.length
  | 13 => N__rows.length
  | 14 => N__row.length
  | 15 => N__rows_without_gotos.length
  | 16 => N__behind_gotos.length
  | 17 => N_code_of.length
  | 18 => N_instructions.length
  | 19 => N_machine.length
  | 20 => N__places.length
  | 21 => N__followers.length
  | 22 => N__follow.length
  | 23 => N__law_mixed.length
  | 24 => N__law_cell.length
  | 25 => N__law_take.length
  | 26 => N__law_words.length
  | 27 => N__law_ordered.length
  | 28 => N__law_any_code.length
  | 29 => N__law_machines.length
  | 30 => N__law_good.length
  | 31 => N_law.length
  | _ => 0
abbrev mm : Nat → Cs → FS := fun i => match i with
  | 0 => m_is_name
  | 1 => m_is_code
  | 2 => m__is_row
  | 3 => m_is_target
  | 4 => m_check_code
  | 5 => m__fits
  | 6 => m_bounded
  | 7 => m_tidied
  | 8 => m__numbered
  | 9 => m_met
  | 10 => m_is_machine
  | 11 => m__is_instruction
  | 12 => m__check_machine
  | 13 => m__rows
  | 14 => m__row
  | 15 => m__rows_without_gotos
  | 16 => m__behind_gotos
  | 17 => m_code_of
  | 18 => m_instructions
  | 19 => m_machine
  | 20 => m__places
  | 21 => m__followers
  | 22 => m__follow
  | 23 => m__law_mixed
  | 24 => m__law_cell
  | 25 => m__law_take
  | 26 => m__law_words
  | 27 => m__law_ordered
  | 28 => m__law_any_code
  | 29 => m__law_machines
  | 30 => m__law_good
  | 31 => m_law
  | _ => fun _ _ _ => .no
abbrev sts : Nat → Stmt := fun i => match i with
  | 0 => s_is_name
  | 1 => s_is_code
  | 2 => s__is_row
  | 3 => s_is_target
  | 4 => s_check_code
  | 5 => s__fits
  | 6 => s_bounded
  | 7 => s_tidied
  | 8 => s__numbered
  | 9 => s_met
  | 10 => s_is_machine
  | 11 => s__is_instruction
  | 12 => s__check_machine
  | 13 => s__rows
  | 14 => s__row
  | 15 => s__rows_without_gotos
  | 16 => s__behind_gotos
  | 17 => s_code_of
  | 18 => s_instructions
  | 19 => s_machine
  | 20 => s__places
  | 21 => s__followers
  | 22 => s__follow
  | 23 => s__law_mixed
  | 24 => s__law_cell
  | 25 => s__law_take
  | 26 => s__law_words
  | 27 => s__law_ordered
  | 28 => s__law_any_code
  | 29 => s__law_machines
  | 30 => s__law_good
  | 31 => s_law
  | _ => topK 0
@[simp] theorem gdt_0 : gdt 0 = (.int 8) := rfl
@[simp] theorem gdt_1 : gdt 1 = (.int 8) := rfl
@[simp] theorem gdt_2 : gdt 2 = (.tuple [(.str "and"), (.str "or"), (.str "not"), (.str "if"), (.str "else")]) := rfl
@[simp] theorem gdt_3 : gdt 3 = (.tuple [(.str "yes"), (.str "no")]) := rfl
@[simp] theorem gdt_4 : gdt 4 = (.int 60) := rfl
@[simp] theorem gdt_5 : gdt 5 = (.int 120) := rfl
@[simp] theorem dwd_0 : dwd 0 = (.int 0) := rfl
@[simp] theorem dwd_1 : dwd 1 = .none := rfl
theorem ok_all {P : Program} {w : World} {K : PySem.W.Frag} {mg : Str → Option Value} {base : Heap} {y : Dy} (F : ∀ i, i < 32 → FunF K (nms i) (sts i) (y.ad i) (y.fds i)) (n : Nat) (c : Cs) (T : Tb P w K mg base sg y n c) :
    ∀ i, i < 32 → FnF P w mg base (XRof K er y.cs w) (n + 1) (y.ad i) (y.fds i) (pss i) (fDef (Nn i) (mm i c)) := fun i hi => match i, hi with
  | 0, _ => ok_is_name T (F 0 (by decide))
  | 1, _ => ok_is_code T (F 1 (by decide))
  | 2, _ => ok__is_row T (F 2 (by decide))
  | 3, _ => ok_is_target T (F 3 (by decide))
  | 4, _ => ok_check_code T (F 4 (by decide))
  | 5, _ => ok__fits T (F 5 (by decide))
  | 6, _ => ok_bounded T (F 6 (by decide))
  | 7, _ => ok_tidied T (F 7 (by decide))
  | 8, _ => ok__numbered T (F 8 (by decide))
  | 9, _ => ok_met T (F 9 (by decide))
  | 10, _ => ok_is_machine T (F 10 (by decide))
  | 11, _ => ok__is_instruction T (F 11 (by decide))
  | 12, _ => ok__check_machine T (F 12 (by decide))
  | 13, _ => ok__rows T (F 13 (by decide))
  | 14, _ => ok__row T (F 14 (by decide))
  | 15, _ => ok__rows_without_gotos T (F 15 (by decide))
  | 16, _ => ok__behind_gotos T (F 16 (by decide))
  | 17, _ => ok_code_of T (F 17 (by decide))
  | 18, _ => ok_instructions T (F 18 (by decide))
  | 19, _ => ok_machine T (F 19 (by decide))
  | 20, _ => ok__places T (F 20 (by decide))
  | 21, _ => ok__followers T (F 21 (by decide))
  | 22, _ => ok__follow T (F 22 (by decide))
  | 23, _ => ok__law_mixed T (F 23 (by decide))
  | 24, _ => ok__law_cell T (F 24 (by decide))
  | 25, _ => ok__law_take T (F 25 (by decide))
  | 26, _ => ok__law_words T (F 26 (by decide))
  | 27, _ => ok__law_ordered T (F 27 (by decide))
  | 28, _ => ok__law_any_code T (F 28 (by decide))
  | 29, _ => ok__law_machines T (F 29 (by decide))
  | 30, _ => ok__law_good T (F 30 (by decide))
  | 31, _ => ok_law T (F 31 (by decide))
  | j + 32, hj => absurd hj (by show ¬ j + 32 < 32; omega)
theorem mk_is_name {K : PySem.W.Frag} {mg : Str → Option Value} {h : Heap} {f : Addr} {oc kV dc pm cd ct : Value} {od an : Option Addr} {sl : Array (Option Value)} (X : K.In h) (G : h.Ns mainGlobals mg)
    (a : PySem.W.nsIn K mainGlobals "is_name" = some (some (.ref f))) (l : K.lookup f = some ⟨oc, od, .func (PySem.W.fnOf "is_name" "is_name" (defArgs s_is_name) (defBody s_is_name) (defScope s_is_name) .none kV dc pm an cd ct), sl⟩)
    (c : PySem.W.codeIn K cd "is_name" = true) (k : PySem.W.keepIn K (.ref f) = true) : ∃ fd, DefT K mg "is_name" s_is_name ["value"] f fd := def_mk X G a l c k fun us hl => match us, hl with | [_], _ => rfl
theorem mk_is_code {K : PySem.W.Frag} {mg : Str → Option Value} {h : Heap} {f : Addr} {oc kV dc pm cd ct : Value} {od an : Option Addr} {sl : Array (Option Value)} (X : K.In h) (G : h.Ns mainGlobals mg)
    (a : PySem.W.nsIn K mainGlobals "is_code" = some (some (.ref f))) (l : K.lookup f = some ⟨oc, od, .func (PySem.W.fnOf "is_code" "is_code" (defArgs s_is_code) (defBody s_is_code) (defScope s_is_code) .none kV dc pm an cd ct), sl⟩)
    (c : PySem.W.codeIn K cd "is_code" = true) (k : PySem.W.keepIn K (.ref f) = true) : ∃ fd, DefT K mg "is_code" s_is_code ["value"] f fd := def_mk X G a l c k fun us hl => match us, hl with | [_], _ => rfl
theorem mk__is_row {K : PySem.W.Frag} {mg : Str → Option Value} {h : Heap} {f : Addr} {oc kV dc pm cd ct : Value} {od an : Option Addr} {sl : Array (Option Value)} (X : K.In h) (G : h.Ns mainGlobals mg)
    (a : PySem.W.nsIn K mainGlobals "_is_row" = some (some (.ref f))) (l : K.lookup f = some ⟨oc, od, .func (PySem.W.fnOf "_is_row" "_is_row" (defArgs s__is_row) (defBody s__is_row) (defScope s__is_row) .none kV dc pm an cd ct), sl⟩)
    (c : PySem.W.codeIn K cd "_is_row" = true) (k : PySem.W.keepIn K (.ref f) = true) : ∃ fd, DefT K mg "_is_row" s__is_row ["value", "number"] f fd := def_mk X G a l c k fun us hl => match us, hl with | [_, _], _ => rfl
theorem mk_is_target {K : PySem.W.Frag} {mg : Str → Option Value} {h : Heap} {f : Addr} {oc kV dc pm cd ct : Value} {od an : Option Addr} {sl : Array (Option Value)} (X : K.In h) (G : h.Ns mainGlobals mg)
    (a : PySem.W.nsIn K mainGlobals "is_target" = some (some (.ref f))) (l : K.lookup f = some ⟨oc, od, .func (PySem.W.fnOf "is_target" "is_target" (defArgs s_is_target) (defBody s_is_target) (defScope s_is_target) .none kV dc pm an cd ct), sl⟩)
    (c : PySem.W.codeIn K cd "is_target" = true) (k : PySem.W.keepIn K (.ref f) = true) : ∃ fd, DefT K mg "is_target" s_is_target ["value", "number"] f fd := def_mk X G a l c k fun us hl => match us, hl with | [_, _], _ => rfl
theorem mk_check_code {K : PySem.W.Frag} {mg : Str → Option Value} {h : Heap} {f : Addr} {oc kV dc pm cd ct : Value} {od an : Option Addr} {sl : Array (Option Value)} (X : K.In h) (G : h.Ns mainGlobals mg)
    (a : PySem.W.nsIn K mainGlobals "check_code" = some (some (.ref f))) (l : K.lookup f = some ⟨oc, od, .func (PySem.W.fnOf "check_code" "check_code" (defArgs s_check_code) (defBody s_check_code) (defScope s_check_code) .none kV dc pm an cd ct), sl⟩)
    (c : PySem.W.codeIn K cd "check_code" = true) (k : PySem.W.keepIn K (.ref f) = true) : ∃ fd, DefT K mg "check_code" s_check_code ["value"] f fd := def_mk X G a l c k fun us hl => match us, hl with | [_], _ => rfl
theorem mk__fits {K : PySem.W.Frag} {mg : Str → Option Value} {h : Heap} {f : Addr} {oc kV dc pm cd ct : Value} {od an : Option Addr} {sl : Array (Option Value)} (X : K.In h) (G : h.Ns mainGlobals mg)
    (a : PySem.W.nsIn K mainGlobals "_fits" = some (some (.ref f))) (l : K.lookup f = some ⟨oc, od, .func (PySem.W.fnOf "_fits" "_fits" (defArgs s__fits) (defBody s__fits) (defScope s__fits) .none kV dc pm an cd ct), sl⟩)
    (c : PySem.W.codeIn K cd "_fits" = true) (k : PySem.W.keepIn K (.ref f) = true) : ∃ fd, DefT K mg "_fits" s__fits ["rows"] f fd := def_mk X G a l c k fun us hl => match us, hl with | [_], _ => rfl
theorem mk_bounded {K : PySem.W.Frag} {mg : Str → Option Value} {h : Heap} {f : Addr} {oc kV dc pm cd ct : Value} {od an : Option Addr} {sl : Array (Option Value)} (X : K.In h) (G : h.Ns mainGlobals mg)
    (a : PySem.W.nsIn K mainGlobals "bounded" = some (some (.ref f))) (l : K.lookup f = some ⟨oc, od, .func (PySem.W.fnOf "bounded" "bounded" (defArgs s_bounded) (defBody s_bounded) (defScope s_bounded) .none kV dc pm an cd ct), sl⟩)
    (c : PySem.W.codeIn K cd "bounded" = true) (k : PySem.W.keepIn K (.ref f) = true) : ∃ fd, DefT K mg "bounded" s_bounded ["rows"] f fd := def_mk X G a l c k fun us hl => match us, hl with | [_], _ => rfl
theorem mk_tidied {K : PySem.W.Frag} {mg : Str → Option Value} {h : Heap} {f T : Addr} {oc kV dc pm cd ct o1 : Value} {od an o2 : Option Addr} {sl o4 : Array (Option Value)} {m : Nat} {tk : Tok} (X : K.In h) (G : h.Ns mainGlobals mg)
    (a : PySem.W.nsIn K mainGlobals "tidied" = some (some (.ref f))) (l : K.lookup f = some ⟨oc, od, .func (PySem.W.fnOf "tidied" "tidied" (defArgs s_tidied) (defBody s_tidied) (defScope s_tidied) (.ref T) kV dc pm an cd ct), sl⟩)
    (c : PySem.W.codeIn K cd "tidied" = true) (k : PySem.W.keepIn K (.ref f) = true) (lT : K.lookup T = some ⟨o1, o2, .seq #[.int 0 tk] m, o4⟩) : ∃ fd, DefD K mg "tidied" s_tidied ["rows", "start"] (dwd 0) f fd (.int 0 tk) (.int 0) :=
  defD_mk (n := 1) X G a l c k lT ⟨tk, rfl⟩ (fun H M => by unfold dwd; unfold Dr; rfl) rfl (fun us its hu hi => match us, its, hu, hi with | [_, _], [_], _, _ => ⟨_, rfl, rfl⟩) (fun us its hu hi => match us, its, hu, hi with | [_], [_], _, _ => ⟨_, rfl, rfl⟩)
theorem mk__numbered {K : PySem.W.Frag} {mg : Str → Option Value} {h : Heap} {f : Addr} {oc kV dc pm cd ct : Value} {od an : Option Addr} {sl : Array (Option Value)} (X : K.In h) (G : h.Ns mainGlobals mg)
    (a : PySem.W.nsIn K mainGlobals "_numbered" = some (some (.ref f))) (l : K.lookup f = some ⟨oc, od, .func (PySem.W.fnOf "_numbered" "_numbered" (defArgs s__numbered) (defBody s__numbered) (defScope s__numbered) .none kV dc pm an cd ct), sl⟩)
    (c : PySem.W.codeIn K cd "_numbered" = true) (k : PySem.W.keepIn K (.ref f) = true) : ∃ fd, DefT K mg "_numbered" s__numbered ["rows", "start"] f fd := def_mk X G a l c k fun us hl => match us, hl with | [_, _], _ => rfl
theorem mk_met {K : PySem.W.Frag} {mg : Str → Option Value} {h : Heap} {f T : Addr} {oc kV dc pm cd ct o1 : Value} {od an o2 : Option Addr} {sl o4 : Array (Option Value)} {m : Nat} (X : K.In h) (G : h.Ns mainGlobals mg)
    (a : PySem.W.nsIn K mainGlobals "met" = some (some (.ref f))) (l : K.lookup f = some ⟨oc, od, .func (PySem.W.fnOf "met" "met" (defArgs s_met) (defBody s_met) (defScope s_met) (.ref T) kV dc pm an cd ct), sl⟩)
    (c : PySem.W.codeIn K cd "met" = true) (k : PySem.W.keepIn K (.ref f) = true) (lT : K.lookup T = some ⟨o1, o2, .seq #[.none] m, o4⟩) : ∃ fd, DefD K mg "met" s_met ["rows", "start", "avoided"] (dwd 1) f fd .none .non :=
  defD_mk (n := 2) X G a l c k lT rfl (fun H M => by unfold dwd; unfold Dr; rfl) rfl (fun us its hu hi => match us, its, hu, hi with | [_, _, _], [_], _, _ => ⟨_, rfl, rfl⟩) (fun us its hu hi => match us, its, hu, hi with | [_, _], [_], _, _ => ⟨_, rfl, rfl⟩)
theorem mk_is_machine {K : PySem.W.Frag} {mg : Str → Option Value} {h : Heap} {f : Addr} {oc kV dc pm cd ct : Value} {od an : Option Addr} {sl : Array (Option Value)} (X : K.In h) (G : h.Ns mainGlobals mg)
    (a : PySem.W.nsIn K mainGlobals "is_machine" = some (some (.ref f))) (l : K.lookup f = some ⟨oc, od, .func (PySem.W.fnOf "is_machine" "is_machine" (defArgs s_is_machine) (defBody s_is_machine) (defScope s_is_machine) .none kV dc pm an cd ct), sl⟩)
    (c : PySem.W.codeIn K cd "is_machine" = true) (k : PySem.W.keepIn K (.ref f) = true) : ∃ fd, DefT K mg "is_machine" s_is_machine ["value"] f fd := def_mk X G a l c k fun us hl => match us, hl with | [_], _ => rfl
theorem mk__is_instruction {K : PySem.W.Frag} {mg : Str → Option Value} {h : Heap} {f : Addr} {oc kV dc pm cd ct : Value} {od an : Option Addr} {sl : Array (Option Value)} (X : K.In h) (G : h.Ns mainGlobals mg)
    (a : PySem.W.nsIn K mainGlobals "_is_instruction" = some (some (.ref f))) (l : K.lookup f = some ⟨oc, od, .func (PySem.W.fnOf "_is_instruction" "_is_instruction" (defArgs s__is_instruction) (defBody s__is_instruction) (defScope s__is_instruction) .none kV dc pm an cd ct), sl⟩)
    (c : PySem.W.codeIn K cd "_is_instruction" = true) (k : PySem.W.keepIn K (.ref f) = true) : ∃ fd, DefT K mg "_is_instruction" s__is_instruction ["value", "number"] f fd := def_mk X G a l c k fun us hl => match us, hl with | [_, _], _ => rfl
theorem mk__check_machine {K : PySem.W.Frag} {mg : Str → Option Value} {h : Heap} {f : Addr} {oc kV dc pm cd ct : Value} {od an : Option Addr} {sl : Array (Option Value)} (X : K.In h) (G : h.Ns mainGlobals mg)
    (a : PySem.W.nsIn K mainGlobals "_check_machine" = some (some (.ref f))) (l : K.lookup f = some ⟨oc, od, .func (PySem.W.fnOf "_check_machine" "_check_machine" (defArgs s__check_machine) (defBody s__check_machine) (defScope s__check_machine) .none kV dc pm an cd ct), sl⟩)
    (c : PySem.W.codeIn K cd "_check_machine" = true) (k : PySem.W.keepIn K (.ref f) = true) : ∃ fd, DefT K mg "_check_machine" s__check_machine ["value"] f fd := def_mk X G a l c k fun us hl => match us, hl with | [_], _ => rfl
theorem mk__rows {K : PySem.W.Frag} {mg : Str → Option Value} {h : Heap} {f : Addr} {oc kV dc pm cd ct : Value} {od an : Option Addr} {sl : Array (Option Value)} (X : K.In h) (G : h.Ns mainGlobals mg)
    (a : PySem.W.nsIn K mainGlobals "_rows" = some (some (.ref f))) (l : K.lookup f = some ⟨oc, od, .func (PySem.W.fnOf "_rows" "_rows" (defArgs s__rows) (defBody s__rows) (defScope s__rows) .none kV dc pm an cd ct), sl⟩)
    (c : PySem.W.codeIn K cd "_rows" = true) (k : PySem.W.keepIn K (.ref f) = true) : ∃ fd, DefT K mg "_rows" s__rows ["machine"] f fd := def_mk X G a l c k fun us hl => match us, hl with | [_], _ => rfl
theorem mk__row {K : PySem.W.Frag} {mg : Str → Option Value} {h : Heap} {f : Addr} {oc kV dc pm cd ct : Value} {od an : Option Addr} {sl : Array (Option Value)} (X : K.In h) (G : h.Ns mainGlobals mg)
    (a : PySem.W.nsIn K mainGlobals "_row" = some (some (.ref f))) (l : K.lookup f = some ⟨oc, od, .func (PySem.W.fnOf "_row" "_row" (defArgs s__row) (defBody s__row) (defScope s__row) .none kV dc pm an cd ct), sl⟩)
    (c : PySem.W.codeIn K cd "_row" = true) (k : PySem.W.keepIn K (.ref f) = true) : ∃ fd, DefT K mg "_row" s__row ["instruction", "behind"] f fd := def_mk X G a l c k fun us hl => match us, hl with | [_, _], _ => rfl
theorem mk__rows_without_gotos {K : PySem.W.Frag} {mg : Str → Option Value} {h : Heap} {f : Addr} {oc kV dc pm cd ct : Value} {od an : Option Addr} {sl : Array (Option Value)} (X : K.In h) (G : h.Ns mainGlobals mg)
    (a : PySem.W.nsIn K mainGlobals "_rows_without_gotos" = some (some (.ref f))) (l : K.lookup f = some ⟨oc, od, .func (PySem.W.fnOf "_rows_without_gotos" "_rows_without_gotos" (defArgs s__rows_without_gotos) (defBody s__rows_without_gotos) (defScope s__rows_without_gotos) .none kV dc pm an cd ct), sl⟩)
    (c : PySem.W.codeIn K cd "_rows_without_gotos" = true) (k : PySem.W.keepIn K (.ref f) = true) : ∃ fd, DefT K mg "_rows_without_gotos" s__rows_without_gotos ["machine"] f fd := def_mk X G a l c k fun us hl => match us, hl with | [_], _ => rfl
theorem mk__behind_gotos {K : PySem.W.Frag} {mg : Str → Option Value} {h : Heap} {f : Addr} {oc kV dc pm cd ct : Value} {od an : Option Addr} {sl : Array (Option Value)} (X : K.In h) (G : h.Ns mainGlobals mg)
    (a : PySem.W.nsIn K mainGlobals "_behind_gotos" = some (some (.ref f))) (l : K.lookup f = some ⟨oc, od, .func (PySem.W.fnOf "_behind_gotos" "_behind_gotos" (defArgs s__behind_gotos) (defBody s__behind_gotos) (defScope s__behind_gotos) .none kV dc pm an cd ct), sl⟩)
    (c : PySem.W.codeIn K cd "_behind_gotos" = true) (k : PySem.W.keepIn K (.ref f) = true) : ∃ fd, DefT K mg "_behind_gotos" s__behind_gotos ["rows", "target"] f fd := def_mk X G a l c k fun us hl => match us, hl with | [_, _], _ => rfl
theorem mk_code_of {K : PySem.W.Frag} {mg : Str → Option Value} {h : Heap} {f : Addr} {oc kV dc pm cd ct : Value} {od an : Option Addr} {sl : Array (Option Value)} (X : K.In h) (G : h.Ns mainGlobals mg)
    (a : PySem.W.nsIn K mainGlobals "code_of" = some (some (.ref f))) (l : K.lookup f = some ⟨oc, od, .func (PySem.W.fnOf "code_of" "code_of" (defArgs s_code_of) (defBody s_code_of) (defScope s_code_of) .none kV dc pm an cd ct), sl⟩)
    (c : PySem.W.codeIn K cd "code_of" = true) (k : PySem.W.keepIn K (.ref f) = true) : ∃ fd, DefT K mg "code_of" s_code_of ["machine"] f fd := def_mk X G a l c k fun us hl => match us, hl with | [_], _ => rfl
theorem mk_instructions {K : PySem.W.Frag} {mg : Str → Option Value} {h : Heap} {f : Addr} {oc kV dc pm cd ct : Value} {od an : Option Addr} {sl : Array (Option Value)} (X : K.In h) (G : h.Ns mainGlobals mg)
    (a : PySem.W.nsIn K mainGlobals "instructions" = some (some (.ref f))) (l : K.lookup f = some ⟨oc, od, .func (PySem.W.fnOf "instructions" "instructions" (defArgs s_instructions) (defBody s_instructions) (defScope s_instructions) .none kV dc pm an cd ct), sl⟩)
    (c : PySem.W.codeIn K cd "instructions" = true) (k : PySem.W.keepIn K (.ref f) = true) : ∃ fd, DefT K mg "instructions" s_instructions ["code"] f fd := def_mk X G a l c k fun us hl => match us, hl with | [_], _ => rfl
theorem mk_machine {K : PySem.W.Frag} {mg : Str → Option Value} {h : Heap} {f : Addr} {oc kV dc pm cd ct : Value} {od an : Option Addr} {sl : Array (Option Value)} (X : K.In h) (G : h.Ns mainGlobals mg)
    (a : PySem.W.nsIn K mainGlobals "machine" = some (some (.ref f))) (l : K.lookup f = some ⟨oc, od, .func (PySem.W.fnOf "machine" "machine" (defArgs s_machine) (defBody s_machine) (defScope s_machine) .none kV dc pm an cd ct), sl⟩)
    (c : PySem.W.codeIn K cd "machine" = true) (k : PySem.W.keepIn K (.ref f) = true) : ∃ fd, DefT K mg "machine" s_machine ["code"] f fd := def_mk X G a l c k fun us hl => match us, hl with | [_], _ => rfl
theorem mk__places {K : PySem.W.Frag} {mg : Str → Option Value} {h : Heap} {f : Addr} {oc kV dc pm cd ct : Value} {od an : Option Addr} {sl : Array (Option Value)} (X : K.In h) (G : h.Ns mainGlobals mg)
    (a : PySem.W.nsIn K mainGlobals "_places" = some (some (.ref f))) (l : K.lookup f = some ⟨oc, od, .func (PySem.W.fnOf "_places" "_places" (defArgs s__places) (defBody s__places) (defScope s__places) .none kV dc pm an cd ct), sl⟩)
    (c : PySem.W.codeIn K cd "_places" = true) (k : PySem.W.keepIn K (.ref f) = true) : ∃ fd, DefT K mg "_places" s__places ["code", "followers"] f fd := def_mk X G a l c k fun us hl => match us, hl with | [_, _], _ => rfl
theorem mk__followers {K : PySem.W.Frag} {mg : Str → Option Value} {h : Heap} {f : Addr} {oc kV dc pm cd ct : Value} {od an : Option Addr} {sl : Array (Option Value)} (X : K.In h) (G : h.Ns mainGlobals mg)
    (a : PySem.W.nsIn K mainGlobals "_followers" = some (some (.ref f))) (l : K.lookup f = some ⟨oc, od, .func (PySem.W.fnOf "_followers" "_followers" (defArgs s__followers) (defBody s__followers) (defScope s__followers) .none kV dc pm an cd ct), sl⟩)
    (c : PySem.W.codeIn K cd "_followers" = true) (k : PySem.W.keepIn K (.ref f) = true) : ∃ fd, DefT K mg "_followers" s__followers ["code"] f fd := def_mk X G a l c k fun us hl => match us, hl with | [_], _ => rfl
theorem mk__follow {K : PySem.W.Frag} {mg : Str → Option Value} {h : Heap} {f : Addr} {oc kV dc pm cd ct : Value} {od an : Option Addr} {sl : Array (Option Value)} (X : K.In h) (G : h.Ns mainGlobals mg)
    (a : PySem.W.nsIn K mainGlobals "_follow" = some (some (.ref f))) (l : K.lookup f = some ⟨oc, od, .func (PySem.W.fnOf "_follow" "_follow" (defArgs s__follow) (defBody s__follow) (defScope s__follow) .none kV dc pm an cd ct), sl⟩)
    (c : PySem.W.codeIn K cd "_follow" = true) (k : PySem.W.keepIn K (.ref f) = true) : ∃ fd, DefT K mg "_follow" s__follow ["code", "at", "found", "tried"] f fd := def_mk X G a l c k fun us hl => match us, hl with | [_, _, _, _], _ => rfl
theorem mk__law_mixed {K : PySem.W.Frag} {mg : Str → Option Value} {h : Heap} {f : Addr} {oc kV dc pm cd ct : Value} {od an : Option Addr} {sl : Array (Option Value)} (X : K.In h) (G : h.Ns mainGlobals mg)
    (a : PySem.W.nsIn K mainGlobals "_law_mixed" = some (some (.ref f))) (l : K.lookup f = some ⟨oc, od, .func (PySem.W.fnOf "_law_mixed" "_law_mixed" (defArgs s__law_mixed) (defBody s__law_mixed) (defScope s__law_mixed) .none kV dc pm an cd ct), sl⟩)
    (c : PySem.W.codeIn K cd "_law_mixed" = true) (k : PySem.W.keepIn K (.ref f) = true) : ∃ fd, DefT K mg "_law_mixed" s__law_mixed ["cell", "k"] f fd := def_mk X G a l c k fun us hl => match us, hl with | [_, _], _ => rfl
theorem mk__law_cell {K : PySem.W.Frag} {mg : Str → Option Value} {h : Heap} {f : Addr} {oc kV dc pm cd ct : Value} {od an : Option Addr} {sl : Array (Option Value)} (X : K.In h) (G : h.Ns mainGlobals mg)
    (a : PySem.W.nsIn K mainGlobals "_law_cell" = some (some (.ref f))) (l : K.lookup f = some ⟨oc, od, .func (PySem.W.fnOf "_law_cell" "_law_cell" (defArgs s__law_cell) (defBody s__law_cell) (defScope s__law_cell) .none kV dc pm an cd ct), sl⟩)
    (c : PySem.W.codeIn K cd "_law_cell" = true) (k : PySem.W.keepIn K (.ref f) = true) : ∃ fd, DefT K mg "_law_cell" s__law_cell ["script", "k"] f fd := def_mk X G a l c k fun us hl => match us, hl with | [_, _], _ => rfl
theorem mk__law_take {K : PySem.W.Frag} {mg : Str → Option Value} {h : Heap} {f : Addr} {oc kV dc pm cd ct : Value} {od an : Option Addr} {sl : Array (Option Value)} (X : K.In h) (G : h.Ns mainGlobals mg)
    (a : PySem.W.nsIn K mainGlobals "_law_take" = some (some (.ref f))) (l : K.lookup f = some ⟨oc, od, .func (PySem.W.fnOf "_law_take" "_law_take" (defArgs s__law_take) (defBody s__law_take) (defScope s__law_take) .none kV dc pm an cd ct), sl⟩)
    (c : PySem.W.codeIn K cd "_law_take" = true) (k : PySem.W.keepIn K (.ref f) = true) : ∃ fd, DefT K mg "_law_take" s__law_take ["own", "options"] f fd := def_mk X G a l c k fun us hl => match us, hl with | [_, _], _ => rfl
theorem mk__law_words {K : PySem.W.Frag} {mg : Str → Option Value} {h : Heap} {f : Addr} {oc kV dc pm cd ct : Value} {od an : Option Addr} {sl : Array (Option Value)} (X : K.In h) (G : h.Ns mainGlobals mg)
    (a : PySem.W.nsIn K mainGlobals "_law_words" = some (some (.ref f))) (l : K.lookup f = some ⟨oc, od, .func (PySem.W.fnOf "_law_words" "_law_words" (defArgs s__law_words) (defBody s__law_words) (defScope s__law_words) .none kV dc pm an cd ct), sl⟩)
    (c : PySem.W.codeIn K cd "_law_words" = true) (k : PySem.W.keepIn K (.ref f) = true) : ∃ fd, DefT K mg "_law_words" s__law_words ["own", "many"] f fd := def_mk X G a l c k fun us hl => match us, hl with | [_, _], _ => rfl
theorem mk__law_ordered {K : PySem.W.Frag} {mg : Str → Option Value} {h : Heap} {f : Addr} {oc kV dc pm cd ct : Value} {od an : Option Addr} {sl : Array (Option Value)} (X : K.In h) (G : h.Ns mainGlobals mg)
    (a : PySem.W.nsIn K mainGlobals "_law_ordered" = some (some (.ref f))) (l : K.lookup f = some ⟨oc, od, .func (PySem.W.fnOf "_law_ordered" "_law_ordered" (defArgs s__law_ordered) (defBody s__law_ordered) (defScope s__law_ordered) .none kV dc pm an cd ct), sl⟩)
    (c : PySem.W.codeIn K cd "_law_ordered" = true) (k : PySem.W.keepIn K (.ref f) = true) : ∃ fd, DefT K mg "_law_ordered" s__law_ordered ["rows", "start"] f fd := def_mk X G a l c k fun us hl => match us, hl with | [_, _], _ => rfl
theorem mk__law_any_code {K : PySem.W.Frag} {mg : Str → Option Value} {h : Heap} {f : Addr} {oc kV dc pm cd ct : Value} {od an : Option Addr} {sl : Array (Option Value)} (X : K.In h) (G : h.Ns mainGlobals mg)
    (a : PySem.W.nsIn K mainGlobals "_law_any_code" = some (some (.ref f))) (l : K.lookup f = some ⟨oc, od, .func (PySem.W.fnOf "_law_any_code" "_law_any_code" (defArgs s__law_any_code) (defBody s__law_any_code) (defScope s__law_any_code) .none kV dc pm an cd ct), sl⟩)
    (c : PySem.W.codeIn K cd "_law_any_code" = true) (k : PySem.W.keepIn K (.ref f) = true) : ∃ fd, DefT K mg "_law_any_code" s__law_any_code ["own", "words", "many"] f fd := def_mk X G a l c k fun us hl => match us, hl with | [_, _, _], _ => rfl
theorem mk__law_machines {K : PySem.W.Frag} {mg : Str → Option Value} {h : Heap} {f : Addr} {oc kV dc pm cd ct : Value} {od an : Option Addr} {sl : Array (Option Value)} (X : K.In h) (G : h.Ns mainGlobals mg)
    (a : PySem.W.nsIn K mainGlobals "_law_machines" = some (some (.ref f))) (l : K.lookup f = some ⟨oc, od, .func (PySem.W.fnOf "_law_machines" "_law_machines" (defArgs s__law_machines) (defBody s__law_machines) (defScope s__law_machines) .none kV dc pm an cd ct), sl⟩)
    (c : PySem.W.codeIn K cd "_law_machines" = true) (k : PySem.W.keepIn K (.ref f) = true) : ∃ fd, DefT K mg "_law_machines" s__law_machines ["words", "many"] f fd := def_mk X G a l c k fun us hl => match us, hl with | [_, _], _ => rfl
theorem mk__law_good {K : PySem.W.Frag} {mg : Str → Option Value} {h : Heap} {f : Addr} {oc kV dc pm cd ct : Value} {od an : Option Addr} {sl : Array (Option Value)} (X : K.In h) (G : h.Ns mainGlobals mg)
    (a : PySem.W.nsIn K mainGlobals "_law_good" = some (some (.ref f))) (l : K.lookup f = some ⟨oc, od, .func (PySem.W.fnOf "_law_good" "_law_good" (defArgs s__law_good) (defBody s__law_good) (defScope s__law_good) .none kV dc pm an cd ct), sl⟩)
    (c : PySem.W.codeIn K cd "_law_good" = true) (k : PySem.W.keepIn K (.ref f) = true) : ∃ fd, DefT K mg "_law_good" s__law_good ["rows", "words"] f fd := def_mk X G a l c k fun us hl => match us, hl with | [_, _], _ => rfl
theorem mk_law {K : PySem.W.Frag} {mg : Str → Option Value} {h : Heap} {f : Addr} {oc kV dc pm cd ct : Value} {od an : Option Addr} {sl : Array (Option Value)} (X : K.In h) (G : h.Ns mainGlobals mg)
    (a : PySem.W.nsIn K mainGlobals "law" = some (some (.ref f))) (l : K.lookup f = some ⟨oc, od, .func (PySem.W.fnOf "law" "law" (defArgs s_law) (defBody s_law) (defScope s_law) .none kV dc pm an cd ct), sl⟩)
    (c : PySem.W.codeIn K cd "law" = true) (k : PySem.W.keepIn K (.ref f) = true) : ∃ fd, DefT K mg "law" s_law ["script"] f fd ∧ ∀ (s : Shared) (u : Value), BindsTo s fd ⟨[u], []⟩ [("script", u)] := def_mkL X G a l c k fun us hl => match us, hl with | [_], _ => rfl
theorem all_mk {P : Program} {w : World} {K : PySem.W.Frag} {mg : Str → Option Value} {h : Heap} {fa : Addr} {c0 c1 c2 c3 f0 f1 f2 f3 f4 f5 f6 f7 f8 f9 f10 f11 f12 f13 f14 f15 f16 f17 f18 f19 f20 f21 f22 f23 f24 f25 f26 f27 f28 f29 f30 f31 : Addr} {du0 du1 : Value} {dv0 dv1 : V} (X : K.In h) (G : h.Ns mainGlobals mg) (hfa : mg "law" = some (.ref fa))
    (A : topB K sg [c0, c1, c2, c3] = true)
    (g0 : Gd K mg (gnm 0) (gdt 0))
    (g1 : Gd K mg (gnm 1) (gdt 1))
    (g2 : Gd K mg (gnm 2) (gdt 2))
    (g3 : Gd K mg (gnm 3) (gdt 3))
    (g4 : Gd K mg (gnm 4) (gdt 4))
    (g5 : Gd K mg (gnm 5) (gdt 5))
    (e0 : ∃ fd, DefT K mg "is_name" s_is_name ["value"] f0 fd)
    (e1 : ∃ fd, DefT K mg "is_code" s_is_code ["value"] f1 fd)
    (e2 : ∃ fd, DefT K mg "_is_row" s__is_row ["value", "number"] f2 fd)
    (e3 : ∃ fd, DefT K mg "is_target" s_is_target ["value", "number"] f3 fd)
    (e4 : ∃ fd, DefT K mg "check_code" s_check_code ["value"] f4 fd)
    (e5 : ∃ fd, DefT K mg "_fits" s__fits ["rows"] f5 fd)
    (e6 : ∃ fd, DefT K mg "bounded" s_bounded ["rows"] f6 fd)
    (e7 : ∃ fd, DefD K mg "tidied" s_tidied ["rows", "start"] (dwd 0) f7 fd du0 dv0)
    (e8 : ∃ fd, DefT K mg "_numbered" s__numbered ["rows", "start"] f8 fd)
    (e9 : ∃ fd, DefD K mg "met" s_met ["rows", "start", "avoided"] (dwd 1) f9 fd du1 dv1)
    (e10 : ∃ fd, DefT K mg "is_machine" s_is_machine ["value"] f10 fd)
    (e11 : ∃ fd, DefT K mg "_is_instruction" s__is_instruction ["value", "number"] f11 fd)
    (e12 : ∃ fd, DefT K mg "_check_machine" s__check_machine ["value"] f12 fd)
    (e13 : ∃ fd, DefT K mg "_rows" s__rows ["machine"] f13 fd)
    (e14 : ∃ fd, DefT K mg "_row" s__row ["instruction", "behind"] f14 fd)
    (e15 : ∃ fd, DefT K mg "_rows_without_gotos" s__rows_without_gotos ["machine"] f15 fd)
    (e16 : ∃ fd, DefT K mg "_behind_gotos" s__behind_gotos ["rows", "target"] f16 fd)
    (e17 : ∃ fd, DefT K mg "code_of" s_code_of ["machine"] f17 fd)
    (e18 : ∃ fd, DefT K mg "instructions" s_instructions ["code"] f18 fd)
    (e19 : ∃ fd, DefT K mg "machine" s_machine ["code"] f19 fd)
    (e20 : ∃ fd, DefT K mg "_places" s__places ["code", "followers"] f20 fd)
    (e21 : ∃ fd, DefT K mg "_followers" s__followers ["code"] f21 fd)
    (e22 : ∃ fd, DefT K mg "_follow" s__follow ["code", "at", "found", "tried"] f22 fd)
    (e23 : ∃ fd, DefT K mg "_law_mixed" s__law_mixed ["cell", "k"] f23 fd)
    (e24 : ∃ fd, DefT K mg "_law_cell" s__law_cell ["script", "k"] f24 fd)
    (e25 : ∃ fd, DefT K mg "_law_take" s__law_take ["own", "options"] f25 fd)
    (e26 : ∃ fd, DefT K mg "_law_words" s__law_words ["own", "many"] f26 fd)
    (e27 : ∃ fd, DefT K mg "_law_ordered" s__law_ordered ["rows", "start"] f27 fd)
    (e28 : ∃ fd, DefT K mg "_law_any_code" s__law_any_code ["own", "words", "many"] f28 fd)
    (e29 : ∃ fd, DefT K mg "_law_machines" s__law_machines ["words", "many"] f29 fd)
    (e30 : ∃ fd, DefT K mg "_law_good" s__law_good ["rows", "words"] f30 fd)
    (e31 : ∃ fd, DefT K mg "law" s_law ["script"] f31 fd ∧ ∀ (s : Shared) (u : Value), BindsTo s fd ⟨[u], []⟩ [("script", u)])
    : ∃ (fd : FuncData) (XR : XRel K), (∀ (s : Shared) (u : Value), BindsTo s fd ⟨[u], []⟩ [("script", u)]) ∧ ∀ base : Heap, K.In base → base.Ns mainGlobals mg → FnF P w mg base XR 102 fa fd ["script"] (lev Nn mm 100 31) := by
  obtain ⟨d0, t0⟩ := e0
  obtain ⟨d1, t1⟩ := e1
  obtain ⟨d2, t2⟩ := e2
  obtain ⟨d3, t3⟩ := e3
  obtain ⟨d4, t4⟩ := e4
  obtain ⟨d5, t5⟩ := e5
  obtain ⟨d6, t6⟩ := e6
  obtain ⟨d7, t7⟩ := e7
  obtain ⟨d8, t8⟩ := e8
  obtain ⟨d9, t9⟩ := e9
  obtain ⟨d10, t10⟩ := e10
  obtain ⟨d11, t11⟩ := e11
  obtain ⟨d12, t12⟩ := e12
  obtain ⟨d13, t13⟩ := e13
  obtain ⟨d14, t14⟩ := e14
  obtain ⟨d15, t15⟩ := e15
  obtain ⟨d16, t16⟩ := e16
  obtain ⟨d17, t17⟩ := e17
  obtain ⟨d18, t18⟩ := e18
  obtain ⟨d19, t19⟩ := e19
  obtain ⟨d20, t20⟩ := e20
  obtain ⟨d21, t21⟩ := e21
  obtain ⟨d22, t22⟩ := e22
  obtain ⟨d23, t23⟩ := e23
  obtain ⟨d24, t24⟩ := e24
  obtain ⟨d25, t25⟩ := e25
  obtain ⟨d26, t26⟩ := e26
  obtain ⟨d27, t27⟩ := e27
  obtain ⟨d28, t28⟩ := e28
  obtain ⟨d29, t29⟩ := e29
  obtain ⟨d30, t30⟩ := e30
  obtain ⟨d31, t31, bL⟩ := e31
  have e := hfa.symm.trans t31.d.g
  cases e
  let y : Dy := ⟨fun i => [c0, c1, c2, c3].getD i 0, fun i => [f0, f1, f2, f3, f4, f5, f6, f7, f8, f9, f10, f11, f12, f13, f14, f15, f16, f17, f18, f19, f20, f21, f22, f23, f24, f25, f26, f27, f28, f29, f30, fa].getD i 0, (fun i => match i with | 0 => d0 | 1 => d1 | 2 => d2 | 3 => d3 | 4 => d4 | 5 => d5 | 6 => d6 | 7 => d7 | 8 => d8 | 9 => d9 | 10 => d10 | 11 => d11 | 12 => d12 | 13 => d13 | 14 => d14 | 15 => d15 | 16 => d16 | 17 => d17 | 18 => d18 | 19 => d19 | 20 => d20 | 21 => d21 | 22 => d22 | 23 => d23 | 24 => d24 | 25 => d25 | 26 => d26 | 27 => d27 | 28 => d28 | 29 => d29 | 30 => d30 | 31 => d31 | _ => d0 : Nat → FuncData), (fun i => match i with | 0 => du0 | 1 => du1 | _ => .none : Nat → Value), (fun i => match i with | 0 => dv0 | 1 => dv1 | _ => .non : Nat → V)⟩
  have D : ∀ i, i < 32 → Fd K mg (nms i) (pss i) [] (y.ad i) (y.fds i) := fun i hi => match i, hi with
    | 0, _ => t0.d
    | 1, _ => t1.d
    | 2, _ => t2.d
    | 3, _ => t3.d
    | 4, _ => t4.d
    | 5, _ => t5.d
    | 6, _ => t6.d
    | 7, _ => t7.t.d
    | 8, _ => t8.d
    | 9, _ => t9.t.d
    | 10, _ => t10.d
    | 11, _ => t11.d
    | 12, _ => t12.d
    | 13, _ => t13.d
    | 14, _ => t14.d
    | 15, _ => t15.d
    | 16, _ => t16.d
    | 17, _ => t17.d
    | 18, _ => t18.d
    | 19, _ => t19.d
    | 20, _ => t20.d
    | 21, _ => t21.d
    | 22, _ => t22.d
    | 23, _ => t23.d
    | 24, _ => t24.d
    | 25, _ => t25.d
    | 26, _ => t26.d
    | 27, _ => t27.d
    | 28, _ => t28.d
    | 29, _ => t29.d
    | 30, _ => t30.d
    | 31, _ => t31.d
    | j + 32, hj => absurd hj (by show ¬ j + 32 < 32; omega)
  have F : ∀ i, i < 32 → FunF K (nms i) (sts i) (y.ad i) (y.fds i) := fun i hi => match i, hi with
    | 0, _ => t0.F
    | 1, _ => t1.F
    | 2, _ => t2.F
    | 3, _ => t3.F
    | 4, _ => t4.F
    | 5, _ => t5.F
    | 6, _ => t6.F
    | 7, _ => t7.t.F
    | 8, _ => t8.F
    | 9, _ => t9.t.F
    | 10, _ => t10.F
    | 11, _ => t11.F
    | 12, _ => t12.F
    | 13, _ => t13.F
    | 14, _ => t14.F
    | 15, _ => t15.F
    | 16, _ => t16.F
    | 17, _ => t17.F
    | 18, _ => t18.F
    | 19, _ => t19.F
    | 20, _ => t20.F
    | 21, _ => t21.F
    | 22, _ => t22.F
    | 23, _ => t23.F
    | 24, _ => t24.F
    | 25, _ => t25.F
    | 26, _ => t26.F
    | 27, _ => t27.F
    | 28, _ => t28.F
    | 29, _ => t29.F
    | 30, _ => t30.F
    | 31, _ => t31.F
    | j + 32, hj => absurd hj (by show ¬ j + 32 < 32; omega)
  have gg : ∀ i, i < 6 → Gd K mg (gnm i) (gdt i) := fun i hi => match i, hi with
    | 0, _ => g0
    | 1, _ => g1
    | 2, _ => g2
    | 3, _ => g3
    | 4, _ => g4
    | 5, _ => g5
    | j + 6, hj => absurd hj (by show ¬ j + 6 < 6; omega)
  have hb : ∀ i, i < 4 → (cnm i == ("__debug__" : Str)) = false := fun i hi => match i, hi with
    | 0, _ => by decide
    | 1, _ => by decide
    | 2, _ => by decide
    | 3, _ => by decide
    | j + 4, hj => absurd hj (by show ¬ j + 4 < 4; omega)
  have S : ∀ base : Heap, Top P w K mg base sg y := fun base => topB_ok A X G rfl D gg hb (fun i nm hi hf => match i, hi, hf with
    | 0, _, hf => by cases hf
    | 1, _, hf => by cases hf
    | 2, _, hf => by cases hf
    | 3, _, hf => by cases hf
    | j + 4, hj, _ => absurd hj (by show ¬ j + 4 < 4; omega))
    (fun i hi => match i, hi with
    | 0, _ => t7.p
    | 1, _ => t9.p
    | j + 2, hj => absurd hj (by show ¬ j + 2 < 2; omega))
    (fun i hi => match i, hi with
    | 0, _ => t7.r
    | 1, _ => t9.r
    | j + 2, hj => absurd hj (by show ¬ j + 2 < 2; omega))
    (fun i hi => match i, hi with
    | 0, _ => t7.w
    | 1, _ => t9.w
    | j + 2, hj => absurd hj (by show ¬ j + 2 < 2; omega))
  exact ⟨_, XRof K er y.cs w, bL, fun base KX GX => (tb_all (S base) (fun n c T => ok_all F n c T) 100).F 31 (by decide)⟩
theorem all_mk0 {P : Program} {w : World} {K : PySem.W.Frag} {mg : Str → Option Value} {h : Heap} {fa : Addr} {c0 c1 c2 c3 f0 f1 f2 f3 f4 f5 f6 f7 f8 f9 f10 f11 f12 f13 f14 f15 f16 f17 f18 f19 f20 f21 f22 f23 f24 f25 f26 f27 f28 f29 f30 f31 : Addr} {du0 du1 : Value} {dv0 dv1 : V} (X : K.In h) (G : h.Ns mainGlobals mg) (hfa : mg "law" = some (.ref fa))
    (n0 : PySem.W.nsIn K mainGlobals "LeftFirstError" = some (some (.ref c0)))
    (n1 : PySem.W.nsIn K mainGlobals "InvalidCode" = some (some (.ref c1)))
    (n2 : PySem.W.nsIn K mainGlobals "InvalidMachine" = some (some (.ref c2)))
    (n3 : PySem.W.nsIn K mainGlobals "TooLarge" = some (some (.ref c3)))
    (A : topB K sg [c0, c1, c2, c3] = true)
    (g0 : Gd K mg (gnm 0) (gdt 0))
    (g1 : Gd K mg (gnm 1) (gdt 1))
    (g2 : Gd K mg (gnm 2) (gdt 2))
    (g3 : Gd K mg (gnm 3) (gdt 3))
    (g4 : Gd K mg (gnm 4) (gdt 4))
    (g5 : Gd K mg (gnm 5) (gdt 5))
    (e0 : ∃ fd, DefT K mg "is_name" s_is_name ["value"] f0 fd)
    (e1 : ∃ fd, DefT K mg "is_code" s_is_code ["value"] f1 fd)
    (e2 : ∃ fd, DefT K mg "_is_row" s__is_row ["value", "number"] f2 fd)
    (e3 : ∃ fd, DefT K mg "is_target" s_is_target ["value", "number"] f3 fd)
    (e4 : ∃ fd, DefT K mg "check_code" s_check_code ["value"] f4 fd)
    (e5 : ∃ fd, DefT K mg "_fits" s__fits ["rows"] f5 fd)
    (e6 : ∃ fd, DefT K mg "bounded" s_bounded ["rows"] f6 fd)
    (e7 : ∃ fd, DefD K mg "tidied" s_tidied ["rows", "start"] (dwd 0) f7 fd du0 dv0)
    (e8 : ∃ fd, DefT K mg "_numbered" s__numbered ["rows", "start"] f8 fd)
    (e9 : ∃ fd, DefD K mg "met" s_met ["rows", "start", "avoided"] (dwd 1) f9 fd du1 dv1)
    (e10 : ∃ fd, DefT K mg "is_machine" s_is_machine ["value"] f10 fd)
    (e11 : ∃ fd, DefT K mg "_is_instruction" s__is_instruction ["value", "number"] f11 fd)
    (e12 : ∃ fd, DefT K mg "_check_machine" s__check_machine ["value"] f12 fd)
    (e13 : ∃ fd, DefT K mg "_rows" s__rows ["machine"] f13 fd)
    (e14 : ∃ fd, DefT K mg "_row" s__row ["instruction", "behind"] f14 fd)
    (e15 : ∃ fd, DefT K mg "_rows_without_gotos" s__rows_without_gotos ["machine"] f15 fd)
    (e16 : ∃ fd, DefT K mg "_behind_gotos" s__behind_gotos ["rows", "target"] f16 fd)
    (e17 : ∃ fd, DefT K mg "code_of" s_code_of ["machine"] f17 fd)
    (e18 : ∃ fd, DefT K mg "instructions" s_instructions ["code"] f18 fd)
    (e19 : ∃ fd, DefT K mg "machine" s_machine ["code"] f19 fd)
    (e20 : ∃ fd, DefT K mg "_places" s__places ["code", "followers"] f20 fd)
    (e21 : ∃ fd, DefT K mg "_followers" s__followers ["code"] f21 fd)
    (e22 : ∃ fd, DefT K mg "_follow" s__follow ["code", "at", "found", "tried"] f22 fd)
    (e23 : ∃ fd, DefT K mg "_law_mixed" s__law_mixed ["cell", "k"] f23 fd)
    (e24 : ∃ fd, DefT K mg "_law_cell" s__law_cell ["script", "k"] f24 fd)
    (e25 : ∃ fd, DefT K mg "_law_take" s__law_take ["own", "options"] f25 fd)
    (e26 : ∃ fd, DefT K mg "_law_words" s__law_words ["own", "many"] f26 fd)
    (e27 : ∃ fd, DefT K mg "_law_ordered" s__law_ordered ["rows", "start"] f27 fd)
    (e28 : ∃ fd, DefT K mg "_law_any_code" s__law_any_code ["own", "words", "many"] f28 fd)
    (e29 : ∃ fd, DefT K mg "_law_machines" s__law_machines ["words", "many"] f29 fd)
    (e30 : ∃ fd, DefT K mg "_law_good" s__law_good ["rows", "words"] f30 fd)
    (e31 : ∃ fd, DefT K mg "law" s_law ["script"] f31 fd ∧ ∀ (s : Shared) (u : Value), BindsTo s fd ⟨[u], []⟩ [("script", u)])
    : ∃ (fd : FuncData) (XR : XRel K), (∀ (s : Shared) (u : Value), BindsTo s fd ⟨[u], []⟩ [("script", u)]) ∧ ∀ base : Heap, K.In base → base.Ns mainGlobals mg → FnF P w mg base XR 102 fa fd ["script"] (lev Nn mm 100 31) :=
  all_mk X G hfa A g0 g1 g2 g3 g4 g5 e0 e1 e2 e3 e4 e5 e6 e7 e8 e9 e10 e11 e12 e13 e14 e15 e16 e17 e18 e19 e20 e21 e22 e23 e24 e25 e26 e27 e28 e29 e30 e31
end G61

set_option linter.all false
set_option maxHeartbeats 4000000
/-! what P53, Q53 have for any law -/
namespace FL
open PySem L2
def own (S : So) (k : Nat) (i : Int) : So := S.set k (.l [.int i])
section
variable {S : So} {k : Nat} {i j : Int}
@[simp] theorem own_len : (own S k i).length = S.length := by simp [own]
@[simp] theorem own_set : (own S k i).set k (.l [.int j]) = own S k j := by simp [own]
@[simp] theorem own_own : own (own S k i) k j = own S k j := by simp [own]
theorem own_get (h : k < S.length) : (own S k i)[k]? = some (.l [.int i]) := by simp [own, h]
@[simp] theorem own_take : (own S k i).take S.length = own S k i := List.take_of_length_le (by simp)
theorem own_self (h : S[k]? = some (.l [.int i])) : own S k i = S := by
  unfold own
  obtain ⟨hk, e⟩ := List.getElem?_eq_some_iff.mp h
  rw [← e]
  exact List.set_getElem_self hk
end
@[simp] theorem s_atI : type_of% @atI.eq_1 := @atI.eq_1
@[simp] theorem s_ixN : type_of% @ixN.eq_1 := @ixN.eq_1
@[simp] theorem take_set_len (S : So) (k : Nat) (o : Ob) : (S.set k o).take S.length = S.set k o := List.take_of_length_le (by simp)
theorem lcL_map {α : Type} {g : FG} {te : FE} {ev0 : Ev} {S : So} {dt : α → PyData} {f : α → PyData} : ∀ (xs : List α) (acc : List PyData), (∀ x, x ∈ xs → ∃ e1, g (.d (dt x)) ev0 = some e1 ∧ te e1 S = .ok (.d (f x)) S) → acc.length + xs.length ≤ sizeLine →
    lcL g fYes te ev0 (xs.map dt) S acc = .ok (acc ++ xs.map f) S
  | [], acc, _, _ => by simp
  | x :: xs, acc, h, hl => by
    obtain ⟨e1, h1, h2⟩ := h x List.mem_cons_self
    rw [List.length_cons] at hl
    rw [List.map_cons]
    unfold lcL
    rw [h1]
    dsimp only
    rw [h2]
    dsimp only
    rw [if_pos ⟨rfl, by omega⟩, lcL_map xs (acc ++ [f x]) (fun y hy => h y (List.mem_cons_of_mem _ hy)) (by rw [List.length_append, List.length_singleton]; omega), List.map_cons, List.append_assoc]
    rfl
@[simp] theorem cEq_ss (a b : Str) (S : So) : cEq (.d (.str a)) (.d (.str b)) S = .ok (.d (.bool (PyData.eqv (.str a) (.str b)))) S := by
  unfold cEq oEq
  simp [toP, PyData.plain, PyData.depth]
@[simp] theorem ix_tup (x : PyData) (xs : List PyData) (S : So) : oIx (.d (.tuple (x :: xs))) (.d (.int 0)) S = .ok (.d x) S := by
  simp
@[simp] theorem sl_1 (x : PyData) (xs : List PyData) (S : So) : oSl (.d (.tuple (x :: xs))) (some 1) none S = .ok (.d (.tuple xs)) S := by
  unfold oSl
  simp [HT.sIx, cutP]
theorem seq_nx {f g : FS} {ev e1 : Ev} {S S1 : So} (h : f ev S = .nx e1 S1) : fSeq f g ev S = g e1 S1 := by
  unfold fSeq
  rw [h]
  rfl
theorem seq_rt {f g : FS} {ev : Ev} {S S1 : So} {w : W} (h : f ev S = .rt w S1) : fSeq f g ev S = .rt w S1 := by
  unfold fSeq
  rw [h]
  rfl
@[simp] theorem add_ii (i j : Int) (S : So) : oAdd (.d (.int i)) (.d (.int j)) S = .ok (.d (.int (i + j))) S := by
  simp [oAdd]
@[simp] theorem allD_map : ∀ ds : List PyData, allD (ds.map W.d) = some ds
  | [] => rfl
  | d :: ds => by
    rw [List.map_cons]
    unfold allD
    rw [allD_map ds]
    rfl
@[simp] theorem cEq_ii (a b : Int) (S : So) : cEq (.d (.int a)) (.d (.int b)) S = .ok (.d (.bool (decide (a = b)))) S := by
  unfold cEq oEq
  simp [toP, PyData.plain, PyData.depth, PyData.eqv]
  rfl
@[simp] theorem ix_tup1 (x y : PyData) (xs : List PyData) (S : So) : oIx (.d (.tuple (x :: y :: xs))) (.d (.int 1)) S = .ok (.d y) S := by
  simp
  rw [if_pos (by omega)]
  rfl
theorem kit_tt : kitB "tuple" "tuple" = some true := by decide +kernel
@[simp] theorem isi_tup (xs : List PyData) (S : So) (f : FE) (ev : Ev) (h : f ev S = .ok (.d (.tuple xs)) S) : fIsi "tuple" f ev S = .ok (.d (.bool true)) S := by
  simp [fIsi, h, tyW, kit_tt]
@[simp] theorem s2g0 (S : So) (a b : Ob) : (S ++ [a, b])[S.length]? = some a := by simp
@[simp] theorem s2g1 (S : So) (a b : Ob) : (S ++ [a, b])[S.length + 1]? = some b := by simp
@[simp] theorem s2s0 (S : So) (a b x : Ob) : (S ++ [a, b]).set S.length x = S ++ [x, b] := by simp
@[simp] theorem s2s1 (S : So) (a b x : Ob) : (S ++ [a, b]).set (S.length + 1) x = S ++ [a, x] := by simp
@[simp] theorem cGt_ii (a b : Int) (S : So) : cGt (.d (.int a)) (.d (.int b)) S = .ok (.d (.bool (decide (b < a)))) S := by simp [cGt]
@[simp] theorem ix_tup2 (x y z : PyData) (xs : List PyData) (S : So) : oIx (.d (.tuple (x :: y :: z :: xs))) (.d (.int 2)) S = .ok (.d z) S := by
  simp
  rw [if_pos (by omega)]
  rfl
@[simp] theorem ix_tup3 (x y z u : PyData) (xs : List PyData) (S : So) : oIx (.d (.tuple (x :: y :: z :: u :: xs))) (.d (.int 3)) S = .ok (.d u) S := by
  simp
  rw [if_pos (by omega)]
  rfl
@[simp] theorem sl_2 (x y : PyData) (xs : List PyData) (S : So) : oSl (.d (.tuple (x :: y :: xs))) (some 2) none S = .ok (.d (.tuple xs)) S := by
  unfold oSl
  simp [HT.sIx, cutP]
@[simp] theorem toP_d (d : PyData) (S : So) : toP (.d d) S = some d := rfl
@[simp] theorem ny : (("no" : Str) = "yes") = False := eq_false (by decide)
@[simp] theorem yn : (("yes" : Str) = "no") = False := eq_false (by decide)
theorem fdef_d {k : Nat} {b : FS} {ws : List W} {S S1 : So} {x : PyData} (h : b (ws.map some ++ List.replicate (k - ws.length) none) S = .rt (.d x) S1) : fDef k b ws S = .ok (.d x) (S1.take S.length) := by
  unfold fDef
  rw [h]
  rfl
@[simp] theorem take_s1 (T : So) (o : Ob) : (T ++ [o]).take (T.length + 1) = T ++ [o] := List.take_of_length_le (by simp)
theorem forL_inv (I : Ev → So → Prop) (g : FG) (b : FS) : ∀ (ds : List PyData) (ev : Ev) (S : So), I ev S → (∀ d ∈ ds, ∀ ev S, I ev S → ∃ e1 ev' S', g (.d d) ev = some e1 ∧ b e1 S = .nx ev' S' ∧ I ev' S') →
    ∃ ev' S', forL g b ds ev S = .nx ev' S' ∧ I ev' S'
  | [], ev, S, h, _ => ⟨ev, S, rfl, h⟩
  | d :: ds, ev, S, h, st => by
    obtain ⟨e1, ev1, S1, h1, h2, h3⟩ := st d List.mem_cons_self ev S h
    obtain ⟨ev', S', h4, h5⟩ := forL_inv I g b ds ev1 S1 h3 fun x hx => st x (List.mem_cons_of_mem _ hx)
    refine ⟨ev', S', ?_, h5⟩
    unfold forL
    rw [h1]
    dsimp only
    rw [h2]
    exact h4
theorem mul_w (a b : Int) (T : So) (h : cMulW a b = true) : oMul (.d (.int a)) (.d (.int b)) T = .ok (.d (.int (a * b))) T := by
  unfold oMul oOr oI
  simp only [asI]
  by_cases c : cSm a b = true
  · rw [if_pos c]
  · rw [if_neg c, if_pos h]
theorem lcL_draw (P : PyData → Prop) (S : So) (k : Nat) (g : FG) (te : FE) (ev0 : Ev) : ∀ (ds : List PyData) (i : Int) (acc : List PyData), (∀ d ∈ ds, ∃ e1, g (.d d) ev0 = some e1 ∧ ∀ i, ∃ y i', te e1 (own S k i) = .ok (.d y) (own S k i') ∧ P y) → acc.length + ds.length ≤ sizeLine →
    ∃ ys i', lcL g fYes te ev0 ds (own S k i) acc = .ok (acc ++ ys) (own S k i') ∧ ys.length = ds.length ∧ ∀ y ∈ ys, P y
  | [], i, acc, _, _ => ⟨[], i, by simp, rfl, fun y h => by cases h⟩
  | d :: ds, i, acc, h, hl => by
    obtain ⟨e1, h1, h2⟩ := h d List.mem_cons_self
    obtain ⟨y, i1, h3, h4⟩ := h2 i
    rw [List.length_cons] at hl
    obtain ⟨ys, i', g1, g2, g3⟩ := lcL_draw P S k g te ev0 ds i1 (acc ++ [y]) (fun x hx => h x (List.mem_cons_of_mem _ hx)) (by rw [List.length_append, List.length_singleton]; omega)
    refine ⟨y :: ys, i', ?_, by simp [g2], fun z hz => ?_⟩
    · unfold lcL
      rw [h1]
      dsimp only
      rw [h3]
      dsimp only
      rw [if_pos ⟨by simp, by omega⟩, g1, List.append_assoc]
      rfl
    · rcases List.mem_cons.mp hz with e | hz
      · rw [e]; exact h4
      · exact g3 z hz
theorem set_ok {i : Nat} {f : FE} {ev : Ev} {S S1 : So} {w : W} (h : f ev S = .ok w S1) : fSet i f ev S = .nx (ev.set i (some w)) S1 := by
  unfold fSet
  rw [h]
  rfl
theorem f2_ok {op : W → W → So → Res W} {fa fb : FE} {ev : Ev} {S S1 S2 : So} {x y : W} (ha : fa ev S = .ok x S1) (hb : fb ev S1 = .ok y S2) : f2 op fa fb ev S = op x y S2 := by
  unfold f2
  rw [ha]
  show (fb ev S1).bind _ = _
  rw [hb]
  rfl
theorem rng_x {fa : FA} {ev : Ev} {S S1 : So} (x : Int) (h : fa ev S = .ok [.d (.int x)] S1) (h0 : 0 ≤ x) (h1 : x ≤ 1000) : fRng1 fa ev S = .ok (rgD 0 x.toNat) S1 := by
  unfold fRng1
  rw [h]
  simp only [Res.bind, asI]
  rw [if_pos ⟨by omega, by omega⟩]
theorem cons_ok {fa : FE} {fr : FA} {ev : Ev} {S S1 S2 : So} {x : W} {xs : List W} (ha : fa ev S = .ok x S1) (hr : fr ev S1 = .ok xs S2) : fCons fa fr ev S = .ok (x :: xs) S2 := by
  unfold fCons
  rw [ha]
  show (fr ev S1).bind _ = _
  rw [hr]
  rfl
theorem call_ok {k : Nat} {g : List W → So → Res W} {fa : FA} {ev : Ev} {S S1 : So} {ws : List W} {r : Res W} (ha : fa ev S = .ok ws S1) (hk : ws.length = k) (hg : g ws S1 = r) : fCall k g [] fa ev S = r := by
  unfold fCall
  rw [ha]
  show (if (ws ++ []).length = k then g (ws ++ []) S1 else .no) = r
  rw [List.append_nil, if_pos hk, hg]
theorem mut1_ok {fa : FA} {ev : Ev} {S S1 : So} {x : PyData} (ha : fa ev S = .ok [.d x] S1) : fMut fa ev S = .ok (.r S1.length) (S1 ++ [.l [x]]) := by
  unfold fMut
  rw [ha]
  have hz : [x].length ≤ sizeLine := by rw [sizeLine_eq]; simp
  show (if [x].length ≤ sizeLine then Res.ok (W.r S1.length) (S1 ++ [.l [x]]) else Res.no) = _
  rw [if_pos hz]
end FL

set_option linter.all false
set_option maxHeartbeats 4000000
namespace G61
open FL PySem L2
theorem take_ok (n k : Nat) (S : So) (i o : Int) (h : S[k]? = some (.l [.int i])) (o0 : 0 < o) (o1 : o < 1073741824) : lev Nn mm (n + 1) i__law_take [.r k, .d (.int o)] S = .ok (.d (.int (i % o))) (S.set k (.l [.int (i / o)])) := by
  have hk : k < S.length := (List.getElem?_eq_some_iff.mp h).1
  show fDef 3 (m__law_take (lev Nn mm n)) _ _ = _
  unfold m__law_take
  have h2 : S[k] = .l [.int i] := by
    have := List.getElem?_eq_getElem hk
    rw [h] at this
    exact (Option.some.inj this).symm
  simp [h2, o0, o1, hk]
theorem take_own (n k : Nat) (S : So) (i o : Int) (h : k < S.length) (o0 : 0 < o) (o1 : o < 1073741824) : lev Nn mm (n + 1) i__law_take [.r k, .d (.int o)] (own S k i) = .ok (.d (.int (i % o))) (own S k (i / o)) := by
  rw [take_ok n k (own S k i) i o (own_get h) o0 o1, own_set]
theorem mixed_ok (n : Nat) (c k : Int) (T : So) : ∃ i : Int, lev Nn mm (n + 1) i__law_mixed [.d (.int c), .d (.int k)] T = .ok (.d (.int i)) T := by
  have h1 : ∀ x : Int, 0 ≤ x % 2147483629 ∧ x % 2147483629 < 2147483629 := fun x => ⟨Int.emod_nonneg _ (by decide), Int.emod_lt_of_pos _ (by decide)⟩
  have h2 : ∀ x : Int, 0 ≤ x % 2147483587 ∧ x % 2147483587 < 2147483587 := fun x => ⟨Int.emod_nonneg _ (by decide), Int.emod_lt_of_pos _ (by decide)⟩
  refine ⟨((((c % 2147483647 * 48271 + k * 69621 + 1048583) % 2147483629) * ((c % 2147483647 * 48271 + k * 69621 + 1048583) % 2147483629) % 2147483587) * ((((c % 2147483647 * 48271 + k * 69621 + 1048583) % 2147483629) * ((c % 2147483647 * 48271 + k * 69621 + 1048583) % 2147483629) % 2147483587) + 2)) % 2147483579, ?_⟩
  show fDef 3 (m__law_mixed (lev Nn mm n)) [.d (.int c), .d (.int k)] T = _
  unfold m__law_mixed
  have m1 : ∀ (a b : Int) (T : So), -(2 ^ 64) < b → b < 2 ^ 64 → oMul (.d (.int a)) (.d (.int b)) T = .ok (.d (.int (a * b))) T := fun a b T l u => by
    unfold oMul oOr oI
    have : cSm a b = true := by
      unfold cSm
      rw [decide_eq_true_eq]
      exact .inr ⟨l, u⟩
    simp [asI, this]
  have z1 := h1 (c % 2147483647 * 48271 + k * 69621 + 1048583)
  have e1 := m1 (c % 2147483647) 48271 T (by decide) (by decide)
  have e2 := m1 k 69621 T (by decide) (by decide)
  generalize hx : (c % 2147483647 * 48271 + k * 69621 + 1048583) % 2147483629 = x at z1 ⊢
  have e3 := m1 x x T (by omega) (by omega)
  have z2 := h2 (x * x)
  generalize hy : x * x % 2147483587 = y at z2 ⊢
  have e4 := m1 y (y + 2) T (by omega) (by omega)
  simp [e1, e2, hx, e3, hy, e4]
theorem mul_s (a b : Int) (T : So) (l : -(2 ^ 64) < b) (u : b < 2 ^ 64) : oMul (.d (.int a)) (.d (.int b)) T = .ok (.d (.int (a * b))) T := by
  unfold oMul oOr oI
  have : cSm a b = true := by
    unfold cSm
    rw [decide_eq_true_eq]
    exact .inr ⟨l, u⟩
  simp [asI, this]
theorem mul_s' (a b : Int) (T : So) (l : -(2 ^ 64) < a) (u : a < 2 ^ 64) : oMul (.d (.int a)) (.d (.int b)) T = .ok (.d (.int (a * b))) T := by
  unfold oMul oOr oI
  have : cSm a b = true := by
    unfold cSm
    rw [decide_eq_true_eq]
    exact .inl ⟨l, u⟩
  simp [asI, this]
theorem pow_ok (j : Int) (T : So) (h0 : 0 ≤ j) (h1 : j ≤ 1000) : oPow (.d (.int 10)) (.d (.int j)) T = .ok (.d (.int (10 ^ j.toNat))) T := by
  unfold oPow oI
  have : cPw 10 j = true := by
    unfold cPw
    rw [decide_eq_true_eq]
    exact ⟨h0, by omega, by decide⟩
  simp [asI, this]
def cellG (om : W → W → So → Res W) (c : Cs) : FS := (fSet 3 (f2 oAdd (f2 om (fV 3) (fC (.int 2147483579))) (fCall 2 (c i__law_mixed) [] (fCons (fV 2) (fCons (f2 oAdd (f2 oAdd (f2 om (fC (.int 7)) (fV 1)) (f2 om (fC (.int 100)) (fV 4))) (f2 om (fV 4) (fV 4))) fNil)))))
abbrev cellBody (c : Cs) : FS := cellG oMul c
theorem cellG_step (om : W → W → So → Res W) (c : Cs) (ns : List Int) (k j x y z a b d e : Int) (S : So) (a1 : om (.d (.int y)) (.d (.int 2147483579)) S = .ok (.d (.int a)) S) (a2 : om (.d (.int 7)) (.d (.int k)) S = .ok (.d (.int b)) S)
    (a3 : om (.d (.int 100)) (.d (.int j)) S = .ok (.d (.int d)) S) (a4 : om (.d (.int j)) (.d (.int j)) S = .ok (.d (.int e)) S) (hz : c i__law_mixed [.d (.int x), .d (.int (b + d + e))] S = .ok (.d (.int z)) S) :
    cellG om c [some (.s ns), some (.d (.int k)), some (.d (.int x)), some (.d (.int y)), some (.d (.int j))] S = .nx [some (.s ns), some (.d (.int k)), some (.d (.int x)), some (.d (.int (a + z))), some (.d (.int j))] S := by
  unfold cellG
  simp [a1, a2, a3, a4, hz]
theorem nums : ∃ A1 B1 B2 B3 B : Int, (∀ T, oPow (.d (.int 10)) (.d (.int 18)) T = .ok (.d (.int A1)) T) ∧ (∀ T, oPow (.d (.int 10)) (.d (.int 60)) T = .ok (.d (.int B1)) T) ∧
    (∀ T, oMul (.d (.int B1)) (.d (.int B1)) T = .ok (.d (.int B2)) T) ∧ (∀ T, oMul (.d (.int B2)) (.d (.int B1)) T = .ok (.d (.int B3)) T) ∧ (∀ T, oMul (.d (.int B3)) (.d (.int B1)) T = .ok (.d (.int B)) T) ∧ 0 < B :=
  ⟨_, _, _, _, _, fun T => pow_ok 18 T (by decide) (by decide), fun T => pow_ok 60 T (by decide) (by decide), fun T => mul_w _ _ T (by decide +kernel), fun T => mul_w _ _ T (by decide +kernel), fun T => mul_w _ _ T (by decide +kernel), by decide +kernel⟩
theorem cell_step (n : Nat) (ns : List Int) (k j : Nat) (x y : Int) (v : W) (S : So) (hk : k ≤ 1000) (hj : j < 24) : ∃ z : Int, cellBody (lev Nn mm (n + 1)) [some (.s ns), some (.d (.int k)), some (.d (.int x)), some (.d (.int y)), some (.d (.int j))] S =
    .nx [some (.s ns), some (.d (.int k)), some (.d (.int x)), some (.d (.int z)), some (.d (.int j))] S := by
  obtain ⟨z, hz⟩ := mixed_ok n x (7 * k + 100 * j + j * j) S
  have a1 := mul_s y 2147483579 S (by decide) (by decide)
  have a2 := mul_s' 7 k S (by decide) (by decide)
  have a3 := mul_s' 100 j S (by decide) (by decide)
  have a4 := mul_s j j S (by omega) (by omega)
  exact ⟨_, cellG_step oMul _ ns k j x y z _ _ _ _ S a1 a2 a3 a4 hz⟩
theorem cell_ok (n : Nat) (ns : List Int) (k : Nat) (T : So) (hk : k ≤ 1000) (hl : ns.length ≤ 1000) : ∃ i : Int, lev Nn mm (n + 2) i__law_cell [.s ns, .d (.int k)] T = .ok (.d (.int i)) T := by
  obtain ⟨A1, B1, B2, B3, B, p18, p60, q2, q3, q4, hBp⟩ := nums
  -- the cell
  have hcell : ∃ x : Int, ∀ v3 v4, (fIfS (fB (f2 cLt (fV 1) (fB1 oLen (fCons (fV 0) fNil)))) (fSet 2 (f2 oIx (fV 0) (fV 1))) fNext) [some (.s ns), some (.d (.int k)), some (.d (.int 0)), v3, v4] T = .nx [some (.s ns), some (.d (.int k)), some (.d (.int x)), v3, v4] T := by
    by_cases c : k < ns.length
    · refine ⟨ns[k], fun v3 v4 => ?_⟩
      have h1 : atI ns (k : Int) = some ns[k] := by
        unfold atI ixN
        rw [if_pos (by omega), if_pos (by omega)]
        simp [c]
      have h2 : oIx (.s ns) (.d (.int k)) T = .ok (.d (.int ns[k])) T := by
        simp [oIx, oOr, oIxT, oIxL, oIxK, oIxS, oIxN, asT, asL, asD, asS, asN, asI, h1, -s_atI]
      simp [oLen, lenW, cLt, asB, h2, -oIx]
      rw [decide_eq_true (by omega)]
    · refine ⟨0, fun v3 v4 => ?_⟩
      simp [oLen, lenW, cLt, asB, -oIx]
      rw [decide_eq_false (by omega)]
  obtain ⟨x, hx⟩ := hcell
  by_cases c : A1 ≤ x
  · refine ⟨(x - A1) % B, ?_⟩
    show fDef 5 (m__law_cell (lev Nn mm (n + 1))) [.s ns, .d (.int k)] T = _
    refine (fdef_d (x := .int ((x - A1) % B)) (S1 := T) ?_).trans (by simp)
    show m__law_cell (lev Nn mm (n + 1)) [some (.s ns), some (.d (.int k)), none, none, none] T = _
    unfold m__law_cell
    rw [seq_nx (e1 := [some (.s ns), some (.d (.int k)), some (.d (.int 0)), none, none]) (S1 := T) (by simp)]
    rw [seq_nx (hx none none)]
    rw [seq_rt (w := .d (.int ((x - A1) % B))) (S1 := T) (by
      simp [p18, p60, q2, q3, q4, cGe, asB, oSub]
      rw [decide_eq_true c]
      simp [p18, p60, q2, q3, q4, hBp])]
  · -- the mixed digits
    obtain ⟨ev', S', h1, h2, v, y, h3⟩ := forL_inv (fun ev S => S = T ∧ ∃ (v : Option W) (y : Int), ev = [some (.s ns), some (.d (.int k)), some (.d (.int x)), some (.d (.int y)), v]) (gNm 4) (cellBody (lev Nn mm (n + 1))) (rgD 0 24) [some (.s ns), some (.d (.int k)), some (.d (.int x)), some (.d (.int 0)), none] T ⟨rfl, none, 0, rfl⟩ (by
      rintro d hd ev S ⟨rfl, v, y, rfl⟩
      obtain ⟨j, hj, rfl⟩ := List.mem_map.mp hd
      have hj := List.mem_range.mp hj
      obtain ⟨z, hz⟩ := cell_step n ns k j x y (.d .none) S hk hj
      rw [Int.zero_add]
      exact ⟨_, _, S, rfl, hz, rfl, some (.d (.int j)), z, rfl⟩)
    subst h2 h3
    refine ⟨y, ?_⟩
    show fDef 5 (m__law_cell (lev Nn mm (n + 1))) [.s ns, .d (.int k)] S' = _
    refine (fdef_d (x := .int y) (S1 := S') ?_).trans (by simp)
    show m__law_cell (lev Nn mm (n + 1)) [some (.s ns), some (.d (.int k)), none, none, none] S' = _
    unfold m__law_cell
    rw [seq_nx (e1 := [some (.s ns), some (.d (.int k)), some (.d (.int 0)), none, none]) (S1 := S') (by simp)]
    rw [seq_nx (hx none none)]
    rw [seq_nx (e1 := [some (.s ns), some (.d (.int k)), some (.d (.int x)), none, none]) (S1 := S') (by
      simp [p18, cGe, asB]
      rw [decide_eq_false c])]
    rw [seq_nx (e1 := [some (.s ns), some (.d (.int k)), some (.d (.int x)), some (.d (.int 0)), none]) (S1 := S') (by simp)]
    have hf : fFor (fRng1 (fCons (fC (.int 24)) fNil)) (gNm 4) (cellBody (lev Nn mm (n + 1))) [some (.s ns), some (.d (.int k)), some (.d (.int x)), some (.d (.int 0)), none] S' = .nx [some (.s ns), some (.d (.int k)), some (.d (.int x)), some (.d (.int y)), v] S' := by
      unfold fFor
      have hr : fRng1 (fCons (fC (.int 24)) fNil) [some (.s ns), some (.d (.int k)), some (.d (.int x)), some (.d (.int 0)), none] S' = .ok (rgD 0 24) S' := by simp [fRng1]
      rw [hr]
      exact h1
    refine (seq_nx hf).trans ?_
    simp
end G61

set_option linter.all false
set_option maxHeartbeats 1000000
/-! codes as plain lists of rows: what tidied, _numbered, met give -/
namespace PC
open PySem FL
inductive Tg where
  | row (i : Nat)
  | yes
  | no
deriving DecidableEq, Repr
abbrev Rw (N : Type) := N × Tg × Tg
def tgD : Tg → PyData
  | .row i => .int (i : Nat)
  | .yes => .str "yes"
  | .no => .str "no"
section
variable {N : Type} [DecidableEq N]
def rwD (f : N → PyData) (r : Rw N) : PyData := .tuple [f r.1, tgD r.2.1, tgD r.2.2]
/-- the targets met: found so far, waiting (the last one comes first) -/
def metP (rows : List (Rw N)) : Nat → List Tg → List Tg → Option (List Tg)
  | 0, _, _ => none
  | m + 1, found, wait => match wait.getLast? with
    | none => some found
    | some t => if t ∈ found then metP rows m found wait.dropLast else match t with
      | .row i => match rows[i]? with
        | some r => metP rows m (found ++ [t]) (wait.dropLast ++ [r.2.2, r.2.1])
        | none => none
      | t => metP rows m (found ++ [t]) wait.dropLast
def rowIx : Tg → Option Nat
  | .row i => some i
  | _ => none
def renT (order : List Nat) : Tg → Tg
  | .row i => match order.idxOf? i with
    | some k => .row k
    | none => .row i
  | t => t
def numP (rows : List (Rw N)) (start : Tg) : Option (List (Rw N)) := (metP rows 100000 [] [start]).bind fun ts =>
  ((ts.filterMap rowIx).mapM fun i => rows[i]?).map fun rs => rs.map fun r => (r.1, renT (ts.filterMap rowIx) r.2.1, renT (ts.filterMap rowIx) r.2.2)
/-- where a target lies among the merged rows -/
def placeT (pl : List (Nat × Nat)) : Tg → Option Tg
  | .row i => (pl.lookup i).map .row
  | t => some t
def putR (rows : List (Rw N)) (s : List (Nat × Nat) × List (Rw N)) (at_ : Nat) : Option (List (Nat × Nat) × List (Rw N)) := match rows[at_]? with
  | some r => match placeT s.1 r.2.1, placeT s.1 r.2.2 with
    | some a, some b => match s.2.idxOf? (r.1, a, b) with
      | some k => some (s.1 ++ [(at_, k)], s.2)
      | none => some (s.1 ++ [(at_, s.2.length)], s.2 ++ [(r.1, a, b)])
    | _, _ => none
  | none => none
def readyP (rows : List (Rw N)) (pl : List (Nat × Nat)) (at_ : Nat) : Bool := match rows[at_]? with
  | some r => (placeT pl r.2.1).isSome && (placeT pl r.2.2).isSome
  | none => false
/-- the turns of tidied: left, and what is placed and merged; none inside: a row leads back to itself -/
def tidL (rows : List (Rw N)) : Nat → List Nat → List (Nat × Nat) × List (Rw N) → Option (Option (List (Nat × Nat) × List (Rw N)))
  | 0, _, _ => none
  | m + 1, left, s => if left.isEmpty then some (some s) else
    if (left.filter (readyP rows s.1)).isEmpty then some none else
      match (left.filter (readyP rows s.1)).foldlM (putR rows) s with
      | some s2 => tidL rows m (left.filter fun i => (s2.1.lookup i).isNone) s2
      | none => none
def tidP (rows : List (Rw N)) (start : Tg) : Option (Option (List (Rw N))) := match tidL rows 100000 (List.range rows.length) ([], []) with
  | some (some s) => match placeT s.1 start with
    | some t => (numP s.2 t).map some
    | none => none
  | some none => some none
  | none => none
end
end PC

set_option linter.all false
set_option maxHeartbeats 4000000
set_option maxRecDepth 100000
namespace G61
open FL PySem L2 PC
def tgK : Tg → Key
  | .row i => .inl (i : Nat)
  | .yes => .inr "yes"
  | .no => .inr "no"
theorem tgK_inj {a b : Tg} (h : tgK a = tgK b) : a = b := by
  cases a <;> cases b <;> simp [tgK] at h ⊢
  · omega
theorem asKey_tg (t : Tg) : asKey (.d (tgD t)) = some (tgK t) := by cases t <;> rfl
theorem val_tg (t : Tg) : ∀ (found : List Tg), valP (found.map fun t => (tgK t, PyData.bool true)) (tgK t) = if t ∈ found then some (.bool true) else none
  | [] => by simp [valP]
  | c :: r => by
    have ih := val_tg t r
    unfold valP at ih ⊢
    rw [List.map_cons, List.find?_cons]
    by_cases e : c = t
    · subst e
      simp
    · have e2 : ¬ tgK c = tgK t := fun z => e (tgK_inj z)
      rw [decide_eq_false e2]
      dsimp only
      rw [ih]
      have e3 : ¬ t = c := fun z => e z.symm
      simp [e3]
abbrev metB : FS := (fSeq (fSet 5 (f1 oPop (fV 4))) 
      (fIfS (fAndT (fB (f2 cNi (fV 5) (fV 3))) (fB (f2 cNe (fV 5) (fV 2)))) 
        (fSeq (fSetKey (fC (.bool true)) (fV 3) (fV 5)) 
        (fIfS (fTr (fIsi "int" (fV 5))) 
          (fDrop (fM oExtend (fV 4) (fCons (fLst (fCons (f2 oIx (f2 oIx (fV 0) (fV 5)) (fC (.int 2))) (fCons (f2 oIx (f2 oIx (fV 0) (fV 5)) (fC (.int 1))) fNil))) fNil))) 
          fNext)) 
        fNext))
def mSt (S : So) (found wait : List Tg) : So := S ++ [.k (found.map fun t => (tgK t, PyData.bool true)), .l (wait.map tgD)]
def mEv (rw : W) (st : PyData) (S : So) (x : Option W) : Ev := [some rw, some (.d st), some (.d .none), some (.r S.length), some (.r (S.length + 1)), x]
theorem pop_ok (S : So) (found w : List Tg) (t : Tg) : oPop (.r (S.length + 1)) (mSt S found (w ++ [t])) = .ok (.d (tgD t)) (mSt S found w) := by
  unfold oPop mSt
  simp
theorem ni_ok (S : So) (found w : List Tg) (t : Tg) : cNi (.d (tgD t)) (.r S.length) (mSt S found w) = .ok (.d (.bool (!decide (t ∈ found)))) (mSt S found w) := by
  have h1 : toP (.r S.length) (mSt S found w) = none := by simp [toP, mSt]
  have h2 : asD (.r S.length) (mSt S found w) = some (found.map fun t => (tgK t, PyData.bool true)) := by simp [asD, mSt]
  have h3 : look (found.map fun t => (tgK t, PyData.bool true)) (.d (tgD t)) = some (if t ∈ found then some (.bool true) else none) := by
    unfold look
    rw [asKey_tg, Option.map_some, val_tg]
  unfold cNi oOr oIn seqP
  rw [h1]
  simp only [oInK, h2, h3, oOr]
  by_cases e : t ∈ found
  · simp [e]
  · simp [e]
theorem ne_ok (S : So) (t : Tg) : cNe (.d (tgD t)) (.d .none) S = .ok (.d (.bool true)) S := by
  cases t <;> simp [cNe, oEq, tgD, toP, PyData.plain, PyData.depth, PyData.eqv]
end G61

set_option linter.all false
set_option maxHeartbeats 4000000
set_option maxRecDepth 100000
namespace G61
open FL PySem L2 PC
theorem kit_ii : kitB "int" "int" = some true := by decide +kernel
theorem kit_si : kitB "str" "int" = some false := by decide +kernel
def isRow : Tg → Bool
  | .row _ => true
  | _ => false
theorem isi_ok (t : Tg) (ev : Ev) (S : So) (h : ev[5]? = some (some (.d (tgD t)))) : fTr (fIsi "int" (fV 5)) ev S = .ok (isRow t) S := by
  cases t <;> simp [fTr, fIsi, fV, h, tgD, tyW, kit_ii, kit_si, tru, isRow]
theorem putP_new (found : List Tg) (t : Tg) (h : t ∉ found) : putP (found.map fun t => (tgK t, PyData.bool true)) (tgK t) (.bool true) = (found ++ [t]).map fun t => (tgK t, PyData.bool true) := by
  unfold putP
  have e : ((found.map fun t => (tgK t, PyData.bool true)).any fun p => decide (p.1 = tgK t)) = false := by
    rw [List.any_eq_false]
    intro x hx
    obtain ⟨c, hc, rfl⟩ := List.mem_map.mp hx
    simp only [decide_eq_true_eq]
    intro z
    exact h (by rw [← tgK_inj z]; exact hc)
  rw [e, if_neg Bool.false_ne_true, List.map_append]
  rfl
/-- what stands for rows -/
def RowsAt {N : Type} (f : N → PyData) (rows : List (Rw N)) (rw : W) : Prop := ∀ i r S, rows[i]? = some r → oIx rw (.d (.int (i : Nat))) S = .ok (.d (rwD f r)) S
theorem ix_1 (a b c : PyData) (S : So) : oIx (.d (.tuple [a, b, c])) (.d (.int 1)) S = .ok (.d b) S := by simp
theorem ix_2 (a b c : PyData) (S : So) : oIx (.d (.tuple [a, b, c])) (.d (.int 2)) S = .ok (.d c) S := by simp
theorem ext_ok (S : So) (found w : List Tg) (a b : Tg) (h : w.length + 2 ≤ sizeLine) : oExtend (.r (S.length + 1)) [.d (.list [tgD a, tgD b])] (mSt S found w) = .ok (.d .none) (mSt S found (w ++ [a, b])) := by
  unfold oExtend mSt
  simp [asL, h]
/-- a turn: the target is new -/
theorem turn_new {N : Type} {f : N → PyData} {rows : List (Rw N)} {rw : W} (hr : RowsAt f rows rw) (S : So) (st : PyData) (x : Option W) (found w : List Tg) (t : Tg) (nt : t ∉ found) (fl : found.length < sizeLine) (wl : w.length + 2 ≤ sizeLine) (w2 : List Tg)
    (hw : match t with | .row i => ∃ r, rows[i]? = some r ∧ w2 = w ++ [r.2.2, r.2.1] | _ => w2 = w) :
    metB (mEv rw st S x) (mSt S found (w ++ [t])) = .nx (mEv rw st S (some (.d (tgD t)))) (mSt S (found ++ [t]) w2) := by
  have e1 : f1 oPop (fV 4) (mEv rw st S x) (mSt S found (w ++ [t])) = .ok (.d (tgD t)) (mSt S found w) := by
    show oPop (.r (S.length + 1)) _ = _
    exact pop_ok S found w t
  have e2 : fAndT (fB (f2 cNi (fV 5) (fV 3))) (fB (f2 cNe (fV 5) (fV 2))) (mEv rw st S (some (.d (tgD t)))) (mSt S found w) = .ok true (mSt S found w) := by
    have h1 := ni_ok S found w t
    rw [decide_eq_false nt] at h1
    have h2 := ne_ok (mSt S found w) t
    simp [fAndT, fB, f2, fV, mEv, h1, h2, asB]
  have e4 : fSetKey (fC (.bool true)) (fV 3) (fV 5) (mEv rw st S (some (.d (tgD t)))) (mSt S found w) = .nx (mEv rw st S (some (.d (tgD t)))) (mSt S (found ++ [t]) w) := by
    unfold fSetKey mSt
    simp [mEv, fV, Res.toOut, asKey_tg, putP_new found t nt, fl]
  have e5 : fTr (fIsi "int" (fV 5)) (mEv rw st S (some (.d (tgD t)))) (mSt S (found ++ [t]) w) = .ok (isRow t) (mSt S (found ++ [t]) w) := isi_ok t _ _ rfl
  have e6 : fSet 5 (f1 oPop (fV 4)) (mEv rw st S x) (mSt S found (w ++ [t])) = .nx (mEv rw st S (some (.d (tgD t)))) (mSt S found w) := by
    unfold fSet
    rw [e1]
    rfl
  have last : fIfS (fTr (fIsi "int" (fV 5))) (fDrop (fM oExtend (fV 4) (fCons (fLst (fCons (f2 oIx (f2 oIx (fV 0) (fV 5)) (fC (.int 2))) (fCons (f2 oIx (f2 oIx (fV 0) (fV 5)) (fC (.int 1))) fNil))) fNil))) fNext (mEv rw st S (some (.d (tgD t)))) (mSt S (found ++ [t]) w) = .nx (mEv rw st S (some (.d (tgD t)))) (mSt S (found ++ [t]) w2) := by
    unfold fIfS
    rw [e5]
    cases t with
    | yes => cases hw; rfl
    | no => cases hw; rfl
    | row i =>
      obtain ⟨r, hr1, rfl⟩ := hw
      have g0 : ∀ T, oIx rw (.d (tgD (.row i))) T = .ok (.d (rwD f r)) T := fun T => hr i r T hr1
      have g1 := ext_ok S (found ++ [.row i]) w r.2.2 r.2.1 wl
      have g2 : ∀ T, oIx (.d (rwD f r)) (.d (.int 2)) T = .ok (.d (tgD r.2.2)) T := fun T => ix_2 _ _ _ T
      have g3 : ∀ T, oIx (.d (rwD f r)) (.d (.int 1)) T = .ok (.d (tgD r.2.1)) T := fun T => ix_1 _ _ _ T
      have g4 : asL (.r (S.length + 1)) (mSt S (found ++ [.row i]) w) = some (w.map tgD) := by simp [asL, mSt]
      have v0 : ∀ T, fV 0 (mEv rw st S (some (.d (tgD (.row i))))) T = .ok rw T := fun _ => rfl
      have v5 : ∀ T, fV 5 (mEv rw st S (some (.d (tgD (.row i))))) T = .ok (.d (tgD (.row i))) T := fun _ => rfl
      have v4 : ∀ T, fV 4 (mEv rw st S (some (.d (tgD (.row i))))) T = .ok (.r (S.length + 1)) T := fun _ => rfl
      have g5 : ∀ T, fLst (fCons (f2 oIx (f2 oIx (fV 0) (fV 5)) (fC (.int 2))) (fCons (f2 oIx (f2 oIx (fV 0) (fV 5)) (fC (.int 1))) fNil)) (mEv rw st S (some (.d (tgD (.row i))))) T = .ok (.d (.list [tgD r.2.2, tgD r.2.1])) T := fun T => by
        simp only [fLst, fCons, fNil, f2, fC, Res.bind, v0, v5, g0, g2, g3, allD, Option.map_some]
        exact if_pos (by show 2 ≤ sizeLine; decide)
      have g6 : fM oExtend (fV 4) (fCons (fLst (fCons (f2 oIx (f2 oIx (fV 0) (fV 5)) (fC (.int 2))) (fCons (f2 oIx (f2 oIx (fV 0) (fV 5)) (fC (.int 1))) fNil))) fNil) (mEv rw st S (some (.d (tgD (.row i))))) (mSt S (found ++ [.row i]) w) = .ok (.d .none) (mSt S (found ++ [.row i]) (w ++ [r.2.2, r.2.1])) := by
        unfold fM
        rw [v4]
        simp only [Res.bind, g4, fCons, g5, fNil, g1]
      show fDrop _ _ _ = _
      unfold fDrop
      rw [g6]
      rfl
  show Out.then _ _ = _
  rw [e6]
  show fIfS _ _ _ _ _ = _
  unfold fIfS
  rw [e2]
  show Out.then _ _ = _
  rw [e4]
  exact last
end G61

set_option linter.all false
set_option maxHeartbeats 4000000
set_option maxRecDepth 100000
namespace G61
open FL PySem L2 PC
/-- a turn: the target is not new -/
theorem turn_old {rw : W} (S : So) (st : PyData) (x : Option W) (found w : List Tg) (t : Tg) (ht : t ∈ found) : metB (mEv rw st S x) (mSt S found (w ++ [t])) = .nx (mEv rw st S (some (.d (tgD t)))) (mSt S found w) := by
  have e1 : f1 oPop (fV 4) (mEv rw st S x) (mSt S found (w ++ [t])) = .ok (.d (tgD t)) (mSt S found w) := by
    show oPop (.r (S.length + 1)) _ = _
    exact pop_ok S found w t
  have e2 : fAndT (fB (f2 cNi (fV 5) (fV 3))) (fB (f2 cNe (fV 5) (fV 2))) (mEv rw st S (some (.d (tgD t)))) (mSt S found w) = .ok false (mSt S found w) := by
    have h1 := ni_ok S found w t
    rw [decide_eq_true ht] at h1
    simp [fAndT, fB, f2, fV, mEv, h1, asB]
  have e6 : fSet 5 (f1 oPop (fV 4)) (mEv rw st S x) (mSt S found (w ++ [t])) = .nx (mEv rw st S (some (.d (tgD t)))) (mSt S found w) := by
    unfold fSet
    rw [e1]
    rfl
  show Out.then _ _ = _
  rw [e6]
  show fIfS _ _ _ _ _ = _
  unfold fIfS
  rw [e2]
  rfl
theorem cond_ok {rw : W} (S : So) (st : PyData) (x : Option W) (found w : List Tg) : fTr (fV 4) (mEv rw st S x) (mSt S found w) = .ok (!w.isEmpty) (mSt S found w) := by
  simp [fTr, fV, mEv, mSt, tru]
/-- the loop of met; all that waits and all that is found stays within bounds -/
theorem met_loop {N : Type} [DecidableEq N] {f : N → PyData} {rows : List (Rw N)} {rw : W} (hr : RowsAt f rows rw) (S : So) (st : PyData) : ∀ (m : Nat) (found wait : List Tg) (x : Option W) (ts : List Tg), m ≤ 100000 → found.length + m ≤ 100000 → wait.length + 2 * m ≤ 1000000 →
    metP rows m found wait = some ts → ∃ x', whl (fTr (fV 4)) metB m (mEv rw st S x) (mSt S found wait) = .nx (mEv rw st S x') (mSt S ts [])
  | 0, _, _, _, _, _, _, _, h => by cases h
  | m + 1, found, wait, x, ts, hm, hf, hw, h => by
    unfold metP at h
    unfold whl
    rw [cond_ok]
    cases e : wait.getLast? with
    | none =>
      rw [e] at h
      cases h
      have e0 : wait = [] := List.getLast?_eq_none_iff.mp e
      subst e0
      exact ⟨x, rfl⟩
    | some t =>
      obtain ⟨w, rfl⟩ := List.getLast?_eq_some_iff.mp e
      rw [e] at h
      dsimp only at h
      have e1 : (w ++ [t]).dropLast = w := by simp
      rw [e1] at h
      have e2 : (!(w ++ [t]).isEmpty) = true := by simp
      rw [List.length_append, List.length_singleton] at hw
      have sz : sizeLine = 16777216 := sizeLine_eq
      rw [e2]
      show ∃ x', (match metB (mEv rw st S x) (mSt S found (w ++ [t])) with | .nx e2 S2 => whl (fTr (fV 4)) metB m e2 S2 | .ct e2 S2 => whl (fTr (fV 4)) metB m e2 S2 | .bk e2 S2 => .nx e2 S2 | r => r) = _
      by_cases ht : t ∈ found
      · rw [if_pos ht] at h
        rw [turn_old S st x found w t ht]
        exact met_loop hr S st m found w _ ts (by omega) (by omega) (by omega) h
      · rw [if_neg ht] at h
        cases t with
        | yes =>
          rw [turn_new hr S st x found w .yes ht (by omega) (by omega) w rfl]
          exact met_loop hr S st m _ w _ ts (by omega) (by rw [List.length_append, List.length_singleton]; omega) (by omega) h
        | no =>
          rw [turn_new hr S st x found w .no ht (by omega) (by omega) w rfl]
          exact met_loop hr S st m _ w _ ts (by omega) (by rw [List.length_append, List.length_singleton]; omega) (by omega) h
        | row i =>
          dsimp only at h
          cases er : rows[i]? with
          | none => rw [er] at h; cases h
          | some r =>
            rw [er] at h
            dsimp only at h
            rw [turn_new hr S st x found w (.row i) ht (by omega) (by omega) (w ++ [r.2.2, r.2.1]) ⟨r, er, rfl⟩]
            exact met_loop hr S st m _ _ _ ts (by omega) (by rw [List.length_append, List.length_singleton]; omega) (by rw [List.length_append]; show w.length + 2 + _ ≤ _; omega) h
end G61

set_option linter.all false
set_option maxHeartbeats 4000000
set_option maxRecDepth 100000
namespace G61
open FL PySem L2 PC
theorem mSt_take (S : So) (a b : List Tg) : (mSt S a b).take S.length = S := by simp [mSt]
theorem key_tg (t : Tg) : keyP (tgK t) = tgD t := by cases t <;> rfl
theorem met_ok {N : Type} [DecidableEq N] {f : N → PyData} {rows : List (Rw N)} {rw : W} (hr : RowsAt f rows rw) (n : Nat) (S : So) (start : Tg) (ts : List Tg) (h : metP rows 100000 [] [start] = some ts) :
    lev Nn mm (n + 1) i_met [rw, .d (tgD start), .d .none] S = .ok (.d (.list (ts.map tgD))) S := by
  show fDef 6 (m_met (lev Nn mm n)) [rw, .d (tgD start), .d .none] S = _
  have hb : m_met (lev Nn mm n) [some rw, some (.d (tgD start)), some (.d .none), none, none, none] S = .rt (.d (.list (ts.map tgD))) (mSt S ts []) := by
    unfold m_met
    have e1 : fSet 3 fNewK [some rw, some (.d (tgD start)), some (.d .none), none, none, none] S = .nx [some rw, some (.d (tgD start)), some (.d .none), some (.r S.length), none, none] (S ++ [.k []]) := rfl
    have e2 : fSet 4 (fMut (fCons (fV 1) fNil)) [some rw, some (.d (tgD start)), some (.d .none), some (.r S.length), none, none] (S ++ [.k []]) = .nx (mEv rw (tgD start) S none) (mSt S [] [start]) := by
      simp [fMut, fV, mEv, mSt, allD, Res.toOut, sizeLine_eq]
    obtain ⟨x, e3⟩ := met_loop hr S (tgD start) 100000 [] [start] none ts (by omega) (by simp) (by simp) h
    have e4 : fRet (fB1 (o1 lstD) (fCons (fV 3) fNil)) (mEv rw (tgD start) S x) (mSt S ts []) = .rt (.d (.list (ts.map tgD))) (mSt S ts []) := by
      have h1 : asD (.r S.length) (mSt S ts []) = some (ts.map fun t => (tgK t, PyData.bool true)) := by simp [asD, mSt]
      have h2 : lstD (.r S.length) (mSt S ts []) = .ok (.d (.list (ts.map tgD))) (mSt S ts []) := by
        unfold lstD
        rw [h1]
        simp [Function.comp_def, key_tg]
      simp [fV, mEv, o1, h2, Res.toOut]
    have e5 : fWhile (fTr (fV 4)) metB (mEv rw (tgD start) S none) (mSt S [] [start]) = .nx (mEv rw (tgD start) S x) (mSt S ts []) := e3
    rw [seq_nx e1, seq_nx e2, seq_nx e5]
    exact e4
  unfold fDef
  show (match m_met (lev Nn mm n) [some rw, some (.d (tgD start)), some (.d .none), none, none, none] S with
    | .rt w S' => fin S.length w S'
    | .nx _ S' => fin S.length (.d .none) S'
    | .ex c f _ S' => .ex c f (S'.take S.length)
    | _ => .no) = _
  rw [hb]
  show fin S.length _ _ = _
  simp [fin, frz, mSt_take]
end G61

set_option linter.all false
set_option maxHeartbeats 4000000
set_option maxRecDepth 100000
namespace FL
open PySem L2
theorem lcL_flt {α : Type} {g : FG} {t : FT} {te : FE} {ev0 : Ev} {S : So} {dt : α → PyData} {f : α → PyData} {p : α → Bool} : ∀ (xs : List α) (acc : List PyData), (∀ x, x ∈ xs → ∃ e1, g (.d (dt x)) ev0 = some e1 ∧ t e1 S = .ok (p x) S ∧ (p x = true → te e1 S = .ok (.d (f x)) S)) → acc.length + xs.length ≤ sizeLine →
    lcL g t te ev0 (xs.map dt) S acc = .ok (acc ++ (xs.filter p).map f) S
  | [], acc, _, _ => by simp
  | x :: xs, acc, h, hl => by
    obtain ⟨e1, h1, h2, h3⟩ := h x List.mem_cons_self
    rw [List.length_cons] at hl
    rw [List.map_cons]
    unfold lcL
    rw [h1]
    dsimp only
    rw [h2]
    cases e : p x with
    | false =>
      dsimp only
      rw [if_pos rfl, lcL_flt xs acc (fun y hy => h y (List.mem_cons_of_mem _ hy)) (by omega), List.filter_cons, e, if_neg Bool.false_ne_true]
    | true =>
      dsimp only
      rw [h3 e]
      dsimp only
      rw [if_pos ⟨rfl, by omega⟩, lcL_flt xs (acc ++ [f x]) (fun y hy => h y (List.mem_cons_of_mem _ hy)) (by rw [List.length_append, List.length_singleton]; omega), List.filter_cons, e, if_pos rfl, List.map_cons, List.append_assoc]
      rfl
theorem putP_app (acc : Dic) (k : Key) (d : PyData) (h : k ∉ acc.map (·.1)) : putP acc k d = acc ++ [(k, d)] := by
  unfold putP
  have e : (acc.any fun p => decide (p.1 = k)) = false := by
    rw [List.any_eq_false]
    intro x hx
    simp only [decide_eq_true_eq]
    intro z
    exact h (List.mem_map.mpr ⟨x, hx, z⟩)
  rw [e, if_neg Bool.false_ne_true]
/-- a dict comprehension whose keys differ -/
theorem dcL_map {α : Type} {g : FG} {tk tv : FE} {ev0 : Ev} {S : So} {dt : α → PyData} {k : α → Key} {v : α → PyData} : ∀ (xs : List α) (acc : Dic), (∀ x, x ∈ xs → ∃ e1, g (.d (dt x)) ev0 = some e1 ∧ (∃ w, tk e1 S = .ok w S ∧ asKey w = some (k x)) ∧ tv e1 S = .ok (.d (v x)) S) → (acc.map (·.1) ++ xs.map k).Nodup → acc.length + xs.length ≤ sizeLine →
    dcL g fYes tk tv ev0 (xs.map dt) S acc = .ok (acc ++ xs.map fun x => (k x, v x)) S
  | [], acc, _, _, _ => by simp [dcL]
  | x :: xs, acc, h, nd, hl => by
    obtain ⟨e1, h1, ⟨w, h2, h3⟩, h4⟩ := h x List.mem_cons_self
    rw [List.length_cons] at hl
    rw [List.map_cons] at nd ⊢
    unfold dcL
    rw [h1]
    dsimp only
    rw [h2]
    dsimp only
    rw [h3]
    dsimp only
    rw [h4]
    dsimp only
    have nk : k x ∉ acc.map (·.1) := fun z => by
      rw [List.nodup_append] at nd
      exact nd.2.2 _ z _ List.mem_cons_self rfl
    rw [if_pos ⟨rfl, by omega⟩, putP_app acc (k x) (v x) nk, dcL_map xs (acc ++ [(k x, v x)]) (fun y hy => h y (List.mem_cons_of_mem _ hy)) (by simpa using nd) (by rw [List.length_append, List.length_singleton]; omega), List.map_cons, List.append_assoc]
    rfl
theorem ix_list (xs : List PyData) (i : Nat) (d : PyData) (S : So) (h : xs[i]? = some d) : oIx (.d (.list xs)) (.d (.int (i : Nat))) S = .ok (.d d) S := by
  obtain ⟨hl, h2⟩ := List.getElem?_eq_some_iff.mp h
  simp [hl, h2]
theorem ix_tupN (xs : List PyData) (i : Nat) (d : PyData) (S : So) (h : xs[i]? = some d) : oIx (.d (.tuple xs)) (.d (.int (i : Nat))) S = .ok (.d d) S := by
  obtain ⟨hl, h2⟩ := List.getElem?_eq_some_iff.mp h
  simp [hl, h2]
end FL
namespace G61
open FL PySem L2 PC
theorem rows_list {N : Type} (f : N → PyData) (rows : List (Rw N)) : RowsAt f rows (.d (.list (rows.map (rwD f)))) := fun i r S h => ix_list _ i _ S (by rw [List.getElem?_map, h]; rfl)
theorem rows_tup {N : Type} (f : N → PyData) (rows : List (Rw N)) : RowsAt f rows (.d (.tuple (rows.map (rwD f)))) := fun i r S h => ix_tupN _ i _ S (by rw [List.getElem?_map, h]; rfl)
end G61

set_option linter.all false
set_option maxHeartbeats 4000000
set_option maxRecDepth 100000
namespace PC
open PySem FL
section
variable {N : Type} [DecidableEq N]
theorem metP_nodup {rows : List (Rw N)} : ∀ (m : Nat) (found wait ts : List Tg), found.Nodup → metP rows m found wait = some ts → ts.Nodup
  | 0, _, _, _, _, h => by cases h
  | m + 1, found, wait, ts, nd, h => by
    have add : ∀ t, t ∉ found → (found ++ [t]).Nodup := fun t ht => by
      rw [List.nodup_append]
      refine ⟨nd, by simp, fun a ha b hb => ?_⟩
      rw [List.mem_singleton.mp hb]
      intro e
      exact ht (e ▸ ha)
    unfold metP at h
    split at h
    · cases h
      exact nd
    · rename_i t _
      split at h
      · exact metP_nodup m _ _ _ nd h
      · rename_i ht
        split at h
        · split at h
          · exact metP_nodup m _ _ _ (add _ ht) h
          · cases h
        · exact metP_nodup m _ _ _ (add _ ht) h
theorem order_nodup : ∀ {ts : List Tg}, ts.Nodup → (ts.filterMap rowIx).Nodup
  | [], _ => by simp
  | t :: ts, h => by
    rw [List.nodup_cons] at h
    have ih := order_nodup h.2
    cases t with
    | yes => rw [List.filterMap_cons]; exact ih
    | no => rw [List.filterMap_cons]; exact ih
    | row i =>
      rw [List.filterMap_cons]
      show (i :: ts.filterMap rowIx).Nodup
      rw [List.nodup_cons]
      refine ⟨fun z => ?_, ih⟩
      obtain ⟨t, h1, h2⟩ := List.mem_filterMap.mp z
      cases t with
      | yes => cases h2
      | no => cases h2
      | row j =>
        cases h2
        exact h.1 h1
end
end PC
namespace G61
open FL PySem L2 PC
abbrev intD (i : Nat) : PyData := .int (i : Nat)
theorem rows_of_ts : ∀ (ts : List Tg), (ts.filter isRow).map tgD = (ts.filterMap rowIx).map intD
  | [] => rfl
  | t :: ts => by
    have ih := rows_of_ts ts
    cases t with
    | yes => rw [List.filterMap_cons, List.filter_cons]; exact ih
    | no => rw [List.filterMap_cons, List.filter_cons]; exact ih
    | row i =>
      rw [List.filter_cons, List.filterMap_cons]
      show tgD (.row i) :: _ = intD i :: _
      rw [ih]
      rfl
theorem enumD_map {α : Type} (g : α → PyData) : ∀ (l : List α) (k : Nat), enumD k (l.map g) = (l.zipIdx k).map fun p => .tuple [.int (p.2 : Nat), g p.1]
  | [], _ => rfl
  | a :: l, k => by
    rw [List.map_cons, List.zipIdx_cons, List.map_cons, ← enumD_map g l (k + 1)]
    rfl
/-- the dict of _numbered -/
abbrev numD (order : List Nat) (k : Nat) : Dic := (order.zipIdx k).map fun p => (Sum.inl ((p.1 : Nat) : Int), PyData.int ((p.2 : Nat) : Int))
theorem num_val (i : Nat) : ∀ (order : List Nat) (k : Nat), valP (numD order k) (Sum.inl (i : Int)) = (order.idxOf? i).map fun j => PyData.int ((k + j : Nat) : Int)
  | [], _ => rfl
  | a :: l, k => by
    have ih := num_val i l (k + 1)
    unfold valP at ih ⊢
    unfold numD at ih ⊢
    rw [List.zipIdx_cons, List.map_cons, List.find?_cons]
    by_cases e : a = i
    · subst e
      simp [List.idxOf?_cons]
    · have e2 : ¬ ((Sum.inl ((a : Nat) : Int) : Key) = Sum.inl (i : Int)) := fun z => e (by
        have := Sum.inl.inj z
        omega)
      dsimp only
      rw [decide_eq_false e2]
      dsimp only
      rw [ih]
      rw [List.idxOf?_cons]
      have e3 : (a == i) = false := by simpa using e
      rw [e3]
      cases l.idxOf? i with
      | none => rfl
      | some j =>
        simp
        omega
theorem num_str (x : Str) : ∀ (order : List Nat) (k : Nat), valP (numD order k) (Sum.inr x) = none
  | [], _ => rfl
  | a :: l, k => by
    have ih := num_str x l (k + 1)
    unfold valP at ih ⊢
    unfold numD at ih ⊢
    rw [List.zipIdx_cons, List.map_cons, List.find?_cons]
    have e2 : ¬ ((Sum.inl ((a : Nat) : Int) : Key) = Sum.inr x) := fun z => by cases z
    dsimp only
    rw [decide_eq_false e2]
    dsimp only
    exact ih
end G61

set_option linter.all false
set_option maxHeartbeats 4000000
set_option maxRecDepth 100000
namespace PC
open PySem FL
variable {N : Type} [DecidableEq N]
theorem metP_len {rows : List (Rw N)} : ∀ (m : Nat) (found wait ts : List Tg), metP rows m found wait = some ts → ts.length ≤ found.length + m
  | 0, _, _, _, h => by cases h
  | m + 1, found, wait, ts, h => by
    unfold metP at h
    split at h
    · cases h
      omega
    · split at h
      · have := metP_len m _ _ _ h
        omega
      · split at h
        · split at h
          · have := metP_len m _ _ _ h
            rw [List.length_append, List.length_singleton] at this
            omega
          · cases h
        · have := metP_len m _ _ _ h
          rw [List.length_append, List.length_singleton] at this
          omega
theorem mapM_zip {rows : List (Rw N)} : ∀ {l : List Nat} {rs : List (Rw N)}, (l.mapM fun i => rows[i]?) = some rs → rs.length = l.length ∧ ∀ x ∈ l.zip rs, rows[x.1]? = some x.2
  | [], rs, h => by
    rw [List.mapM_nil] at h
    cases h
    exact ⟨rfl, fun x hx => by cases hx⟩
  | i :: l, rs, h => by
    rw [List.mapM_cons] at h
    cases e1 : rows[i]? with
    | none => rw [e1] at h; cases h
    | some r =>
      rw [e1] at h
      cases e2 : l.mapM fun i => rows[i]? with
      | none => rw [e2] at h; cases h
      | some r2 =>
        rw [e2] at h
        cases h
        obtain ⟨h1, h2⟩ := mapM_zip e2
        refine ⟨by rw [List.length_cons, List.length_cons, h1], fun x hx => ?_⟩
        rw [List.zip_cons_cons] at hx
        rcases List.mem_cons.mp hx with e | hx
        · rw [e]; exact e1
        · exact h2 x hx
end PC
namespace G61
open FL PySem L2 PC
theorem num_ok {N : Type} [DecidableEq N] {f : N → PyData} {rows : List (Rw N)} {rw : W} (hr : RowsAt f rows rw) (n : Nat) (S : So) (start : Tg) (rs : List (Rw N)) (h : numP rows start = some rs) :
    lev Nn mm (n + 2) i__numbered [rw, .d (tgD start)] S = .ok (.d (.tuple (rs.map (rwD f)))) S := by
  unfold numP at h
  cases e1 : metP rows 100000 [] [start] with
  | none => rw [e1] at h; cases h
  | some ts =>
    rw [e1] at h
    dsimp only [Option.bind_some] at h
    have tl : ts.length ≤ 100000 := by have := metP_len _ _ _ _ e1; simpa using this
    have ol : (ts.filterMap rowIx).length ≤ ts.length := List.length_filterMap_le _ _
    have nd : (ts.filterMap rowIx).Nodup := order_nodup (metP_nodup _ _ _ _ List.nodup_nil e1)
    have hts := rows_of_ts ts
    generalize ts.filterMap rowIx = order at h nd hts ol
    cases e2 : order.mapM fun i => rows[i]? with
    | none => rw [e2] at h; cases h
    | some rs0 =>
      rw [e2] at h
      cases h
      obtain ⟨l1, l2⟩ := mapM_zip e2
      show fDef 10 (m__numbered (lev Nn mm (n + 1))) [rw, .d (tgD start)] S = _
      have a1 : fSet 2 (fLc (fItems (fCall 3 (lev Nn mm (n + 1) i_met) [.d (sg.dwd 1)] (fCons (fV 0) (fCons (fV 1) fNil)))) (gNm 5) (fTr (fIsi "int" (fV 5))) (fV 5) [5]) [some rw, some (.d (tgD start)), none, none, none, none, none, none, none, none] S =
          .nx [some rw, some (.d (tgD start)), some (.d (.list (order.map intD))), none, none, none, none, none, none, none] S := by
        have b1 : fItems (fCall 3 (lev Nn mm (n + 1) i_met) [.d (sg.dwd 1)] (fCons (fV 0) (fCons (fV 1) fNil))) [some rw, some (.d (tgD start)), none, none, none, none, none, none, none, none] S = .ok (ts.map tgD) S := by
          have c1 : fCall 3 (lev Nn mm (n + 1) i_met) [.d (sg.dwd 1)] (fCons (fV 0) (fCons (fV 1) fNil)) [some rw, some (.d (tgD start)), none, none, none, none, none, none, none, none] S = .ok (.d (.list (ts.map tgD))) S := met_ok hr n S start ts e1
          unfold fItems
          rw [c1]
          rfl
        have b2 := lcL_flt (g := gNm 5) (t := fTr (fIsi "int" (fV 5))) (te := fV 5) (ev0 := wipeE [some rw, some (.d (tgD start)), none, none, none, none, none, none, none, none] [5]) (S := S) (dt := tgD) (f := tgD) (p := isRow) ts []
          (fun t _ => ⟨_, rfl, isi_ok t _ S rfl, fun _ => rfl⟩) (by rw [sizeLine_eq]; simp; omega)
        rw [List.nil_append, hts] at b2
        unfold fSet fLc
        rw [b1]
        show Res.toOut (Res.bind (lcL _ _ _ _ _ _ _) _) _ _ = _
        rw [b2]
        rfl
      have a2 : fSet 3 (fDc (fEnum (fCons (fV 2) fNil)) (gTp 2 (gCs (gNm 6) (gCs (gNm 5) gNo))) fYes (fV 5) (fV 6) [6, 5]) [some rw, some (.d (tgD start)), some (.d (.list (order.map intD))), none, none, none, none, none, none, none] S =
          .nx [some rw, some (.d (tgD start)), some (.d (.list (order.map intD))), some (.k (numD order 0)), none, none, none, none, none, none] S := by
        have b2 := dcL_map (g := gTp 2 (gCs (gNm 6) (gCs (gNm 5) gNo))) (tk := fV 5) (tv := fV 6) (ev0 := wipeE [some rw, some (.d (tgD start)), some (.d (.list (order.map intD))), none, none, none, none, none, none, none] [6, 5]) (S := S)
          (dt := fun p : Nat × Nat => .tuple [.int (p.2 : Nat), intD p.1]) (k := fun p => (Sum.inl ((p.1 : Nat) : Int) : Key)) (v := fun p => .int (p.2 : Nat)) (order.zipIdx 0) [] (fun p _ => ⟨_, rfl, ⟨_, rfl, rfl⟩, rfl⟩)
          (by
            have z : (order.zipIdx 0).map (fun p => (Sum.inl ((p.1 : Nat) : Int) : Key)) = order.map fun i => (Sum.inl ((i : Nat) : Int) : Key) := by
              have : order = (order.zipIdx 0).map Prod.fst := by simp
              conv => rhs; rw [this]
              rw [List.map_map]
              rfl
            rw [List.map_nil, List.nil_append, z]
            exact List.pairwise_map.mpr (List.Pairwise.imp (fun {a b} ne e => ne (by have := Sum.inl.inj e; omega)) nd)) (by rw [sizeLine_eq]; simp; omega)
        unfold fSet fDc
        have b1 : fEnum (fCons (fV 2) fNil) [some rw, some (.d (tgD start)), some (.d (.list (order.map intD))), none, none, none, none, none, none, none] S = .ok ((order.zipIdx 0).map fun p => .tuple [.int (p.2 : Nat), intD p.1]) S := by
          rw [← enumD_map]
          rfl
        rw [b1]
        show Res.toOut (Res.bind (dcL _ _ _ _ _ _ _ _) _) _ _ = _
        rw [b2]
        rfl
      have a3 : fSet 4 (fLc (fItems (fV 2)) (gNm 5) fYes (f2 oIx (fV 0) (fV 5)) [5]) [some rw, some (.d (tgD start)), some (.d (.list (order.map intD))), some (.k (numD order 0)), none, none, none, none, none, none] S =
          .nx [some rw, some (.d (tgD start)), some (.d (.list (order.map intD))), some (.k (numD order 0)), some (.d (.list (rs0.map (rwD f)))), none, none, none, none, none] S := by
        have z1 : (order.zip rs0).map (fun x => intD x.1) = order.map intD := by
          conv => rhs; rw [← List.map_fst_zip (l₁ := order) (l₂ := rs0) (by omega)]
          rw [List.map_map]
          rfl
        have z2 : (order.zip rs0).map (fun x => rwD f x.2) = rs0.map (rwD f) := by
          conv => rhs; rw [← List.map_snd_zip (l₁ := order) (l₂ := rs0) (by omega)]
          rw [List.map_map]
          rfl
        have b2 := lcL_map (g := gNm 5) (te := f2 oIx (fV 0) (fV 5)) (ev0 := wipeE [some rw, some (.d (tgD start)), some (.d (.list (order.map intD))), some (.k (numD order 0)), none, none, none, none, none, none] [5]) (S := S)
          (dt := fun x : Nat × Rw N => intD x.1) (f := fun x => rwD f x.2) (order.zip rs0) [] (fun x hx => ⟨_, rfl, hr x.1 x.2 S (l2 x hx)⟩) (by rw [sizeLine_eq]; simp; omega)
        rw [z1, z2, List.nil_append] at b2
        unfold fSet fLc
        show Res.toOut (Res.bind (lcL _ _ _ _ _ _ _) _) _ _ = _
        rw [b2]
        rfl
      have a4 : fRet (fB1 (o1 tupW) (fCons (fLc (fItems (fV 4)) (gTp 3 (gCs (gNm 7) (gCs (gNm 8) (gCs (gNm 9) gNo)))) fYes (fTup (fCons (fV 7) (fCons (fGet2 (fV 3) (fV 8) (fV 8)) (fCons (fGet2 (fV 3) (fV 9) (fV 9)) fNil)))) [7, 8, 9]) fNil))
          [some rw, some (.d (tgD start)), some (.d (.list (order.map intD))), some (.k (numD order 0)), some (.d (.list (rs0.map (rwD f)))), none, none, none, none, none] S =
          .rt (.d (.tuple ((rs0.map fun r => (r.1, renT order r.2.1, renT order r.2.2)).map (rwD f)))) S := by
        have gt : ∀ (t : Tg) (T : So), (match look (numD order 0) (.d (tgD t)) with | none => Res.no | some (some d) => Res.ok (W.d d) T | some none => Res.ok (W.d (tgD t)) T) = .ok (.d (tgD (renT order t))) T := fun t T => by
          unfold look
          rw [asKey_tg]
          cases t with
          | yes =>
            have z : valP (numD order 0) (tgK .yes) = none := num_str _ _ _
            rw [Option.map_some, z]
            rfl
          | no =>
            have z : valP (numD order 0) (tgK .no) = none := num_str _ _ _
            rw [Option.map_some, z]
            rfl
          | row i =>
            have z : valP (numD order 0) (tgK (.row i)) = _ := num_val i order 0
            rw [Option.map_some, z]
            cases e : order.idxOf? i with
            | none => simp [renT, e]
            | some j => simp [renT, e, tgD]
        have b2 := lcL_map (g := gTp 3 (gCs (gNm 7) (gCs (gNm 8) (gCs (gNm 9) gNo)))) (te := fTup (fCons (fV 7) (fCons (fGet2 (fV 3) (fV 8) (fV 8)) (fCons (fGet2 (fV 3) (fV 9) (fV 9)) fNil))))
          (ev0 := wipeE [some rw, some (.d (tgD start)), some (.d (.list (order.map intD))), some (.k (numD order 0)), some (.d (.list (rs0.map (rwD f)))), none, none, none, none, none] [7, 8, 9]) (S := S)
          (dt := rwD f) (f := fun r => rwD f (r.1, renT order r.2.1, renT order r.2.2)) rs0 [] (fun r _ => ⟨[some rw, some (.d (tgD start)), some (.d (.list (order.map intD))), some (.k (numD order 0)), some (.d (.list (rs0.map (rwD f)))), none, none, some (.d (f r.1)), some (.d (tgD r.2.1)), some (.d (tgD r.2.2))], rfl, by
            have g1 : fGet2 (fV 3) (fV 8) (fV 8) [some rw, some (.d (tgD start)), some (.d (.list (order.map intD))), some (.k (numD order 0)), some (.d (.list (rs0.map (rwD f)))), none, none, some (.d (f r.1)), some (.d (tgD r.2.1)), some (.d (tgD r.2.2))] S = .ok (.d (tgD (renT order r.2.1))) S := gt r.2.1 S
            have g2 : fGet2 (fV 3) (fV 9) (fV 9) [some rw, some (.d (tgD start)), some (.d (.list (order.map intD))), some (.k (numD order 0)), some (.d (.list (rs0.map (rwD f)))), none, none, some (.d (f r.1)), some (.d (tgD r.2.1)), some (.d (tgD r.2.2))] S = .ok (.d (tgD (renT order r.2.2))) S := gt r.2.2 S
            have g3 : fV 7 [some rw, some (.d (tgD start)), some (.d (.list (order.map intD))), some (.k (numD order 0)), some (.d (.list (rs0.map (rwD f)))), none, none, some (.d (f r.1)), some (.d (tgD r.2.1)), some (.d (tgD r.2.2))] S = .ok (.d (f r.1)) S := rfl
            unfold fTup
            simp only [fCons, fNil, g1, g2, g3, Res.bind, allD, Option.map_some]
            exact if_pos (by show 3 ≤ sizeLine; decide)⟩) (by rw [sizeLine_eq]; simp; omega)
        rw [List.nil_append] at b2
        have b3 : fLc (fItems (fV 4)) (gTp 3 (gCs (gNm 7) (gCs (gNm 8) (gCs (gNm 9) gNo)))) fYes (fTup (fCons (fV 7) (fCons (fGet2 (fV 3) (fV 8) (fV 8)) (fCons (fGet2 (fV 3) (fV 9) (fV 9)) fNil)))) [7, 8, 9]
            [some rw, some (.d (tgD start)), some (.d (.list (order.map intD))), some (.k (numD order 0)), some (.d (.list (rs0.map (rwD f)))), none, none, none, none, none] S = .ok (.d (.list (rs0.map fun r => rwD f (r.1, renT order r.2.1, renT order r.2.2)))) S := by
          unfold fLc
          show Res.bind (lcL _ _ _ _ _ _ _) _ = _
          rw [b2]
          rfl
        have b4 : fB1 (o1 tupW) (fCons (fLc (fItems (fV 4)) (gTp 3 (gCs (gNm 7) (gCs (gNm 8) (gCs (gNm 9) gNo)))) fYes (fTup (fCons (fV 7) (fCons (fGet2 (fV 3) (fV 8) (fV 8)) (fCons (fGet2 (fV 3) (fV 9) (fV 9)) fNil)))) [7, 8, 9]) fNil)
            [some rw, some (.d (tgD start)), some (.d (.list (order.map intD))), some (.k (numD order 0)), some (.d (.list (rs0.map (rwD f)))), none, none, none, none, none] S = .ok (.d (.tuple (rs0.map fun r => rwD f (r.1, renT order r.2.1, renT order r.2.2)))) S := by
          show Res.bind (Res.bind (fLc _ _ _ (fTup (fCons (fV 7) (fCons (fGet2 (fV 3) (fV 8) (fV 8)) (fCons (fGet2 (fV 3) (fV 9) (fV 9)) fNil)))) _ _ _) _) _ = _
          rw [b3]
          rfl
        unfold fRet
        rw [b4, List.map_map]
        rfl
      have hb : m__numbered (lev Nn mm (n + 1)) [some rw, some (.d (tgD start)), none, none, none, none, none, none, none, none] S = .rt (.d (.tuple ((rs0.map fun r => (r.1, renT order r.2.1, renT order r.2.2)).map (rwD f)))) S := by
        unfold m__numbered
        rw [seq_nx a1, seq_nx a2, seq_nx a3]
        exact a4
      have hd := fdef_d (k := 10) (b := m__numbered (lev Nn mm (n + 1))) (ws := [rw, .d (tgD start)]) (S := S) hb
      rw [List.take_length] at hd
      exact hd
end G61

set_option linter.all false
set_option maxHeartbeats 4000000
set_option maxRecDepth 100000
namespace G61
open FL PySem L2 PC
/-! the two dicts of tidied -/
abbrev plD (pl : List (Nat × Nat)) : Dic := (Sum.inr "yes", PyData.str "yes") :: (Sum.inr "no", PyData.str "no") :: pl.map fun p => (Sum.inl ((p.1 : Nat) : Int), PyData.int ((p.2 : Nat) : Int))
theorem pl_row (i : Nat) : ∀ pl : List (Nat × Nat), valP (pl.map fun p => ((Sum.inl ((p.1 : Nat) : Int) : Key), PyData.int ((p.2 : Nat) : Int))) (Sum.inl (i : Int)) = (pl.lookup i).map fun k => PyData.int (k : Nat)
  | [] => rfl
  | (a, b) :: pl => by
    have ih := pl_row i pl
    unfold valP at ih ⊢
    rw [List.map_cons, List.find?_cons, List.lookup_cons]
    by_cases e : a = i
    · subst e
      simp
    · have e2 : ¬ ((Sum.inl ((a : Nat) : Int) : Key) = Sum.inl (i : Int)) := fun z => e (by
        have := Sum.inl.inj z
        omega)
      have e3 : (i == a) = false := by
        rw [beq_eq_false_iff_ne]
        exact fun z => e z.symm
      dsimp only
      rw [decide_eq_false e2, e3]
      exact ih
theorem pl_val (pl : List (Nat × Nat)) (t : Tg) : valP (plD pl) (tgK t) = (placeT pl t).map tgD := by
  cases t with
  | yes => rfl
  | no => rfl
  | row i =>
    have h := pl_row i pl
    have e : placeT pl (.row i) = (pl.lookup i).map .row := rfl
    rw [e, Option.map_map]
    show valP _ (Sum.inl (i : Int)) = _
    unfold plD valP
    rw [List.find?_cons, decide_eq_false (by intro z; cases z)]
    dsimp only
    rw [List.find?_cons, decide_eq_false (by intro z; cases z)]
    dsimp only
    unfold valP at h
    rw [h]
    rfl
def tgN : Tg → NestedKey
  | .row i => .num (i : Nat)
  | .yes => .text "yes"
  | .no => .text "no"
theorem tgN_inj {a b : Tg} (h : tgN a = tgN b) : a = b := by
  cases a <;> cases b <;> simp [tgN] at h ⊢
  · omega
theorem atom_tg (t : Tg) : atomK (tgD t) = some (tgN t) := by cases t <;> rfl
theorem data_tg (t : Tg) : (tgN t).data = tgD t := by cases t <;> rfl
/-- names as keys -/
structure NmK (N : Type) (f : N → PyData) where
  k : N → NestedKey
  a : ∀ x, atomK (f x) = some (k x)
  d : ∀ x, (k x).data = f x
  inj : ∀ x y, k x = k y → x = y
section
variable {N : Type} [DecidableEq N] {f : N → PyData} (K : NmK N f)
abbrev rwK (r : Rw N) : NestedKey := .tup [K.k r.1, tgN r.2.1, tgN r.2.2]
theorem rwK_inj {a b : Rw N} (h : rwK K a = rwK K b) : a = b := by
  obtain ⟨a1, a2, a3⟩ := a
  obtain ⟨b1, b2, b3⟩ := b
  simp only [rwK, NestedKey.tup.injEq, List.cons.injEq, and_true] at h
  obtain ⟨h1, h2, h3⟩ := h
  rw [K.inj _ _ h1, tgN_inj h2, tgN_inj h3]
theorem rwK_key (r : Rw N) : keyT (.d (rwD f r)) = some (rwK K r) := by
  simp [keyT, rwD, atomsK, K.a, atom_tg]
theorem rwK_data (r : Rw N) : (rwK K r).data = rwD f r := by
  simp only [rwK, NestedKey.data, NestedKey.datas, K.d, data_tg, rwD]
abbrev mgD (mg : List (Rw N)) (k : Nat) : List (NestedKey × PyData) := (mg.zipIdx k).map fun p => (rwK K p.1, PyData.int ((p.2 : Nat) : Int))
theorem mg_val (r : Rw N) : ∀ (mg : List (Rw N)) (k : Nat), lookT (mgD K mg k) (rwK K r) = (mg.idxOf? r).map fun j => PyData.int ((k + j : Nat) : Int)
  | [], _ => rfl
  | a :: l, k => by
    have ih := mg_val r l (k + 1)
    unfold lookT at ih ⊢
    unfold mgD at ih ⊢
    rw [List.zipIdx_cons, List.map_cons, List.find?_cons]
    by_cases e : a = r
    · subst e
      simp [List.idxOf?_cons]
    · have e2 : ¬ rwK K a = rwK K r := fun z => e (rwK_inj K z)
      dsimp only
      rw [decide_eq_false e2]
      dsimp only
      rw [ih, List.idxOf?_cons]
      have e3 : (a == r) = false := by simpa using e
      rw [e3]
      cases l.idxOf? r with
      | none => rfl
      | some j =>
        simp
        omega
end
end G61

set_option linter.all false
set_option maxHeartbeats 4000000
set_option maxRecDepth 100000
namespace G61
open FL PySem L2 PC
section
variable {N : Type} [DecidableEq N] {f : N → PyData} (K : NmK N f)
def tSt (S : So) (s : List (Nat × Nat) × List (Rw N)) : So := S ++ [.k (plD s.1), .t (mgD K s.2 0)]
def tEv (rw : W) (st : PyData) (S : So) (left : List Nat) (x5 x6 x7 x8 x9 : Option W) : Ev := [some rw, some (.d st), some (.r S.length), some (.r (S.length + 1)), some (.d (.list (left.map intD))), x5, x6, x7, x8, x9]
theorem look_pl (pl : List (Nat × Nat)) (t : Tg) : look (plD pl) (.d (tgD t)) = some ((placeT pl t).map tgD) := by
  unfold look
  rw [asKey_tg, Option.map_some, pl_val]
theorem asD_t (S : So) (s : List (Nat × Nat) × List (Rw N)) : asD (.r S.length) (tSt K S s) = some (plD s.1) := by simp [asD, tSt]
theorem in_ok (S : So) (s : List (Nat × Nat) × List (Rw N)) (t : Tg) : cIn (.d (tgD t)) (.r S.length) (tSt K S s) = .ok (.d (.bool (placeT s.1 t).isSome)) (tSt K S s) := by
  have h1 : toP (.r S.length) (tSt K S s) = none := by simp [toP, tSt]
  unfold cIn oOr oIn seqP
  rw [h1]
  simp only [oInK, asD_t, look_pl, oOr]
  cases placeT s.1 t <;> rfl
theorem nin_ok (S : So) (s : List (Nat × Nat) × List (Rw N)) (t : Tg) : cNi (.d (tgD t)) (.r S.length) (tSt K S s) = .ok (.d (.bool (placeT s.1 t).isNone)) (tSt K S s) := by
  have h1 : toP (.r S.length) (tSt K S s) = none := by simp [toP, tSt]
  unfold cNi oOr oIn seqP
  rw [h1]
  simp only [oInK, asD_t, look_pl, oOr]
  cases placeT s.1 t <;> rfl
theorem ixD_ok (S : So) (s : List (Nat × Nat) × List (Rw N)) (t a : Tg) (h : placeT s.1 t = some a) : oIx (.r S.length) (.d (tgD t)) (tSt K S s) = .ok (.d (tgD a)) (tSt K S s) := by
  have h1 : asL (.r S.length) (tSt K S s) = none := by simp [asL, tSt]
  unfold oIx oOr oIxT
  simp only [asT, oOr, oIxL, h1, oIxK, asD_t, look_pl, h, Option.map_some]
variable {rows : List (Rw N)} {rw : W}
abbrev tstA (j : Int) : FT := fB (f2 cIn (f2 oIx (f2 oIx (fV 0) (fV 6)) (fC (.int j))) (fV 2))
theorem tstA_ok (hr : RowsAt f rows rw) (S : So) (s : List (Nat × Nat) × List (Rw N)) (st : PyData) (left : List Nat) (x5 x7 x8 x9 : Option W) (i : Nat) (r : Rw N) (e : rows[i]? = some r) :
    tstA 1 (tEv rw st S left x5 (some (.d (intD i))) x7 x8 x9) (tSt K S s) = .ok (placeT s.1 r.2.1).isSome (tSt K S s) ∧ tstA 2 (tEv rw st S left x5 (some (.d (intD i))) x7 x8 x9) (tSt K S s) = .ok (placeT s.1 r.2.2).isSome (tSt K S s) := by
  have v0 : ∀ T, fV 0 (tEv rw st S left x5 (some (.d (intD i))) x7 x8 x9) T = .ok rw T := fun _ => rfl
  have v6 : ∀ T, fV 6 (tEv rw st S left x5 (some (.d (intD i))) x7 x8 x9) T = .ok (.d (intD i)) T := fun _ => rfl
  have v2 : ∀ T, fV 2 (tEv rw st S left x5 (some (.d (intD i))) x7 x8 x9) T = .ok (.r S.length) T := fun _ => rfl
  have g0 : ∀ T, oIx rw (.d (intD i)) T = .ok (.d (rwD f r)) T := fun T => hr i r T e
  have g1 : ∀ T, oIx (.d (rwD f r)) (.d (.int 1)) T = .ok (.d (tgD r.2.1)) T := fun T => ix_1 _ _ _ T
  have g2 : ∀ T, oIx (.d (rwD f r)) (.d (.int 2)) T = .ok (.d (tgD r.2.2)) T := fun T => ix_2 _ _ _ T
  constructor
  · simp only [tstA, fB, f2, fC, v0, v6, v2, g0, g1, in_ok K, Res.bind]
    rfl
  · simp only [tstA, fB, f2, fC, v0, v6, v2, g0, g2, in_ok K, Res.bind]
    rfl
theorem ready_ok (hr : RowsAt f rows rw) (S : So) (s : List (Nat × Nat) × List (Rw N)) (st : PyData) (left : List Nat) (x5 x6 x7 x8 x9 : Option W) (hl : ∀ i ∈ left, i < rows.length) (few : left.length ≤ 1000) :
    fSet 5 (fLc (fItems (fV 4)) (gNm 6) (fAndT (tstA 1) (tstA 2)) (fV 6) [6]) (tEv rw st S left x5 x6 x7 x8 x9) (tSt K S s) = .nx (tEv rw st S left (some (.d (.list ((left.filter (readyP rows s.1)).map intD)))) x6 x7 x8 x9) (tSt K S s) := by
  have b2 := lcL_flt (g := gNm 6) (t := fAndT (tstA 1) (tstA 2)) (te := fV 6) (ev0 := wipeE (tEv rw st S left x5 x6 x7 x8 x9) [6]) (S := tSt K S s) (dt := intD) (f := intD) (p := readyP rows s.1) left []
    (fun i hi => ⟨tEv rw st S left x5 (some (.d (intD i))) x7 x8 x9, rfl, by
      have hlt := hl i hi
      have e : rows[i]? = some rows[i] := List.getElem?_eq_getElem hlt
      obtain ⟨t1, t2⟩ := tstA_ok K hr S s st left x5 x7 x8 x9 i _ e
      unfold fAndT
      rw [t1]
      show (match (placeT s.1 rows[i].2.1).isSome with | true => _ | false => _) = _
      unfold readyP
      rw [e]
      dsimp only
      cases (placeT s.1 rows[i].2.1).isSome
      · rfl
      · exact t2, fun _ => rfl⟩) (by rw [sizeLine_eq]; simp; omega)
  rw [List.nil_append] at b2
  unfold fSet fLc
  show Res.toOut (Res.bind (lcL _ _ _ _ _ _ _) _) _ _ = _
  rw [b2]
  rfl
end
end G61

set_option linter.all false
set_option maxHeartbeats 4000000
set_option maxRecDepth 100000
namespace G61
open FL PySem L2 PC
section
variable {N : Type} [DecidableEq N] {f : N → PyData} (K : NmK N f)
abbrev putB : FS := (fSeq (fAsg (gTp 3 (gCs (gNm 7) (gCs (gNm 8) (gCs (gNm 9) gNo)))) (f2 oIx (fV 0) (fV 6))) 
        (fSetKey (fSetd (fV 3) (fTup (fCons (fV 7) (fCons (f2 oIx (fV 2) (fV 8)) (fCons (f2 oIx (fV 2) (fV 9)) fNil)))) (fB1 (o1 lenR) (fCons (fV 3) fNil))) (fV 2) (fV 6)))
theorem pl_new (pl : List (Nat × Nat)) (i k : Nat) (h : pl.lookup i = none) : putP (plD pl) (Sum.inl ((i : Nat) : Int)) (.int (k : Nat)) = plD (pl ++ [(i, k)]) := by
  have nk : (Sum.inl ((i : Nat) : Int) : Key) ∉ (plD pl).map (·.1) := by
    intro z
    have hv := pl_val pl (.row i)
    have hp : placeT pl (.row i) = none := by show (pl.lookup i).map _ = _; rw [h]; rfl
    rw [hp] at hv
    unfold valP at hv
    obtain ⟨x, hx, ex⟩ := List.mem_map.mp z
    have hf : ((plD pl).find? fun kv => decide (kv.1 = tgK (.row i))) = none := by
      cases e : (plD pl).find? fun kv => decide (kv.1 = tgK (.row i)) with
      | none => rfl
      | some y => rw [e] at hv; cases hv
    rw [List.find?_eq_none] at hf
    exact hf x hx (decide_eq_true (show x.1 = tgK (.row i) from ex))
  rw [putP_app _ _ _ nk]
  simp [plD]
theorem mg_len (mg : List (Rw N)) : (mgD K mg 0).length = mg.length := by simp [mgD]
theorem mg_app (mg : List (Rw N)) (r : Rw N) : mgD K (mg ++ [r]) 0 = mgD K mg 0 ++ [(rwK K r, PyData.int ((mg.length : Nat) : Int))] := by
  simp [mgD, List.zipIdx_append]
variable {rows : List (Rw N)} {rw : W}
theorem put_ok (hr : RowsAt f rows rw) (S : So) (s s2 : List (Nat × Nat) × List (Rw N)) (st : PyData) (left : List Nat) (x5 x7 x8 x9 : Option W) (i : Nat) (h : putR rows s i = some s2) (hn : s.1.lookup i = none) (b1 : s.1.length ≤ 1000) (b2 : s.2.length ≤ 1000) :
    ∃ y7 y8 y9, putB (tEv rw st S left x5 (some (.d (intD i))) x7 x8 x9) (tSt K S s) = .nx (tEv rw st S left x5 (some (.d (intD i))) y7 y8 y9) (tSt K S s2) := by
  unfold putR at h
  cases er : rows[i]? with
  | none => rw [er] at h; cases h
  | some r =>
    rw [er] at h
    dsimp only at h
    cases e1 : placeT s.1 r.2.1 with
    | none => rw [e1] at h; cases h
    | some a =>
      cases e2 : placeT s.1 r.2.2 with
      | none => rw [e1, e2] at h; cases h
      | some b =>
        rw [e1, e2] at h
        dsimp only at h
        refine ⟨some (.d (f r.1)), some (.d (tgD r.2.1)), some (.d (tgD r.2.2)), ?_⟩
        have a1 : fAsg (gTp 3 (gCs (gNm 7) (gCs (gNm 8) (gCs (gNm 9) gNo)))) (f2 oIx (fV 0) (fV 6)) (tEv rw st S left x5 (some (.d (intD i))) x7 x8 x9) (tSt K S s) =
            .nx (tEv rw st S left x5 (some (.d (intD i))) (some (.d (f r.1))) (some (.d (tgD r.2.1))) (some (.d (tgD r.2.2)))) (tSt K S s) := by
          have g0 : f2 oIx (fV 0) (fV 6) (tEv rw st S left x5 (some (.d (intD i))) x7 x8 x9) (tSt K S s) = .ok (.d (rwD f r)) (tSt K S s) := hr i r _ er
          unfold fAsg
          rw [g0]
          rfl
        unfold putB
        rw [seq_nx a1]
        have k1 : fTup (fCons (fV 7) (fCons (f2 oIx (fV 2) (fV 8)) (fCons (f2 oIx (fV 2) (fV 9)) fNil))) (tEv rw st S left x5 (some (.d (intD i))) (some (.d (f r.1))) (some (.d (tgD r.2.1))) (some (.d (tgD r.2.2)))) (tSt K S s) = .ok (.d (rwD f (r.1, a, b))) (tSt K S s) := by
          have g7 : fV 7 (tEv rw st S left x5 (some (.d (intD i))) (some (.d (f r.1))) (some (.d (tgD r.2.1))) (some (.d (tgD r.2.2)))) (tSt K S s) = .ok (.d (f r.1)) (tSt K S s) := rfl
          have g8 : f2 oIx (fV 2) (fV 8) (tEv rw st S left x5 (some (.d (intD i))) (some (.d (f r.1))) (some (.d (tgD r.2.1))) (some (.d (tgD r.2.2)))) (tSt K S s) = .ok (.d (tgD a)) (tSt K S s) := ixD_ok K S s _ _ e1
          have g9 : f2 oIx (fV 2) (fV 9) (tEv rw st S left x5 (some (.d (intD i))) (some (.d (f r.1))) (some (.d (tgD r.2.1))) (some (.d (tgD r.2.2)))) (tSt K S s) = .ok (.d (tgD b)) (tSt K S s) := ixD_ok K S s _ _ e2
          unfold fTup
          simp only [fCons, fNil, g7, g8, g9, Res.bind, allD, Option.map_some]
          exact if_pos (by show 3 ≤ sizeLine; decide)
        have gt : ∀ s : List (Nat × Nat) × List (Rw N), (tSt K S s)[S.length + 1]? = some (.t (mgD K s.2 0)) := fun s => by simp [tSt]
        have gk : ∀ s : List (Nat × Nat) × List (Rw N), (tSt K S s)[S.length]? = some (.k (plD s.1)) := fun s => by simp [tSt]
        have k2 : fB1 (o1 lenR) (fCons (fV 3) fNil) (tEv rw st S left x5 (some (.d (intD i))) (some (.d (f r.1))) (some (.d (tgD r.2.1))) (some (.d (tgD r.2.2)))) (tSt K S s) = .ok (.d (.int (s.2.length : Nat))) (tSt K S s) := by
          show lenR (.r (S.length + 1)) (tSt K S s) = _
          have ha : asR (.r (S.length + 1)) (tSt K S s) = some (mgD K s.2 0) := by
            unfold asR
            simp only [gt]
          unfold lenR
          rw [ha]
          dsimp only
          rw [mg_len]
        have v3 : fV 3 (tEv rw st S left x5 (some (.d (intD i))) (some (.d (f r.1))) (some (.d (tgD r.2.1))) (some (.d (tgD r.2.2)))) (tSt K S s) = .ok (.r (S.length + 1)) (tSt K S s) := rfl
        have sz : sizeLine = 16777216 := sizeLine_eq
        have k3 : fSetd (fV 3) (fTup (fCons (fV 7) (fCons (f2 oIx (fV 2) (fV 8)) (fCons (f2 oIx (fV 2) (fV 9)) fNil)))) (fB1 (o1 lenR) (fCons (fV 3) fNil)) (tEv rw st S left x5 (some (.d (intD i))) (some (.d (f r.1))) (some (.d (tgD r.2.1))) (some (.d (tgD r.2.2)))) (tSt K S s) =
            (match s.2.idxOf? (r.1, a, b) with
            | some k => .ok (.d (.int (k : Nat))) (tSt K S s)
            | none => .ok (.d (.int (s.2.length : Nat))) (tSt K S (s.1, s.2 ++ [(r.1, a, b)]))) := by
          unfold fSetd
          rw [v3]
          simp only [Res.bind, gt, k1, k2, rwK_key K, mg_val]
          rw [if_pos (by rw [mg_len]; omega)]
          cases s.2.idxOf? (r.1, a, b) with
          | some k => simp
          | none =>
            simp only [Option.map_none]
            rw [tSt, tSt, mg_app]
            simp
        unfold fSetKey
        rw [k3]
        cases ek : s.2.idxOf? (r.1, a, b) with
        | some k =>
          rw [ek] at h
          cases h
          show (match (tSt K S s)[S.length]? with | some (.k kvs) => if kvs.length < sizeLine then Out.nx _ ((tSt K S s).set S.length (.k (putP kvs (Sum.inl ((i : Nat) : Int)) (.int (k : Nat))))) else .no | _ => .no) = _
          rw [gk]
          dsimp only
          rw [if_pos (by simp [plD]; omega), pl_new _ _ _ hn]
          simp [tSt]
        | none =>
          rw [ek] at h
          cases h
          show (match (tSt K S (s.1, s.2 ++ [(r.1, a, b)]))[S.length]? with | some (.k kvs) => if kvs.length < sizeLine then Out.nx _ ((tSt K S (s.1, s.2 ++ [(r.1, a, b)])).set S.length (.k (putP kvs (Sum.inl ((i : Nat) : Int)) (.int (s.2.length : Nat))))) else .no | _ => .no) = _
          rw [gk]
          dsimp only
          rw [if_pos (by simp [plD]; omega), pl_new _ _ _ hn]
          simp [tSt]
end
end G61

set_option linter.all false
set_option maxHeartbeats 4000000
set_option maxRecDepth 100000
namespace PC
open PySem FL
variable {N : Type} [DecidableEq N]
theorem putR_shape {rows : List (Rw N)} {s s2 : List (Nat × Nat) × List (Rw N)} {i : Nat} (h : putR rows s i = some s2) : ∃ k, s2.1 = s.1 ++ [(i, k)] ∧ s2.2.length ≤ s.2.length + 1 := by
  unfold putR at h
  split at h
  · split at h
    · split at h
      · cases h
        exact ⟨_, rfl, by show s.2.length ≤ _; omega⟩
      · cases h
        exact ⟨_, rfl, by show (s.2 ++ [_]).length ≤ _; rw [List.length_append]; exact Nat.le_refl _⟩
    · cases h
  · cases h
theorem lookup_app (j i k : Nat) : ∀ pl : List (Nat × Nat), pl.lookup j = none → j ≠ i → (pl ++ [(i, k)]).lookup j = none
  | [], _, ne => by
    have e : (j == i) = false := by simpa using ne
    show (match j == i with | true => some k | false => none) = none
    rw [e]
  | (a, b) :: pl, h, ne => by
    rw [List.lookup_cons] at h
    rw [List.cons_append, List.lookup_cons]
    cases e : j == a with
    | true => rw [e] at h; cases h
    | false =>
      rw [e] at h
      exact lookup_app j i k pl h ne
end PC
namespace G61
open FL PySem L2 PC
section
variable {N : Type} [DecidableEq N] {f : N → PyData} (K : NmK N f) {rows : List (Rw N)} {rw : W}
theorem puts_ok (hr : RowsAt f rows rw) (S : So) (st : PyData) (left : List Nat) (x5 : Option W) : ∀ (ready : List Nat) (s s2 : List (Nat × Nat) × List (Rw N)) (x6 x7 x8 x9 : Option W), ready.foldlM (putR rows) s = some s2 → ready.Nodup → (∀ i ∈ ready, s.1.lookup i = none) →
    s.1.length + ready.length ≤ 1000 → s.2.length + ready.length ≤ 1000 → ∃ y6 y7 y8 y9, forL (gNm 6) putB (ready.map intD) (tEv rw st S left x5 x6 x7 x8 x9) (tSt K S s) = .nx (tEv rw st S left x5 y6 y7 y8 y9) (tSt K S s2)
  | [], s, s2, x6, x7, x8, x9, h, _, _, _, _ => by
    rw [List.foldlM_nil] at h
    cases h
    exact ⟨_, _, _, _, rfl⟩
  | i :: ready, s, s2, x6, x7, x8, x9, h, nd, hn, b1, b2 => by
    rw [List.foldlM_cons] at h
    rw [List.nodup_cons] at nd
    rw [List.length_cons] at b1 b2
    cases e : putR rows s i with
    | none => rw [e] at h; cases h
    | some s1 =>
      rw [e] at h
      obtain ⟨k, p1, p2⟩ := putR_shape e
      obtain ⟨y7, y8, y9, q⟩ := put_ok K hr S s s1 st left x5 x7 x8 x9 i e (hn i List.mem_cons_self) (by omega) (by omega)
      obtain ⟨z6, z7, z8, z9, q2⟩ := puts_ok hr S st left x5 ready s1 s2 (some (.d (intD i))) y7 y8 y9 h nd.2 (fun j hj => by
        rw [p1]
        exact lookup_app j i k s.1 (hn j (List.mem_cons_of_mem _ hj)) (fun z => nd.1 (by rw [← z]; exact hj))) (by rw [p1, List.length_append, List.length_singleton]; omega) (by omega)
      refine ⟨z6, z7, z8, z9, ?_⟩
      rw [List.map_cons]
      unfold forL
      show (match putB (tEv rw st S left x5 (some (.d (intD i))) x7 x8 x9) (tSt K S s) with | .nx e2 S2 => forL (gNm 6) putB (ready.map intD) e2 S2 | .ct e2 S2 => forL (gNm 6) putB (ready.map intD) e2 S2 | .bk e2 S2 => .nx e2 S2 | r => r) = _
      rw [q]
      exact q2
theorem left_ok (S : So) (s : List (Nat × Nat) × List (Rw N)) (st : PyData) (left : List Nat) (x5 x6 x7 x8 x9 : Option W) (few : left.length ≤ 1000) :
    fSet 4 (fLc (fItems (fV 4)) (gNm 6) (fB (f2 cNi (fV 6) (fV 2))) (fV 6) [6]) (tEv rw st S left x5 x6 x7 x8 x9) (tSt K S s) = .nx (tEv rw st S (left.filter fun i => (s.1.lookup i).isNone) x5 x6 x7 x8 x9) (tSt K S s) := by
  have b2 := lcL_flt (g := gNm 6) (t := fB (f2 cNi (fV 6) (fV 2))) (te := fV 6) (ev0 := wipeE (tEv rw st S left x5 x6 x7 x8 x9) [6]) (S := tSt K S s) (dt := intD) (f := intD) (p := fun i => (s.1.lookup i).isNone) left []
    (fun i _ => ⟨tEv rw st S left x5 (some (.d (intD i))) x7 x8 x9, rfl, by
      have h := nin_ok K S s (.row i)
      have v6 : ∀ T, fV 6 (tEv rw st S left x5 (some (.d (intD i))) x7 x8 x9) T = .ok (.d (tgD (.row i))) T := fun _ => rfl
      have v2 : ∀ T, fV 2 (tEv rw st S left x5 (some (.d (intD i))) x7 x8 x9) T = .ok (.r S.length) T := fun _ => rfl
      have e : (placeT s.1 (.row i)).isNone = (s.1.lookup i).isNone := by
        show ((s.1.lookup i).map _).isNone = _
        cases s.1.lookup i <;> rfl
      simp only [fB, f2, v6, v2, h, Res.bind, e]
      rfl, fun _ => rfl⟩) (by rw [sizeLine_eq]; simp; omega)
  rw [List.nil_append] at b2
  unfold fSet fLc
  show Res.toOut (Res.bind (lcL _ _ _ _ _ _ _) _) _ _ = _
  rw [b2]
  rfl
end
end G61

set_option linter.all false
set_option maxHeartbeats 4000000
set_option maxRecDepth 100000
namespace PC
open PySem FL
variable {N : Type} [DecidableEq N]
theorem filt_two (p q : Nat → Bool) : ∀ l : List Nat, (∀ i ∈ l, p i = true → q i = false) → (l.filter p).length + (l.filter q).length ≤ l.length
  | [], _ => by simp
  | i :: l, h => by
    have ih := filt_two p q l fun j hj => h j (List.mem_cons_of_mem _ hj)
    have hi := h i List.mem_cons_self
    rw [List.filter_cons, List.filter_cons, List.length_cons]
    cases e1 : p i with
    | true =>
      rw [hi e1, if_pos rfl, if_neg Bool.false_ne_true, List.length_cons]
      omega
    | false =>
      rw [if_neg Bool.false_ne_true]
      split
      · rw [List.length_cons]; omega
      · omega
theorem lookup_keep (j i k : Nat) : ∀ pl : List (Nat × Nat), (pl.lookup j).isSome = true → ((pl ++ [(i, k)]).lookup j).isSome = true
  | [], h => by cases h
  | (a, b) :: pl, h => by
    rw [List.lookup_cons] at h
    rw [List.cons_append, List.lookup_cons]
    cases e : j == a with
    | true => rfl
    | false =>
      rw [e] at h
      exact lookup_keep j i k pl h
theorem lookup_new (i k : Nat) : ∀ pl : List (Nat × Nat), ((pl ++ [(i, k)]).lookup i).isSome = true
  | [] => by
    show (match i == i with | true => some k | false => none).isSome = true
    rw [beq_self_eq_true]
    rfl
  | (a, b) :: pl => by
    rw [List.cons_append, List.lookup_cons]
    cases e : i == a with
    | true => rfl
    | false => exact lookup_new i k pl
theorem fold_shape {rows : List (Rw N)} : ∀ (ready : List Nat) (s s2 : List (Nat × Nat) × List (Rw N)), ready.foldlM (putR rows) s = some s2 →
    s2.1.length = s.1.length + ready.length ∧ s2.2.length ≤ s.2.length + ready.length ∧ (∀ j, (s.1.lookup j).isSome = true → (s2.1.lookup j).isSome = true) ∧ ∀ j ∈ ready, (s2.1.lookup j).isSome = true
  | [], s, s2, h => by
    rw [List.foldlM_nil] at h
    cases h
    exact ⟨rfl, Nat.le_refl _, fun _ q => q, fun j hj => by cases hj⟩
  | i :: ready, s, s2, h => by
    rw [List.foldlM_cons] at h
    cases e : putR rows s i with
    | none => rw [e] at h; cases h
    | some s1 =>
      rw [e] at h
      obtain ⟨k, p1, p2⟩ := putR_shape e
      obtain ⟨q1, q2, q3, q4⟩ := fold_shape ready s1 s2 h
      rw [p1, List.length_append, List.length_singleton] at q1
      refine ⟨by rw [q1, List.length_cons]; omega, by rw [List.length_cons]; omega, fun j hj => q3 j (by rw [p1]; exact lookup_keep j i k _ hj), fun j hj => ?_⟩
      rcases List.mem_cons.mp hj with z | z
      · rw [z]
        exact q3 i (by rw [p1]; exact lookup_new i k _)
      · exact q4 j z
end PC
namespace G61
open FL PySem L2 PC
section
variable {N : Type} [DecidableEq N] {f : N → PyData} (K : NmK N f) {rows : List (Rw N)} {rw : W}
abbrev tidB : FS := (fSeq (fSet 5 (fLc (fItems (fV 4)) (gNm 6) (fAndT (tstA 1) (tstA 2)) (fV 6) [6])) 
      (fSeq (fIfS (fNotT (fTr (fV 5))) 
        (fRet (fC .none)) 
        fNext) 
      (fSeq (fFor (fItems (fV 5)) (gNm 6) putB)
      (fSet 4 (fLc (fItems (fV 4)) (gNm 6) (fB (f2 cNi (fV 6) (fV 2))) (fV 6) [6])))))
theorem tid_turn (hr : RowsAt f rows rw) (S : So) (s : List (Nat × Nat) × List (Rw N)) (st : PyData) (left : List Nat) (x5 x6 x7 x8 x9 : Option W) (hl : ∀ i ∈ left, i < rows.length) (nd : left.Nodup) (hn : ∀ i ∈ left, s.1.lookup i = none) (b1 : s.1.length + left.length ≤ 1000) (b2 : s.2.length + left.length ≤ 1000) :
    (left.filter (readyP rows s.1) = [] → ∃ T, tidB (tEv rw st S left x5 x6 x7 x8 x9) (tSt K S s) = .rt (.d .none) T ∧ T.take S.length = S) ∧
    ∀ s2, left.filter (readyP rows s.1) ≠ [] → (left.filter (readyP rows s.1)).foldlM (putR rows) s = some s2 → ∃ y5 y6 y7 y8 y9, tidB (tEv rw st S left x5 x6 x7 x8 x9) (tSt K S s) = .nx (tEv rw st S (left.filter fun i => (s2.1.lookup i).isNone) y5 y6 y7 y8 y9) (tSt K S s2) := by
  have r1 := ready_ok K hr S s st left x5 x6 x7 x8 x9 hl (by omega)
  have fl := List.length_filter_le (readyP rows s.1) left
  constructor
  · intro h0
    refine ⟨tSt K S s, ?_, by simp [tSt]⟩
    unfold tidB
    rw [seq_nx r1, h0]
    exact seq_rt (by rfl)
  · intro s2 h0 h1
    obtain ⟨y6, y7, y8, y9, q⟩ := puts_ok K hr S st left (some (.d (.list ((left.filter (readyP rows s.1)).map intD)))) _ s s2 x6 x7 x8 x9 h1 (nd.filter _) (fun i hi => hn i (List.mem_filter.mp hi).1) (by omega) (by omega)
    refine ⟨some (.d (.list ((left.filter (readyP rows s.1)).map intD))), y6, y7, y8, y9, ?_⟩
    have c1 : fIfS (fNotT (fTr (fV 5))) (fRet (fC .none)) fNext (tEv rw st S left (some (.d (.list ((left.filter (readyP rows s.1)).map intD)))) x6 x7 x8 x9) (tSt K S s) = .nx (tEv rw st S left (some (.d (.list ((left.filter (readyP rows s.1)).map intD)))) x6 x7 x8 x9) (tSt K S s) := by
      have e : fTr (fV 5) (tEv rw st S left (some (.d (.list ((left.filter (readyP rows s.1)).map intD)))) x6 x7 x8 x9) (tSt K S s) = .ok true (tSt K S s) := by
        show (match some (!((left.filter (readyP rows s.1)).map intD).isEmpty) with | some b => Res.ok b _ | none => .no) = _
        cases h : left.filter (readyP rows s.1) with
        | nil => exact absurd h h0
        | cons _ _ => rfl
      unfold fIfS fNotT
      rw [e]
      rfl
    have c2 : fFor (fItems (fV 5)) (gNm 6) putB (tEv rw st S left (some (.d (.list ((left.filter (readyP rows s.1)).map intD)))) x6 x7 x8 x9) (tSt K S s) = .nx (tEv rw st S left (some (.d (.list ((left.filter (readyP rows s.1)).map intD)))) y6 y7 y8 y9) (tSt K S s2) := q
    unfold tidB
    rw [seq_nx r1, seq_nx c1, seq_nx c2]
    exact left_ok K S s2 st left _ y6 y7 y8 y9 (by omega)
end
end G61

set_option linter.all false
set_option maxHeartbeats 4000000
set_option maxRecDepth 100000
namespace G61
open FL PySem L2 PC
section
variable {N : Type} [DecidableEq N] {f : N → PyData} (K : NmK N f) {rows : List (Rw N)} {rw : W}
theorem tid_loop (hr : RowsAt f rows rw) (S : So) (st : PyData) : ∀ (m : Nat) (left : List Nat) (s : List (Nat × Nat) × List (Rw N)) (x5 x6 x7 x8 x9 : Option W) (r : Option (List (Nat × Nat) × List (Rw N))), (∀ i ∈ left, i < rows.length) → left.Nodup → (∀ i ∈ left, s.1.lookup i = none) → s.1.length + left.length ≤ 1000 → s.2.length + left.length ≤ 1000 →
    tidL rows m left s = some r → match r with
    | some s2 => ∃ y5 y6 y7 y8 y9, whl (fTr (fV 4)) tidB m (tEv rw st S left x5 x6 x7 x8 x9) (tSt K S s) = .nx (tEv rw st S [] y5 y6 y7 y8 y9) (tSt K S s2)
    | none => ∃ T, whl (fTr (fV 4)) tidB m (tEv rw st S left x5 x6 x7 x8 x9) (tSt K S s) = .rt (.d .none) T ∧ T.take S.length = S
  | 0, _, _, _, _, _, _, _, _, _, _, _, _, _, h => by cases h
  | m + 1, left, s, x5, x6, x7, x8, x9, r, hl, nd, hn, b1, b2, h => by
    have cond : fTr (fV 4) (tEv rw st S left x5 x6 x7 x8 x9) (tSt K S s) = .ok (!left.isEmpty) (tSt K S s) := by
      show (match some (!(left.map intD).isEmpty) with | some b => Res.ok b _ | none => .no) = _
      cases left <;> rfl
    unfold tidL at h
    by_cases hE : left.isEmpty = true
    · rw [if_pos hE] at h
      cases h
      have e0 : left = [] := List.isEmpty_iff.mp hE
      subst e0
      refine ⟨x5, x6, x7, x8, x9, ?_⟩
      unfold whl
      rw [cond]
      rfl
    · rw [if_neg hE] at h
      have ct : (!left.isEmpty) = true := by simpa using hE
      rw [ct] at cond
      have step : whl (fTr (fV 4)) tidB (m + 1) (tEv rw st S left x5 x6 x7 x8 x9) (tSt K S s) = (match tidB (tEv rw st S left x5 x6 x7 x8 x9) (tSt K S s) with
          | .nx e2 S2 => whl (fTr (fV 4)) tidB m e2 S2
          | .ct e2 S2 => whl (fTr (fV 4)) tidB m e2 S2
          | .bk e2 S2 => .nx e2 S2
          | r => r) := by
        show (fTr (fV 4) _ _).toOutB _ _ = _
        rw [cond]
        rfl
      obtain ⟨t1, t2⟩ := tid_turn K hr S s st left x5 x6 x7 x8 x9 hl nd hn b1 b2
      by_cases h0 : left.filter (readyP rows s.1) = []
      · rw [if_pos (by rw [h0]; rfl)] at h
        cases h
        obtain ⟨T, q1, q2⟩ := t1 h0
        exact ⟨T, by rw [step, q1], q2⟩
      · rw [if_neg (fun z => h0 (List.isEmpty_iff.mp z))] at h
        cases hf : (left.filter (readyP rows s.1)).foldlM (putR rows) s with
        | none => rw [hf] at h; cases h
        | some s2 =>
          rw [hf] at h
          dsimp only at h
          obtain ⟨y5, y6, y7, y8, y9, q⟩ := t2 s2 h0 hf
          obtain ⟨p1, p2, p3, p4⟩ := fold_shape _ s s2 hf
          have two := filt_two (readyP rows s.1) (fun i => (s2.1.lookup i).isNone) left (fun i hi hp => by
            have := p4 i (List.mem_filter.mpr ⟨hi, hp⟩)
            cases e : s2.1.lookup i with
            | none => rw [e] at this; cases this
            | some _ => rfl)
          have ih := tid_loop hr S st m (left.filter fun i => (s2.1.lookup i).isNone) s2 y5 y6 y7 y8 y9 r (fun i hi => hl i (List.mem_filter.mp hi).1) (nd.filter _) (fun i hi => Option.isNone_iff_eq_none.mp (List.mem_filter.mp hi).2) (by omega) (by omega) h
          cases r with
          | some s3 =>
            obtain ⟨z5, z6, z7, z8, z9, hz⟩ := ih
            exact ⟨z5, z6, z7, z8, z9, by rw [step, q]; exact hz⟩
          | none =>
            obtain ⟨T, hz, hz2⟩ := ih
            exact ⟨T, by rw [step, q]; exact hz, hz2⟩
end
end G61

set_option linter.all false
set_option maxHeartbeats 4000000
set_option maxRecDepth 100000
namespace G61
open FL PySem L2 PC
section
variable {N : Type} [DecidableEq N] {f : N → PyData} (K : NmK N f) {rows : List (Rw N)} {rw : W}
theorem mg_data (mg : List (Rw N)) : (mgD K mg 0).map (fun p => p.1.data) = mg.map (rwD f) := by
  have : mg = (mg.zipIdx 0).map Prod.fst := by simp
  conv => rhs; rw [this]
  simp only [mgD, List.map_map]
  apply List.map_congr_left
  intro p _
  exact rwK_data K p.1
/-- what tidied gives, as a value -/
def tidW (f : N → PyData) : Option (List (Rw N)) → W
  | none => .d .none
  | some rs => .d (.tuple (rs.map (rwD f)))
theorem tidied_ok (K : NmK N f) (hr : RowsAt f rows rw) (hlen : ∀ S, lenW rw S = .ok (.d (.int (rows.length : Nat))) S) (few : rows.length ≤ 1000) (n : Nat) (S : So) (start : Tg) (r : Option (List (Rw N))) (h : tidP rows start = some r) :
    lev Nn mm (n + 3) i_tidied [rw, .d (tgD start)] S = .ok (tidW f r) S := by
  show fDef 10 (m_tidied (lev Nn mm (n + 2))) [rw, .d (tgD start)] S = _
  have a1 : fSet 2 (fDispM ((.inr "yes", (fC (.str "yes"))) :: ((.inr "no", (fC (.str "no"))) :: []))) [some rw, some (.d (tgD start)), none, none, none, none, none, none, none, none] S =
      .nx [some rw, some (.d (tgD start)), some (.r S.length), none, none, none, none, none, none, none] (S ++ [.k (plD [])]) := rfl
  have a2 : fSet 3 fNewT [some rw, some (.d (tgD start)), some (.r S.length), none, none, none, none, none, none, none] (S ++ [.k (plD [])]) =
      .nx [some rw, some (.d (tgD start)), some (.r S.length), some (.r (S.length + 1)), none, none, none, none, none, none] (tSt K S ([], [])) := by
    have e1 : (S ++ [Ob.k (plD [])]).length = S.length + 1 := by simp
    have e2 : S ++ [Ob.k (plD [])] ++ [Ob.t []] = tSt K S ([], []) := by simp [tSt, mgD]
    unfold fSet fNewT
    rw [e1, e2]
    rfl
  have a3 : fSet 4 (fLstRg1 (fB1 oLen (fCons (fV 0) fNil))) [some rw, some (.d (tgD start)), some (.r S.length), some (.r (S.length + 1)), none, none, none, none, none, none] (tSt K S ([], [])) =
      .nx (tEv rw (tgD start) S (List.range rows.length) none none none none none) (tSt K S ([], [])) := by
    have e1 : fB1 oLen (fCons (fV 0) fNil) [some rw, some (.d (tgD start)), some (.r S.length), some (.r (S.length + 1)), none, none, none, none, none, none] (tSt K S ([], [])) = .ok (.d (.int (rows.length : Nat))) (tSt K S ([], [])) := hlen _
    have e2 : rgD 0 rows.length = (List.range rows.length).map intD := by
      unfold rgD
      apply List.map_congr_left
      intro i _
      simp
    unfold fSet fLstRg1
    rw [e1]
    show Res.toOut (if _ then _ else _) _ _ = _
    rw [if_pos ⟨by omega, by omega⟩]
    show Out.nx _ _ = _
    rw [show ((rows.length : Nat) : Int).toNat = rows.length by omega, e2]
    rfl
  unfold tidP at h
  cases e1 : tidL rows 100000 (List.range rows.length) ([], []) with
  | none => rw [e1] at h; cases h
  | some r1 =>
    rw [e1] at h
    have lp := tid_loop K hr S (tgD start) 100000 (List.range rows.length) ([], []) none none none none none r1 (fun i hi => List.mem_range.mp hi) List.nodup_range (fun _ _ => rfl) (by simp; omega) (by simp; omega) e1
    cases r1 with
    | none =>
      cases h
      obtain ⟨T, q1, q2⟩ := lp
      have hw : fWhile (fTr (fV 4)) tidB (tEv rw (tgD start) S (List.range rows.length) none none none none none) (tSt K S ([], [])) = .rt (.d .none) T := q1
      have hb : m_tidied (lev Nn mm (n + 2)) [some rw, some (.d (tgD start)), none, none, none, none, none, none, none, none] S = .rt (.d .none) T := by
        unfold m_tidied
        rw [seq_nx a1, seq_nx a2, seq_nx a3]
        exact seq_rt hw
      have hd := fdef_d (k := 10) (b := m_tidied (lev Nn mm (n + 2))) (ws := [rw, .d (tgD start)]) (S := S) hb
      rw [q2] at hd
      exact hd
    | some s =>
      dsimp only at h
      obtain ⟨y5, y6, y7, y8, y9, q⟩ := lp
      cases e2 : placeT s.1 start with
      | none => rw [e2] at h; cases h
      | some t =>
        rw [e2] at h
        dsimp only at h
        cases e3 : numP s.2 t with
        | none => rw [e3] at h; cases h
        | some rs =>
          rw [e3] at h
          cases h
          have hw : fWhile (fTr (fV 4)) tidB (tEv rw (tgD start) S (List.range rows.length) none none none none none) (tSt K S ([], [])) = .nx (tEv rw (tgD start) S [] y5 y6 y7 y8 y9) (tSt K S s) := q
          have hn := num_ok (rows_list f s.2) n (tSt K S s) t rs e3
          have g1 : fB1 (o1 lstR) (fCons (fV 3) fNil) (tEv rw (tgD start) S [] y5 y6 y7 y8 y9) (tSt K S s) = .ok (.d (.list (s.2.map (rwD f)))) (tSt K S s) := by
            show lstR (.r (S.length + 1)) (tSt K S s) = _
            have ha : asR (.r (S.length + 1)) (tSt K S s) = some (mgD K s.2 0) := by simp [asR, tSt]
            unfold lstR
            rw [ha]
            dsimp only
            rw [mg_data]
          have g2 : f2 oIx (fV 2) (fV 1) (tEv rw (tgD start) S [] y5 y6 y7 y8 y9) (tSt K S s) = .ok (.d (tgD t)) (tSt K S s) := ixD_ok K S s start t e2
          have g3 : fRet (fCall 2 (lev Nn mm (n + 2) i__numbered) [] (fCons (fB1 (o1 lstR) (fCons (fV 3) fNil)) (fCons (f2 oIx (fV 2) (fV 1)) fNil))) (tEv rw (tgD start) S [] y5 y6 y7 y8 y9) (tSt K S s) = .rt (.d (.tuple (rs.map (rwD f)))) (tSt K S s) := by
            unfold fRet fCall
            simp only [fCons, fNil, g1, g2, Res.bind]
            show Res.toOut (lev Nn mm (n + 2) i__numbered [.d (.list (s.2.map (rwD f))), .d (tgD t)] (tSt K S s)) _ _ = _
            rw [hn]
            rfl
          have hb : m_tidied (lev Nn mm (n + 2)) [some rw, some (.d (tgD start)), none, none, none, none, none, none, none, none] S = .rt (.d (.tuple (rs.map (rwD f)))) (tSt K S s) := by
            unfold m_tidied
            rw [seq_nx a1, seq_nx a2, seq_nx a3, seq_nx hw]
            exact g3
          have hd := fdef_d (k := 10) (b := m_tidied (lev Nn mm (n + 2))) (ws := [rw, .d (tgD start)]) (S := S) hb
          rw [show (tSt K S s).take S.length = S by simp [tSt]] at hd
          exact hd
end
end G61

set_option linter.all false
set_option maxHeartbeats 1000000
/-! machines as plain lists: what the defs of machines.py give -/
namespace PC
open PySem FL
inductive Ins (N : Type) where
  | go (t : Tg)
  | jmp (x : N) (y : Bool) (t : Tg)
deriving DecidableEq
def tgOk (k : Nat) : Tg → Bool
  | .row i => decide (i < k)
  | _ => true
section
variable {N : Type} [DecidableEq N]
def Ins.tg : Ins N → Tg
  | .go t => t
  | .jmp _ _ t => t
def Ins.nm : Ins N → Option N
  | .go _ => none
  | .jmp x _ _ => some x
def Ins.isGo : Ins N → Bool
  | .go _ => true
  | _ => false
def insD (f : N → PyData) : Ins N → PyData
  | .go t => .tuple [.str "goto", tgD t]
  | .jmp x y t => .tuple [.str "jump", f x, .str (if y then "yes" else "no"), tgD t]
def fO (f : N → PyData) : Option N → PyData
  | none => .none
  | some x => f x
def rowI (behind : Nat) : Ins N → Rw (Option N)
  | .go t => (none, t, t)
  | .jmp x true t => (some x, t, .row behind)
  | .jmp x false t => (some x, .row behind, t)
def rowsP (ms : List (Ins N)) : List (Rw (Option N)) := (ms.zipIdx 1).map fun p => rowI p.2 p.1
/-- the different ones, in the order of first meeting -/
def ddN (l : List N) : List N := l.foldl (fun acc x => if x ∈ acc then acc else acc ++ [x]) []
def fitsP (rows : List (Rw N)) : Bool := decide (rows.length ≤ 60) && decide ((ddN (rows.map (·.1))).length ≤ 8)
def rowOk (k : Nat) (r : Rw N) : Bool := tgOk k r.2.1 && tgOk k r.2.2
def lastGo (ms : List (Ins N)) : Bool := match ms.getLast? with
  | some i => i.isGo
  | none => false
def isMachP (ms : List (Ins N)) : Option Bool :=
  if ms.length = 0 ∨ 120 < ms.length then some false else
  if (ms.all fun i => tgOk ms.length i.tg) = false ∨ lastGo ms = false then some false else
  if 8 < (ddN (ms.filterMap Ins.nm)).length then some false else
  (tidP (rowsP ms) (.row 0)).map Option.isSome
def isCodeP (rows : List (Rw N)) : Option Bool :=
  if rows.length = 0 then some false else
  if (rows.all (rowOk rows.length)) = false then some false else
  if fitsP rows = false then some false else
  (tidP rows (.row 0)).map fun r => decide (r = some rows)
def behP (rows : List (Rw (Option N))) : Nat → Tg → Option Tg
  | 0, _ => none
  | m + 1, .row i => match rows[i]? with
    | some (none, y, _) => behP rows m y
    | some (some _, _, _) => some (.row i)
    | none => none
  | m + 1, t => some t
def noGoP (rows : List (Rw (Option N))) : Option (List (Rw (Option N)) × Tg) :=
  (rows.mapM fun r => (behP rows 100000 r.2.1).bind fun a => (behP rows 100000 r.2.2).map fun b => (r.1, a, b)).bind fun rs => (behP rows 100000 (.row 0)).map fun t => (rs, t)
/-- the code of a machine; none inside: it asks nothing -/
def codeOfP (ms : List (Ins N)) : Option (Option (List (Rw (Option N)))) := (noGoP (rowsP ms)).bind fun p => match p.2 with
  | .row i => (tidP p.1 (.row i)).bind fun r => match r with
    | some rs => if fitsP rs = true ∧ (rs.all fun r => r.1.isSome) = true then some (some rs) else none
    | none => none
  | _ => some none
def putN (l : List (Nat × Nat)) (k v : Nat) : List (Nat × Nat) := if (l.any fun p => decide (p.1 = k)) = true then l.map (fun p => if p.1 = k then (p.1, v) else p) else l ++ [(k, v)]
abbrev FT2 := List (Nat × Nat) × List Nat
def folL (rec : Nat → FT2 → Option (Bool × FT2)) (a : Nat) : List Tg → FT2 → Option (Bool × FT2)
  | [], s => some (false, s)
  | .row t :: ts, s => if t ∈ s.2 then folL rec a ts s else if 1000 ≤ s.2.length ∨ 1000 ≤ s.1.length then none else match s.1.lookup t with
    | none => some (true, putN s.1 t a, s.2 ++ [t])
    | some o => match rec o (s.1, s.2 ++ [t]) with
      | some (true, s2) => if 1000 ≤ s2.1.length then none else some (true, putN s2.1 t a, s2.2)
      | some (false, s2) => folL rec a ts s2
      | none => none
  | _ :: ts, s => folL rec a ts s
def folP (rows : List (Rw N)) : Nat → Nat → FT2 → Option (Bool × FT2)
  | 0, _, _ => none
  | m + 1, a, s => match rows[a]? with
    | some r => folL (folP rows m) a [r.2.1, r.2.2] s
    | none => none
/-- targets and their rows -/
def folsP (rows : List (Rw N)) (d : Nat) : Option (List (Nat × Nat)) := (List.range rows.length).foldlM (fun fd a => (folP rows d a (fd, [])).map fun r => r.2.1) []
def swapP (l : List (Nat × Nat)) : List (Nat × Nat) := l.foldl (fun acc p => putN acc p.2 p.1) []
def chainP (fl : List (Nat × Nat)) : Nat → Nat → Nat → List (Nat × Nat) → Option (Nat × List (Nat × Nat))
  | 0, _, _, _ => none
  | m + 1, a, k, pl => match fl.lookup a with
    | some b => if 1000 ≤ pl.length then none else chainP fl m b (k + 1) (putN pl b (k + 1))
    | none => some (k, pl)
def placesP (n : Nat) (fl : List (Nat × Nat)) : Option (List (Nat × Nat)) :=
  (((List.range n).filter fun a => !decide (a ∈ fl.map (·.2))).foldlM (fun (s : Nat × List (Nat × Nat)) a => if 1000 ≤ s.2.length then none else (chainP fl 100000 a s.1 (putN s.2 a s.1)).map fun r => (r.1 + 2, r.2)) (0, [])).map (·.2)
def getT (pl : List (Nat × Nat)) : Tg → Tg
  | .row i => match pl.lookup i with
    | some k => .row k
    | none => .row i
  | t => t
def pieceP (fl pl : List (Nat × Nat)) (a : Nat) (r : Rw N) : List (Ins N) :=
  (match fl.lookup a with
   | some b => if r.2.1 = .row b then [.jmp r.1 false (getT pl r.2.2)] else [.jmp r.1 true (getT pl r.2.1)]
   | none => [.jmp r.1 true (getT pl r.2.1), .go (getT pl r.2.2)])
def machP (rows : List (Rw N)) (fl pl : List (Nat × Nat)) : Option (List (Ins N)) := (pl.map (·.1)).foldlM (fun acc a => if 1000 ≤ acc.length then none else (rows[a]?).map fun r => acc ++ pieceP fl pl a r) []
end
end PC

set_option linter.all false
set_option maxHeartbeats 4000000
set_option maxRecDepth 100000
namespace G61
open FL PySem L2 PC
theorem kit_ib : kitB "int" "bool" = some false := by decide +kernel
theorem target_ok (n : Nat) (S : So) (t : Tg) (k : Nat) : lev Nn mm (n + 1) i_is_target [.d (tgD t), .d (.int (k : Nat))] S = .ok (.d (.bool (tgOk k t))) S := by
  show fDef 2 (m_is_target (lev Nn mm n)) [.d (tgD t), .d (.int (k : Nat))] S = _
  cases t with
  | yes =>
    have h : m_is_target (lev Nn mm n) [some (.d (tgD .yes)), some (.d (.int (k : Nat)))] S = .rt (.d (.bool true)) S := by kernel_rfl
    have hd := fdef_d (k := 2) (b := m_is_target (lev Nn mm n)) (ws := [.d (tgD .yes), .d (.int (k : Nat))]) (S := S) h
    rw [List.take_length] at hd
    exact hd
  | no =>
    have h : m_is_target (lev Nn mm n) [some (.d (tgD .no)), some (.d (.int (k : Nat)))] S = .rt (.d (.bool true)) S := by kernel_rfl
    have hd := fdef_d (k := 2) (b := m_is_target (lev Nn mm n)) (ws := [.d (tgD .no), .d (.int (k : Nat))]) (S := S) h
    rw [List.take_length] at hd
    exact hd
  | row i =>
    have h : m_is_target (lev Nn mm n) [some (.d (tgD (.row i))), some (.d (.int (k : Nat)))] S = .rt (.d (.bool (decide (i < k)))) S := by
      unfold m_is_target
      have c1 : fAndT (fTr (fIsi "int" (fV 0))) (fNotT (fTr (fIsi "bool" (fV 0)))) [some (.d (tgD (.row i))), some (.d (.int (k : Nat)))] S = .ok true S := by
        simp [fAndT, fTr, fIsi, fV, tgD, tyW, kit_ii, kit_ib, tru]
      have c2 : fRet (fChain cLe cLt (fC (.int 0)) (fV 0) (fV 1)) [some (.d (tgD (.row i))), some (.d (.int (k : Nat)))] S = .rt (.d (.bool (decide (i < k)))) S := by
        simp [fChain, fC, fV, tgD, cLe, cLt, oI, asI, asB, Res.toOut]
      refine seq_rt ?_
      unfold fIfS
      rw [c1]
      exact c2
    have hd := fdef_d (k := 2) (b := m_is_target (lev Nn mm n)) (ws := [.d (tgD (.row i)), .d (.int (k : Nat))]) (S := S) h
    rw [List.take_length] at hd
    exact hd
end G61

set_option linter.all false
set_option maxHeartbeats 4000000
set_option maxRecDepth 100000
namespace FL
open PySem L2
theorem len_tup (xs : List PyData) (S : So) : lenW (.d (.tuple xs)) S = .ok (.d (.int (xs.length : Nat))) S := rfl
theorem len_lst (xs : List PyData) (S : So) : lenW (.d (.list xs)) S = .ok (.d (.int (xs.length : Nat))) S := rfl
theorem eqv_str (a b : Str) : PyData.eqv (.str a) (.str b) = decide (a = b) := by
  have e : PyData.eqv (.str a) (.str b) = (a == b) := by simp [PyData.eqv]
  rw [e]
  by_cases h : a = b
  · subst h; simp
  · simp [h]
theorem all_bools {α : Type} (g : α → Bool) : ∀ l : List α, bools (l.map fun x => PyData.bool (g x)) = some (l.map g)
  | [] => rfl
  | x :: l => by
    rw [List.map_cons, bools, all_bools g l]
    rfl
/-- all([.. for ..]) -/
theorem all_ok {α : Type} (g : α → Bool) (l : List α) (S : So) : allW (.d (.list (l.map fun x => PyData.bool (g x)))) S = .ok (.d (.bool (l.all g))) S := by
  unfold allW
  show (match bools (l.map fun x => PyData.bool (g x)) with | some bs => Res.ok (W.d (.bool (bs.all id))) S | none => .no) = _
  rw [all_bools]
  simp [List.all_map]
section
variable {ev : Ev} {S S1 S2 : So}
theorem orT_b {ta tb : FT} {a b : Bool} (ha : ta ev S = .ok a S) (hb : a = false → tb ev S = .ok b S) : fOrT ta tb ev S = .ok (a || b) S := by
  unfold fOrT
  rw [ha]
  cases a
  · exact hb rfl
  · rfl
theorem andT_b {ta tb : FT} {a b : Bool} (ha : ta ev S = .ok a S) (hb : a = true → tb ev S = .ok b S) : fAndT ta tb ev S = .ok (a && b) S := by
  unfold fAndT
  rw [ha]
  cases a
  · rfl
  · exact hb rfl
theorem notT_ok {ta : FT} {a : Bool} (ha : ta ev S = .ok a S1) : fNotT ta ev S = .ok (!a) S1 := by
  unfold fNotT
  rw [ha]
  rfl
theorem tr_ok {f : FE} {w : W} {b : Bool} (hf : f ev S = .ok w S1) (hb : tru w S1 = some b) : fTr f ev S = .ok b S1 := by
  unfold fTr
  rw [hf]
  show (match tru w S1 with | some b => Res.ok b S1 | none => .no) = _
  rw [hb]
theorem tr_b {f : FE} {b : Bool} (hf : f ev S = .ok (.d (.bool b)) S1) : fTr f ev S = .ok b S1 := tr_ok hf rfl
theorem fB_ok {f : FE} {b : Bool} (hf : f ev S = .ok (.d (.bool b)) S1) : fB f ev S = .ok b S1 := by
  unfold fB
  rw [hf]
  rfl
theorem b1_ok {op : List W → So → Res W} {fa : FA} {ws : List W} (ha : fa ev S = .ok ws S1) : fB1 op fa ev S = op ws S1 := by
  unfold fB1
  rw [ha]
  rfl
theorem f1_ok {op : W → So → Res W} {fa : FE} {x : W} (ha : fa ev S = .ok x S1) : f1 op fa ev S = op x S1 := by
  unfold f1
  rw [ha]
  rfl
theorem ifS_t {t : FT} {f g : FS} (h : t ev S = .ok true S1) : fIfS t f g ev S = f ev S1 := by
  unfold fIfS
  rw [h]
  rfl
theorem ifS_f {t : FT} {f g : FS} (h : t ev S = .ok false S1) : fIfS t f g ev S = g ev S1 := by
  unfold fIfS
  rw [h]
  rfl
theorem seq_iff {t : FT} {f g : FS} (h : t ev S = .ok false S1) : fSeq (fIfS t f fNext) g ev S = g ev S1 := by
  refine (seq_nx (e1 := ev) (S1 := S1) ?_)
  rw [ifS_f h]
  rfl
theorem seq_ift {t : FT} {f g : FS} {w : W} (h : t ev S = .ok true S1) (hr : f ev S1 = .rt w S2) : fSeq (fIfS t f fNext) g ev S = .rt w S2 := by
  refine seq_rt ?_
  rw [ifS_t h]
  exact hr
theorem callD_ok {k : Nat} {g : List W → So → Res W} {dws : List W} {fa : FA} {ws : List W} {r : Res W} (ha : fa ev S = .ok ws S1) (hk : (ws ++ dws).length = k) (hg : g (ws ++ dws) S1 = r) : fCall k g dws fa ev S = r := by
  unfold fCall
  rw [ha]
  show (if (ws ++ dws).length = k then g (ws ++ dws) S1 else .no) = r
  rw [if_pos hk, hg]
theorem tup_ok {fa : FA} {ws : List W} {ds : List PyData} (ha : fa ev S = .ok ws S1) (hd : allD ws = some ds) (hl : ds.length ≤ 1000) : fTup fa ev S = .ok (.d (.tuple ds)) S1 := by
  unfold fTup
  rw [ha]
  show (match allD ws with | some ds => _ | none => _) = _
  rw [hd]
  exact if_pos (by rw [sizeLine_eq]; omega)
theorem whl_f {t : FT} {b : FS} {m : Nat} (h : t ev S = .ok false S1) : whl t b (m + 1) ev S = .nx ev S1 := by
  unfold whl
  rw [h]
  rfl
theorem whl_t {t : FT} {b : FS} {m : Nat} {e2 : Ev} (h : t ev S = .ok true S1) (hb : b ev S1 = .nx e2 S2) : whl t b (m + 1) ev S = whl t b m e2 S2 := by
  conv => lhs; unfold whl
  rw [h]
  show (match b ev S1 with | .nx e2 S2 => whl t b m e2 S2 | .ct e2 S2 => whl t b m e2 S2 | .bk e2 S2 => .nx e2 S2 | r => r) = _
  rw [hb]
theorem asg_ok {g : FG} {fa : FE} {w : W} {e1 : Ev} (h : fa ev S = .ok w S1) (hg : g w ev = some e1) : fAsg g fa ev S = .nx e1 S1 := by
  unfold fAsg
  rw [h]
  show (match g w ev with | some e' => Out.nx e' S1 | none => Out.no) = _
  rw [hg]
theorem ret_ok {f : FE} {w : W} (h : f ev S = .ok w S1) : fRet f ev S = .rt w S1 := by
  unfold fRet
  rw [h]
  rfl
theorem drop_ok {f : FE} {w : W} (h : f ev S = .ok w S1) : fDrop f ev S = .nx ev S1 := by
  unfold fDrop
  rw [h]
  rfl
theorem and_ok {fa fb : FE} {a b : Bool} (ha : fa ev S = .ok (.d (.bool a)) S) (hb : a = true → fb ev S = .ok (.d (.bool b)) S) : fAnd fa fb ev S = .ok (.d (.bool (a && b))) S := by
  unfold fAnd
  rw [ha]
  cases a
  · rfl
  · exact hb rfl
theorem if_t {t : FT} {f g : FE} (h : t ev S = .ok true S1) : fIf t f g ev S = f ev S1 := by
  unfold fIf
  rw [h]
  rfl
theorem if_f {t : FT} {f g : FE} (h : t ev S = .ok false S1) : fIf t f g ev S = g ev S1 := by
  unfold fIf
  rw [h]
  rfl
theorem lc_e {fi : FI} {g : FG} {t : FT} {te : FE} {vs : List Nat} {ds ys : List PyData} (h : fi ev S = .ok ds S) (hl : lcL g t te (wipeE ev vs) ds S [] = .ok ys S) : fLc fi g t te vs ev S = .ok (.d (.list ys)) S := by
  unfold fLc
  rw [h]
  show Res.bind (lcL _ _ _ _ _ _ _) _ = _
  rw [hl]
  rfl
theorem items_ok {f : FE} {w : W} {ds : List PyData} (h : f ev S = .ok w S1) (hi : itemsW w = some ds) : fItems f ev S = .ok ds S1 := by
  unfold fItems
  rw [h]
  show (match itemsW w with | some ds => Res.ok ds S1 | none => .no) = _
  rw [hi]
theorem len_ok {f : FE} {w : W} {k : Nat} (h : f ev S = .ok w S) (hl : lenW w S = .ok (.d (.int (k : Nat))) S) : fB1 oLen (fCons f fNil) ev S = .ok (.d (.int (k : Nat))) S := by
  rw [b1_ok (cons_ok h rfl)]
  exact hl
end
theorem dec_le (a b : Nat) : decide ((a : Int) ≤ (b : Nat)) = decide (a ≤ b) := by
  by_cases c : a ≤ b
  · rw [decide_eq_true c, decide_eq_true (by omega)]
  · rw [decide_eq_false c, decide_eq_false (by omega)]
theorem dec_lt8 (a : Nat) : decide ((8 : Int) < (a : Nat)) = decide (8 < a) := by
  by_cases c : 8 < a
  · rw [decide_eq_true c, decide_eq_true (by omega)]
  · rw [decide_eq_false c, decide_eq_false (by omega)]
theorem cLe_ii (a b : Int) (S : So) : cLe (.d (.int a)) (.d (.int b)) S = .ok (.d (.bool (decide (a ≤ b)))) S := by simp [cLe]
end FL
namespace G61
open FL PySem L2 PC
section
variable {N : Type} [DecidableEq N] {f : N → PyData}
/-- these are names -/
def Nam (f : N → PyData) : Prop := ∀ (x : N) (n : Nat) (S : So), lev Nn mm (n + 1) i_is_name [.d (f x)] S = .ok (.d (.bool true)) S
theorem def_rt {i n : Nat} {ws : List W} {S : So} {x : PyData} (h : mm i (lev Nn mm n) (ws.map some ++ List.replicate (Nn i - ws.length) none) S = .rt (.d x) S) : lev Nn mm (n + 1) i ws S = .ok (.d x) S := by
  have hd := fdef_d (k := Nn i) (b := mm i (lev Nn mm n)) (ws := ws) (S := S) h
  rw [List.take_length] at hd
  exact hd
theorem row_ok (Hn : Nam f) (n : Nat) (S : So) (r : Rw N) (k : Nat) : lev Nn mm (n + 2) i__is_row [.d (rwD f r), .d (.int (k : Nat))] S = .ok (.d (.bool (rowOk k r))) S := by
  refine def_rt (n := n + 1) ?_
  show m__is_row (lev Nn mm (n + 1)) [some (.d (rwD f r)), some (.d (.int (k : Nat))), none, none, none] S = _
  have h1 := Hn r.1 n S
  have h2 := target_ok n S r.2.1 k
  have h3 := target_ok n S r.2.2 k
  unfold m__is_row
  rw [seq_nx (e1 := [some (.d (rwD f r)), some (.d (.int (k : Nat))), none, none, none]) (S1 := S) (by
    simp [rwD, fIsi, tyW, kit_tt, tru, oLen, lenW, seqW, cNe, oEq, toP, PyData.plain, PyData.depth, PyData.eqv, asB])]
  rw [seq_nx (e1 := [some (.d (rwD f r)), some (.d (.int (k : Nat))), some (.d (f r.1)), some (.d (tgD r.2.1)), some (.d (tgD r.2.2))]) (S1 := S) (by rfl)]
  simp [fAnd, h1, h2, h3, asB]
  unfold rowOk
  cases tgOk k r.2.1 <;> simp
end
end G61

set_option linter.all false
set_option maxHeartbeats 4000000
set_option maxRecDepth 100000
namespace G61
open FL PySem L2 PC
section
variable {N : Type} [DecidableEq N] {f : N → PyData}
/-- names are texts -/
structure Stg (f : N → PyData) where
  s : N → Str
  e : ∀ x, f x = .str (s x)
  i : ∀ x y, s x = s y → x = y
def Stg.K (T : Stg f) : NmK N f := ⟨fun x => .text (T.s x), fun x => by rw [T.e]; rfl, fun x => by rw [T.e]; rfl, fun x y h => T.i x y (by injection h)⟩
def Stg.KO (T : Stg f) : NmK (Option N) (fO f) := ⟨fun x => match x with | none => .none | some x => .text (T.s x), fun x => by cases x with | none => rfl | some x => (show atomK (f x) = _); rw [T.e]; rfl,
  fun x => by cases x with | none => rfl | some x => (show _ = f x); rw [T.e]; rfl,
  fun x y h => by
    cases x <;> cases y
    · rfl
    · cases h
    · cases h
    · injection h with h
      rw [T.i _ _ h]⟩
/-- names as data -/
structure NmF (f : N → PyData) : Prop where
  eq : ∀ x y, PyData.eqv (f x) (f y) = decide (x = y)
  pl : ∀ x, (f x).plain = true
  dp : ∀ x, (f x).depth ≤ 1
theorem Stg.F (T : Stg f) : NmF f := ⟨fun x y => by
    rw [T.e, T.e, eqv_str]
    by_cases h : x = y
    · rw [h, decide_eq_true rfl, decide_eq_true rfl]
    · rw [decide_eq_false h, decide_eq_false (fun z => h (T.i _ _ z))], fun x => by rw [T.e]; rfl, fun x => by rw [T.e]; exact (by decide : (0:Nat) ≤ 1)⟩
theorem Stg.FO (T : Stg f) : NmF (fO f) := ⟨fun x y => by
    cases x with
    | none => cases y with
      | none => rfl
      | some y => (show PyData.eqv .none (f y) = _); rw [T.e]; rfl
    | some x => cases y with
      | none => (show PyData.eqv (f x) .none = _); rw [T.e]; rfl
      | some y => (show PyData.eqv (f x) (f y) = _); rw [T.F.eq]; simp, fun x => by
    cases x with
    | none => rfl
    | some x => exact T.F.pl x, fun x => by
    cases x with
    | none => exact (by decide : (0:Nat) ≤ 1)
    | some x => exact T.F.dp x⟩
theorem eqv_tg (a b : Tg) : PyData.eqv (tgD a) (tgD b) = decide (a = b) := by
  cases a <;> cases b <;> simp [tgD, PyData.eqv]
  · rename_i i j
    by_cases h : i = j
    · subst h; simp
    · simp [h]; omega
theorem tg_pl (a : Tg) : (tgD a).plain = true := by cases a <;> rfl
theorem tg_dp (a : Tg) : (tgD a).depth ≤ 1 := by cases a <;> exact (by decide : (0:Nat) ≤ 1)
variable (F : NmF f)
include F
theorem eqv_row (a b : Rw N) : PyData.eqv (rwD f a) (rwD f b) = decide (a = b) := by
  obtain ⟨a1, a2, a3⟩ := a
  obtain ⟨b1, b2, b3⟩ := b
  simp only [rwD, PyData.eqv, PyData.eqvAll, F.eq, eqv_tg, Bool.and_true, Prod.mk.injEq]
  by_cases h1 : a1 = b1 <;> by_cases h2 : a2 = b2 <;> by_cases h3 : a3 = b3 <;> simp [h1, h2, h3]
theorem eqv_rowsL : ∀ a b : List (Rw N), PyData.eqvAll (a.map (rwD f)) (b.map (rwD f)) = decide (a = b)
  | [], [] => rfl
  | [], _ :: _ => rfl
  | _ :: _, [] => rfl
  | x :: a, y :: b => by
    rw [List.map_cons, List.map_cons, PyData.eqvAll, eqv_row F, eqv_rowsL a b]
    by_cases h1 : x = y <;> by_cases h2 : a = b <;> simp [h1, h2]
theorem eqv_rows (a b : List (Rw N)) : PyData.eqv (.tuple (a.map (rwD f))) (.tuple (b.map (rwD f))) = decide (a = b) := eqv_rowsL F a b
theorem row_pl (r : Rw N) : (rwD f r).plain = true := by simp [rwD, PyData.plain, PyData.plainAll, F.pl, tg_pl]
theorem row_dp (r : Rw N) : (rwD f r).depth ≤ 3 := by
  have h1 := F.dp r.1
  have h2 := tg_dp r.2.1
  have h3 := tg_dp r.2.2
  simp only [rwD, PyData.depth, PyData.depthAll]
  omega
theorem rows_pl : ∀ l : List (Rw N), PyData.plainAll (l.map (rwD f)) = true
  | [] => rfl
  | r :: l => by rw [List.map_cons, PyData.plainAll, row_pl F, rows_pl l]; rfl
theorem rows_dp : ∀ l : List (Rw N), PyData.depthAll (l.map (rwD f)) ≤ 3
  | [] => by simp [PyData.depthAll]
  | r :: l => by
    have h1 := row_dp F r
    have h2 := rows_dp l
    rw [List.map_cons, PyData.depthAll]
    omega
theorem tup_pl (l : List (Rw N)) : (PyData.tuple (l.map (rwD f))).plain = true := rows_pl F l
theorem tup_dp (l : List (Rw N)) : (PyData.tuple (l.map (rwD f))).depth ≤ 150 := by
  have := rows_dp F l
  rw [PyData.depth]
  omega
/-- a code, or None, against a code -/
theorem eq_tid (o : Option (List (Rw N))) (rows : List (Rw N)) (S : So) : cEq (tidW f o) (.d (.tuple (rows.map (rwD f)))) S = .ok (.d (.bool (decide (o = some rows)))) S := by
  cases o with
  | none =>
    unfold cEq oEq tidW
    simp only [toP]
    rw [if_pos ⟨rfl, tup_pl F rows, by decide⟩]
    rfl
  | some rs =>
    unfold cEq oEq tidW
    simp only [toP]
    rw [if_pos ⟨tup_pl F rs, tup_pl F rows, tup_dp F rs⟩, eqv_rows F]
    simp
end
section
variable {N : Type} [DecidableEq N]
/-! the number of different names -/
theorem scL_map {α : Type} {g : FG} {t : FT} {te : FE} {ev0 : Ev} {S : So} {dt : α → PyData} {p : α → Bool} {k : α → Key} : ∀ (xs : List α) (acc : List Key), (∀ x, x ∈ xs → ∃ e1, g (.d (dt x)) ev0 = some e1 ∧ t e1 S = .ok (p x) S ∧ (p x = true → ∃ w, te e1 S = .ok w S ∧ asKey w = some (k x))) →
    scL g t te ev0 (xs.map dt) S acc = .ok (((xs.filter p).map k).foldl keyPut acc) S
  | [], acc, _ => rfl
  | x :: xs, acc, h => by
    obtain ⟨e1, h1, h2, h3⟩ := h x List.mem_cons_self
    rw [List.map_cons]
    unfold scL
    rw [h1]
    dsimp only
    rw [h2]
    cases e : p x with
    | false =>
      dsimp only
      rw [if_pos rfl, scL_map xs acc (fun y hy => h y (List.mem_cons_of_mem _ hy)), List.filter_cons, e, if_neg Bool.false_ne_true]
    | true =>
      obtain ⟨w, h4, h5⟩ := h3 e
      dsimp only
      rw [h4]
      dsimp only
      rw [h5]
      dsimp only
      rw [if_pos rfl, scL_map xs _ (fun y hy => h y (List.mem_cons_of_mem _ hy)), List.filter_cons, e, if_pos rfl, List.map_cons, List.foldl_cons]
def ddS (acc : List N) (x : N) : List N := if x ∈ acc then acc else acc ++ [x]
theorem keyPut_dd (k : N → Key) (inj : ∀ x y, k x = k y → x = y) : ∀ (l acc : List N), (l.map k).foldl keyPut (acc.map k) = (l.foldl ddS acc).map k
  | [], _ => rfl
  | x :: l, acc => by
    have e : keyPut (acc.map k) (k x) = (ddS acc x).map k := by
      unfold keyPut ddS
      have e1 : ((acc.map k).any fun j => decide (j = k x)) = decide (x ∈ acc) := by
        rw [Bool.eq_iff_iff, List.any_eq_true, decide_eq_true_eq]
        constructor
        · rintro ⟨j, hj, z⟩
          obtain ⟨y, hy, rfl⟩ := List.mem_map.mp hj
          rw [← inj _ _ (of_decide_eq_true z)]
          exact hy
        · intro hx
          exact ⟨k x, List.mem_map.mpr ⟨x, hx, rfl⟩, decide_eq_true rfl⟩
      rw [e1]
      by_cases c : x ∈ acc
      · rw [decide_eq_true c, if_pos rfl, if_pos c]
      · rw [decide_eq_false c, if_neg Bool.false_ne_true, if_neg c, List.map_append]
        rfl
    rw [List.map_cons, List.foldl_cons, e, keyPut_dd k inj l, List.foldl_cons]
end
end G61

set_option linter.all false
set_option maxHeartbeats 4000000
set_option maxRecDepth 100000
namespace G61
open FL PySem L2 PC
section
variable {N : Type} [DecidableEq N] {f : N → PyData}
/-- how names lie as keys -/
structure NKey (f : N → PyData) (ok : N → Prop) where
  k : N → Key
  a : ∀ x, ok x → asKey (.d (f x)) = some (k x)
  i : ∀ x y, k x = k y → x = y
def Stg.NK (T : Stg f) : NKey f (fun _ => True) := ⟨fun x => .inr (T.s x), fun x _ => by rw [T.e]; rfl, fun x y h => T.i _ _ (by injection h)⟩
def Stg.NKO (T : Stg f) : NKey (fO f) (fun x => x ≠ none) := ⟨fun x => match x with | none => .inl 0 | some x => .inr (T.s x), fun x hx => by
    cases x with
    | none => exact absurd rfl hx
    | some x => (show asKey (.d (f x)) = _); rw [T.e]; rfl, fun x y h => by
    cases x <;> cases y
    · rfl
    · cases h
    · cases h
    · injection h with h
      rw [T.i _ _ h]⟩
theorem fits_ok {okN : N → Prop} (Q : NKey f okN) (n : Nat) (S : So) (rows : List (Rw N)) (hk : ∀ r ∈ rows, okN r.1) (few : rows.length ≤ 1000) :
    lev Nn mm (n + 1) i__fits [.d (.tuple (rows.map (rwD f)))] S = .ok (.d (.bool (fitsP rows))) S := by
  refine def_rt (n := n) ?_
  show m__fits (lev Nn mm n) [some (.d (.tuple (rows.map (rwD f)))), none] S = _
  have h1 : f2 cLe (fB1 oLen (fCons (fV 0) fNil)) (fC (sg.gdt 4)) [some (.d (.tuple (rows.map (rwD f)))), none] S = .ok (.d (.bool (decide (rows.length ≤ 60)))) S := by
    have z : fB1 oLen (fCons (fV 0) fNil) [some (.d (.tuple (rows.map (rwD f)))), none] S = .ok (.d (.int (rows.length : Nat))) S := by
      show lenW (.d (.tuple (rows.map (rwD f)))) S = _
      rw [len_tup, List.length_map]
    rw [f2_ok z rfl]
    show cLe _ (.d (.int 60)) S = _
    rw [cLe_ii]
    have : decide (((rows.length : Nat) : Int) ≤ 60) = decide (rows.length ≤ 60) := by
      by_cases c : rows.length ≤ 60
      · rw [decide_eq_true c, decide_eq_true (by omega)]
      · rw [decide_eq_false c, decide_eq_false (by omega)]
    rw [this]
  have h2 : f2 cLe (fLenSc (fItems (fV 0)) (gNm 1) fYes (f2 oIx (fV 1) (fC (.int 0))) [1]) (fC (sg.gdt 0)) [some (.d (.tuple (rows.map (rwD f)))), none] S = .ok (.d (.bool (decide ((ddN (rows.map (·.1))).length ≤ 8)))) S := by
    have z1 := scL_map (g := gNm 1) (t := fYes) (te := f2 oIx (fV 1) (fC (.int 0))) (ev0 := [some (.d (.tuple (rows.map (rwD f)))), none]) (S := S) (dt := rwD f) (p := fun _ => true) (k := fun r : Rw N => Q.k r.1) rows []
      (fun r hr => ⟨[some (.d (.tuple (rows.map (rwD f)))), some (.d (rwD f r))], rfl, rfl, fun _ => ⟨.d (f r.1), (show oIx (.d (rwD f r)) (.d (.int 0)) S = _ from FL.ix_tup _ _ _), Q.a r.1 (hk r hr)⟩⟩)
    have z2 : (rows.filter fun _ => true) = rows := by simp
    have z3 : (rows.map fun r : Rw N => Q.k r.1) = (rows.map (·.1)).map Q.k := by rw [List.map_map]; rfl
    have z4 := keyPut_dd Q.k Q.i (rows.map (·.1)) []
    rw [z2, z3] at z1
    rw [List.map_nil] at z4
    rw [z4] at z1
    have z5 : fLenSc (fItems (fV 0)) (gNm 1) fYes (f2 oIx (fV 1) (fC (.int 0))) [1] [some (.d (.tuple (rows.map (rwD f)))), none] S = .ok (.d (.int ((ddN (rows.map (·.1))).length : Nat))) S := by
      unfold fLenSc
      show (if (rows.map (rwD f)).length ≤ 1000 then Res.bind (scL _ _ _ _ _ _ _) _ else _) = _
      rw [if_pos (by rw [List.length_map]; exact few)]
      show Res.bind (scL (gNm 1) fYes (f2 oIx (fV 1) (fC (.int 0))) [some (.d (.tuple (rows.map (rwD f)))), none] (rows.map (rwD f)) S []) _ = _
      rw [z1]
      show Res.ok (W.d (.int (List.length _))) S = _
      rw [List.length_map]
      rfl
    rw [f2_ok z5 rfl]
    show cLe _ (.d (.int 8)) S = _
    rw [cLe_ii]
    have : ∀ j : Nat, decide ((j : Int) ≤ 8) = decide (j ≤ 8) := fun j => by
      by_cases c : j ≤ 8
      · rw [decide_eq_true c, decide_eq_true (by omega)]
      · rw [decide_eq_false c, decide_eq_false (by omega)]
    rw [this]
  unfold m__fits fRet
  rw [and_ok h1 (fun _ => h2)]
  rfl
theorem tru_tup (xs : List PyData) (S : So) : tru (.d (.tuple xs)) S = some (!xs.isEmpty) := rfl
theorem isi_tupT (xs : List PyData) (S : So) (f : FE) (ev : Ev) (h : f ev S = .ok (.d (.tuple xs)) S) : fTr (fIsi "tuple" f) ev S = .ok true S := by
  unfold fTr
  rw [isi_tup xs S f ev h]
  rfl
theorem code_ok (T : Stg f) (Hn : Nam f) (n : Nat) (S : So) (rows : List (Rw N)) (few : rows.length ≤ 1000) (b : Bool) (h : isCodeP rows = some b) :
    lev Nn mm (n + 4) i_is_code [.d (.tuple (rows.map (rwD f)))] S = .ok (.d (.bool b)) S := by
  refine def_rt (n := n + 3) ?_
  show m_is_code (lev Nn mm (n + 3)) [some (.d (.tuple (rows.map (rwD f)))), none] S = _
  generalize hev : [some (W.d (.tuple (rows.map (rwD f)))), none] = ev
  have v0 : ∀ S, fV 0 ev S = .ok (.d (.tuple (rows.map (rwD f)))) S := fun S => by rw [← hev]; rfl
  unfold isCodeP at h
  have c1 : fOrT (fNotT (fTr (fIsi "tuple" (fV 0)))) (fNotT (fTr (fV 0))) ev S = .ok (decide (rows.length = 0)) S := by
    have z := orT_b (notT_ok (isi_tupT _ S _ _ (v0 S))) (fun _ => notT_ok (tr_ok (v0 S) (tru_tup _ _)))
    rw [z]
    cases rows <;> rfl
  unfold m_is_code
  by_cases l0 : rows.length = 0
  · rw [if_pos l0] at h
    cases h
    refine seq_rt ?_
    unfold fIfS
    rw [c1, decide_eq_true l0]
    rfl
  rw [if_neg l0] at h
  rw [seq_nx (e1 := ev) (S1 := S) (by
    unfold fIfS
    rw [c1, decide_eq_false l0]
    rfl)]
  have lq : fB1 oLen (fCons (fV 0) fNil) ev S = .ok (.d (.int (rows.length : Nat))) S := by
    show ((fCons (fV 0) fNil) ev S).bind oLen = _
    rw [cons_ok (v0 S) rfl]
    show lenW (.d (.tuple (rows.map (rwD f)))) S = _
    rw [len_tup, List.length_map]
  have c2 : fTr (fB1 (o1 allW) (fCons (fLc (fItems (fV 0)) (gNm 1) fYes (fCall 2 (lev Nn mm (n + 3) i__is_row) [] (fCons (fV 1) (fCons (fB1 oLen (fCons (fV 0) fNil)) fNil))) [1]) fNil)) ev S = .ok (rows.all (rowOk rows.length)) S := by
    have z1 := lcL_map (g := gNm 1) (te := fCall 2 (lev Nn mm (n + 3) i__is_row) [] (fCons (fV 1) (fCons (fB1 oLen (fCons (fV 0) fNil)) fNil))) (ev0 := ev) (S := S) (dt := rwD f) (f := fun r => .bool (rowOk rows.length r)) rows []
      (fun r _ => ⟨[some (.d (.tuple (rows.map (rwD f)))), some (.d (rwD f r))], by rw [← hev]; rfl, by
        have w0 : ∀ S, fV 0 [some (.d (.tuple (rows.map (rwD f)))), some (.d (rwD f r))] S = .ok (.d (.tuple (rows.map (rwD f)))) S := fun S => rfl
        have w1 : ∀ S, fV 1 [some (.d (.tuple (rows.map (rwD f)))), some (.d (rwD f r))] S = .ok (.d (rwD f r)) S := fun S => rfl
        have wl : fB1 oLen (fCons (fV 0) fNil) [some (.d (.tuple (rows.map (rwD f)))), some (.d (rwD f r))] S = .ok (.d (.int (rows.length : Nat))) S := by
          show ((fCons (fV 0) fNil) _ S).bind oLen = _
          rw [cons_ok (w0 S) rfl]
          show lenW (.d (.tuple (rows.map (rwD f)))) S = _
          rw [len_tup, List.length_map]
        exact call_ok (cons_ok (w1 S) (cons_ok wl rfl)) rfl (row_ok Hn (n + 1) S r rows.length)⟩) (by rw [sizeLine_eq]; simp; omega)
    rw [List.nil_append] at z1
    have z2 := lc_e (vs := [1]) (items_ok (v0 S) (ds := rows.map (rwD f)) rfl) (by
      have : wipeE ev [1] = ev := by rw [← hev]; rfl
      rw [this]
      exact z1)
    refine tr_b ?_
    rw [b1_ok (cons_ok z2 rfl)]
    exact all_ok _ _ _
  cases ra : rows.all (rowOk rows.length) with
  | false =>
    rw [if_pos ra] at h
    cases h
    refine seq_rt ?_
    unfold fIfS fNotT
    rw [c2, ra]
    rfl
  | true =>
    rw [if_neg (by rw [ra]; decide)] at h
    rw [seq_nx (e1 := ev) (S1 := S) (by
      unfold fIfS fNotT
      rw [c2, ra]
      rfl)]
    have c3 : fCall 1 (lev Nn mm (n + 3) i__fits) [] (fCons (fV 0) fNil) ev S = .ok (.d (.bool (fitsP rows))) S := call_ok (cons_ok (v0 S) rfl) rfl (fits_ok T.NK (n + 2) S rows (fun _ _ => trivial) few)
    unfold fRet
    cases ft : fitsP rows with
    | false =>
      rw [if_pos ft] at h
      cases h
      rw [ft] at c3
      rw [and_ok (b := false) c3 (fun z => by cases z)]
      rfl
    | true =>
      rw [if_neg (by rw [ft]; decide)] at h
      rw [ft] at c3
      cases et : tidP rows (.row 0) with
      | none => rw [et] at h; cases h
      | some o =>
        rw [et] at h
        cases h
        have c4 : fCall 2 (lev Nn mm (n + 3) i_tidied) [.d (sg.dwd 0)] (fCons (fV 0) fNil) ev S = .ok (tidW f o) S := by
          unfold fCall
          rw [cons_ok (v0 S) rfl]
          exact tidied_ok T.K (rows_tup f rows) (fun S => by rw [len_tup, List.length_map]) few n S (.row 0) o et
        have c5 : f2 cEq (fCall 2 (lev Nn mm (n + 3) i_tidied) [.d (sg.dwd 0)] (fCons (fV 0) fNil)) (fV 0) ev S = .ok (.d (.bool (decide (o = some rows)))) S := by
          rw [f2_ok c4 (v0 S), eq_tid T.F]
        rw [and_ok c3 (fun _ => c5)]
        rfl
theorem check_code_ok (T : Stg f) (Hn : Nam f) (n : Nat) (S : So) (rows : List (Rw N)) (few : rows.length ≤ 1000) (h : isCodeP rows = some true) :
    lev Nn mm (n + 5) i_check_code [.d (.tuple (rows.map (rwD f)))] S = .ok (.d .none) S := by
  have h1 := code_ok T Hn n S rows few true h
  show fDef 1 (m_check_code (lev Nn mm (n + 4))) _ S = _
  unfold m_check_code
  simp [h1]
  simp [tru]
end
end G61

set_option linter.all false
set_option maxHeartbeats 4000000
set_option maxRecDepth 100000
namespace FL
open PySem L2
theorem eq_ss (a b : Str) (S : So) : cEq (.d (.str a)) (.d (.str b)) S = .ok (.d (.bool (decide (a = b)))) S := by rw [cEq_ss, eqv_str]
theorem eq_nn (a b : Nat) (S : So) : cEq (.d (.int (a : Nat))) (.d (.int (b : Nat))) S = .ok (.d (.bool (decide (a = b)))) S := by
  rw [cEq_ii]
  by_cases c : a = b
  · rw [decide_eq_true c, decide_eq_true (by omega)]
  · rw [decide_eq_false c, decide_eq_false (by omega)]
theorem ne_nn (a b : Nat) (S : So) : cNe (.d (.int (a : Nat))) (.d (.int (b : Nat))) S = .ok (.d (.bool (!decide (a = b)))) S := by
  unfold cNe oEq
  simp [toP, PyData.plain, PyData.depth, PyData.eqv]
  by_cases c : a = b
  · simp [c]
  · simp [c]; omega
end FL
namespace G61
open FL PySem L2 PC
section
variable {N : Type} [DecidableEq N] {f : N → PyData}
theorem ixT0 (a : PyData) (r : List PyData) (S : So) : oIx (.d (.tuple (a :: r))) (.d (.int 0)) S = .ok (.d a) S := FL.ix_tup a r S
theorem ixT1 (a b : PyData) (r : List PyData) (S : So) : oIx (.d (.tuple (a :: b :: r))) (.d (.int 1)) S = .ok (.d b) S := FL.ix_tup1 a b r S
theorem ans_in (y : Bool) (S : So) : cIn (.d (.str (if y then "yes" else "no"))) (.d (sg.gdt 3)) S = .ok (.d (.bool true)) S := by
  cases y <;> kernel_rfl
theorem instr_ok (Hn : Nam f) (n : Nat) (S : So) (i : Ins N) (k : Nat) : lev Nn mm (n + 2) i__is_instruction [.d (insD f i), .d (.int (k : Nat))] S = .ok (.d (.bool (tgOk k i.tg))) S := by
  refine def_rt (n := n + 1) ?_
  show m__is_instruction (lev Nn mm (n + 1)) [some (.d (insD f i)), some (.d (.int (k : Nat))), none, none, none, none] S = _
  generalize hev : [some (W.d (insD f i)), some (.d (.int (k : Nat))), none, none, none, none] = ev
  have v0 : ∀ S, fV 0 ev S = .ok (.d (insD f i)) S := fun S => by rw [← hev]; rfl
  have v1 : ∀ S, fV 1 ev S = .ok (.d (.int (k : Nat))) S := fun S => by rw [← hev]; rfl
  unfold m__is_instruction
  cases i with
  | go t =>
    have h2 := target_ok n S t k
    have c1 : fNotT (fTr (fIsi "tuple" (fV 0))) ev S = .ok false S := notT_ok (isi_tupT [.str "goto", tgD t] S _ _ (v0 S))
    have c2 : fB (f2 cEq (fB1 oLen (fCons (fV 0) fNil)) (fC (.int 2))) ev S = .ok true S := fB_ok (by
      rw [f2_ok (len_ok (v0 S) (len_tup _ S)) rfl]
      exact eq_nn 2 2 S)
    rw [seq_iff c1]
    refine seq_ift c2 (ret_ok ?_)
    exact and_ok (a := true) (by
      rw [f2_ok ((f2_ok (v0 S) rfl).trans (ixT0 (.str "goto") [tgD t] S)) rfl]
      exact eq_ss "goto" "goto" S) (fun _ => call_ok (cons_ok ((f2_ok (v0 S) rfl).trans (ixT1 _ _ _ S)) (cons_ok (v1 S) rfl)) rfl h2)
  | jmp x y t =>
    have h1 := Hn x n S
    have h2 := target_ok n S t k
    have c1 : fNotT (fTr (fIsi "tuple" (fV 0))) ev S = .ok false S := notT_ok (isi_tupT [.str "jump", f x, .str (if y then "yes" else "no"), tgD t] S _ _ (v0 S))
    have c2 : fB (f2 cEq (fB1 oLen (fCons (fV 0) fNil)) (fC (.int 2))) ev S = .ok false S := fB_ok (by
      rw [f2_ok (len_ok (v0 S) (len_tup _ S)) rfl]
      exact eq_nn 4 2 S)
    have c3 : fB (f2 cNe (fB1 oLen (fCons (fV 0) fNil)) (fC (.int 4))) ev S = .ok false S := fB_ok (by
      rw [f2_ok (len_ok (v0 S) (len_tup _ S)) rfl]
      exact ne_nn 4 4 S)
    rw [seq_iff c1, seq_iff c2, seq_iff c3]
    subst hev
    rw [seq_nx (e1 := [some (.d (insD f (.jmp x y t))), some (.d (.int (k : Nat))), some (.d (.str "jump")), some (.d (f x)), some (.d (.str (if y then "yes" else "no"))), some (.d (tgD t))]) (S1 := S) (by rfl)]
    refine ret_ok ?_
    have z := and_ok (ev := [some (.d (insD f (.jmp x y t))), some (.d (.int (k : Nat))), some (.d (.str "jump")), some (.d (f x)), some (.d (.str (if y then "yes" else "no"))), some (.d (tgD t))]) (S := S)
      (fa := f2 cEq (fV 2) (fC (.str "jump"))) (a := true) (eq_ss "jump" "jump" S) (fun _ => and_ok (fa := fCall 1 (lev Nn mm (n + 1) i_is_name) [] (fCons (fV 3) fNil)) (a := true) h1 (fun _ => and_ok (fa := f2 cIn (fV 4) (fC (sg.gdt 3))) (a := true) (ans_in y S)
        (fun _ => show fCall 2 (lev Nn mm (n + 1) i_is_target) [] (fCons (fV 5) (fCons (fV 1) fNil)) _ S = _ from h2)))
    simp only [Bool.true_and] at z
    exact z
theorem rowI_ok (n : Nat) (S : So) (i : Ins N) (k : Nat) : lev Nn mm (n + 1) i__row [.d (insD f i), .d (.int (k : Nat))] S = .ok (.d (rwD (fO f) (rowI k i))) S := by
  refine def_rt (n := n) ?_
  show m__row (lev Nn mm n) [some (.d (insD f i)), some (.d (.int (k : Nat))), none, none, none, none] S = _
  unfold m__row
  cases i with
  | go t =>
    have c : fB (f2 cEq (f2 oIx (fV 0) (fC (.int 0))) (fC (.str "goto"))) [some (.d (insD f (.go t))), some (.d (.int (k : Nat))), none, none, none, none] S = .ok true S := fB_ok (by
      rw [f2_ok ((f2_ok rfl rfl).trans (ixT0 (.str "goto") [tgD t] S)) rfl]
      exact eq_ss "goto" "goto" S)
    have g : f2 oIx (fV 0) (fC (.int 1)) [some (.d (insD f (.go t))), some (.d (.int (k : Nat))), none, none, none, none] S = .ok (.d (tgD t)) S := (f2_ok rfl rfl).trans (ixT1 (.str "goto") (tgD t) [] S)
    refine seq_ift c (ret_ok ?_)
    unfold fTup
    simp only [fCons, fNil, fC, g, Res.bind, allD, Option.map_some]
    exact if_pos (by rw [sizeLine_eq]; simp)
  | jmp x y t =>
    have c : fB (f2 cEq (f2 oIx (fV 0) (fC (.int 0))) (fC (.str "goto"))) [some (.d (insD f (.jmp x y t))), some (.d (.int (k : Nat))), none, none, none, none] S = .ok false S := fB_ok (by
      rw [f2_ok ((f2_ok rfl rfl).trans (ixT0 (.str "jump") _ S)) rfl]
      rw [eq_ss "jump" "goto" S, decide_eq_false (by decide)])
    rw [seq_iff c]
    rw [seq_nx (e1 := [some (.d (insD f (.jmp x y t))), some (.d (.int (k : Nat))), some (.d (.str "jump")), some (.d (f x)), some (.d (.str (if y then "yes" else "no"))), some (.d (tgD t))]) (S1 := S) (by rfl)]
    refine ret_ok ?_
    cases y with
    | true =>
      rw [if_t (fB_ok (eq_ss "yes" "yes" S))]
      unfold fTup
      simp only [fCons, fNil, fV, List.getElem?_cons_succ, List.getElem?_cons_zero, Res.bind, allD, Option.map_some]
      exact if_pos (by rw [sizeLine_eq]; simp)
    | false =>
      have e : decide (("no" : Str) = "yes") = false := by decide
      have z := eq_ss "no" "yes" S
      rw [e] at z
      rw [if_f (fB_ok z)]
      unfold fTup
      simp only [fCons, fNil, fV, List.getElem?_cons_succ, List.getElem?_cons_zero, Res.bind, allD, Option.map_some]
      exact if_pos (by rw [sizeLine_eq]; simp)
theorem rows_ok (n : Nat) (S : So) (ms : List (Ins N)) (few : ms.length ≤ 1000) : lev Nn mm (n + 2) i__rows [.d (.tuple (ms.map (insD f)))] S = .ok (.d (.list ((rowsP ms).map (rwD (fO f))))) S := by
  refine def_rt (n := n + 1) ?_
  show m__rows (lev Nn mm (n + 1)) [some (.d (.tuple (ms.map (insD f)))), none, none] S = _
  refine ret_ok (lc_e (ds := (ms.zipIdx 0).map fun p => .tuple [.int (p.2 : Nat), insD f p.1]) ?_ ?_)
  · show Res.ok (enumD 0 (ms.map (insD f))) S = _
    rw [enumD_map]
  · have z := lcL_map (g := gTp 2 (gCs (gNm 1) (gCs (gNm 2) gNo))) (te := fCall 2 (lev Nn mm (n + 1) i__row) [] (fCons (fV 2) (fCons (f2 oAdd (fV 1) (fC (.int 1))) fNil))) (ev0 := [some (.d (.tuple (ms.map (insD f)))), none, none]) (S := S)
      (dt := fun p : Ins N × Nat => .tuple [.int (p.2 : Nat), insD f p.1]) (f := fun p => rwD (fO f) (rowI (p.2 + 1) p.1)) (ms.zipIdx 0) [] (fun p _ => ⟨[some (.d (.tuple (ms.map (insD f)))), some (.d (.int (p.2 : Nat))), some (.d (insD f p.1))], rfl, by
        refine call_ok (ws := [.d (insD f p.1), .d (.int ((p.2 + 1 : Nat) : Int))]) (cons_ok rfl (cons_ok ((f2_ok rfl rfl).trans ?_) rfl)) rfl (rowI_ok n S p.1 (p.2 + 1))
        rw [add_ii]
        rfl⟩) (by rw [sizeLine_eq]; simp; omega)
    rw [List.nil_append] at z
    have e : (ms.zipIdx 0).map (fun p : Ins N × Nat => rwD (fO f) (rowI (p.2 + 1) p.1)) = (rowsP ms).map (rwD (fO f)) := by
      unfold rowsP
      rw [List.map_map]
      have : ms.zipIdx 1 = (ms.zipIdx 0).map fun p => (p.1, p.2 + 1) := by
        rw [List.zipIdx_succ]
      rw [this, List.map_map]
      rfl
    rw [e] at z
    exact z
end
end G61

set_option linter.all false
set_option maxHeartbeats 4000000
set_option maxRecDepth 100000
namespace FL
open PySem L2
theorem chain_b {op op' : W → W → So → Res W} {fa fb fc : FE} {ev : Ev} {S : So} {x y z : W} {a b : Bool} (ha : fa ev S = .ok x S) (hb : fb ev S = .ok y S) (h1 : op x y S = .ok (.d (.bool a)) S) (hc : fc ev S = .ok z S) (h2 : op' y z S = .ok (.d (.bool b)) S) :
    fChain op op' fa fb fc ev S = .ok (.d (.bool (a && b))) S := by
  unfold fChain
  rw [ha]
  show Res.bind (fb ev S) _ = _
  rw [hb]
  show Res.bind (op x y S) _ = _
  rw [h1]
  cases a
  · rfl
  · show Res.bind (fc ev S) _ = _
    rw [hc]
    exact h2
theorem ix_last (xs : List PyData) (d : PyData) (S : So) (h : xs.getLast? = some d) : oIx (.d (.tuple xs)) (.d (.int (-1))) S = .ok (.d d) S := by
  have h1 : atI xs (-1) = some d := by
    rw [List.getLast?_eq_getElem?] at h
    have hl : xs.length - 1 < xs.length := by
      rcases Nat.lt_or_ge (xs.length - 1) xs.length with c | c
      · exact c
      · rw [List.getElem?_eq_none c] at h
        cases h
    unfold atI ixN
    rw [if_neg (by omega), if_pos (by omega)]
    show xs[_]? = _
    rw [← h]
    congr 1
    omega
  unfold oIx oOr oIxT
  simp only [asT, asI, h1]
end FL
namespace G61
open FL PySem L2 PC
section
variable {N : Type} [DecidableEq N] {f : N → PyData}
theorem nm_keys (k : N → Key) : ∀ ms : List (Ins N), ((ms.filter fun i => !i.isGo).map fun i => match i.nm with | some x => k x | none => (.inl 0 : Key)) = (ms.filterMap Ins.nm).map k
  | [] => rfl
  | .go t :: ms => by
    rw [List.filter_cons, List.filterMap_cons]
    exact nm_keys k ms
  | .jmp x y t :: ms => by
    rw [List.filter_cons, List.filterMap_cons]
    show _ :: _ = _ :: _
    rw [← nm_keys k ms]
    rfl
theorem mach_is (T : Stg f) (Hn : Nam f) (n : Nat) (S : So) (ms : List (Ins N)) (few : ms.length ≤ 1000) (b : Bool) (h : isMachP ms = some b) :
    lev Nn mm (n + 4) i_is_machine [.d (.tuple (ms.map (insD f)))] S = .ok (.d (.bool b)) S := by
  refine def_rt (n := n + 3) ?_
  show m_is_machine (lev Nn mm (n + 3)) [some (.d (.tuple (ms.map (insD f)))), none] S = _
  generalize hev : [some (W.d (.tuple (ms.map (insD f)))), none] = ev
  have v0 : ∀ S, fV 0 ev S = .ok (.d (.tuple (ms.map (insD f)))) S := fun S => by rw [← hev]; rfl
  have wp : wipeE ev [1] = ev := by rw [← hev]; rfl
  have lq : ∀ S, lenW (.d (.tuple (ms.map (insD f)))) S = .ok (.d (.int (ms.length : Nat))) S := fun S => by rw [len_tup, List.length_map]
  unfold isMachP at h
  unfold m_is_machine
  have c1 : fOrT (fNotT (fTr (fIsi "tuple" (fV 0)))) (fNotT (fB (fChain cLe cLe (fC (.int 1)) (fB1 oLen (fCons (fV 0) fNil)) (fC (sg.gdt 5))))) ev S = .ok (decide (ms.length = 0 ∨ 120 < ms.length)) S := by
    have z := orT_b (notT_ok (isi_tupT _ S _ _ (v0 S))) (fun _ => notT_ok (fB_ok (chain_b (fc := fC (sg.gdt 5)) (z := .d (.int 120)) (ev := ev) (S := S) (fa := fC (.int 1)) (x := .d (.int 1)) rfl (len_ok (v0 S) (lq S)) (cLe_ii _ _ S) rfl (cLe_ii _ _ S))))
    rw [z]
    congr 1
    by_cases c : ms.length = 0 ∨ 120 < ms.length
    · rw [decide_eq_true c]
      rcases c with c | c
      · rw [decide_eq_false (by omega)]; rfl
      · rw [decide_eq_true (p := (1 : Int) ≤ _) (by omega), decide_eq_false (by omega)]; rfl
    · rw [decide_eq_false c, decide_eq_true (p := (1 : Int) ≤ _) (by omega), decide_eq_true (by omega)]; rfl
  by_cases l0 : ms.length = 0 ∨ 120 < ms.length
  · rw [if_pos l0] at h
    cases h
    rw [decide_eq_true l0] at c1
    exact seq_ift c1 rfl
  rw [if_neg l0] at h
  rw [decide_eq_false l0] at c1
  rw [seq_iff c1]
  have c2a : fTr (fB1 (o1 allW) (fCons (fLc (fItems (fV 0)) (gNm 1) fYes (fCall 2 (lev Nn mm (n + 3) i__is_instruction) [] (fCons (fV 1) (fCons (fB1 oLen (fCons (fV 0) fNil)) fNil))) [1]) fNil)) ev S = .ok (ms.all fun i => tgOk ms.length i.tg) S := by
    have z1 := lcL_map (g := gNm 1) (te := fCall 2 (lev Nn mm (n + 3) i__is_instruction) [] (fCons (fV 1) (fCons (fB1 oLen (fCons (fV 0) fNil)) fNil))) (ev0 := ev) (S := S) (dt := insD f) (f := fun i => .bool (tgOk ms.length i.tg)) ms []
      (fun i _ => ⟨[some (.d (.tuple (ms.map (insD f)))), some (.d (insD f i))], by rw [← hev]; rfl, call_ok (cons_ok rfl (cons_ok (len_ok rfl (lq S)) rfl)) rfl (instr_ok Hn (n + 1) S i ms.length)⟩) (by rw [sizeLine_eq]; simp; omega)
    rw [List.nil_append] at z1
    refine tr_b ?_
    rw [b1_ok (cons_ok (lc_e (vs := [1]) (items_ok (v0 S) (ds := ms.map (insD f)) rfl) (by rw [wp]; exact z1)) rfl)]
    exact all_ok _ _ _
  have c2b : fB (f2 cNe (f2 oIx (f2 oIx (fV 0) (f1 oNeg (fC (.int 1)))) (fC (.int 0))) (fC (.str "goto"))) ev S = .ok (!lastGo ms) S := by
    refine fB_ok ?_
    have hl : ∃ i, ms.getLast? = some i := by
      cases e : ms.getLast? with
      | none => rw [List.getLast?_eq_none_iff] at e; rw [e] at l0; exact absurd (Or.inl rfl) l0
      | some i => exact ⟨i, rfl⟩
    obtain ⟨i, hi⟩ := hl
    have z1 : f2 oIx (fV 0) (f1 oNeg (fC (.int 1))) ev S = .ok (.d (insD f i)) S := (f2_ok (v0 S) (by rfl)).trans (ix_last _ _ S (by rw [List.getLast?_map, hi]; rfl))
    have z2 : f2 oIx (f2 oIx (fV 0) (f1 oNeg (fC (.int 1)))) (fC (.int 0)) ev S = .ok (.d (.str (if i.isGo then "goto" else "jump"))) S := by
      rw [f2_ok z1 rfl]
      cases i with
      | go t => exact ixT0 _ _ S
      | jmp x y t => exact ixT0 _ _ S
    rw [f2_ok z2 rfl]
    unfold cNe oEq
    simp only [toP]
    rw [if_pos ⟨rfl, rfl, (by decide : (0:Nat) ≤ 150)⟩, eqv_str]
    unfold lastGo
    rw [hi]
    dsimp only
    cases i.isGo <;> rfl
  have c2 := orT_b (notT_ok c2a) (fun _ => c2b)
  by_cases l1 : (ms.all fun i => tgOk ms.length i.tg) = false ∨ lastGo ms = false
  · rw [if_pos l1] at h
    cases h
    have e : ((!ms.all fun i => tgOk ms.length i.tg) || !lastGo ms) = true := by
      rcases l1 with l1 | l1
      · rw [l1]; rfl
      · rw [l1, Bool.or_comm]; rfl
    rw [e] at c2
    exact seq_ift c2 rfl
  rw [if_neg l1] at h
  have e : ((!ms.all fun i => tgOk ms.length i.tg) || !lastGo ms) = false := by
    rw [not_or] at l1
    rw [Bool.not_eq_false, Bool.not_eq_false] at l1
    rw [l1.1, l1.2]
    rfl
  rw [e] at c2
  rw [seq_iff c2]
  have c3 : fB (f2 cGt (fLenSc (fItems (fV 0)) (gNm 1) (fB (f2 cEq (f2 oIx (fV 1) (fC (.int 0))) (fC (.str "jump")))) (f2 oIx (fV 1) (fC (.int 1))) [1]) (fC (sg.gdt 0))) ev S = .ok (decide (8 < (ddN (ms.filterMap Ins.nm)).length)) S := by
    have z1 := scL_map (g := gNm 1) (t := fB (f2 cEq (f2 oIx (fV 1) (fC (.int 0))) (fC (.str "jump")))) (te := f2 oIx (fV 1) (fC (.int 1))) (ev0 := ev) (S := S) (dt := insD f) (p := fun i => !i.isGo) (k := fun i : Ins N => match i.nm with | some x => T.NK.k x | none => .inl 0) ms []
      (fun i _ => ⟨[some (.d (.tuple (ms.map (insD f)))), some (.d (insD f i))], by rw [← hev]; rfl, by
        cases i with
        | go t =>
          refine fB_ok ?_
          rw [f2_ok ((f2_ok rfl rfl).trans (ixT0 (.str "goto") _ S)) rfl]
          exact eq_ss "goto" "jump" S
        | jmp x y t =>
          refine fB_ok ?_
          rw [f2_ok ((f2_ok rfl rfl).trans (ixT0 (.str "jump") _ S)) rfl]
          exact eq_ss "jump" "jump" S, fun hp => by
        cases i with
        | go t => cases hp
        | jmp x y t => exact ⟨.d (f x), (f2_ok rfl rfl).trans (ixT1 (.str "jump") (f x) _ S), T.NK.a x trivial⟩⟩)
    rw [nm_keys T.NK.k] at z1
    have z4 := keyPut_dd T.NK.k T.NK.i (ms.filterMap Ins.nm) []
    rw [List.map_nil] at z4
    rw [z4] at z1
    have z5 : fLenSc (fItems (fV 0)) (gNm 1) (fB (f2 cEq (f2 oIx (fV 1) (fC (.int 0))) (fC (.str "jump")))) (f2 oIx (fV 1) (fC (.int 1))) [1] ev S = .ok (.d (.int ((ddN (ms.filterMap Ins.nm)).length : Nat))) S := by
      unfold fLenSc
      rw [items_ok (v0 S) (ds := ms.map (insD f)) rfl]
      show (if (ms.map (insD f)).length ≤ 1000 then Res.bind (scL _ _ _ (wipeE ev [1]) _ _ _) _ else _) = _
      rw [if_pos (by rw [List.length_map]; exact few), wp, z1]
      show Res.ok (W.d (.int (List.length _))) S = _
      rw [List.length_map]
      rfl
    refine fB_ok ?_
    rw [f2_ok z5 rfl]
    show cGt _ (.d (.int 8)) S = _
    rw [cGt_ii]
    congr 3
    exact dec_lt8 _
  by_cases l2 : 8 < (ddN (ms.filterMap Ins.nm)).length
  · rw [if_pos l2] at h
    cases h
    rw [decide_eq_true l2] at c3
    exact seq_ift c3 rfl
  rw [if_neg l2] at h
  rw [decide_eq_false l2] at c3
  rw [seq_iff c3]
  refine ret_ok ?_
  cases et : tidP (rowsP ms) (.row 0) with
  | none => rw [et] at h; cases h
  | some o =>
    rw [et] at h
    cases h
    have lr : (rowsP ms).length = ms.length := by simp [rowsP]
    have r1 : fCall 1 (lev Nn mm (n + 3) i__rows) [] (fCons (fV 0) fNil) ev S = .ok (.d (.list ((rowsP ms).map (rwD (fO f))))) S := call_ok (cons_ok (v0 S) rfl) rfl (rows_ok (n + 1) S ms few)
    have r2 : fCall 2 (lev Nn mm (n + 3) i_tidied) [.d (sg.dwd 0)] (fCons (fCall 1 (lev Nn mm (n + 3) i__rows) [] (fCons (fV 0) fNil)) fNil) ev S = .ok (tidW (fO f) o) S :=
      callD_ok (cons_ok r1 rfl) rfl (tidied_ok T.KO (rows_list (fO f) (rowsP ms)) (fun S => by rw [len_lst, List.length_map]) (by omega) n S (.row 0) o et)
    rw [f2_ok r2 rfl]
    cases o with
    | none => rfl
    | some rs => rfl
end
end G61

set_option linter.all false
set_option maxHeartbeats 4000000
set_option maxRecDepth 100000
namespace FL
open PySem L2
theorem mapM_get {α β : Type} {h : α → Option β} (d : β) : ∀ {l : List α} {rs : List β}, l.mapM h = some rs → rs = l.map (fun x => (h x).getD d) ∧ ∀ x ∈ l, h x = some ((h x).getD d)
  | [], rs, e => by
    rw [List.mapM_nil] at e
    cases e
    exact ⟨rfl, fun x hx => by cases hx⟩
  | a :: l, rs, e => by
    rw [List.mapM_cons] at e
    cases e1 : h a with
    | none => rw [e1] at e; cases e
    | some r =>
      rw [e1] at e
      cases e2 : l.mapM h with
      | none => rw [e2] at e; cases e
      | some r2 =>
        rw [e2] at e
        cases e
        obtain ⟨h1, h2⟩ := mapM_get d e2
        refine ⟨by rw [List.map_cons, e1, ← h1]; rfl, fun x hx => ?_⟩
        rcases List.mem_cons.mp hx with z | hx
        · rw [z, e1]; rfl
        · exact h2 x hx
end FL
namespace G61
open FL PySem L2 PC
section
variable {N : Type} [DecidableEq N] {f : N → PyData}
abbrev behT : FT := fAndT (fTr (fIsi "int" (fV 1))) (fB (f2 cIs (f2 oIx (f2 oIx (fV 0) (fV 1)) (fC (.int 0))) (fC .none)))
abbrev behB : FS := fSet 1 (f2 oIx (f2 oIx (fV 0) (fV 1)) (fC (.int 1)))
theorem isi_at (t : Tg) (i : Nat) (ev : Ev) (S : So) (h : ev[i]? = some (some (.d (tgD t)))) : fTr (fIsi "int" (fV i)) ev S = .ok (isRow t) S := by
  cases t <;> simp [fTr, fIsi, fV, h, tgD, tyW, kit_ii, kit_si, tru, isRow]
theorem kit_is : kitB "int" "str" = some false := by decide +kernel
theorem kit_ss : kitB "str" "str" = some true := by decide +kernel
theorem isS_at (t : Tg) (i : Nat) (ev : Ev) (S : So) (h : ev[i]? = some (some (.d (tgD t)))) : fTr (fIsi "str" (fV i)) ev S = .ok (!isRow t) S := by
  cases t <;> simp [fTr, fIsi, fV, h, tgD, tyW, kit_is, kit_ss, tru, isRow]
theorem beh_loop (T : Stg f) {rows : List (Rw (Option N))} {rw_ : W} (hr : RowsAt (fO f) rows rw_) (S : So) : ∀ (m : Nat) (t t2 : Tg), behP rows m t = some t2 → whl behT behB m [some rw_, some (.d (tgD t))] S = .nx [some rw_, some (.d (tgD t2))] S
  | 0, t, t2, h => by
    cases t <;> cases h
  | m + 1, .yes, t2, h => by
    cases h
    have c : behT [some rw_, some (.d (tgD .yes))] S = .ok false S := andT_b (a := false) (b := false) (isi_at .yes 1 _ S rfl) (fun z => by cases z)
    exact whl_f c
  | m + 1, .no, t2, h => by
    cases h
    have c : behT [some rw_, some (.d (tgD .no))] S = .ok false S := andT_b (a := false) (b := false) (isi_at .no 1 _ S rfl) (fun z => by cases z)
    exact whl_f c
  | m + 1, .row i, t2, h => by
    unfold behP at h
    cases er : rows[i]? with
    | none => rw [er] at h; cases h
    | some r =>
      rw [er] at h
      obtain ⟨nm, y, no⟩ := r
      have g0 : f2 oIx (fV 0) (fV 1) [some rw_, some (.d (tgD (.row i)))] S = .ok (.d (rwD (fO f) (nm, y, no))) S := (f2_ok rfl rfl).trans (hr i _ S er)
      have g1 : f2 oIx (f2 oIx (fV 0) (fV 1)) (fC (.int 0)) [some rw_, some (.d (tgD (.row i)))] S = .ok (.d (fO f nm)) S := (f2_ok g0 rfl).trans (ixT0 _ _ S)
      have g2 : behB [some rw_, some (.d (tgD (.row i)))] S = .nx [some rw_, some (.d (tgD y))] S := set_ok ((f2_ok g0 rfl).trans (ixT1 _ _ _ S))
      cases nm with
      | none =>
        have c : behT [some rw_, some (.d (tgD (.row i)))] S = .ok true S := andT_b (a := true) (b := true) (isi_at (.row i) 1 _ S rfl) (fun _ => fB_ok ((f2_ok g1 rfl).trans rfl))
        have ih := beh_loop T hr S m y t2 h
        exact (whl_t c g2).trans ih
      | some x =>
        cases h
        have c : behT [some rw_, some (.d (tgD (.row i)))] S = .ok false S := andT_b (a := true) (b := false) (isi_at (.row i) 1 _ S rfl) (fun _ => fB_ok ((f2_ok g1 rfl).trans (by
          show cIs (.d (f x)) _ S = _
          rw [T.e]
          rfl)))
        exact whl_f c
theorem beh_ok (T : Stg f) {rows : List (Rw (Option N))} {rw_ : W} (hr : RowsAt (fO f) rows rw_) (n : Nat) (S : So) (t t2 : Tg) (h : behP rows 100000 t = some t2) : lev Nn mm (n + 1) i__behind_gotos [rw_, .d (tgD t)] S = .ok (.d (tgD t2)) S := by
  refine def_rt (n := n) ?_
  show m__behind_gotos (lev Nn mm n) [some rw_, some (.d (tgD t))] S = _
  unfold m__behind_gotos
  have e : fWhile behT behB [some rw_, some (.d (tgD t))] S = .nx [some rw_, some (.d (tgD t2))] S := beh_loop T hr S 100000 t t2 h
  rw [seq_nx e]
  rfl
abbrev noGoW (f : N → PyData) (p : List (Rw (Option N)) × Tg) : PyData := .tuple [.list (p.1.map (rwD (fO f))), tgD p.2]
theorem nogo_ok (T : Stg f) (n : Nat) (S : So) (ms : List (Ins N)) (few : ms.length ≤ 1000) (p : List (Rw (Option N)) × Tg) (h : noGoP (rowsP ms) = some p) :
    lev Nn mm (n + 3) i__rows_without_gotos [.d (.tuple (ms.map (insD f)))] S = .ok (.d (noGoW f p)) S := by
  refine def_rt (n := n + 2) ?_
  show m__rows_without_gotos (lev Nn mm (n + 2)) [some (.d (.tuple (ms.map (insD f)))), none, none, none, none, none] S = _
  have h1 := rows_ok n S ms few (f := f)
  have hr := rows_list (fO f) (rowsP ms)
  have rl : (rowsP ms).length = ms.length := by simp [rowsP]
  generalize rowsP ms = rows at h h1 hr rl
  unfold noGoP at h
  cases e1 : rows.mapM fun r => (behP rows 100000 r.2.1).bind fun a => (behP rows 100000 r.2.2).map fun b => (r.1, a, b) with
  | none => rw [e1] at h; cases h
  | some rs =>
    rw [e1] at h
    cases e2 : behP rows 100000 (.row 0) with
    | none => rw [e2] at h; cases h
    | some t =>
      rw [e2] at h
      cases h
      obtain ⟨q1, q2⟩ := mapM_get (none, Tg.yes, Tg.yes) e1
      unfold m__rows_without_gotos
      refine (seq_nx (set_ok (call_ok (cons_ok rfl rfl) rfl h1))).trans ?_
      have z := lcL_map (g := gTp 3 (gCs (gNm 3) (gCs (gNm 4) (gCs (gNm 5) gNo)))) (te := fTup (fCons (fV 3) (fCons (fCall 2 (lev Nn mm (n + 2) i__behind_gotos) [] (fCons (fV 1) (fCons (fV 4) fNil))) (fCons (fCall 2 (lev Nn mm (n + 2) i__behind_gotos) [] (fCons (fV 1) (fCons (fV 5) fNil))) fNil))))
        (ev0 := [some (.d (.tuple (ms.map (insD f)))), some (.d (.list (rows.map (rwD (fO f))))), none, none, none, none]) (S := S) (dt := rwD (fO f))
        (f := fun r => rwD (fO f) (((behP rows 100000 r.2.1).bind fun a => (behP rows 100000 r.2.2).map fun b => (r.1, a, b)).getD (none, Tg.yes, Tg.yes))) rows []
        (fun r hm => ⟨[some (.d (.tuple (ms.map (insD f)))), some (.d (.list (rows.map (rwD (fO f))))), none, some (.d (fO f r.1)), some (.d (tgD r.2.1)), some (.d (tgD r.2.2))], rfl, by
          have w := q2 r hm
          cases a1 : behP rows 100000 r.2.1 with
          | none => rw [a1] at w; cases w
          | some a =>
            cases a2 : behP rows 100000 r.2.2 with
            | none => rw [a1, a2] at w; cases w
            | some b =>
              have k1 : fCall 2 (lev Nn mm (n + 2) i__behind_gotos) [] (fCons (fV 1) (fCons (fV 4) fNil)) [some (.d (.tuple (ms.map (insD f)))), some (.d (.list (rows.map (rwD (fO f))))), none, some (.d (fO f r.1)), some (.d (tgD r.2.1)), some (.d (tgD r.2.2))] S = .ok (.d (tgD a)) S :=
                call_ok (cons_ok rfl (cons_ok rfl rfl)) rfl (beh_ok T hr (n + 1) S _ _ a1)
              have k2 : fCall 2 (lev Nn mm (n + 2) i__behind_gotos) [] (fCons (fV 1) (fCons (fV 5) fNil)) [some (.d (.tuple (ms.map (insD f)))), some (.d (.list (rows.map (rwD (fO f))))), none, some (.d (fO f r.1)), some (.d (tgD r.2.1)), some (.d (tgD r.2.2))] S = .ok (.d (tgD b)) S :=
                call_ok (cons_ok rfl (cons_ok rfl rfl)) rfl (beh_ok T hr (n + 1) S _ _ a2)
              exact tup_ok (cons_ok (x := .d (fO f r.1)) rfl (cons_ok k1 (cons_ok k2 rfl))) rfl (by simp)⟩) (by rw [sizeLine_eq]; simp; omega)
      rw [List.nil_append] at z
      have z2 : (rows.map fun r => rwD (fO f) (((behP rows 100000 r.2.1).bind fun a => (behP rows 100000 r.2.2).map fun b => (r.1, a, b)).getD (none, Tg.yes, Tg.yes))) = rs.map (rwD (fO f)) := by
        rw [q1, List.map_map]
        rfl
      rw [z2] at z
      show fSeq _ _ [some (.d (.tuple (ms.map (insD f)))), some (.d (.list (rows.map (rwD (fO f))))), none, none, none, none] S = _
      refine (seq_nx (set_ok (lc_e (ds := rows.map (rwD (fO f))) rfl z))).trans (ret_ok ?_)
      show fTup _ [some (.d (.tuple (ms.map (insD f)))), some (.d (.list (rows.map (rwD (fO f))))), some (.d (.list (rs.map (rwD (fO f))))), none, none, none] S = _
      exact tup_ok (cons_ok (x := .d (.list (rs.map (rwD (fO f))))) rfl (cons_ok (call_ok (cons_ok rfl (cons_ok (x := .d (.int 0)) rfl rfl)) rfl (beh_ok T hr (n + 1) S (.row 0) t e2)) rfl)) rfl (by simp)
theorem check_mach_ok (T : Stg f) (Hn : Nam f) (n : Nat) (S : So) (ms : List (Ins N)) (few : ms.length ≤ 1000) (h : isMachP ms = some true) :
    lev Nn mm (n + 5) i__check_machine [.d (.tuple (ms.map (insD f)))] S = .ok (.d .none) S := by
  have h1 := mach_is T Hn n S ms few true h
  show fDef 1 (m__check_machine (lev Nn mm (n + 4))) _ S = _
  unfold m__check_machine
  simp [h1]
  simp [tru]
theorem bounded_ok {okN : N → Prop} (Q : NKey f okN) (n : Nat) (S : So) (rows : List (Rw N)) (hk : ∀ r ∈ rows, okN r.1) (few : rows.length ≤ 1000) (h : fitsP rows = true) :
    lev Nn mm (n + 2) i_bounded [.d (.tuple (rows.map (rwD f)))] S = .ok (.d (.tuple (rows.map (rwD f)))) S := by
  refine def_rt (n := n + 1) ?_
  show m_bounded (lev Nn mm (n + 1)) [some (.d (.tuple (rows.map (rwD f))))] S = _
  have h1 := fits_ok Q n S rows hk few
  rw [h] at h1
  unfold m_bounded
  refine (seq_iff (notT_ok (a := true) (tr_b (call_ok (cons_ok rfl rfl) rfl h1)))).trans ?_
  rfl
theorem codeOf_ok (T : Stg f) (Hn : Nam f) (n : Nat) (S : So) (ms : List (Ins N)) (few : ms.length ≤ 1000) (hm : isMachP ms = some true) (o : Option (List (Rw (Option N)))) (h : codeOfP ms = some o) (fo : ∀ rs, o = some rs → rs.length ≤ 1000) :
    lev Nn mm (n + 6) i_code_of [.d (.tuple (ms.map (insD f)))] S = .ok (tidW (fO f) o) S := by
  have key : ∃ d, tidW (fO f) o = .d d := by cases o <;> exact ⟨_, rfl⟩
  obtain ⟨d, hd⟩ := key
  rw [hd]
  refine def_rt (n := n + 5) ?_
  show m_code_of (lev Nn mm (n + 5)) [some (.d (.tuple (ms.map (insD f)))), none, none] S = _
  unfold m_code_of
  refine (seq_nx (drop_ok (call_ok (cons_ok rfl rfl) rfl (check_mach_ok T Hn n S ms few hm)))).trans ?_
  unfold codeOfP at h
  cases ep : noGoP (rowsP ms) with
  | none => rw [ep] at h; cases h
  | some p =>
    rw [ep] at h
    have h1 := nogo_ok T (n + 2) S ms few p ep
    have lp : p.1.length ≤ 1000 := by
      unfold noGoP at ep
      cases e1 : (rowsP ms).mapM fun r => (behP (rowsP ms) 100000 r.2.1).bind fun a => (behP (rowsP ms) 100000 r.2.2).map fun b => (r.1, a, b) with
      | none => rw [e1] at ep; cases ep
      | some rs =>
        rw [e1] at ep
        cases e2 : behP (rowsP ms) 100000 (.row 0) with
        | none => rw [e2] at ep; cases ep
        | some t =>
          rw [e2] at ep
          cases ep
          obtain ⟨q1, _⟩ := mapM_get (none, Tg.yes, Tg.yes) e1
          rw [q1, List.length_map]
          simp [rowsP]
          exact few
    refine (seq_nx (e1 := [some (.d (.tuple (ms.map (insD f)))), some (.d (.list (p.1.map (rwD (fO f))))), some (.d (tgD p.2))]) (S1 := S) (asg_ok (call_ok (cons_ok rfl rfl) rfl h1) rfl)).trans ?_
    rw [← hd]
    refine ret_ok ?_
    obtain ⟨rs, t⟩ := p
    cases t with
    | yes =>
      cases h
      rw [if_t (isS_at .yes 2 _ S rfl)]
      rfl
    | no =>
      cases h
      rw [if_t (isS_at .no 2 _ S rfl)]
      rfl
    | row i =>
      rw [if_f (isS_at (.row i) 2 _ S rfl)]
      dsimp only [Option.bind_some] at h
      cases et : tidP rs (.row i) with
      | none => rw [et] at h; cases h
      | some r =>
        rw [et] at h
        cases r with
        | none => cases h
        | some r =>
          dsimp only [Option.bind_some] at h
          split at h
          · rename_i c
            cases h
            refine call_ok (cons_ok (call_ok (cons_ok rfl (cons_ok rfl rfl)) rfl (tidied_ok T.KO (rows_list (fO f) rs) (fun S => by rw [len_lst, List.length_map]) lp (n + 2) S (.row i) _ et)) rfl) rfl ?_
            refine bounded_ok T.NKO (n + 3) S r (fun x hx => ?_) (fo r rfl) c.1
            have := List.all_eq_true.mp c.2 x hx
            intro z
            rw [z] at this
            cases this
          · cases h
end
end G61

set_option linter.all false
set_option maxHeartbeats 4000000
set_option maxRecDepth 100000
namespace FL
open PySem L2
theorem def_rtS {k : Nat} {b : FS} {ws : List W} {S S1 : So} {x : PyData} (h : b (ws.map some ++ List.replicate (k - ws.length) none) S = .rt (.d x) S1) (hl : S1.length = S.length) : fDef k b ws S = .ok (.d x) S1 := by
  rw [fdef_d h, List.take_of_length_le (by omega)]
/-- a dict that was made here is handed back -/
theorem def_k {k : Nat} {b : FS} {ws : List W} {S : So} {kvs : Dic} {j : Nat} {S1 : So} (h : b (ws.map some ++ List.replicate (k - ws.length) none) S = .rt (.r j) S1) (hj : S.length ≤ j) (hk : S1[j]? = some (.k kvs)) : fDef k b ws S = .ok (.k kvs) (S1.take S.length) := by
  unfold fDef
  rw [h]
  show fin S.length (.r j) S1 = _
  have e : frz S.length (.r j) S1 = some (.k kvs) := by
    show (if j < S.length then _ else _) = _
    rw [if_neg (by omega), hk]
  show (match frz S.length (.r j) S1 with | some w' => Res.ok w' (S1.take S.length) | none => .no) = _
  rw [e]
theorem def_kk {k : Nat} {b : FS} {ws : List W} {S : So} {kvs : Dic} {S1 : So} (h : b (ws.map some ++ List.replicate (k - ws.length) none) S = .rt (.k kvs) S1) : fDef k b ws S = .ok (.k kvs) (S1.take S.length) := by
  unfold fDef
  rw [h]
  rfl
section
variable {ev : Ev} {S S1 S2 S3 : So}
theorem asD_r {n : Nat} {kvs : Dic} (h : S[n]? = some (.k kvs)) : asD (.r n) S = some kvs := by simp [asD, h]
theorem toP_rk {n : Nat} {kvs : Dic} (h : S[n]? = some (.k kvs)) : toP (.r n) S = none := by simp [toP, h]
theorem asL_rk {n : Nat} {kvs : Dic} (h : S[n]? = some (.k kvs)) : asL (.r n) S = none := by simp [asL, h]
theorem setKey_ok {fe fo fi : FE} {n : Nat} {d : PyData} {k : Key} {w : W} {kvs : Dic} (h1 : fe ev S = .ok (.d d) S1) (h2 : fo ev S1 = .ok (.r n) S2) (h3 : fi ev S2 = .ok w S3) (hk : asKey w = some k) (hg : S3[n]? = some (.k kvs)) (hl : kvs.length ≤ 1000) :
    fSetKey fe fo fi ev S = .nx ev (S3.set n (.k (putP kvs k d))) := by
  unfold fSetKey
  rw [h1]
  show Res.toOut (fo ev S1) _ _ = _
  rw [h2]
  show Res.toOut (fi ev S2) _ _ = _
  rw [h3]
  show (match W.r n, W.d d, asKey w with | .r n, .d d, some k => _ | _, _, _ => _) = _
  rw [hk]
  show (match S3[n]? with | some (.k kvs) => _ | _ => _) = _
  rw [hg]
  exact if_pos (by rw [sizeLine_eq]; omega)
theorem in_dict {x w : W} {k : Key} {kvs : Dic} {neg : Bool} (hx : toP w S = none) (hd : asD w S = some kvs) (hk : asKey x = some k) : oOr (oIn neg) (oOr (oInK neg) (oSS fun i j => if neg then !inS i j else inS i j)) x w S = .ok (.d (.bool (if neg then !(valP kvs k).isSome else (valP kvs k).isSome))) S := by
  unfold oOr oIn seqP
  rw [hx]
  simp only [oInK, hd, look, hk, Option.map_some, oOr]
  cases toP x S <;> rfl
theorem cNi_dict {x w : W} {k : Key} {kvs : Dic} (hx : toP w S = none) (hd : asD w S = some kvs) (hk : asKey x = some k) : cNi x w S = .ok (.d (.bool (!(valP kvs k).isSome))) S := in_dict (neg := true) hx hd hk
theorem cIn_dict {x w : W} {k : Key} {kvs : Dic} (hx : toP w S = none) (hd : asD w S = some kvs) (hk : asKey x = some k) : cIn x w S = .ok (.d (.bool (valP kvs k).isSome)) S := in_dict (neg := false) hx hd hk
theorem ix_dk {x w : W} {k : Key} {kvs : Dic} {d : PyData} (ht : asT w = none) (hl : asL w S = none) (hd : asD w S = some kvs) (hk : asKey x = some k) (hv : valP kvs k = some d) : oIx w x S = .ok (.d d) S := by
  unfold oIx oOr oIxT
  simp only [ht, oOr, oIxL, hl, oIxK, hd, look, hk, Option.map_some, hv]
theorem dcL_fold {α : Type} {g : FG} {tk tv : FE} {ev0 : Ev} {dt : α → PyData} {k : α → Key} {v : α → PyData} : ∀ (xs : List α) (acc : Dic), (∀ x, x ∈ xs → ∃ e1, g (.d (dt x)) ev0 = some e1 ∧ (∃ w, tk e1 S = .ok w S ∧ asKey w = some (k x)) ∧ tv e1 S = .ok (.d (v x)) S) → acc.length + xs.length ≤ sizeLine →
    dcL g fYes tk tv ev0 (xs.map dt) S acc = .ok (xs.foldl (fun acc x => putP acc (k x) (v x)) acc) S
  | [], acc, _, _ => rfl
  | x :: xs, acc, h, hl => by
    obtain ⟨e1, h1, ⟨w, h2, h3⟩, h4⟩ := h x List.mem_cons_self
    rw [List.length_cons] at hl
    rw [List.map_cons]
    unfold dcL
    rw [h1]
    dsimp only
    rw [h2]
    dsimp only
    rw [h3]
    dsimp only
    rw [h4]
    dsimp only
    have hp : (putP acc (k x) (v x)).length ≤ acc.length + 1 := by
      unfold putP
      split
      · rw [List.length_map]; omega
      · rw [List.length_append, List.length_singleton]; omega
    rw [if_pos ⟨rfl, by omega⟩, dcL_fold xs _ (fun y hy => h y (List.mem_cons_of_mem _ hy)) (by omega)]
    rfl
end
end FL
namespace G61
open FL PySem L2 PC
abbrev fdD (fd : List (Nat × Nat)) : Dic := fd.map fun p => ((Sum.inl ((p.1 : Nat) : Int) : Key), PyData.int ((p.2 : Nat) : Int))
abbrev trD (tr : List Nat) : Dic := tr.map fun t => ((Sum.inl ((t : Nat) : Int) : Key), PyData.bool true)
theorem inl_eq (a b : Nat) : ((Sum.inl ((a : Nat) : Int) : Key) = Sum.inl ((b : Nat) : Int)) ↔ a = b := ⟨fun z => by have := Sum.inl.inj z; omega, fun z => by rw [z]⟩
theorem fd_put (fd : List (Nat × Nat)) (k v : Nat) : putP (fdD fd) (Sum.inl ((k : Nat) : Int)) (.int ((v : Nat) : Int)) = fdD (putN fd k v) := by
  unfold putP putN fdD
  have e : ((fd.map fun p => ((Sum.inl ((p.1 : Nat) : Int) : Key), PyData.int ((p.2 : Nat) : Int))).any fun p => decide (p.1 = Sum.inl ((k : Nat) : Int))) = fd.any fun p => decide (p.1 = k) := by
    rw [List.any_map]
    congr 1
    funext p
    simp only [Function.comp_apply, inl_eq]
  rw [e]
  cases fd.any fun p => decide (p.1 = k) with
  | false =>
    rw [if_neg Bool.false_ne_true, if_neg Bool.false_ne_true, List.map_append]
    rfl
  | true =>
    rw [if_pos rfl, if_pos rfl, List.map_map, List.map_map]
    apply List.map_congr_left
    intro p _
    simp only [Function.comp_apply, inl_eq]
    split <;> simp_all
theorem putN_len (l : List (Nat × Nat)) (k v : Nat) : (putN l k v).length ≤ l.length + 1 := by
  unfold putN
  split
  · rw [List.length_map]; omega
  · rw [List.length_append, List.length_singleton]; omega
theorem tr_val (t : Nat) : ∀ tr : List Nat, valP (trD tr) (Sum.inl ((t : Nat) : Int)) = if t ∈ tr then some (.bool true) else none
  | [] => rfl
  | a :: tr => by
    have ih := tr_val t tr
    unfold valP at ih ⊢
    unfold trD at ih ⊢
    rw [List.map_cons, List.find?_cons]
    by_cases e : a = t
    · subst e
      simp
    · dsimp only
      rw [decide_eq_false (fun z => e ((inl_eq _ _).mp z))]
      dsimp only
      rw [ih]
      have e2 : ¬ t = a := fun z => e z.symm
      simp [e2]
theorem tr_put (tr : List Nat) (t : Nat) (h : t ∉ tr) : putP (trD tr) (Sum.inl ((t : Nat) : Int)) (.bool true) = trD (tr ++ [t]) := by
  rw [putP_app]
  · simp [trD]
  · intro z
    rw [List.map_map] at z
    obtain ⟨a, h1, h2⟩ := List.mem_map.mp z
    exact h ((inl_eq _ _).mp h2 ▸ h1)
theorem fd_val (fd : List (Nat × Nat)) (t : Nat) : valP (fdD fd) (Sum.inl ((t : Nat) : Int)) = (fd.lookup t).map fun k => PyData.int (k : Nat) := pl_row t fd
def fSt (S : So) (x y : Nat) (s : FT2) : So := (S.set x (.k (fdD s.1))).set y (.k (trD s.2))
section
variable {S : So} {x y : Nat} {s : FT2}
@[simp] theorem fSt_len : (fSt S x y s).length = S.length := by simp [fSt]
theorem fSt_x (hx : x < S.length) (hn : x ≠ y) : (fSt S x y s)[x]? = some (.k (fdD s.1)) := by
  unfold fSt
  rw [List.getElem?_set_ne (fun z => hn z.symm), List.getElem?_set_self hx]
theorem fSt_y (hy : y < S.length) : (fSt S x y s)[y]? = some (.k (trD s.2)) := by
  unfold fSt
  rw [List.getElem?_set_self (by rw [List.length_set]; exact hy)]
theorem fSt_sx (hn : x ≠ y) (fd : List (Nat × Nat)) : (fSt S x y s).set x (.k (fdD fd)) = fSt S x y (fd, s.2) := by
  unfold fSt
  rw [List.set_comm _ _ (fun z => hn z.symm), List.set_set]
theorem fSt_sy (tr : List Nat) : (fSt S x y s).set y (.k (trD tr)) = fSt S x y (s.1, tr) := by
  unfold fSt
  rw [List.set_set]
end
section
variable {N : Type} [DecidableEq N] {f : N → PyData}
abbrev folB (c : Cs) : FS := (fIfS (fAndT (fTr (fIsi "int" (fV 4))) (fB (f2 cNi (fV 4) (fV 3)))) 
        (fSeq (fSetKey (fC (.bool true)) (fV 3) (fV 4)) 
        (fIfS (fOrT (fB (f2 cNi (fV 4) (fV 2))) (fTr (fCall 4 (c i__follow) [] (fCons (fV 0) (fCons (f2 oIx (fV 2) (fV 4)) (fCons (fV 2) (fCons (fV 3) fNil))))))) 
          (fSeq (fSetKey (fV 1) (fV 2) (fV 4)) 
          (fRet (fC (.bool true)))) 
          fNext)) 
        fNext)
def folR (rw_ : W) (a : Nat) (x y : Nat) (v : Option W) : Ev := [some rw_, some (.d (intD a)), some (.r x), some (.r y), v]
def folEnd (rw_ : W) (a x y : Nat) (S : So) (s2 : FT2) (o : Out) : Bool → Prop
  | true => o = .rt (.d (.bool true)) (fSt S x y s2)
  | false => ∃ v2, o = .nx (folR rw_ a x y v2) (fSt S x y s2)
theorem fol_loop {rw_ : W} {rec : Nat → FT2 → Option (Bool × FT2)} {c : Cs} {S : So} {x y : Nat} (hx : x < S.length) (hy : y < S.length) (hn : x ≠ y)
    (hc : ∀ a s b s2, rec a s = some (b, s2) → c i__follow [rw_, .d (intD a), .r x, .r y] (fSt S x y s) = .ok (.d (.bool b)) (fSt S x y s2)) (a : Nat) :
    ∀ (ts : List Tg) (s s2 : FT2) (b : Bool) (v : Option W), folL rec a ts s = some (b, s2) → folEnd rw_ a x y S s2 (forL (gNm 4) (folB c) (ts.map tgD) (folR rw_ a x y v) (fSt S x y s)) b
  | [], s, s2, b, v, h => by
    cases h
    exact ⟨v, rfl⟩
  | t :: ts, s, s2, b, v, h => by
    have skip : ∀ s' : FT2, folL rec a ts s' = some (b, s2) → folB c (folR rw_ a x y (some (.d (tgD t)))) (fSt S x y s) = .nx (folR rw_ a x y (some (.d (tgD t)))) (fSt S x y s') →
        folEnd rw_ a x y S s2 (forL (gNm 4) (folB c) ((t :: ts).map tgD) (folR rw_ a x y v) (fSt S x y s)) b := fun s' h' hb => by
      have ih := fol_loop hx hy hn hc a ts s' s2 b (some (.d (tgD t))) h'
      have e : forL (gNm 4) (folB c) ((t :: ts).map tgD) (folR rw_ a x y v) (fSt S x y s) = forL (gNm 4) (folB c) (ts.map tgD) (folR rw_ a x y (some (.d (tgD t)))) (fSt S x y s') := by
        rw [List.map_cons]
        conv => lhs; unfold forL
        show (match folB c (folR rw_ a x y (some (.d (tgD t)))) (fSt S x y s) with | .nx e2 S2 => _ | .ct e2 S2 => _ | .bk e2 S2 => _ | r => r) = _
        rw [hb]
      rw [e]
      exact ih
    have stop : ∀ s' : FT2, folB c (folR rw_ a x y (some (.d (tgD t)))) (fSt S x y s) = .rt (.d (.bool true)) (fSt S x y s') → forL (gNm 4) (folB c) ((t :: ts).map tgD) (folR rw_ a x y v) (fSt S x y s) = .rt (.d (.bool true)) (fSt S x y s') := fun s' hb => by
      rw [List.map_cons]
      conv => lhs; unfold forL
      show (match folB c (folR rw_ a x y (some (.d (tgD t)))) (fSt S x y s) with | .nx e2 S2 => _ | .ct e2 S2 => _ | .bk e2 S2 => _ | r => r) = _
      rw [hb]
    cases t with
    | yes => exact skip s h (ifS_f (andT_b (a := false) (b := false) (isi_at .yes 4 _ _ rfl) (fun z => by cases z)))
    | no => exact skip s h (ifS_f (andT_b (a := false) (b := false) (isi_at .no 4 _ _ rfl) (fun z => by cases z)))
    | row t =>
      have px : ∀ s : FT2, asD (.r x) (fSt S x y s) = some (fdD s.1) := fun s => asD_r (fSt_x hx hn)
      have py : ∀ s : FT2, asD (.r y) (fSt S x y s) = some (trD s.2) := fun s => asD_r (fSt_y hy)
      have tx : ∀ s : FT2, toP (.r x) (fSt S x y s) = none := fun s => toP_rk (fSt_x hx hn)
      have ty : ∀ s : FT2, toP (.r y) (fSt S x y s) = none := fun s => toP_rk (fSt_y hy)
      have lx : ∀ s : FT2, asL (.r x) (fSt S x y s) = none := fun s => asL_rk (fSt_x hx hn)
      have t1 := andT_b (isi_at (.row t) 4 (folR rw_ a x y (some (.d (tgD (.row t))))) (fSt S x y s) rfl) (fun _ => fB_ok ((f2_ok (fa := fV 4) (fb := fV 3) rfl rfl).trans (cNi_dict (ty s) (py s) (asKey_tg (.row t)))))
      rw [show tgK (.row t) = Sum.inl ((t : Nat) : Int) from rfl, tr_val] at t1
      unfold folL at h
      by_cases m : t ∈ s.2
      · rw [if_pos m] at h
        rw [if_pos m] at t1
        exact skip s h (ifS_f t1)
      · rw [if_neg m] at h
        rw [if_neg m] at t1
        by_cases big : 1000 ≤ s.2.length ∨ 1000 ≤ s.1.length
        · rw [if_pos big] at h; cases h
        rw [if_neg big] at h
        have k1 : fSetKey (fC (.bool true)) (fV 3) (fV 4) (folR rw_ a x y (some (.d (tgD (.row t))))) (fSt S x y s) = .nx (folR rw_ a x y (some (.d (tgD (.row t))))) (fSt S x y (s.1, s.2 ++ [t])) := by
          refine (setKey_ok (n := y) rfl rfl rfl (asKey_tg (.row t)) (fSt_y hy) (by rw [List.length_map]; omega)).trans ?_
          rw [show tgK (.row t) = Sum.inl ((t : Nat) : Int) from rfl, tr_put _ _ m, fSt_sy]
        have fin_ : ∀ s' : FT2, ¬ 1000 ≤ s'.1.length → fSeq (fSetKey (fV 1) (fV 2) (fV 4)) (fRet (fC (.bool true))) (folR rw_ a x y (some (.d (tgD (.row t))))) (fSt S x y s') = .rt (.d (.bool true)) (fSt S x y (putN s'.1 t a, s'.2)) := fun s' hb => by
          refine (seq_nx (e1 := folR rw_ a x y (some (.d (tgD (.row t))))) (S1 := fSt S x y (putN s'.1 t a, s'.2)) ?_).trans rfl
          refine (setKey_ok (n := x) rfl rfl rfl (asKey_tg (.row t)) (fSt_x hx hn) (by rw [List.length_map]; omega)).trans ?_
          rw [show tgK (.row t) = Sum.inl ((t : Nat) : Int) from rfl, fd_put, fSt_sx hn]
        have t2 : fB (f2 cNi (fV 4) (fV 2)) (folR rw_ a x y (some (.d (tgD (.row t))))) (fSt S x y (s.1, s.2 ++ [t])) = .ok (!(s.1.lookup t).isSome) (fSt S x y (s.1, s.2 ++ [t])) := by
          refine fB_ok ((f2_ok rfl rfl).trans ((cNi_dict (tx _) (px _) (asKey_tg (.row t))).trans ?_))
          rw [show tgK (.row t) = Sum.inl ((t : Nat) : Int) from rfl, fd_val, Option.isSome_map]
        cases lk : s.1.lookup t with
        | none =>
          rw [lk] at h t2
          cases h
          refine stop _ ((ifS_t t1).trans ((seq_nx k1).trans ?_))
          refine (ifS_t (S1 := fSt S x y (s.1, s.2 ++ [t])) ?_).trans (fin_ (s.1, s.2 ++ [t]) (by show ¬ 1000 ≤ s.1.length; omega))
          unfold fOrT
          rw [t2]
          rfl
        | some o =>
          rw [lk] at h t2
          dsimp only at h
          have iq : f2 oIx (fV 2) (fV 4) (folR rw_ a x y (some (.d (tgD (.row t))))) (fSt S x y (s.1, s.2 ++ [t])) = .ok (.d (intD o)) (fSt S x y (s.1, s.2 ++ [t])) :=
            (f2_ok rfl rfl).trans (ix_dk rfl (lx _) (px _) (asKey_tg (.row t)) (by rw [show tgK (.row t) = Sum.inl ((t : Nat) : Int) from rfl, fd_val, lk]; rfl))
          cases er : rec o (s.1, s.2 ++ [t]) with
          | none => rw [er] at h; cases h
          | some z =>
            obtain ⟨b2, s3⟩ := z
            rw [er] at h
            have cq : fTr (fCall 4 (c i__follow) [] (fCons (fV 0) (fCons (f2 oIx (fV 2) (fV 4)) (fCons (fV 2) (fCons (fV 3) fNil))))) (folR rw_ a x y (some (.d (tgD (.row t))))) (fSt S x y (s.1, s.2 ++ [t])) = .ok b2 (fSt S x y s3) :=
              tr_b (call_ok (cons_ok rfl (cons_ok iq (cons_ok rfl (cons_ok rfl rfl)))) rfl (hc o _ b2 s3 er))
            have oq : fOrT (fB (f2 cNi (fV 4) (fV 2))) (fTr (fCall 4 (c i__follow) [] (fCons (fV 0) (fCons (f2 oIx (fV 2) (fV 4)) (fCons (fV 2) (fCons (fV 3) fNil)))))) (folR rw_ a x y (some (.d (tgD (.row t))))) (fSt S x y (s.1, s.2 ++ [t])) = .ok b2 (fSt S x y s3) := by
              unfold fOrT
              rw [t2]
              exact cq
            cases b2 with
            | true =>
              dsimp only at h
              by_cases b3 : 1000 ≤ s3.1.length
              · rw [if_pos b3] at h; cases h
              rw [if_neg b3] at h
              cases h
              exact stop _ ((ifS_t t1).trans ((seq_nx k1).trans ((ifS_t oq).trans (fin_ s3 b3))))
            | false =>
              dsimp only at h
              exact skip s3 h ((ifS_t t1).trans ((seq_nx k1).trans ((ifS_f oq).trans rfl)))
theorem fol_ok {rows : List (Rw N)} (n : Nat) {S : So} {x y : Nat} (hx : x < S.length) (hy : y < S.length) (hn : x ≠ y) : ∀ (m a : Nat) (s s2 : FT2) (b : Bool), folP rows m a s = some (b, s2) →
    lev Nn mm (n + m) i__follow [.d (.tuple (rows.map (rwD f))), .d (intD a), .r x, .r y] (fSt S x y s) = .ok (.d (.bool b)) (fSt S x y s2)
  | 0, a, s, s2, b, h => by cases h
  | m + 1, a, s, s2, b, h => by
    unfold folP at h
    cases er : rows[a]? with
    | none => rw [er] at h; cases h
    | some r =>
      rw [er] at h
      dsimp only at h
      have lp := fol_loop (c := lev Nn mm (n + m)) hx hy hn (fun a s b s2 h => fol_ok n hx hy hn m a s s2 b h) a [r.2.1, r.2.2] s s2 b none h
      show fDef 5 (m__follow (lev Nn mm (n + m))) _ _ = _
      refine def_rtS ?_ (by rw [fSt_len, fSt_len])
      show m__follow (lev Nn mm (n + m)) (folR (.d (.tuple (rows.map (rwD f)))) a x y none) (fSt S x y s) = _
      unfold m__follow
      have it : fItems (fSl (f2 oIx (fV 0) (fV 1)) (fP (fC (.int 1))) fNoP) (folR (.d (.tuple (rows.map (rwD f)))) a x y none) (fSt S x y s) = .ok ([r.2.1, r.2.2].map tgD) (fSt S x y s) := by
        refine items_ok (w := .d (.tuple [tgD r.2.1, tgD r.2.2])) ?_ rfl
        have g : f2 oIx (fV 0) (fV 1) (folR (.d (.tuple (rows.map (rwD f)))) a x y none) (fSt S x y s) = .ok (.d (rwD f r)) (fSt S x y s) := (f2_ok rfl rfl).trans (rows_tup f rows a r _ er)
        unfold fSl
        rw [g]
        show oSl (.d (.tuple [f r.1, tgD r.2.1, tgD r.2.2])) (some 1) none _ = _
        exact sl_1 _ _ _
      have ff : fFor (fItems (fSl (f2 oIx (fV 0) (fV 1)) (fP (fC (.int 1))) fNoP)) (gNm 4) (folB (lev Nn mm (n + m))) (folR (.d (.tuple (rows.map (rwD f)))) a x y none) (fSt S x y s) = forL (gNm 4) (folB (lev Nn mm (n + m))) ([r.2.1, r.2.2].map tgD) (folR (.d (.tuple (rows.map (rwD f)))) a x y none) (fSt S x y s) := by
        unfold fFor
        rw [it]
      cases b with
      | true => exact seq_rt (ff.trans lp)
      | false =>
        obtain ⟨v2, lp⟩ := lp
        exact (seq_nx (ff.trans lp)).trans rfl
end
end G61

set_option linter.all false
set_option maxHeartbeats 4000000
set_option maxRecDepth 100000
namespace FL
open PySem L2
theorem aug_ok {i : Nat} {fa : FE} {ev : Ev} {S : So} {a b : Int} (h : ev[i]? = some (some (.d (.int a)))) (hb : fa ev S = .ok (.d (.int b)) S) : fAug i (fun i j => i + j) fa ev S = .nx (ev.set i (some (.d (.int (a + b))))) S := by
  unfold fAug
  rw [h]
  show Res.toOut (fa ev S) _ _ = _
  rw [hb]
  rfl
theorem vals_ok {f : FE} {ev : Ev} {S : So} {w : W} {kvs : Dic} (h : f ev S = .ok w S) (hd : asD w S = some kvs) : fVals f ev S = .ok (.d (.list (kvs.map fun kv => kv.2))) S := by
  unfold fVals
  rw [h]
  show valsR w S = _
  unfold valsR
  rw [hd]
theorem forL_cons {g : FG} {b : FS} {d : PyData} {ds : List PyData} {ev e1 e2 : Ev} {S S2 : So} (hg : g (.d d) ev = some e1) (hb : b e1 S = .nx e2 S2) : forL g b (d :: ds) ev S = forL g b ds e2 S2 := by
  conv => lhs; unfold forL
  rw [hg]
  dsimp only
  rw [hb]
theorem for_ok {fi : FI} {g : FG} {b : FS} {ev : Ev} {S S1 : So} {ds : List PyData} (h : fi ev S = .ok ds S1) : fFor fi g b ev S = forL g b ds ev S1 := by
  unfold fFor
  rw [h]
theorem set_mid (S G : So) (a b : Ob) : (S ++ [a] ++ G).set S.length b = S ++ [b] ++ G := by simp
theorem rgD_nat (n : Nat) : rgD 0 n = (List.range n).map fun i => PyData.int (i : Nat) := by
  unfold rgD
  apply List.map_congr_left
  intro i _
  simp
theorem new_ok {fa : FA} {ev : Ev} {S : So} {ws : List W} {g : List W → So → Res W} {k : Nat} : True := trivial
end FL
namespace G61
open FL PySem L2 PC
section
variable {N : Type} [DecidableEq N] {f : N → PyData}
abbrev folsB (c : Cs) : FS := fDrop (fCall 4 (c i__follow) [] (fCons (fV 0) (fCons (fV 2) (fCons (fV 1) (fCons fNewK fNil)))))
theorem fols_loop {rows : List (Rw N)} (n m : Nat) (S : So) : ∀ (l : List Nat) (fd fd2 : List (Nat × Nat)) (G : So) (v : Option W), l.foldlM (fun fd a => (folP rows m a (fd, [])).map fun r => r.2.1) fd = some fd2 →
    ∃ v2 G2, forL (gNm 2) (folsB (lev Nn mm (n + m))) (l.map intD) [some (.d (.tuple (rows.map (rwD f)))), some (.r S.length), v, none, none] (S ++ [.k (fdD fd)] ++ G) = .nx [some (.d (.tuple (rows.map (rwD f)))), some (.r S.length), v2, none, none] (S ++ [.k (fdD fd2)] ++ G2)
  | [], fd, fd2, G, v, h => by
    rw [List.foldlM_nil] at h
    cases h
    exact ⟨v, G, rfl⟩
  | a :: l, fd, fd2, G, v, h => by
    rw [List.foldlM_cons] at h
    cases e : folP rows m a (fd, []) with
    | none => rw [e] at h; cases h
    | some r =>
      obtain ⟨b, s2⟩ := r
      rw [e] at h
      have h : l.foldlM (fun fd a => (folP rows m a (fd, [])).map fun r => r.2.1) s2.1 = some fd2 := h
      obtain ⟨v2, G2, ih⟩ := fols_loop n m S l s2.1 fd2 (G ++ [.k (trD s2.2)]) (some (.d (intD a))) h
      refine ⟨v2, G2, ?_⟩
      rw [List.map_cons]
      refine (forL_cons (e1 := [some (.d (.tuple (rows.map (rwD f)))), some (.r S.length), some (.d (intD a)), none, none]) (e2 := [some (.d (.tuple (rows.map (rwD f)))), some (.r S.length), some (.d (intD a)), none, none]) (S2 := S ++ [.k (fdD s2.1)] ++ (G ++ [.k (trD s2.2)])) rfl ?_).trans ih
      have Ul : (S ++ [Ob.k (fdD fd)] ++ G).length = S.length + 1 + G.length := by simp; omega
      have k1 := fol_ok (f := f) n (S := S ++ [Ob.k (fdD fd)] ++ G ++ [.k []]) (x := S.length) (y := (S ++ [Ob.k (fdD fd)] ++ G).length) (by simp) (by simp) (by omega) m a (fd, []) s2 b e
      have z1 : ∀ fd' (tr : List Nat), fSt (S ++ [Ob.k (fdD fd)] ++ G ++ [.k []]) S.length (S ++ [Ob.k (fdD fd)] ++ G).length (fd', tr) = S ++ [.k (fdD fd')] ++ (G ++ [.k (trD tr)]) := fun fd' tr => by
        unfold fSt
        have : (S ++ [Ob.k (fdD fd)] ++ G ++ [Ob.k []]).set S.length (.k (fdD fd')) = (S ++ [Ob.k (fdD fd')] ++ G) ++ [Ob.k []] := by simp
        rw [this]
        have l2 : (S ++ [Ob.k (fdD fd)] ++ G).length = (S ++ [Ob.k (fdD fd')] ++ G).length := by simp
        rw [l2]
        simp
      rw [z1, show s2 = (s2.1, s2.2) from rfl, z1] at k1
      refine drop_ok (w := .d (.bool b)) (call_ok (ws := [.d (.tuple (rows.map (rwD f))), .d (intD a), .r S.length, .r (S ++ [Ob.k (fdD fd)] ++ G).length]) (S1 := S ++ [Ob.k (fdD fd)] ++ G ++ [.k []]) (cons_ok rfl (cons_ok rfl (cons_ok rfl (cons_ok (x := .r (S ++ [Ob.k (fdD fd)] ++ G).length) (S1 := S ++ [Ob.k (fdD fd)] ++ G ++ [.k []]) rfl rfl)))) rfl ?_)
      rw [show S ++ [Ob.k (fdD fd)] ++ G ++ [.k []] = S ++ [Ob.k (fdD fd)] ++ (G ++ [.k (trD [])]) by simp]
      exact k1
theorem swap_ok (fd : List (Nat × Nat)) : ∀ acc : List (Nat × Nat), fd.foldl (fun acc (p : Nat × Nat) => putP acc (Sum.inl ((p.2 : Nat) : Int)) (PyData.int ((p.1 : Nat) : Int))) (fdD acc) = fdD (fd.foldl (fun acc p => putN acc p.2 p.1) acc) := by
  induction fd with
  | nil => intro acc; rfl
  | cons p fd ih =>
    intro acc
    rw [List.foldl_cons, List.foldl_cons, fd_put, ih]
theorem fols_ok {rows : List (Rw N)} (n m : Nat) (S : So) (few : rows.length ≤ 1000) (fd : List (Nat × Nat)) (fl : fd.length ≤ 1000) (h : folsP rows m = some fd) :
    lev Nn mm (n + m + 1) i__followers [.d (.tuple (rows.map (rwD f)))] S = .ok (.k (fdD (swapP fd))) S := by
  show fDef 5 (m__followers (lev Nn mm (n + m))) [.d (.tuple (rows.map (rwD f)))] S = .ok (.k (fdD (swapP fd))) S
  obtain ⟨v2, G2, lp⟩ := fols_loop (f := f) n m S (List.range rows.length) [] fd [] none h
  suffices hb : m__followers (lev Nn mm (n + m)) [some (.d (.tuple (rows.map (rwD f)))), none, none, none, none] S = .rt (.k (fdD (swapP fd))) (S ++ [.k (fdD fd)] ++ G2) by
    have hd := def_kk (k := 5) (b := m__followers (lev Nn mm (n + m))) (ws := [.d (.tuple (rows.map (rwD f)))]) hb
    have e : (S ++ [Ob.k (fdD fd)] ++ G2).take S.length = S := by simp
    rw [e] at hd
    exact hd
  unfold m__followers
  have e1 : fSet 1 fNewK [some (.d (.tuple (rows.map (rwD f)))), none, none, none, none] S = .nx [some (.d (.tuple (rows.map (rwD f)))), some (.r S.length), none, none, none] (S ++ [.k []]) := rfl
  refine Eq.trans (seq_nx e1) ?_
  have lq : fCons (fB1 oLen (fCons (fV 0) fNil)) fNil [some (.d (.tuple (rows.map (rwD f)))), some (.r S.length), none, none, none] (S ++ [.k []]) = .ok [.d (.int (rows.length : Nat))] (S ++ [.k []]) :=
    cons_ok (len_ok (w := .d (.tuple (rows.map (rwD f)))) rfl (by rw [len_tup, List.length_map])) rfl
  have rq := rng_x _ lq (by omega) (by omega)
  rw [show ((rows.length : Nat) : Int).toNat = rows.length by omega, rgD_nat] at rq
  have fq : fFor (fRng1 (fCons (fB1 oLen (fCons (fV 0) fNil)) fNil)) (gNm 2) (folsB (lev Nn mm (n + m))) [some (.d (.tuple (rows.map (rwD f)))), some (.r S.length), none, none, none] (S ++ [.k []]) =
      .nx [some (.d (.tuple (rows.map (rwD f)))), some (.r S.length), v2, none, none] (S ++ [.k (fdD fd)] ++ G2) := by
    rw [for_ok rq]
    have e : S ++ [Ob.k []] = S ++ [Ob.k (fdD [])] ++ [] := by simp
    rw [e]
    exact lp
  refine Eq.trans (seq_nx fq) ?_
  · refine ret_ok ?_
    unfold fDcI
    have g1 : (S ++ [Ob.k (fdD fd)] ++ G2)[S.length]? = some (.k (fdD fd)) := by simp
    show (match (S ++ [Ob.k (fdD fd)] ++ G2)[S.length]? with | some (.k kvs) => Res.bind (dcL _ fYes _ _ (wipeE _ [3, 4]) (itemsK kvs) ((S ++ [Ob.k (fdD fd)] ++ G2).set S.length .z) []) _ | _ => _) = _
    rw [g1]
    dsimp only
    have dq := dcL_fold (g := gTp 2 (gCs (gNm 3) (gCs (gNm 4) gNo))) (tk := fV 4) (tv := fV 3) (ev0 := [some (.d (.tuple (rows.map (rwD f)))), some (.r S.length), v2, none, none]) (S := (S ++ [Ob.k (fdD fd)] ++ G2).set S.length .z)
      (dt := fun p : Nat × Nat => .tuple [intD p.1, intD p.2]) (k := fun p => (Sum.inl ((p.2 : Nat) : Int) : Key)) (v := fun p => PyData.int ((p.1 : Nat) : Int)) fd [] (fun p _ => ⟨_, rfl, ⟨_, rfl, rfl⟩, rfl⟩) (by rw [sizeLine_eq]; simp; omega)
    rw [show ([] : Dic) = fdD [] from rfl, swap_ok] at dq
    have iq : itemsK (fdD fd) = fd.map fun p : Nat × Nat => .tuple [intD p.1, intD p.2] := by
      unfold itemsK fdD
      rw [List.map_map]
      rfl
    rw [iq]
    show Res.bind (dcL _ fYes _ _ [some (.d (.tuple (rows.map (rwD f)))), some (.r S.length), v2, none, none] _ _ (fdD [])) _ = _
    rw [dq]
    show Res.ok (W.k (fdD (swapP fd))) _ = _
    rw [List.set_set, set_mid]
theorem lenK (kvs : Dic) (S : So) : lenW (.k kvs) S = .ok (.d (.int (kvs.length : Nat))) S := rfl
theorem instrs_ok (T : Stg f) (Hn : Nam f) {rows : List (Rw N)} (n m : Nat) (S : So) (few : rows.length ≤ 1000) (hc : isCodeP rows = some true) (fd : List (Nat × Nat)) (fl : fd.length ≤ 1000) (h : folsP rows m = some fd) :
    lev Nn mm (n + m + 6) i_instructions [.d (.tuple (rows.map (rwD f)))] S = .ok (.d (.int (2 * (rows.length : Nat) - ((swapP fd).length : Nat)))) S := by
  refine def_rt (n := n + m + 5) ?_
  show m_instructions (lev Nn mm (n + m + 5)) [some (.d (.tuple (rows.map (rwD f))))] S = _
  unfold m_instructions
  refine (seq_nx (drop_ok (call_ok (cons_ok rfl rfl) rfl (check_code_ok T Hn (n + m) S rows few hc)))).trans ?_
  have fq := fols_ok (f := f) (n + 4) m S few fd fl h
  rw [show n + 4 + m + 1 = n + m + 5 by omega] at fq
  refine ret_ok ((f2_ok (x := .d (.int (2 * (rows.length : Nat)))) ?_ (len_ok (call_ok (cons_ok rfl rfl) rfl fq) (lenK _ S))).trans ?_)
  · refine (f2_ok rfl (len_ok (w := .d (.tuple (rows.map (rwD f)))) rfl (by rw [len_tup, List.length_map]))).trans ?_
    exact mul_s' 2 _ S (by decide) (by decide)
  · rw [List.length_map]
    rfl
end
end G61

set_option linter.all false
set_option maxHeartbeats 4000000
set_option maxRecDepth 100000
namespace FL
open PySem L2
theorem app_ok {fo : FE} {fa : FE} {ev : Ev} {S : So} {k : Nat} {xs : List PyData} {y : PyData} (ho : fo ev S = .ok (.r k) S) (hk : S[k]? = some (.l xs)) (ha : fa ev S = .ok (.d y) S) (hl : xs.length ≤ 100000) : fM oAppend fo (fCons fa fNil) ev S = .ok (.d .none) (S.set k (.l (xs ++ [y]))) := by
  unfold fM
  rw [ho]
  have e : asL (.r k) S = some xs := by simp [asL, hk]
  show (match asL (.r k) S with | some _ => Res.bind (fCons fa fNil ev S) _ | none => _) = _
  rw [e]
  dsimp only
  rw [cons_ok ha rfl]
  show (match S[k]? with | some (.l xs) => _ | _ => _) = _
  rw [hk]
  exact if_pos (by rw [sizeLine_eq]; omega)
theorem get2_ok {fo fk fd : FE} {ev : Ev} {S : So} {x y z : W} {dd : Dic} {o : Option PyData} (h1 : fo ev S = .ok x S) (hd : asD x S = some dd) (h2 : fk ev S = .ok y S) (h3 : fd ev S = .ok z S) (hl : look dd y = some o) : fGet2 fo fk fd ev S = .ok (o.elim z W.d) S := by
  unfold fGet2
  rw [h1]
  show (match asD x S with | none => _ | some _ => Res.bind (fk ev S) _) = _
  rw [hd]
  dsimp only
  rw [h2]
  show Res.bind (fd ev S) _ = _
  rw [h3]
  show (match asD x S with | none => _ | some dd => _) = _
  rw [hd]
  dsimp only
  rw [hl]
  cases o <;> rfl
theorem plain_ints : ∀ l : List Nat, PyData.plainAll (l.map fun i => PyData.int ((i : Nat) : Int)) = true
  | [] => rfl
  | a :: l => by rw [List.map_cons, PyData.plainAll, plain_ints l]; rfl
theorem any_ints (a : Nat) : ∀ l : List Nat, ((l.map fun i => PyData.int ((i : Nat) : Int)).any fun z => PyData.eqv z (.int ((a : Nat) : Int))) = decide (a ∈ l)
  | [] => rfl
  | b :: l => by
    rw [List.map_cons, List.any_cons, any_ints a l]
    have e : PyData.eqv (.int ((b : Nat) : Int)) (.int ((a : Nat) : Int)) = decide (b = a) := by
      simp only [PyData.eqv]
      by_cases c : b = a
      · simp [c]
      · simp [c]; omega
    rw [e]
    by_cases c : b = a
    · simp [c]
    · have c2 : ¬ a = b := fun z => c z.symm
      simp [c, c2]
theorem ni_ints (a : Nat) (l : List Nat) (S : So) : cNi (.d (.int ((a : Nat) : Int))) (.d (.list (l.map fun i => PyData.int ((i : Nat) : Int)))) S = .ok (.d (.bool (!decide (a ∈ l)))) S := by
  unfold cNi oOr oIn seqP
  simp only [toP]
  rw [if_pos ⟨rfl, plain_ints l, (by decide : (0:Nat) ≤ 150)⟩, any_ints]
  rfl
end FL
namespace G61
open FL PySem L2 PC
section
variable {N : Type} [DecidableEq N] {f : N → PyData}
theorem look_fd (fd : List (Nat × Nat)) (t : Tg) : look (fdD fd) (.d (tgD t)) = some (match t with | .row i => (fd.lookup i).map fun k => PyData.int ((k : Nat) : Int) | _ => none) := by
  unfold look
  rw [asKey_tg, Option.map_some]
  cases t with
  | row i => rw [show tgK (.row i) = Sum.inl ((i : Nat) : Int) from rfl, fd_val]
  | yes =>
    have : valP (fdD fd) (Sum.inr "yes") = none := by
      unfold valP
      rw [Option.map_eq_none_iff, List.find?_eq_none]
      intro x hx
      obtain ⟨p, _, rfl⟩ := List.mem_map.mp hx
      simp
    exact congrArg some this
  | no =>
    have : valP (fdD fd) (Sum.inr "no") = none := by
      unfold valP
      rw [Option.map_eq_none_iff, List.find?_eq_none]
      intro x hx
      obtain ⟨p, _, rfl⟩ := List.mem_map.mp hx
      simp
    exact congrArg some this
def pEv (cw : PyData) (fl : List (Nat × Nat)) (tk : PyData) (S : So) (k : Nat) (v5 v6 : Option W) : Ev := [some (.d cw), some (.k (fdD fl)), some (.d tk), some (.r S.length), some (.d (intD k)), v5, v6]
abbrev chB : FS := (fSeq (fSet 6 (f2 oIx (fV 1) (fV 6))) 
        (fSeq (fAug 4 (fun i j => i + j) (fC (.int 1))) 
        (fSetKey (fV 4) (fV 3) (fV 6))))
theorem put_at (S : So) (pl : List (Nat × Nat)) (ev : Ev) (a k : Nat) (h3 : ev[3]? = some (some (.r S.length))) (h4 : ev[4]? = some (some (.d (intD k)))) (h6 : ev[6]? = some (some (.d (intD a)))) (few : ¬ 1000 ≤ pl.length) :
    fSetKey (fV 4) (fV 3) (fV 6) ev (S ++ [.k (fdD pl)]) = .nx ev (S ++ [.k (fdD (putN pl a k))]) := by
  have v : ∀ (i : Nat) (w : W) (T : So), ev[i]? = some (some w) → fV i ev T = .ok w T := fun i w T h => by unfold fV; rw [h]
  refine (setKey_ok (v 4 _ _ h4) (v 3 _ _ h3) (v 6 _ _ h6) (asKey_tg (.row a)) (kvs := fdD pl) (by simp) (by rw [List.length_map]; omega)).trans ?_
  rw [show tgK (.row a) = Sum.inl ((a : Nat) : Int) from rfl, fd_put]
  simp
theorem chain_loop (cw tk : PyData) (S : So) (v5 : Option W) (fl : List (Nat × Nat)) : ∀ (m a k : Nat) (pl pl2 : List (Nat × Nat)) (k2 : Nat), chainP fl m a k pl = some (k2, pl2) →
    ∃ a2 : Nat, whl (fB (f2 cIn (fV 6) (fV 1))) chB m (pEv cw fl tk S k v5 (some (.d (intD a)))) (S ++ [.k (fdD pl)]) = .nx (pEv cw fl tk S k2 v5 (some (.d (intD a2)))) (S ++ [.k (fdD pl2)])
  | 0, a, k, pl, pl2, k2, h => by cases h
  | m + 1, a, k, pl, pl2, k2, h => by
    have tq : fB (f2 cIn (fV 6) (fV 1)) (pEv cw fl tk S k v5 (some (.d (intD a)))) (S ++ [.k (fdD pl)]) = .ok (fl.lookup a).isSome (S ++ [.k (fdD pl)]) := by
      refine fB_ok ((f2_ok rfl rfl).trans ((cIn_dict (x := .d (intD a)) (w := .k (fdD fl)) rfl rfl (asKey_tg (.row a))).trans ?_))
      rw [show tgK (.row a) = Sum.inl ((a : Nat) : Int) from rfl, fd_val, Option.isSome_map]
    unfold chainP at h
    cases lk : fl.lookup a with
    | none =>
      rw [lk] at h tq
      cases h
      exact ⟨a, whl_f tq⟩
    | some b =>
      rw [lk] at h tq
      dsimp only at h
      by_cases big : 1000 ≤ pl.length
      · rw [if_pos big] at h; cases h
      rw [if_neg big] at h
      obtain ⟨a2, ih⟩ := chain_loop cw tk S v5 fl m b (k + 1) (putN pl b (k + 1)) pl2 k2 h
      refine ⟨a2, (whl_t tq ?_).trans ih⟩
      have g1 : f2 oIx (fV 1) (fV 6) (pEv cw fl tk S k v5 (some (.d (intD a)))) (S ++ [.k (fdD pl)]) = .ok (.d (intD b)) (S ++ [.k (fdD pl)]) := by
        refine (f2_ok rfl rfl).trans (ix_dk (x := .d (intD a)) (w := .k (fdD fl)) rfl rfl rfl (asKey_tg (.row a)) ?_)
        rw [show tgK (.row a) = Sum.inl ((a : Nat) : Int) from rfl, fd_val, lk]
        rfl
      have e1 : fSet 6 (f2 oIx (fV 1) (fV 6)) (pEv cw fl tk S k v5 (some (.d (intD a)))) (S ++ [.k (fdD pl)]) = .nx (pEv cw fl tk S k v5 (some (.d (intD b)))) (S ++ [.k (fdD pl)]) := set_ok g1
      have e2 : fAug 4 (fun i j => i + j) (fC (.int 1)) (pEv cw fl tk S k v5 (some (.d (intD b)))) (S ++ [.k (fdD pl)]) = .nx (pEv cw fl tk S (k + 1) v5 (some (.d (intD b)))) (S ++ [.k (fdD pl)]) := (aug_ok (a := (k : Nat)) rfl rfl).trans rfl
      refine Eq.trans (seq_nx e1) (Eq.trans (seq_nx e2) ?_)
      exact put_at S pl _ b (k + 1) rfl rfl rfl big
abbrev plB : FS := (fSeq (fSet 6 (fV 5)) 
      (fSeq (fSetKey (fV 4) (fV 3) (fV 6)) 
      (fSeq (fWhile (fB (f2 cIn (fV 6) (fV 1))) chB)
      (fAug 4 (fun i j => i + j) (fC (.int 2))))))
theorem places_loop (cw tk : PyData) (S : So) (fl : List (Nat × Nat)) : ∀ (l : List Nat) (s s2 : Nat × List (Nat × Nat)) (v5 v6 : Option W),
    l.foldlM (fun (s : Nat × List (Nat × Nat)) a => if 1000 ≤ s.2.length then none else (chainP fl 100000 a s.1 (putN s.2 a s.1)).map fun r => (r.1 + 2, r.2)) s = some s2 →
    ∃ w5 w6, forL (gNm 5) plB (l.map intD) (pEv cw fl tk S s.1 v5 v6) (S ++ [.k (fdD s.2)]) = .nx (pEv cw fl tk S s2.1 w5 w6) (S ++ [.k (fdD s2.2)])
  | [], s, s2, v5, v6, h => by
    rw [List.foldlM_nil] at h
    cases h
    exact ⟨v5, v6, rfl⟩
  | a :: l, s, s2, v5, v6, h => by
    rw [List.foldlM_cons] at h
    by_cases big : 1000 ≤ s.2.length
    · rw [if_pos big] at h; cases h
    rw [if_neg big] at h
    cases ec : chainP fl 100000 a s.1 (putN s.2 a s.1) with
    | none => rw [ec] at h; cases h
    | some r =>
      obtain ⟨k2, pl2⟩ := r
      rw [ec] at h
      obtain ⟨a2, lq⟩ := chain_loop cw tk S (some (.d (intD a))) fl 100000 a s.1 _ pl2 k2 ec
      obtain ⟨w5, w6, ih⟩ := places_loop cw tk S fl l (k2 + 2, pl2) s2 (some (.d (intD a))) (some (.d (intD a2))) h
      refine ⟨w5, w6, ?_⟩
      rw [List.map_cons]
      refine (forL_cons (e1 := pEv cw fl tk S s.1 (some (.d (intD a))) v6) (e2 := pEv cw fl tk S (k2 + 2) (some (.d (intD a))) (some (.d (intD a2)))) (S2 := S ++ [.k (fdD pl2)]) rfl ?_).trans ih
      have e1 : fSet 6 (fV 5) (pEv cw fl tk S s.1 (some (.d (intD a))) v6) (S ++ [.k (fdD s.2)]) = .nx (pEv cw fl tk S s.1 (some (.d (intD a))) (some (.d (intD a)))) (S ++ [.k (fdD s.2)]) := rfl
      have e2 : fSetKey (fV 4) (fV 3) (fV 6) (pEv cw fl tk S s.1 (some (.d (intD a))) (some (.d (intD a)))) (S ++ [.k (fdD s.2)]) = .nx (pEv cw fl tk S s.1 (some (.d (intD a))) (some (.d (intD a)))) (S ++ [.k (fdD (putN s.2 a s.1))]) := put_at S s.2 _ a s.1 rfl rfl rfl big
      have e3 : fWhile (fB (f2 cIn (fV 6) (fV 1))) chB (pEv cw fl tk S s.1 (some (.d (intD a))) (some (.d (intD a)))) (S ++ [.k (fdD (putN s.2 a s.1))]) = .nx (pEv cw fl tk S k2 (some (.d (intD a))) (some (.d (intD a2)))) (S ++ [.k (fdD pl2)]) := lq
      refine Eq.trans (seq_nx e1) (Eq.trans (seq_nx e2) (Eq.trans (seq_nx e3) ?_))
      exact (aug_ok (a := (k2 : Nat)) (b := 2) rfl rfl).trans rfl
theorem places_ok {rows : List (Rw N)} (n : Nat) (S : So) (few : rows.length ≤ 1000) (fl pl : List (Nat × Nat)) (h : placesP rows.length fl = some pl) :
    lev Nn mm (n + 1) i__places [.d (.tuple (rows.map (rwD f))), .k (fdD fl)] S = .ok (.k (fdD pl)) S := by
  show fDef 7 (m__places (lev Nn mm n)) [.d (.tuple (rows.map (rwD f))), .k (fdD fl)] S = .ok (.k (fdD pl)) S
  unfold placesP at h
  rw [Option.map_eq_some_iff] at h
  obtain ⟨s2, h, rfl⟩ := h
  obtain ⟨w5, w6, lp⟩ := places_loop (.tuple (rows.map (rwD f))) (.list ((fl.map (·.2)).map intD)) S fl _ (0, []) s2 none none h
  suffices hb : m__places (lev Nn mm n) [some (.d (.tuple (rows.map (rwD f)))), some (.k (fdD fl)), none, none, none, none, none] S = .rt (.r S.length) (S ++ [.k (fdD s2.2)]) by
    have hd := def_k (k := 7) (b := m__places (lev Nn mm n)) (ws := [.d (.tuple (rows.map (rwD f))), .k (fdD fl)]) (kvs := fdD s2.2) hb (Nat.le_refl _) (by simp)
    have e : (S ++ [Ob.k (fdD s2.2)]).take S.length = S := by simp
    rw [e] at hd
    exact hd
  unfold m__places
  have e1 : fSet 2 (fVals (fV 1)) [some (.d (.tuple (rows.map (rwD f)))), some (.k (fdD fl)), none, none, none, none, none] S = .nx [some (.d (.tuple (rows.map (rwD f)))), some (.k (fdD fl)), some (.d (.list ((fl.map (·.2)).map intD))), none, none, none, none] S := by
    refine set_ok ((vals_ok (w := .k (fdD fl)) rfl rfl).trans ?_)
    rw [List.map_map, List.map_map]
    rfl
  have e2 : fSet 3 fNewK [some (.d (.tuple (rows.map (rwD f)))), some (.k (fdD fl)), some (.d (.list ((fl.map (·.2)).map intD))), none, none, none, none] S = .nx [some (.d (.tuple (rows.map (rwD f)))), some (.k (fdD fl)), some (.d (.list ((fl.map (·.2)).map intD))), some (.r S.length), none, none, none] (S ++ [.k []]) := rfl
  have e3 : fSet 4 (fC (.int 0)) [some (.d (.tuple (rows.map (rwD f)))), some (.k (fdD fl)), some (.d (.list ((fl.map (·.2)).map intD))), some (.r S.length), none, none, none] (S ++ [.k []]) = .nx (pEv (.tuple (rows.map (rwD f))) fl (.list ((fl.map (·.2)).map intD)) S 0 none none) (S ++ [.k (fdD [])]) := rfl
  have e4 : fItems (fLc (fRng1 (fCons (fB1 oLen (fCons (fV 0) fNil)) fNil)) (gNm 6) (fB (f2 cNi (fV 6) (fV 2))) (fV 6) [6]) (pEv (.tuple (rows.map (rwD f))) fl (.list ((fl.map (·.2)).map intD)) S 0 none none) (S ++ [.k (fdD [])]) = .ok (((List.range rows.length).filter fun a => !decide (a ∈ fl.map (·.2))).map intD) (S ++ [.k (fdD [])]) := by
    refine items_ok (w := .d (.list _)) (lc_e (ds := (List.range rows.length).map intD) ?_ ?_) rfl
    · have rq := rng_x (fa := fCons (fB1 oLen (fCons (fV 0) fNil)) fNil) (ev := pEv (.tuple (rows.map (rwD f))) fl (.list ((fl.map (·.2)).map intD)) S 0 none none) (S := S ++ [.k (fdD [])]) _ (cons_ok (len_ok (w := .d (.tuple (rows.map (rwD f)))) rfl (by rw [len_tup, List.length_map])) rfl) (by omega) (by omega)
      rw [show ((rows.length : Nat) : Int).toNat = rows.length by omega, rgD_nat] at rq
      exact rq
    · have z := lcL_flt (g := gNm 6) (t := fB (f2 cNi (fV 6) (fV 2))) (te := fV 6) (ev0 := pEv (.tuple (rows.map (rwD f))) fl (.list ((fl.map (·.2)).map intD)) S 0 none none) (S := S ++ [.k (fdD [])]) (dt := intD) (f := intD) (p := fun a => !decide (a ∈ fl.map (·.2))) (List.range rows.length) []
        (fun a _ => ⟨pEv (.tuple (rows.map (rwD f))) fl (.list ((fl.map (·.2)).map intD)) S 0 none (some (.d (intD a))), rfl, fB_ok ((f2_ok rfl rfl).trans (ni_ints a _ _)), fun _ => rfl⟩) (by rw [sizeLine_eq]; simp; omega)
      rw [List.nil_append] at z
      exact z
  have e5 : fFor (fItems (fLc (fRng1 (fCons (fB1 oLen (fCons (fV 0) fNil)) fNil)) (gNm 6) (fB (f2 cNi (fV 6) (fV 2))) (fV 6) [6])) (gNm 5) plB (pEv (.tuple (rows.map (rwD f))) fl (.list ((fl.map (·.2)).map intD)) S 0 none none) (S ++ [.k (fdD [])]) = .nx (pEv (.tuple (rows.map (rwD f))) fl (.list ((fl.map (·.2)).map intD)) S s2.1 w5 w6) (S ++ [.k (fdD s2.2)]) := by
    rw [for_ok e4]
    exact lp
  refine Eq.trans (seq_nx e1) (Eq.trans (seq_nx e2) (Eq.trans (seq_nx e3) (Eq.trans (seq_nx e5) ?_)))
  rfl
end
end G61

set_option linter.all false
set_option maxHeartbeats 4000000
set_option maxRecDepth 100000
namespace G61
open FL PySem L2 PC
section
variable {N : Type} [DecidableEq N] {f : N → PyData}
theorem eq_int_tg (b : Nat) (t : Tg) (S : So) : cEq (.d (intD b)) (.d (tgD t)) S = .ok (.d (.bool (decide (t = .row b)))) S := by
  unfold cEq oEq
  simp only [toP]
  rw [if_pos ⟨rfl, tg_pl t, (by decide : (0:Nat) ≤ 150)⟩]
  have := eqv_tg (.row b) t
  show Res.ok (W.d (.bool (PyData.eqv (tgD (.row b)) (tgD t)))) S = _
  rw [this]
  by_cases c : t = .row b
  · rw [c]
  · have c2 : ¬ Tg.row b = t := fun z => c z.symm
    simp [c, c2]
def qEv (rows : List (Rw N)) (f : N → PyData) (fl pl : List (Nat × Nat)) (S : So) (v4 v5 v6 v7 : Option W) : Ev := [some (.d (.tuple (rows.map (rwD f)))), some (.k (fdD fl)), some (.k (fdD pl)), some (.r S.length), v4, v5, v6, v7]
abbrev mchB : FS := (fSeq (fAsg (gTp 3 (gCs (gNm 5) (gCs (gNm 6) (gCs (gNm 7) gNo)))) (f2 oIx (fV 0) (fV 4))) 
      (fSeq (fIfS (fAndT (fB (f2 cIn (fV 4) (fV 1))) (fB (f2 cEq (f2 oIx (fV 1) (fV 4)) (fV 6)))) 
        (fDrop (fM oAppend (fV 3) (fCons (fTup (fCons (fC (.str "jump")) (fCons (fV 5) (fCons (fC (.str "no")) (fCons (fGet2 (fV 2) (fV 7) (fV 7)) fNil))))) fNil))) 
        (fDrop (fM oAppend (fV 3) (fCons (fTup (fCons (fC (.str "jump")) (fCons (fV 5) (fCons (fC (.str "yes")) (fCons (fGet2 (fV 2) (fV 6) (fV 6)) fNil))))) fNil)))) 
      (fIfS (fB (f2 cNi (fV 4) (fV 1))) 
        (fDrop (fM oAppend (fV 3) (fCons (fTup (fCons (fC (.str "goto")) (fCons (fGet2 (fV 2) (fV 7) (fV 7)) fNil))) fNil))) 
        fNext)))
theorem get_ok (fl pl : List (Nat × Nat)) (t : Tg) (i : Nat) (ev : Ev) (T : So) (h2 : ev[2]? = some (some (.k (fdD pl)))) (hi : ev[i]? = some (some (.d (tgD t)))) : fGet2 (fV 2) (fV i) (fV i) ev T = .ok (.d (tgD (getT pl t))) T := by
  have v : ∀ (i : Nat) (w : W) (T : So), ev[i]? = some (some w) → fV i ev T = .ok w T := fun i w T h => by unfold fV; rw [h]
  rw [get2_ok (v 2 _ _ h2) rfl (v i _ _ hi) (v i _ _ hi) (look_fd pl t)]
  cases t with
  | yes => rfl
  | no => rfl
  | row j =>
    show Res.ok (Option.elim ((pl.lookup j).map _) _ _) T = _
    cases e : pl.lookup j <;> simp [getT, e] <;> rfl
theorem mch_turn (rows : List (Rw N)) (fl pl : List (Nat × Nat)) (S : So) (acc : List (Ins N)) (few : ¬ 1000 ≤ acc.length) (a : Nat) (r : Rw N) (hr : rows[a]? = some r) (v5 v6 v7 : Option W) :
    mchB (qEv rows f fl pl S (some (.d (intD a))) v5 v6 v7) (S ++ [.l (acc.map (insD f))]) = .nx (qEv rows f fl pl S (some (.d (intD a))) (some (.d (f r.1))) (some (.d (tgD r.2.1))) (some (.d (tgD r.2.2)))) (S ++ [.l ((acc ++ pieceP fl pl a r).map (insD f))]) := by
  have e1 : fAsg (gTp 3 (gCs (gNm 5) (gCs (gNm 6) (gCs (gNm 7) gNo)))) (f2 oIx (fV 0) (fV 4)) (qEv rows f fl pl S (some (.d (intD a))) v5 v6 v7) (S ++ [.l (acc.map (insD f))]) =
      .nx (qEv rows f fl pl S (some (.d (intD a))) (some (.d (f r.1))) (some (.d (tgD r.2.1))) (some (.d (tgD r.2.2)))) (S ++ [.l (acc.map (insD f))]) :=
    asg_ok (w := .d (rwD f r)) ((f2_ok rfl rfl).trans (rows_tup f rows a r _ hr)) rfl
  refine Eq.trans (seq_nx e1) ?_
  generalize hev : qEv rows f fl pl S (some (.d (intD a))) (some (.d (f r.1))) (some (.d (tgD r.2.1))) (some (.d (tgD r.2.2))) = ev
  have v1 : ∀ T, fV 1 ev T = .ok (.k (fdD fl)) T := fun T => by rw [← hev]; rfl
  have v3 : ∀ T, fV 3 ev T = .ok (.r S.length) T := fun T => by rw [← hev]; rfl
  have v4 : ∀ T, fV 4 ev T = .ok (.d (intD a)) T := fun T => by rw [← hev]; rfl
  have v5 : ∀ T, fV 5 ev T = .ok (.d (f r.1)) T := fun T => by rw [← hev]; rfl
  have v6 : ∀ T, fV 6 ev T = .ok (.d (tgD r.2.1)) T := fun T => by rw [← hev]; rfl
  have g6 : ∀ T, fGet2 (fV 2) (fV 6) (fV 6) ev T = .ok (.d (tgD (getT pl r.2.1))) T := fun T => get_ok fl pl r.2.1 6 ev T (by rw [← hev]; rfl) (by rw [← hev]; rfl)
  have g7 : ∀ T, fGet2 (fV 2) (fV 7) (fV 7) ev T = .ok (.d (tgD (getT pl r.2.2))) T := fun T => get_ok fl pl r.2.2 7 ev T (by rw [← hev]; rfl) (by rw [← hev]; rfl)
  have push : ∀ (fe : FE) (i : Ins N) (ac : List (Ins N)), ac.length ≤ 100000 → (∀ T, fe ev T = .ok (.d (insD f i)) T) → fDrop (fM oAppend (fV 3) (fCons fe fNil)) ev (S ++ [.l (ac.map (insD f))]) = .nx ev (S ++ [.l ((ac ++ [i]).map (insD f))]) := fun fe i ac hl he => by
    refine drop_ok (w := .d .none) ((app_ok (k := S.length) (xs := ac.map (insD f)) (y := insD f i) (v3 _) (by simp) (he _) (by rw [List.length_map]; exact hl)).trans ?_)
    simp
  have ni : ∀ T, fB (f2 cNi (fV 4) (fV 1)) ev T = .ok (!(fl.lookup a).isSome) T := fun T => by
    refine fB_ok ((f2_ok (v4 _) (v1 _)).trans ((cNi_dict (x := .d (intD a)) (w := .k (fdD fl)) rfl rfl (asKey_tg (.row a))).trans ?_))
    rw [show tgK (.row a) = Sum.inl ((a : Nat) : Int) from rfl, fd_val, Option.isSome_map]
  have inq : ∀ T, fB (f2 cIn (fV 4) (fV 1)) ev T = .ok (fl.lookup a).isSome T := fun T => by
    refine fB_ok ((f2_ok (v4 _) (v1 _)).trans ((cIn_dict (x := .d (intD a)) (w := .k (fdD fl)) rfl rfl (asKey_tg (.row a))).trans ?_))
    rw [show tgK (.row a) = Sum.inl ((a : Nat) : Int) from rfl, fd_val, Option.isSome_map]
  have jn : ∀ T, fTup (fCons (fC (.str "jump")) (fCons (fV 5) (fCons (fC (.str "no")) (fCons (fGet2 (fV 2) (fV 7) (fV 7)) fNil)))) ev T = .ok (.d (insD f (.jmp r.1 false (getT pl r.2.2)))) T := fun T =>
    tup_ok (cons_ok rfl (cons_ok (v5 T) (cons_ok rfl (cons_ok (g7 T) rfl)))) rfl (by simp)
  have jy : ∀ T, fTup (fCons (fC (.str "jump")) (fCons (fV 5) (fCons (fC (.str "yes")) (fCons (fGet2 (fV 2) (fV 6) (fV 6)) fNil)))) ev T = .ok (.d (insD f (.jmp r.1 true (getT pl r.2.1)))) T := fun T =>
    tup_ok (cons_ok rfl (cons_ok (v5 T) (cons_ok rfl (cons_ok (g6 T) rfl)))) rfl (by simp)
  have go : ∀ T, fTup (fCons (fC (.str "goto")) (fCons (fGet2 (fV 2) (fV 7) (fV 7)) fNil)) ev T = .ok (.d (insD f (.go (getT pl r.2.2)))) T := fun T =>
    tup_ok (cons_ok rfl (cons_ok (g7 T) rfl)) rfl (by simp)
  unfold pieceP
  cases lk : fl.lookup a with
  | some b =>
    rw [lk] at ni inq
    have ix : ∀ T, f2 oIx (fV 1) (fV 4) ev T = .ok (.d (intD b)) T := fun T => by
      refine (f2_ok (v1 _) (v4 _)).trans (ix_dk (x := .d (intD a)) (w := .k (fdD fl)) rfl rfl rfl (asKey_tg (.row a)) ?_)
      rw [show tgK (.row a) = Sum.inl ((a : Nat) : Int) from rfl, fd_val, lk]
      rfl
    have c := fun T => andT_b (inq T) (fun _ => fB_ok ((f2_ok (ix T) (v6 T)).trans (eq_int_tg b r.2.1 T)))
    by_cases cy : r.2.1 = .row b
    · rw [decide_eq_true cy] at c
      dsimp only
      rw [if_pos cy]
      refine Eq.trans (seq_nx ((ifS_t (c _)).trans (push _ _ acc (by omega) jn))) ?_
      exact (ifS_f (ni _)).trans rfl
    · rw [decide_eq_false cy] at c
      dsimp only
      rw [if_neg cy]
      refine Eq.trans (seq_nx ((ifS_f (c _)).trans (push _ _ acc (by omega) jy))) ?_
      exact (ifS_f (ni _)).trans rfl
  | none =>
    rw [lk] at ni inq
    have c := fun T => andT_b (tb := fB (f2 cEq (f2 oIx (fV 1) (fV 4)) (fV 6))) (b := false) (inq T) (fun z => by cases z)
    dsimp only
    refine Eq.trans (seq_nx ((ifS_f (c _)).trans (push _ _ acc (by omega) jy))) ?_
    refine (ifS_t (ni _)).trans ((push _ _ (acc ++ [.jmp r.1 true (getT pl r.2.1)]) (by simp; omega) go).trans ?_)
    rw [List.append_assoc]
    rfl
theorem mch_loop (rows : List (Rw N)) (fl pl : List (Nat × Nat)) (S : So) : ∀ (l : List Nat) (acc acc2 : List (Ins N)) (v4 v5 v6 v7 : Option W), l.foldlM (fun acc a => if 1000 ≤ acc.length then none else (rows[a]?).map fun r => acc ++ pieceP fl pl a r) acc = some acc2 →
    ∃ w4 w5 w6 w7, forL (gNm 4) mchB (l.map intD) (qEv rows f fl pl S v4 v5 v6 v7) (S ++ [.l (acc.map (insD f))]) = .nx (qEv rows f fl pl S w4 w5 w6 w7) (S ++ [.l (acc2.map (insD f))])
  | [], acc, acc2, v4, v5, v6, v7, h => by
    rw [List.foldlM_nil] at h
    cases h
    exact ⟨v4, v5, v6, v7, rfl⟩
  | a :: l, acc, acc2, v4, v5, v6, v7, h => by
    rw [List.foldlM_cons] at h
    by_cases big : 1000 ≤ acc.length
    · rw [if_pos big] at h; cases h
    rw [if_neg big] at h
    cases er : rows[a]? with
    | none => rw [er] at h; cases h
    | some r =>
      rw [er] at h
      obtain ⟨w4, w5, w6, w7, ih⟩ := mch_loop rows fl pl S l _ acc2 (some (.d (intD a))) (some (.d (f r.1))) (some (.d (tgD r.2.1))) (some (.d (tgD r.2.2))) h
      refine ⟨w4, w5, w6, w7, ?_⟩
      rw [List.map_cons]
      exact (forL_cons (e1 := qEv rows f fl pl S (some (.d (intD a))) v5 v6 v7) rfl (mch_turn rows fl pl S acc big a r er v5 v6 v7)).trans ih
theorem machine_ok (T : Stg f) (Hn : Nam f) {rows : List (Rw N)} (n m : Nat) (S : So) (few : rows.length ≤ 1000) (hc : isCodeP rows = some true) (fd pl : List (Nat × Nat)) (fl : fd.length ≤ 1000) (h : folsP rows m = some fd) (hp : placesP rows.length (swapP fd) = some pl) (ms : List (Ins N)) (hm : machP rows (swapP fd) pl = some ms) :
    lev Nn mm (n + m + 6) i_machine [.d (.tuple (rows.map (rwD f)))] S = .ok (.d (.tuple (ms.map (insD f)))) S := by
  have fq := fols_ok (f := f) (n + 4) m S few fd fl h
  rw [show n + 4 + m + 1 = n + m + 5 by omega] at fq
  have pq := places_ok (f := f) (rows := rows) (n + m + 4) S few (swapP fd) pl hp
  obtain ⟨w4, w5, w6, w7, lp⟩ := mch_loop (f := f) rows (swapP fd) pl S _ [] ms none none none none hm
  suffices hb : m_machine (lev Nn mm (n + m + 5)) [some (.d (.tuple (rows.map (rwD f)))), none, none, none, none, none, none, none] S = .rt (.d (.tuple (ms.map (insD f)))) (S ++ [.l (ms.map (insD f))]) by
    show fDef 8 (m_machine (lev Nn mm (n + m + 5))) [.d (.tuple (rows.map (rwD f)))] S = _
    have hd := fdef_d (k := 8) (b := m_machine (lev Nn mm (n + m + 5))) (ws := [.d (.tuple (rows.map (rwD f)))]) hb
    have e : (S ++ [Ob.l (ms.map (insD f))]).take S.length = S := by simp
    rw [e] at hd
    exact hd
  unfold m_machine
  have e0 : fDrop (fCall 1 (lev Nn mm (n + m + 5) i_check_code) [] (fCons (fV 0) fNil)) [some (.d (.tuple (rows.map (rwD f)))), none, none, none, none, none, none, none] S = .nx [some (.d (.tuple (rows.map (rwD f)))), none, none, none, none, none, none, none] S :=
    drop_ok (call_ok (cons_ok rfl rfl) rfl (check_code_ok T Hn (n + m) S rows few hc))
  have e1 : fSet 1 (fCall 1 (lev Nn mm (n + m + 5) i__followers) [] (fCons (fV 0) fNil)) [some (.d (.tuple (rows.map (rwD f)))), none, none, none, none, none, none, none] S = .nx [some (.d (.tuple (rows.map (rwD f)))), some (.k (fdD (swapP fd))), none, none, none, none, none, none] S :=
    set_ok (call_ok (cons_ok rfl rfl) rfl fq)
  have e2 : fSet 2 (fCall 2 (lev Nn mm (n + m + 5) i__places) [] (fCons (fV 0) (fCons (fV 1) fNil))) [some (.d (.tuple (rows.map (rwD f)))), some (.k (fdD (swapP fd))), none, none, none, none, none, none] S = .nx [some (.d (.tuple (rows.map (rwD f)))), some (.k (fdD (swapP fd))), some (.k (fdD pl)), none, none, none, none, none] S :=
    set_ok (call_ok (cons_ok rfl (cons_ok rfl rfl)) rfl pq)
  have e3 : fSet 3 (fMut fNil) [some (.d (.tuple (rows.map (rwD f)))), some (.k (fdD (swapP fd))), some (.k (fdD pl)), none, none, none, none, none] S = .nx (qEv rows f (swapP fd) pl S none none none none) (S ++ [.l (([] : List (Ins N)).map (insD f))]) := by
    refine set_ok (w := .r S.length) ?_
    unfold fMut
    exact if_pos (e := Res.no) (show ([] : List PyData).length ≤ sizeLine by simp)
  have e4 : fFor (fItems (fV 2)) (gNm 4) mchB (qEv rows f (swapP fd) pl S none none none none) (S ++ [.l (([] : List (Ins N)).map (insD f))]) = .nx (qEv rows f (swapP fd) pl S w4 w5 w6 w7) (S ++ [.l (ms.map (insD f))]) := by
    have it : fItems (fV 2) (qEv rows f (swapP fd) pl S none none none none) (S ++ [.l (([] : List (Ins N)).map (insD f))]) = .ok ((pl.map (·.1)).map intD) (S ++ [.l (([] : List (Ins N)).map (insD f))]) := by
      refine items_ok (w := .k (fdD pl)) rfl ?_
      show some ((fdD pl).map fun kv => keyP kv.1) = _
      unfold fdD
      rw [List.map_map, List.map_map]
      rfl
    rw [for_ok it]
    exact lp
  refine Eq.trans (seq_nx e0) (Eq.trans (seq_nx e1) (Eq.trans (seq_nx e2) (Eq.trans (seq_nx e3) (Eq.trans (seq_nx e4) ?_))))
  refine ret_ok ((b1_ok (cons_ok (x := .r S.length) rfl rfl)).trans ?_)
  show tupW (.r S.length) (S ++ [.l (ms.map (insD f))]) = _
  have : asL (.r S.length) (S ++ [.l (ms.map (insD f))]) = some (ms.map (insD f)) := by simp [asL]
  unfold tupW
  rw [this]
  rfl
end
end G61

set_option linter.all false
set_option maxHeartbeats 4000000
set_option maxRecDepth 100000
namespace PC
section
variable {N : Type} [DecidableEq N]
def ordL (rows : List (Rw N)) : Nat → List Nat → List Tg → Option (List Nat)
  | 0, _, _ => none
  | m + 1, met, left => match left.getLast? with
    | none => some met
    | some (.row i) => if i ∈ met then ordL rows m met left.dropLast else match rows[i]? with
      | some r => if 1000 ≤ met.length ∨ 1000 ≤ left.length then none else ordL rows m (met ++ [i]) (left.dropLast ++ [r.2.2, r.2.1])
      | none => none
    | some _ => ordL rows m met left.dropLast
theorem ordL_len {rows : List (Rw N)} : ∀ (m : Nat) (met : List Nat) (left : List Tg) (out : List Nat), ordL rows m met left = some out → met.length ≤ 100000 → out.length ≤ 100000
  | 0, _, _, _, h, _ => by cases h
  | m + 1, met, left, out, h, hl => by
    unfold ordL at h
    split at h
    · cases h
      exact hl
    · split at h
      · exact ordL_len m _ _ _ h hl
      · split at h
        · split at h
          · cases h
          · exact ordL_len m _ _ _ h (by rw [List.length_append, List.length_singleton]; omega)
        · cases h
    · exact ordL_len m _ _ _ h hl
def ixT (met : List Nat) : Tg → Option Tg
  | .row i => (met.idxOf? i).map .row
  | t => some t
def ordR (rows : List (Rw N)) (met : List Nat) (i : Nat) : Option (Rw N) := (rows[i]?).bind fun r => (ixT met r.2.1).bind fun a => (ixT met r.2.2).map fun b => (r.1, a, b)
def ordP (rows : List (Rw N)) (start : Tg) : Option (List (Rw N)) := (ordL rows 100000 [] [start]).bind fun met => met.mapM (ordR rows met)
end
end PC
namespace FL
open PySem L2
theorem idx_ints (a : Nat) : ∀ l : List Nat, idxP (.int ((a : Nat) : Int)) (l.map fun i => PyData.int ((i : Nat) : Int)) = l.idxOf? a
  | [] => rfl
  | b :: l => by
    rw [List.map_cons]
    unfold idxP
    rw [idx_ints a l, List.idxOf?_cons]
    have e : eqP (.int ((b : Nat) : Int)) (.int ((a : Nat) : Int)) = (b == a) := by
      show (((b : Nat) : Int) == ((a : Nat) : Int)) = _
      by_cases c : b = a
      · subst c
        rw [beq_self_eq_true, beq_self_eq_true]
      · have c2 : ¬ ((b : Nat) : Int) = ((a : Nat) : Int) := by omega
        rw [beq_eq_false_iff_ne.mpr c2, beq_eq_false_iff_ne.mpr c]
    rw [e]
    all_goals (cases (b == a) <;> rfl)
theorem flat_ints : ∀ l : List Nat, (l.map fun i => PyData.int ((i : Nat) : Int)).all flatP = true
  | [] => rfl
  | b :: l => by rw [List.map_cons, List.all_cons, flat_ints l]; rfl
theorem ni_intsR (a : Nat) (l : List Nat) (S : So) (w : W) (h : toP w S = some (.list (l.map fun i => PyData.int ((i : Nat) : Int)))) : cNi (.d (.int ((a : Nat) : Int))) w S = .ok (.d (.bool (!decide (a ∈ l)))) S := by
  unfold cNi oOr oIn seqP
  rw [h]
  simp only [toP]
  rw [if_pos ⟨rfl, plain_ints l, (by decide : (0:Nat) ≤ 150)⟩, any_ints]
  rfl
theorem index_ok {fo : FE} {fa : FE} {ev : Ev} {S : So} {k a j : Nat} {l : List Nat} (ho : fo ev S = .ok (.r k) S) (hk : S[k]? = some (.l (l.map fun i => PyData.int ((i : Nat) : Int)))) (ha : fa ev S = .ok (.d (.int ((a : Nat) : Int))) S) (hj : l.idxOf? a = some j) : fM oIndex fo (fCons fa fNil) ev S = .ok (.d (.int ((j : Nat) : Int))) S := by
  unfold fM
  rw [ho]
  have e : asL (.r k) S = some (l.map fun i => PyData.int ((i : Nat) : Int)) := by simp [asL, hk]
  show (match asL (.r k) S with | some _ => Res.bind (fCons fa fNil ev S) _ | none => _) = _
  rw [e]
  dsimp only
  rw [cons_ok ha rfl]
  show (match asL (.r k) S, _ with | some ds, [W.d d] => _ | _, _ => _) = _
  rw [e]
  dsimp only
  rw [if_pos ⟨rfl, flat_ints l⟩, idx_ints, hj]
theorem mut0_ok {ev : Ev} {S : So} : fMut fNil ev S = .ok (.r S.length) (S ++ [.l []]) := by
  have h : ([] : List PyData).length ≤ sizeLine := by simp
  show (if ([] : List PyData).length ≤ sizeLine then Res.ok (W.r S.length) (S ++ [.l []]) else Res.no) = _
  exact if_pos h
theorem forM_cons {n N : Nat} {g : FG} {b : FS} {k : Nat} {ev e1 e2 : Ev} {S S2 : So} {xs : List PyData} {d : PyData} (hs : S[n]? = some (.l xs)) (hl : xs.length = N) (hd : xs[N - (k + 1)]? = some d) (hg : g (.d d) ev = some e1) (hb : b e1 S = .nx e2 S2) : forM n N g b (k + 1) ev S = forM n N g b k e2 S2 := by
  conv => lhs; unfold forM
  rw [hs]
  dsimp only
  rw [if_pos hl, hd]
  dsimp only
  rw [hg]
  dsimp only
  rw [hb]
end FL
namespace G61
open FL PySem L2 PC
section
variable {N : Type} [DecidableEq N] {f : N → PyData}
/-- rows that lie in what stands before -/
def RowsIn (f : N → PyData) (rows : List (Rw N)) (rw_ : W) (S : So) : Prop := ∀ (i : Nat) (r : Rw N) (G : So), rows[i]? = some r → oIx rw_ (.d (.int (i : Nat))) (S ++ G) = .ok (.d (rwD f r)) (S ++ G)
theorem rows_in {rows : List (Rw N)} {j : Nat} {S : So} (h : S[j]? = some (.l (rows.map (rwD f)))) : RowsIn f rows (.r j) S := fun i r G e => by
  have hj : j < S.length := (List.getElem?_eq_some_iff.mp h).1
  have h2 : (S ++ G)[j]? = some (.l (rows.map (rwD f))) := by rw [List.getElem?_append_left hj]; exact h
  have h3 : asL (.r j) (S ++ G) = some (rows.map (rwD f)) := by simp [asL, h2]
  have h4 : atI (rows.map (rwD f)) ((i : Nat) : Int) = some (rwD f r) := by
    have hl : i < rows.length := (List.getElem?_eq_some_iff.mp e).1
    unfold atI ixN
    rw [if_pos (by omega), if_pos (by rw [List.length_map]; omega)]
    show (rows.map (rwD f))[_]? = _
    rw [List.getElem?_map, show ((i : Nat) : Int).toNat = i by omega, e]
    rfl
  unfold oIx oOr oIxT
  simp only [asT, oIxL, h3, asI, h4, oOr]
def oSt (S : So) (met : List Nat) (left : List Tg) : So := S ++ [.l (met.map intD), .l (left.map tgD)]
def oEv (rw_ : W) (st : PyData) (S : So) (v4 v5 v6 v7 v8 : Option W) : Ev := [some rw_, some (.d st), some (.r S.length), some (.r (S.length + 1)), v4, v5, v6, v7, v8]
abbrev ordT : FT := fB (f2 cNe (fV 3) (fLst fNil))
abbrev ordB : FS := (fSeq (fSet 4 (f1 oPop (fV 3))) 
      (fIfS (fAndT (fTr (fIsi "int" (fV 4))) (fB (f2 cNi (fV 4) (fV 2)))) 
        (fSeq (fDrop (fM oAppend (fV 2) (fCons (fV 4) fNil))) 
        (fSeq (fDrop (fM oAppend (fV 3) (fCons (f2 oIx (f2 oIx (fV 0) (fV 4)) (fC (.int 2))) fNil))) 
        (fDrop (fM oAppend (fV 3) (fCons (f2 oIx (f2 oIx (fV 0) (fV 4)) (fC (.int 1))) fNil))))) 
        fNext))
theorem plain_tgs : ∀ l : List Tg, PyData.plainAll (l.map tgD) = true
  | [] => rfl
  | t :: l => by rw [List.map_cons, PyData.plainAll, plain_tgs l, tg_pl]; rfl
theorem depth_tgs : ∀ l : List Tg, PyData.depthAll (l.map tgD) ≤ 1
  | [] => by simp [PyData.depthAll]
  | t :: l => by
    have h1 := tg_dp t
    have h2 := depth_tgs l
    rw [List.map_cons, PyData.depthAll]
    omega
theorem ordT_ok (rw_ : W) (st : PyData) (S : So) (v4 v5 v6 v7 v8 : Option W) (met : List Nat) (left : List Tg) : ordT (oEv rw_ st S v4 v5 v6 v7 v8) (oSt S met left) = .ok (!left.isEmpty) (oSt S met left) := by
  refine fB_ok ((f2_ok (x := .r (S.length + 1)) (y := .d (.list [])) (S1 := oSt S met left) (S2 := oSt S met left) rfl ?_).trans ?_)
  · exact if_pos (e := Res.no) (show ([] : List PyData).length ≤ sizeLine by simp)
  · have e : toP (.r (S.length + 1)) (oSt S met left) = some (.list (left.map tgD)) := by simp [toP, oSt]
    unfold cNe oEq
    rw [e]
    show (if _ then _ else _) = _
    rw [if_pos ⟨plain_tgs left, rfl, by have := depth_tgs left; rw [PyData.depth]; omega⟩]
    cases left <;> rfl
theorem opop_ok (S : So) (met : List Nat) (w : List Tg) (t : Tg) : oPop (.r (S.length + 1)) (oSt S met (w ++ [t])) = .ok (.d (tgD t)) (oSt S met w) := by
  unfold oPop oSt
  simp
theorem ord_loop {rows : List (Rw N)} {rw_ : W} (st : PyData) (S : So) (hr : RowsIn f rows rw_ S) (v5 v6 v7 v8 : Option W) : ∀ (m : Nat) (met met2 : List Nat) (left : List Tg) (v4 : Option W), ordL rows m met left = some met2 →
    ∃ w4, whl ordT ordB m (oEv rw_ st S v4 v5 v6 v7 v8) (oSt S met left) = .nx (oEv rw_ st S w4 v5 v6 v7 v8) (oSt S met2 [])
  | 0, met, met2, left, v4, h => by cases h
  | m + 1, met, met2, left, v4, h => by
    have tq := ordT_ok rw_ st S v4 v5 v6 v7 v8 met left
    unfold ordL at h
    rcases List.eq_nil_or_concat left with e | ⟨w, t, e⟩
    · subst e
      cases h
      exact ⟨v4, whl_f tq⟩
    · rw [List.concat_eq_append] at e
      subst e
      rw [List.getLast?_append, List.getLast?_singleton, Option.some_or, List.dropLast_concat] at h
      have ne : (!(w ++ [t]).isEmpty) = true := by cases w <;> rfl
      rw [ne] at tq
      have p1 : fSet 4 (f1 oPop (fV 3)) (oEv rw_ st S v4 v5 v6 v7 v8) (oSt S met (w ++ [t])) = .nx (oEv rw_ st S (some (.d (tgD t))) v5 v6 v7 v8) (oSt S met w) := set_ok ((f1_ok (x := .r (S.length + 1)) rfl).trans (opop_ok S met w t))
      cases t with
      | yes =>
        obtain ⟨w4, ih⟩ := ord_loop st S hr v5 v6 v7 v8 m met met2 w (some (.d (tgD .yes))) h
        refine ⟨w4, (whl_t tq (Eq.trans (seq_nx p1) ?_)).trans ih⟩
        exact ifS_f (andT_b (a := false) (b := false) (isi_at .yes 4 _ _ rfl) (fun z => by cases z))
      | no =>
        obtain ⟨w4, ih⟩ := ord_loop st S hr v5 v6 v7 v8 m met met2 w (some (.d (tgD .no))) h
        refine ⟨w4, (whl_t tq (Eq.trans (seq_nx p1) ?_)).trans ih⟩
        exact ifS_f (andT_b (a := false) (b := false) (isi_at .no 4 _ _ rfl) (fun z => by cases z))
      | row i =>
        dsimp only at h
        have nq : fB (f2 cNi (fV 4) (fV 2)) (oEv rw_ st S (some (.d (tgD (.row i)))) v5 v6 v7 v8) (oSt S met w) = .ok (!decide (i ∈ met)) (oSt S met w) := by
          refine fB_ok ((f2_ok (x := .d (intD i)) (y := .r S.length) rfl rfl).trans ?_)
          have e : toP (.r S.length) (oSt S met w) = some (.list (met.map intD)) := by simp [toP, oSt]
          exact ni_intsR i met _ (.r S.length) e
        have cq := andT_b (isi_at (.row i) 4 (oEv rw_ st S (some (.d (tgD (.row i)))) v5 v6 v7 v8) (oSt S met w) rfl) (fun _ => nq)
        by_cases mi : i ∈ met
        · rw [if_pos mi] at h
          rw [decide_eq_true mi] at cq
          obtain ⟨w4, ih⟩ := ord_loop st S hr v5 v6 v7 v8 m met met2 w (some (.d (tgD (.row i)))) h
          refine ⟨w4, (whl_t tq (Eq.trans (seq_nx p1) ?_)).trans ih⟩
          exact ifS_f cq
        · rw [if_neg mi] at h
          rw [decide_eq_false mi] at cq
          cases er : rows[i]? with
          | none => rw [er] at h; cases h
          | some r =>
            rw [er] at h
            dsimp only at h
            by_cases big : 1000 ≤ met.length ∨ 1000 ≤ (w ++ [Tg.row i]).length
            · rw [if_pos big] at h; cases h
            rw [if_neg big] at h
            have lw : w.length < 1000 := by
              rw [List.length_append, List.length_singleton] at big
              omega
            obtain ⟨w4, ih⟩ := ord_loop st S hr v5 v6 v7 v8 m (met ++ [i]) met2 (w ++ [r.2.2, r.2.1]) (some (.d (tgD (.row i)))) h
            refine ⟨w4, (whl_t tq (Eq.trans (seq_nx p1) ?_)).trans ih⟩
            refine (ifS_t cq).trans ?_
            have v0 : ∀ T, fV 0 (oEv rw_ st S (some (.d (tgD (.row i)))) v5 v6 v7 v8) T = .ok rw_ T := fun _ => rfl
            have g0 : ∀ G, f2 oIx (fV 0) (fV 4) (oEv rw_ st S (some (.d (tgD (.row i)))) v5 v6 v7 v8) (S ++ G) = .ok (.d (rwD f r)) (S ++ G) := fun G => (f2_ok (v0 _) rfl).trans (hr i r G er)
            have g2 : ∀ G, f2 oIx (f2 oIx (fV 0) (fV 4)) (fC (.int 2)) (oEv rw_ st S (some (.d (tgD (.row i)))) v5 v6 v7 v8) (S ++ G) = .ok (.d (tgD r.2.2)) (S ++ G) := fun G => (f2_ok (g0 G) rfl).trans (ix_2 _ _ _ _)
            have g1 : ∀ G, f2 oIx (f2 oIx (fV 0) (fV 4)) (fC (.int 1)) (oEv rw_ st S (some (.d (tgD (.row i)))) v5 v6 v7 v8) (S ++ G) = .ok (.d (tgD r.2.1)) (S ++ G) := fun G => (f2_ok (g0 G) rfl).trans (ix_1 _ _ _ _)
            have a1 : fDrop (fM oAppend (fV 2) (fCons (fV 4) fNil)) (oEv rw_ st S (some (.d (tgD (.row i)))) v5 v6 v7 v8) (oSt S met w) = .nx (oEv rw_ st S (some (.d (tgD (.row i)))) v5 v6 v7 v8) (oSt S (met ++ [i]) w) := by
              refine drop_ok (w := .d .none) ((app_ok (k := S.length) (xs := met.map intD) (y := intD i) rfl (by simp [oSt]) rfl (by rw [List.length_map]; omega)).trans ?_)
              simp [oSt]
            have a2 : ∀ (ll : List Tg) (t : Tg) (fe : FE), ll.length ≤ 100000 → (∀ G, fe (oEv rw_ st S (some (.d (tgD (.row i)))) v5 v6 v7 v8) (S ++ G) = .ok (.d (tgD t)) (S ++ G)) → fDrop (fM oAppend (fV 3) (fCons fe fNil)) (oEv rw_ st S (some (.d (tgD (.row i)))) v5 v6 v7 v8) (oSt S (met ++ [i]) ll) = .nx (oEv rw_ st S (some (.d (tgD (.row i)))) v5 v6 v7 v8) (oSt S (met ++ [i]) (ll ++ [t])) := fun ll t fe hl he => by
              refine drop_ok (w := .d .none) ((app_ok (k := S.length + 1) (xs := ll.map tgD) (y := tgD t) rfl (by simp [oSt]) (he _) (by rw [List.length_map]; exact hl)).trans ?_)
              simp [oSt]
            refine Eq.trans (seq_nx a1) (Eq.trans (seq_nx (a2 w r.2.2 _ (by omega) g2)) ?_)
            refine (a2 (w ++ [r.2.2]) r.2.1 _ (by simp; omega) g1).trans ?_
            rw [List.append_assoc]
            rfl
end
end G61

set_option linter.all false
set_option maxHeartbeats 4000000
set_option maxRecDepth 100000
namespace G61
open FL PySem L2 PC
section
variable {N : Type} [DecidableEq N] {f : N → PyData}
abbrev ofiB : FS := (fSeq (fAsg (gTp 3 (gCs (gNm 6) (gCs (gNm 7) (gCs (gNm 8) gNo)))) (f2 oIx (fV 0) (fV 4))) 
      (fSeq (fSet 7 (fIf (fTr (fIsi "int" (fV 7))) (fM oIndex (fV 2) (fCons (fV 7) fNil)) (fV 7))) 
      (fDrop (fM oAppend (fV 5) (fCons (fTup (fCons (fV 6) (fCons (fV 7) (fCons (fIf (fTr (fIsi "int" (fV 8))) (fM oIndex (fV 2) (fCons (fV 8) fNil)) (fV 8)) fNil)))) fNil)))))
def fSt5 (S : So) (met : List Nat) (found : List (Rw N)) (f : N → PyData) : So := S ++ [.l (met.map intD), .l [], .l (found.map (rwD f))]
def fEv5 (rw_ : W) (st : PyData) (S : So) (v4 v6 v7 v8 : Option W) : Ev := [some rw_, some (.d st), some (.r S.length), some (.r (S.length + 1)), v4, some (.r (S.length + 2)), v6, v7, v8]
theorem ixT_ok (S : So) (met : List Nat) (i : Nat) (ev : Ev) (t a : Tg) (h2 : ∀ T, fV 2 ev T = .ok (.r S.length) T) (hi : ev[i]? = some (some (.d (tgD t)))) (T : So) (hT : T[S.length]? = some (.l (met.map intD))) (h : ixT met t = some a) :
    fIf (fTr (fIsi "int" (fV i))) (fM oIndex (fV 2) (fCons (fV i) fNil)) (fV i) ev T = .ok (.d (tgD a)) T := by
  have vi : ∀ T, fV i ev T = .ok (.d (tgD t)) T := fun T => by unfold fV; rw [hi]
  have c := isi_at t i ev T hi
  cases t with
  | yes => cases h; exact (if_f c).trans (vi T)
  | no => cases h; exact (if_f c).trans (vi T)
  | row j =>
    have h : (met.idxOf? j).map Tg.row = some a := h
    cases e : met.idxOf? j with
    | none => rw [e] at h; cases h
    | some k =>
      rw [e] at h
      cases h
      exact (if_t c).trans (index_ok (k := S.length) (h2 T) hT (vi T) e)
theorem ofi_turn {rows : List (Rw N)} {rw_ : W} (st : PyData) (S : So) (hr : RowsIn f rows rw_ S) (met : List Nat) (found : List (Rw N)) (i : Nat) (r : Rw N) (h : ordR rows met i = some r) (few : found.length ≤ 100000) (v6 v7 v8 : Option W) :
    ∃ w6 w7 w8, ofiB (fEv5 rw_ st S (some (.d (intD i))) v6 v7 v8) (fSt5 S met found f) = .nx (fEv5 rw_ st S (some (.d (intD i))) w6 w7 w8) (fSt5 S met (found ++ [r]) f) := by
  unfold ordR at h
  cases er : rows[i]? with
  | none => rw [er] at h; cases h
  | some q =>
    rw [er] at h
    dsimp only [Option.bind_some] at h
    cases e1 : ixT met q.2.1 with
    | none => rw [e1] at h; cases h
    | some a =>
      rw [e1] at h
      dsimp only [Option.bind_some] at h
      cases e2 : ixT met q.2.2 with
      | none => rw [e2] at h; cases h
      | some b =>
        rw [e2] at h
        cases h
        refine ⟨some (.d (f q.1)), some (.d (tgD a)), some (.d (tgD q.2.2)), ?_⟩
        have s0 : (fSt5 S met found f)[S.length]? = some (.l (met.map intD)) := by simp [fSt5]
        have a1 : fAsg (gTp 3 (gCs (gNm 6) (gCs (gNm 7) (gCs (gNm 8) gNo)))) (f2 oIx (fV 0) (fV 4)) (fEv5 rw_ st S (some (.d (intD i))) v6 v7 v8) (fSt5 S met found f) = .nx (fEv5 rw_ st S (some (.d (intD i))) (some (.d (f q.1))) (some (.d (tgD q.2.1))) (some (.d (tgD q.2.2)))) (fSt5 S met found f) :=
          asg_ok (w := .d (rwD f q)) ((f2_ok rfl rfl).trans (hr i q _ er)) rfl
        have a2 : fSet 7 (fIf (fTr (fIsi "int" (fV 7))) (fM oIndex (fV 2) (fCons (fV 7) fNil)) (fV 7)) (fEv5 rw_ st S (some (.d (intD i))) (some (.d (f q.1))) (some (.d (tgD q.2.1))) (some (.d (tgD q.2.2)))) (fSt5 S met found f) = .nx (fEv5 rw_ st S (some (.d (intD i))) (some (.d (f q.1))) (some (.d (tgD a))) (some (.d (tgD q.2.2)))) (fSt5 S met found f) :=
          set_ok (ixT_ok S met 7 _ q.2.1 a (fun _ => rfl) rfl _ s0 e1)
        refine Eq.trans (seq_nx a1) (Eq.trans (seq_nx a2) ?_)
        have tq : fTup (fCons (fV 6) (fCons (fV 7) (fCons (fIf (fTr (fIsi "int" (fV 8))) (fM oIndex (fV 2) (fCons (fV 8) fNil)) (fV 8)) fNil))) (fEv5 rw_ st S (some (.d (intD i))) (some (.d (f q.1))) (some (.d (tgD a))) (some (.d (tgD q.2.2)))) (fSt5 S met found f) = .ok (.d (rwD f (q.1, a, b))) (fSt5 S met found f) :=
          tup_ok (cons_ok (x := .d (f q.1)) rfl (cons_ok (x := .d (tgD a)) rfl (cons_ok (ixT_ok S met 8 _ q.2.2 b (fun _ => rfl) rfl _ s0 e2) rfl))) rfl (by simp)
        refine drop_ok (w := .d .none) ((app_ok (k := S.length + 2) (xs := found.map (rwD f)) (y := rwD f (q.1, a, b)) rfl (by simp [fSt5]) tq (by rw [List.length_map]; omega)).trans ?_)
        simp [fSt5]
theorem ofi_loop {rows : List (Rw N)} {rw_ : W} (st : PyData) (S : So) (hr : RowsIn f rows rw_ S) (met : List Nat) : ∀ (l : List Nat) (found out : List (Rw N)) (v4 v6 v7 v8 : Option W), (∃ p, met = p ++ l ∧ p.length = found.length) → l.mapM (ordR rows met) = some out → found.length + l.length ≤ 100000 →
    ∃ w4 w6 w7 w8, FL.forM S.length met.length (gNm 4) ofiB l.length (fEv5 rw_ st S v4 v6 v7 v8) (fSt5 S met found f) = .nx (fEv5 rw_ st S w4 w6 w7 w8) (fSt5 S met (found ++ out) f)
  | [], found, out, v4, v6, v7, v8, _, h, _ => by
    rw [List.mapM_nil] at h
    cases h
    refine ⟨v4, v6, v7, v8, ?_⟩
    unfold FL.forM
    have e : (fSt5 S met found f)[S.length]? = some (.l (met.map intD)) := by simp [fSt5]
    show (match (fSt5 S met found f)[S.length]? with | some (.l xs) => _ | _ => _) = _
    rw [e]
    dsimp only
    rw [if_pos (List.length_map _), List.append_nil]
  | i :: l, found, out, v4, v6, v7, v8, ⟨p, hp, pl⟩, h, hl => by
    rw [List.mapM_cons] at h
    rw [List.length_cons] at hl
    cases e1 : ordR rows met i with
    | none => rw [e1] at h; cases h
    | some r =>
      rw [e1] at h
      cases e2 : l.mapM (ordR rows met) with
      | none => rw [e2] at h; cases h
      | some o2 =>
        rw [e2] at h
        cases h
        obtain ⟨w6, w7, w8, t1⟩ := ofi_turn st S hr met found i r e1 (by omega) v6 v7 v8
        obtain ⟨x4, x6, x7, x8, ih⟩ := ofi_loop st S hr met l (found ++ [r]) o2 (some (.d (intD i))) w6 w7 w8 ⟨p ++ [i], by rw [hp]; simp, by simp [pl]⟩ e2 (by rw [List.length_append, List.length_singleton]; omega)
        refine ⟨x4, x6, x7, x8, ?_⟩
        rw [List.length_cons]
        have e : (fSt5 S met found f)[S.length]? = some (.l (met.map intD)) := by simp [fSt5]
        refine (forM_cons (xs := met.map intD) (d := intD i) e (List.length_map _) ?_ (e1 := fEv5 rw_ st S (some (.d (intD i))) v6 v7 v8) rfl t1).trans ?_
        · have : met.length - (l.length + 1) = p.length := by rw [hp]; simp
          rw [this, hp]
          simp
        · rw [show found ++ r :: o2 = found ++ [r] ++ o2 by simp]
          exact ih
theorem ord_ok {rows : List (Rw N)} {rw_ : W} (n : Nat) (S : So) (hr : RowsIn f rows rw_ S) (start : Tg) (rs : List (Rw N)) (h : ordP rows start = some rs) : lev Nn mm (n + 1) i__law_ordered [rw_, .d (tgD start)] S = .ok (.d (.tuple (rs.map (rwD f)))) S := by
  unfold ordP at h
  cases e1 : ordL rows 100000 [] [start] with
  | none => rw [e1] at h; cases h
  | some met =>
    rw [e1] at h
    dsimp only [Option.bind_some] at h
    have ml : met.length ≤ 100000 := ordL_len _ _ _ _ e1 (by simp)
    obtain ⟨w4, lp⟩ := ord_loop (tgD start) S hr none none none none 100000 [] met [start] none e1
    obtain ⟨x4, x6, x7, x8, lf⟩ := ofi_loop (tgD start) S hr met met [] rs w4 none none none ⟨[], rfl, rfl⟩ h (by simpa using ml)
    suffices hb : m__law_ordered (lev Nn mm n) [some rw_, some (.d (tgD start)), none, none, none, none, none, none, none] S = .rt (.d (.tuple (rs.map (rwD f)))) (fSt5 S met rs f) by
      show fDef 9 (m__law_ordered (lev Nn mm n)) [rw_, .d (tgD start)] S = _
      have hd := fdef_d (k := 9) (b := m__law_ordered (lev Nn mm n)) (ws := [rw_, .d (tgD start)]) hb
      have e : (fSt5 S met rs f).take S.length = S := by simp [fSt5]
      rw [e] at hd
      exact hd
    unfold m__law_ordered
    have p1 : fPar 2 3 (fCons (fMut fNil) (fCons (fMut (fCons (fV 1) fNil)) fNil)) [some rw_, some (.d (tgD start)), none, none, none, none, none, none, none] S = .nx (oEv rw_ (tgD start) S none none none none none) (oSt S [] [start]) := by
      have z : fCons (fMut fNil) (fCons (fMut (fCons (fV 1) fNil)) fNil) [some rw_, some (.d (tgD start)), none, none, none, none, none, none, none] S = .ok [.r S.length, .r (S.length + 1)] (oSt S [] [start]) := by
        refine cons_ok (x := .r S.length) (S1 := S ++ [.l []]) mut0_ok (cons_ok (x := .r (S.length + 1)) (S1 := oSt S [] [start]) ((mut1_ok (x := tgD start) (S1 := S ++ [.l []]) rfl).trans ?_) rfl)
        simp [oSt]
      unfold fPar
      rw [z]
      rfl
    have p2 : fWhile ordT ordB (oEv rw_ (tgD start) S none none none none none) (oSt S [] [start]) = .nx (oEv rw_ (tgD start) S w4 none none none none) (oSt S met []) := lp
    have p3 : fSet 5 (fMut fNil) (oEv rw_ (tgD start) S w4 none none none none) (oSt S met []) = .nx (fEv5 rw_ (tgD start) S w4 none none none) (fSt5 S met ([] : List (Rw N)) f) := by
      refine (set_ok (w := .r (S.length + 2)) (S1 := fSt5 S met ([] : List (Rw N)) f) ?_).trans rfl
      refine mut0_ok.trans ?_
      simp [oSt, fSt5]
    have p4 : fForM (fV 2) (gNm 4) ofiB (fEv5 rw_ (tgD start) S w4 none none none) (fSt5 S met ([] : List (Rw N)) f) = .nx (fEv5 rw_ (tgD start) S x4 x6 x7 x8) (fSt5 S met rs f) := by
      have e : (fSt5 S met ([] : List (Rw N)) f)[S.length]? = some (.l (met.map intD)) := by simp [fSt5]
      unfold fForM
      show (match (fSt5 S met ([] : List (Rw N)) f)[S.length]? with | some (.l xs) => FL.forM S.length xs.length (gNm 4) ofiB xs.length _ _ | _ => _) = _
      rw [e]
      dsimp only
      rw [List.length_map]
      exact lf
    refine Eq.trans (seq_nx p1) (Eq.trans (seq_nx p2) (Eq.trans (seq_nx p3) (Eq.trans (seq_nx p4) ?_)))
    refine ret_ok ((b1_ok (cons_ok (x := .r (S.length + 2)) rfl rfl)).trans ?_)
    show tupW (.r (S.length + 2)) (fSt5 S met rs f) = _
    have : asL (.r (S.length + 2)) (fSt5 S met rs f) = some (rs.map (rwD f)) := by simp [asL, fSt5]
    unfold tupW
    rw [this]
    rfl
end
end G61

set_option linter.all false
set_option maxHeartbeats 4000000
set_option maxRecDepth 100000
namespace PC
section
variable {N : Type} [DecidableEq N]
def tgts (r : Nat) : List Tg := .yes :: .no :: (List.range r).map .row
def putRow (rows : List (Rw N)) (r : Rw N) : List (Rw N) := if r ∈ rows then rows else rows ++ [r]
def Turn (ws : List N) (rows rows2 : List (Rw N)) : Prop := ∃ y ∈ tgts rows.length, ∃ n ∈ tgts rows.length, ∃ w ∈ ws, rows2 = putRow rows (w, y, n)
def TurnN (ws : List N) : Nat → List (Rw N) → List (Rw N) → Prop
  | 0, r, r2 => r2 = r
  | m + 1, r, r2 => ∃ r1, Turn ws r r1 ∧ TurnN ws m r1 r2
end
end PC
namespace FL
open PySem L2
theorem lenW_r {n : Nat} {S : So} {xs : List PyData} (h : S[n]? = some (.l xs)) : lenW (.r n) S = .ok (.d (.int (xs.length : Nat))) S := by simp [lenW, seqW, asL, h]
/-- one of a list, by a number -/
theorem pick_ok {α : Type} (xs : List α) (dt : α → PyData) (ne : xs ≠ []) (i : Int) : ∃ a ∈ xs, ∀ T, oIx (.d (.list (xs.map dt))) (.d (.int (i % (xs.length : Nat)))) T = .ok (.d (dt a)) T := by
  have hl : 0 < xs.length := List.length_pos_iff.mpr ne
  have h0 : 0 ≤ i % (xs.length : Int) := Int.emod_nonneg _ (by omega)
  have h1 : i % (xs.length : Int) < (xs.length : Int) := Int.emod_lt_of_pos _ (by omega)
  have h2 : (i % (xs.length : Int)).toNat < xs.length := by omega
  refine ⟨xs[(i % (xs.length : Int)).toNat], List.getElem_mem h2, fun T => ?_⟩
  have e := ix_list (xs.map dt) (i % (xs.length : Int)).toNat (dt xs[(i % (xs.length : Int)).toNat]) T (by rw [List.getElem?_map, List.getElem?_eq_getElem h2]; rfl)
  rw [Int.toNat_of_nonneg h0] at e
  exact e
end FL
namespace G61
open FL PySem L2 PC
section
variable {N : Type} [DecidableEq N] {f : N → PyData}
def aSt (f : N → PyData) (S : So) (k : Nat) (i : Int) (rows : List (Rw N)) : So := own (S ++ [.l (rows.map (rwD f))]) k i
def aEv (f : N → PyData) (S : So) (k : Nat) (ws : List N) (many : Int) (v4 v5 v6 v7 v8 : Option W) : Ev := [some (.r k), some (.d (.list (ws.map f))), some (.d (.int many)), some (.r S.length), v4, v5, v6, v7, v8]
abbrev anyB (c : Cs) : FS := (fSeq (fSet 5 (f2 oAdd (fLst (fCons (fC (.str "yes")) (fCons (fC (.str "no")) fNil))) (fLstRg1 (fB1 oLen (fCons (fV 3) fNil))))) 
      (fSeq (fPar 6 7 (fCons (f2 oIx (fV 5) (fCall 2 (c i__law_take) [] (fCons (fV 0) (fCons (fB1 oLen (fCons (fV 5) fNil)) fNil)))) (fCons (f2 oIx (fV 5) (fCall 2 (c i__law_take) [] (fCons (fV 0) (fCons (fB1 oLen (fCons (fV 5) fNil)) fNil)))) fNil))) 
      (fSeq (fSet 8 (fTup (fCons (f2 oIx (fV 1) (fCall 2 (c i__law_take) [] (fCons (fV 0) (fCons (fB1 oLen (fCons (fV 1) fNil)) fNil)))) (fCons (fV 6) (fCons (fV 7) fNil))))) 
      (fIfS (fB (f2 cNi (fV 8) (fV 3))) 
        (fDrop (fM oAppend (fV 3) (fCons (fV 8) fNil))) 
        fNext))))
theorem any_rows (F : NmF f) (r : Rw N) : ∀ l : List (Rw N), ((l.map (rwD f)).any fun z => PyData.eqv z (rwD f r)) = decide (r ∈ l)
  | [] => rfl
  | b :: l => by
    rw [List.map_cons, List.any_cons, any_rows F r l, eqv_row F]
    by_cases c : b = r
    · simp [c]
    · have c2 : ¬ r = b := fun z => c z.symm
      simp [c, c2]
theorem ni_rows (F : NmF f) (r : Rw N) (l : List (Rw N)) (S : So) (w : W) (h : toP w S = some (.list (l.map (rwD f)))) : cNi (.d (rwD f r)) w S = .ok (.d (.bool (!decide (r ∈ l)))) S := by
  unfold cNi oOr oIn seqP
  rw [h]
  simp only [toP]
  rw [if_pos ⟨row_pl F r, rows_pl F l, by have := row_dp F r; omega⟩, any_rows F]
  rfl
theorem any_turn (T : Stg f) (n : Nat) (S : So) (k : Nat) (hk : k < S.length) (ws : List N) (wn : ws ≠ []) (wl : ws.length ≤ 1000) (many : Int) (rows : List (Rw N)) (few : rows.length ≤ 1000) (i : Int) (v4 v5 v6 v7 v8 : Option W) :
    ∃ (i2 : Int) (rows2 : List (Rw N)) (w5 w6 w7 w8 : Option W), Turn ws rows rows2 ∧ anyB (lev Nn mm (n + 1)) (aEv f S k ws many v4 v5 v6 v7 v8) (aSt f S k i rows) = .nx (aEv f S k ws many v4 w5 w6 w7 w8) (aSt f S k i2 rows2) := by
  have g3 : ∀ i rows, (aSt f S k i rows)[S.length]? = some (.l (rows.map (rwD f))) := fun i rows => by
    unfold aSt own
    rw [List.getElem?_set_ne (by omega)]
    simp
  have l3 : ∀ i rows, asL (.r S.length) (aSt f S k i rows) = some (rows.map (rwD f)) := fun i rows => by simp [asL, g3]
  have ln : ∀ i, lenW (.r S.length) (aSt f S k i rows) = .ok (.d (.int (rows.length : Nat))) (aSt f S k i rows) := fun i => by
    rw [lenW_r (g3 i rows), List.length_map]
  -- the targets
  have tl : (tgts rows.length).length = rows.length + 2 := by simp [tgts]
  have e1 : fSet 5 (f2 oAdd (fLst (fCons (fC (.str "yes")) (fCons (fC (.str "no")) fNil))) (fLstRg1 (fB1 oLen (fCons (fV 3) fNil)))) (aEv f S k ws many v4 v5 v6 v7 v8) (aSt f S k i rows) = .nx (aEv f S k ws many v4 (some (.d (.list ((tgts rows.length).map tgD)))) v6 v7 v8) (aSt f S k i rows) := by
    have a1 : fLst (fCons (fC (.str "yes")) (fCons (fC (.str "no")) fNil)) (aEv f S k ws many v4 v5 v6 v7 v8) (aSt f S k i rows) = .ok (.d (.list [.str "yes", .str "no"])) (aSt f S k i rows) := if_pos (e := Res.no) (show [PyData.str "yes", PyData.str "no"].length ≤ sizeLine by rw [sizeLine_eq]; simp)
    have a2 : fLstRg1 (fB1 oLen (fCons (fV 3) fNil)) (aEv f S k ws many v4 v5 v6 v7 v8) (aSt f S k i rows) = .ok (.d (.list ((List.range rows.length).map intD))) (aSt f S k i rows) := by
      unfold fLstRg1
      rw [len_ok (w := .r S.length) rfl (ln i)]
      show (if _ then _ else _) = _
      rw [if_pos ⟨by omega, by omega⟩, show ((rows.length : Nat) : Int).toNat = rows.length by omega, rgD_nat]
    refine (set_ok (w := .d (.list ((tgts rows.length).map tgD))) (S1 := aSt f S k i rows) ((f2_ok a1 a2).trans ?_)).trans rfl
    unfold oAdd oOr oI oAddS oAddL
    simp only [asI, asS, asL]
    rw [if_pos (by rw [sizeLine_eq]; simp; omega)]
    simp [tgts, tgD, Function.comp_def]
  refine ?_
  -- three digits
  obtain ⟨y, hy, py⟩ := pick_ok (tgts rows.length) tgD (by simp [tgts]) i
  obtain ⟨m, hm, pm⟩ := pick_ok (tgts rows.length) tgD (by simp [tgts]) (i / ((tgts rows.length).length : Nat))
  obtain ⟨w, hw, pw⟩ := pick_ok ws f wn (i / ((tgts rows.length).length : Nat) / ((tgts rows.length).length : Nat))
  have tk : ∀ (i : Int) (l : Nat), 0 < l → l ≤ 10000 → lev Nn mm (n + 1) i__law_take [.r k, .d (.int (l : Nat))] (aSt f S k i rows) = .ok (.d (.int (i % (l : Nat)))) (aSt f S k (i / (l : Nat)) rows) := fun i l h0 h1 => take_own n k (S ++ [Ob.l (rows.map (rwD f))]) i l (by simp; omega) (by omega) (by omega)
  have t1 : ∀ (i : Int) (v6 v7 : Option W), fCall 2 (lev Nn mm (n + 1) i__law_take) [] (fCons (fV 0) (fCons (fB1 oLen (fCons (fV 5) fNil)) fNil)) (aEv f S k ws many v4 (some (.d (.list ((tgts rows.length).map tgD)))) v6 v7 v8) (aSt f S k i rows) = .ok (.d (.int (i % ((tgts rows.length).length : Nat)))) (aSt f S k (i / ((tgts rows.length).length : Nat)) rows) := fun i v6 v7 =>
    call_ok (cons_ok rfl (cons_ok (len_ok (w := .d (.list ((tgts rows.length).map tgD))) rfl (by rw [len_lst, List.length_map])) rfl)) rfl (tk i _ (by omega) (by omega))
  have e2 : fPar 6 7 (fCons (f2 oIx (fV 5) (fCall 2 (lev Nn mm (n + 1) i__law_take) [] (fCons (fV 0) (fCons (fB1 oLen (fCons (fV 5) fNil)) fNil)))) (fCons (f2 oIx (fV 5) (fCall 2 (lev Nn mm (n + 1) i__law_take) [] (fCons (fV 0) (fCons (fB1 oLen (fCons (fV 5) fNil)) fNil)))) fNil)) (aEv f S k ws many v4 (some (.d (.list ((tgts rows.length).map tgD)))) v6 v7 v8) (aSt f S k i rows) =
      .nx (aEv f S k ws many v4 (some (.d (.list ((tgts rows.length).map tgD)))) (some (.d (tgD y))) (some (.d (tgD m))) v8) (aSt f S k (i / ((tgts rows.length).length : Nat) / ((tgts rows.length).length : Nat)) rows) := by
    have v5q : ∀ T, fV 5 (aEv f S k ws many v4 (some (.d (.list ((tgts rows.length).map tgD)))) v6 v7 v8) T = .ok (.d (.list ((tgts rows.length).map tgD))) T := fun _ => rfl
    have z1 := (f2_ok (op := oIx) (v5q _) (t1 i v6 v7)).trans (py _)
    have z2 := (f2_ok (op := oIx) (v5q _) (t1 (i / ((tgts rows.length).length : Nat)) v6 v7)).trans (pm _)
    have z := cons_ok z1 (cons_ok z2 (fr := fNil) (xs := []) rfl)
    unfold fPar
    rw [z]
    rfl
  have e3 : fSet 8 (fTup (fCons (f2 oIx (fV 1) (fCall 2 (lev Nn mm (n + 1) i__law_take) [] (fCons (fV 0) (fCons (fB1 oLen (fCons (fV 1) fNil)) fNil)))) (fCons (fV 6) (fCons (fV 7) fNil)))) (aEv f S k ws many v4 (some (.d (.list ((tgts rows.length).map tgD)))) (some (.d (tgD y))) (some (.d (tgD m))) v8) (aSt f S k (i / ((tgts rows.length).length : Nat) / ((tgts rows.length).length : Nat)) rows) =
      .nx (aEv f S k ws many v4 (some (.d (.list ((tgts rows.length).map tgD)))) (some (.d (tgD y))) (some (.d (tgD m))) (some (.d (rwD f (w, y, m))))) (aSt f S k (i / ((tgts rows.length).length : Nat) / ((tgts rows.length).length : Nat) / (ws.length : Nat)) rows) := by
    have c := call_ok (k := 2) (g := lev Nn mm (n + 1) i__law_take) (fa := fCons (fV 0) (fCons (fB1 oLen (fCons (fV 1) fNil)) fNil)) (ev := aEv f S k ws many v4 (some (.d (.list ((tgts rows.length).map tgD)))) (some (.d (tgD y))) (some (.d (tgD m))) v8) (S := aSt f S k (i / ((tgts rows.length).length : Nat) / ((tgts rows.length).length : Nat)) rows)
      (cons_ok rfl (cons_ok (len_ok (w := .d (.list (ws.map f))) rfl (by rw [len_lst, List.length_map])) rfl)) rfl (tk _ ws.length (List.length_pos_iff.mpr wn) (by omega))
    have v1q : ∀ T, fV 1 (aEv f S k ws many v4 (some (.d (.list ((tgts rows.length).map tgD)))) (some (.d (tgD y))) (some (.d (tgD m))) v8) T = .ok (.d (.list (ws.map f))) T := fun _ => rfl
    have z1 := (f2_ok (op := oIx) (v1q _) c).trans (pw _)
    have z2 := tup_ok (ds := [f w, tgD y, tgD m]) (cons_ok z1 (cons_ok (fa := fV 6) (x := .d (tgD y)) rfl (cons_ok (fa := fV 7) (fr := fNil) (x := .d (tgD m)) (xs := []) rfl rfl))) rfl (by simp)
    exact set_ok z2
  refine ⟨i / ((tgts rows.length).length : Nat) / ((tgts rows.length).length : Nat) / (ws.length : Nat), putRow rows (w, y, m), some (.d (.list ((tgts rows.length).map tgD))), some (.d (tgD y)), some (.d (tgD m)), some (.d (rwD f (w, y, m))), ⟨y, hy, m, hm, w, hw, rfl⟩, Eq.trans (seq_nx e1) (Eq.trans (seq_nx e2) (Eq.trans (seq_nx e3) ?_))⟩
  generalize i / ((tgts rows.length).length : Nat) / ((tgts rows.length).length : Nat) / (ws.length : Nat) = i2
  have c := fB_ok ((f2_ok (fa := fV 8) (fb := fV 3) (ev := aEv f S k ws many v4 (some (.d (.list ((tgts rows.length).map tgD)))) (some (.d (tgD y))) (some (.d (tgD m))) (some (.d (rwD f (w, y, m))))) (S := aSt f S k i2 rows) (x := .d (rwD f (w, y, m))) (y := .r S.length) (S1 := aSt f S k i2 rows) (S2 := aSt f S k i2 rows) rfl rfl).trans (ni_rows T.F (w, y, m) rows _ (.r S.length) (by simp [toP, g3])))
  unfold putRow
  by_cases mem : (w, y, m) ∈ rows
  · rw [decide_eq_true mem] at c
    rw [if_pos mem]
    exact (ifS_f c).trans rfl
  · rw [decide_eq_false mem] at c
    rw [if_neg mem]
    refine (ifS_t c).trans (drop_ok (w := .d .none) ((app_ok (k := S.length) (xs := rows.map (rwD f)) (y := rwD f (w, y, m)) rfl (g3 _ _) rfl (by rw [List.length_map]; omega)).trans ?_))
    congr 1
    unfold aSt own
    rw [List.set_comm _ _ (by omega)]
    simp
theorem any_loop (T : Stg f) (n : Nat) (S : So) (k : Nat) (hk : k < S.length) (ws : List N) (wn : ws ≠ []) (wl : ws.length ≤ 1000) (many : Int) : ∀ (ds : List PyData) (rows : List (Rw N)) (i : Int) (v4 v5 v6 v7 v8 : Option W), rows.length + ds.length ≤ 1000 →
    ∃ (i2 : Int) (rows2 : List (Rw N)) (w4 w5 w6 w7 w8 : Option W), TurnN ws ds.length rows rows2 ∧ forL (gNm 4) (anyB (lev Nn mm (n + 1))) ds (aEv f S k ws many v4 v5 v6 v7 v8) (aSt f S k i rows) = .nx (aEv f S k ws many w4 w5 w6 w7 w8) (aSt f S k i2 rows2)
  | [], rows, i, v4, v5, v6, v7, v8, _ => ⟨i, rows, v4, v5, v6, v7, v8, rfl, rfl⟩
  | d :: ds, rows, i, v4, v5, v6, v7, v8, few => by
    rw [List.length_cons] at few
    obtain ⟨i2, r2, w5, w6, w7, w8, t, e⟩ := any_turn T n S k hk ws wn wl many rows (by omega) i (some (.d d)) v5 v6 v7 v8
    have l2 : r2.length ≤ rows.length + 1 := by
      obtain ⟨y, _, m, _, w, _, rfl⟩ := t
      unfold putRow
      split
      · omega
      · simp
    obtain ⟨i3, r3, x4, x5, x6, x7, x8, tn, e3⟩ := any_loop T n S k hk ws wn wl many ds r2 i2 (some (.d d)) w5 w6 w7 w8 (by omega)
    exact ⟨i3, r3, x4, x5, x6, x7, x8, ⟨r2, t, tn⟩, (forL_cons rfl e).trans e3⟩
theorem any_ok (T : Stg f) (n : Nat) (S : So) (k : Nat) (hk : k < S.length) (ws : List N) (wn : ws ≠ []) (wl : ws.length ≤ 1000) (many : Nat) (ml : many ≤ 100) (i : Int) (Q : List (Rw N) → Prop)
    (h : ∀ rows, TurnN ws many [] rows → rows ≠ [] ∧ ∃ rs, ordP rows (.row (rows.length - 1)) = some rs ∧ Q rs) :
    ∃ (i2 : Int) (rs : List (Rw N)), Q rs ∧ lev Nn mm (n + 2) i__law_any_code [.r k, .d (.list (ws.map f)), .d (.int (many : Nat))] (own S k i) = .ok (.d (.tuple (rs.map (rwD f)))) (own S k i2) := by
  obtain ⟨i2, rows, w4, w5, w6, w7, w8, tn, lp⟩ := any_loop T n S k hk ws wn wl many (rgD 0 many) [] i none none none none none (by simp [rgD]; omega)
  rw [show (rgD 0 many).length = many by simp [rgD]] at tn
  obtain ⟨rn, rs, ho, hq⟩ := h rows tn
  refine ⟨i2, rs, hq, ?_⟩
  suffices hb : m__law_any_code (lev Nn mm (n + 1)) [some (.r k), some (.d (.list (ws.map f))), some (.d (.int (many : Nat))), none, none, none, none, none, none] (own S k i) = .rt (.d (.tuple (rs.map (rwD f)))) (aSt f S k i2 rows) by
    show fDef 9 (m__law_any_code (lev Nn mm (n + 1))) [.r k, .d (.list (ws.map f)), .d (.int (many : Nat))] (own S k i) = _
    have hd := fdef_d (k := 9) (b := m__law_any_code (lev Nn mm (n + 1))) (ws := [.r k, .d (.list (ws.map f)), .d (.int (many : Nat))]) hb
    have e : (aSt f S k i2 rows).take (own S k i).length = own S k i2 := by
      unfold aSt own
      rw [List.length_set, List.take_set, List.take_left]
    rw [e] at hd
    exact hd
  unfold m__law_any_code
  have e1 : fSet 3 (fMut fNil) [some (.r k), some (.d (.list (ws.map f))), some (.d (.int (many : Nat))), none, none, none, none, none, none] (own S k i) = .nx (aEv f S k ws many none none none none none) (aSt f S k i ([] : List (Rw N))) := by
    refine (set_ok (w := .r S.length) (S1 := aSt f S k i ([] : List (Rw N))) (mut0_ok.trans ?_)).trans rfl
    have e : own S k i ++ [.l []] = aSt f S k i ([] : List (Rw N)) := by
      unfold aSt own
      rw [List.set_append_left _ _ hk]
      rfl
    rw [e, own_len]
  have e2 : fFor (fRng1 (fCons (fV 2) fNil)) (gNm 4) (anyB (lev Nn mm (n + 1))) (aEv f S k ws many none none none none none) (aSt f S k i ([] : List (Rw N))) = .nx (aEv f S k ws many w4 w5 w6 w7 w8) (aSt f S k i2 rows) := by
    have rq := rng_x (fa := fCons (fV 2) fNil) (ev := aEv f S k ws many none none none none none) (S := aSt f S k i ([] : List (Rw N))) (S1 := aSt f S k i ([] : List (Rw N))) (many : Nat) rfl (by omega) (by omega)
    rw [show ((many : Nat) : Int).toNat = many by omega] at rq
    rw [for_ok rq]
    exact lp
  refine Eq.trans (seq_nx e1) (Eq.trans (seq_nx e2) ?_)
  have g3 : (aSt f S k i2 rows)[S.length]? = some (.l (rows.map (rwD f))) := by
    unfold aSt own
    rw [List.getElem?_set_ne (by omega)]
    simp
  have ln : lenW (.r S.length) (aSt f S k i2 rows) = .ok (.d (.int (rows.length : Nat))) (aSt f S k i2 rows) := by
    rw [lenW_r g3, List.length_map]
  have hl : 0 < rows.length := List.length_pos_iff.mpr rn
  have eE : ∀ (x : Nat), 0 < x → (W.d (PyData.int (((x : Nat) : Int) - 1))) = W.d (tgD (.row (x - 1))) := fun x hx => by
    have e : ((x : Nat) : Int) - 1 = ((x - 1 : Nat) : Int) := by omega
    rw [e]
    rfl
  have s1 : f2 oSub (fB1 oLen (fCons (fV 3) fNil)) (fC (.int 1)) (aEv f S k ws many w4 w5 w6 w7 w8) (aSt f S k i2 rows) = .ok (.d (tgD (.row (rows.length - 1)))) (aSt f S k i2 rows) := by
    have z := f2_ok (op := oSub) (len_ok (f := fV 3) (ev := aEv f S k ws many w4 w5 w6 w7 w8) (w := .r S.length) rfl ln) (fb := fC (.int 1)) (y := .d (.int 1)) rfl
    rw [z, ← eE _ hl]
    rfl
  have s2 : fCons (fV 3) (fCons (f2 oSub (fB1 oLen (fCons (fV 3) fNil)) (fC (.int 1))) fNil) (aEv f S k ws many w4 w5 w6 w7 w8) (aSt f S k i2 rows) = .ok [.r S.length, .d (tgD (.row (rows.length - 1)))] (aSt f S k i2 rows) :=
    cons_ok (x := .r S.length) (fa := fV 3) rfl (cons_ok s1 (fr := fNil) (xs := []) rfl)
  have s3 := ord_ok n (aSt f S k i2 rows) (rows_in g3) (.row (rows.length - 1)) rs ho
  exact ret_ok (call_ok s2 rfl s3)
end
end G61

set_option linter.all false
set_option maxHeartbeats 4000000
set_option maxRecDepth 100000
namespace PC
section
variable {N : Type} [DecidableEq N]
def someP (ws : List N) (many a : Nat) : List (Ins N) :=
  ((.yes :: .no :: ((List.range many).filter fun t => !decide (t = a)).map Tg.row).map Ins.go) ++
  (if a < many - 1 then ws.flatMap fun w => ((.yes :: .no :: ((List.range many).filter fun t => !decide (t = a)).map Tg.row).map (Ins.jmp w true)) ++ ((.yes :: .no :: ((List.range many).filter fun t => !decide (t = a)).map Tg.row).map (Ins.jmp w false)) else [])
def machsP (ws : List N) (many : Nat) : List (List (Ins N)) := (List.range many).foldl (fun found a => found.flatMap fun rows => (someP ws many a).map fun o => rows ++ [o]) [[]]
def upR (r : Rw N) : Rw (Option N) := (some r.1, r.2.1, r.2.2)
def lenOk {α : Type} (o : Option (List α)) : Bool := match o with
  | some l => decide (l.length ≤ 1000)
  | none => true
/-- this machine has not the code -/
def otherP (rs : List (Rw N)) (q : List (Ins N)) : Bool := decide (q.length ≤ 1000) && match isMachP q with
  | some true => (match codeOfP q with
    | some o => decide (o ≠ some (rs.map upR)) && lenOk o
    | none => false)
  | some false => true
  | none => false
def goodP (ws : List N) (rs : List (Rw N)) : Bool := decide (rs.length ≤ 1000) && decide (isCodeP rs = some true) && match folsP rs 10 with
  | some fd => (match placesP rs.length (swapP fd) with
    | some pl => (match machP rs (swapP fd) pl with
      | some ms => decide (fd.length ≤ 1000) && decide (ms.length ≤ 3) && decide (isMachP ms = some true) && decide (codeOfP ms = some (some (rs.map upR))) && decide (ms.length + (swapP fd).length = 2 * rs.length) &&
        ((List.range (ms.length - 1)).all fun k => (machsP ws (k + 1)).all (otherP rs))
      | none => false)
    | none => false)
  | none => false
def turnsL (ws : List N) (rows : List (Rw N)) : List (List (Rw N)) := (tgts rows.length).flatMap fun y => (tgts rows.length).flatMap fun n => ws.map fun w => putRow rows (w, y, n)
theorem turn_mem {ws : List N} {rows r2 : List (Rw N)} (h : Turn ws rows r2) : r2 ∈ turnsL ws rows := by
  obtain ⟨y, hy, n, hn, w, hw, rfl⟩ := h
  exact List.mem_flatMap.mpr ⟨y, hy, List.mem_flatMap.mpr ⟨n, hn, List.mem_map.mpr ⟨w, hw, rfl⟩⟩⟩
def okRows (ws : List N) (rows : List (Rw N)) : Bool := !rows.isEmpty && match ordP rows (.row (rows.length - 1)) with
  | some rs => goodP ws rs
  | none => false
end
end PC

set_option linter.all false
set_option maxHeartbeats 4000000
set_option maxRecDepth 100000
namespace FL
open PySem L2
theorem rng2_x {fa : FA} {ev : Ev} {S S1 : So} (a b : Int) (h : fa ev S = .ok [.d (.int a), .d (.int b)] S1) (h0 : 0 ≤ a) (h1 : a ≤ 1000) (h2 : 0 ≤ b) (h3 : b ≤ 1000) : fRng2 fa ev S = .ok (rgD a (b - a).toNat) S1 := by
  unfold fRng2
  rw [h]
  simp only [Res.bind, asI]
  rw [if_pos ⟨by omega, by omega, by omega, by omega⟩]
end FL
namespace G61
open FL PySem L2 PC
section
variable {N : Type} [DecidableEq N] {f : N → PyData}
def msD (f : N → PyData) (l : List (List (Ins N))) : PyData := .list (l.map fun ms => .tuple (ms.map (insD f)))
theorem cNe_ii (a b : Int) (S : So) : cNe (.d (.int a)) (.d (.int b)) S = .ok (.d (.bool (!decide (a = b)))) S := by
  unfold cNe oEq
  simp [toP, PyData.plain, PyData.depth, PyData.eqv]
  rfl
theorem rg_1 : rgD 0 1 = [.int 0] := rfl
theorem rg_2 : rgD 0 2 = [.int 0, .int 1] := rfl
theorem machs1 (x y : N) (n : Nat) (S : So) : lev Nn mm (n + 1) i__law_machines [.d (.list [f x, f y]), .d (.int 1)] S = .ok (.d (msD f (machsP [x, y] 1))) S := by
  refine def_rt (n := n) ?_
  show m__law_machines (lev Nn mm n) [some (.d (.list [f x, f y])), some (.d (.int 1)), none, none, none, none, none, none, none, none, none] S = _
  unfold m__law_machines
  simp [fFor, forL, fRng1, rg_1, fLst, fTup, allD, sizeLine_eq, cNe_ii, asB, oAdd, oAddS, oAddL, oAddT, cLt, oSub]
  rfl
theorem machs2 (x y : N) (n : Nat) (S : So) : lev Nn mm (n + 1) i__law_machines [.d (.list [f x, f y]), .d (.int 2)] S = .ok (.d (msD f (machsP [x, y] 2))) S := by
  refine def_rt (n := n) ?_
  show m__law_machines (lev Nn mm n) [some (.d (.list [f x, f y])), some (.d (.int 2)), none, none, none, none, none, none, none, none, none] S = _
  unfold m__law_machines
  simp [fFor, forL, fRng1, rg_2, fLst, fTup, allD, sizeLine_eq, cNe_ii, asB, oAdd, oAddS, oAddL, oAddT, cLt, oSub]
  rfl
theorem up_rows (rs : List (Rw N)) : (rs.map upR).map (rwD (fO f)) = rs.map (rwD f) := by
  rw [List.map_map]
  rfl
theorem cmp_tid (T : Stg f) (o : Option (List (Rw (Option N)))) (rs : List (Rw N)) (S : So) : cEq (tidW (fO f) o) (.d (.tuple (rs.map (rwD f)))) S = .ok (.d (.bool (decide (o = some (rs.map upR))))) S := by
  have := eq_tid T.FO o (rs.map upR) S
  rw [up_rows] at this
  exact this
theorem cmp_ne (T : Stg f) (o : Option (List (Rw (Option N)))) (rs : List (Rw N)) (S : So) : cNe (tidW (fO f) o) (.d (.tuple (rs.map (rwD f)))) S = .ok (.d (.bool (!decide (o = some (rs.map upR))))) S := by
  have := cmp_tid T o rs S
  unfold cEq oEq at this
  unfold cNe oEq
  cases o with
  | none =>
    simp only [toP, tidW] at this ⊢
    split at this
    · rename_i c
      rw [if_pos c]
      injection this with h1
      injection h1 with h1
      injection h1 with h1
      simp only [if_neg Bool.false_ne_true] at h1
      rw [if_pos trivial, h1]
    · cases this
  | some r =>
    simp only [toP, tidW] at this ⊢
    split at this
    · rename_i c
      rw [if_pos c]
      injection this with h1
      injection h1 with h1
      injection h1 with h1
      simp only [if_neg Bool.false_ne_true] at h1
      rw [if_pos trivial, h1]
    · cases this
abbrev gdB (c : Cs) : FS := fIfS (fAndT (fTr (fCall 1 (c i_is_machine) [] (fCons (fV 5) fNil))) (fB (f2 cEq (fCall 1 (c i_code_of) [] (fCons (fV 5) fNil)) (fV 0)))) 
          (fRet (fC (.bool false))) 
          fNext
def gEv (f : N → PyData) (rs : List (Rw N)) (ws : List N) (M : Nat) (v3 : W) (v4 v5 : Option W) : Ev := [some (.d (.tuple (rs.map (rwD f)))), some (.d (.list (ws.map f))), some (.d (.int (M : Nat))), some v3, v4, v5]
theorem other_ok (T : Stg f) (Hn : Nam f) (n : Nat) (S : So) (rs : List (Rw N)) (ws : List N) (M : Nat) (v3 : W) (v4 : Option W) (q : List (Ins N)) (h : otherP rs q = true) :
    gdB (lev Nn mm (n + 6)) (gEv f rs ws M v3 v4 (some (.d (.tuple (q.map (insD f)))))) S = .nx (gEv f rs ws M v3 v4 (some (.d (.tuple (q.map (insD f)))))) S := by
  unfold otherP at h
  rw [Bool.and_eq_true, decide_eq_true_eq] at h
  obtain ⟨ql, h⟩ := h
  cases em : isMachP q with
  | none => rw [em] at h; cases h
  | some b =>
    have h1 := mach_is T Hn (n + 2) S q ql b em
    have t1 : fTr (fCall 1 (lev Nn mm (n + 6) i_is_machine) [] (fCons (fV 5) fNil)) (gEv f rs ws M v3 v4 (some (.d (.tuple (q.map (insD f)))))) S = .ok b S := tr_b (call_ok (cons_ok rfl rfl) rfl h1)
    cases b with
    | false => exact (ifS_f (andT_b (b := false) t1 (fun z => by cases z))).trans rfl
    | true =>
      rw [em] at h
      dsimp only at h
      cases ec : codeOfP q with
      | none => rw [ec] at h; cases h
      | some o =>
        rw [ec] at h
        dsimp only at h
        rw [Bool.and_eq_true, decide_eq_true_eq] at h
        have h2 := codeOf_ok T Hn n S q ql em o ec (fun rs' e => by rw [e] at h; exact of_decide_eq_true h.2)
        have e2 : f2 cEq (fCall 1 (lev Nn mm (n + 6) i_code_of) [] (fCons (fV 5) fNil)) (fV 0) (gEv f rs ws M v3 v4 (some (.d (.tuple (q.map (insD f)))))) S = .ok (.d (.bool false)) S := by
          have c := call_ok (k := 1) (fa := fCons (fV 5) fNil) (ev := gEv f rs ws M v3 v4 (some (.d (.tuple (q.map (insD f)))))) (S := S) (cons_ok rfl rfl) rfl h2
          have z := cmp_tid T o rs S
          rw [decide_eq_false h.1] at z
          exact (f2_ok (op := cEq) (fb := fV 0) (y := .d (.tuple (rs.map (rwD f)))) c rfl).trans z
        exact (ifS_f (andT_b t1 (fun _ => fB_ok e2))).trans rfl
theorem inner_loop (T : Stg f) (Hn : Nam f) (n : Nat) (S : So) (rs : List (Rw N)) (ws : List N) (M : Nat) (v3 : W) (v4 : Option W) : ∀ (l : List (List (Ins N))) (v5 : Option W), l.all (otherP rs) = true →
    ∃ w5, forL (gNm 5) (gdB (lev Nn mm (n + 6))) (l.map fun ms => PyData.tuple (ms.map (insD f))) (gEv f rs ws M v3 v4 v5) S = .nx (gEv f rs ws M v3 v4 w5) S
  | [], v5, _ => ⟨v5, rfl⟩
  | q :: l, v5, h => by
    rw [List.all_cons, Bool.and_eq_true] at h
    obtain ⟨w5, ih⟩ := inner_loop T Hn n S rs ws M v3 v4 l (some (.d (.tuple (q.map (insD f))))) h.2
    refine ⟨w5, ?_⟩
    rw [List.map_cons]
    exact (forL_cons (e1 := gEv f rs ws M v3 v4 (some (.d (.tuple (q.map (insD f)))))) rfl (other_ok T Hn n S rs ws M v3 v4 q h.1)).trans ih
theorem rgD1 (k : Nat) : rgD 1 k = (List.range k).map fun i => PyData.int ((i + 1 : Nat) : Int) := by
  unfold rgD
  apply List.map_congr_left
  intro i _
  show PyData.int (1 + (i : Int)) = _
  congr 1
  omega
theorem good_ok (T : Stg f) (Hn : Nam f) (n : Nat) (S : So) (rs : List (Rw N)) (x y : N) (h : goodP [x, y] rs = true) :
    lev Nn mm (n + 17) i__law_good [.d (.tuple (rs.map (rwD f))), .d (.list [f x, f y])] S = .ok (.d (.bool true)) S := by
  unfold goodP at h
  simp only [Bool.and_eq_true, decide_eq_true_eq] at h
  obtain ⟨⟨few, hc⟩, h⟩ := h
  cases ef : folsP rs 10 with
  | none => rw [ef] at h; cases h
  | some fd =>
    rw [ef] at h
    dsimp only at h
    cases ep : placesP rs.length (swapP fd) with
    | none => rw [ep] at h; cases h
    | some pl =>
      rw [ep] at h
      dsimp only at h
      cases em : machP rs (swapP fd) pl with
      | none => rw [em] at h; cases h
      | some ms =>
        rw [em] at h
        simp only [Bool.and_eq_true, decide_eq_true_eq] at h
        obtain ⟨⟨⟨⟨⟨fl, ml⟩, mo⟩, co⟩, sz⟩, al⟩ := h
        have i1 := instrs_ok T Hn n 10 S few hc fd fl ef
        have m1 := machine_ok T Hn n 10 S few hc fd pl fl ef ep ms em
        have c1 := codeOf_ok T Hn (n + 10) S ms (by omega) mo _ co (fun r e => by
          injection e with e
          rw [← e, List.length_map]
          exact few)
        have ei : (2 * ((rs.length : Nat) : Int) - ((swapP fd).length : Nat)) = ((ms.length : Nat) : Int) := by omega
        rw [ei] at i1
        refine def_rt (n := n + 16) ?_
        show m__law_good (lev Nn mm (n + 16)) [some (.d (.tuple (rs.map (rwD f)))), some (.d (.list [f x, f y])), none, none, none, none] S = _
        unfold m__law_good
        have s1 : fSet 2 (fCall 1 (lev Nn mm (n + 16) i_instructions) [] (fCons (fV 0) fNil)) [some (.d (.tuple (rs.map (rwD f)))), some (.d (.list [f x, f y])), none, none, none, none] S = .nx [some (.d (.tuple (rs.map (rwD f)))), some (.d (.list [f x, f y])), some (.d (.int (ms.length : Nat))), none, none, none] S := set_ok (call_ok (cons_ok rfl rfl) rfl i1)
        have s2 : fSet 3 (fCall 1 (lev Nn mm (n + 16) i_machine) [] (fCons (fV 0) fNil)) [some (.d (.tuple (rs.map (rwD f)))), some (.d (.list [f x, f y])), some (.d (.int (ms.length : Nat))), none, none, none] S = .nx (gEv f rs [x, y] ms.length (.d (.tuple (ms.map (insD f)))) none none) S := set_ok (call_ok (cons_ok rfl rfl) rfl m1)
        refine Eq.trans (seq_nx s1) (Eq.trans (seq_nx s2) ?_)
        have t1 : fB (f2 cNe (fB1 oLen (fCons (fV 3) fNil)) (fV 2)) (gEv f rs [x, y] ms.length (.d (.tuple (ms.map (insD f)))) none none) S = .ok false S := by
          have z := ne_nn ms.length ms.length S
          rw [decide_eq_true rfl] at z
          exact fB_ok ((f2_ok (op := cNe) (fb := fV 2) (y := .d (.int (ms.length : Nat))) (len_ok (f := fV 3) (w := .d (.tuple (ms.map (insD f)))) rfl (by rw [len_tup, List.length_map])) rfl).trans z)
        have t2 : fB (f2 cNe (fCall 1 (lev Nn mm (n + 16) i_code_of) [] (fCons (fV 3) fNil)) (fV 0)) (gEv f rs [x, y] ms.length (.d (.tuple (ms.map (insD f)))) none none) S = .ok false S := by
          have c := call_ok (k := 1) (fa := fCons (fV 3) fNil) (ev := gEv f rs [x, y] ms.length (.d (.tuple (ms.map (insD f)))) none none) (S := S) (cons_ok rfl rfl) rfl c1
          have z := cmp_ne T (some (rs.map upR)) rs S
          rw [decide_eq_true rfl] at z
          exact fB_ok ((f2_ok (op := cNe) (fb := fV 0) (y := .d (.tuple (rs.map (rwD f)))) c rfl).trans z)
        refine Eq.trans (seq_iff (orT_b (b := false) t1 (fun _ => t2))) ?_
        have lp : ∃ w4 w5, fFor (fRng2 (fCons (fC (.int 1)) (fCons (fB1 (o2I fun i j => if j < i then j else i) (fCons (fV 2) (fCons (fC (.int 4)) fNil))) fNil))) (gNm 4) 
            (fFor (fItems (fCall 2 (lev Nn mm (n + 16) i__law_machines) [] (fCons (fV 1) (fCons (fV 4) fNil)))) (gNm 5) (gdB (lev Nn mm (n + 16)))) (gEv f rs [x, y] ms.length (.d (.tuple (ms.map (insD f)))) none none) S = .nx (gEv f rs [x, y] ms.length (.d (.tuple (ms.map (insD f)))) w4 w5) S := by
          have rq : fRng2 (fCons (fC (.int 1)) (fCons (fB1 (o2I fun i j => if j < i then j else i) (fCons (fV 2) (fCons (fC (.int 4)) fNil))) fNil)) (gEv f rs [x, y] ms.length (.d (.tuple (ms.map (insD f)))) none none) S = .ok ((List.range (ms.length - 1)).map fun i => PyData.int ((i + 1 : Nat) : Int)) S := by
            have z : fB1 (o2I fun i j => if j < i then j else i) (fCons (fV 2) (fCons (fC (.int 4)) fNil)) (gEv f rs [x, y] ms.length (.d (.tuple (ms.map (insD f)))) none none) S = .ok (.d (.int (ms.length : Nat))) S := by
              show Res.ok (W.d (.int (if (4 : Int) < ((ms.length : Nat) : Int) then 4 else ((ms.length : Nat) : Int)))) S = _
              rw [if_neg (by omega)]
            have z2 : fCons (fC (.int 1)) (fCons (fB1 (o2I fun i j => if j < i then j else i) (fCons (fV 2) (fCons (fC (.int 4)) fNil))) fNil) (gEv f rs [x, y] ms.length (.d (.tuple (ms.map (insD f)))) none none) S = .ok [.d (.int 1), .d (.int (ms.length : Nat))] S := cons_ok rfl (cons_ok z rfl)
            have e9 : (((ms.length : Nat) : Int) - 1).toNat = ms.length - 1 := by omega
            have z3 := rng2_x 1 ((ms.length : Nat) : Int) z2 (by omega) (by omega) (by omega) (by omega)
            rw [e9, rgD1] at z3
            exact z3
          rw [for_ok rq]
          have inv := forL_inv (fun ev S' => S' = S ∧ ∃ w4 w5, ev = gEv f rs [x, y] ms.length (.d (.tuple (ms.map (insD f)))) w4 w5) (gNm 4) (fFor (fItems (fCall 2 (lev Nn mm (n + 16) i__law_machines) [] (fCons (fV 1) (fCons (fV 4) fNil)))) (gNm 5) (gdB (lev Nn mm (n + 16))))
            ((List.range (ms.length - 1)).map fun i => PyData.int ((i + 1 : Nat) : Int)) (gEv f rs [x, y] ms.length (.d (.tuple (ms.map (insD f)))) none none) S ⟨rfl, none, none, rfl⟩ (by
            rintro d hd ev S' ⟨rfl, w4, w5, rfl⟩
            obtain ⟨i, hi, rfl⟩ := List.mem_map.mp hd
            have hi' := List.mem_range.mp hi
            have a1 := List.all_eq_true.mp al i hi
            have mq : lev Nn mm (n + 15 + 1) i__law_machines [.d (.list [f x, f y]), .d (.int ((i + 1 : Nat) : Int))] S' = .ok (.d (msD f (machsP [x, y] (i + 1)))) S' := by
              have : i = 0 ∨ i = 1 := by omega
              rcases this with rfl | rfl
              · exact machs1 x y (n + 15) S'
              · exact machs2 x y (n + 15) S'
            obtain ⟨u5, lq⟩ := inner_loop T Hn (n + 10) S' rs [x, y] ms.length (.d (.tuple (ms.map (insD f)))) (some (.d (.int ((i + 1 : Nat) : Int)))) (machsP [x, y] (i + 1)) w5 a1
            refine ⟨gEv f rs [x, y] ms.length (.d (.tuple (ms.map (insD f)))) (some (.d (.int ((i + 1 : Nat) : Int)))) w5, gEv f rs [x, y] ms.length (.d (.tuple (ms.map (insD f)))) (some (.d (.int ((i + 1 : Nat) : Int)))) u5, S', rfl, ?_, rfl, _, _, rfl⟩
            have it : fItems (fCall 2 (lev Nn mm (n + 16) i__law_machines) [] (fCons (fV 1) (fCons (fV 4) fNil))) (gEv f rs [x, y] ms.length (.d (.tuple (ms.map (insD f)))) (some (.d (.int ((i + 1 : Nat) : Int)))) w5) S' = .ok ((machsP [x, y] (i + 1)).map fun ms => PyData.tuple (ms.map (insD f))) S' :=
              items_ok (call_ok (cons_ok rfl (cons_ok rfl rfl)) rfl mq) rfl
            rw [for_ok it]
            exact lq)
          obtain ⟨ev', S', e1, rfl, w4, w5, rfl⟩ := inv
          exact ⟨w4, w5, e1⟩
        obtain ⟨w4, w5, lp⟩ := lp
        exact Eq.trans (seq_nx lp) rfl
end
end G61

set_option linter.all false
set_option maxHeartbeats 4000000
set_option maxRecDepth 100000
namespace FL
open PySem L2
theorem strs_plain : ∀ A : List Str, PyData.plainAll (A.map .str) = true
  | [] => rfl
  | a :: A => by
    rw [List.map_cons, PyData.plainAll, strs_plain A]
    rfl
theorem bools_true {α : Type} : ∀ l : List α, bools (l.map fun _ => PyData.bool true) = some (l.map fun _ => true)
  | [] => rfl
  | a :: l => by
    rw [List.map_cons]
    unfold bools
    rw [bools_true l]
    rfl
theorem all_true {α : Type} (l : List α) (S : So) : allW (.d (.list (l.map fun _ => .bool true))) S = .ok (.d (.bool true)) S := by
  unfold allW
  simp only [asL, bools_true]
  simp
theorem in_strs (x : Str) (B : List Str) (S : So) : cIn (.d (.str x)) (.d (.tuple (B.map .str))) S = .ok (.d (.bool (decide (x ∈ B)))) S := by
  have e : ((B.map PyData.str).any fun z => PyData.eqv z (.str x)) = decide (x ∈ B) := by
    rw [List.any_map, Bool.eq_iff_iff, List.any_eq_true, decide_eq_true_eq]
    constructor
    · rintro ⟨y, hy, h⟩
      have h' : PyData.eqv (.str y) (.str x) = true := h
      rw [eqv_str, decide_eq_true_eq] at h'
      exact h' ▸ hy
    · intro h
      refine ⟨x, h, ?_⟩
      show PyData.eqv (.str x) (.str x) = true
      rw [eqv_str, decide_eq_true_eq]
  unfold cIn oOr oIn
  simp only [toP_d, seqP]
  rw [if_pos ⟨rfl, strs_plain B, by simp [PyData.depth]⟩]
  simp [e]
theorem srt2 (a b : Str) : srt [a, b] = if leX a b then [a, b] else [b, a] := by
  unfold srt
  simp [List.mergeSort, List.MergeSort.Internal.splitInTwo, List.merge]
end FL
namespace G61
open FL PySem L2 PC
def NmOk (x : Str) : Prop := ∀ n S, lev Nn mm (n + 1) i_is_name [.d (.str x)] S = .ok (.d (.bool true)) S
def some10 : List Str := ["a", "ab", "goto", "test", "c", "yes", "longname", "iff", "jump", "no"]
theorem name_ok (x : Str) (h1 : 1 ≤ x.length) (h8 : x.length ≤ 8) (hw : x ∉ (["and", "or", "not", "if", "else"] : List Str)) (hc : ∀ c ∈ x.cps.toList, leS "a" ⟨#[c]⟩ = true ∧ leS ⟨#[c]⟩ "z" = true) : NmOk x := by
  intro n S
  show fDef 2 (m_is_name (lev Nn mm n)) [.d (.str x)] S = _
  unfold m_is_name
  have hk : kitB "str" "str" = some true := by decide +kernel
  have hi := in_strs x ["and", "or", "not", "if", "else"] S
  rw [decide_eq_false hw] at hi
  have hz : x.length ≤ sizeLine := by rw [sizeLine_eq]; omega
  have hle : ∀ (a b : Str) (T : So), cLe (.d (.str a)) (.d (.str b)) T = .ok (.d (.bool (leS a b))) T := fun a b T => by
    simp [cLe, oOr, oI, asI, oSS, asS]
  have hm := lcL_map (g := gNm 1) (te := (fChain cLe cLe (fC (.str "a")) (fV 1) (fC (.str "z")))) (ev0 := [some (.d (.str x)), none]) (S := S) (dt := fun c : Nat => PyData.str ⟨#[c]⟩) (f := fun _ => .bool true) x.cps.toList []
    (fun c hcm => ⟨_, rfl, by simp [fChain, hle, asB, hc c hcm]⟩) (by rw [sizeLine_eq]; simp; have : x.cps.size = x.length := rfl; omega)
  have ha := all_true x.cps.toList S
  simp at hm ha hi
  have l1 : cLe (.d (.int 1)) (.d (.int (x.length : Int))) S = .ok (.d (.bool true)) S := by simp [cLe, oOr, oI, asI]; omega
  have l2 : cLe (.d (.int (x.length : Int))) (.d (.int 8)) S = .ok (.d (.bool true)) S := by simp [cLe, oOr, oI, asI]; omega
  simp [fIsi, tyW, hk, tru, oLen, lenW, hz, fChain, l1, l2, asB, hi, hm, ha, -lcL]
theorem nm_all : ∀ x ∈ some10, NmOk x := by
  intro x hx
  have h : ∀ x ∈ some10, (1 ≤ x.length ∧ x.length ≤ 8) ∧ x ∉ (["and", "or", "not", "if", "else"] : List Str) ∧ ∀ c ∈ x.cps.toList, leS "a" ⟨#[c]⟩ = true ∧ leS ⟨#[c]⟩ "z" = true := by decide +kernel
  obtain ⟨⟨h1, h2⟩, h3, h4⟩ := h x hx
  exact name_ok x h1 h2 h3 h4
def wd (a : Nat) : Str := some10.getD a ""
def fW (a : Nat) (b : Bool) : PyData := .str (if b then wd ((a + 1) % 10) else wd a)
theorem wd_mem : ∀ a, a < 10 → wd a ∈ some10 := by decide +kernel
theorem wd_ne : ∀ a, a < 10 → wd a ≠ wd ((a + 1) % 10) := by decide +kernel
def fT (a : Nat) (h : a < 10) : Stg (fW a) := ⟨fun b => if b then wd ((a + 1) % 10) else wd a, fun _ => rfl, fun x y e => by
  cases x <;> cases y
  · rfl
  · exact absurd e (wd_ne a h)
  · exact absurd e.symm (wd_ne a h)
  · rfl⟩
theorem fNam (a : Nat) (h : a < 10) : Nam (fW a) := fun x n S => by
  cases x
  · exact nm_all _ (wd_mem a h) n S
  · exact nm_all _ (wd_mem _ (Nat.mod_lt _ (by decide))) n S
theorem words_ok (n k : Nat) (S : So) (i : Int) (hk : k < S.length) : lev Nn mm (n + 2) i__law_words [.r k, .d (.int 2)] (own S k i) = .ok (.d (.list ([false, true].map (fW (i % 10).toNat)))) (own S k (i / 10)) := by
  show fDef 4 (m__law_words (lev Nn mm (n + 1))) [.r k, .d (.int 2)] (own S k i) = _
  have ht := take_own n k S i 10 hk (by decide) (by decide)
  have hd : i % 10 = 0 ∨ i % 10 = 1 ∨ i % 10 = 2 ∨ i % 10 = 3 ∨ i % 10 = 4 ∨ i % 10 = 5 ∨ i % 10 = 6 ∨ i % 10 = 7 ∨ i % 10 = 8 ∨ i % 10 = 9 := by omega
  have tl : ∀ j, (own S k j).take S.length = own S k j := fun j => own_take
  refine (fdef_d (x := .list ([false, true].map (fW (i % 10).toNat))) (S1 := own S k (i / 10)) ?_).trans (by simp [tl])
  show m__law_words (lev Nn mm (n + 1)) [some (.r k), some (.d (.int 2)), none, none] (own S k i) = _
  unfold m__law_words
  rw [seq_nx (e1 := [some (.r k), some (.d (.int 2)), some (.d (.list (some10.map .str))), none]) (S1 := own S k i) (by simp [fLst, allD, sizeLine_eq, some10])]
  rw [seq_nx (e1 := [some (.r k), some (.d (.int 2)), some (.d (.list (some10.map .str))), some (.d (.int (i % 10)))]) (S1 := own S k (i / 10)) (by simp [ht])]
  rcases hd with h | h | h | h | h | h | h | h | h | h <;> rw [h] <;> kernel_rfl
theorem sort_ok (a : Nat) : ∃ x y : Bool, ((x = false ∧ y = true) ∨ (x = true ∧ y = false)) ∧ ∀ S, sortW (.d (.list ([false, true].map (fW a)))) S = .ok (.d (.list [fW a x, fW a y])) S := by
  have e : ∀ S, sortW (.d (.list ([false, true].map (fW a)))) S = .ok (.d (.list ((srt [wd a, wd ((a + 1) % 10)]).map .str))) S := fun S => by
    unfold sortW
    show (if [wd a, wd ((a + 1) % 10)].length < 64 then _ else _) = _
    exact if_pos (by simp)
  by_cases c : leX (wd a) (wd ((a + 1) % 10)) = true
  · refine ⟨false, true, .inl ⟨rfl, rfl⟩, fun S => ?_⟩
    rw [e, srt2, if_pos c]
    rfl
  · refine ⟨true, false, .inr ⟨rfl, rfl⟩, fun S => ?_⟩
    rw [e, srt2, if_neg c]
    rfl
/-! all codes -/
theorem all1 : ((turnsL [false, true] []).all (okRows [false, true])) = true := by decide +kernel
theorem all2 : ((turnsL [false, true] []).all fun r => (turnsL [false, true] r).all (okRows [false, true])) = true := by decide +kernel
theorem all1' : ((turnsL [false, true] []).all (okRows [true, false])) = true := by decide +kernel
theorem all2' : ((turnsL [false, true] []).all fun r => (turnsL [false, true] r).all (okRows [true, false])) = true := by decide +kernel
def fixed : List (List (Rw Bool)) := [[(false, .row 1, .row 1), (true, .yes, .no)], [(false, .row 1, .yes), (true, .no, .no)], [(false, .no, .row 1), (false, .no, .yes)]]
theorem allF : fixed.all (goodP [false, true]) = true := by decide +kernel
theorem allF' : fixed.all (goodP [true, false]) = true := by decide +kernel
theorem ok_rows {ws : List Bool} {rows : List (Rw Bool)} (h : okRows ws rows = true) : rows ≠ [] ∧ ∃ rs, ordP rows (.row (rows.length - 1)) = some rs ∧ goodP ws rs = true := by
  unfold okRows at h
  rw [Bool.and_eq_true] at h
  obtain ⟨h1, h2⟩ := h
  constructor
  · intro z
    rw [z] at h1
    exact absurd h1 (by decide)
  · cases e : ordP rows (.row (rows.length - 1)) with
    | none => rw [e] at h2; exact absurd (show false = true from h2) (by decide)
    | some rs => rw [e] at h2; exact ⟨rs, rfl, h2⟩
theorem all_codes (x y : Bool) (hxy : (x = false ∧ y = true) ∨ (x = true ∧ y = false)) (many : Nat) (hm : many = 1 ∨ many = 2) (rows : List (Rw Bool)) (h : TurnN [false, true] many [] rows) : rows ≠ [] ∧ ∃ rs, ordP rows (.row (rows.length - 1)) = some rs ∧ goodP [x, y] rs = true := by
  rcases hm with rfl | rfl
  · have h : ∃ r1, Turn [false, true] [] r1 ∧ rows = r1 := h
    obtain ⟨r1, t1, e⟩ := h
    subst e
    have m1 := turn_mem t1
    rcases hxy with h | h
    · rw [h.1, h.2]
      exact ok_rows (List.all_eq_true.mp all1 _ m1)
    · rw [h.1, h.2]
      exact ok_rows (List.all_eq_true.mp all1' _ m1)
  · have h : ∃ r1, Turn [false, true] [] r1 ∧ ∃ r2, Turn [false, true] r1 r2 ∧ rows = r2 := h
    obtain ⟨r1, t1, r2, t2, e⟩ := h
    subst e
    have m1 := turn_mem t1
    have m2 := turn_mem t2
    rcases hxy with h | h
    · rw [h.1, h.2]
      exact ok_rows (List.all_eq_true.mp (List.all_eq_true.mp all2 _ m1) _ m2)
    · rw [h.1, h.2]
      exact ok_rows (List.all_eq_true.mp (List.all_eq_true.mp all2' _ m1) _ m2)
end G61

set_option linter.all false
set_option maxHeartbeats 4000000
set_option maxRecDepth 100000
namespace G61
open FL PySem L2 PC
def lEv (ns : List Int) (v1 v2 v3 v4 v5 v6 : Option W) : Ev := [some (.s ns), v1, v2, v3, v4, v5, v6]
abbrev c1 (c : Cs) : FS := fSet 2 (fMut (fCons (fCall 2 (c i__law_cell) [] (fCons (fV 0) (fCons (fV 1) fNil))) fNil))
abbrev c2 (c : Cs) : FS := fSet 3 (fCall 2 (c i__law_words) [] (fCons (fV 2) (fCons (fC (.int 2)) fNil)))
abbrev g1 (c : Cs) : FT := fNotT (fTr (fCall 2 (c i__law_good) [] (fCons (fCall 3 (c i__law_any_code) [] (fCons (fV 2) (fCons (fV 3) (fCons (f2 oAdd (fC (.int 1)) (f2 oMod (fB1 (o1 intW) (fCons (fV 1) fNil)) (fC (.int 2)))) fNil)))) (fCons (fB1 (o1 sortW) (fCons (fV 3) fNil)) fNil))))
abbrev c4 : FS := fAsg (gTp 2 (gCs (gNm 4) (gCs (gNm 5) gNo))) (fV 3)
abbrev c5 : FS := fSet 6 (fLst (fCons (fTup (fCons (fTup (fCons (fV 4) (fCons (fC (.int 1)) (fCons (fC (.int 1)) fNil)))) (fCons (fTup (fCons (fV 5) (fCons (fC (.str "yes")) (fCons (fC (.str "no")) fNil)))) fNil))) (fCons (fTup (fCons (fTup (fCons (fV 4) (fCons (fC (.int 1)) (fCons (fC (.str "yes")) fNil)))) (fCons (fTup (fCons (fV 5) (fCons (fC (.str "no")) (fCons (fC (.str "no")) fNil)))) fNil))) fNil)))
abbrev c6 : FS := fSet 6 (f2 oAdd (fV 6) (fLst (fCons (fTup (fCons (fTup (fCons (fV 4) (fCons (fC (.str "no")) (fCons (fC (.int 1)) fNil)))) (fCons (fTup (fCons (fV 4) (fCons (fC (.str "no")) (fCons (fC (.str "yes")) fNil)))) fNil))) fNil)))
abbrev g2 (c : Cs) : FT := fNotT (fTr (fCall 2 (c i__law_good) [] (fCons (f2 oIx (fV 6) (fCall 2 (c i__law_take) [] (fCons (fV 2) (fCons (fC (.int 3)) fNil)))) (fCons (fB1 (o1 sortW) (fCons (fV 3) fNil)) fNil))))
abbrev turnB (c : Cs) : FS := (fSeq (c1 c) (fSeq (c2 c) (fSeq (fIfS (g1 c) (fRet (fC (.bool false))) fNext) (fSeq c4 (fSeq c5 (fSeq c6 (fIfS (g2 c) (fRet (fC (.bool false))) fNext)))))))
def fx (a : Nat) : PyData := .list (fixed.map fun rs => .tuple (rs.map (rwD (fW a))))
def fx2 (a : Nat) : PyData := .list ((fixed.take 2).map fun rs => .tuple (rs.map (rwD (fW a))))
theorem c5_ok (ns : List Int) (a : Nat) (v1 v2 v3 v6 : Option W) (S : So) : c5 (lEv ns v1 v2 v3 (some (.d (fW a false))) (some (.d (fW a true))) v6) S = .nx (lEv ns v1 v2 v3 (some (.d (fW a false))) (some (.d (fW a true))) (some (.d (fx2 a)))) S := by
  have h : fLst (fCons (fTup (fCons (fTup (fCons (fV 4) (fCons (fC (.int 1)) (fCons (fC (.int 1)) fNil)))) (fCons (fTup (fCons (fV 5) (fCons (fC (.str "yes")) (fCons (fC (.str "no")) fNil)))) fNil))) (fCons (fTup (fCons (fTup (fCons (fV 4) (fCons (fC (.int 1)) (fCons (fC (.str "yes")) fNil)))) (fCons (fTup (fCons (fV 5) (fCons (fC (.str "no")) (fCons (fC (.str "no")) fNil)))) fNil))) fNil)) (lEv ns v1 v2 v3 (some (.d (fW a false))) (some (.d (fW a true))) v6) S = .ok (.d (fx2 a)) S := by
    simp [fLst, fTup, lEv, allD, sizeLine_eq]
    rfl
  exact (set_ok h).trans rfl
theorem c6_ok (ns : List Int) (a : Nat) (v1 v2 v3 : Option W) (S : So) : c6 (lEv ns v1 v2 v3 (some (.d (fW a false))) (some (.d (fW a true))) (some (.d (fx2 a)))) S = .nx (lEv ns v1 v2 v3 (some (.d (fW a false))) (some (.d (fW a true))) (some (.d (fx a)))) S := by
  have h : f2 oAdd (fV 6) (fLst (fCons (fTup (fCons (fTup (fCons (fV 4) (fCons (fC (.str "no")) (fCons (fC (.int 1)) fNil)))) (fCons (fTup (fCons (fV 4) (fCons (fC (.str "no")) (fCons (fC (.str "yes")) fNil)))) fNil))) fNil)) (lEv ns v1 v2 v3 (some (.d (fW a false))) (some (.d (fW a true))) (some (.d (fx2 a)))) S = .ok (.d (fx a)) S := by
    simp [fLst, fTup, lEv, allD, sizeLine_eq, oAdd, oAddS, oAddL, fx2, fixed]
    rfl
  exact (set_ok h).trans rfl
theorem turn_ok (ns : List Int) (hl : ns.length ≤ 1000) (t : Nat) (ht : t ≤ 1000) (v2 v3 v4 v5 v6 : Option W) (S : So) :
    ∃ (w2 w3 w4 w5 w6 : Option W) (S' : So), turnB (lev Nn mm 99) (lEv ns (some (.d (.int (t : Nat)))) v2 v3 v4 v5 v6) S = .nx (lEv ns (some (.d (.int (t : Nat)))) w2 w3 w4 w5 w6) S' := by
  obtain ⟨i, hi⟩ := cell_ok 97 ns t S ht hl
  have k0 : S.length < (S ++ [Ob.l [.int i]]).length := by simp
  have own0 : S ++ [Ob.l [.int i]] = own (S ++ [Ob.l [.int i]]) S.length i := by simp [own]
  have e1 : c1 (lev Nn mm 99) (lEv ns (some (.d (.int (t : Nat)))) v2 v3 v4 v5 v6) S = .nx (lEv ns (some (.d (.int (t : Nat)))) (some (.r S.length)) v3 v4 v5 v6) (own (S ++ [Ob.l [.int i]]) S.length i) := by
    rw [← own0]
    exact (set_ok (mut1_ok (cons_ok (call_ok (cons_ok rfl (cons_ok rfl rfl)) rfl hi) rfl))).trans rfl
  generalize S ++ [Ob.l [.int i]] = U at k0 e1
  have hw := words_ok 97 S.length U i k0
  have ha : (i % 10).toNat < 10 := by omega
  generalize (i % 10).toNat = a at hw ha
  obtain ⟨x, y, hxy, hs⟩ := sort_ok a
  have e2 : c2 (lev Nn mm 99) (lEv ns (some (.d (.int (t : Nat)))) (some (.r S.length)) v3 v4 v5 v6) (own U S.length i) = .nx (lEv ns (some (.d (.int (t : Nat)))) (some (.r S.length)) (some (.d (.list ([false, true].map (fW a))))) v4 v5 v6) (own U S.length (i / 10)) :=
    (set_ok (call_ok (cons_ok rfl (cons_ok rfl rfl)) rfl hw)).trans rfl
  generalize i / 10 = j at e2
  -- the drawn code
  have hm : (1 + t % 2 : Nat) = 1 ∨ (1 + t % 2 : Nat) = 2 := by omega
  obtain ⟨j2, rs, hg, hany⟩ := any_ok (fT a ha) 97 U S.length k0 [false, true] (by simp) (by simp) (1 + t % 2) (by omega) j (fun rs => goodP [x, y] rs = true) (fun rows h => all_codes x y hxy _ hm rows h)
  have gq := good_ok (fT a ha) (fNam a ha) 82 (own U S.length j2) rs x y hg
  have mq : f2 oAdd (fC (.int 1)) (f2 oMod (fB1 (o1 intW) (fCons (fV 1) fNil)) (fC (.int 2))) (lEv ns (some (.d (.int (t : Nat)))) (some (.r S.length)) (some (.d (.list ([false, true].map (fW a))))) v4 v5 v6) (own U S.length j) = .ok (.d (.int ((1 + t % 2 : Nat) : Int))) (own U S.length j) := by
    simp [lEv]
  have sq : ∀ (j : Int) {v4 v5 v6 : Option W}, fB1 (o1 sortW) (fCons (fV 3) fNil) (lEv ns (some (.d (.int (t : Nat)))) (some (.r S.length)) (some (.d (.list ([false, true].map (fW a))))) v4 v5 v6) (own U S.length j) = .ok (.d (.list [fW a x, fW a y])) (own U S.length j) := fun j v4 v5 v6 => by
    have z : fCons (fV 3) fNil (lEv ns (some (.d (.int (t : Nat)))) (some (.r S.length)) (some (.d (.list ([false, true].map (fW a))))) v4 v5 v6) (own U S.length j) = .ok [.d (.list ([false, true].map (fW a)))] (own U S.length j) := rfl
    rw [b1_ok z]
    exact hs _
  have e3 : g1 (lev Nn mm 99) (lEv ns (some (.d (.int (t : Nat)))) (some (.r S.length)) (some (.d (.list ([false, true].map (fW a))))) v4 v5 v6) (own U S.length j) = .ok false (own U S.length j2) := by
    have a1 := call_ok (k := 3) (g := lev Nn mm 99 i__law_any_code) (fa := fCons (fV 2) (fCons (fV 3) (fCons (f2 oAdd (fC (.int 1)) (f2 oMod (fB1 (o1 intW) (fCons (fV 1) fNil)) (fC (.int 2)))) fNil))) (ev := lEv ns (some (.d (.int (t : Nat)))) (some (.r S.length)) (some (.d (.list ([false, true].map (fW a))))) v4 v5 v6) (S := own U S.length j)
      (cons_ok (x := .r S.length) rfl (cons_ok (x := .d (.list ([false, true].map (fW a)))) rfl (cons_ok mq (fr := fNil) (xs := []) rfl))) rfl hany
    have a2 : fB1 (o1 sortW) (fCons (fV 3) fNil) (lEv ns (some (.d (.int (t : Nat)))) (some (.r S.length)) (some (.d (.list ([false, true].map (fW a))))) v4 v5 v6) (own U S.length j2) = .ok (.d (.list [fW a x, fW a y])) (own U S.length j2) := sq j2
    exact notT_ok (a := true) (tr_b (call_ok (cons_ok a1 (cons_ok a2 (fr := fNil) (xs := []) rfl)) rfl gq))
  have e4 : c4 (lEv ns (some (.d (.int (t : Nat)))) (some (.r S.length)) (some (.d (.list ([false, true].map (fW a))))) v4 v5 v6) (own U S.length j2) = .nx (lEv ns (some (.d (.int (t : Nat)))) (some (.r S.length)) (some (.d (.list ([false, true].map (fW a))))) (some (.d (fW a false))) (some (.d (fW a true))) v6) (own U S.length j2) :=
    asg_ok (w := .d (.list ([false, true].map (fW a)))) rfl rfl
  have e5 := c5_ok ns a (some (.d (.int (t : Nat)))) (some (.r S.length)) (some (.d (.list ([false, true].map (fW a))))) v6 (own U S.length j2)
  have e6 := c6_ok ns a (some (.d (.int (t : Nat)))) (some (.r S.length)) (some (.d (.list ([false, true].map (fW a))))) (own U S.length j2)
  obtain ⟨q, hq, pq⟩ := pick_ok fixed (fun rs => .tuple (rs.map (rwD (fW a)))) (by simp [fixed]) j2
  have tk := take_own 98 S.length U j2 3 k0 (by decide) (by decide)
  have hgq : goodP [x, y] q = true := by
    rcases hxy with h | h
    · rw [h.1, h.2]
      exact List.all_eq_true.mp allF q hq
    · rw [h.1, h.2]
      exact List.all_eq_true.mp allF' q hq
  have gq2 := good_ok (fT a ha) (fNam a ha) 82 (own U S.length (j2 / 3)) q x y hgq
  have e7 : g2 (lev Nn mm 99) (lEv ns (some (.d (.int (t : Nat)))) (some (.r S.length)) (some (.d (.list ([false, true].map (fW a))))) (some (.d (fW a false))) (some (.d (fW a true))) (some (.d (fx a)))) (own U S.length j2) = .ok false (own U S.length (j2 / 3)) := by
    have a0 : fCall 2 (lev Nn mm 99 i__law_take) [] (fCons (fV 2) (fCons (fC (.int 3)) fNil)) (lEv ns (some (.d (.int (t : Nat)))) (some (.r S.length)) (some (.d (.list ([false, true].map (fW a))))) (some (.d (fW a false))) (some (.d (fW a true))) (some (.d (fx a)))) (own U S.length j2) = .ok (.d (.int (j2 % 3))) (own U S.length (j2 / 3)) :=
      call_ok (cons_ok rfl (cons_ok rfl rfl)) rfl tk
    have v6q : ∀ T, fV 6 (lEv ns (some (.d (.int (t : Nat)))) (some (.r S.length)) (some (.d (.list ([false, true].map (fW a))))) (some (.d (fW a false))) (some (.d (fW a true))) (some (.d (fx a)))) T = .ok (.d (fx a)) T := fun _ => rfl
    have a1 := (f2_ok (op := oIx) (v6q _) a0).trans (pq (own U S.length (j2 / 3)))
    exact notT_ok (a := true) (tr_b (call_ok (cons_ok a1 (cons_ok (sq (j2 / 3)) (fr := fNil) (xs := []) rfl)) rfl gq2))
  exact ⟨some (.r S.length), some (.d (.list ([false, true].map (fW a)))), some (.d (fW a false)), some (.d (fW a true)), some (.d (fx a)), own U S.length (j2 / 3), Eq.trans (seq_nx e1) (Eq.trans (seq_nx e2) (Eq.trans (seq_iff e3) (Eq.trans (seq_nx e4) (Eq.trans (seq_nx e5) (Eq.trans (seq_nx e6) ((ifS_f e7).trans rfl))))))⟩
theorem count_ok (ns : List Int) (v1 v2 v3 v4 v5 v6 : Option W) (S : So) : ∃ m : Nat, m ≤ 2 ∧ fRng1 (fCons (fB1 (o2I fun i j => if j > i then j else i) (fCons (fB1 (o2I fun i j => if j < i then j else i) (fCons (fB1 oLen (fCons (fV 0) fNil)) (fCons (fC (.int 2)) fNil))) (fCons (fC (.int 1)) fNil))) fNil) (lEv ns v1 v2 v3 v4 v5 v6) S = .ok (rgD 0 m) S := by
  have h0 : fB1 oLen (fCons (fV 0) fNil) (lEv ns v1 v2 v3 v4 v5 v6) S = .ok (.d (.int ns.length)) S := rfl
  generalize hx : (ns.length : Int) = x at h0
  have h1 : fB1 (o2I fun i j => if j < i then j else i) (fCons (fB1 oLen (fCons (fV 0) fNil)) (fCons (fC (.int 2)) fNil)) (lEv ns v1 v2 v3 v4 v5 v6) S = .ok (.d (.int (if 2 < x then 2 else x))) S := (b1_ok (cons_ok h0 rfl)).trans rfl
  generalize hy : (if 2 < x then 2 else x) = y at h1
  have h2 : fB1 (o2I fun i j => if j > i then j else i) (fCons (fB1 (o2I fun i j => if j < i then j else i) (fCons (fB1 oLen (fCons (fV 0) fNil)) (fCons (fC (.int 2)) fNil))) (fCons (fC (.int 1)) fNil)) (lEv ns v1 v2 v3 v4 v5 v6) S = .ok (.d (.int (if 1 > y then 1 else y))) S := (b1_ok (cons_ok h1 rfl)).trans rfl
  have y5 : y ≤ 2 := by rw [← hy]; split <;> omega
  generalize hz : (if 1 > y then 1 else y) = z at h2
  have z1 : 1 ≤ z ∧ z ≤ 2 := by rw [← hz]; split <;> omega
  exact ⟨z.toNat, by omega, rng_x z (cons_ok h2 rfl) (by omega) (by omega)⟩
theorem law_true : ∀ ns : List Int, ns.length ≤ 63 → lev Nn mm 100 i_law [.s ns] [] = .ok (.d (.bool true)) [] := fun ns hl => by
  show fDef 7 (m_law (lev Nn mm 99)) [.s ns] [] = _
  obtain ⟨m, hm, hc⟩ := count_ok ns none none none none none none []
  obtain ⟨ev1, S1, h1, a1, a2, a3, a4, a5, a6, rfl⟩ := forL_inv (fun ev _ => ∃ v1 v2 v3 v4 v5 v6 : Option W, ev = lEv ns v1 v2 v3 v4 v5 v6) (gNm 1) (turnB (lev Nn mm 99)) (rgD 0 m) (lEv ns none none none none none none) [] ⟨_, _, _, _, _, _, rfl⟩ (by
    rintro d hd ev S ⟨v1, v2, v3, v4, v5, v6, rfl⟩
    obtain ⟨t, ht, rfl⟩ := List.mem_map.mp hd
    have ht := List.mem_range.mp ht
    rw [Int.zero_add]
    obtain ⟨w2, w3, w4, w5, w6, S', h⟩ := turn_ok ns (by omega) t (by omega) v2 v3 v4 v5 v6 S
    exact ⟨_, _, S', rfl, h, _, w2, w3, w4, w5, w6, rfl⟩)
  have f1 := (for_ok hc).trans h1
  refine (fdef_d (x := .bool true) (S1 := S1) ?_).trans rfl
  show m_law (lev Nn mm 99) (lEv ns none none none none none none) [] = _
  unfold m_law
  exact (seq_nx f1).trans rfl
end G61

open PySem PySem.W PyProof.Rows
set_option Elab.async false
set_option maxRecDepth 100000 in
set_option maxHeartbeats 0 in
theorem PySem.Challenge.cw_leftfirst_k61_whole_no_shorter_machine_holds : PySem.Challenge.rw_leftfirst_k61_whole_no_shorter_machine.Holds := by
  w_on; o_law; k_head; (case hw => w_witness2)
  k_fill
  refine FL.walkF (l := PySem.Challenge.rw_leftfirst_k61_whole_no_shorter_machine) (n := 63) (k := 102) (x := "script") (g := FL.lev G61.Nn G61.mm 100 31) rfl (by decide) rfl ⟨rfl, by decide, by decide⟩ (fun w h Y => PySem.W.kIn_of Y) ?F ?go
  case go => exact G61.law_true
  case F =>
    intro w mg fa h KX G hmg
    refine' G61.all_mk0 KX G hmg ?n0 ?n1 ?n2 ?n3 ?A ?qa0 ?qa1 ?qa2 ?qa3 ?qa4 ?qa5 ?qe0 ?qe1 ?qe2 ?qe3 ?qe4 ?qe5 ?qe6 ?qe7 ?qe8 ?qe9 ?qe10 ?qe11 ?qe12 ?qe13 ?qe14 ?qe15 ?qe16 ?qe17 ?qe18 ?qe19 ?qe20 ?qe21 ?qe22 ?qe23 ?qe24 ?qe25 ?qe26 ?qe27 ?qe28 ?qe29 ?qe30 ?qe31
    (case n0 => k_is)
    (case n1 => k_is)
    (case n2 => k_is)
    (case n3 => k_is)
    (case A => kernel_rfl)
    (case qa0 => refine' FL.gd_int KX G ?h13a; (case h13a => k_is))
    (case qa1 => refine' FL.gd_int KX G ?h14a; (case h14a => k_is))
    (case qa2 => refine' FL.gd_strs (zs := ["and", "or", "not", "if", "else"]) KX G ?h15a ?h15l ?h15e ?h15z; (case h15a => k_is); (case h15l => k_is); (case h15e => exact (.cons _ _ (.cons _ _ (.cons _ _ (.cons _ _ (.cons _ _ .nil)))))); (case h15z => decide))
    (case qa3 => refine' FL.gd_strs (zs := ["yes", "no"]) KX G ?h16a ?h16l ?h16e ?h16z; (case h16a => k_is); (case h16l => k_is); (case h16e => exact (.cons _ _ (.cons _ _ .nil))); (case h16z => decide))
    (case qa4 => refine' FL.gd_int KX G ?h17a; (case h17a => k_is))
    (case qa5 => refine' FL.gd_int KX G ?h18a; (case h18a => k_is))
    (case qe0 => refine' G61.mk_is_name KX G ?h19a ?h19l ?h19c ?h19k; (case h19a => k_is); (case h19l => k_is); (case h19c => k_is); (case h19k => k_is))
    (case qe1 => refine' G61.mk_is_code KX G ?h20a ?h20l ?h20c ?h20k; (case h20a => k_is); (case h20l => k_is); (case h20c => k_is); (case h20k => k_is))
    (case qe2 => refine' G61.mk__is_row KX G ?h21a ?h21l ?h21c ?h21k; (case h21a => k_is); (case h21l => k_is); (case h21c => k_is); (case h21k => k_is))
    (case qe3 => refine' G61.mk_is_target KX G ?h22a ?h22l ?h22c ?h22k; (case h22a => k_is); (case h22l => k_is); (case h22c => k_is); (case h22k => k_is))
    (case qe4 => refine' G61.mk_check_code KX G ?h23a ?h23l ?h23c ?h23k; (case h23a => k_is); (case h23l => k_is); (case h23c => k_is); (case h23k => k_is))
    (case qe5 => refine' G61.mk__fits KX G ?h24a ?h24l ?h24c ?h24k; (case h24a => k_is); (case h24l => k_is); (case h24c => k_is); (case h24k => k_is))
    (case qe6 => refine' G61.mk_bounded KX G ?h25a ?h25l ?h25c ?h25k; (case h25a => k_is); (case h25l => k_is); (case h25c => k_is); (case h25k => k_is))
    (case qe7 => refine' G61.mk_tidied KX G ?h26a ?h26l ?h26c ?h26k ?h26lT; (case h26a => k_is); (case h26l => k_is); (case h26c => k_is); (case h26k => k_is); (case h26lT => k_is))
    (case qe8 => refine' G61.mk__numbered KX G ?h27a ?h27l ?h27c ?h27k; (case h27a => k_is); (case h27l => k_is); (case h27c => k_is); (case h27k => k_is))
    (case qe9 => refine' G61.mk_met KX G ?h28a ?h28l ?h28c ?h28k ?h28lT; (case h28a => k_is); (case h28l => k_is); (case h28c => k_is); (case h28k => k_is); (case h28lT => k_is))
    (case qe10 => refine' G61.mk_is_machine KX G ?h29a ?h29l ?h29c ?h29k; (case h29a => k_is); (case h29l => k_is); (case h29c => k_is); (case h29k => k_is))
    (case qe11 => refine' G61.mk__is_instruction KX G ?h30a ?h30l ?h30c ?h30k; (case h30a => k_is); (case h30l => k_is); (case h30c => k_is); (case h30k => k_is))
    (case qe12 => refine' G61.mk__check_machine KX G ?h31a ?h31l ?h31c ?h31k; (case h31a => k_is); (case h31l => k_is); (case h31c => k_is); (case h31k => k_is))
    (case qe13 => refine' G61.mk__rows KX G ?h32a ?h32l ?h32c ?h32k; (case h32a => k_is); (case h32l => k_is); (case h32c => k_is); (case h32k => k_is))
    (case qe14 => refine' G61.mk__row KX G ?h33a ?h33l ?h33c ?h33k; (case h33a => k_is); (case h33l => k_is); (case h33c => k_is); (case h33k => k_is))
    (case qe15 => refine' G61.mk__rows_without_gotos KX G ?h34a ?h34l ?h34c ?h34k; (case h34a => k_is); (case h34l => k_is); (case h34c => k_is); (case h34k => k_is))
    (case qe16 => refine' G61.mk__behind_gotos KX G ?h35a ?h35l ?h35c ?h35k; (case h35a => k_is); (case h35l => k_is); (case h35c => k_is); (case h35k => k_is))
    (case qe17 => refine' G61.mk_code_of KX G ?h36a ?h36l ?h36c ?h36k; (case h36a => k_is); (case h36l => k_is); (case h36c => k_is); (case h36k => k_is))
    (case qe18 => refine' G61.mk_instructions KX G ?h37a ?h37l ?h37c ?h37k; (case h37a => k_is); (case h37l => k_is); (case h37c => k_is); (case h37k => k_is))
    (case qe19 => refine' G61.mk_machine KX G ?h38a ?h38l ?h38c ?h38k; (case h38a => k_is); (case h38l => k_is); (case h38c => k_is); (case h38k => k_is))
    (case qe20 => refine' G61.mk__places KX G ?h39a ?h39l ?h39c ?h39k; (case h39a => k_is); (case h39l => k_is); (case h39c => k_is); (case h39k => k_is))
    (case qe21 => refine' G61.mk__followers KX G ?h40a ?h40l ?h40c ?h40k; (case h40a => k_is); (case h40l => k_is); (case h40c => k_is); (case h40k => k_is))
    (case qe22 => refine' G61.mk__follow KX G ?h41a ?h41l ?h41c ?h41k; (case h41a => k_is); (case h41l => k_is); (case h41c => k_is); (case h41k => k_is))
    (case qe23 => refine' G61.mk__law_mixed KX G ?h42a ?h42l ?h42c ?h42k; (case h42a => k_is); (case h42l => k_is); (case h42c => k_is); (case h42k => k_is))
    (case qe24 => refine' G61.mk__law_cell KX G ?h43a ?h43l ?h43c ?h43k; (case h43a => k_is); (case h43l => k_is); (case h43c => k_is); (case h43k => k_is))
    (case qe25 => refine' G61.mk__law_take KX G ?h44a ?h44l ?h44c ?h44k; (case h44a => k_is); (case h44l => k_is); (case h44c => k_is); (case h44k => k_is))
    (case qe26 => refine' G61.mk__law_words KX G ?h45a ?h45l ?h45c ?h45k; (case h45a => k_is); (case h45l => k_is); (case h45c => k_is); (case h45k => k_is))
    (case qe27 => refine' G61.mk__law_ordered KX G ?h46a ?h46l ?h46c ?h46k; (case h46a => k_is); (case h46l => k_is); (case h46c => k_is); (case h46k => k_is))
    (case qe28 => refine' G61.mk__law_any_code KX G ?h47a ?h47l ?h47c ?h47k; (case h47a => k_is); (case h47l => k_is); (case h47c => k_is); (case h47k => k_is))
    (case qe29 => refine' G61.mk__law_machines KX G ?h48a ?h48l ?h48c ?h48k; (case h48a => k_is); (case h48l => k_is); (case h48c => k_is); (case h48k => k_is))
    (case qe30 => refine' G61.mk__law_good KX G ?h49a ?h49l ?h49c ?h49k; (case h49a => k_is); (case h49l => k_is); (case h49c => k_is); (case h49k => k_is))
    (case qe31 => refine' G61.mk_law KX G ?h50a ?h50l ?h50c ?h50k; (case h50a => k_is); (case h50l => k_is); (case h50c => k_is); (case h50k => k_is))

