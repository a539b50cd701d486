import PyProof.Rows.All
import Wide.All
import OpenK.AllK
import Wide.FinOn
import Lean
import PyProof.EqAt
import PyProof.EqKinds
import PyProof.TupleCall
import PyProof.NeKinds
import KE.KTryOn
import KE.KTryMore
import OpenK.KOwn
import PyProof.NsDelKeeps
import OpenK.KMake
import PyProof.CompFree
import PyProof.CompMap
import PyProof.CompUse
import PyProof.WalkInts
import PyProof.Rows.SumAny
import PyProof.Rows.DictTally
import PyProof.IsRules
import KE.KRevIter
import PyProof.ListStr
import KE.KListMore
import PyProof.ZipIter
import PyProof.Rows.ZipGen
import PyProof.StrCalls5
import PyProof.Rows.StrNews2
import PyProof.StrOps2
import PyProof.CallStr
import KE.KIntText
import PyProof.EnumMake
import PyProof.StrWalks
import PyProof.Rows.Digits
import PyProof.StrCalls2
import PyProof.Rows.StrOr
import PyProof.JoinWalk
import PyProof.StrReplace2
import KE.KSortTup
import KE.KLam
import PySem.Challenge.RW_floatforge_k25_whole_in_order
set_option Elab.async false
set_option linter.all false
set_option maxRecDepth 100000
namespace L2
open PySem PySem.Spec PyProof.Rows
/-- a key: an int or a str -/
abbrev Key := Sum Int Str
def keyIs : Key → Value → Bool
  | .inl k, v => Value.isInt k v
  | .inr x, v => Value.isStrOf x v
def keyH (w : World) : Key → Int
  | .inl k => hashInt k
  | .inr x => hashStr w x
theorem keyIs_shape : ∀ {k : Key} {v : Value}, keyIs k v = true → (∃ i t, k = Sum.inl i ∧ v = Value.int i t) ∨ (∃ x t, k = Sum.inr x ∧ v = Value.str x t)
  | .inl i, v, h => by
    obtain ⟨t, e⟩ := Value.isInt_shape (k := i) (v := v) h
    exact .inl ⟨i, t, rfl, e⟩
  | .inr x, v, h => by
    obtain ⟨t, e⟩ := Value.isStrOf_shape (x := x) (v := v) h
    exact .inr ⟨x, t, rfl, e⟩
theorem key_ll (a b : Int) : decide ((Sum.inl a : Key) = Sum.inl b) = (a == b) := by
  by_cases e : a = b
  · subst e; simp
  · have h : ¬ (Sum.inl a : Key) = Sum.inl b := fun q => e (Sum.inl.inj q)
    rw [decide_eq_false h]
    exact (beq_eq_false_iff_ne.mpr e).symm
theorem key_rr (a b : Str) : decide ((Sum.inr a : Key) = Sum.inr b) = decide (a = b) := by
  by_cases e : a = b
  · subst e; simp
  · have h : ¬ (Sum.inr a : Key) = Sum.inr b := fun q => e (Sum.inr.inj q)
    rw [decide_eq_false h, decide_eq_false e]
theorem key_lr (a : Int) (b : Str) : decide ((Sum.inl a : Key) = Sum.inr b) = false := decide_eq_false (fun q => nomatch q)
theorem key_rl (a : Str) (b : Int) : decide ((Sum.inr a : Key) = Sum.inl b) = false := decide_eq_false (fun q => nomatch q)

def mixKind (prog : Program) (w : World) : PySem.KeyKind prog w Key where
  is := keyIs
  hash := keyH w
  inj := fun v a b ha hb => by
    rcases keyIs_shape ha with ⟨i, t, rfl, rfl⟩ | ⟨x, t, rfl, rfl⟩
    · rcases keyIs_shape hb with ⟨j, u, rfl, e⟩ | ⟨y, u, rfl, e⟩
      · injection e with e1 _; rw [e1]
      · exact nomatch e
    · rcases keyIs_shape hb with ⟨j, u, rfl, e⟩ | ⟨y, u, rfl, e⟩
      · exact nomatch e
      · injection e with e1 _; rw [e1]
  byValue := fun k v h => by
    rcases keyIs_shape h with ⟨i, t, rfl, rfl⟩ | ⟨x, t, rfl, rfl⟩ <;> rfl
  pyHash := fun hv h => by
    rcases keyIs_shape hv with ⟨i, t, rfl, rfl⟩ | ⟨x, t, rfl, rfl⟩
    · exact wpAny_pyHash_int h
    · exact wpAny_pyHash_str h
  eqBool := fun hu hv h => by
    rcases keyIs_shape hu with ⟨i, t, rfl, rfl⟩ | ⟨x, t, rfl, rfl⟩
    · rcases keyIs_shape hv with ⟨j, u, rfl, rfl⟩ | ⟨y, u, rfl, rfl⟩
      · rw [key_ll] at h; exact wpAny_eqBool_int h
      · rw [key_lr] at h; exact SeqAt.EqAt.int_str i t y u _ _ _ _ h
    · rcases keyIs_shape hv with ⟨j, u, rfl, rfl⟩ | ⟨y, u, rfl, rfl⟩
      · rw [key_rl] at h; exact SeqAt.EqAt.str_int x t j u _ _ _ _ h
      · rw [key_rr] at h; exact wpAny_eqBool_str h
  «strs» := fun k x t v h => by
    rcases keyIs_shape h with ⟨i, u, rfl, e⟩ | ⟨y, u, rfl, e⟩
    · exact nomatch e
    · injection e with e1 _
      subst e1
      cases v <;> rfl

/-- a value, without the heap -/
inductive V where
  | non | bl (b : Bool) | int (i : Int) | str (x : Str) | byt (b : Array UInt8) | flt (b : UInt64) | ref (a : Addr) | ty (n : String)
  deriving DecidableEq

def RelV : V → Value → Prop
  | .non, u => u = Value.none
  | .bl b, u => u = Value.bool b
  | .int i, u => ∃ t, u = Value.int i t
  | .str x, u => ∃ t, u = Value.str x t
  | .byt b, u => ∃ t, u = Value.bytes b t
  | .flt b, u => ∃ t, u = Value.float b t
  | .ref a, u => u = Value.ref a
  | .ty n, u => u = Value.type n

abbrev Vals : List V → List Value → Prop := Paired RelV
theorem Vals.length {xs : List V} {us : List Value} (r : Vals xs us) : xs.length = us.length := Paired.length r
theorem Vals.get : ∀ {xs : List V} {us : List Value} {i : Nat} {x : V}, Vals xs us → xs[i]? = some x → ∃ u, us[i]? = some u ∧ RelV x u
  | _, _, _, _, .nil, e => by simp at e
  | _, _, 0, _, .cons r _, e => by simp at e; subst e; exact ⟨_, rfl, r⟩
  | _, _, i + 1, x, .cons _ t, e => by
    obtain ⟨u, h1, h2⟩ := Vals.get (i := i) (x := x) t (by simpa using e)
    exact ⟨u, by simpa using h1, h2⟩
theorem Vals.set {x : V} {u : Value} (r : RelV x u) : ∀ {xs : List V} {us : List Value} (i : Nat), Vals xs us → Vals (xs.set i x) (us.set i u)
  | _, _, _, .nil => .nil
  | _, _, 0, .cons _ t => .cons r t
  | _, _, i + 1, .cons q t => .cons q (Vals.set r i t)
theorem Vals.append : ∀ {xs ys : List V} {us ws : List Value}, Vals xs us → Vals ys ws → Vals (xs ++ ys) (us ++ ws)
  | _, _, _, _, .nil, s => s
  | _, _, _, _, .cons r t, s => .cons r (Vals.append t s)
theorem Vals.take : ∀ {xs : List V} {us : List Value} (n : Nat), Vals xs us → Vals (xs.take n) (us.take n)
  | _, _, 0, _ => .nil
  | _, _, _ + 1, .nil => .nil
  | _, _, n + 1, .cons r t => .cons r (Vals.take n t)
theorem Vals.drop : ∀ {xs : List V} {us : List Value} (n : Nat), Vals xs us → Vals (xs.drop n) (us.drop n)
  | _, _, 0, r => r
  | _, _, _ + 1, .nil => .nil
  | _, _, n + 1, .cons _ t => Vals.drop n t
def RelO : Option V → Option Value → Prop
  | some v, some u => RelV v u
  | none, none => True
  | _, _ => False
def KV {κ : Type} : List (κ × V) → List (κ × Value) → Prop := Paired fun (p : κ × V) (q : κ × Value) => p.1 = q.1 ∧ RelV p.2 q.2

/-- a key of a dict (00_mix): an int or a text -/
def kV : Key → V
  | .inl i => .int i
  | .inr x => .str x

/-- what stands at a tracked address -/
inductive HO where
  /-- a list -/
  | lst (xs : List V)
  /-- a tuple (never changes) -/
  | tup (xs : List V)
  /-- a dict whose keys are ints and texts; one whose keys are tuples of ints and texts (the empty one is both) -/
  | dK (kvs : List (Key × V)) | dT (kvs : List (List Key × V))
  /-- a set of ints: its members, its size -/
  | set (S : Int → Bool) (n : Nat)
  /-- an instance of the class at C, its dict at dx, its attributes -/
  | ins (C dx : Addr) (fs : List (Str × V))
  /-- the dict of the instance at x -/
  | own (x : Addr)
  /-- the dict of an exception -/
  | xd (fs : List (Str × V))
  /-- a bound method, f of x -/
  | met (f x : Addr)
  /-- a range object lo, lo + 1, .. below hi -/
  | rng (lo hi : Int)
  /-- a thing that is known to the object (the script; a dict while a loop walks it): read, never written while it is so -/
  | frz (o : Obj) (u : HO)
  /-- a code object's table -/
  | tbl (ps : Array Value)
  /-- any other thing, by what is true of its one object (a def of one's own: SetO a S n := HO.ext fun h => ..) -/
  | ext (φ : Heap → Prop)

abbrev Hp := Addr → Option HO
def upd (H : Hp) (a : Addr) (o : HO) : Hp := fun b => if b = a then some o else H b
theorem upd_same {H : Hp} {a : Addr} {o : HO} : upd H a o a = some o := by unfold upd; rw [if_pos rfl]
theorem upd_ne {H : Hp} {a b : Addr} {o : HO} (h : b ≠ a) : upd H a o b = H b := by unfold upd; rw [if_neg h]
theorem ne_of_none {H : Hp} {a b : Addr} {o : HO} (h : H a = some o) (h' : H b = none) : a ≠ b := by
  intro e; subst e; rw [h] at h'; cases h'

section
variable (P : Program) (w : World)
def ObjOk (H : Hp) (h : Heap) (a : Addr) : HO → Prop
  | .lst xs => xs.length ≤ sizeLine ∧ ∃ (its : List Value) (n : Nat), Vals xs its ∧ h.get? a = some { cls := .type "list", data := .seq its.toArray n }
  | .tup xs => xs.length ≤ sizeLine ∧ ∃ its : List Value, Vals xs its ∧ IsTup h a its.toArray
  | .dK kvs => kvs.length ≤ sizeLine ∧ (a == sysModules) = false ∧ ∃ vs, KV kvs vs ∧ h.DictOf (mixKind P w) a vs
  | .dT kvs => kvs.length ≤ sizeLine ∧ (a == sysModules) = false ∧ ∃ xs : List (List Key × Addr × Value),
      Paired (fun (p : List Key × V) (q : List Key × Addr × Value) => p.1 = q.1 ∧ H q.2.1 = some (.tup (p.1.map kV)) ∧ RelV p.2 q.2.2) kvs xs ∧
      ∃ o es ep, h.get? a = some o ∧ o.ExactDict ∧ o.data = .dict es ep ∧ es.toList = xs.map (entryOfKey (tupleKind (mixKind P w))) ∧ (xs.map (·.1)).Nodup
  | .set S n => h.SetOf (intKind P w) a S n
  | .ins C dx fs => H dx = some (.own a) ∧ fs.length ≤ 1000 ∧ dx ≠ a ∧ h.get? a = some (PySem.W.instObj C dx) ∧
      ∃ mA, h.Ns1 dx mA ∧ (∀ f, RelO (fs.lookup f) (mA f)) ∧ PySem.Within mA (fs.map (·.1))
  | .own _ => ∃ o, h.get? a = some o
  | .xd fs => ∃ mA, h.Ns1 a mA ∧ ∀ f, RelO (fs.lookup f) (mA f)
  | .rng lo hi => ∃ t u v, h.get? a = some { cls := .type "range", data := .fields #[.int lo t, .int hi u, .int 1 v] }
  | .frz o u => h.get? a = some o ∧ ObjOk H h a u
  | .tbl ps => h.get? a = some { cls := .none, data := .fields ps }
  | .met f x => h.get? a = some (PySem.W.methodObj (.ref f) (.ref x))
  | .ext φ => φ h ∧ (∃ o, h.get? a = some o) ∧ ∀ h1 h2 : Heap, φ h1 → (∀ o, h1.get? a = some o → h2.get? a = some o) → φ h2
/-- the abstract heap is held -/
def HOk (H : Hp) (h : Heap) : Prop := ∀ a o, H a = some o → ObjOk P w H h a o
end
section
variable {P : Program} {w : World} {H H' : Hp} {h h' : Heap} {a : Addr} {o : HO}
theorem ObjOk.lt (x : ObjOk P w H h a o) : a < h.objs.size := by
  cases o with
  | lst xs => obtain ⟨_, _, _, _, e⟩ := x; exact Heap.lt_size e
  | tup xs => obtain ⟨_, _, _, p⟩ := x; exact p.lt
  | dK kvs => obtain ⟨_, _, _, _, o, _, _, e, _⟩ := x; exact Heap.lt_size e
  | dT kvs => obtain ⟨_, _, _, _, o, _, _, e, _⟩ := x; exact Heap.lt_size e
  | set S n => obtain ⟨o, _, _, _, e, _⟩ := x; exact Heap.lt_size e
  | ins C dx fs => obtain ⟨_, _, _, e, _⟩ := x; exact Heap.lt_size e
  | own y => obtain ⟨_, e⟩ := x; exact Heap.lt_size e
  | xd fs => obtain ⟨_, ⟨_, _, _, e, _⟩, _⟩ := x; exact Heap.lt_size e
  | rng lo hi => obtain ⟨_, _, _, e⟩ := x; exact Heap.lt_size e
  | frz ob u => obtain ⟨e, _⟩ := x; exact Heap.lt_size e
  | tbl ps => exact Heap.lt_size (show h.get? a = some _ from x)
  | met f y => exact Heap.lt_size (show h.get? a = some _ from x)
  | ext φ => obtain ⟨_, ⟨_, e⟩, _⟩ := x; exact Heap.lt_size e
theorem Paired.mapP {α β : Type} {F G : α → β → Prop} : ∀ {l₁ : List α} {l₂ : List β}, Paired F l₁ l₂ → (∀ a b, F a b → G a b) → Paired G l₁ l₂
  | _, _, .nil, _ => .nil
  | _, _, .cons r t, f => .cons (f _ _ r) (Paired.mapP t f)
/-- what an object's description leans on: its own object, its own dict, the tuples -/
theorem ObjOk.stay (x : ObjOk P w H h a o) (k : ∀ b u, (b = a ∨ H b = some (.own a)) → h.get? b = some u → h'.get? b = some u)
    (ho : ∀ b, H b = some (.own a) → H' b = some (.own a)) (ht : ∀ b xs, H b = some (.tup xs) → H' b = some (.tup xs)) : ObjOk P w H' h' a o := by
  induction o with
  | lst xs => obtain ⟨z, its, n, r, e⟩ := x; exact ⟨z, its, n, r, k _ _ (.inl rfl) e⟩
  | tup xs => obtain ⟨z, its, r, ob, e, c⟩ := x; exact ⟨z, its, r, ob, k _ _ (.inl rfl) e, c⟩
  | dK kvs => obtain ⟨z, y, vs, r, ob, es, ep, e, c⟩ := x; exact ⟨z, y, vs, r, ob, es, ep, k _ _ (.inl rfl) e, c⟩
  | dT kvs =>
    obtain ⟨z, y, xs, r, ob, es, ep, e, c⟩ := x
    exact ⟨z, y, xs, Paired.mapP r fun p q z => ⟨z.1, ht _ _ z.2.1, z.2.2⟩, ob, es, ep, k _ _ (.inl rfl) e, c⟩
  | set S n => obtain ⟨ob, es, ep, t, e, c⟩ := x; exact ⟨ob, es, ep, t, k _ _ (.inl rfl) e, c⟩
  | ins C dx fs =>
    obtain ⟨d, z, ne, e, mA, ⟨od, es, ep, e2, c⟩, r⟩ := x
    exact ⟨ho _ d, z, ne, k _ _ (.inl rfl) e, mA, ⟨od, es, ep, k _ _ (.inr d) e2, c⟩, r⟩
  | own y => obtain ⟨ob, e⟩ := x; exact ⟨ob, k _ _ (.inl rfl) e⟩
  | xd fs => obtain ⟨mA, ⟨od, es, ep, e, c⟩, r⟩ := x; exact ⟨mA, ⟨od, es, ep, k _ _ (.inl rfl) e, c⟩, r⟩
  | rng lo hi => obtain ⟨t, u, v, e⟩ := x; exact ⟨t, u, v, k _ _ (.inl rfl) e⟩
  | frz ob u ih => obtain ⟨e, q⟩ := x; exact ⟨k _ _ (.inl rfl) e, ih q⟩
  | tbl ps =>
    have e : h.get? a = some { cls := .none, data := .fields ps } := x
    show h'.get? a = some { cls := .none, data := .fields ps }
    exact k a _ (.inl rfl) e
  | met f y =>
    have e : h.get? a = some (PySem.W.methodObj (.ref f) (.ref y)) := x
    show h'.get? a = some (PySem.W.methodObj (.ref f) (.ref y))
    exact k a _ (.inl rfl) e
  | ext φ => obtain ⟨p, ⟨o, e⟩, st⟩ := x; exact ⟨st _ _ p fun o q => k _ _ (.inl rfl) q, ⟨o, k _ _ (.inl rfl) e⟩, st⟩
theorem HOk.lt (x : HOk P w H h) (e : H a = some o) : a < h.objs.size := (x a o e).lt
theorem HOk.fresh (x : HOk P w H h) (e : h.objs.size ≤ a) : H a = none := by
  cases q : H a with
  | none => rfl
  | some u => exact absurd (Nat.lt_of_lt_of_le (x.lt q) e) (Nat.lt_irrefl _)
/-- every object of the heap is kept -/
theorem HOk.kept (x : HOk P w H h) (k : ∀ b u, h.get? b = some u → h'.get? b = some u) : HOk P w H h' := fun a o e =>
  (x a o e).stay (fun b u _ q => k b u q) (fun _ q => q) fun _ _ q => q
/-- a new object is laid and tracked -/
theorem HOk.laid (x : HOk P w H h) (k : ∀ b u, h.get? b = some u → h'.get? b = some u) (hp : h.objs.size ≤ a) (new : ObjOk P w (upd H a o) h' a o) : HOk P w (upd H a o) h' := fun b u e => by
  have hn := x.fresh hp
  by_cases hb : b = a
  · subst hb; rw [upd_same] at e; cases e; exact new
  · rw [upd_ne hb] at e
    exact (x b u e).stay (fun c v _ q => k c v q) (fun c q => by rw [upd_ne (ne_of_none q hn)]; exact q) fun c xs q => by rw [upd_ne (ne_of_none q hn)]; exact q
end
/-- what may be read as u: it is u, or a known u -/
def Rd (H : Hp) (a : Addr) (u : HO) : Prop := H a = some u ∨ ∃ o, H a = some (.frz o u)
theorem Rd.of {H : Hp} {a : Addr} {u : HO} (h : H a = some u) : Rd H a u := .inl h
theorem Rd.ok {P : Program} {w : World} {H : Hp} {h : Heap} {a : Addr} {u : HO} (r : Rd H a u) (x : HOk P w H h) : ObjOk P w H h a u := by
  rcases r with r | ⟨o, r⟩
  · exact x a u r
  · obtain ⟨_, q⟩ := x a _ r
    exact q
/-- what may be written -/
def Mut : Option HO → Prop
  | some (.lst _) => True
  | some (.dK _) => True
  | some (.dT _) => True
  | some (.set _ _) => True
  | some (.ins _ _ _) => True
  | some (.ext _) => True
  | _ => False
section
variable {P : Program} {w : World} {H : Hp} {h h' : Heap} {x e : Addr} {o' : HO}
/-- the object at e is changed: x itself, or the dict of the instance x -/
theorem HOk.write (ok : HOk P w H h) (mu : Mut (H x)) (he : e = x ∨ H e = some (.own x)) (k : ∀ b u, b ≠ e → h.get? b = some u → h'.get? b = some u) (heo : ∃ u, h'.get? e = some u)
    (new : ObjOk P w (upd H x o') h' x o') : HOk P w (upd H x o') h' := fun b u q => by
  have nown : ∀ c y, H c = some (.own y) → c ≠ x := fun c y r z => by subst z; rw [r] at mu; exact mu
  have ntup : ∀ c xs, H c = some (.tup xs) → c ≠ x := fun c xs r z => by subst z; rw [r] at mu; exact mu
  by_cases hb : b = x
  · subst hb; rw [upd_same] at q; cases q; exact new
  · rw [upd_ne hb] at q
    by_cases hbe : b = e
    · have q' : H b = some (.own x) := by
        rcases he with z | z
        · exact absurd (hbe.trans z) hb
        · rw [hbe]; exact z
      rw [q] at q'; cases q'
      obtain ⟨v, hv⟩ := heo
      exact ⟨v, by rw [hbe]; exact hv⟩
    · refine (ok b u q).stay (fun c v hc r => k c v ?_ r) (fun c r => by rw [upd_ne (nown c b r)]; exact r) fun c xs r => by rw [upd_ne (ntup c xs r)]; exact r
      rcases hc with rfl | hc
      · exact hbe
      · rintro rfl
        rcases he with z | z
        · exact nown c b hc z
        · rw [hc] at z; cases z; exact hb rfl
end
structure Un (fs ex : List Addr) (H H' : Hp) (h h' : Heap) : Prop where
  keep : ∀ b o, h.get? b = some o → H b = none → b ∉ fs → b ∉ ex → h'.get? b = some o
  slot : ∀ b o, h.get? b = some o → H b = none → b ∈ fs → b ∉ ex → ∃ sl, h'.get? b = some { o with slots := sl }
  free : ∀ b o, h.get? b = some o → H b = none → b ∉ ex → H' b = none
  there : ∀ b o, h.get? b = some o → b ∉ ex → ∃ o', h'.get? b = some o'
  tups : ∀ b xs, H b = some (.tup xs) → H' b = some (.tup xs)
  frzs : ∀ b o u, H b = some (.frz o u) → H' b = some (.frz o u)
  tbls : ∀ b ps, H b = some (.tbl ps) → ∃ more, H' b = some (.tbl (ps ++ more))
section
variable {fs fs' ex ex' : List Addr} {H H1 H2 : Hp} {h h1 h2 h' : Heap} {a x e : Addr} {o : HO}
theorem Un.any (u : Un fs ex H H1 h h1) {b : Addr} {ob : Obj} (q : h.get? b = some ob) (n : H b = none) (hx : b ∉ ex) : ∃ sl, h1.get? b = some { ob with slots := sl } := by
  by_cases hb : b ∈ fs
  · exact u.slot b ob q n hb hx
  · exact ⟨ob.slots, u.keep b ob q n hb hx⟩
theorem Un.trans (a : Un fs ex H H1 h h1) (b : Un fs ex H1 H2 h1 h2) : Un fs ex H H2 h h2 where
  keep := fun c ob q n hc hx => b.keep c ob (a.keep c ob q n hc hx) (a.free c ob q n hx) hc hx
  slot := fun c ob q n hc hx => by
    obtain ⟨sl, e1⟩ := a.slot c ob q n hc hx
    obtain ⟨sl', e2⟩ := b.slot c _ e1 (a.free c ob q n hx) hc hx
    exact ⟨sl', e2⟩
  free := fun c ob q n hx => by
    obtain ⟨o', e1⟩ := a.there c ob q hx
    exact b.free c o' e1 (a.free c ob q n hx) hx
  there := fun c ob q hx => by
    obtain ⟨o', e1⟩ := a.there c ob q hx
    exact b.there c o' e1 hx
  tups := fun c xs q => b.tups c xs (a.tups c xs q)
  frzs := fun c ob xs q => b.frzs c ob xs (a.frzs c ob xs q)
  tbls := fun c ps q => by
    obtain ⟨m1, e1⟩ := a.tbls c ps q
    obtain ⟨m2, e2⟩ := b.tbls c _ e1
    exact ⟨m1 ++ m2, by rw [e2, Array.append_assoc]⟩
theorem Un.kept (k : ∀ b u, h.get? b = some u → h'.get? b = some u) : Un fs ex H H h h' :=
  ⟨fun b ob q _ _ _ => k b ob q, fun b ob q _ _ _ => ⟨ob.slots, k b ob q⟩, fun _ _ _ n _ => n, fun b ob q _ => ⟨ob, k b ob q⟩, fun _ _ q => q, fun _ _ _ q => q, fun _ ps q => ⟨#[], by rw [q]; simp⟩⟩
theorem Un.refl : Un fs ex H H h h := Un.kept fun _ _ q => q
theorem Un.laid (k : ∀ b u, h.get? b = some u → h'.get? b = some u) (hp : h.objs.size ≤ a) (hn : H a = none) : Un fs ex H (upd H a o) h h' where
  keep := fun b u q _ _ _ => k b u q
  slot := fun b u q _ _ _ => ⟨u.slots, k b u q⟩
  free := fun b u q n _ => by rw [upd_ne (Nat.ne_of_lt (Nat.lt_of_lt_of_le (Heap.lt_size q) hp))]; exact n
  there := fun b u q _ => ⟨u, k b u q⟩
  tups := fun b xs q => by rw [upd_ne (ne_of_none q hn)]; exact q
  frzs := fun b u xs q => by rw [upd_ne (ne_of_none q hn)]; exact q
  tbls := fun b ps q => ⟨#[], by rw [upd_ne (ne_of_none q hn), q]; simp⟩
theorem Un.write (mu : Mut (H x)) (he : e = x ∨ H e = some (.own x)) (k : ∀ b u, b ≠ e → h.get? b = some u → h'.get? b = some u) (heo : ∃ u, h'.get? e = some u) : Un fs ex H (upd H x o) h h' := by
  have hx : ∀ b, H b = none → b ≠ x := fun b n z => by subst z; rw [n] at mu; exact mu
  have hb : ∀ b, H b = none → b ≠ e := fun b n z => by
    subst z
    rcases he with r | r
    · exact hx b n r
    · rw [n] at r; cases r
  have hm : ∀ b u, H b = some u → ¬ Mut (some u) → b ≠ x := fun b u q nm z => by subst z; rw [q] at mu; exact nm mu
  refine ⟨fun b u q n _ _ => k b u (hb b n) q, fun b u q n _ _ => ⟨u.slots, k b u (hb b n) q⟩, fun b u q n _ => by rw [upd_ne (hx b n)]; exact n, fun b u q _ => ?_,
    fun b xs q => by rw [upd_ne (hm b _ q fun z => z)]; exact q, fun b u xs q => by rw [upd_ne (hm b _ q fun z => z)]; exact q, fun b ps q => ⟨#[], by rw [upd_ne (hm b _ q fun z => z), q]; simp⟩⟩
  by_cases hbe : b = e
  · subst hbe; exact heo
  · exact ⟨u, k b u hbe q⟩
theorem Un.mono (u : Un fs ex H H1 h h1) (hs : ∀ b ∈ fs, b ∈ fs') (hx : ∀ b ∈ ex, b ∈ ex') : Un fs' ex' H H1 h h1 :=
  ⟨fun b ob q n hb he => u.keep b ob q n (fun z => hb (hs b z)) fun z => he (hx b z), fun _ _ q n _ he => u.any q n fun z => he (hx _ z), fun b ob q n he => u.free b ob q n fun z => he (hx b z), fun b ob q he => u.there b ob q fun z => he (hx b z), u.tups, u.frzs, u.tbls⟩
end
def trk (h : Heap) (H : Hp) : List Addr := (List.range h.objs.size).filter fun a => (H a).isSome
def hidT (h : Heap) (H : Hp) : Heap := PySem.W.hideAll h (trk h H)
theorem hidT_size (h : Heap) (H : Hp) : (hidT h H).objs.size = h.objs.size := PySem.W.hideAll_size _ _
theorem hidT_get {h : Heap} {H : Hp} {b : Addr} {o : Obj} (e : h.get? b = some o) (n : H b = none) : (hidT h H).get? b = some o :=
  PySem.W.hideAll_get _ e fun hm => by
    have q : (H b).isSome = true := (List.mem_filter.mp hm).2
    rw [n] at q; simp at q
theorem of_hidT {h : Heap} {H : Hp} {b : Addr} {o : Obj} (e : (hidT h H).get? b = some o) : h.get? b = some o ∧ H b = none := by
  have e' : h.get? b = some o := PySem.W.of_hideAll (trk h H) e
  refine ⟨e', ?_⟩
  cases q : H b with
  | none => rfl
  | some x =>
    have hm : b ∈ trk h H := List.mem_filter.mpr ⟨List.mem_range.mpr (Heap.lt_size e'), by simp [q]⟩
    have z : (hidT h H).get? b = none := PySem.W.hideAll_none (trk h H) hm
    rw [z] at e; cases e

def allNews (g h : Heap) (L : Addr) : List (Addr × Obj) := (List.range h.objs.size).filterMap fun a => if a = L ∨ (g.get? a).isSome = true then none else (h.get? a).map fun o => (a, o)
def rest (g h : Heap) (L d : Addr) : List (Addr × Obj) := (allNews g h L).filter fun p => decide (p.1 ≠ d)
/-- the module's facts, over the base: the heap at the law's entry without what is tracked there -/
structure Mod (K : PySem.W.Frag) (mg : Str → Option Value) (base : Heap) : Prop where
  kin : K.In base
  glob : base.Ns mainGlobals mg
  blt : ∃ mb, base.Ns builtinsNs mb ∧ ∀ x : Str, x ≠ "__name__" → mb x = bootBuiltins x
  nolimit : base.NoLimit

/-- the context: a def's body (or a comprehension's block) running. base: fixed through the whole law; s₀, H₀: the entry; outer: the frames whose slots others may change (a def's callers); stack: all frames that run;
   ex: iterators that were made ahead of the entry and are walked here (a comprehension's); fn: the names whose cells were made at the entry (a def: all; a comprehension's block: its own); calm: not within an except suite; pn: pins that every state bears; xe: what is wanted of an exception that leaves the code -/
structure Cx where
  prog : Program
  w : World
  K : PySem.W.Frag
  mg : Str → Option Value
  base : Heap
  A : Around
  N : List Str
  s₀ : Shared
  H₀ : Hp
  env : Env
  outer : List Env
  stack : List Env
  ex : List Addr
  fn : Str → Bool
  calm : Bool
  pn : List (Addr × Obj)
  xe : Value → Shared → Prop
/-- the callers' frames -/
def frs (l : List Env) : List Addr := l.filterMap (·.frame)
abbrev Cx.fs (X : Cx) : List Addr := frs X.outer

def Vis (sc : Scope) (x : Str) : Prop := sc.names.lookup x = some .local ∨ sc.names.lookup x = some .cell ∨ sc.names.lookup x = some .free
def Loc (sc : Scope) (x : Str) : Prop := sc.names.lookup x = some .local ∨ sc.names.lookup x = some .cell
def Look (env : Env) (h : Heap) (m : Str → Option Value) (x : Str) (u : Value) : Prop :=
  (env.kindOf x = some .local ∧ m x = some u) ∨ ((env.kindOf x = some .cell ∨ env.kindOf x = some .free) ∧ ∃ c, env.cells.lookup x = some c ∧ h.IsCell c (some u))

structure Cx.Ok (X : Cx) : Prop where
  mod : Mod X.K X.mg X.base
  kind : X.env.scope.kind = .function
  glob : X.env.globals = mainGlobals
  blt : X.env.builtins = builtinsNs
  above : X.s₀.heap.objs.size ≤ X.env.locals
  inj : ∀ x y c, X.env.cells.lookup x = some c → X.env.cells.lookup y = some c → x = y
  has : ∀ x, (X.env.kindOf x = some .cell ∨ X.env.kindOf x = some .free) → ∃ c, X.env.cells.lookup x = some c
  cab : ∀ x c, X.fn x = true → X.env.cells.lookup x = some c → X.s₀.heap.objs.size ≤ c
  hd : X.calm = true → X.A.handled = none
  frames : X.A.frames = some X.stack
  stk : X.stack = X.outer ∨ (X.stack = X.env :: X.outer ∧ X.env.frame = some X.env.locals)
  exf : ∀ b ∈ X.ex, b ≠ X.env.locals ∧ ∀ x c, X.env.cells.lookup x = some c → c ≠ b
  bs : ∀ b o, X.base.get? b = some o → X.s₀.heap.get? b = some o ∧ X.H₀ b = none
  bsz : X.base.objs.size ≤ X.s₀.heap.objs.size
  noex : ∀ b o, X.base.get? b = some o → b ∉ X.ex
  exfs : ∀ b ∈ X.ex, b ∉ X.fs
  funs : X.s₀.heap.FunFrames X.base X.outer
  frf : ∀ b ∈ X.fs, X.H₀ b = none

structure Inv (X : Cx) (pins : List (Addr × Obj)) (σ : List (Option V)) (H : Hp) (s : Shared) : Prop where
  ok : X.Ok
  os : s.os = X.s₀.os
  bare : AllBare s.gens
  base : Un X.fs X.ex X.H₀ H X.s₀.heap s.heap
  loc : ∃ m, s.heap.Ns X.env.locals m ∧ ∀ (i : Nat) (x : Str) (v : V), X.N[i]? = some x → σ[i]? = some (some v) → Vis X.env.scope x → ∃ u, RelV v u ∧ Look X.env s.heap m x u
  cell : ∀ x c, X.env.cells.lookup x = some c → ∃ v, s.heap.IsCell c v
  free : H X.env.locals = none
  freeC : ∀ x c, X.env.cells.lookup x = some c → H c = none
  pin : ∀ p ∈ X.pn ++ pins, s.heap.get? p.1 = some p.2 ∧ H p.1 = none ∧ p.1 ≠ X.env.locals ∧ p.1 ∉ X.fs ∧ ∀ v, p.2.data ≠ .cell v
  hok : HOk X.prog X.w H s.heap
  len : σ.length = X.N.length

section
variable {X : Cx} {pins : List (Addr × Obj)} {σ : List (Option V)} {H H' : Hp} {s : Shared} {h' : Heap}
theorem Cx.Ok.nofr (ok : X.Ok) {b : Addr} {o : Obj} (e : X.base.get? b = some o) : b ∉ X.fs := fun hb => by
  have := (ok.funs.mem hb).1
  rw [e] at this; cases this
theorem Inv.bs (I : Inv X pins σ H s) : ∀ b o, X.base.get? b = some o → s.heap.get? b = some o ∧ H b = none := fun b o e =>
  ⟨I.base.keep b o (I.ok.bs b o e).1 (I.ok.bs b o e).2 (I.ok.nofr e) (I.ok.noex b o e), I.base.free b o (I.ok.bs b o e).1 (I.ok.bs b o e).2 (I.ok.noex b o e)⟩
theorem Inv.bk (I : Inv X pins σ H s) : ∀ b o, X.base.get? b = some o → s.heap.get? b = some o := fun b o e => (I.bs b o e).1
theorem Inv.mod (I : Inv X pins σ H s) : Mod X.K X.mg X.base := I.ok.mod
theorem Inv.kIn (I : Inv X pins σ H s) : X.K.In s.heap := I.ok.mod.kin.keeps I.bk
theorem Inv.nolimit (I : Inv X pins σ H s) : s.heap.NoLimit := I.ok.mod.nolimit.keeps I.bk
/-- the frame over the base: for OpenK's rules (K.In X.base is I.mod.kin) -/
theorem Inv.fr (I : Inv X pins σ H s) : ∃ m, Fr X.base X.env.locals s.heap m :=
  let ⟨m, hn, _⟩ := I.loc
  ⟨m, hn, I.bk, Nat.le_trans I.ok.bsz I.ok.above⟩
theorem Inv.lt (I : Inv X pins σ H s) : X.env.locals < s.heap.objs.size := let ⟨_, hn, _⟩ := I.loc; hn.lt
theorem Inv.sz (I : Inv X pins σ H s) : X.s₀.heap.objs.size ≤ s.heap.objs.size := Nat.le_trans I.ok.above (Nat.le_of_lt I.lt)
theorem Inv.nofs (I : Inv X pins σ H s) {a : Addr} (h : s.heap.objs.size ≤ a) : a ∉ X.fs := fun hb => by
  obtain ⟨_, o, ho, _⟩ := I.ok.funs.mem hb
  exact absurd (Nat.lt_of_lt_of_le (Heap.lt_size ho) (Nat.le_trans I.sz h)) (Nat.lt_irrefl _)
theorem Inv.cne (I : Inv X pins σ H s) : ∀ x c, X.env.cells.lookup x = some c → c ≠ X.env.locals := fun x c e z => by
  obtain ⟨v, o, ho, hd⟩ := I.cell x c e
  obtain ⟨m, ⟨o', es, ep, ho', hd', _⟩, _⟩ := I.loc
  rw [z, ho'] at ho; cases ho; rw [hd'] at hd; cases hd
theorem Inv.funs (I : Inv X pins σ H s) : s.heap.FunFrames X.base X.outer := by
  have all : ∀ (l : List Env), (∀ b ∈ frs l, b ∈ X.fs) → X.s₀.heap.FunFrames X.base l → s.heap.FunFrames X.base l := by
    intro l
    induction l with
    | nil => intro _ _; trivial
    | cons env r ih =>
      intro hs hl
      obtain ⟨hk, ⟨L, o, hf, hn, ho, hd⟩, hr⟩ := hl
      have hL : L ∈ X.fs := hs L (by unfold frs; rw [List.filterMap_cons, hf]; exact List.mem_cons_self)
      obtain ⟨sl, e⟩ := I.base.slot L o ho (I.ok.frf L hL) hL fun z => I.ok.exfs L z hL
      exact ⟨hk, ⟨L, _, hf, hn, e, hd⟩, ih (fun b hb => hs b (by unfold frs; rw [List.filterMap_cons, hf]; exact List.mem_cons_of_mem _ hb)) hr⟩
  exact all X.outer (fun _ hb => hb) I.ok.funs

/-- the frames that run, for a call -/
theorem Inv.stack (I : Inv X pins σ H s) : s.heap.FunFrames X.base X.stack := by
  rcases I.ok.stk with e | ⟨e, hf⟩
  · rw [e]; exact I.funs
  · rw [e]
    obtain ⟨m, hn, _⟩ := I.loc
    refine .cons (by rw [I.ok.kind]; decide) hf hn ?_ I.funs
    exact Heap.get?_none_of_le (Nat.le_trans I.ok.bsz I.ok.above)
theorem Inv.stkSub (I : Inv X pins σ H s) : ∀ b ∈ frs X.stack, b ∈ X.env.locals :: X.fs := fun b hb => by
  rcases I.ok.stk with e | ⟨e, hf⟩
  · rw [e] at hb; exact List.mem_cons_of_mem _ hb
  · rw [e] at hb
    unfold frs at hb
    rw [List.filterMap_cons, hf] at hb
    exact hb
theorem Inv.stkFree (I : Inv X pins σ H s) : ∀ b ∈ frs X.stack, H b = none := fun b hb => by
  rcases List.mem_cons.mp (I.stkSub b hb) with e | hb
  · rw [e]; exact I.free
  · obtain ⟨_, o, ho, _⟩ := I.ok.funs.mem hb
    exact I.base.free b o ho (I.ok.frf b hb) fun z => I.ok.exfs b z hb

/-- THE STEP: the untracked objects but the frame and the records at ch are kept (the callers' frames up to slots), the frame's map is kept, the new abstract heap is held -/
theorem Inv.step {g' : Array GenState} {t' : Nat} {d' : Drawn} {ch : List Addr} (I : Inv X pins σ H s)
    (hch : ∀ b ∈ ch, (b ∈ X.ex ∨ X.s₀.heap.objs.size ≤ b) ∧ b ≠ X.env.locals ∧ (∀ x c, X.env.cells.lookup x = some c → c ≠ b) ∧ ∀ p ∈ X.pn ++ pins, p.1 ≠ b)
    (keep : ∀ b o, b ≠ X.env.locals → b ∉ X.fs → b ∉ ch → s.heap.get? b = some o → H b = none → h'.get? b = some o)
    (slot : ∀ b o, b ≠ X.env.locals → b ∈ X.fs → b ∉ ch → s.heap.get? b = some o → H b = none → ∃ sl, h'.get? b = some { o with slots := sl }) (free : ∀ b o, b ∉ ch → s.heap.get? b = some o → H b = none → H' b = none)
    (there : ∀ b o, b ∉ ch → s.heap.get? b = some o → ∃ o', h'.get? b = some o')
    (tups : ∀ b xs, H b = some (.tup xs) → H' b = some (.tup xs)) (frzs : ∀ b o u, H b = some (.frz o u) → H' b = some (.frz o u)) (tbls : ∀ b ps, H b = some (.tbl ps) → ∃ more, H' b = some (.tbl (ps ++ more)))
    (ns : ∀ m, s.heap.Ns X.env.locals m → h'.Ns X.env.locals m) (hok : HOk X.prog X.w H' h') (hg : AllBare g') :
    Inv X pins σ H' { s with heap := h', gens := g', drawn := d', toks := t' } := by
  have neL : ∀ b o, X.s₀.heap.get? b = some o → b ≠ X.env.locals := fun b o e => Nat.ne_of_lt (Nat.lt_of_lt_of_le (Heap.lt_size e) I.ok.above)
  have neC : ∀ b o, X.s₀.heap.get? b = some o → b ∉ X.ex → b ∉ ch := fun b o e hx hb => by
    rcases (hch b hb).1 with z | z
    · exact hx z
    · exact absurd (Nat.lt_of_lt_of_le (Heap.lt_size e) z) (Nat.lt_irrefl _)
  have cellK : ∀ x c, X.env.cells.lookup x = some c → ∀ v, s.heap.IsCell c v → h'.IsCell c v := fun x c e v ⟨o, ho, hd⟩ => by
    have nch : c ∉ ch := fun z => (hch c z).2.2.1 x c e rfl
    by_cases hc : c ∈ X.fs
    · obtain ⟨sl, q⟩ := slot c o (I.cne x c e) hc nch ho (I.freeC x c e)
      exact ⟨_, q, hd⟩
    · exact ⟨o, keep c o (I.cne x c e) hc nch ho (I.freeC x c e), hd⟩
  refine ⟨I.ok, I.os, hg, ⟨fun b o e n hb hx => ?_, fun b o e n hb hx => ?_, fun b o e n hx => ?_, fun b o e hx => ?_, fun b xs e => tups b xs (I.base.tups b xs e), fun b o xs e => frzs b o xs (I.base.frzs b o xs e), fun b ps e => ?_⟩, ?_, fun x c e => ?_, ?_, fun x c e => ?_, fun p hp => ?_, hok, I.len⟩
  · exact keep b o (neL b o e) hb (neC b o e hx) (I.base.keep b o e n hb hx) (I.base.free b o e n hx)
  · obtain ⟨sl, e1⟩ := I.base.slot b o e n hb hx
    obtain ⟨sl', e2⟩ := slot b _ (neL b o e) hb (neC b o e hx) e1 (I.base.free b o e n hx)
    exact ⟨sl', e2⟩
  · obtain ⟨o', e1⟩ := I.base.there b o e hx
    exact free b o' (neC b o e hx) e1 (I.base.free b o e n hx)
  · obtain ⟨o', e1⟩ := I.base.there b o e hx
    exact there b o' (neC b o e hx) e1
  · obtain ⟨m1, e1⟩ := I.base.tbls b ps e
    obtain ⟨m2, e2⟩ := tbls b _ e1
    exact ⟨m1 ++ m2, by rw [e2, Array.append_assoc]⟩
  · obtain ⟨m, hn, hl⟩ := I.loc
    refine ⟨m, ns m hn, fun i x v e1 e2 e3 => ?_⟩
    obtain ⟨u, r, l⟩ := hl i x v e1 e2 e3
    refine ⟨u, r, ?_⟩
    rcases l with l | ⟨k, c, e, z⟩
    · exact .inl l
    · exact .inr ⟨k, c, e, cellK x c e _ z⟩
  · obtain ⟨v, z⟩ := I.cell x c e
    exact ⟨v, cellK x c e v z⟩
  · obtain ⟨m, ⟨o, _, _, ho, _⟩, _⟩ := I.loc
    exact free _ o (fun z => (hch _ z).2.1 rfl) ho I.free
  · obtain ⟨v, o, ho, hd⟩ := I.cell x c e
    exact free c o (fun z => (hch c z).2.2.1 x c e rfl) ho (I.freeC x c e)
  · obtain ⟨e, n, ne, nf, d⟩ := I.pin p hp
    have nch : p.1 ∉ ch := fun z => (hch p.1 z).2.2.2 p hp rfl
    exact ⟨keep p.1 p.2 ne nf nch e n, free p.1 p.2 nch e n, ne, nf, d⟩
/-- .. where the frame's own object is kept too -/
theorem Inv.un {t' : Nat} (I : Inv X pins σ H s) (u : Un X.fs [] H H' s.heap h') (hok : HOk X.prog X.w H' h') : Inv X pins σ H' { s with heap := h', toks := t' } := by
  obtain ⟨m, ⟨o, es, ep, ho, r⟩, _⟩ := id I.loc
  obtain ⟨sl, hL⟩ := u.any ho I.free (by simp)
  exact I.step (g' := s.gens) (d' := s.drawn) (ch := []) (fun _ z => nomatch z) (fun b o _ hb _ e n => u.keep b o e n hb (by simp)) (fun b o _ hb _ e n => u.slot b o e n hb (by simp)) (fun b o _ e n => u.free b o e n (by simp)) (fun b o _ e => u.there b o e (by simp)) u.tups u.frzs u.tbls (fun m' hm => by
    obtain ⟨o', es', ep', ho', r'⟩ := hm
    rw [ho] at ho'; cases ho'
    exact ⟨_, es', ep', hL, r'⟩) hok I.bare
/-- behind a call (or a comprehension's block): the slots of this frame may have changed too, the records at ch may have turned -/
theorem Inv.call {g' : Array GenState} {t' : Nat} {d' : Drawn} {ch : List Addr} (I : Inv X pins σ H s) (u : Un (frs X.stack) ch H H' s.heap h') (hok : HOk X.prog X.w H' h') (hg : AllBare g')
    (hch : ∀ b ∈ ch, (b ∈ X.ex ∨ X.s₀.heap.objs.size ≤ b) ∧ b ≠ X.env.locals ∧ (∀ x c, X.env.cells.lookup x = some c → c ≠ b) ∧ ∀ p ∈ X.pn ++ pins, p.1 ≠ b) :
    Inv X pins σ H' { s with heap := h', gens := g', drawn := d', toks := t' } := by
  obtain ⟨m, ⟨o, es, ep, ho, r⟩, _⟩ := id I.loc
  obtain ⟨sl, hL⟩ := u.any ho I.free fun z => (hch _ z).2.1 rfl
  exact I.step (ch := ch) hch (fun b o hL hb hc e n => u.keep b o e n (fun z => (List.mem_cons.mp (I.stkSub b z)).elim hL hb) hc) (fun b o _ _ hc e n => u.any e n hc) (fun b o hc e n => u.free b o e n hc) (fun b o hc e => u.there b o e hc) u.tups u.frzs u.tbls (fun m' hm => by
    obtain ⟨o', es', ep', ho', r'⟩ := hm
    rw [ho] at ho'; cases ho'
    exact ⟨_, es', ep', hL, r'⟩) hok hg
/-- an untracked record of ours (an iterator) has turned -/
theorem Inv.turned {t' : Nat} {it : Addr} (I : Inv X pins σ H s) (k : ∀ b o, b ≠ it → s.heap.get? b = some o → h'.get? b = some o) (hn : H it = none) (hL : it ≠ X.env.locals)
    (h1 : it ∈ X.ex ∨ X.s₀.heap.objs.size ≤ it) (h2 : ∀ x c, X.env.cells.lookup x = some c → c ≠ it) (h3 : ∀ p ∈ X.pn ++ pins, p.1 ≠ it) : Inv X pins σ H { s with heap := h', toks := t' } := by
  have nit : ∀ b u, H b = some u → b ≠ it := fun b u e z => by rw [z, hn] at e; cases e
  refine I.step (g' := s.gens) (d' := s.drawn) (ch := [it]) (fun b hb => ?_) (fun b o _ _ hc e _ => k b o (fun z => hc (by simp [z])) e) (fun b o _ _ hc e _ => ⟨o.slots, k b o (fun z => hc (by simp [z])) e⟩) (fun _ _ _ _ n => n)
    (fun b o hc e => ⟨o, k b o (fun z => hc (by simp [z])) e⟩) (fun _ _ e => e) (fun _ _ _ e => e) (fun b ps e => ⟨#[], by rw [e]; simp⟩) (fun m hm => ?_) (fun b u e => ?_) I.bare
  · have e : b = it := by simpa using hb
    subst e
    exact ⟨h1, hL, h2, h3⟩
  · obtain ⟨o, es, ep, ho, r⟩ := hm
    exact ⟨o, es, ep, k _ o (Ne.symm hL) ho, r⟩
  · refine (I.hok b u e).stay (fun c v hc q => k c v ?_ q) (fun _ q => q) fun _ _ q => q
    rcases hc with z | z
    · rw [z]; exact nit b u e
    · exact nit c _ z
theorem Inv.tok (I : Inv X pins σ H s) (t : Nat) : Inv X pins σ H { s with toks := t } := I.un (h' := s.heap) (t' := t) Un.refl I.hok
/-- all objects kept -/
theorem Inv.kept {t' : Nat} (I : Inv X pins σ H s) (k : ∀ b u, s.heap.get? b = some u → h'.get? b = some u) : Inv X pins σ H { s with heap := h', toks := t' } := I.un (Un.kept k) (I.hok.kept k)
/-- a new object laid and tracked -/
theorem Inv.laid {a : Addr} {o : HO} {t' : Nat} (I : Inv X pins σ H s) (k : ∀ b u, s.heap.get? b = some u → h'.get? b = some u) (hp : s.heap.objs.size ≤ a) (new : ObjOk X.prog X.w (upd H a o) h' a o) :
    Inv X pins σ (upd H a o) { s with heap := h', toks := t' } := I.un (Un.laid k hp (I.hok.fresh hp)) (I.hok.laid k hp new)
/-- an object written -/
theorem Inv.write {x e : Addr} {o : HO} {t' : Nat} (I : Inv X pins σ H s) (mu : Mut (H x)) (he : e = x ∨ H e = some (.own x)) (k : ∀ b u, b ≠ e → s.heap.get? b = some u → h'.get? b = some u) (heo : ∃ u, h'.get? e = some u)
    (new : ObjOk X.prog X.w (upd H x o) h' x o) : Inv X pins σ (upd H x o) { s with heap := h', toks := t' } := I.un (Un.write mu he k heo) (I.hok.write mu he k heo new)
theorem Inv.pins_of {pins' : List (Addr × Obj)} (I : Inv X pins σ H s) (h : ∀ p ∈ pins', s.heap.get? p.1 = some p.2 ∧ H p.1 = none ∧ p.1 ≠ X.env.locals ∧ p.1 ∉ X.fs ∧ ∀ v, p.2.data ≠ .cell v) : Inv X pins' σ H s :=
  ⟨I.ok, I.os, I.bare, I.base, I.loc, I.cell, I.free, I.freeC, fun p hp => (List.mem_append.mp hp).elim (fun z => I.pin p (List.mem_append_left _ z)) (h p), I.hok, I.len⟩

theorem nodup_ix {N : List Str} (hN : N.Nodup) {i j : Nat} {x : Str} (a : N[i]? = some x) (b : N[j]? = some x) : i = j := by
  obtain ⟨h1, e1⟩ := List.getElem?_eq_some_iff.mp a
  obtain ⟨h2, e2⟩ := List.getElem?_eq_some_iff.mp b
  exact (List.getElem_inj hN).mp (e1.trans e2.symm)

/-- a name is stored; what changed -/
theorem store_ok2 {M : Model} {A : Around} {E : Value → Shared → Prop} {i : Nat} {x : Str} {v : V} {u : Value} {Q : Unit → Shared → Prop} (I : Inv X pins σ H s) (hN : X.N.Nodup) (hi : X.N[i]? = some x) (hx : Loc X.env.scope x) (r : RelV v u)
    (h : ∀ s', Inv X pins (σ.set i (some v)) H s' → (∃ a, Heap.SameBut a s.heap s'.heap ∧ (a = X.env.locals ∨ X.env.cells.lookup x = some a)) → Q () s') (hf : X.fn x = true ∨ X.env.scope.names.lookup x = some .local := by first | exact .inl rfl | exact .inr rfl | assumption) : wpAny M A (storeName X.env x u) Q E s := by
  obtain ⟨m, hn, hl⟩ := id I.loc
  have hcls : (X.env.scope.kind == .class || (X.env.scope.kind == .module && X.env.locals != X.env.globals)) = false := by rw [I.ok.kind]; rfl
  have hiσ : i < σ.length := by rw [I.len]; exact (List.getElem?_eq_some_iff.mp hi).1
  have cne := I.cne
  have tracked : ∀ {a : Addr} {h' : Heap}, (∃ o, s.heap.get? a = some o ∧ H a = none) → Heap.SameBut a s.heap h' → HOk X.prog X.w H h' := fun {a h'} ha hs b ob e => by
    obtain ⟨_, _, hfree⟩ := ha
    refine (I.hok b ob e).stay (fun c w' hc q => (hs.2 c ?_).trans q) (fun _ q => q) fun _ _ q => q
    rintro rfl
    rcases hc with rfl | hc
    · rw [hfree] at e; cases e
    · rw [hfree] at hc; cases hc
  rcases hx with hk | hk
  · refine wpAny_storeName_local hk hn (fun h' hn' hs => ?_) hcls
    obtain ⟨oL, _, _, hoL, _⟩ := id hn
    refine h _ ⟨I.ok, I.os, I.bare, ⟨fun b o e n hb hx => ?_, fun b o e n hb hx => ?_, I.base.free, fun b o e hx => ?_, I.base.tups, I.base.frzs, I.base.tbls⟩, ⟨_, hn', fun j y v' e1 e2 e3 => ?_⟩, fun y c e => ?_, I.free, I.freeC, fun p hp => ?_, tracked ⟨oL, hoL, I.free⟩ hs, by simpa using I.len⟩ ⟨_, hs, .inl rfl⟩
    · exact (hs.2 b (Nat.ne_of_lt (Nat.lt_of_lt_of_le (Heap.lt_size e) I.ok.above))).trans (I.base.keep b o e n hb hx)
    · obtain ⟨sl, e1⟩ := I.base.slot b o e n hb hx
      exact ⟨sl, (hs.2 b (Nat.ne_of_lt (Nat.lt_of_lt_of_le (Heap.lt_size e) I.ok.above))).trans e1⟩
    · obtain ⟨o', e1⟩ := I.base.there b o e hx
      exact ⟨o', (hs.2 b (Nat.ne_of_lt (Nat.lt_of_lt_of_le (Heap.lt_size e) I.ok.above))).trans e1⟩
    · by_cases hj : j = i
      · subst hj
        rw [hi] at e1; cases e1
        rw [List.getElem?_set_self hiσ] at e2
        cases e2
        exact ⟨u, r, .inl ⟨hk, by simp⟩⟩
      · rw [List.getElem?_set_ne (Ne.symm hj)] at e2
        obtain ⟨u', r', q⟩ := hl j y v' e1 e2 e3
        refine ⟨u', r', ?_⟩
        rcases q with ⟨k, e⟩ | ⟨k, c, e, z⟩
        · refine .inl ⟨k, ?_⟩
          have : y ≠ x := fun e => hj (nodup_ix hN e1 (e ▸ hi))
          simp [this, e]
        · exact .inr ⟨k, c, e, z.sameBut hs (cne y c e)⟩
    · obtain ⟨w', z⟩ := I.cell y c e
      exact ⟨w', z.sameBut hs (cne y c e)⟩
    · obtain ⟨e, n, ne, nf, d⟩ := I.pin p hp
      exact ⟨(hs.2 p.1 ne).trans e, n, ne, nf, d⟩
  · have hfn : X.fn x = true := by
      rcases hf with z | z
      · exact z
      · rw [z] at hk; cases hk
    obtain ⟨c, hc⟩ := I.ok.has x (.inl hk)
    obtain ⟨w', z⟩ := I.cell x c hc
    refine wpAny_storeName_cell I.ok.kind hk hc z (fun h' hc' hs => ?_)
    obtain ⟨oc, hoc, hocd⟩ := id z
    refine h { s with heap := h' } ⟨I.ok, I.os, I.bare, ⟨fun b o e n hb hx => ?_, fun b o e n hb hx => ?_, I.base.free, fun b o e hx => ?_, I.base.tups, I.base.frzs, I.base.tbls⟩, ⟨m, hn.sameBut hs (Ne.symm (cne x c hc)), fun j y v' e1 e2 e3 => ?_⟩, fun y c' e => ?_, I.free, I.freeC, fun p hp => ?_, tracked ⟨oc, hoc, I.freeC x c hc⟩ hs, by simpa using I.len⟩ ⟨c, hs, .inr hc⟩
    · exact (hs.2 b (Nat.ne_of_lt (Nat.lt_of_lt_of_le (Heap.lt_size e) (I.ok.cab x c hfn hc)))).trans (I.base.keep b o e n hb hx)
    · obtain ⟨sl, e1⟩ := I.base.slot b o e n hb hx
      exact ⟨sl, (hs.2 b (Nat.ne_of_lt (Nat.lt_of_lt_of_le (Heap.lt_size e) (I.ok.cab x c hfn hc)))).trans e1⟩
    · obtain ⟨o', e1⟩ := I.base.there b o e hx
      exact ⟨o', (hs.2 b (Nat.ne_of_lt (Nat.lt_of_lt_of_le (Heap.lt_size e) (I.ok.cab x c hfn hc)))).trans e1⟩
    · by_cases hj : j = i
      · subst hj
        rw [hi] at e1; cases e1
        rw [List.getElem?_set_self hiσ] at e2
        cases e2
        exact ⟨u, r, .inr ⟨.inl hk, c, hc, hc'⟩⟩
      · rw [List.getElem?_set_ne (Ne.symm hj)] at e2
        obtain ⟨u', r', q⟩ := hl j y v' e1 e2 e3
        refine ⟨u', r', ?_⟩
        rcases q with q | ⟨k, c', e, z'⟩
        · exact .inl q
        · refine .inr ⟨k, c', e, z'.sameBut hs ?_⟩
          rintro rfl
          exact hj (nodup_ix hN e1 (I.ok.inj _ _ _ e hc ▸ hi))
    · by_cases hcc : c' = c
      · subst hcc; exact ⟨_, hc'⟩
      · obtain ⟨w2, z2⟩ := I.cell y c' e
        exact ⟨w2, z2.sameBut hs hcc⟩
    · obtain ⟨e, n, ne, nf, d⟩ := I.pin p hp
      refine ⟨(hs.2 p.1 ?_).trans e, n, ne, nf, d⟩
      intro q
      rw [q, hoc] at e
      have q' : oc = p.2 := Option.some.inj e
      exact d w' (by rw [← q']; exact hocd)
theorem store_ok {M : Model} {A : Around} {E : Value → Shared → Prop} {i : Nat} {x : Str} {v : V} {u : Value} {Q : Unit → Shared → Prop} (I : Inv X pins σ H s) (hN : X.N.Nodup) (hi : X.N[i]? = some x) (hx : Loc X.env.scope x) (r : RelV v u)
    (h : ∀ s', Inv X pins (σ.set i (some v)) H s' → Q () s') (hf : X.fn x = true ∨ X.env.scope.names.lookup x = some .local := by first | exact .inl rfl | exact .inr rfl | assumption) : wpAny M A (storeName X.env x u) Q E s :=
  store_ok2 I hN hi hx r (fun s' I' _ => h s' I') hf
/-- behind a call or a block, the state as it is -/
theorem Inv.call' {s' : Shared} {ch : List Addr} (I : Inv X pins σ H s) (ho : s'.os = s.os) (u : Un (frs X.stack) ch H H' s.heap s'.heap) (hok : HOk X.prog X.w H' s'.heap) (hg : AllBare s'.gens)
    (hch : ∀ b ∈ ch, (b ∈ X.ex ∨ X.s₀.heap.objs.size ≤ b) ∧ b ≠ X.env.locals ∧ (∀ x c, X.env.cells.lookup x = some c → c ≠ b) ∧ ∀ p ∈ X.pn ++ pins, p.1 ≠ b) : Inv X pins σ H' s' := by
  obtain ⟨h', g', d', t', o'⟩ := s'
  have e : o' = s.os := ho
  subst e
  exact I.call (g' := g') (t' := t') (d' := d') u hok hg hch
end
/-- an exception: its class, its own dict's address (where it has one), the abstract heap behind it -/
abbrev XK := Value → Option Addr → Hp → Prop
abbrev St := List (Option V)
abbrev VK := V → Hp → Prop
/-- an expression's reading; a test's; an argument list's -/
abbrev TE := St → Hp → VK → Prop
abbrev TT := St → Hp → (Bool → Hp → Prop) → Prop
abbrev TA := St → Hp → (List V → Hp → Prop) → Prop
/-- what is wanted behind a statement -/
structure Ends where
  nx : St → Hp → Prop
  rt : VK
  bk : St → Hp → Prop := fun _ _ => False
  ct : St → Hp → Prop := fun _ _ => False
abbrev TS := Ends → St → Hp → Prop

def EP (X : Cx) (pins : List (Addr × Obj)) (σ : St) (Q : VK) (u : Value) (s' : Shared) : Prop := ∃ v H', Inv X pins σ H' s' ∧ RelV v u ∧ Q v H'
def TP (X : Cx) (pins : List (Addr × Obj)) (σ : St) (Q : Bool → Hp → Prop) (b : Bool) (s' : Shared) : Prop := ∃ H', Inv X pins σ H' s' ∧ Q b H'
def SP (X : Cx) (pins : List (Addr × Obj)) (D : Ends) (f : Flow) (s' : Shared) : Prop :=
  match f with
  | .next => ∃ σ' H', Inv X pins σ' H' s' ∧ D.nx σ' H'
  | .brk => ∃ σ' H', Inv X pins σ' H' s' ∧ D.bk σ' H'
  | .cont => ∃ σ' H', Inv X pins σ' H' s' ∧ D.ct σ' H'
  | .ret u => ∃ v σ' H', Inv X pins σ' H' s' ∧ RelV v u ∧ D.rt v H'

def PE (X : Cx) (e : Expr) (t : TE) : Prop :=
  ∀ (pins : List (Addr × Obj)) (s : Shared) (σ : St) (H : Hp) (Q : VK), Inv X pins σ H s → t σ H Q → wpAny (model X.prog X.w) X.A (eval e X.env) (EP X pins σ Q) X.xe s
def PT (X : Cx) (e : Expr) (t : TT) : Prop :=
  ∀ (pins : List (Addr × Obj)) (s : Shared) (σ : St) (H : Hp) (Q : Bool → Hp → Prop), Inv X pins σ H s → t σ H Q → wpAny (model X.prog X.w) X.A (isTrue e X.env (eval e X.env)) (TP X pins σ Q) X.xe s
def PSs (X : Cx) (st : List Stmt) (t : TS) : Prop :=
  ∀ (pins : List (Addr × Obj)) (s : Shared) (σ : St) (H : Hp) (D : Ends), Inv X pins σ H s → t D σ H → wpAny (model X.prog X.w) X.A (execs st X.env) (SP X pins D) X.xe s
/-- weaken the end -/
theorem thn {α : Type} {t : Sem α} {Q Q' : α → Shared → Prop} {M : Model} {A : Around} {E : Value → Shared → Prop} {s : Shared} (h : wpAny M A t Q E s) (hQ : ∀ a s, Q a s → Q' a s) : wpAny M A t Q' E s := wpAny_mono h hQ fun _ _ x => x
section
variable {X : Cx}
def tVar (i : Nat) : TE := fun σ H Q => ∃ v, σ[i]? = some (some v) ∧ Q v H
def tC (v : V) : TE := fun _ H Q => Q v H
theorem pe_var {i : Nat} {x : Str} {pos : Pos} (hN : X.N[i]? = some x) (hv : Vis X.env.scope x) (hd : (x == ("__debug__" : Str)) = false := by decide) (hcd : (x == ("__classdict__" : Str)) = false := by decide) : PE X (.Name x pos) (tVar i) := by
  intro pins s σ H Q I h
  obtain ⟨v, e, h⟩ := h
  obtain ⟨m, hn, hl⟩ := I.loc
  obtain ⟨u, r, l⟩ := hl i x v hN e hv
  have fin : EP X pins σ Q u s := ⟨v, H, I, r, h⟩
  rcases l with ⟨hk, hm⟩ | ⟨hk, c, hc, hcell⟩
  · exact wpAny_Name (wpAny_loadName_local I.ok.kind hk hn hm fin) hd
  · rcases hk with hk | hk
    · exact wpAny_Name (wpAny_loadName_cell I.ok.kind hk hc hcell fin) hd
    · exact wpAny_Name (wpAny_loadName_free I.ok.kind hk hc hcell fin hcd) hd
theorem pe_int {i j pos} : PE X (.Constant (.int i) j pos) (tC (.int i)) := fun _ _ _ H _ I h => wpAny_Constant_int ⟨.int i, H, I.tok _, ⟨_, rfl⟩, h⟩
theorem pe_bl {b j pos} : PE X (.Constant (.bool b) j pos) (tC (.bl b)) := fun _ _ _ H _ I h => Constant_bool ⟨.bl b, H, I, rfl, h⟩
theorem pe_non {j pos} : PE X (.Constant .none j pos) (tC .non) := fun _ _ _ H _ I h => Constant_none ⟨.non, H, I, rfl, h⟩
theorem pe_str {x j pos} : PE X (.Constant (.str x) j pos) (tC (.str x)) := fun _ _ _ H _ I h => Calls.Constant_str ⟨.str x, H, I.tok _, ⟨_, rfl⟩, h⟩

/-- a global name of the def -/
def Gl (X : Cx) (x : Str) : Prop := X.env.kindOf x = some .globalImplicit
theorem ld_glob {E : Value → Shared → Prop} {pins : List (Addr × Obj)} {s : Shared} {σ : St} {H : Hp} {x : Str} {u : Value} {pos : Pos} {Q : Value → Shared → Prop} (I : Inv X pins σ H s) (hg : Gl X x) (hm : X.mg x = some u) (h : Q u s)
    (hd : (x == ("__debug__" : Str)) = false := by decide) : wpAny (model X.prog X.w) X.A (eval (.Name x pos) X.env) Q E s :=
  Calls.Name_function_global I.ok.kind hg (Calls.loadGlobal_global (by rw [I.ok.glob]; exact I.mod.glob.keeps I.bk) hm h) hd
theorem ld_blt {E : Value → Shared → Prop} {pins : List (Addr × Obj)} {s : Shared} {σ : St} {H : Hp} {x : Str} {u : Value} {pos : Pos} {Q : Value → Shared → Prop} (I : Inv X pins σ H s) (hg : Gl X x) (hm : X.mg x = none) (hv : bootBuiltins x = some u) (h : Q u s)
    (hn : x ≠ "__name__" := by decide) (hd : (x == ("__debug__" : Str)) = false := by decide) : wpAny (model X.prog X.w) X.A (eval (.Name x pos) X.env) Q E s := by
  obtain ⟨mb, h1, h2⟩ := I.mod.blt
  exact Calls.Name_function_global I.ok.kind hg (Calls.loadGlobal_builtin (by rw [I.ok.glob]; exact I.mod.glob.keeps I.bk) hm (by rw [I.ok.blt]; exact h1.keeps I.bk) ((h2 x hn).trans hv) h) hd
/-- a module's constant, a class, a function, as a value -/
theorem pe_glob {x : Str} {v : V} {u : Value} {pos : Pos} (hg : Gl X x) (hm : X.mg x = some u) (r : RelV v u) (hd : (x == ("__debug__" : Str)) = false := by decide) : PE X (.Name x pos) (tC v) :=
  fun _ _ _ H _ I h => ld_glob I hg hm ⟨v, H, I, r, h⟩ hd
variable {a b : Expr} {ta tb : TE} {pos : Pos}
theorem nobehind (b : Expr) {op : CmpOp} (h : op ≠ .In) (h2 : op ≠ .NotIn) : behindInMarks op b = false := by
  have e1 : (op == CmpOp.In) = false := by cases op <;> first | rfl | exact absurd rfl h
  have e2 : (op == CmpOp.NotIn) = false := by cases op <;> first | rfl | exact absurd rfl h2
  cases b <;> simp [behindInMarks, e1, e2]
theorem RelV.none_iff {x : V} {v : Value} (r : RelV x v) : (v == Value.none) = decide (x = .non) := by
  cases x with
  | non => cases r; rfl
  | bl _ => cases r; rfl
  | int _ => obtain ⟨t, rfl⟩ := r; rfl
  | str _ => obtain ⟨t, rfl⟩ := r; rfl
  | byt _ => obtain ⟨t, rfl⟩ := r; rfl
  | flt _ => obtain ⟨t, rfl⟩ := r; rfl
  | ref _ => cases r; rfl
  | ty _ => cases r; rfl
variable {tA tB' : TT} {rest : List Expr}
def tAnd (t u : TT) : TT := fun σ H Q => t σ H fun c H1 => if c = true then u σ H1 Q else Q false H1
def tOr (t u : TT) : TT := fun σ H Q => t σ H fun c H1 => if c = true then Q true H1 else u σ H1 Q
def tNot (t : TT) : TT := fun σ H Q => t σ H fun c H1 => Q (!c) H1
end
def SqL (K : PySem.W.Frag) (H : Hp) (a : Addr) (xs : List V) : Prop :=
  Rd H a (.lst xs) ∨
    ∃ (o : Obj) (its : Array Value) (n : Nat), K.lookup a = some o ∧ o.cls = .type "list" ∧ o.dict = none ∧ o.data = .seq its n ∧ its.size ≤ sizeLine ∧ Vals xs its.toList
def SqT (K : PySem.W.Frag) (H : Hp) (a : Addr) (xs : List V) : Prop :=
  Rd H a (.tup xs) ∨
    ∃ (o : Obj) (its : Array Value) (n : Nat), K.lookup a = some o ∧ o.cls = .type "tuple" ∧ o.data = .seq its n ∧ its.size ≤ sizeLine ∧ Vals xs its.toList
def absV : Value → Option V
  | .none => some .non
  | .bool b => some (.bl b)
  | .int i _ => some (.int i)
  | .str x _ => some (.str x)
  | .bytes b _ => some (.byt b)
  | .float b _ => some (.flt b)
  | .ref a => some (.ref a)
  | .type n => some (.ty n)
  | _ => none
theorem RelV.abs {x : V} {u : Value} (r : RelV x u) : absV u = some x := by
  cases x with
  | non => cases r; rfl
  | bl _ => cases r; rfl
  | int _ => obtain ⟨t, rfl⟩ := r; rfl
  | str _ => obtain ⟨t, rfl⟩ := r; rfl
  | byt _ => obtain ⟨t, rfl⟩ := r; rfl
  | flt _ => obtain ⟨t, rfl⟩ := r; rfl
  | ref _ => cases r; rfl
  | ty _ => cases r; rfl
theorem RelV.inj {x y : V} {u : Value} (r : RelV x u) (q : RelV y u) : x = y := Option.some.inj (r.abs.symm.trans q.abs)
theorem Vals.inj : ∀ {xs ys : List V} {us : List Value}, Vals xs us → Vals ys us → xs = ys
  | _, _, _, .nil, .nil => rfl
  | _, _, _, .cons r t, .cons r' t' => by rw [r.inj r', Vals.inj t t']
section
variable {X : Cx} {pins : List (Addr × Obj)} {σ : St} {H : Hp} {s : Shared} {a : Addr} {xs ys : List V}
theorem SqL.of {K : PySem.W.Frag} (h : H a = some (.lst xs)) : SqL K H a xs := .inl (.inl h)
theorem SqT.of {K : PySem.W.Frag} (h : H a = some (.tup xs)) : SqT K H a xs := .inl (.inl h)
theorem Inv.list (I : Inv X pins σ H s) (h : SqL X.K H a xs) : ∃ its : List Value, Vals xs its ∧ PlainL s.heap a its.toArray ∧ xs.length ≤ sizeLine := by
  rcases h with h | ⟨o, its, n, hk, hc, hd, hs, hz, r⟩
  · obtain ⟨z, its, n, r, e⟩ := h.ok I.hok
    exact ⟨its, r, ⟨_, n, e, rfl, rfl, rfl⟩, z⟩
  · refine ⟨its.toList, r, ⟨o, n, I.kIn a o hk, hc, hd, by simpa using hs⟩, ?_⟩
    have e := r.length
    simp only [Array.length_toList] at e
    omega
theorem Inv.tuple (I : Inv X pins σ H s) (h : SqT X.K H a xs) : ∃ its : List Value, Vals xs its ∧ IsTup s.heap a its.toArray ∧ xs.length ≤ sizeLine := by
  rcases h with h | ⟨o, its, n, hk, hc, hs, hz, r⟩
  · obtain ⟨z, its, r, p⟩ := h.ok I.hok
    exact ⟨its, r, p, z⟩
  · refine ⟨its.toList, r, ⟨o, I.kIn a o hk, hc, n, by simpa using hs⟩, ?_⟩
    have e := r.length
    simp only [Array.length_toList] at e
    omega
theorem Inv.list_inj (I : Inv X pins σ H s) (h : SqL X.K H a xs) (h' : SqL X.K H a ys) : xs = ys := by
  obtain ⟨its, r, ⟨o, n, e, _, _, d⟩, _⟩ := I.list h
  obtain ⟨its', r', ⟨o', n', e', _, _, d'⟩, _⟩ := I.list h'
  rw [e] at e'; cases e'
  rw [d] at d'
  injection d' with d1 _
  have : its = its' := by simpa using congrArg Array.toList d1
  subst this
  exact r.inj r'
theorem Inv.tuple_inj (I : Inv X pins σ H s) (h : SqT X.K H a xs) (h' : SqT X.K H a ys) : xs = ys := by
  obtain ⟨its, r, ⟨o, e, _, n, d⟩, _⟩ := I.tuple h
  obtain ⟨its', r', ⟨o', e', _, n', d'⟩, _⟩ := I.tuple h'
  rw [e] at e'; cases e'
  rw [d] at d'
  injection d' with d1 _
  have : its = its' := by simpa using congrArg Array.toList d1
  subst this
  exact r.inj r'
end
abbrev Cx.wish (X : Cx) (E : Value → Shared → Prop) : Cx := { X with xe := E }
/-- no exception leaves -/
abbrev Cx.nox (X : Cx) : Cx := X.wish fun _ _ => False
theorem Cx.Ok.wish {X : Cx} (ok : X.Ok) (E : Value → Shared → Prop) : (X.wish E).Ok :=
  ⟨ok.mod, ok.kind, ok.glob, ok.blt, ok.above, ok.inj, ok.has, ok.cab, ok.hd, ok.frames, ok.stk, ok.exf, ok.bs, ok.bsz, ok.noex, ok.exfs, ok.funs, ok.frf⟩
theorem Cx.Ok.unwish {X : Cx} {E : Value → Shared → Prop} (ok : (X.wish E).Ok) : X.Ok :=
  ⟨ok.mod, ok.kind, ok.glob, ok.blt, ok.above, ok.inj, ok.has, ok.cab, ok.hd, ok.frames, ok.stk, ok.exf, ok.bs, ok.bsz, ok.noex, ok.exfs, ok.funs, ok.frf⟩
section
variable {X : Cx} {pins : List (Addr × Obj)} {σ : St} {H : Hp} {s : Shared} {E : Value → Shared → Prop}
theorem Inv.wish (I : Inv X pins σ H s) (E : Value → Shared → Prop) : Inv (X.wish E) pins σ H s := ⟨I.ok.wish E, I.os, I.bare, I.base, I.loc, I.cell, I.free, I.freeC, I.pin, I.hok, I.len⟩
theorem Inv.unwish (I : Inv (X.wish E) pins σ H s) : Inv X pins σ H s := ⟨I.ok.unwish, I.os, I.bare, I.base, I.loc, I.cell, I.free, I.freeC, I.pin, I.hok, I.len⟩
theorem SP.unwish {D : Ends} {f : Flow} {s' : Shared} (h : SP (X.wish E) pins D f s') : SP X pins D f s' := by
  cases f with
  | next => obtain ⟨σ', H', I, q⟩ := h; exact ⟨σ', H', I.unwish, q⟩
  | brk => obtain ⟨σ', H', I, q⟩ := h; exact ⟨σ', H', I.unwish, q⟩
  | cont => obtain ⟨σ', H', I, q⟩ := h; exact ⟨σ', H', I.unwish, q⟩
  | ret u => obtain ⟨v, σ', H', I, r, q⟩ := h; exact ⟨v, σ', H', I.unwish, r, q⟩
theorem PE.nox {e : Expr} {t : TE} (h : PE X.nox e t) : PE X e t := fun pins s σ H Q I hw =>
  wpAny_mono (h pins s σ H Q (I.wish _) hw) (fun _ _ ⟨v, H', I', r, q⟩ => ⟨v, H', I'.unwish, r, q⟩) fun _ _ z => False.elim z
theorem PT.nox {e : Expr} {t : TT} (h : PT X.nox e t) : PT X e t := fun pins s σ H Q I hw =>
  wpAny_mono (h pins s σ H Q (I.wish _) hw) (fun _ _ ⟨H', I', q⟩ => ⟨H', I'.unwish, q⟩) fun _ _ z => False.elim z
theorem PSs.nox {st : List Stmt} {t : TS} (h : PSs X.nox st t) : PSs X st t := fun pins s σ H D I hw =>
  wpAny_mono (h pins s σ H D (I.wish _) hw) (fun _ _ q => q.unwish) fun _ _ z => False.elim z
end
section
variable {X : Cx} {st : Stmt} {rest : List Stmt} {t u : TS} {e : Expr} {te : TE} {pos : Pos}
/-- in a def's body nothing is shown -/
theorem Inv.quiet {pins : List (Addr × Obj)} {σ : St} {H : Hp} {s : Shared} (I : Inv X pins σ H s) : interactive X.env = false := by simp [interactive, I.ok.kind]
end
/-- at turn i: it yields x (the heap may grow), or it stops -/
structure It where
  go : Nat → Hp → Prop
  yld : Nat → Hp → V → Hp → Prop
  stop : Nat → Hp → Prop
/-- the iterator's own objects may turn: they are not the frame's, not pinned, younger than the entry (or a comprehension's own) -/
def FpOk (X : Cx) (pins : List (Addr × Obj)) (H : Hp) (b : Addr) : Prop :=
  H b = none ∧ b ≠ X.env.locals ∧ b ∉ X.fs ∧ (b ∈ X.ex ∨ X.s₀.heap.objs.size ≤ b) ∧ (∀ x c, X.env.cells.lookup x = some c → c ≠ b) ∧ ∀ p ∈ X.pn ++ pins, p.1 ≠ b
theorem Inv.fpOk {X : Cx} {pins : List (Addr × Obj)} {σ : St} {H H' : Hp} {s : Shared} {b : Addr} (I : Inv X pins σ H s) (hb : s.heap.objs.size ≤ b) (hn : H' b = none) : FpOk X pins H' b := by
  refine ⟨hn, Nat.ne_of_gt (Nat.lt_of_lt_of_le I.lt hb), I.nofs hb, .inr (Nat.le_trans I.sz hb), fun x c e z => ?_, fun p hp z => ?_⟩
  · obtain ⟨v, q⟩ := I.cell x c e
    exact absurd (Nat.lt_of_lt_of_le q.lt (by rw [z]; exact hb)) (Nat.lt_irrefl _)
  · exact absurd (Nat.lt_of_lt_of_le (Heap.lt_size (I.pin p hp).1) (by rw [z]; exact hb)) (Nat.lt_irrefl _)
structure Turn (P : Program) (w : World) (K : PySem.W.Frag) (tg : Expr) (J : It) (fp : List Addr) (it : Addr) (tn : Nat → Heap → Prop) : Prop where
  mem : it ∈ fp
  obj : ∀ i h, tn i h → ∀ b ∈ fp, ∃ o, h.get? b = some o ∧ ∀ v, o.data ≠ .cell v
  keep : ∀ i h h', tn i h → (∀ b ∈ fp, ∀ o, h.get? b = some o → h'.get? b = some o) → tn i h'
  item : ∀ (X : Cx), X.prog = P → X.w = w → X.K = K → X.calm = true → ∀ (i : Nat) (pins : List (Addr × Obj)) (s : Shared) (σ : St) (H : Hp) (E : Value → Shared → Prop), Inv X pins σ H s → (∀ b ∈ fp, FpOk X pins H b) → tn i s.heap → J.go i H →
    wpAny (model P w) X.A (pyNext (.ref it)) (fun r s1 => ∃ u, r = some u ∧
      wpAny (model P w) X.A (letOwnedTupleGo tg (.ref it) u) (fun _ s2 => ∃ x H', Inv X pins σ H' s2 ∧ RelV x u ∧ J.yld i H x H' ∧ tn (i + 1) s2.heap ∧ ∀ b ∈ fp, H' b = none) E s1) E s
  done : ∀ (X : Cx), X.prog = P → X.w = w → X.K = K → X.calm = true → ∀ (i : Nat) (pins : List (Addr × Obj)) (s : Shared) (σ : St) (H : Hp) (E : Value → Shared → Prop), Inv X pins σ H s → (∀ b ∈ fp, FpOk X pins H b) → tn i s.heap → J.stop i H →
    wpAny (model P w) X.A (pyNext (.ref it)) (fun r s1 => r = none ∧ Inv X pins σ H s1) E s
  self : ∀ (A : Around) (i : Nat) (s : Shared) (Q : Value → Shared → Prop) (E : Value → Shared → Prop), tn i s.heap → Q (.ref it) s → wpAny (model P w) A (pyIter (.ref it)) Q E s
abbrev TI := St → Hp → (It → Hp → Prop) → Prop
/-- an iterator has come -/
def PIE (X : Cx) (pins : List (Addr × Obj)) (σ : St) (tg : Expr) (R : It → Hp → Prop) (itv : Value) (s2 : Shared) : Prop :=
  ∃ (it : Addr) (fp : List Addr) (tn : Nat → Heap → Prop) (J : It) (H' : Hp), itv = .ref it ∧ Inv X pins σ H' s2 ∧ Turn X.prog X.w X.K tg J fp it tn ∧ tn 0 s2.heap ∧ (∀ b ∈ fp, FpOk X pins H' b) ∧ R J H'
/-- the step ahead of the store is nothing for an iterator that keeps no tuple -/
theorem go_of {M : Model} {A : Around} {E : Value → Shared → Prop} {s : Shared} {tg : Expr} {it : Addr} {u : Value} {o : Obj} {n : String} {vs : Array Value} {Q : Unit → Shared → Prop} (ho : s.heap.get? it = some o) (hc : o.cls = .type n) (hd : o.data = .fields vs)
    (hn : ["enumerate", "zip", "dict_itemiterator", "dict_reverseitemiterator", "odict_iterator", "itertools.zip_longest", "itertools.pairwise"].contains n = false) (hQ : Q () s) : wpAny M A (letOwnedTupleGo tg (.ref it) u) Q E s := by
  unfold letOwnedTupleGo
  cases tg <;> first
    | exact wpAny_pure hQ
    | (cases u <;> first
        | exact wpAny_pure hQ
        | (refine wpAny_bind (wpAny_load ho ?_)
           rw [hc, hd]
           show wpAny M A (if (["enumerate", "zip", "dict_itemiterator", "dict_reverseitemiterator", "odict_iterator", "itertools.zip_longest", "itertools.pairwise"].contains n && vs[0]? == some (rawInt _)) = true then _ else _) Q E s
           rw [if_neg (by intro h; rw [hn, Bool.false_and] at h; cases h)]
           exact wpAny_pure hQ))

/-- the list at a, as it stands at each turn (a loop may append to it) -/
def Itl (K : PySem.W.Frag) (a : Addr) : It :=
  ⟨fun i H => ∃ xs x, SqL K H a xs ∧ xs[i]? = some x, fun i H x H' => H' = H ∧ ∀ xs, SqL K H a xs → xs[i]? = some x, fun i H => ∃ xs, SqL K H a xs ∧ xs.length ≤ i⟩
def Itt (K : PySem.W.Frag) (a : Addr) : It :=
  ⟨fun i H => ∃ xs x, SqT K H a xs ∧ xs[i]? = some x, fun i H x H' => H' = H ∧ ∀ xs, SqT K H a xs → xs[i]? = some x, fun i H => ∃ xs, SqT K H a xs ∧ xs.length ≤ i⟩
theorem turn_list {P : Program} {w : World} {K : PySem.W.Frag} {tg : Expr} (a it : Addr) : Turn P w K tg (Itl K a) [it] it (fun i h => h.IsListIter it a i) where
  mem := by simp
  obj := fun i h st b hb => by
    have e : b = it := by simpa using hb
    subst e
    obtain ⟨o, e, c, d⟩ := st
    exact ⟨o, e, fun v z => by rw [d] at z; cases z⟩
  keep := fun i h h' st k => st.at fun o e => k it (by simp) o e
  item := by
    intro X hP hw hK hc i pins s σ H E I hf st hg
    subst hP hw hK
    obtain ⟨xs, x, hq, hx⟩ := hg
    obtain ⟨its, rv, p, hz⟩ := I.list hq
    obtain ⟨u, hu, ru⟩ := rv.get hx
    obtain ⟨f0, f1, f2, f3, f4, f5⟩ := hf it (by simp)
    refine wpAny_pyNext_list_item st p.isList (x := u) (by simpa using hu) fun h' st' sb => ?_
    have I1 : Inv X pins σ H { s with heap := h' } := I.turned (t' := s.toks) (fun b o hb e => (sb.2 b hb).trans e) f0 f1 f3 f4 f5
    obtain ⟨o, e, c, d⟩ := id st'
    exact ⟨u, rfl, go_of (s := { s with heap := h' }) e c d (by decide) ⟨x, H, I1, ru, ⟨rfl, fun ys hy => by rw [I.list_inj hy hq]; exact hx⟩, st', fun b hb => (hf b hb).1⟩⟩
  done := by
    intro X hP hw hK hc i pins s σ H E I hf st hg
    subst hP hw hK
    obtain ⟨xs, hq, hx⟩ := hg
    obtain ⟨its, rv, p, hz⟩ := I.list hq
    obtain ⟨f0, f1, f2, f3, f4, f5⟩ := hf it (by simp)
    have hl := rv.length
    exact wpAny_pyNext_list_end (I.ok.hd hc) st p.isList (by simp; omega) fun h' eb => ⟨rfl, I.turned (t' := s.toks) (fun b o hb e => eb b o hb e) f0 f1 f3 f4 f5⟩
  self := fun _ _ _ _ _ st h => wpAny_pyIter_listiter st h
theorem turn_tuple {P : Program} {w : World} {K : PySem.W.Frag} {tg : Expr} (a it : Addr) : Turn P w K tg (Itt K a) [it] it (fun i h => h.IsTupleIter it a i) where
  mem := by simp
  obj := fun i h st b hb => by
    have e : b = it := by simpa using hb
    subst e
    obtain ⟨o, e, c, d⟩ := st
    exact ⟨o, e, fun v z => by rw [d] at z; cases z⟩
  keep := fun i h h' st k => st.at fun o e => k it (by simp) o e
  item := by
    intro X hP hw hK hc i pins s σ H E I hf st hg
    subst hP hw hK
    obtain ⟨xs, x, hq, hx⟩ := hg
    obtain ⟨its, rv, p, hz⟩ := I.tuple hq
    obtain ⟨u, hu, ru⟩ := rv.get hx
    obtain ⟨f0, f1, f2, f3, f4, f5⟩ := hf it (by simp)
    refine wpAny_pyNext_tuple_item st (show s.heap.IsTuple a its.toArray from p) (x := u) (by simpa using hu) fun h' st' sb => ?_
    have I1 : Inv X pins σ H { s with heap := h' } := I.turned (t' := s.toks) (fun b o hb e => (sb.2 b hb).trans e) f0 f1 f3 f4 f5
    obtain ⟨o, e, c, d⟩ := id st'
    exact ⟨u, rfl, go_of (s := { s with heap := h' }) e c d (by decide) ⟨x, H, I1, ru, ⟨rfl, fun ys hy => by rw [I.tuple_inj hy hq]; exact hx⟩, st', fun b hb => (hf b hb).1⟩⟩
  done := by
    intro X hP hw hK hc i pins s σ H E I hf st hg
    subst hP hw hK
    obtain ⟨xs, hq, hx⟩ := hg
    obtain ⟨its, rv, p, hz⟩ := I.tuple hq
    obtain ⟨f0, f1, f2, f3, f4, f5⟩ := hf it (by simp)
    have hl := rv.length
    exact wpAny_pyNext_tuple_end (I.ok.hd hc) st (show s.heap.IsTuple a its.toArray from p) (by simp; omega) fun h' eb => ⟨rfl, I.turned (t' := s.toks) (fun b o hb e => eb b o hb e) f0 f1 f3 f4 f5⟩
  self := fun _ _ _ _ _ st h => wpAny_pyIter_tupleiter st h
section
variable {X : Cx} {tg : Expr}
/-- the records at fp as they stand -/
def pinsAt (fp : List Addr) (h : Heap) : List (Addr × Obj) := fp.filterMap fun b => (h.get? b).map fun o => (b, o)
theorem mem_pinsAt {fp : List Addr} {h : Heap} {b : Addr} {o : Obj} (hb : b ∈ fp) (e : h.get? b = some o) : (b, o) ∈ pinsAt fp h := List.mem_filterMap.mpr ⟨b, hb, by rw [e]; rfl⟩
theorem of_pinsAt {fp : List Addr} {h : Heap} {p : Addr × Obj} (hp : p ∈ pinsAt fp h) : p.1 ∈ fp ∧ h.get? p.1 = some p.2 := by
  obtain ⟨b, hb, e⟩ := List.mem_filterMap.mp hp
  cases q : h.get? b with
  | none => rw [q] at e; cases e
  | some o =>
    rw [q] at e
    have e' : (b, o) = p := Option.some.inj e
    subst e'
    exact ⟨hb, q⟩
theorem Inv.pinned {pins : List (Addr × Obj)} {σ : St} {H : Hp} {s : Shared} {fp : List Addr} (I : Inv X pins σ H s) (hf : ∀ b ∈ fp, FpOk X pins H b) (ho : ∀ b ∈ fp, ∃ o, s.heap.get? b = some o ∧ ∀ v, o.data ≠ .cell v) : Inv X (pins ++ pinsAt fp s.heap) σ H s :=
  I.pins_of fun p hp => (List.mem_append.mp hp).elim (fun z => I.pin p (List.mem_append_right _ z)) fun z => by
    obtain ⟨hb, e⟩ := of_pinsAt z
    obtain ⟨f0, f1, f2, _⟩ := hf p.1 hb
    obtain ⟨o, e', d⟩ := ho p.1 hb
    rw [e] at e'; cases e'
    exact ⟨e, f0, f1, f2, d⟩
theorem Inv.unpinned {pins pl : List (Addr × Obj)} {σ : St} {H : Hp} {s : Shared} (I : Inv X (pins ++ pl) σ H s) : Inv X pins σ H s := I.pins_of fun p hp => I.pin p (List.mem_append_right _ (List.mem_append_left _ hp))
end
abbrev R2 := V → V → Hp → VK → Prop
/-- a two-place operation on values: f is binaryOp op, inplaceOp op or compareOp op -/
def OpR (X : Cx) (f : Value → Value → Sem Value) (r : R2) : Prop :=
  ∀ (pins : List (Addr × Obj)) (s : Shared) (σ : St) (H : Hp) (x y : V) (v u : Value) (Q : VK), Inv X pins σ H s → RelV x v → RelV y u → r x y H Q →
    wpAny (model X.prog X.w) X.A (f v u) (EP X pins σ Q) X.xe s
/-- a call of a value that is known (a builtin, a type) with values -/
def CallR (X : Cx) (f : Value) (r : List V → Hp → VK → Prop) : Prop :=
  ∀ (pins : List (Addr × Obj)) (s : Shared) (σ : St) (H : Hp) (xs : List V) (us : List Value) (Q : VK), Inv X pins σ H s → Vals xs us → r xs H Q →
    wpAny (model X.prog X.w) X.A (call f us) (EP X pins σ Q) X.xe s
section
variable {X : Cx} {a b c : Expr} {ta tb tc : TE} {pos : Pos}
def CMul (i j : Int) : Prop := (-(2 ^ 64) < i ∧ i < 2 ^ 64) ∨ (-(2 ^ 64) < j ∧ j < 2 ^ 64)
theorem CMul.ok {i j : Int} (h : CMul i j) : IntMulOk i j := by
  rcases h with ⟨h1, h2⟩ | ⟨h1, h2⟩
  · exact .of_left (intBits_le_64 h1 h2)
  · exact .of_right (intBits_le_64 h1 h2)
theorem fin_bl {pins : List (Addr × Obj)} {σ : St} {H : Hp} {s : Shared} {Q : VK} {k k' : Bool} (I : Inv X pins σ H s) (q : Q (.bl k) H) (e : k = k') : EP X pins σ Q (.bool k') s := by
  subst e
  exact ⟨.bl k, H, I, rfl, q⟩
/-- the one string within the other -/
theorem op_in_str : OpR X (compareOp .In) (fun x y H Q => ∃ i j, x = .str i ∧ y = .str j ∧ Q (.bl (!(Builtin.Str.occurrences j i 0 j.length 1).isEmpty)) H) := by
  intro pins s σ H x y v u Q I rx ry h
  obtain ⟨i, j, rfl, rfl, q⟩ := h
  obtain ⟨t, rfl⟩ := rx
  obtain ⟨t', rfl⟩ := ry
  exact in_str (fin_bl I q rfl)

theorem nomark (b : Expr) {op : CmpOp} (h : op ≠ .In := by decide) (h2 : op ≠ .NotIn := by decide) : behindInMarks op b = false := by
  have e1 : (op == CmpOp.In) = false := by cases op <;> first | rfl | exact absurd rfl h
  have e2 : (op == CmpOp.NotIn) = false := by cases op <;> first | rfl | exact absurd rfl h2
  cases b <;> simp [behindInMarks, e1, e2]
theorem line63 : (sizeLine : Nat) < 2 ^ 63 := by rw [sizeLine_eq]; decide
theorem op_add_str : OpR X (binaryOp .Add) (fun x y H Q => ∃ i j, x = .str i ∧ y = .str j ∧ i.length + j.length ≤ sizeLine ∧ Q (.str (i ++ j)) H) := by
  intro pins s σ H x y v u Q I rx ry h
  obtain ⟨i, j, rfl, rfl, hz, q⟩ := h
  obtain ⟨t, rfl⟩ := rx
  obtain ⟨t', rfl⟩ := ry
  exact add_str (fun t' tk => ⟨.str (i ++ j), H, I.tok _, ⟨_, rfl⟩, q⟩) hz
theorem vals1 {x : V} {us : List Value} (r : Vals [x] us) : ∃ u, us = [u] ∧ RelV x u := by
  cases r with
  | cons r1 r2 => cases r2; exact ⟨_, rfl, r1⟩
end
structure Cls (K : PySem.W.Frag) (C : Addr) : Prop where
  pg : PySem.W.plainGet K C Str.empty = true
  hd : PySem.W.hasDictIn K C = true
  po : PySem.W.plainOver K C = true
  sa : PySem.W.findIn K (.ref C) "__setattr__" = some (some (.builtin "object.__setattr__"))
theorem Cls.get {K : PySem.W.Frag} {C : Addr} (c : Cls K C) (f : Str) : PySem.W.plainGet K C f = true := c.pg
section
variable {X : Cx} {pins : List (Addr × Obj)} {σ : St} {H : Hp} {s : Shared} {a C dx : Addr} {fs : List (Str × V)} {f : Str} {v : V} {A : Around} {E : Value → Shared → Prop}
/-- a new instance, tracked, without attributes -/
theorem Inv.made (I : Inv X pins σ H s) : Inv X pins σ (upd (upd H s.heap.objs.size (.own (s.heap.objs.size + 1))) (s.heap.objs.size + 1) (.ins C s.heap.objs.size []))
    { s with heap := (s.heap.push PySem.W.emptyDict).push (PySem.W.instObj C s.heap.objs.size) } := by
  have e1 : (s.heap.push PySem.W.emptyDict).get? s.heap.objs.size = some PySem.W.emptyDict := Heap.get?_push_size s.heap rfl
  have e2 : ((s.heap.push PySem.W.emptyDict).push (PySem.W.instObj C s.heap.objs.size)).get? (s.heap.objs.size + 1) = some (PySem.W.instObj C s.heap.objs.size) := by
    have := Heap.get?_push_size (s.heap.push PySem.W.emptyDict) (o := PySem.W.instObj C s.heap.objs.size) rfl
    rwa [Heap.size_push] at this
  have e3 : (s.heap.push PySem.W.emptyDict).Ns s.heap.objs.size (fun _ => none) := ⟨PySem.W.emptyDict, #[], _, e1, rfl, (fun e he => absurd he (by simp)), fun _ => rfl⟩
  have I1 := I.laid (a := s.heap.objs.size) (o := .own (s.heap.objs.size + 1)) (h' := s.heap.push PySem.W.emptyDict) (t' := s.toks) (fun b u q => Heap.get?_push_of_some _ q) (Nat.le_refl _) ⟨_, e1⟩
  refine I1.laid (a := s.heap.objs.size + 1) (o := .ins C s.heap.objs.size []) (t' := s.toks) (fun b u q => Heap.get?_push_of_some _ q) (Nat.le_of_eq (Heap.size_push _ _)) ?_
  have ne : s.heap.objs.size ≠ s.heap.objs.size + 1 := Nat.ne_of_lt (Nat.lt_succ_self _)
  refine ⟨by rw [upd_ne ne, upd_same], Nat.zero_le _, ne, e2, fun _ => none, (Heap.Ns1.of_empty e3).at fun o q => Heap.get?_push_of_some _ q, fun _ => True.intro, fun y hy => absurd rfl hy⟩

end
structure Room (k : Nat) (A : Around) : Prop where
  hd : A.handled = none
  dp : A.depth + 3 * k + 5 < recursionLimit
  un : A.units + 16 * k + 200 < cLine
theorem Room.mono {j k : Nat} {A : Around} (r : Room k A) (h : j ≤ k) : Room j A := ⟨r.hd, by have := r.dp; omega, by have := r.un; omega⟩
theorem Room.deeper {k : Nat} {A : Around} (r : Room (k + 1) A) (env : Env) : Room k (A.deeper env) :=
  ⟨r.hd, by have := r.dp; show A.depth + 1 + 3 * k + 5 < _; omega, by have := r.un; show A.units + 3 + 16 * k + 200 < _; omega⟩
theorem Room.in1 {k : Nat} {A : Around} (r : Room (k + 1) A) : Room k A.in1 :=
  ⟨r.hd, by have := r.dp; show A.depth + 3 * k + 5 < _; omega, by have := r.un; show A.units + 1 + 16 * k + 200 < _; omega⟩
theorem Room.depth {k : Nat} {A : Around} (r : Room k A) : A.depth < recursionLimit := by have := r.dp; omega
theorem Room.units {k : Nat} {A : Around} (r : Room k A) : A.units + 64 < cLine := by have := r.un; omega
/-- a def's promise: the bound arguments in the parameters' order, the heap, the wanted end, the wanted exception -/
abbrev Sp := List V → Hp → VK → XK → Prop
/-- how an exception lies behind a call (file 08 gives it): the callers' frames, abstract heap and state ahead of the call, the wish, the exception, the state -/
abbrev CXT := List Env → Hp → Shared → XK → Value → Shared → Prop

/-- the state at a call -/
structure Env0 (P : Program) (w : World) (K : PySem.W.Frag) (mg : Str → Option Value) (base : Heap) (A : Around) (outer : List Env) (s : Shared) (H : Hp) : Prop where
  frames : A.frames = some outer
  mod : Mod K mg base
  bs : ∀ b o, base.get? b = some o → s.heap.get? b = some o ∧ H b = none
  bsz : base.objs.size ≤ s.heap.objs.size
  funs : s.heap.FunFrames base outer
  frf : ∀ b ∈ frs outer, H b = none
  hok : HOk P w H s.heap
  bare : AllBare s.gens
/-- a call's end -/
def CE (outer : List Env) (P : Program) (w : World) (H : Hp) (s : Shared) (Q : VK) (u : Value) (s' : Shared) : Prop :=
  ∃ v H', s'.os = s.os ∧ AllBare s'.gens ∧ Un (frs outer) [] H H' s.heap s'.heap ∧ HOk P w H' s'.heap ∧ RelV v u ∧ Q v H'
def CR (CX : CXT) (outer : List Env) (P : Program) (w : World) (H : Hp) (s : Shared) (Q : VK) (E : XK) (r : Result) (s' : Shared) : Prop :=
  match r with
  | .ok (.ret u) => CE outer P w H s Q u s'
  | .ok _ => False
  | .error e => CX outer H s E e s'
structure FnOk (P : Program) (w : World) (K : PySem.W.Frag) (mg : Str → Option Value) (base : Heap) (CX : CXT) (k : Nat) (f : Addr) (fd : FuncData) (ps : List Str) (sp : Sp) : Prop where
  len : ∀ vs H Q E, sp vs H Q E → vs.length = ps.length
  run : ∀ (A : Around) (outer : List Env) (s : Shared) (H : Hp) (args : Args) (us : List Value) (vs : List V) (Q : VK) (E : XK), Room k A → Env0 P w K mg base A outer s H → BindsTo s fd args (ps.zip us) → Vals vs us → sp vs H Q E →
    codeAny (model P w) A (.call (.ref f) args) (CR CX outer P w H s Q E) s
theorem FnOk.mono {P : Program} {w : World} {K : PySem.W.Frag} {mg : Str → Option Value} {base : Heap} {CX : CXT} {j k : Nat} {f : Addr} {fd : FuncData} {ps : List Str} {sp : Sp} (F : FnOk P w K mg base CX j f fd ps sp) (h : j ≤ k) :
    FnOk P w K mg base CX k f fd ps sp := ⟨F.len, fun A outer s H args us vs Q E hr => F.run A outer s H args us vs Q E (hr.mono h)⟩
theorem Env0.in1 {P : Program} {w : World} {K : PySem.W.Frag} {mg : Str → Option Value} {base : Heap} {A : Around} {outer : List Env} {s : Shared} {H : Hp} (e : Env0 P w K mg base A outer s H) :
    Env0 P w K mg base A.in1 outer s H := ⟨e.frames, e.mod, e.bs, e.bsz, e.funs, e.frf, e.hok, e.bare⟩

section
variable {X : Cx} {pins : List (Addr × Obj)} {σ : St} {H : Hp} {s s' : Shared}
/-- from a body: what a callee wants -/
theorem Inv.env0 (I : Inv X pins σ H s) : Env0 X.prog X.w X.K X.mg X.base X.A X.stack s H :=
  ⟨I.ok.frames, I.ok.mod, I.bs, Nat.le_trans I.ok.bsz I.sz, I.stack, I.stkFree, I.hok, I.bare⟩
/-- behind a call -/
theorem Inv.after {Q : VK} {u : Value} (I : Inv X pins σ H s) (h : CE X.stack X.prog X.w H s Q u s') : EP X pins σ Q u s' := by
  obtain ⟨v, H', os, bare, un, hok, r, q⟩ := h
  obtain ⟨hh, g, d, t, os'⟩ := s'
  obtain rfl : os' = s.os := os
  exact ⟨v, H', I.call (h' := hh) (g' := g) (d' := d) (t' := t) (ch := []) un hok bare (fun b z => absurd z (by simp)), r, q⟩
end
/-- how the parameters are bound: us the positional arguments, kw the keywords' values by name, ds the defaults that fill up -/
def Binds (K : PySem.W.Frag) (fd : FuncData) (ps : List Str) (ds : List Value) : Prop :=
  ∀ (s : Shared) (us : List Value), K.In s.heap → (us ++ ds).length = ps.length → BindsTo s fd ⟨us, []⟩ (ps.zip (us ++ ds))
/-- every parameter is given -/
theorem Binds.all {K : PySem.W.Frag} {fd : FuncData} {ps : List Str} (h : ∀ us : List Value, us.length = ps.length → bindArgs fd ⟨us, []⟩ = pure (ps.zip us)) : Binds K fd ps [] := fun s us _ hl => by
  rw [List.append_nil] at hl ⊢
  exact .of_eq (h us hl)

/-- names: the parameters first -/
structure FnScope (N P : List Str) (sc : Scope) : Prop where
  kind : sc.kind = .function
  co : sc.isCoroutine = false
  gen : sc.isGenerator = false
  nd : N.Nodup
  pre : N.take P.length = P
  par : ∀ x ∈ P, sc.names.lookup x = some .local ∨ sc.names.lookup x = some .cell
  nofree : ∀ y ∈ sc.names, y.2 ≠ .free

theorem bindL_out {kindOf : Str → Option NameKind} {x : Str} : ∀ {binds : List (Str × Value)} {m : Str → Option Value}, (∀ v, (x, v) ∉ binds) → bindL kindOf binds m x = m x
  | [], _, _ => rfl
  | (n, v) :: r, m, h => by
    unfold bindL
    rw [bindL_out fun w hw => h w (List.mem_cons_of_mem _ hw)]
    split
    · have : x ≠ n := by rintro rfl; exact h v List.mem_cons_self
      simp [this]
    · rfl
theorem bindC_out {kindOf : Str → Option NameKind} {x : Str} : ∀ {binds : List (Str × Value)} {m : Str → Option Value}, (∀ v, (x, v) ∉ binds) → bindC kindOf binds m x = m x
  | [], _, _ => rfl
  | (n, v) :: r, m, h => by
    unfold bindC
    rw [bindC_out fun w hw => h w (List.mem_cons_of_mem _ hw)]
    split
    · rfl
    · have : x ≠ n := by rintro rfl; exact h v List.mem_cons_self
      simp [this]
theorem bindL_get {kindOf : Str → Option NameKind} {x : Str} {v : Value} : ∀ {P : List Str} {vs : List Value} {i : Nat} {m : Str → Option Value}, P.Nodup → P[i]? = some x → vs[i]? = some v → kindOf x = some .local →
    bindL kindOf (P.zip vs) m x = some v
  | [], _, _, _, _, h, _, _ => by simp at h
  | _ :: _, [], _, _, _, _, h, _ => by simp at h
  | p :: P, w :: vs, 0, m, nd, h1, h2, hk => by
    simp at h1 h2; subst h1; subst h2
    show bindL kindOf ((p, w) :: P.zip vs) m p = _
    unfold bindL
    rw [bindL_out fun v hv => (List.nodup_cons.mp nd).1 (List.of_mem_zip hv).1, if_pos hk]
    simp
  | p :: P, w :: vs, i + 1, m, nd, h1, h2, hk => by
    show bindL kindOf ((p, w) :: P.zip vs) m x = _
    unfold bindL
    exact bindL_get (i := i) (List.nodup_cons.mp nd).2 (by simpa using h1) (by simpa using h2) hk
theorem bindC_get {kindOf : Str → Option NameKind} {x : Str} {v : Value} : ∀ {P : List Str} {vs : List Value} {i : Nat} {m : Str → Option Value}, P.Nodup → P[i]? = some x → vs[i]? = some v → kindOf x ≠ some .local →
    bindC kindOf (P.zip vs) m x = some v
  | [], _, _, _, _, h, _, _ => by simp at h
  | _ :: _, [], _, _, _, _, h, _ => by simp at h
  | p :: P, w :: vs, 0, m, nd, h1, h2, hk => by
    simp at h1 h2; subst h1; subst h2
    show bindC kindOf ((p, w) :: P.zip vs) m p = _
    unfold bindC
    rw [bindC_out fun v hv => (List.nodup_cons.mp nd).1 (List.of_mem_zip hv).1, if_neg hk]
    simp
  | p :: P, w :: vs, i + 1, m, nd, h1, h2, hk => by
    show bindC kindOf ((p, w) :: P.zip vs) m x = _
    unfold bindC
    exact bindC_get (i := i) (List.nodup_cons.mp nd).2 (by simpa using h1) (by simpa using h2) hk

/-- the names' values at the entry -/
def start (N : List Str) (vs : List V) : St := vs.map some ++ List.replicate (N.length - vs.length) none

/-- the context of a def's body, at its entry; an exception leaves the frame, then lies as CX says -/
def cxOf (CX : CXT) (P : Program) (w : World) (K : PySem.W.Frag) (mg : Str → Option Value) (base : Heap) (N : List Str) (qual : Str) (scope : Scope) (f : Addr) (cd : Value) (A : Around) (outer : List Env) (s : Shared) (H : Hp) (E : XK) : Cx where
  prog := P
  w := w
  K := K
  mg := mg
  base := base
  A := A.deeper (envOfC qual scope s.heap.objs.size f cd)
  N := N
  s₀ := s
  H₀ := H
  env := envOfC qual scope s.heap.objs.size f cd
  outer := outer
  stack := envOfC qual scope s.heap.objs.size f cd :: outer
  ex := []
  calm := true
  fn := fun _ => true
  pn := []
  xe := fun e s' => wpAny (model P w) (A.deeper (envOfC qual scope s.heap.objs.size f cd)) (leaving (envOfC qual scope s.heap.objs.size f cd) e) (fun _ s'' => CX outer H s E e s'') (fun e' s'' => CX outer H s E e' s'') s'

theorem cell_has {sc : Scope} {n : Nat} {x : Str} (h : sc.names.lookup x = some .cell) : ∃ c, (cellsFrom n sc.names []).lookup x = some c := by
  have q := PySem.W.cellsFrom_some sc.names n [] (.inl h)
  exact Option.isSome_iff_exists.mp q

theorem inv_start {CX : CXT} {P : Program} {w : World} {K : PySem.W.Frag} {mg : Str → Option Value} {base : Heap} {N ps : List Str} {qual : Str} {scope : Scope} {f : Addr} {cd : Value} {A : Around} {outer : List Env} {s s1 : Shared} {H : Hp} {E : XK} {us : List Value} {vs : List V}
    (S : FnScope N ps scope) (hd : A.handled = none) (e0 : Env0 P w K mg base A outer s H) (hl : vs.length = ps.length) (r : Vals vs us)
    (x : InCallC s s.heap.objs.size (bindL (envOfC qual scope s.heap.objs.size f cd).kindOf (ps.zip us) fun _ => none) (cellsFrom (s.heap.objs.size + 1) scope.names []) (bindC (envOfC qual scope s.heap.objs.size f cd).kindOf (ps.zip us) fun _ => none) s1) :
    Inv (cxOf CX P w K mg base N qual scope f cd A outer s H E) [] (start N vs) H s1 := by
  have hpl : ps.length ≤ N.length := by have := congrArg List.length S.pre; rw [List.length_take] at this; omega
  obtain ⟨h1, tk, rfl, hk⟩ := x.done
  have noA : ∀ b : Addr, b ∉ (cxOf CX P w K mg base N qual scope f cd A outer s H E).ex := fun b z => absurd (show b ∈ ([] : List Addr) from z) (by simp)
  refine ⟨⟨e0.mod, S.kind, rfl, rfl, Nat.le_refl _, fun y z c h1 h2 => ?_, fun y hy => ?_, fun y c _ h => ?_, fun _ => hd, Around.frames_deeper e0.frames, .inr ⟨rfl, rfl⟩, fun b z => absurd z (noA b), e0.bs, e0.bsz, fun b _ _ => noA b, fun b z => absurd z (noA b), e0.funs, e0.frf⟩,
    rfl, e0.bare, Un.kept hk, ⟨_, x.toInCall.ns, fun i y v h1 h2 h3 => ?_⟩, fun y c h => ⟨_, x.cell y c h⟩, e0.hok.fresh (Nat.le_refl _), fun y c h => ?_, fun p hp => absurd (show p ∈ ([] : List (Addr × Obj)) from hp) (by simp), e0.hok.kept hk, ?_⟩
  · exact name_of_addr x.apart (PySem.mem_of_lookup h1) (PySem.mem_of_lookup h2)
  · have hy : scope.names.lookup y = some .cell ∨ scope.names.lookup y = some .free := hy
    rcases hy with hy | hy
    · exact cell_has hy
    · exact absurd rfl (S.nofree _ (PySem.mem_of_lookup hy))
  · exact Nat.le_of_lt (x.above y c (PySem.mem_of_lookup h))
  · have hi : i < vs.length := by
      unfold start at h2
      by_cases hi : i < vs.length
      · exact hi
      · rw [List.getElem?_append_right (by simpa using hi)] at h2
        rw [List.getElem?_replicate] at h2
        split at h2 <;> cases h2
    have ha : vs[i]? = some v := by
      unfold start at h2
      rw [List.getElem?_append_left (by simpa using hi), List.getElem?_map] at h2
      cases e : vs[i]? with
      | none => rw [e] at h2; cases h2
      | some a => rw [e] at h2; cases h2; rfl
    obtain ⟨u, hu, rv⟩ := r.get ha
    have hp : ps[i]? = some y := by
      rw [← S.pre, List.getElem?_take_of_lt (by omega)]; exact h1
    have ndP : ps.Nodup := by rw [← S.pre]; exact S.nd.sublist (List.take_sublist _ _)
    refine ⟨u, rv, ?_⟩
    rcases S.par y (List.mem_of_getElem? hp) with k | k
    · exact .inl ⟨k, bindL_get ndP hp hu k⟩
    · obtain ⟨c, e⟩ := cell_has (n := s.heap.objs.size + 1) k
      refine .inr ⟨.inl k, c, e, ?_⟩
      have q := x.cell y c e
      rw [bindC_get ndP hp hu (by show scope.names.lookup y ≠ _; rw [k]; decide)] at q
      exact q
  · exact e0.hok.fresh (Nat.le_of_lt (x.above y c (PySem.mem_of_lookup h)))
  · unfold start
    show _ = N.length
    rw [List.length_append, List.length_map, List.length_replicate]
    omega

/-- THE RULE: a def (or a method) of the text, by its body. The body's reading t is chosen for each entry; it is run at the parameters' values -/
theorem fn_of {CX : CXT} {P : Program} {w : World} {K : PySem.W.Frag} {mg : Str → Option Value} {base : Heap} {k : Nat} {f : Addr} {name qual : Str} {params : Arguments} {body : List Stmt} {scope : Scope} {dV kV doc pm cdv ct oc : Value} {an od : Option Addr}
    {osl : Array (Option Value)} {N ps : List Str} {sp : Sp} (lk : K.lookup f = some ⟨oc, od, .func (PySem.W.fnOf name qual params body scope dV kV doc pm an cdv ct), osl⟩) (hcd : PySem.W.codeIn K cdv qual = true) (S : FnScope N ps scope)
    (len : ∀ vs H Q E, sp vs H Q E → vs.length = ps.length)
    (hbody : ∀ (A : Around) (outer : List Env) (s : Shared) (H : Hp) (vs : List V) (Q : VK) (E : XK), Room k (A.deeper (envOfC qual scope s.heap.objs.size f cdv)) → sp vs H Q E →
      ∃ t, PSs (cxOf CX P w K mg base N qual scope f cdv A outer s H E) body t ∧ t { nx := fun _ H' => Q .non H', rt := Q } (start N vs) H) :
    FnOk P w K mg base CX (k + 1) f (PySem.W.fnOf name qual params body scope dV kV doc pm an cdv ct) ps sp := by
  refine ⟨len, fun A outer s H args us vs Q E hr e0 hb r hsp => ?_⟩
  have hl := len _ _ _ _ hsp
  have KX : K.In s.heap := e0.mod.kin.keeps fun b o e => (e0.bs b o e).1
  have lim : s.heap.NoLimit := e0.mod.nolimit.keeps fun b o e => (e0.bs b o e).1
  have hkind : ∀ y ∈ ps.zip us, scope.names.lookup y.1 = some .local ∨ (scope.names.lookup y.1 = some .cell ∧ ((cellsFrom (s.heap.objs.size + 1) scope.names []).lookup y.1).isSome = true) := fun ⟨n, v⟩ hy => by
    rcases S.par n (List.of_mem_zip hy).1 with q | q
    · exact .inl q
    · exact .inr ⟨q, PySem.W.cellsFrom_some _ _ _ (.inl q)⟩
  refine codeAny_call_function hr.depth (KX _ _ lk) rfl S.co S.gen rfl (PySem.W.codeRec_of KX hcd) (hb _ _ _ _ ?_)
  refine wpAny_newFunctionEnv_cells S.kind hkind fun env he s1 x => ?_
  subst he
  refine ⟨lim.keeps x.toInCall.keep, codeAny_func ?_⟩
  obtain ⟨t, ht, hq⟩ := hbody A outer s H vs Q E (hr.deeper _) hsp
  have I : Inv (cxOf CX P w K mg base N qual scope f cdv A outer s H E) [] (start N vs) H s1 := inv_start S hr.hd e0 hl r x
  refine wpAny_mono (ht [] s1 (start N vs) H _ I hq) (fun fl s' hs => ?_) fun e s' hs => hs
  have fin : ∀ {σ' : St} {H' : Hp} {v : V} {u : Value}, Inv (cxOf CX P w K mg base N qual scope f cdv A outer s H E) [] σ' H' s' → RelV v u → Q v H' → CE outer P w H s Q u s' :=
    fun {σ' H' v u} J rv q => ⟨v, H', J.os, J.bare, J.base, J.hok, rv, q⟩
  cases fl with
  | ret u =>
    obtain ⟨v, σ', H', J, rv, q⟩ := hs
    exact fin J rv q
  | next =>
    obtain ⟨σ', H', J, q⟩ := hs
    exact fin (v := V.non) (u := Value.none) J rfl q
  | brk =>
    obtain ⟨_, _, _, q⟩ := hs
    exact False.elim q
  | cont =>
    obtain ⟨_, _, _, q⟩ := hs
    exact False.elim q
end L2
namespace HT
open PySem PyProof.Rows
section
variable {prog : Program} {w : World} {A : Around} {E : Value → Shared → Prop} {s : Shared}
/-- t + u, t not empty -/
theorem cat_tup {t b : Addr} {vs ws : List Value} {Q : Value → Shared → Prop} (ht : IsTup s.heap t vs.toArray) (hb : IsTup s.heap b ws.toArray) (hv : vs ≠ [])
    (h1 : ws = [] → Q (.ref t) s) (h2 : ws ≠ [] → Q (.ref s.heap.objs.size) { s with heap := s.heap.push { cls := .type "tuple", data := .seq (vs ++ ws).toArray } })
    (hsz : vs.length + ws.length ≤ sizeLine) : wpAny (model prog w) A (binaryOp .Add (.ref t) (.ref b)) Q E s := by
  obtain ⟨⟨cls, dd, data, sl⟩, ho, hc, n, hd⟩ := id ht
  obtain ⟨⟨cls2, dd2, data2, sl2⟩, ho2, hc2, n2, hd2⟩ := id hb
  simp only at hc hd hc2 hd2
  subst hc hd hc2 hd2
  have e : vs.toArray ++ ws.toArray = (vs ++ ws).toArray := by simp
  by_cases hw : ws = []
  · exact concat_meets ⟨_, ho, rfl⟩ ⟨_, ho2, rfl⟩ noFill_tuple_add seq_tuple_add PySem.F.slot_tuple_add PySem.F.entry_tuple_add (PySem.F.args_tuple_add_2 _ _)
      (tuple_addW1 t b vs.toArray ws.toArray n n2 dd dd2 sl sl2 (by simpa using hv) (by simp [hw])) ⟨ho, ho2, h1 hw⟩
  · refine concat_meets ⟨_, ho, rfl⟩ ⟨_, ho2, rfl⟩ noFill_tuple_add seq_tuple_add PySem.F.slot_tuple_add PySem.F.entry_tuple_add (PySem.F.args_tuple_add_2 _ _)
      (tuple_addW2 t b vs.toArray ws.toArray n n2 dd dd2 sl sl2 (by simpa using hv) (by simpa using hw) (by rw [List.size_toArray, List.size_toArray]; exact hsz)) ⟨ho, ho2, ?_⟩
    rw [e]
    exact h2 hw

/-- a slice's bound as a place among n (d where it is left out) -/
def sIx (n d : Nat) : Option Int → Nat
  | none => d
  | some v => if v < 0 then (v + (n : Int)).toNat else min v.toNat n
end
end HT
namespace L2
open PySem PySem.Spec PyProof.Rows
abbrev TO := St → Hp → (Option Int → Hp → Prop) → Prop
section
variable {X : Cx} {e : Expr} {te : TE} {lo hi : Option Expr} {tl th : TO} {pos p2 : Pos}
/-- what a slice of a value is, by values: the slice object stands at sl -/
def SlR (X : Cx) (r : V → Option Int → Option Int → Hp → VK → Prop) : Prop :=
  ∀ (pins : List (Addr × Obj)) (s : Shared) (σ : St) (H : Hp) (x : V) (v vl vu : Value) (lo hi : Option Int) (sl : Addr) (Q : VK), Inv X pins σ H s → RelV x v → s.heap.IsSliceOf sl vl vu .none → IsPart vl lo → IsPart vu hi → r x lo hi H Q →
    ∃ T id, typeLookup (.type T) "__getitem__" = pure (some (.builtin id)) ∧ s.TypeIs v T ∧ wpAny (model X.prog X.w) X.A (getItem v (.ref sl)) (EP X pins σ Q) X.xe s
/-- the items of xs[lo:hi] -/
def cutV (xs : List V) (lo hi : Option Int) : List V := (xs.drop (HT.sIx xs.length 0 lo)).take (HT.sIx xs.length xs.length hi - HT.sIx xs.length 0 lo)
theorem cutV_length (xs : List V) (lo hi : Option Int) : (cutV xs lo hi).length ≤ xs.length := by
  unfold cutV
  rw [List.length_take, List.length_drop]
  omega
end
/-- the place that an index of any sign means -/
def ixN (n : Nat) (i : Int) : Option Nat := if 0 ≤ i then (if i < n then some i.toNat else none) else if -(n : Int) ≤ i then some (i + n).toNat else none
def atI {α : Type} (xs : List α) (i : Int) : Option α := (ixN xs.length i).bind fun j => xs[j]?
theorem ixN_seq {n : Nat} {i : Int} {j : Nat} (h : ixN n i = some j) : seqIndex? i n = some j ∧ j < n ∧ -(n : Int) ≤ i ∧ i < n := by
  unfold ixN at h
  by_cases h0 : 0 ≤ i
  · rw [if_pos h0] at h
    by_cases h1 : i < n
    · rw [if_pos h1] at h
      have e : i.toNat = j := Option.some.inj h
      exact ⟨by rw [seqIndex_of h0 h1, e], by omega, by omega, h1⟩
    · rw [if_neg h1] at h; cases h
  · rw [if_neg h0] at h
    by_cases h1 : -(n : Int) ≤ i
    · rw [if_pos h1] at h
      have e : (i + n).toNat = j := Option.some.inj h
      exact ⟨by rw [seqIndex_neg (by omega) h1, e], by omega, h1, by omega⟩
    · rw [if_neg h1] at h; cases h
theorem atI_get {α : Type} {xs : List α} {i : Int} {v : α} (h : atI xs i = some v) : ∃ j, seqIndex? i xs.length = some j ∧ xs[j]? = some v ∧ j < xs.length ∧ -(xs.length : Int) ≤ i ∧ i < xs.length := by
  unfold atI at h
  cases e : ixN xs.length i with
  | none => rw [e] at h; cases h
  | some j =>
    rw [e] at h
    obtain ⟨h1, h2, h3, h4⟩ := ixN_seq e
    exact ⟨j, h1, h, h2, h3, h4⟩
/-- what stands as an index of a plain subscript -/
def PlainIx (b : Expr) : Prop := ∀ o i, subscripted b false o i = operate [o, i] (getItem o i)
/-- a subscript by values -/
def IxR (X : Cx) (r : R2) : Prop :=
  ∀ (value slice : Expr) (pins : List (Addr × Obj)) (s : Shared) (σ : St) (H : Hp) (x y : V) (v u : Value) (Q : VK), Inv X pins σ H s → RelV x v → RelV y u → r x y H Q →
    subscripted slice false v u = operate [v, u] (getItem v u) → wpAny (model X.prog X.w) X.A (subscriptTail value slice v u) (EP X pins σ Q) X.xe s
section
variable {X : Cx} {a b : Expr} {ta tb : TE} {pos : Pos}
def rIxL (K : PySem.W.Frag) : R2 := fun x y H Q => ∃ p xs i v, x = .ref p ∧ y = .int i ∧ SqL K H p xs ∧ atI xs i = some v ∧ Q v H
def rIxT (K : PySem.W.Frag) : R2 := fun x y H Q => ∃ p xs i v, x = .ref p ∧ y = .int i ∧ SqT K H p xs ∧ atI xs i = some v ∧ Q v H
def rIxS : R2 := fun x y H Q => ∃ z i c, x = .str z ∧ y = .int i ∧ z.length ≤ sizeLine ∧ atI z.cps.toList i = some c ∧ Q (.str ⟨#[c]⟩) H
theorem ix_list : IxR X (rIxL X.K) := by
  intro value slice pins s σ H x y v u Q I rx ry h hs
  obtain ⟨p, xs, i, z, rfl, rfl, hq, he, q⟩ := h
  cases rx
  obtain ⟨t, rfl⟩ := ry
  obtain ⟨its, r, pl, hz⟩ := I.list hq
  obtain ⟨j, h1, h2, h3, h4, h5⟩ := atI_get he
  obtain ⟨w, ew, rw'⟩ := r.get h2
  have hl := r.length
  have hn := line63
  have fin : EP X pins σ Q w s := ⟨z, H, I, rw', q⟩
  by_cases h0 : 0 ≤ i
  · have hj : i.toNat = j := by
      rw [seqIndex_of h0 h5] at h1
      exact Option.some.inj h1
    exact item_listR pl.isList h0 (by omega) (by rw [hj]; simpa using ew) fin hs
  · have hj : (i + (its.toArray.size : Int)).toNat = j := by
      rw [seqIndex_neg (by omega) h4] at h1
      rw [List.size_toArray, ← hl]
      exact Option.some.inj h1
    exact subscriptTail_builtinR (x := w) pl.isList.typeIs slot_list_getitem.lookup
      (wpAny_getItem_list_neg (Q := fun r s' => r = w ∧ EP X pins σ Q r s') pl.isList (by omega) (by rw [List.size_toArray] <;> omega) (by omega) (by rw [hj]; simpa using ew) ⟨rfl, fin⟩) hs
theorem ix_tup : IxR X (rIxT X.K) := by
  intro value slice pins s σ H x y v u Q I rx ry h hs
  obtain ⟨p, xs, i, z, rfl, rfl, hq, he, q⟩ := h
  cases rx
  obtain ⟨t, rfl⟩ := ry
  obtain ⟨its, r, pl, hz⟩ := I.tuple hq
  obtain ⟨j, h1, h2, h3, h4, h5⟩ := atI_get he
  obtain ⟨w, ew, rw'⟩ := r.get h2
  have hl := r.length
  have hn := line63
  have fin : EP X pins σ Q w s := ⟨z, H, I, rw', q⟩
  exact subscriptTail_builtinR (x := w) pl.typeIs slot_tuple_getitem.lookup
    (getItem_tuple (j := j) (Q := fun r s' => r = w ∧ EP X pins σ Q r s') pl (by omega) (by omega) (by rw [List.size_toArray, ← hl]; exact h1) (by simpa using ew) ⟨rfl, fin⟩) hs
theorem ix_str : IxR X rIxS := by
  intro value slice pins s σ H x y v u Q I rx ry h hs
  obtain ⟨z, i, c, rfl, rfl, hz, he, q⟩ := h
  obtain ⟨t, rfl⟩ := rx
  obtain ⟨t', rfl⟩ := ry
  obtain ⟨j, h1, h2, h3, h4, h5⟩ := atI_get he
  have hl : z.cps.toList.length = z.length := by simp [Str.length]
  rw [hl] at h1 h4 h5
  have hn := line63
  exact tail_any (typeIs_str s z t) slot_str_getitem.lookup (getItem_str (c := c) (by
    have e1 : decide (i < -(2 ^ 63 : Int)) = false := decide_eq_false (by omega)
    have e2 : decide (i ≥ 2 ^ 63) = false := decide_eq_false (by omega)
    rw [e1, e2, Bool.or_false]) (by rw [h1]; simpa using h2) ⟨.str ⟨#[c]⟩, H, I.tok _, ⟨_, rfl⟩, q⟩) hs
theorem Inv.lst {pins : List (Addr × Obj)} {σ : St} {H : Hp} {s : Shared} {p : Addr} {xs : List V} (I : Inv X pins σ H s) (h : H p = some (.lst xs)) :
    ∃ (its : List Value) (n : Nat), Vals xs its ∧ s.heap.get? p = some { cls := .type "list", data := .seq its.toArray n } ∧ xs.length ≤ sizeLine := by
  obtain ⟨z, its, n, r, e⟩ := I.hok p _ h
  exact ⟨its, n, r, e, z⟩
theorem slice_bounds (lo hi : Option Int) (n : Nat) : (sliceBounds lo hi none n).1 = ((HT.sIx n 0 lo : Nat) : Int) ∧ (sliceBounds lo hi none n).2.1 = ((HT.sIx n n hi : Nat) : Int) ∧ (sliceBounds lo hi none n).2.2 = 1 := by
  refine ⟨?_, ?_, rfl⟩
  · cases lo with
    | none => simp [sliceBounds, HT.sIx]
    | some i =>
      simp only [sliceBounds, HT.sIx, Option.getD_none, show (1 : Int) > 0 by decide, if_true]
      by_cases h : i < 0
      · simp only [h, if_true] <;> omega
      · simp only [h, if_false] <;> omega
  · cases hi with
    | none => simp [sliceBounds, HT.sIx]
    | some i =>
      simp only [sliceBounds, HT.sIx, Option.getD_none, show (1 : Int) > 0 by decide, if_true]
      by_cases h : i < 0
      · simp only [h, if_true] <;> omega
      · simp only [h, if_false] <;> omega
theorem slicePick_cut (its : List Value) (lo hi : Option Int) : slicePick its.toArray lo hi none = ((its.drop (HT.sIx its.length 0 lo)).take (HT.sIx its.length its.length hi - HT.sIx its.length 0 lo)).toArray := by
  obtain ⟨h1, h2, h3⟩ := slice_bounds lo hi its.toArray.size
  unfold slicePick
  rw [h1, h2, h3]
  simp only [sliceRange_one, pick_run, List.size_toArray] <;> rfl
/-- xs[lo:hi] of a list: a new list -/
def rSlL (K : PySem.W.Frag) : V → Option Int → Option Int → Hp → VK → Prop := fun x lo hi H Q => ∃ a xs, x = .ref a ∧ SqL K H a xs ∧ ∀ p, H p = none → Q (.ref p) (upd H p (.lst (cutV xs lo hi)))
theorem sl_list : SlR X (rSlL X.K) := by
  intro pins s σ H x v vl vu lo hi sl Q I rx hs pl pu h
  obtain ⟨a, xs, rfl, hx, q⟩ := h
  cases rx
  obtain ⟨its, r, ht, hz⟩ := I.list hx
  have hlen := r.length
  refine ⟨"list", _, slot_list_getitem.lookup, ht.isList.typeIs, ?_⟩
  refine wpAny_getItem_list_slice ht.isList hs pl pu .none (by simp) ?_ (by rw [List.size_toArray] <;> omega)
  rw [slicePick_cut, ← hlen]
  refine ⟨.ref s.heap.objs.size, _, I.laid (t' := s.toks) (o := .lst (cutV xs lo hi)) (fun b ob q => Heap.get?_push_of_some _ q) (Nat.le_refl _) ?_, rfl, q _ (I.hok.fresh (Nat.le_refl _))⟩
  exact ⟨Nat.le_trans (cutV_length xs lo hi) hz, _, 0, (r.drop (HT.sIx xs.length 0 lo)).take (HT.sIx xs.length xs.length hi - HT.sIx xs.length 0 lo), Heap.get?_push_size _ rfl⟩

def flatV : V → Bool
  | .non => true
  | .bl _ => true
  | .int _ => true
  | .str _ => true
  | _ => false
/-- == of flat values -/
def eqV : V → V → Bool
  | .non, .non => true
  | .bl a, .bl b => a == b
  | .bl a, .int b => (if a then 1 else 0) == b
  | .int a, .bl b => a == (if b then 1 else 0)
  | .int a, .int b => a == b
  | .str a, .str b => a == b
  | _, _ => false
theorem eqAt_V {A : Around} {s : Shared} {y x : V} {u v : Value} (ry : RelV y u) (rx : RelV x v) (fy : flatV y = true) (fx : flatV x = true) : SeqAt.EqAt A s u v (eqV y x) := by
  cases y with
  | non =>
    cases ry
    cases x with
    | non => cases rx; exact SeqAt.EqAt.same _
    | bl b => cases rx; exact SeqAt.EqAt.none_bool b
    | int b => obtain ⟨t, rfl⟩ := rx; exact SeqAt.EqAt.none_int b t
    | str b => obtain ⟨t, rfl⟩ := rx; exact SeqAt.EqAt.none_str b t
    | _ => exact absurd (show false = true from fx) Bool.false_ne_true
  | bl a =>
    cases ry
    cases x with
    | non => cases rx; exact SeqAt.EqAt.bool_none a
    | bl b => cases rx; exact SeqAt.EqAt.bool_bool a b
    | int b => obtain ⟨t, rfl⟩ := rx; exact SeqAt.EqAt.bool_int a b t
    | str b => obtain ⟨t, rfl⟩ := rx; exact SeqAt.EqAt.bool_str a b t
    | _ => exact absurd (show false = true from fx) Bool.false_ne_true
  | int a =>
    obtain ⟨t', rfl⟩ := ry
    cases x with
    | non => cases rx; exact SeqAt.EqAt.int_none a t'
    | bl b => cases rx; exact SeqAt.EqAt.int_bool a t' b
    | int b => obtain ⟨t, rfl⟩ := rx; exact SeqAt.EqAt.int_int a t' b t
    | str b => obtain ⟨t, rfl⟩ := rx; exact SeqAt.EqAt.int_str a t' b t
    | _ => exact absurd (show false = true from fx) Bool.false_ne_true
  | str a =>
    obtain ⟨t', rfl⟩ := ry
    cases x with
    | non => cases rx; exact SeqAt.EqAt.str_none a t'
    | bl b => cases rx; exact SeqAt.EqAt.str_bool a t' b
    | int b => obtain ⟨t, rfl⟩ := rx; exact SeqAt.EqAt.str_int a t' b t
    | str b => obtain ⟨t, rfl⟩ := rx; exact SeqAt.EqAt.str_str a t' b t
    | _ => exact absurd (show false = true from fx) Bool.false_ne_true
  | _ => exact absurd (show false = true from fy) Bool.false_ne_true
/-- the items' answers, read off the values (a value's own answer does not lean on its token) -/
def eqU (x : V) (u : Value) : Bool := match u with
  | .none => eqV .non x
  | .bool b => eqV (.bl b) x
  | .int i _ => eqV (.int i) x
  | .str z _ => eqV (.str z) x
  | _ => false
theorem eqU_of {x y : V} {u : Value} (r : RelV y u) (f : flatV y = true) : eqU x u = eqV y x := by
  cases y with
  | non => cases r; rfl
  | bl b => cases r; rfl
  | int i => obtain ⟨t, rfl⟩ := r; rfl
  | str z => obtain ⟨t, rfl⟩ := r; rfl
  | _ => exact absurd (show false = true from f) Bool.false_ne_true
theorem any_eqU {x : V} : ∀ {xs : List V} {us : List Value}, Vals xs us → xs.all flatV = true → us.any (eqU x) = xs.any fun y => eqV y x
  | _, _, .nil, _ => rfl
  | y :: xs, u :: us, .cons r t, f => by
    rw [List.all_cons, Bool.and_eq_true] at f
    rw [List.any_cons, List.any_cons, eqU_of r f.1, any_eqU t f.2]
theorem mem_eqAt {A : Around} {s : Shared} {x : V} {v : Value} (rx : RelV x v) (fx : flatV x = true) : ∀ {xs : List V} {us : List Value}, Vals xs us → xs.all flatV = true → ∀ u ∈ us, SeqAt.EqAt A s u v (eqU x u)
  | _, _, .nil, _ => fun u hu => by cases hu
  | y :: xs, u :: us, .cons r t, f => fun u' hu => by
    rw [List.all_cons, Bool.and_eq_true] at f
    rcases List.mem_cons.mp hu with rfl | hu
    · rw [eqU_of r f.1]; exact eqAt_V r rx f.1 fx
    · exact mem_eqAt rx fx t f.2 u' hu
def inV (x : V) (xs : List V) : Bool := xs.any fun y => eqV y x
/-- x in a list or tuple of flat items -/
def rIn (K : PySem.W.Frag) (neg : Bool) : R2 := fun x y H Q => ∃ p xs, y = .ref p ∧ (SqL K H p xs ∨ SqT K H p xs) ∧ flatV x = true ∧ xs.all flatV = true ∧ Q (.bl (if neg then !inV x xs else inV x xs)) H
theorem op_in_seq : OpR X (compareOp .In) (rIn X.K false) := by
  intro pins s σ H x y v u Q I rx ry h
  obtain ⟨p, xs, rfl, hq, fx, fs, q⟩ := h
  cases ry
  rcases hq with hq | hq
  · obtain ⟨its, r, pl, hz⟩ := I.list hq
    refine SeqAt.in_listAt (eqU x) pl.isList (fun w hw => mem_eqAt rx fx r fs w (by simpa using hw)) ⟨.bl _, H, I, rfl, ?_⟩
    rw [show its.toArray.any (eqU x) = its.any (eqU x) by simp, any_eqU r fs]
    exact q
  · obtain ⟨its, r, pl, hz⟩ := I.tuple hq
    refine SeqAt.in_tupleAt (eqU x) pl (fun w hw => mem_eqAt rx fx r fs w (by simpa using hw)) ⟨.bl _, H, I, rfl, ?_⟩
    rw [show its.toArray.any (eqU x) = its.any (eqU x) by simp, any_eqU r fs]
    exact q
theorem call_len_seq : CallR X (.builtin "len") (fun xs H Q => ∃ p ys, xs = [.ref p] ∧ (SqL X.K H p ys ∨ SqT X.K H p ys) ∧ Q (.int ys.length) H) := by
  intro pins s σ H xs us Q I r h
  obtain ⟨p, ys, rfl, hq, q⟩ := h
  obtain ⟨u, rfl, rx⟩ := vals1 r
  cases rx
  have hn := line63
  rcases hq with hq | hq
  · obtain ⟨its, r', pl, hz⟩ := I.list hq
    have hlen := r'.length
    exact Calls.call_len_list pl.isList (by simp only [List.size_toArray] <;> omega) ⟨.int ys.length, H, I.tok _, ⟨s.toks + 1, by rw [List.size_toArray, hlen]⟩, q⟩
  · obtain ⟨its, r', pl, hz⟩ := I.tuple hq
    have hlen := r'.length
    exact len_tuple pl (by simp only [List.size_toArray] <;> omega) ⟨.int ys.length, H, I.tok _, ⟨s.toks + 1, by rw [List.size_toArray, hlen]⟩, q⟩
theorem call_len_str : CallR X (.builtin "len") (fun xs H Q => ∃ z, xs = [.str z] ∧ z.length ≤ sizeLine ∧ Q (.int z.length) H) := by
  intro pins s σ H xs us Q I r h
  obtain ⟨z, rfl, hz, q⟩ := h
  obtain ⟨u, rfl, t, rfl⟩ := vals1 r
  have hn := line63
  exact len_str (by omega) ⟨.int z.length, H, I.tok _, ⟨_, rfl⟩, q⟩
theorem call_list_of : CallR X (.type "list") (fun xs H Q => ∃ p ys, xs = [.ref p] ∧ (SqL X.K H p ys ∨ SqT X.K H p ys) ∧ ∀ l, H l = none → Q (.ref l) (upd H l (.lst ys))) := by
  intro pins s σ H xs us Q I r h
  obtain ⟨p, ys, rfl, hq, q⟩ := h
  obtain ⟨u, rfl, rx⟩ := vals1 r
  cases rx
  have fin : ∀ (its : List Value), Vals ys its → ys.length ≤ sizeLine → ∀ (h' : Heap) (c' : Nat), (∀ b o', s.heap.get? b = some o' → h'.get? b = some o') →
      h'.get? s.heap.objs.size = some { cls := .type "list", dict := none, data := .seq its.toArray c', slots := #[] } → EP X pins σ Q (.ref s.heap.objs.size) { s with heap := h' } := fun its r' hz h' c' kp e =>
    ⟨.ref s.heap.objs.size, _, I.laid (t' := s.toks) kp (Nat.le_refl _) (show ObjOk X.prog X.w _ h' _ (.lst ys) from ⟨hz, its, c', r', e⟩), rfl, q _ (I.hok.fresh (Nat.le_refl _))⟩
  rcases hq with hq | hq
  · obtain ⟨its, r', pl, hz⟩ := I.list hq
    have hlen := r'.length
    obtain ⟨o, ho, hc, n, hd⟩ := pl.isList
    exact call_list_seq p (.inl rfl) ho hc hd (fun h' c' kp e => fin its r' hz h' c' kp e) (by simp only [List.size_toArray] <;> omega)
  · obtain ⟨its, r', pl, hz⟩ := I.tuple hq
    have hlen := r'.length
    obtain ⟨o, ho, hc, n, hd⟩ := pl
    exact call_list_seq p (.inr rfl) ho hc hd (fun h' c' kp e => fin its r' hz h' c' kp e) (by simp only [List.size_toArray] <;> omega)
variable {o e : Expr} {es : List Expr} {to : TE} {t : TA} {name : Str} {apos cpos : Pos} {T id : String} {r : V → List V → Hp → VK → Prop}
end
def MtM (X : Cx) (id : String) (r : V → List V → Hp → VK → Prop) : Prop :=
  ∀ (pins : List (Addr × Obj)) (s : Shared) (σ : St) (H : Hp) (x : V) (xs : List V) (v : Value) (us : List Value) (Q : VK), Inv X pins σ H s → RelV x v → Vals xs us → r x xs H Q →
    wpAny (model X.prog X.w) X.A (call (.builtin id) (v :: us)) (EP X pins σ Q) X.xe s

theorem Vals.one : ∀ {x : V} {us : List Value}, Vals [x] us → ∃ u, us = [u] ∧ RelV x u
  | _, _, .cons r .nil => ⟨_, rfl, r⟩
theorem Vals.two : ∀ {x y : V} {us : List Value}, Vals [x, y] us → ∃ u v, us = [u, v] ∧ RelV x u ∧ RelV y v
  | _, _, _, .cons r (.cons q .nil) => ⟨_, _, rfl, r, q⟩
theorem Vals.zero : ∀ {us : List Value}, Vals [] us → us = []
  | _, .nil => rfl
theorem Vals.reverse {xs : List V} {us : List Value} (h : Vals xs us) : Vals xs.reverse us.reverse := by
  induction h with
  | nil => exact .nil
  | cons r t ih => rw [List.reverse_cons, List.reverse_cons]; exact Vals.append ih (.cons r .nil)
section
variable {X : Cx} {pins : List (Addr × Obj)} {σ : St} {H : Hp} {s : Shared} {l b : Addr} {xs ys zs : List V}
theorem Inv.lset {its its' : List Value} {n : Nat} {f : Array Value → Array Value} {t' : Nat} (I : Inv X pins σ H s) (hH : H l = some (.lst xs))
    (e : s.heap.get? l = some { cls := .type "list", data := .seq its.toArray n }) (hf : f its.toArray = its'.toArray) (hv : Vals ys its') (hz : ys.length ≤ sizeLine) :
    Inv X pins σ (upd H l (.lst ys)) { s with heap := s.heap.update l (Obj.mapSeq f), toks := t' } := by
  have q := PySem.IsL.update e f
  rw [hf] at q
  refine I.write (x := l) (e := l) (by rw [hH]; exact trivial) (.inl rfl) (fun b' u hb hu => (Heap.get?_update_other s.heap (Obj.mapSeq f) (Ne.symm hb)).trans hu) ⟨_, q⟩ ?_
  exact ⟨hz, its', _, hv, q⟩
theorem Inv.lnew {its : List Value} {t' : Nat} (I : Inv X pins σ H s) (hv : Vals ys its) (hz : ys.length ≤ sizeLine) :
    Inv X pins σ (upd H s.heap.objs.size (.lst ys)) { s with heap := s.heap.push { cls := .type "list", data := .seq its.toArray }, toks := t' } :=
  I.laid (fun _ _ q => Heap.get?_push_of_some _ q) (Nat.le_refl _) ⟨hz, its, 0, hv, Heap.get?_push_size _ rfl⟩
theorem Inv.fresh (I : Inv X pins σ H s) : H s.heap.objs.size = none := I.hok.fresh (Nat.le_refl _)
theorem Inv.lstM (I : Inv X pins σ H s) (hH : H l = some (.lst xs)) : xs.length ≤ sizeLine ∧ ∃ (its : List Value) (n : Nat), Vals xs its ∧ xs.length = its.length ∧ s.heap.get? l = some { cls := .type "list", data := .seq its.toArray n } := by
  obtain ⟨z, its, n, r, e⟩ := I.hok l _ hH
  exact ⟨z, its, n, r, r.length, e⟩

end
section
variable {X : Cx}
def rAppend : V → List V → Hp → VK → Prop := fun x vs H Q => ∃ l xs y, x = .ref l ∧ vs = [y] ∧ H l = some (.lst xs) ∧ xs.length < sizeLine ∧ Q .non (upd H l (.lst (xs ++ [y])))
theorem mt_append : MtM X "list.append" rAppend := by
  intro pins s σ H x vs v us Q I rx rv h
  obtain ⟨l, xs, y, rfl, rfl, hH, hz, q⟩ := h
  cases rx
  obtain ⟨u, rfl, ru⟩ := rv.one
  obtain ⟨z, its, n, r, hl, e⟩ := I.lstM hH
  refine call_meets F.slot_list_append ⟨_, e, rfl⟩ F.entry_list_append (F.args_list_append_2 _ _) (PySem.list_append l its.toArray n u (by rw [List.size_toArray]; omega)) ⟨e, ?_⟩
  refine ⟨.non, _, I.lset (its' := its ++ [u]) hH e (by simp) (r.append (.cons ru .nil)) ?_, rfl, q⟩
  rw [List.length_append, List.length_singleton]
  omega

end
end L2
namespace Att
open PySem PySem.W PySem.Calls PyProof.Rows
theorem ints_of_wellAll {P : Params} {h : Heap} : ∀ (ns : List Int) (vs : List Value), WellAll P h vs (ns.map WData.int) → IntsAre vs ns := by
  intro ns
  induction ns with
  | nil =>
    intro vs w
    rw [List.map_nil] at w
    cases w
    exact .nil
  | cons n ns ih =>
    intro vs w
    rw [List.map_cons] at w
    cases w with
    | cons a b =>
      cases a
      exact .cons _ _ (ih _ b)

theorem script_of {l : OpenLaw} {n : Nat} (hn : l.most = some n) {P : Params} {h : Heap} {args : List WData} {vals : List Value}
    (hpre : l.row.toRowW.claim.pre args = true) (hwl : WellAll P h vals args) :
    ∃ a vs ns, vals = [Value.ref a] ∧ args = [WData.list (ns.map WData.int)] ∧ h.get? a = some { cls := .type "list", data := .seq vs.toArray } ∧ IntsAre vs ns ∧ ns.length ≤ n := by
  have hsh : WShape.hasAll [] args [.list .int] = true := (pre_splitW hpre).1
  have hc : l.pre.holds [] { args := args } = true := (pre_splitW hpre).2
  obtain ⟨d, r, rfl, h1, h2⟩ := hasAllW_cons hsh
  obtain rfl := hasAllW_nil h2
  obtain ⟨xs, rfl, h3⟩ := hasW_list h1
  obtain ⟨ns, rfl⟩ := items_int h3
  have hlen : ns.length ≤ n := by
    unfold OpenLaw.pre at hc
    have h4 : (WTm.not (.lt (.lit (.int (n : Int))) (.len (.arg 0)))).holds [] { args := [.list (ns.map .int)] } = true := by
      have h4 := (holds_andW hc).1
      rw [hn] at h4
      exact h4
    have h5 := condW_of h4 (w_not (w_lt w_lit (w_len_list (w_arg rfl))))
    rw [List.length_map] at h5
    refine Nat.le_of_not_lt fun q => ?_
    have q' : (n : Int) < ((ns.length : Nat) : Int) := by omega
    first
      | (rw [decide_eq_true q'] at h5; exact absurd h5 (by decide))
      | (simp at h5; omega)
  cases hwl with
  | cons w1 w2 =>
    cases w2
    cases w1 with
    | list ho hall => exact ⟨_, _, ns, rfl, rfl, ho, ints_of_wellAll ns _ hall, hlen⟩

theorem post_true (l : OpenLaw) (args : List WData) : l.row.toRowW.claim.post args (.bool true) args = true :=
  postW_of (r := l.row.toRowW) (X := (true == true))
    (show WShape.has [] (.bool true) .bool = true by first | rfl | decide | simp [WShape.has, WShape.arms, WShape.armsAll])
    (show (WTm.eq .res (.lit (.bool true))).value [] { args := args, res := some (.bool true), after := args } = some (.bool (true == true)) from w_eq_bool (w_res rfl) w_lit) rfl

end Att
namespace L2
open PySem PySem.Spec PyProof.Rows
theorem vals_ints : ∀ {vs : List Value} {ns : List Int}, IntsAre vs ns → Vals (ns.map V.int) vs
  | _, _, .nil => .nil
  | _, _, .cons n t h => .cons ⟨t, rfl⟩ (vals_ints h)

/-- nothing is tracked but the script, known to the object (or it is an object of the module) -/
def Only (H : Hp) : Prop := ∀ b, H b = none ∨ ∃ o xs, H b = some (.frz o (.lst xs))

def defArgs (s : Stmt) : Arguments := match s with
  | .FunctionDef _ a _ _ _ _ _ _ _ _ => a
  | _ => { posonlyargs := [], args := [], vararg := none, kwonlyargs := [], kw_defaults := [], kwarg := none, defaults := [] }
def defBody (s : Stmt) : List Stmt := match s with
  | .FunctionDef _ _ b _ _ _ _ _ _ _ => b
  | _ => []
def defScope (s : Stmt) : Scope := match s with
  | .FunctionDef _ _ _ _ _ _ sc _ _ _ => sc
  | _ => { kind := .function, names := [], isGenerator := false, isCoroutine := false }

abbrev CX0 : CXT := fun _ _ _ _ _ _ => False
structure Fun (K : PySem.W.Frag) (x qual : Str) (st : Stmt) (f : Addr) (fd : FuncData) : Prop where
  ex : ∃ (oc : Value) (od : Option Addr) (kV doc pm : Value) (an : Option Addr) (cdv ct : Value) (osl : Array (Option Value)),
    fd = PySem.W.fnOf x qual (defArgs st) (defBody st) (defScope st) .none kV doc pm an cdv ct ∧ K.lookup f = some ⟨oc, od, .func fd, osl⟩ ∧ PySem.W.codeIn K cdv qual = true
  kp : PySem.W.keepIn K (.ref f) = true
section
variable {P : Program} {w : World} {K : PySem.W.Frag} {mg : Str → Option Value} {base : Heap}
/-- THE RULE for a def: its body as a term of rules, and the reading of that term -/
theorem Fun.ok {x qual : Str} {st : Stmt} {f : Addr} {fd : FuncData} {N ps : List Str} {k : Nat} {sp : Sp} (F : Fun K x qual st f fd) (S : FnScope N ps (defScope st)) (len : ∀ vs H Q E, sp vs H Q E → vs.length = ps.length)
    (hbody : ∀ (cdv : Value) (A : Around) (outer : List Env) (s : Shared) (H : Hp) (vs : List V) (Q : VK) (E : XK), Room k (A.deeper (envOfC qual (defScope st) s.heap.objs.size f cdv)) → sp vs H Q E →
      ∃ t, PSs (cxOf CX0 P w K mg base N qual (defScope st) f cdv A outer s H E).nox (defBody st) t ∧ t { nx := fun _ H' => Q .non H', rt := Q } (start N vs) H) : FnOk P w K mg base CX0 (k + 1) f fd ps sp := by
  obtain ⟨oc, od, kV, doc, pm, an, cdv, ct, osl, rfl, lk, hcd⟩ := F.ex
  refine fn_of lk hcd S len fun A outer s H vs Q E hr hsp => ?_
  obtain ⟨t, h, q⟩ := hbody cdv A outer s H vs Q E hr hsp
  exact ⟨t, h.nox, q⟩
/-- how its arguments bind (no defaults): h is «fun _ _ _ _ _ _ us hl => match us, hl with | [_, _], _ => rfl», one _ a parameter -/
theorem Fun.binds {x qual : Str} {st : Stmt} {f : Addr} {fd : FuncData} {ps : List Str} (F : Fun K x qual st f fd)
    (h : ∀ (kV doc pm : Value) (an : Option Addr) (cdv ct : Value) (us : List Value), us.length = ps.length → bindArgs (PySem.W.fnOf x qual (defArgs st) (defBody st) (defScope st) .none kV doc pm an cdv ct) ⟨us, []⟩ = pure (ps.zip us)) : Binds K fd ps [] := by
  obtain ⟨oc, od, kV, doc, pm, an, cdv, ct, osl, rfl, lk, hcd⟩ := F.ex
  exact .all (h kV doc pm an cdv ct)
theorem fun_mk {x qual : Str} {st : Stmt} {f : Addr} {oc : Value} {od an : Option Addr} {osl : Array (Option Value)} {kV doc pm cdv ct : Value} (l : K.lookup f = some ⟨oc, od, .func (PySem.W.fnOf x qual (defArgs st) (defBody st) (defScope st) .none kV doc pm an cdv ct), osl⟩)
    (c : PySem.W.codeIn K cdv qual = true) (k : PySem.W.keepIn K (.ref f) = true) : Fun K x qual st f (PySem.W.fnOf x qual (defArgs st) (defBody st) (defScope st) .none kV doc pm an cdv ct) := ⟨⟨oc, od, kV, doc, pm, an, cdv, ct, osl, rfl, l, c⟩, k⟩
end
section
variable {X : Cx}
theorem pv (i : Nat) {x : Str} {pos : Pos} (hN : X.N[i]? = some x := by rfl) (hv : Vis X.env.scope x := by first | exact Or.inl rfl | exact Or.inr (Or.inl rfl) | exact Or.inr (Or.inr rfl)) (hd : (x == ("__debug__" : Str)) = false := by decide)
    (hcd : (x == ("__classdict__" : Str)) = false := by decide) : PE X (.Name x pos) (tVar i) := pe_var hN hv hd hcd
end
/-- all that was tracked is as it was -/
def Same (H H' : Hp) : Prop := ∀ b o, H b = some o → H' b = some o
theorem Same.refl (H : Hp) : Same H H := fun _ _ h => h
theorem Same.trans {H H1 H2 : Hp} (a : Same H H1) (b : Same H1 H2) : Same H H2 := fun c o h => b c o (a c o h)
theorem Same.free {H H' : Hp} (e : Same H H') {l : Addr} (h : H' l = Option.none) : H l = Option.none := by
  cases q : H l with
  | none => rfl
  | some o =>
    rw [e l o q] at h
    cases h
theorem Same.seq {K : PySem.W.Frag} {H H' : Hp} {a : Addr} {xs : List V} (e : Same H H') (h : SqL K H a xs) : SqL K H' a xs := by
  rcases h with (h | ⟨o, h⟩) | h
  · exact .inl (.inl (e _ _ h))
  · exact .inl (.inr ⟨o, e _ _ h⟩)
  · exact .inr h

end L2
set_option Elab.async false
set_option linter.all false
set_option maxRecDepth 100000
set_option maxHeartbeats 4000000
namespace Mi
open PySem
inductive PV where
  | non | bl (b : Bool) | int (i : Int) | str (x : Str) | tup (l : List PV) | lst (l : List PV)
  | exc (c : Nat)            -- an exception that was caught, by its class
  | dic0                     -- an empty dict
  | ins (c : Nat)            -- an instance without attributes, by its class
  | own (l : List PV)        -- a list that one name alone holds (a slot's value, never an expression's)

inductive R (α : Type) where
  | ok (a : α) | exc (c : Nat) | stuck

def R.bind {α β : Type} (r : R α) (f : α → R β) : R β := match r with
  | .ok a => f a
  | .exc c => .exc c
  | .stuck => .stuck
@[simp] theorem R.bind_ok {α β : Type} (a : α) (f : α → R β) : (R.ok a).bind f = f a := rfl
@[simp] theorem R.bind_exc {α β : Type} (c : Nat) (f : α → R β) : (R.exc c : R α).bind f = .exc c := rfl
@[simp] theorem R.bind_stuck {α β : Type} (f : α → R β) : (R.stuck : R α).bind f = .stuck := rfl

abbrev MEnv := List (Option PV)
abbrev FE := MEnv → R PV
abbrev FA := MEnv → R (List PV)
abbrev FT := MEnv → R Bool

inductive SR where
  | next (ρ : MEnv) | ret (v : PV) | brk (ρ : MEnv) | cont (ρ : MEnv) | exc (c : Nat) (ρ : MEnv) | stuck
abbrev FS := MEnv → SR

def asVal : Option PV → R PV
  | some (.own _) => .stuck
  | some v => .ok v
  | none => .stuck
def getV : MEnv → Nat → R PV
  | [], _ => .stuck
  | o :: _, 0 => asVal o
  | _ :: r, n + 1 => getV r n
/-- bits of an int -/
abbrev nb (i : Int) : Nat := Builtin.Int.intBits i

mutual
def eqPV : PV → PV → Bool
  | .non, .non => true
  | .bl a, .bl b => a == b
  | .bl a, .int b => (if a then 1 else 0) == b
  | .int a, .bl b => a == (if b then 1 else 0)
  | .int a, .int b => a == b
  | .str a, .str b => a == b
  | .tup a, .tup b => eqPVs a b
  | .lst a, .lst b => eqPVs a b
  | _, _ => false
def eqPVs : List PV → List PV → Bool
  | [], [] => true
  | x :: xs, y :: ys => eqPV x y && eqPVs xs ys
  | _, _ => false
end
/-- what may be compared with ==, n lists and tuples deep at most -/
def cmpOkN : Nat → PV → Bool
  | _, .non => true
  | _, .bl _ => true
  | _, .int _ => true
  | _, .str _ => true
  | n + 1, .tup l => l.all (cmpOkN n)
  | n + 1, .lst l => l.all (cmpOkN n)
  | _, _ => false
abbrev cmpOk (p : PV) : Bool := cmpOkN 6 p
def truthP : PV → R Bool
  | .bl b => .ok b
  | .int i => .ok (i != 0)
  | .non => .ok false
  | .lst l => .ok (!l.isEmpty)
  | .str z => if z.length ≤ sizeLine then .ok ((z.length : Int) != 0) else .stuck
  | _ => .stuck

abbrev bitsMax : Nat := 134217728
def oAdd : PV → PV → R PV
  | .int a, .int b => .ok (.int (a + b))
  | .str a, .str b => if a.length + b.length ≤ sizeLine then .ok (.str (a ++ b)) else .stuck
  | .lst a, .lst b => if a.length + b.length ≤ sizeLine then .ok (.lst (a ++ b)) else .stuck
  | .tup a, .tup b => if (a.length ≠ 0 ∧ b.length ≠ 0) ∧ a.length + b.length ≤ sizeLine then .ok (.tup (a ++ b)) else .stuck
  | _, _ => .stuck
def oSub : PV → PV → R PV
  | .int a, .int b => .ok (.int (a - b))
  | _, _ => .stuck
def oMul : PV → PV → R PV
  | .int a, .int b => if nb a ≤ 64 ∨ nb b ≤ 64 ∨ nb a + nb b ≤ bitsMax then .ok (.int (a * b)) else .stuck
  | _, _ => .stuck
def oDiv : PV → PV → R PV
  | .int a, .int b => if 0 < b ∧ nb b ≤ 9000 then .ok (.int (a / b)) else .stuck
  | _, _ => .stuck
def oMod : PV → PV → R PV
  | .int a, .int b => if 0 < b then .ok (.int (a % b)) else .stuck
  | _, _ => .stuck
def oPow : PV → PV → R PV
  | .int a, .int b => if 0 ≤ b ∧ b ≤ 1000000 ∧ nb a ≤ 64 then .ok (.int (a ^ b.toNat)) else .stuck
  | _, _ => .stuck
def oShl : PV → PV → R PV
  | .int a, .int b => if 0 ≤ b ∧ nb a + b ≤ 134217728 then .ok (.int (a * 2 ^ b.toNat)) else .stuck
  | _, _ => .stuck
def oShr : PV → PV → R PV
  | .int a, .int b => if 0 ≤ b then .ok (.int (a / 2 ^ b.toNat)) else .stuck
  | _, _ => .stuck
def oAnd : PV → PV → R PV
  | .int a, .int b => .ok (.int (Builtin.bitAnd a b))
  | _, _ => .stuck
def oOr : PV → PV → R PV
  | .int a, .int b => .ok (.int (Builtin.bitOr a b))
  | _, _ => .stuck
def oXor : PV → PV → R PV
  | .int a, .int b => .ok (.int (Builtin.bitXor a b))
  | _, _ => .stuck
def oNeg : PV → R PV
  | .int a => .ok (.int (-a))
  | _ => .stuck
def cLt : PV → PV → R PV
  | .int a, .int b => .ok (.bl (decide (a < b)))
  | _, _ => .stuck
def cLe : PV → PV → R PV
  | .int a, .int b => .ok (.bl (decide (a ≤ b)))
  | _, _ => .stuck
def cGt : PV → PV → R PV
  | .int a, .int b => .ok (.bl (decide (b < a)))
  | _, _ => .stuck
def cGe : PV → PV → R PV
  | .int a, .int b => .ok (.bl (decide (b ≤ a)))
  | _, _ => .stuck
/-- an empty dict, a text -/
def dicStr : PV → PV → Bool
  | .dic0, .str _ => true
  | _, _ => false
def cEq (a b : PV) : R PV := if cmpOk a && cmpOk b then .ok (.bl (eqPV a b)) else if dicStr a b then .ok (.bl false) else .stuck
def cNe (a b : PV) : R PV := if cmpOk a && cmpOk b then .ok (.bl (!eqPV a b)) else .stuck
/-- is None, is not None -/
def isNone : PV → Bool
  | .non => true
  | _ => false
def cIsN (a : PV) : R PV := .ok (.bl (isNone a))
def cNotN (a : PV) : R PV := .ok (.bl (!isNone a))
mutual
def flatP : PV → Bool
  | .non => true
  | .bl _ => true
  | .int _ => true
  | .str _ => true
  | _ => false
end
/-- in a tuple or list of flat items -/
def cIn (x y : PV) : R PV := match y with
  | .tup l => if flatP x && l.all flatP then .ok (.bl (l.any fun z => eqPV z x)) else .stuck
  | .lst l => if flatP x && l.all flatP then .ok (.bl (l.any fun z => eqPV z x)) else .stuck
  | .str z => (match x with
    | .str y => .ok (.bl (!(Builtin.Str.occurrences z y 0 z.length 1).isEmpty))
    | _ => .stuck)
  | _ => .stuck
/-- the place that an index means -/
def ixP (n : Nat) (i : Int) : Option Nat := if 0 ≤ i then (if i < n then some i.toNat else none) else if -(n : Int) ≤ i then some (i + n).toNat else none
def itemP (l : List PV) (i : Int) : R PV := match ixP l.length i with
  | some j => (match l[j]? with | some v => .ok v | none => .stuck)
  | none => .stuck
def oItem : PV → PV → R PV
  | .tup l, .int i => itemP l i
  | .lst l, .int i => itemP l i
  | .str z, .int i => (match ixP z.cps.toList.length i with
    | some j => (match z.cps.toList[j]? with | some c => if z.length ≤ sizeLine then .ok (.str ⟨#[c]⟩) else .stuck | none => .stuck)
    | none => .stuck)
  | _, _ => .stuck
def bLen : List PV → R PV
  | [.tup l] => .ok (.int l.length)
  | [.lst l] => .ok (.int l.length)
  | [.str z] => if z.length ≤ sizeLine then .ok (.int z.length) else .stuck
  | _ => .stuck
def bAbs : List PV → R PV
  | [.int i] => .ok (.int (if i < 0 then -i else i))
  | _ => .stuck
def bMin : List PV → R PV
  | [.int i, .int j] => .ok (.int (if j < i then j else i))
  | _ => .stuck
def bMax : List PV → R PV
  | [.int i, .int j] => .ok (.int (if j > i then j else i))
  | _ => .stuck
def bInt : List PV → R PV
  | [.int i] => .ok (.int i)
  | [.bl k] => .ok (.int (if k then 1 else 0))
  | _ => .stuck
def bBitLength : PV → R PV
  | .int i => .ok (.int (nb i))
  | _ => .stuck
def bList : List PV → R PV
  | [.tup l] => .ok (.lst l)
  | [.lst l] => .ok (.lst l)
  | _ => .stuck
def bTuple : List PV → R PV
  | [.tup l] => .ok (.tup l)
  | [.lst l] => .ok (.tup l)
  | _ => .stuck
/-- the builtin types that isinstance is asked of -/
inductive Ty where | int | bool | str | tuple | list | dict
def isTy : PV → Ty → Option Bool
  | .non, _ => some false
  | .bl _, .int => some true
  | .bl _, .bool => some true
  | .bl _, _ => some false
  | .int _, .int => some true
  | .int _, _ => some false
  | .str _, .str => some true
  | .str _, _ => some false
  | .tup _, .tuple => some true
  | .tup _, _ => some false
  | .lst _, .list => some true
  | .lst _, _ => some false
  | .dic0, .dict => some true
  | .dic0, _ => some false
  | _, _ => none

def fVar (i : Nat) : FE := fun ρ => getV ρ i
def fC (v : PV) : FE := fun _ => .ok v
def fBin (o : PV → PV → R PV) (a b : FE) : FE := fun ρ => (a ρ).bind fun x => (b ρ).bind fun y => o x y
def fUn (o : PV → R PV) (a : FE) : FE := fun ρ => (a ρ).bind o
/-- and, or, not of bools, as values -/
def oBool : PV → R Bool
  | .bl b => .ok b
  | _ => .stuck
def fAnd (a b : FE) : FE := fun ρ => (a ρ).bind fun x => (oBool x).bind fun c => if c then b ρ else .ok (.bl false)
def fOr (a b : FE) : FE := fun ρ => (a ρ).bind fun x => (oBool x).bind fun c => if c then .ok (.bl true) else b ρ
def fNot (a : FE) : FE := fun ρ => (a ρ).bind fun x => (oBool x).bind fun c => .ok (.bl (!c))
/-- x < y < z -/
def fChain (o o' : PV → PV → R PV) (a b c : FE) : FE := fun ρ => (a ρ).bind fun x => (b ρ).bind fun y => (o x y).bind fun r => (oBool r).bind fun k =>
  if k then (c ρ).bind fun z => o' y z else .ok (.bl false)
def fIf (t : FT) (a b : FE) : FE := fun ρ => (t ρ).bind fun c => if c then a ρ else b ρ
def aNil : FA := fun _ => .ok []
def aCons (a : FE) (r : FA) : FA := fun ρ => (a ρ).bind fun x => (r ρ).bind fun xs => .ok (x :: xs)
def fTup (a : FA) : FE := fun ρ => (a ρ).bind fun xs => if xs.length ≤ sizeLine then .ok (.tup xs) else .stuck
def fLst (a : FA) : FE := fun ρ => (a ρ).bind fun xs => if xs.length ≤ sizeLine then .ok (.lst xs) else .stuck
/-- a call: of a def of the text (by its mirror), of a builtin -/
def fCall (F : List PV → R PV) (a : FA) : FE := fun ρ => (a ρ).bind F
def fIsinst (t : Ty) (a : FE) : FE := fun ρ => (a ρ).bind fun x => match isTy x t with | some b => .ok (.bl b) | none => .stuck
/-- error classes by number: c stands under d; 0 is the base of all -/
def under (c d : Nat) : Bool := c == d || d == 0
/-- isinstance(x, the error class d): of None, and of an error whose class is among ks -/
def fIsExc (ks : List Nat) (d : Nat) (a : FE) : FE := fun ρ => (a ρ).bind fun x => match x with
  | .exc c => if ks.contains c then .ok (.bl (under c d)) else .stuck
  | .non => .ok (.bl false)
  | _ => .stuck
/-- isinstance(x, ValueError) -/
def fIsVal (ks : List Nat) (a : FE) : FE := fun ρ => (a ρ).bind fun x => match x with
  | .exc c => if ks.contains c then .ok (.bl true) else .stuck
  | .non => .ok (.bl false)
  | _ => .stuck
def tVal (a : FE) : FT := fun ρ => (a ρ).bind truthP
def tAnd (a b : FT) : FT := fun ρ => (a ρ).bind fun c => if c then b ρ else .ok false
def tOr (a b : FT) : FT := fun ρ => (a ρ).bind fun c => if c then .ok true else b ρ
def tNot (a : FT) : FT := fun ρ => (a ρ).bind fun c => .ok (!c)
def slP (n d : Nat) : Option Int → Nat
  | none => d
  | some v => if v < 0 then (v + (n : Int)).toNat else min v.toNat n
def cutP (l : List PV) (lo hi : Option Int) : List PV := (l.drop (slP l.length 0 lo)).take (slP l.length l.length hi - slP l.length 0 lo)
abbrev FO := MEnv → R (Option Int)
def oNone : FO := fun _ => .ok none
def oSome (a : FE) : FO := fun ρ => (a ρ).bind fun x => match x with | .int i => .ok (some i) | _ => .stuck
def sCut (z : Str) (lo hi : Option Int) : Str := ⟨((z.cps.toList.drop (slP z.cps.toList.length 0 lo)).take (slP z.cps.toList.length z.cps.toList.length hi - slP z.cps.toList.length 0 lo)).toArray⟩
def oCut (x : PV) (lo hi : Option Int) : R PV := match x with
  | .str z => if z.length ≤ sizeLine then .ok (.str (sCut z lo hi)) else .stuck
  | .lst l => .ok (.lst (cutP l lo hi))
  | _ => .stuck
def fCut (a : FE) (l h : FO) : FE := fun ρ => (a ρ).bind fun x => (l ρ).bind fun lo => (h ρ).bind fun hi => oCut x lo hi

def sNext : FS := fun ρ => .next ρ
def sSeq (f g : FS) : FS := fun ρ => match f ρ with
  | .next ρ' => g ρ'
  | o => o
def sBreak : FS := fun ρ => .brk ρ
def sCont : FS := fun ρ => .cont ρ
def ofR (r : R PV) (ρ : MEnv) (k : PV → SR) : SR := match r with
  | .ok v => k v
  | .exc c => .exc c ρ
  | .stuck => .stuck
def sRet (a : FE) : FS := fun ρ => ofR (a ρ) ρ fun v => .ret v
def sRetN : FS := fun _ => .ret .non
def sExpr (a : FE) : FS := fun ρ => ofR (a ρ) ρ fun _ => .next ρ
def sSet (i : Nat) (a : FE) : FS := fun ρ => ofR (a ρ) ρ fun v => .next (ρ.set i (some v))
def sIf (t : FT) (f g : FS) : FS := fun ρ => match t ρ with
  | .ok c => if c then f ρ else g ρ
  | .exc c => .exc c ρ
  | .stuck => .stuck
def sRaise (c : Nat) : FS := fun ρ => .exc c ρ
/-- what stands in a text's braces -/
def isSmallI : R PV → Bool
  | .ok (.int i) => decide (i.natAbs < 18446744073709551616)
  | _ => false
/-- raise C(a text), where k holds (what stands in the text's braces is small) -/
def sRaiseT (k : MEnv → Bool) (c : Nat) : FS := fun ρ => if k ρ then .exc c ρ else .stuck
/-- a loop over items -/
def forL (i : Nat) (body : FS) : List PV → FS
  | [], ρ => .next ρ
  | x :: r, ρ => match body (ρ.set i (some x)) with
    | .next ρ' => forL i body r ρ'
    | .cont ρ' => forL i body r ρ'
    | .brk ρ' => .next ρ'
    | o => o
def sFor (i : Nat) (it : FA) (body : FS) : FS := fun ρ => match it ρ with
  | .ok l => forL i body l ρ
  | .exc c => .exc c ρ
  | .stuck => .stuck
/-- what a for walks -/
def iSeq (a : FE) : FA := fun ρ => (a ρ).bind fun x => match x with
  | .lst l => .ok l
  | .tup l => .ok l
  | _ => .stuck
/-- how many, for range(lo, hi, st) -/
def rangeN (lo hi st : Int) : Nat := (if st > 0 then (if lo < hi then (hi - lo - 1) / st + 1 else 0) else (if lo > hi then (lo - hi - 1) / (-st) + 1 else 0)).toNat
def rangeP (lo hi st : Int) : List PV := (List.range (rangeN lo hi st)).map fun (k : Nat) => .int (lo + (k : Int) * st)
def smallI (i : Int) : Prop := -(2 ^ 60) ≤ i ∧ i < 2 ^ 60
instance (i : Int) : Decidable (smallI i) := inferInstanceAs (Decidable (_ ∧ _))
def iRange (a : FA) : FA := fun ρ => (a ρ).bind fun xs => match xs with
  | [.int hi] => if smallI hi then .ok (rangeP 0 hi 1) else .stuck
  | [.int lo, .int hi] => if smallI lo ∧ smallI hi then .ok (rangeP lo hi 1) else .stuck
  | [.int lo, .int hi, .int st] => if smallI lo ∧ smallI hi ∧ smallI st ∧ st ≠ 0 then .ok (rangeP lo hi st) else .stuck
  | _ => .stuck
/-- try: body; except the error class d as n: x = n -/
def sTryAs (body : FS) (ks : List Nat) (d n x : Nat) : FS := fun ρ => match body ρ with
  | .exc c ρ' => if ks.contains c && under c d then .next (((ρ'.set n (some (.exc c))).set x (some (.exc c))).set n none) else .stuck
  | o => o

def start (n : Nat) (vs : List PV) : MEnv := vs.map some ++ List.replicate (n - vs.length) none
def runF (n : Nat) (b : FS) (vs : List PV) : R PV := match b (start n vs) with
  | .next _ => .ok .non
  | .ret v => .ok v
  | .exc c _ => .exc c
  | _ => .stuck
end Mi
set_option Elab.async false
set_option linter.all false
set_option autoImplicit false
set_option maxRecDepth 100000
set_option maxHeartbeats 4000000
namespace Mi
open PySem
/-- from here on the list in slot i is as all others -/
def sFreeze (i : Nat) (g : FS) : FS := fun ρ => match ρ[i]? with
  | some (some (.own l)) => g (ρ.set i (some (.lst l)))
  | _ => g ρ
/-- name = a new list -/
def sOwn (i : Nat) (a : FE) : FS := fun ρ => ofR (a ρ) ρ fun v => match v with
  | .lst l => .next (ρ.set i (some (.own l)))
  | _ => .stuck
/-- name.append(value), of a list that the name alone holds -/
def sAppend (i : Nat) (g : FA) : FS := fun ρ => match ρ[i]? with
  | some (some (.own l)) => (match g ρ with
    | .ok [v] => if l.length < sizeLine then .next (ρ.set i (some (.own (l ++ [v])))) else .stuck
    | .ok _ => .stuck
    | .exc c => .exc c ρ
    | .stuck => .stuck)
  | _ => .stuck
end Mi
set_option Elab.async false
set_option linter.all false
set_option autoImplicit false
set_option maxRecDepth 100000
set_option maxHeartbeats 4000000
namespace Mi
open PySem
def Fine (f : Obj → Obj) : Prop := ∀ o, (f o).cls = o.cls ∧ (f o).dict = o.dict ∧ (f o).isFreed = o.isFreed
def Kd (e : Addr) (h h' : Heap) : Prop := ∀ o, h.get? e = some o → ∃ o', h'.get? e = some o' ∧ o'.cls = o.cls ∧ o'.dict = o.dict
theorem Kd.refl (e : Addr) (h : Heap) : Kd e h h := fun o q => ⟨o, q, rfl, rfl⟩
theorem Kd.trans {e : Addr} {h h1 h2 : Heap} (a : Kd e h h1) (b : Kd e h1 h2) : Kd e h h2 := fun o q => by
  obtain ⟨o1, q1, c1, d1⟩ := a o q
  obtain ⟨o2, q2, c2, d2⟩ := b o1 q1
  exact ⟨o2, q2, c2.trans c1, d2.trans d1⟩
inductive Tame : {α : Type} → Sem α → Prop where
  | pure {α : Type} (a : α) : Tame (.pure a)
  | raise {α : Type} (e : Value) : Tame (.raise e : Sem α)
  | unsupported {α : Type} (w : String) : Tame (.unsupported w : Sem α)
  | rule {α : Type} {t : String} {k : Unit → Sem α} (h : Tame (k ())) : Tame (.rule t k)
  | load {α : Type} {a : Addr} {p : Option Value} {k : Obj → Sem α} (h : ∀ o, Tame (k o)) : Tame (.load a p k)
  | update {α : Type} {a : Addr} {p : Option Value} {f : Obj → Obj} {k : Unit → Sem α} (hf : Fine f) (h : Tame (k ())) : Tame (.update a p f k)
  | alloc {α : Type} {o : Obj} {k : Addr → Sem α} (h : ∀ a, Tame (k a)) : Tame (.alloc o k)
  | register {α : Type} {a : Addr} {k : Unit → Sem α} : Tame (.register a k)
  | stack {α : Type} {k : List (Code × Pos) → Sem α} (h : ∀ a, Tame (k a)) : Tame (.stack k)
theorem Tame.bind {α β : Type} {t : Sem α} {f : α → Sem β} (h : Tame t) (g : ∀ a, Tame (f a)) : Tame (t >>= f) := by
  show Tame (t.bind f)
  induction h with
  | pure a => exact g a
  | raise e => exact .raise e
  | unsupported w => exact .unsupported w
  | rule _ ih => exact .rule ih
  | load _ ih => exact .load fun o => ih o
  | update hf _ ih => exact .update hf ih
  | alloc _ ih => exact .alloc fun a => ih a
  | register => exact .register
  | stack _ ih => exact .stack fun a => ih a
theorem kd_update {e a : Addr} {h : Heap} {f : Obj → Obj} (hf : Fine f) : Kd e h (h.update a f) := fun o q => by
  by_cases ha : a = e
  · subst ha
    have nf : o.isFreed = false := (Heap.get?_some_iff.mp q).2
    exact ⟨f o, Heap.get?_update_self f q (by rw [(hf o).2.2]; exact nf), (hf o).1, (hf o).2.1⟩
  · exact ⟨o, (Heap.get?_update_other _ _ ha).trans q, rfl, rfl⟩
theorem Tame.keep {α : Type} {M : Model} {Γ : Ctx} {t : Sem α} (h : Tame t) (e : Addr) : ∀ {Q : α → Pos → Shared → Prop} {E : Value → Pos → Shared → Prop} {p : Pos} {s : Shared}, Sem.wp M Γ t Q E p s →
    Sem.wp M Γ t (fun a p s' => Q a p s' ∧ Kd e s.heap s'.heap) (fun x p s' => E x p s' ∧ Kd e s.heap s'.heap) p s := by
  induction h with
  | pure a => intro Q E p s w; exact ⟨w, Kd.refl _ _⟩
  | raise x => intro Q E p s w; exact ⟨w, Kd.refl _ _⟩
  | unsupported x => intro Q E p s w; exact w.elim
  | rule _ ih => intro Q E p s w; exact ih w
  | load _ ih => intro Q E p s w; obtain ⟨o, h1, h2⟩ := w; exact ⟨o, h1, ih o h2⟩
  | update hf _ ih =>
    intro Q E p s w
    obtain ⟨h1, h2⟩ := w
    exact ⟨h1, Sem.wp_mono M Γ _ (fun a p s' ⟨q, k⟩ => ⟨q, (kd_update hf).trans k⟩) (fun x p s' ⟨q, k⟩ => ⟨q, (kd_update hf).trans k⟩) _ _ (ih h2)⟩
  | alloc _ ih =>
    intro Q E p s w
    have k0 : ∀ (o : Obj), Kd e s.heap (s.heap.push o) := fun o o' q => ⟨o', Heap.get?_push_of_some _ q, rfl, rfl⟩
    exact Sem.wp_mono M Γ _ (fun a p s' ⟨q, k⟩ => ⟨q, (k0 _).trans k⟩) (fun x p s' ⟨q, k⟩ => ⟨q, (k0 _).trans k⟩) _ _ (ih _ w)
  | register => intro Q E p s w; exact w.elim
  | stack _ ih => intro Q E p s w; exact ih _ w
theorem Tame.any {α : Type} {M : Model} {A : Around} {t : Sem α} (h : Tame t) (e : Addr) {Q : α → Shared → Prop} {E : Value → Shared → Prop} {s : Shared} (w : wpAny M A t Q E s) :
    wpAny M A t (fun a s' => Q a s' ∧ Kd e s.heap s'.heap) (fun x s' => E x s' ∧ Kd e s.heap s'.heap) s := fun Γ p hΓ => h.keep e (w Γ p hΓ)
theorem fine_fields (g : Array Value → Array Value) : Fine (Obj.mapFields g) := fun o => by
  obtain ⟨c, d, dt, sl⟩ := o
  cases dt <;> exact ⟨rfl, rfl, rfl⟩
theorem fine_slots (g : Obj → Array (Option Value)) : Fine (fun o => { o with slots := g o }) := fun o => by
  obtain ⟨c, d, dt, sl⟩ := o
  cases dt <;> exact ⟨rfl, rfl, rfl⟩
theorem tame_load (a : Addr) : Tame (PySem.load a) := .load fun o => .pure o
theorem tame_update (a : Addr) {f : Obj → Obj} (h : Fine f) : Tame (PySem.update a f) := .update h (.pure ())
theorem tame_fieldsOf (v : Value) : Tame (fieldsOf v) := by
  unfold fieldsOf
  cases v <;> first | exact .unsupported _ | skip
  refine Tame.bind (tame_load _) fun o => ?_
  cases o.data <;> first | exact .unsupported _ | exact .pure _
theorem tame_field (v : Value) (i : Nat) : Tame (field v i) := by
  unfold field
  refine Tame.bind (tame_fieldsOf v) fun vs => ?_
  split
  · exact .pure _
  · exact .unsupported _
theorem tame_setField (v : Value) (i : Nat) (x : Value) : Tame (setField v i x) := by
  unfold setField
  cases v <;> first | exact .unsupported _ | skip
  unfold updateField
  refine Tame.bind (tame_load _) fun o => ?_
  cases o.data <;> first | exact .unsupported _ | skip
  dsimp only
  split
  · exact tame_update _ (fine_fields _)
  · exact .unsupported _
theorem tame_setFlight (e : Value) (f : Option Addr) : Tame (setFlight e f) := by
  unfold setFlight
  refine Tame.bind (tame_field _ _) fun tb => ?_
  split
  · exact tame_setField _ _ _
  · exact .pure _
theorem tame_stack : Tame PySem.stack := .stack fun a => .pure a
theorem tame_behind (env : Env) (outer : List Env) : Tame (behindIsImport env outer) := by
  unfold behindIsImport
  split
  · exact .pure _
  · split
    · exact .pure _
    · exact Tame.bind (tame_field _ _) fun _ => .pure _
theorem tame_kept (env : Env) (b : Bool) : ∀ l, Tame (keptBack env b l)
  | [] => by
    show Tame (if (env.scope.isGenerator || env.scope.isCoroutine) = true then Pure.pure Value.none else _)
    split
    · exact .pure _
    · refine Tame.bind ?_ fun x => ?_
      · unfold underTheClaimsCaller
        exact Tame.bind tame_stack fun _ => .pure _
      · exact .pure _
  | c :: r => .pure _
theorem tame_ready : ∀ l, Tame (readyFrames l)
  | [] => .pure _
  | env :: outer => by
    unfold readyFrames
    split
    · refine Tame.bind (tame_load _) fun o => ?_
      split
      · exact .pure _
      · refine Tame.bind (tame_behind _ _) fun _ => Tame.bind (tame_kept _ _ _) fun _ => Tame.bind (tame_update _ (fine_slots _)) fun _ => tame_ready outer
    · exact .unsupported _
theorem tame_frameObject : ∀ l, Tame (frameObject l)
  | [] => .pure _
  | env :: outer => by unfold frameObject; exact Tame.bind (tame_ready _) fun _ => .pure _
theorem tame_frameOf (env : Env) : Tame (frameOf env) := by
  unfold frameOf
  refine Tame.bind (Tame.bind tame_stack fun _ => .pure _) fun l => Tame.bind (tame_frameObject _) fun x => ?_
  split
  · exact .pure _
  · exact .unsupported _
theorem tame_place (f : Addr) (b : Bool) : Tame (entryPlaceOf f b) := by
  unfold entryPlaceOf
  refine Tame.bind tame_stack fun a => ?_
  split <;> exact .pure _
theorem tame_entry (a b c d e : Value) (l : List Value) : Tame (EntryCells.newEntry a b c d e l) := by
  have al : ∀ o : Obj, Tame (do let a ← PySem.alloc o; Pure.pure (Value.ref a)) := fun o => Tame.bind (.alloc fun a => .pure a) fun a => .pure _
  unfold EntryCells.newEntry newFields newObj newObjAsIs
  dsimp only
  generalize (if l.isEmpty = true then List.replicate 6 Value.none else l) = l'
  split
  · exact Tame.bind (.unsupported _) fun _ => al _
  · exact al _
theorem tame_note (e : Value) (env : Env) : Tame (noteFrame e env) := by
  unfold noteFrame
  split
  · refine Tame.bind (tame_field _ _) fun head => ?_
    split
    · refine Tame.bind (tame_field _ _) fun x => ?_
      split
      · exact .pure _
      · refine Tame.bind (tame_setField _ _ _) fun _ => Tame.bind (tame_frameOf _) fun _ => Tame.bind (tame_place _ _) fun _ => Tame.bind (tame_entry ..) fun _ => tame_setField _ _ _
    · refine Tame.bind (tame_frameOf _) fun _ => Tame.bind (tame_place _ _) fun _ => Tame.bind (tame_entry ..) fun _ => tame_setField _ _ _
  · exact .unsupported _
end Mi
set_option Elab.async false
set_option linter.all false
set_option autoImplicit false
set_option maxRecDepth 100000
set_option maxHeartbeats 4000000
namespace Mi
open PySem PySem.Spec PyProof.Rows L2
/-- an exception object of the class at C stands at a -/
abbrev SV := L2.St
/-- an exception object of the class at C stands at a -/
def ExcO (a C : Addr) : HO := .ext fun h => ∃ o vs, h.get? a = some o ∧ o.cls = .ref C ∧ o.dict = none ∧ o.data = .fields vs

mutual
/-- v stands for the pure value p, in the part Hf of the heap that nobody writes to -/
inductive Rp (K : PySem.W.Frag) (cl : Nat → Addr) (Hf : Hp) : V → PV → Prop where
  | non : Rp K cl Hf .non .non
  | bl (b : Bool) : Rp K cl Hf (.bl b) (.bl b)
  | int (i : Int) : Rp K cl Hf (.int i) (.int i)
  | str (x : Str) : Rp K cl Hf (.str x) (.str x)
  | tup {a : Addr} {xs : List V} {ps : List PV} (h : SqT K Hf a xs) (r : Rps K cl Hf xs ps) : Rp K cl Hf (.ref a) (.tup ps)
  | lst {a : Addr} {xs : List V} {ps : List PV} (h : SqL K Hf a xs) (r : Rps K cl Hf xs ps) : Rp K cl Hf (.ref a) (.lst ps)
  | exc {a : Addr} {c : Nat} (h : Hf a = some (ExcO a (cl c))) : Rp K cl Hf (.ref a) (.exc c)
  | dic0 {a : Addr} (h : Hf a = some (.dK [])) : Rp K cl Hf (.ref a) .dic0
  | ins {a dx : Addr} {c : Nat} (h : Hf a = some (.ins (cl c) dx [])) : Rp K cl Hf (.ref a) (.ins c)
inductive Rps (K : PySem.W.Frag) (cl : Nat → Addr) (Hf : Hp) : List V → List PV → Prop where
  | nil : Rps K cl Hf [] []
  | cons {v : V} {p : PV} {vs : List V} {ps : List PV} (r : Rp K cl Hf v p) (t : Rps K cl Hf vs ps) : Rps K cl Hf (v :: vs) (p :: ps)
end
section
variable {K : PySem.W.Frag} {cl : Nat → Addr} {Hf Hf' : Hp}
theorem Same.seqT {H H' : Hp} {a : Addr} {xs : List V} (e : Same H H') (h : SqT K H a xs) : SqT K H' a xs := by
  rcases h with (h | ⟨o, h⟩) | h
  · exact .inl (.inl (e _ _ h))
  · exact .inl (.inr ⟨o, e _ _ h⟩)
  · exact .inr h
mutual
theorem Rp.keep (s : Same Hf Hf') : ∀ {v : V} {p : PV}, Rp K cl Hf v p → Rp K cl Hf' v p
  | _, _, .non => .non
  | _, _, .bl b => .bl b
  | _, _, .int i => .int i
  | _, _, .str x => .str x
  | _, _, .tup h r => .tup (Same.seqT s h) (Rps.keep s r)
  | _, _, .lst h r => .lst (s.seq h) (Rps.keep s r)
  | _, _, .exc h => .exc (s _ _ h)
  | _, _, .dic0 h => .dic0 (s _ _ h)
  | _, _, .ins h => .ins (s _ _ h)
theorem Rps.keep (s : Same Hf Hf') : ∀ {vs : List V} {ps : List PV}, Rps K cl Hf vs ps → Rps K cl Hf' vs ps
  | _, _, .nil => .nil
  | _, _, .cons r t => .cons (Rp.keep s r) (Rps.keep s t)
end
theorem Rps.length : ∀ {vs : List V} {ps : List PV}, Rps K cl Hf vs ps → vs.length = ps.length
  | _, _, .nil => rfl
  | _, _, .cons _ t => congrArg (· + 1) (Rps.length t)
theorem Rps.get : ∀ {vs : List V} {ps : List PV} {i : Nat} {p : PV}, Rps K cl Hf vs ps → ps[i]? = some p → ∃ v, vs[i]? = some v ∧ Rp K cl Hf v p
  | _, _, _, _, .nil, e => by simp at e
  | _, _, 0, _, .cons r _, e => by simp at e; subst e; exact ⟨_, rfl, r⟩
  | _, _, i + 1, p, .cons _ t, e => by
    obtain ⟨v, h1, h2⟩ := Rps.get (i := i) (p := p) t (by simpa using e)
    exact ⟨v, by simpa using h1, h2⟩
theorem Rps.get' : ∀ {vs : List V} {ps : List PV} {i : Nat} {v : V}, Rps K cl Hf vs ps → vs[i]? = some v → ∃ p, ps[i]? = some p ∧ Rp K cl Hf v p
  | _, _, _, _, .nil, e => by simp at e
  | _, _, 0, _, .cons r _, e => by simp at e; subst e; exact ⟨_, rfl, r⟩
  | _, _, i + 1, v, .cons _ t, e => by
    obtain ⟨p, h1, h2⟩ := Rps.get' (i := i) (v := v) t (by simpa using e)
    exact ⟨p, by simpa using h1, h2⟩
theorem Rps.append : ∀ {vs ws : List V} {ps qs : List PV}, Rps K cl Hf vs ps → Rps K cl Hf ws qs → Rps K cl Hf (vs ++ ws) (ps ++ qs)
  | _, _, _, _, .nil, s => s
  | _, _, _, _, .cons r t, s => .cons r (Rps.append t s)
theorem Rps.take : ∀ {vs : List V} {ps : List PV} (n : Nat), Rps K cl Hf vs ps → Rps K cl Hf (vs.take n) (ps.take n)
  | _, _, 0, _ => .nil
  | _, _, _ + 1, .nil => .nil
  | _, _, n + 1, .cons r t => .cons r (Rps.take n t)
theorem Rps.drop : ∀ {vs : List V} {ps : List PV} (n : Nat), Rps K cl Hf vs ps → Rps K cl Hf (vs.drop n) (ps.drop n)
  | _, _, 0, r => r
  | _, _, _ + 1, .nil => .nil
  | _, _, n + 1, .cons _ t => Rps.drop n t
theorem Rps.ints : ∀ (ns : List Int), Rps K cl Hf (ns.map V.int) (ns.map PV.int)
  | [] => .nil
  | n :: r => .cons (.int n) (Rps.ints r)
end
/-- from (Hf, H) to (Hf', H'): all that was there is there, and what is new in Hf' is new in H' -/
structure Ext (Hf H Hf' H' : Hp) : Prop where
  all : Same H H'
  frz : Same Hf Hf'
  sub : Same Hf' H'
  old : ∀ b, H b ≠ none → Hf' b = Hf b
theorem Ext.refl {Hf H : Hp} (s : Same Hf H) : Ext Hf H Hf H := ⟨Same.refl _, Same.refl _, s, fun _ _ => rfl⟩
theorem Ext.trans {Hf H Hf1 H1 Hf2 H2 : Hp} (a : Ext Hf H Hf1 H1) (b : Ext Hf1 H1 Hf2 H2) : Ext Hf H Hf2 H2 :=
  ⟨a.all.trans b.all, a.frz.trans b.frz, b.sub, fun c n => by
    have n1 : H1 c ≠ none := by
      cases e : H c with
      | none => exact absurd e n
      | some o => rw [a.all c o e]; intro z; cases z
    rw [b.old c n1, a.old c n]⟩
/-- a new object -/
theorem same_upd {H : Hp} {p : Addr} (h : H p = none) (o : HO) : Same H (upd H p o) := fun b u q => by rw [upd_ne (ne_of_none q h)]; exact q
theorem Ext.new {Hf H : Hp} (s : Same Hf H) {p : Addr} (h : H p = none) (o : HO) : Ext Hf H (upd Hf p o) (upd H p o) := by
  have hf : Hf p = none := s.free h
  refine ⟨same_upd h o, same_upd hf o, fun b u q => ?_, fun b n => ?_⟩
  · by_cases e : b = p
    · subst e; rw [upd_same] at q ⊢; exact q
    · rw [upd_ne e] at q ⊢; exact s b u q
  · rw [upd_ne (fun e => n (by rw [e]; exact h))]
/-- new in H alone -/
theorem Ext.newH {Hf H : Hp} (s : Same Hf H) {p : Addr} (h : H p = none) (o : HO) : Ext Hf H Hf (upd H p o) :=
  ⟨same_upd h o, Same.refl _, fun b u q => same_upd h o b u (s b u q), fun _ _ => rfl⟩

/-- a slot -/
def Slot (K : PySem.W.Frag) (cl : Nat → Addr) (H0 Hf H : Hp) (v : V) : PV → Prop
  | .own ps => ∃ a xs, v = .ref a ∧ H a = some (.lst xs) ∧ Hf a = none ∧ H0 a = none ∧ Rps K cl Hf xs ps
  | p => Rp K cl Hf v p
/-- the frame's values, in a def that was entered at (Hf0, H0) -/
structure Rep (K : PySem.W.Frag) (cl : Nat → Addr) (Hf0 H0 Hf H : Hp) (σ : SV) (ρ : MEnv) : Prop where
  ext : Ext Hf0 H0 Hf H
  slot : ∀ (i : Nat) (p : PV), ρ[i]? = some (some p) → ∃ v, σ[i]? = some (some v) ∧ Slot K cl H0 Hf H v p
  dist : ∀ (i j : Nat) (ps qs : List PV) (a : Addr), ρ[i]? = some (some (.own ps)) → ρ[j]? = some (some (.own qs)) → σ[i]? = some (some (.ref a)) → σ[j]? = some (some (.ref a)) → i = j

section
variable {K : PySem.W.Frag} {cl : Nat → Addr} {Hf0 H0 Hf H Hf' H' : Hp} {σ : SV} {ρ : MEnv}
theorem Rep.sub (r : Rep K cl Hf0 H0 Hf H σ ρ) : Same Hf H := r.ext.sub
theorem Slot.keep {v : V} {p : PV} (e : Ext Hf H Hf' H') (h : Slot K cl H0 Hf H v p) : Slot K cl H0 Hf' H' v p := by
  cases p with
  | own ps =>
    obtain ⟨a, xs, e1, e2, e3, e4, e5⟩ := h
    exact ⟨a, xs, e1, e.all _ _ e2, by rw [e.old a (by rw [e2]; intro z; cases z)]; exact e3, e4, e5.keep e.frz⟩
  | _ => exact Rp.keep e.frz h
theorem Rep.keep (r : Rep K cl Hf0 H0 Hf H σ ρ) (e : Ext Hf H Hf' H') : Rep K cl Hf0 H0 Hf' H' σ ρ :=
  ⟨r.ext.trans e, fun i p h => by
    obtain ⟨v, h1, h2⟩ := r.slot i p h
    exact ⟨v, h1, h2.keep e⟩, r.dist⟩
theorem getV_some : ∀ {ρ : MEnv} {i : Nat} {p : PV}, getV ρ i = .ok p → ρ[i]? = some (some p) ∧ ∀ l, p ≠ .own l
  | [], _, _, h => by simp [getV] at h
  | o :: r, 0, p, h => by
    have h' : asVal o = .ok p := h
    cases o with
    | none => simp [asVal] at h'
    | some q =>
      cases q <;> first
        | (simp [asVal] at h'; done)
        | (simp only [asVal] at h'; cases h'; exact ⟨rfl, fun l z => by cases z⟩)
  | o :: r, i + 1, p, h => by
    obtain ⟨a, b⟩ := getV_some (ρ := r) (i := i) (p := p) h
    exact ⟨by simpa using a, b⟩
theorem getV_noexc : ∀ {ρ : MEnv} {i : Nat} {c : Nat}, getV ρ i ≠ .exc c
  | [], _, _, h => by simp [getV] at h
  | o :: r, 0, c, h => by
    have h' : asVal o = .exc c := h
    cases o with
    | none => simp [asVal] at h'
    | some q => cases q <;> simp [asVal] at h'
  | o :: r, i + 1, c, h => getV_noexc (ρ := r) (i := i) (c := c) h
theorem Rep.var (r : Rep K cl Hf0 H0 Hf H σ ρ) {i : Nat} {p : PV} (h : getV ρ i = .ok p) : ∃ v, σ[i]? = some (some v) ∧ Rp K cl Hf v p := by
  obtain ⟨e, n⟩ := getV_some h
  obtain ⟨v, h1, h2⟩ := r.slot i p e
  refine ⟨v, h1, ?_⟩
  cases p with
  | own l => exact absurd rfl (n l)
  | _ => exact h2
/-- a slot is written -/
theorem Rep.set (r : Rep K cl Hf0 H0 Hf H σ ρ) (i : Nat) {v : V} {p : PV} (h : Rp K cl Hf v p) (hl : i < σ.length) : Rep K cl Hf0 H0 Hf H (σ.set i (some v)) (ρ.set i (some p)) := by
  have np : ∀ l, p ≠ .own l := fun l z => by subst z; cases h
  refine ⟨r.ext, fun j q hq => ?_, fun j k ps qs a h1 h2 h3 h4 => ?_⟩
  · by_cases e : i = j
    · subst e
      have hi : i < ρ.length := by
        rw [List.getElem?_set] at hq
        by_cases hh : i < ρ.length
        · exact hh
        · simp [hh] at hq
      rw [List.getElem?_set_self hi] at hq
      cases hq
      refine ⟨v, by rw [List.getElem?_set_self hl], ?_⟩
      cases p with
      | own l => exact absurd rfl (np l)
      | _ => exact h
    · rw [List.getElem?_set_ne e] at hq
      obtain ⟨w, a, b⟩ := r.slot j q hq
      exact ⟨w, by rw [List.getElem?_set_ne e]; exact a, b⟩
  · have ne : ∀ {m : Nat} {l : List PV}, (ρ.set i (some p))[m]? = some (some (.own l)) → i ≠ m := fun {m l} hm z => by
      subst z
      have hi : i < ρ.length := by
        rw [List.getElem?_set] at hm
        by_cases hh : i < ρ.length
        · exact hh
        · simp [hh] at hm
      rw [List.getElem?_set_self hi] at hm
      cases hm
      exact np l rfl
    have n1 := ne h1
    have n2 := ne h2
    rw [List.getElem?_set_ne n1] at h1 h3
    rw [List.getElem?_set_ne n2] at h2 h4
    exact r.dist j k ps qs a h1 h2 h3 h4
/-- a slot is forgotten -/
theorem Rep.forget (r : Rep K cl Hf0 H0 Hf H σ ρ) (i : Nat) (w : Option V) : Rep K cl Hf0 H0 Hf H (σ.set i w) (ρ.set i none) := by
  have ne : ∀ {m : Nat} {l : PV}, (ρ.set i none)[m]? = some (some l) → i ≠ m := fun {m l} hm z => by
    subst z
    rw [List.getElem?_set] at hm
    by_cases hh : i < ρ.length <;> simp [hh] at hm
  refine ⟨r.ext, fun j q hq => ?_, fun j k ps qs a h1 h2 h3 h4 => ?_⟩
  · have e := ne hq
    rw [List.getElem?_set_ne e] at hq
    obtain ⟨v, a, b⟩ := r.slot j q hq
    exact ⟨v, by rw [List.getElem?_set_ne e]; exact a, b⟩
  · have n1 := ne h1
    have n2 := ne h2
    rw [List.getElem?_set_ne n1] at h1 h3
    rw [List.getElem?_set_ne n2] at h2 h4
    exact r.dist j k ps qs a h1 h2 h3 h4
end
/-- what must stand through the stations of an exception: the tracked, the pinned, all that was there at the entry, the cells -/
def Stands (X : Cx) (pins : List (Addr × Obj)) (H : Hp) (b : Addr) : Prop :=
  H b ≠ none ∨ (∃ p ∈ X.pn ++ pins, p.1 = b) ∨ (∃ o, X.s₀.heap.get? b = some o) ∨ ∃ x, X.env.cells.lookup x = some b
def Cov (X : Cx) (pins : List (Addr × Obj)) (H : Hp) (B h : Heap) : Prop := ∀ b o, h.get? b = some o → Stands X pins H b → b ∉ frs X.stack → B.get? b = some o
/-- just made: no traceback yet -/
def FreshW (B : Heap) (l : List Env) (e : Addr) (cls a0 : Value) (h : Heap) : Prop :=
  B.StaysIn h ∧ B.get? e = none ∧ h.FunFrames B l ∧ ∃ oe vs, h.get? e = some oe ∧ oe.cls = cls ∧ oe.dict = none ∧ oe.data = .fields vs ∧ vs[0]? = some a0 ∧ vs[1]? = some .none
def NoD (e : Addr) (h : Heap) : Prop := ∃ o, h.get? e = some o ∧ o.dict = none
def XSt (X : Cx) (pins : List (Addr × Obj)) (H : Hp) (e C : Addr) (h : Heap) : Prop :=
  ∃ B a0, Cov X pins H B h ∧ NoD e h ∧ (FreshW B X.stack e (.ref C) a0 h ∨ Heap.HeldW B X.stack e (.ref C) a0 X.env.locals h ∨ Heap.FlyingW B X.stack e (.ref C) a0 h)
/-- an exception of the class c, seen from (Hf, H) -/
def XAt (X : Cx) (cl : Nat → Addr) (pins : List (Addr × Obj)) (σ : SV) (Hf H : Hp) (c : Nat) (u : Value) (s : Shared) : Prop :=
  ∃ e Hf' H', u = .ref e ∧ Inv X pins σ H' s ∧ Ext Hf H Hf' H' ∧ XSt X pins H' e (cl c) s.heap
theorem XAt.from {X : Cx} {cl : Nat → Addr} {pins : List (Addr × Obj)} {σ : SV} {Hf H Hf1 H1 : Hp} {c : Nat} {u : Value} {s : Shared} (e : Ext Hf H Hf1 H1) (x : XAt X cl pins σ Hf1 H1 c u s) : XAt X cl pins σ Hf H c u s := by
  obtain ⟨a, Hf', H', h1, h2, h3, h4⟩ := x
  exact ⟨a, Hf', H', h1, h2, e.trans h3, h4⟩

section
variable (X : Cx) (cl : Nat → Addr)
def OkP (pins : List (Addr × Obj)) (σ : SV) (Hf H : Hp) (r : R PV) (u : Value) (s : Shared) : Prop :=
  ∃ p v Hf' H', r = .ok p ∧ Inv X pins σ H' s ∧ RelV v u ∧ Ext Hf H Hf' H' ∧ Rp X.K cl Hf' v p
def ExP {α : Type} (pins : List (Addr × Obj)) (σ : SV) (Hf H : Hp) (r : R α) (u : Value) (s : Shared) : Prop :=
  ∃ c, r = .exc c ∧ XAt X cl pins σ Hf H c u s
def OkT (pins : List (Addr × Obj)) (σ : SV) (Hf H : Hp) (r : R Bool) (b : Bool) (s : Shared) : Prop :=
  ∃ Hf' H', r = .ok b ∧ Inv X pins σ H' s ∧ Ext Hf H Hf' H'
def OkA (pins : List (Addr × Obj)) (σ : SV) (Hf H : Hp) (r : R (List PV)) (us : List Value) (s : Shared) : Prop :=
  ∃ ps vs Hf' H', r = .ok ps ∧ Inv X pins σ H' s ∧ Vals vs us ∧ Ext Hf H Hf' H' ∧ Rps X.K cl Hf' vs ps
/-- f mirrors the expression e -/
structure ME (e : Expr) (f : FE) : Prop where
  run' : ∀ (pins : List (Addr × Obj)) (s : Shared) (σ : SV) (Hf0 H0 Hf H : Hp) (ρ : MEnv), Inv X pins σ H s → Rep X.K cl Hf0 H0 Hf H σ ρ → f ρ ≠ .stuck →
    wpAny (model X.prog X.w) X.A (eval e X.env) (OkP X cl pins σ Hf H (f ρ)) (ExP X cl pins σ Hf H (f ρ)) s
instance {e : Expr} {f : FE} : CoeFun (ME X cl e f) fun _ => ∀ (pins : List (Addr × Obj)) (s : Shared) (σ : SV) (Hf0 H0 Hf H : Hp) (ρ : MEnv), Inv X pins σ H s → Rep X.K cl Hf0 H0 Hf H σ ρ → f ρ ≠ .stuck →
    wpAny (model X.prog X.w) X.A (eval e X.env) (OkP X cl pins σ Hf H (f ρ)) (ExP X cl pins σ Hf H (f ρ)) s := ⟨ME.run'⟩
structure MT (e : Expr) (f : FT) : Prop where
  run' : ∀ (pins : List (Addr × Obj)) (s : Shared) (σ : SV) (Hf0 H0 Hf H : Hp) (ρ : MEnv), Inv X pins σ H s → Rep X.K cl Hf0 H0 Hf H σ ρ → f ρ ≠ .stuck →
    wpAny (model X.prog X.w) X.A (isTrue e X.env (eval e X.env)) (OkT X pins σ Hf H (f ρ)) (ExP X cl pins σ Hf H (f ρ)) s
instance {e : Expr} {f : FT} : CoeFun (MT X cl e f) fun _ => ∀ (pins : List (Addr × Obj)) (s : Shared) (σ : SV) (Hf0 H0 Hf H : Hp) (ρ : MEnv), Inv X pins σ H s → Rep X.K cl Hf0 H0 Hf H σ ρ → f ρ ≠ .stuck →
    wpAny (model X.prog X.w) X.A (isTrue e X.env (eval e X.env)) (OkT X pins σ Hf H (f ρ)) (ExP X cl pins σ Hf H (f ρ)) s := ⟨MT.run'⟩
end
end Mi
set_option Elab.async false
set_option linter.all false
set_option autoImplicit false
set_option maxRecDepth 100000
set_option maxHeartbeats 4000000
namespace Mi
open PySem PySem.Spec PyProof.Rows L2
section
variable {X : Cx} {cl : Nat → Addr} {pins : List (Addr × Obj)} {s : Shared} {σ : SV} {Hf0 H0 Hf H Hf1 H1 : Hp} {ρ : MEnv} {α : Type}
theorem ME.run {e : Expr} {f : FE} (h : ME X cl e f) (I : Inv X pins σ H1 s) (r : Rep X.K cl Hf0 H0 Hf1 H1 σ ρ) (e0 : Ext Hf H Hf1 H1) {k : PV → R α} (hs : (f ρ).bind k ≠ .stuck) {Q : Value → Shared → Prop}
    (ok : ∀ p v u s' Hf' H', (f ρ).bind k = k p → Inv X pins σ H' s' → RelV v u → Ext Hf1 H1 Hf' H' → Rp X.K cl Hf' v p → Q u s') :
    wpAny (model X.prog X.w) X.A (eval e X.env) Q (ExP X cl pins σ Hf H ((f ρ).bind k)) s := by
  have hf : f ρ ≠ .stuck := fun z => hs (by rw [z]; rfl)
  refine wpAny_mono (h pins s σ Hf0 H0 Hf1 H1 ρ I r hf) (fun u s' q => ?_) fun u s' q => ?_
  · obtain ⟨p, v, Hf', H', e1, I', rv, ex, rp⟩ := q
    exact ok p v u s' Hf' H' (by rw [e1]; rfl) I' rv ex rp
  · obtain ⟨c, e1, x⟩ := q
    exact ⟨c, by rw [e1]; rfl, x.from e0⟩
theorem okp {t : Sem Value} {p : PV} {E : Value → Shared → Prop}
    (h : wpAny (model X.prog X.w) X.A t (EP (X.wish E) pins σ fun v H' => ∃ Hf', Ext Hf H Hf' H' ∧ Rp X.K cl Hf' v p) E s) : wpAny (model X.prog X.w) X.A t (OkP X cl pins σ Hf H (.ok p)) E s :=
  thn h fun u s' ⟨v, H', I', rv, Hf', ex, rp⟩ => ⟨p, v, Hf', H', rfl, I'.unwish, rv, ex, rp⟩
theorem OkP.from {e0 : Ext Hf H Hf1 H1} {r : R PV} {u : Value} {s' : Shared} (h : OkP X cl pins σ Hf1 H1 r u s') : OkP X cl pins σ Hf H r u s' := by
  obtain ⟨p, v, Hf', H', e1, I', rv, ex, rp⟩ := h
  exact ⟨p, v, Hf', H', e1, I', rv, e0.trans ex, rp⟩
theorem ExP.from {e0 : Ext Hf H Hf1 H1} {r : R α} {u : Value} {s' : Shared} (h : ExP X cl pins σ Hf1 H1 r u s') : ExP X cl pins σ Hf H r u s' := by
  obtain ⟨c, e1, x⟩ := h
  exact ⟨c, e1, x.from e0⟩

theorem me_var {i : Nat} {x : Str} {pos : Pos} (hN : X.N[i]? = some x) (hv : Vis X.env.scope x) (hd : (x == ("__debug__" : Str)) = false := by decide) (hcd : (x == ("__classdict__" : Str)) = false := by decide) :
    ME X cl (.Name x pos) (fVar i) := by
  refine ⟨?_⟩
  intro pins s σ Hf0 H0 Hf H ρ I r hs
  unfold fVar at hs ⊢
  cases e : getV ρ i with
  | stuck => exact absurd e hs
  | exc c => exact absurd e getV_noexc
  | ok p =>
    obtain ⟨v, h1, h2⟩ := r.var e
    generalize ExP X cl pins σ Hf H (R.ok p) = E
    refine okp ?_
    refine (pe_var (X := X.wish E) hN hv hd hcd) pins s σ H _ (I.wish E) ?_
    exact ⟨v, h1, Hf, Ext.refl r.sub, h2⟩
theorem me_const {e : Expr} {v : V} {p : PV} (h : ∀ E, PE (X.wish E) e (tC v)) (r : ∀ Hf, Rp X.K cl Hf v p) : ME X cl e (fC p) := by
  refine ⟨?_⟩
  intro pins s σ Hf0 H0 Hf H ρ I rr hs
  generalize ExP X cl pins σ Hf H (fC p ρ) = E
  refine okp ?_
  refine h E pins s σ H _ (I.wish E) ?_
  exact ⟨Hf, Ext.refl rr.sub, r Hf⟩
theorem me_int {i : Int} {j : Nat} {pos : Pos} : ME X cl (.Constant (.int i) j pos) (fC (.int i)) := me_const (fun _ => pe_int) fun _ => .int i
theorem me_bl {b : Bool} {j : Nat} {pos : Pos} : ME X cl (.Constant (.bool b) j pos) (fC (.bl b)) := me_const (fun _ => pe_bl) fun _ => .bl b
theorem me_non {j : Nat} {pos : Pos} : ME X cl (.Constant .none j pos) (fC .non) := me_const (fun _ => pe_non) fun _ => .non
theorem me_str {x : Str} {j : Nat} {pos : Pos} : ME X cl (.Constant (.str x) j pos) (fC (.str x)) := me_const (fun _ => pe_str) fun _ => .str x
/-- a module's constant -/
theorem me_glob {x : Str} {v : V} {p : PV} {u : Value} {pos : Pos} (hg : Gl X x) (hm : X.mg x = some u) (rv : RelV v u) (r : ∀ Hf, Rp X.K cl Hf v p) (hd : (x == ("__debug__" : Str)) = false := by decide) : ME X cl (.Name x pos) (fC p) :=
  me_const (fun _ => pe_glob hg hm rv hd) r

def BinR (X : Cx) (cl : Nat → Addr) (f : Value → Value → Sem Value) (o : PV → PV → R PV) : Prop :=
  ∀ (pins : List (Addr × Obj)) (s : Shared) (σ : SV) (Hf H : Hp) (x y : V) (v u : Value) (p q : PV), Inv X pins σ H s → Same Hf H → RelV x v → RelV y u → Rp X.K cl Hf x p → Rp X.K cl Hf y q → o p q ≠ .stuck →
    wpAny (model X.prog X.w) X.A (f v u) (OkP X cl pins σ Hf H (o p q)) (ExP X cl pins σ Hf H (o p q)) s
theorem two {a b : Expr} {fa fb : FE} {f : Value → Value → Sem Value} {o : PV → PV → R PV} (ha : ME X cl a fa) (hb : ME X cl b fb) (rule : BinR X cl f o) (I : Inv X pins σ H s) (r : Rep X.K cl Hf0 H0 Hf H σ ρ) (hs : fBin o fa fb ρ ≠ .stuck) :
    wpAny (model X.prog X.w) X.A (eval a X.env) (fun v s₁ => wpAny (model X.prog X.w) X.A (eval b X.env) (fun u s₂ => wpAny (model X.prog X.w) X.A (f v u)
      (OkP X cl pins σ Hf H (fBin o fa fb ρ)) (ExP X cl pins σ Hf H (fBin o fa fb ρ)) s₂) (ExP X cl pins σ Hf H (fBin o fa fb ρ)) s₁) (ExP X cl pins σ Hf H (fBin o fa fb ρ)) s := by
  unfold fBin at hs ⊢
  refine ha.run I r (Ext.refl r.sub) hs fun p v u s1 Hf1 H1 e1 I1 rv x1 rp => ?_
  rw [e1] at hs ⊢
  refine hb.run I1 (r.keep x1) x1 hs fun q v' u' s2 Hf2 H2 e2 I2 rv' x2 rq => ?_
  rw [e2] at hs ⊢
  exact wpAny_mono (rule pins s2 σ Hf2 H2 v v' u u' p q I2 x2.sub rv rv' (rp.keep x2.frz) rq hs) (fun _ _ h => h.from (e0 := x1.trans x2)) fun _ _ h => h.from (e0 := x1.trans x2)
theorem me_bin {a b : Expr} {fa fb : FE} {op : Operator} {o : PV → PV → R PV} {pos : Pos} (rule : BinR X cl (binaryOp op) o) (ha : ME X cl a fa) (hb : ME X cl b fb) : ME X cl (.BinOp a op b pos) (fBin o fa fb) := by
  refine ⟨?_⟩
  intro pins s σ Hf0 H0 Hf H ρ I r hs
  exact wpAny_BinOp (two ha hb rule I r hs)
theorem me_cmp {a b : Expr} {fa fb : FE} {op : CmpOp} {o : PV → PV → R PV} {pos : Pos} (rule : BinR X cl (compareOp op) o) (ha : ME X cl a fa) (hb : ME X cl b fb) (hm : behindInMarks op b = false) : ME X cl (.Compare a [op] [b] pos) (fBin o fa fb) := by
  refine ⟨?_⟩
  intro pins s σ Hf0 H0 Hf H ρ I r hs
  exact wpAny_Compare1 (two ha hb rule I r hs) hm
def UnaR (X : Cx) (cl : Nat → Addr) (f : Value → Sem Value) (o : PV → R PV) : Prop :=
  ∀ (pins : List (Addr × Obj)) (s : Shared) (σ : SV) (Hf H : Hp) (x : V) (v : Value) (p : PV), Inv X pins σ H s → Same Hf H → RelV x v → Rp X.K cl Hf x p → o p ≠ .stuck →
    wpAny (model X.prog X.w) X.A (f v) (OkP X cl pins σ Hf H (o p)) (ExP X cl pins σ Hf H (o p)) s
theorem me_una {a : Expr} {fa : FE} {op : UnaryOp} {o : PV → R PV} {pos : Pos} (rule : UnaR X cl (unaryOp op) o) (ha : ME X cl a fa) : ME X cl (.UnaryOp op a pos) (fUn o fa) := by
  refine ⟨?_⟩
  intro pins s σ Hf0 H0 Hf H ρ I r hs
  unfold fUn at hs ⊢
  refine UnaryOp_ (ha.run I r (Ext.refl r.sub) hs fun p v u s1 Hf1 H1 e1 I1 rv x1 rp => ?_)
  rw [e1] at hs ⊢
  exact wpAny_mono (rule pins s1 σ Hf1 H1 v u p I1 x1.sub rv rp hs) (fun _ _ h => h.from (e0 := x1)) fun _ _ h => h.from (e0 := x1)

/-- two ints -/
theorem intR {f : Value → Value → Sem Value} {o : PV → PV → R PV} (C : Int → Int → Prop) (g : Int → Int → Int) (ho : ∀ p q, o p q ≠ .stuck → ∃ i j, p = .int i ∧ q = .int j ∧ C i j ∧ o p q = .ok (.int (g i j)))
    (rule : ∀ (i j : Int) (t u : Tok) (s : Shared) (Q : Value → Shared → Prop) (E : Value → Shared → Prop), C i j → Q (.int (g i j) s.toks) { s with toks := s.toks + 1 } → wpAny (model X.prog X.w) X.A (f (.int i t) (.int j u)) Q E s) : BinR X cl f o := by
  intro pins s σ Hf H x y v u p q I sm rv ru rp rq hs
  obtain ⟨i, j, rfl, rfl, hc, e⟩ := ho p q hs
  rw [e]
  cases rp; cases rq
  obtain ⟨t, rfl⟩ := rv
  obtain ⟨t', rfl⟩ := ru
  exact rule i j t t' s _ _ hc ⟨_, .int (g i j), Hf, H, rfl, I.tok _, ⟨_, rfl⟩, Ext.refl sm, .int _⟩
theorem intB {f : Value → Value → Sem Value} {o : PV → PV → R PV} (g : Int → Int → Bool) (ho : ∀ p q, o p q ≠ .stuck → ∃ i j, p = .int i ∧ q = .int j ∧ o p q = .ok (.bl (g i j)))
    (rule : ∀ (i j : Int) (t u : Tok) (s : Shared) (Q : Value → Shared → Prop) (E : Value → Shared → Prop), Q (.bool (g i j)) s → wpAny (model X.prog X.w) X.A (f (.int i t) (.int j u)) Q E s) : BinR X cl f o := by
  intro pins s σ Hf H x y v u p q I sm rv ru rp rq hs
  obtain ⟨i, j, rfl, rfl, e⟩ := ho p q hs
  rw [e]
  cases rp; cases rq
  obtain ⟨t, rfl⟩ := rv
  obtain ⟨t', rfl⟩ := ru
  exact rule i j t t' s _ _ ⟨_, .bl (g i j), Hf, H, rfl, I, rfl, Ext.refl sm, .bl _⟩
end
theorem two_pow_pos' (k : Nat) : (0 : Int) < 2 ^ k := Int.pow_pos (by decide)
section
variable {X : Cx} {cl : Nat → Addr}
theorem r_sub : BinR X cl (binaryOp .Sub) oSub := intR (fun _ _ => True) (fun i j => i - j)
  (fun p q h => by cases p <;> cases q <;> first | exact ⟨_, _, rfl, rfl, trivial, rfl⟩ | exact absurd rfl h) fun _ _ _ _ _ _ _ _ q => sub_int q
theorem ifOk {c : Prop} [Decidable c] {a : PV} (h : (if c then R.ok a else R.stuck) ≠ .stuck) : c ∧ (if c then R.ok a else R.stuck) = .ok a := by
  by_cases hc : c
  · exact ⟨hc, if_pos hc⟩
  · rw [if_neg hc] at h; exact absurd rfl h
theorem r_mul : BinR X cl (binaryOp .Mult) oMul := intR (fun i j => nb i ≤ 64 ∨ nb j ≤ 64 ∨ nb i + nb j ≤ bitsMax) (fun i j => i * j)
  (fun p q h => by
    cases p <;> cases q <;> first
      | exact absurd rfl h
      | exact ⟨_, _, rfl, rfl, (ifOk h).1, (ifOk h).2⟩) fun i j _ _ _ _ _ hc q => mul_int q (by
    rcases hc with hc | hc | hc
    · exact .of_left hc
    · exact .of_right hc
    · exact .of_le (Nat.le_refl _) (Nat.le_refl _) hc)
theorem r_mod : BinR X cl (binaryOp .Mod) oMod := intR (fun _ j => 0 < j) (fun i j => i % j)
  (fun p q h => by
    cases p <;> cases q <;> first
      | exact absurd rfl h
      | exact ⟨_, _, rfl, rfl, (ifOk h).1, (ifOk h).2⟩) fun i j _ _ _ _ _ hc q => mod_int' (by omega) (by rw [Int.fmod_eq_emod_of_nonneg i (by omega)]; exact q)
theorem log2_of_nb {j : Int} {k : Nat} (h0 : j ≠ 0) (h : nb j ≤ k) : j.natAbs.log2 < k := by
  have e : nb j = j.natAbs.log2 + 1 := by
    show (if j == 0 then 0 else j.natAbs.log2 + 1) = _
    rw [if_neg (by simpa using h0)]
  omega
theorem r_div : BinR X cl (binaryOp .FloorDiv) oDiv := intR (fun _ j => 0 < j ∧ nb j ≤ 9000) (fun i j => i / j)
  (fun p q h => by
    cases p <;> cases q <;> first
      | exact absurd rfl h
      | exact ⟨_, _, rfl, rfl, (ifOk h).1, (ifOk h).2⟩) fun i j _ _ _ _ _ hc q => floordiv_int (by omega) (by rw [Int.fdiv_eq_ediv_of_nonneg i (by omega)]; exact q)
        (.inl (PyProof.noPylong_of_log2 (log2_of_nb (by omega) hc.2)))
theorem natAbs_of_nb {j : Int} {k : Nat} (h : nb j ≤ k) : j.natAbs < 2 ^ k := PySem.intBits_le_iff.mp h
theorem r_pow : BinR X cl (binaryOp .Pow) oPow := intR (fun i j => 0 ≤ j ∧ j ≤ 1000000 ∧ nb i ≤ 64) (fun i j => i ^ j.toNat)
  (fun p q h => by
    cases p <;> cases q <;> first
      | exact absurd rfl h
      | exact ⟨_, _, rfl, rfl, (ifOk h).1, (ifOk h).2⟩) fun i j _ _ _ _ _ hc q => pow_int_small hc.1 hc.2.1 (natAbs_of_nb hc.2.2) q
theorem r_shl : BinR X cl (binaryOp .LShift) oShl := intR (fun i j => 0 ≤ j ∧ nb i + j ≤ 134217728) (fun i j => i * 2 ^ j.toNat)
  (fun p q h => by
    cases p <;> cases q <;> first
      | exact absurd rfl h
      | exact ⟨_, _, rfl, rfl, (ifOk h).1, (ifOk h).2⟩) fun i j _ _ _ _ _ hc q => lshift_int hc.1 hc.2 q
theorem r_shr : BinR X cl (binaryOp .RShift) oShr := intR (fun _ j => 0 ≤ j) (fun i j => i / 2 ^ j.toNat)
  (fun p q h => by
    cases p <;> cases q <;> first
      | exact absurd rfl h
      | exact ⟨_, _, rfl, rfl, (ifOk h).1, (ifOk h).2⟩) fun i j _ _ _ _ _ hc q => rshift_int hc (by rw [Int.fdiv_eq_ediv_of_nonneg i (Int.le_of_lt (two_pow_pos' _))]; exact q)
theorem r_and : BinR X cl (binaryOp .BitAnd) oAnd := intR (fun _ _ => True) (fun i j => Builtin.bitAnd i j)
  (fun p q h => by cases p <;> cases q <;> first | exact ⟨_, _, rfl, rfl, trivial, rfl⟩ | exact absurd rfl h) fun _ _ _ _ _ _ _ _ q => and_int q
theorem r_lt : BinR X cl (compareOp .Lt) cLt := intB (fun i j => decide (i < j))
  (fun p q h => by cases p <;> cases q <;> first | exact ⟨_, _, rfl, rfl, rfl⟩ | exact absurd rfl h) fun _ _ _ _ _ _ _ q => lt_int q
theorem r_le : BinR X cl (compareOp .LtE) cLe := intB (fun i j => decide (i ≤ j))
  (fun p q h => by cases p <;> cases q <;> first | exact ⟨_, _, rfl, rfl, rfl⟩ | exact absurd rfl h) fun _ _ _ _ _ _ _ q => le_int q
theorem r_gt : BinR X cl (compareOp .Gt) cGt := intB (fun i j => decide (j < i))
  (fun p q h => by cases p <;> cases q <;> first | exact ⟨_, _, rfl, rfl, rfl⟩ | exact absurd rfl h) fun _ _ _ _ _ _ _ q => gt_int q
theorem r_ge : BinR X cl (compareOp .GtE) cGe := intB (fun i j => decide (j ≤ i))
  (fun p q h => by cases p <;> cases q <;> first | exact ⟨_, _, rfl, rfl, rfl⟩ | exact absurd rfl h) fun _ _ _ _ _ _ _ q => ge_int q
theorem r_neg : UnaR X cl (unaryOp .USub) oNeg := by
  intro pins s σ Hf H x v p I sm rv rp hs
  cases p with
  | int i =>
    cases rp
    obtain ⟨t, rfl⟩ := rv
    exact neg_int ⟨_, .int (-i), Hf, H, rfl, I.tok _, ⟨_, rfl⟩, Ext.refl sm, .int _⟩
  | _ => exact absurd rfl hs
end
end Mi
set_option Elab.async false
set_option linter.all false
set_option autoImplicit false
set_option maxRecDepth 100000
set_option maxHeartbeats 4000000
namespace Mi
open PySem PySem.Spec PyProof.Rows L2
section
variable {X : Cx} {cl : Nat → Addr} {pins : List (Addr × Obj)} {s : Shared} {σ : SV} {Hf0 H0 Hf H Hf1 H1 : Hp} {ρ : MEnv} {α : Type}
/-- a test whatever its whole is -/
structure MW (X : Cx) (cl : Nat → Addr) (e : Expr) (f : FT) : Prop where
  run' : ∀ (whole : Sem Value) (pins : List (Addr × Obj)) (s : Shared) (σ : SV) (Hf0 H0 Hf H : Hp) (ρ : MEnv), Inv X pins σ H s → Rep X.K cl Hf0 H0 Hf H σ ρ → f ρ ≠ .stuck →
    wpAny (model X.prog X.w) X.A (isTrue e X.env whole) (OkT X pins σ Hf H (f ρ)) (ExP X cl pins σ Hf H (f ρ)) s
instance {X : Cx} {cl : Nat → Addr} {e : Expr} {f : FT} : CoeFun (MW X cl e f) fun _ => ∀ (whole : Sem Value) (pins : List (Addr × Obj)) (s : Shared) (σ : SV) (Hf0 H0 Hf H : Hp) (ρ : MEnv), Inv X pins σ H s → Rep X.K cl Hf0 H0 Hf H σ ρ → f ρ ≠ .stuck →
    wpAny (model X.prog X.w) X.A (isTrue e X.env whole) (OkT X pins σ Hf H (f ρ)) (ExP X cl pins σ Hf H (f ρ)) s := ⟨MW.run'⟩
theorem MW.mt {e : Expr} {f : FT} (h : MW X cl e f) : MT X cl e f := ⟨h.run' _⟩
theorem MT.run {e : Expr} {f : FT} (h : MT X cl e f) (I : Inv X pins σ H1 s) (r : Rep X.K cl Hf0 H0 Hf1 H1 σ ρ) (e0 : Ext Hf H Hf1 H1) {k : Bool → R α} (hs : (f ρ).bind k ≠ .stuck) {Q : Bool → Shared → Prop}
    (ok : ∀ c s' Hf' H', (f ρ).bind k = k c → Inv X pins σ H' s' → Ext Hf1 H1 Hf' H' → Q c s') :
    wpAny (model X.prog X.w) X.A (isTrue e X.env (eval e X.env)) Q (ExP X cl pins σ Hf H ((f ρ).bind k)) s := by
  have hf : f ρ ≠ .stuck := fun z => hs (by rw [z]; rfl)
  refine wpAny_mono (h pins s σ Hf0 H0 Hf1 H1 ρ I r hf) (fun c s' q => ?_) fun u s' q => ?_
  · obtain ⟨Hf', H', e1, I', ex⟩ := q
    exact ok c s' Hf' H' (by rw [e1]; rfl) I' ex
  · obtain ⟨c, e1, x⟩ := q
    exact ⟨c, by rw [e1]; rfl, x.from e0⟩
theorem OkT.from {e0 : Ext Hf H Hf1 H1} {r : R Bool} {b : Bool} {s' : Shared} (h : OkT X pins σ Hf1 H1 r b s') : OkT X pins σ Hf H r b s' := by
  obtain ⟨Hf', H', e1, I', ex⟩ := h
  exact ⟨Hf', H', e1, I', e0.trans ex⟩
theorem truth_ok {p : PV} {v : V} {u : Value} {E : Value → Shared → Prop} (I : Inv X pins σ H s) (sm : Same Hf H) (rv : RelV v u) (rp : Rp X.K cl Hf v p) (hs : truthP p ≠ .stuck) :
    wpAny (model X.prog X.w) X.A (truthy u) (OkT X pins σ Hf H (truthP p)) E s := by
  cases p with
  | non => cases rp; cases rv; exact truthy_none ⟨Hf, H, rfl, I, Ext.refl sm⟩
  | bl b => cases rp; cases rv; exact wpAny_truthy_bool ⟨Hf, H, rfl, I, Ext.refl sm⟩
  | int i => cases rp; obtain ⟨t, rfl⟩ := rv; exact PySem.P.truthy_int ⟨Hf, H, rfl, I, Ext.refl sm⟩
  | lst l =>
    cases rp with
    | lst h r =>
      cases rv
      obtain ⟨its, w, pl, z⟩ := I.list (sm.seq h)
      have hl : its.length = l.length := by rw [← w.length, r.length]
      have hz : l.length ≤ sizeLine := by rw [← r.length]; exact z
      refine wpAny_truthy_list pl.isList (by rw [List.size_toArray, hl]; have : sizeLine < 2 ^ 63 := by decide
                                             omega) ⟨Hf, H, ?_, I.tok _, Ext.refl sm⟩
      show R.ok (!l.isEmpty) = R.ok _
      congr 1
      cases its with
      | nil => cases l with
        | nil => rfl
        | cons => simp at hl
      | cons => cases l with
        | nil => simp at hl
        | cons => simp
  | str z =>
    cases rp; obtain ⟨t, rfl⟩ := rv
    have hs' : (if z.length ≤ sizeLine then R.ok ((z.length : Int) != 0) else R.stuck) ≠ .stuck := hs
    have hz : z.length ≤ sizeLine := Decidable.byContradiction fun c => hs' (by rw [if_neg c])
    refine PySem.P.truthy_str (by have : sizeLine < 2 ^ 63 := by decide
                                  omega) ⟨Hf, H, ?_, I.tok _, Ext.refl sm⟩
    show (if z.length ≤ sizeLine then R.ok ((z.length : Int) != 0) else R.stuck) = _
    rw [if_pos hz]
  | _ => exact absurd rfl hs
/-- an expression whose test is its value's truth -/
theorem mt_val {e : Expr} {f : FE} (h : ME X cl e f) (he : ∀ whole, isTrue e X.env whole = (do let v ← whole; standAt e.pos; holding [v] (truthy v)) := by intro _; rfl) : MT X cl e (tVal f) := by
  refine ⟨?_⟩
  intro pins s σ Hf0 H0 Hf H ρ I r hs
  unfold tVal at hs ⊢
  refine isTrue_plain (h.run I r (Ext.refl r.sub) hs fun p v u s1 Hf1 H1 e1 I1 rv x1 rp => ?_) (he _)
  rw [e1] at hs ⊢
  exact thn (truth_ok I1 x1.sub rv rp hs) fun _ _ q => q.from (e0 := x1)
theorem two_t {a b : Expr} {fa fb : FE} {f : Value → Value → Sem Value} {o : PV → PV → R PV} (ha : ME X cl a fa) (hb : ME X cl b fb) (rule : BinR X cl f o) (I : Inv X pins σ H s) (r : Rep X.K cl Hf0 H0 Hf H σ ρ) (hs : tVal (fBin o fa fb) ρ ≠ .stuck) :
    wpAny (model X.prog X.w) X.A (eval a X.env) (fun v s₁ => wpAny (model X.prog X.w) X.A (eval b X.env) (fun u s₂ => wpAny (model X.prog X.w) X.A (f v u)
      (fun c s₃ => wpAny (model X.prog X.w) X.A (truthy c) (OkT X pins σ Hf H (tVal (fBin o fa fb) ρ)) (ExP X cl pins σ Hf H (tVal (fBin o fa fb) ρ)) s₃)
      (ExP X cl pins σ Hf H (tVal (fBin o fa fb) ρ)) s₂) (ExP X cl pins σ Hf H (tVal (fBin o fa fb) ρ)) s₁) (ExP X cl pins σ Hf H (tVal (fBin o fa fb) ρ)) s := by
  unfold tVal at hs ⊢
  have hs' : fBin o fa fb ρ ≠ .stuck := fun z => hs (by rw [z]; rfl)
  refine wpAny_mono (two ha hb rule I r hs') (fun v s1 h1 => wpAny_mono h1 (fun u s2 h2 => wpAny_mono h2 (fun c s3 h3 => ?_) ?_) ?_) ?_
  · obtain ⟨p, v', Hf', H', e1, I', rv, ex, rp⟩ := h3
    rw [e1] at hs ⊢
    exact thn (truth_ok I' ex.sub rv rp hs) fun _ _ q => q.from (e0 := ex)
  all_goals
    intro u s' q
    obtain ⟨c, e1, x⟩ := q
    exact ⟨c, by rw [e1]; rfl, x⟩
theorem mt_cmp {a b : Expr} {fa fb : FE} {op : CmpOp} {o : PV → PV → R PV} {pos : Pos} (rule : BinR X cl (compareOp op) o) (ha : ME X cl a fa) (hb : ME X cl b fb) (hm : behindInMarks op b = false) : MT X cl (.Compare a [op] [b] pos) (tVal (fBin o fa fb)) := by
  refine ⟨?_⟩
  intro pins s σ Hf0 H0 Hf H ρ I r hs
  exact wpAny_isTrue_Compare1 (two_t ha hb rule I r hs) hm
theorem mt_not {a : Expr} {f : FT} {pos : Pos} (h : MT X cl a f) : MT X cl (.UnaryOp .Not a pos) (tNot f) := by
  refine ⟨?_⟩
  intro pins s σ Hf0 H0 Hf H ρ I r hs
  unfold tNot at hs ⊢
  refine isTrue_not (h.run I r (Ext.refl r.sub) hs fun c s1 Hf1 H1 e1 I1 x1 => ?_)
  rw [e1]
  exact ⟨Hf1, H1, rfl, I1, x1⟩
theorem mw_and1 {a : Expr} {f : FT} {pos : Pos} (h : MT X cl a f) : MW X cl (.BoolOp .And [a] pos) f := by
  refine ⟨?_⟩
  intro wh pins s σ Hf0 H0 Hf H ρ I r hs
  refine isTrue_and (thn (h pins s σ Hf0 H0 Hf H ρ I r hs) fun c s1 q => ?_)
  cases c with
  | true => exact isTrue_and_nil q
  | false => exact q
theorem mw_or1 {a : Expr} {f : FT} {pos : Pos} (h : MT X cl a f) : MW X cl (.BoolOp .Or [a] pos) f := by
  refine ⟨?_⟩
  intro wh pins s σ Hf0 H0 Hf H ρ I r hs
  refine isTrue_or (thn (h pins s σ Hf0 H0 Hf H ρ I r hs) fun c s1 q => ?_)
  cases c with
  | false => exact isTrue_or_nil q
  | true => exact q
theorem mw_and {a b : Expr} {rest : List Expr} {f g : FT} {pos : Pos} (h : MT X cl a f) (hb : MW X cl (.BoolOp .And (b :: rest) pos) g) : MW X cl (.BoolOp .And (a :: b :: rest) pos) (tAnd f g) := by
  refine ⟨?_⟩
  intro wh pins s σ Hf0 H0 Hf H ρ I r hs
  unfold tAnd at hs ⊢
  refine isTrue_and (h.run I r (Ext.refl r.sub) hs fun c s1 Hf1 H1 e1 I1 x1 => ?_)
  rw [e1] at hs ⊢
  cases c with
  | true => exact wpAny_mono (hb wh pins s1 σ Hf0 H0 Hf1 H1 ρ I1 (r.keep x1) hs) (fun _ _ q => q.from (e0 := x1)) fun _ _ q => q.from (e0 := x1)
  | false => exact ⟨Hf1, H1, rfl, I1, x1⟩
theorem mw_or {a b : Expr} {rest : List Expr} {f g : FT} {pos : Pos} (h : MT X cl a f) (hb : MW X cl (.BoolOp .Or (b :: rest) pos) g) : MW X cl (.BoolOp .Or (a :: b :: rest) pos) (tOr f g) := by
  refine ⟨?_⟩
  intro wh pins s σ Hf0 H0 Hf H ρ I r hs
  unfold tOr at hs ⊢
  refine isTrue_or (h.run I r (Ext.refl r.sub) hs fun c s1 Hf1 H1 e1 I1 x1 => ?_)
  rw [e1] at hs ⊢
  cases c with
  | false => exact wpAny_mono (hb wh pins s1 σ Hf0 H0 Hf1 H1 ρ I1 (r.keep x1) hs) (fun _ _ q => q.from (e0 := x1)) fun _ _ q => q.from (e0 := x1)
  | true => exact ⟨Hf1, H1, rfl, I1, x1⟩

theorem oBool_some {p : PV} (h : oBool p ≠ .stuck) : ∃ b, p = .bl b ∧ oBool p = .ok b := by
  cases p with
  | bl b => exact ⟨b, rfl, rfl⟩
  | _ => exact absurd rfl h
theorem me_one {a : Expr} {f : FE} {op : BoolOp} {pos : Pos} (h : ME X cl a f) : ME X cl (.BoolOp op [a] pos) f := ⟨fun pins s σ Hf0 H0 Hf H ρ I r hs => BoolOp_one (h pins s σ Hf0 H0 Hf H ρ I r hs)⟩
theorem me_and {a b : Expr} {rest : List Expr} {f g : FE} {pos : Pos} (h : ME X cl a f) (hb : ME X cl (.BoolOp .And (b :: rest) pos) g) : ME X cl (.BoolOp .And (a :: b :: rest) pos) (fAnd f g) := by
  refine ⟨?_⟩
  intro pins s σ Hf0 H0 Hf H ρ I r hs
  unfold fAnd at hs ⊢
  refine BoolOp_and (h.run I r (Ext.refl r.sub) hs fun p v u s1 Hf1 H1 e1 I1 rv x1 rp => ?_)
  rw [e1] at hs ⊢
  obtain ⟨c, rfl, e2⟩ := oBool_some (p := p) fun z => hs (by rw [z]; rfl)
  rw [e2] at hs ⊢
  cases rp; cases rv
  refine wpAny_truthy_bool ?_
  cases c with
  | true => exact wpAny_mono (hb pins s1 σ Hf0 H0 Hf1 H1 ρ I1 (r.keep x1) hs) (fun _ _ q => q.from (e0 := x1)) fun _ _ q => q.from (e0 := x1)
  | false => exact ⟨_, .bl false, Hf1, H1, rfl, I1, rfl, x1, .bl false⟩
theorem me_not {a : Expr} {f : FE} {pos : Pos} (h : ME X cl a f) : ME X cl (.UnaryOp .Not a pos) (fNot f) := by
  refine ⟨?_⟩
  intro pins s σ Hf0 H0 Hf H ρ I r hs
  unfold fNot at hs ⊢
  refine UnaryOp_ (h.run I r (Ext.refl r.sub) hs fun p v u s1 Hf1 H1 e1 I1 rv x1 rp => ?_)
  rw [e1] at hs ⊢
  obtain ⟨c, rfl, e2⟩ := oBool_some (p := p) fun z => hs (by rw [z]; rfl)
  rw [e2]
  cases rp; cases rv
  exact not_of (wpAny_truthy_bool ⟨_, .bl (!c), Hf1, H1, rfl, I1, rfl, x1, .bl _⟩)
theorem me_if {c a b : Expr} {t : FT} {f g : FE} {pos : Pos} (hc : MT X cl c t) (ha : ME X cl a f) (hb : ME X cl b g) : ME X cl (.IfExp c a b pos) (fIf t f g) := by
  refine ⟨?_⟩
  intro pins s σ Hf0 H0 Hf H ρ I r hs
  unfold fIf at hs ⊢
  refine wpAny_IfExp (hc.run I r (Ext.refl r.sub) hs fun d s1 Hf1 H1 e1 I1 x1 => ?_)
  rw [e1] at hs ⊢
  cases d with
  | true => exact wpAny_mono (ha pins s1 σ Hf0 H0 Hf1 H1 ρ I1 (r.keep x1) hs) (fun _ _ q => q.from (e0 := x1)) fun _ _ q => q.from (e0 := x1)
  | false => exact wpAny_mono (hb pins s1 σ Hf0 H0 Hf1 H1 ρ I1 (r.keep x1) hs) (fun _ _ q => q.from (e0 := x1)) fun _ _ q => q.from (e0 := x1)
/-- x op y op' z -/
theorem me_chain {a b c : Expr} {fa fb fc : FE} {op op' : CmpOp} {o o' : PV → PV → R PV} {pos : Pos} (h1 : BinR X cl (compareOp op) o) (h2 : BinR X cl (compareOp op') o') (ha : ME X cl a fa) (hb : ME X cl b fb) (hc : ME X cl c fc)
    (hm : lastMarks [op, op'] [b, c] = false := by with_unfolding_all rfl) : ME X cl (.Compare a [op, op'] [b, c] pos) (fChain o o' fa fb fc) := by
  refine ⟨?_⟩
  intro pins s σ Hf0 H0 Hf H ρ I r hs
  unfold fChain at hs ⊢
  refine Compare_chain (ha.run I r (Ext.refl r.sub) hs fun p v u s1 Hf1 H1 e1 I1 rv x1 rp => chain_link ?_) hm
  rw [e1] at hs ⊢
  refine hb.run I1 (r.keep x1) x1 hs fun q v' u' s2 Hf2 H2 e2 I2 rv' x2 rq => ?_
  rw [e2] at hs ⊢
  have x12 := x1.trans x2
  have ho : o p q ≠ .stuck := fun z => hs (by rw [z]; rfl)
  refine wpAny_mono (h1 pins s2 σ Hf2 H2 v v' u u' p q I2 x2.sub rv rv' (rp.keep x2.frz) rq ho) (fun d s3 h3 => ?_) fun d s3 h3 => ?_
  · obtain ⟨z, v3, Hf3, H3, e3, I3, rv3, x3, rp3⟩ := h3
    rw [e3] at hs ⊢
    have hs0 : (oBool z).bind (fun k => if k = true then (fc ρ).bind fun w => o' q w else R.ok (PV.bl false)) ≠ .stuck := hs
    obtain ⟨k, rfl, e4⟩ := oBool_some (p := z) fun y => hs0 (by rw [y]; rfl)
    cases rp3; cases rv3
    refine wpAny_truthy_bool ?_
    have x13 := x12.trans x3
    cases k with
    | false => exact ite_ff ⟨_, .bl false, Hf3, H3, rfl, I3, rfl, x13, .bl false⟩
    | true =>
      have hs1 : (fc ρ).bind (fun w => o' q w) ≠ .stuck := hs
      refine ite_tt (chain_last ?_)
      show wpAny _ _ _ (fun b s₁ => wpAny _ _ _ (OkP X cl pins σ Hf H ((fc ρ).bind fun w => o' q w)) (ExP X cl pins σ Hf H ((fc ρ).bind fun w => o' q w)) s₁) (ExP X cl pins σ Hf H ((fc ρ).bind fun w => o' q w)) s3
      refine hc.run I3 (r.keep x13) x13 hs1 fun w v5 u5 s5 Hf5 H5 e5 I5 rv5 x5 rw' => ?_
      rw [e5] at hs1 ⊢
      exact wpAny_mono (h2 pins s5 σ Hf5 H5 v' v5 u' u5 q w I5 x5.sub rv' rv5 (rq.keep (x3.trans x5).frz) rw' hs1) (fun _ _ q => q.from (e0 := x13.trans x5)) fun _ _ q => q.from (e0 := x13.trans x5)
  · obtain ⟨c, e3, y⟩ := h3
    exact ⟨c, by rw [e3]; rfl, y.from x12⟩
end
end Mi
set_option Elab.async false
set_option linter.all false
set_option autoImplicit false
set_option maxRecDepth 100000
set_option maxHeartbeats 4000000
namespace Mi
open PySem PySem.Spec PyProof.Rows L2
section
variable {X : Cx} {cl : Nat → Addr} {pins : List (Addr × Obj)} {s : Shared} {σ : SV} {Hf0 H0 Hf H Hf1 H1 : Hp} {ρ : MEnv} {α : Type}
structure MA (X : Cx) (cl : Nat → Addr) (es : List Expr) (f : FA) : Prop where
  len : ∀ ρ ps, f ρ = .ok ps → ps.length = es.length
  run' : ∀ (pos : Pos) (pins : List (Addr × Obj)) (s : Shared) (σ : SV) (Hf0 H0 Hf H : Hp) (ρ : MEnv), Inv X pins σ H s → Rep X.K cl Hf0 H0 Hf H σ ρ → f ρ ≠ .stuck →
    wpAny (model X.prog X.w) X.A (spliced (backTo pos (starEach es X.env))) (OkA X cl pins σ Hf H (f ρ)) (ExP X cl pins σ Hf H (f ρ)) s
theorem ma_nil : MA X cl [] aNil := ⟨fun _ ps h => by cases h; rfl, fun pos pins s σ Hf0 H0 Hf H ρ I r _ => Calls.spliced_nil ⟨[], [], Hf, H, rfl, I, .nil, Ext.refl r.sub, .nil⟩⟩
theorem ma_cons {e : Expr} {es : List Expr} {f : FE} {g : FA} (h : ME X cl e f) (hr : MA X cl es g) (hst : starEach (e :: es) X.env = (false, eval e X.env) :: starEach es X.env := by rfl) : MA X cl (e :: es) (aCons f g) := by
  refine ⟨fun ρ ps q => ?_, ?_⟩
  · unfold aCons at q
    cases e1 : f ρ with
    | stuck => rw [e1] at q; cases q
    | exc c => rw [e1] at q; cases q
    | ok p =>
      rw [e1] at q
      cases e2 : g ρ with
      | stuck => rw [R.bind_ok, e2] at q; cases q
      | exc c => rw [R.bind_ok, e2] at q; cases q
      | ok qs =>
        rw [R.bind_ok, e2] at q
        cases q
        have := hr.1 ρ qs e2
        rw [List.length_cons, List.length_cons, this]
  intro pos pins s σ Hf0 H0 Hf H ρ I r hs
  unfold aCons at hs ⊢
  rw [hst]
  show wpAny _ _ (spliced ((false, eval e X.env) :: backTo pos (starEach es X.env))) _ _ s
  refine Calls.spliced_cons (h.run I r (Ext.refl r.sub) hs fun p v u s1 Hf1 H1 e1 I1 rv x1 rp => ?_)
  rw [e1] at hs ⊢
  have hg : g ρ ≠ .stuck := fun z => hs (by rw [z]; rfl)
  refine wpAny_mono (hr.2 pos pins s1 σ Hf0 H0 Hf1 H1 ρ I1 (r.keep x1) hg) (fun us s2 h2 => ?_) fun u2 s2 h2 => ?_
  · obtain ⟨ps, vs, Hf2, H2, e2, I2, rvs, x2, rps⟩ := h2
    exact ⟨p :: ps, v :: vs, Hf2, H2, by rw [e2]; rfl, I2, .cons rv rvs, x1.trans x2, .cons (rp.keep x2.frz) rps⟩
  · obtain ⟨c, e2, y⟩ := h2
    exact ⟨c, by rw [e2]; rfl, y.from x1⟩
theorem MA.run {es : List Expr} {f : FA} (h : MA X cl es f) (pos : Pos) (I : Inv X pins σ H1 s) (r : Rep X.K cl Hf0 H0 Hf1 H1 σ ρ) (e0 : Ext Hf H Hf1 H1) {k : List PV → R α} (hs : (f ρ).bind k ≠ .stuck) {Q : List Value → Shared → Prop}
    (ok : ∀ ps vs us s' Hf' H', ps.length = es.length → (f ρ).bind k = k ps → Inv X pins σ H' s' → Vals vs us → Ext Hf1 H1 Hf' H' → Rps X.K cl Hf' vs ps → Q us s') :
    wpAny (model X.prog X.w) X.A (spliced (backTo pos (starEach es X.env))) Q (ExP X cl pins σ Hf H ((f ρ).bind k)) s := by
  have hf : f ρ ≠ .stuck := fun z => hs (by rw [z]; rfl)
  refine wpAny_mono (h.2 pos pins s σ Hf0 H0 Hf1 H1 ρ I r hf) (fun u s' q => ?_) fun u s' q => ?_
  · obtain ⟨ps, vs, Hf', H', e1, I', rv, ex, rp⟩ := q
    exact ok ps vs u s' Hf' H' (h.1 ρ ps e1) (by rw [e1]; rfl) I' rv ex rp
  · obtain ⟨c, e1, x⟩ := q
    exact ⟨c, by rw [e1]; rfl, x.from e0⟩
theorem laid_seq {o : HO} {p : PV} (hn : H s.heap.objs.size = none) (sm : Same Hf H) {h' : Heap} {tk : Nat} (I : Inv X pins σ (upd H s.heap.objs.size o) { s with heap := h', toks := tk })
    (rp : Rp X.K cl (upd Hf s.heap.objs.size o) (.ref s.heap.objs.size) p) : OkP X cl pins σ Hf H (.ok p) (.ref s.heap.objs.size) { s with heap := h', toks := tk } :=
  ⟨p, .ref s.heap.objs.size, _, _, rfl, I, rfl, Ext.new sm hn o, rp⟩
theorem me_tup {es : List Expr} {f : FA} {k : Nat} {pos : Pos} (h : MA X cl es f) : ME X cl (.Tuple es k pos) (fTup f) := by
  refine ⟨?_⟩
  intro pins s σ Hf0 H0 Hf H ρ I r hs
  unfold fTup at hs ⊢
  refine wpAny_Tuple_spliced (h.run pos I r (Ext.refl r.sub) hs fun ps vs us s1 Hf1 H1 _ e1 I1 rv x1 rps => ?_)
  rw [e1] at hs ⊢
  obtain ⟨hz, e2⟩ := ifOk hs
  rw [e2]
  have z : vs.length ≤ sizeLine := by rw [rps.length]; exact hz
  refine ⟨by rw [← rv.length]; exact z, ?_⟩
  have hf : H1 s1.heap.objs.size = none := I1.hok.fresh (Nat.le_refl _)
  refine OkP.from (e0 := x1) (laid_seq (tk := s1.toks) hf x1.sub (I1.laid (t' := s1.toks) (o := .tup vs) (fun b u e => Heap.get?_push_of_some _ e) (Nat.le_refl _) ?_) (.tup (SqT.of upd_same) (rps.keep (same_upd (x1.sub.free hf) _))))
  exact ⟨z, us, rv, ⟨_, Heap.get?_push_size _ rfl, rfl, _, rfl⟩⟩
theorem me_lst {es : List Expr} {f : FA} {pos : Pos} (h : MA X cl es f) : ME X cl (.List es pos) (fLst f) := by
  refine ⟨?_⟩
  intro pins s σ Hf0 H0 Hf H ρ I r hs
  unfold fLst at hs ⊢
  refine wpAny_List_spliced (h.run pos I r (Ext.refl r.sub) hs fun ps vs us s1 Hf1 H1 _ e1 I1 rv x1 rps => ?_)
  rw [e1] at hs ⊢
  obtain ⟨hz, e2⟩ := ifOk hs
  rw [e2]
  have z : vs.length ≤ sizeLine := by rw [rps.length]; exact hz
  refine ⟨by rw [← rv.length]; exact z, ?_⟩
  have hf : H1 s1.heap.objs.size = none := I1.hok.fresh (Nat.le_refl _)
  refine OkP.from (e0 := x1) (laid_seq (tk := s1.toks) hf x1.sub (I1.laid (t' := s1.toks) (o := .lst vs) (fun b u e => Heap.get?_push_of_some _ e) (Nat.le_refl _) ?_) (.lst (SqL.of upd_same) (rps.keep (same_upd (x1.sub.free hf) _))))
  exact ⟨z, us, 0, rv, Heap.get?_push_size _ rfl⟩

/-- how an exception lies behind a call -/
def CXm (cl : Nat → Addr) (P : Program) (w : World) : CXT := fun outer H s E e s' =>
  ∃ (a : Addr) (c : Nat) (H' : Hp) (B : Heap) (a0 : Value), e = .ref a ∧ s'.os = s.os ∧ AllBare s'.gens ∧ Un (frs outer) [] H H' s.heap s'.heap ∧ HOk P w H' s'.heap ∧ Heap.FlyingW B outer a (.ref (cl c)) a0 s'.heap ∧
    (∀ b o, s'.heap.get? b = some o → (H' b ≠ none ∨ ∃ o₀, s.heap.get? b = some o₀) → b ∉ frs outer → B.get? b = some o) ∧ NoD a s'.heap ∧ E (.ref (cl c)) none H'
/-- the promise of a def that the function F mirrors -/
def spF (K : PySem.W.Frag) (cl : Nat → Addr) (n : Nat) (F : List PV → R PV) : Sp := fun vs H Q E => vs.length = n ∧ ∃ Hf ps, Same Hf H ∧ Rps K cl Hf vs ps ∧ F ps ≠ .stuck ∧
  (∀ p v Hf' H', F ps = .ok p → Ext Hf H Hf' H' → Rp K cl Hf' v p → Q v H') ∧ ∀ c Hf' H', F ps = .exc c → Ext Hf H Hf' H' → E (.ref (cl c)) none H'
/-- a def of the text, by its mirror; dps: the defaults that a call with fewer arguments takes -/
structure Fn (X : Cx) (cl : Nat → Addr) (k : Nat) (x : Str) (n : Nat) (F : List PV → R PV) : Prop where
  ex : ∃ (f : Addr) (fd : FuncData) (ps : List Str), X.mg x = some (.ref f) ∧ PySem.W.keepIn X.K (.ref f) = true ∧ ps.length = n ∧ FnOk X.prog X.w X.K X.mg X.base (CXm cl X.prog X.w) k f fd ps (spF X.K cl n F) ∧ Binds X.K fd ps []
theorem xat_of {e : Value} {s' : Shared} {ps : List PV} {F : List PV → R PV} (I : Inv X pins σ H s) (sm : Same Hf H) (hst : X.stack = X.env :: X.outer) 
    (h : CXm cl X.prog X.w X.stack H s (fun u o H' => ∃ c Hf', F ps = .exc c ∧ Ext Hf H Hf' H' ∧ u = .ref (cl c)) e s') (inj : ∀ c d, cl c = cl d → c = d) (hex : ∀ b, b ∉ X.ex) : ExP X cl pins σ Hf H (F ps) e s' := by
  obtain ⟨a, c, H', B, a0, rfl, ho, hg, un, hok, fl, cov, nd, c', Hf', e1, ex, e2⟩ := h
  have ec : c' = c := inj _ _ (by injection e2 with e2; exact e2.symm)
  subst ec
  refine ⟨c', e1, a, Hf', H', rfl, I.call' ho un hok hg (fun b z => absurd z (by simp)), ex, B, a0, ?_, nd, .inr (.inr fl)⟩
  intro b o hb hc hn
  refine cov b o hb ?_ hn
  rcases hc with hc | ⟨p, hp, e⟩ | ⟨o₀, hc⟩ | ⟨x, hc⟩
  · exact .inl hc
  · right
    rw [← e]
    exact ⟨_, (I.pin p hp).1⟩
  · right
    by_cases hx : b ∈ X.ex
    · exact absurd hx (hex b)
    · exact I.base.there b o₀ hc hx
  · right
    obtain ⟨v, o', q, _⟩ := I.cell x b hc
    exact ⟨o', q⟩
theorem me_call {e : Expr} {es : List Expr} {g : FA} {x : Str} {p pos : Pos} {k n : Nat} {F : List PV → R PV} (hF : Fn X cl k x n F) (hr : Room k X.A) (hg : Gl X x) (hst : X.stack = X.env :: X.outer) (inj : ∀ c d, cl c = cl d → c = d) (hex : ∀ b, b ∉ X.ex)
    (ha : MA X cl (e :: es) g) (hl : (e :: es).length = n) (hdb : (x == ("__debug__" : Str)) = false := by decide) (he : starEach (e :: es) X.env = (false, eval e X.env) :: starEach es X.env := by rfl) (hpl : (backTo pos (starEach es X.env)).any (·.1) = false := by rfl) :
    ME X cl (.Call (.Name x p) (e :: es) [] pos) (fCall F g) := by
  obtain ⟨f, fd, ps, hm, hk, hn, hf, hb⟩ := hF.ex
  refine ⟨?_⟩
  intro pins s σ Hf0 H0 Hf H ρ I r hs
  unfold fCall at hs ⊢
  refine wpAny_Call_Name_kw (ld_glob I hg hm ?_ hdb)
  refine PySem.W.callWith_K (h₀ := X.base) I.ok.mod.kin hk (ha.run pos I r (Ext.refl r.sub) hs fun qs vs us s1 Hf1 H1 hq e1 I1 rv x1 rps => ⟨I1.kIn, ?_⟩) he hpl
  rw [e1] at hs ⊢
  have hv : vs.length = n := by rw [rps.length, hq, hl]
  have hsp : spF X.K cl n F vs H1 (fun v H' => ∃ p Hf', F qs = .ok p ∧ Ext Hf1 H1 Hf' H' ∧ Rp X.K cl Hf' v p) (fun u o H' => ∃ c Hf', F qs = .exc c ∧ Ext Hf1 H1 Hf' H' ∧ u = .ref (cl c)) :=
    ⟨hv, Hf1, qs, x1.sub, rps, hs, fun p v Hf' H' a b c => ⟨p, Hf', a, b, c⟩, fun c Hf' H' a b => ⟨c, Hf', a, b, rfl⟩⟩
  have hlu : (us ++ []).length = ps.length := by rw [List.append_nil, ← rv.length, hv, hn]
  have hbb := hb s1 us I1.kIn hlu
  rw [List.append_nil] at hbb
  refine wpAny_call (codeAny_mono (hf.run X.A X.stack s1 H1 ⟨us, []⟩ us vs _ _ hr I1.env0 hbb rv hsp) fun r s' hq' => ?_)
  cases r with
  | error e => exact ExP.from (e0 := x1) (xat_of I1 x1.sub hst hq' inj hex)
  | ok fl =>
    cases fl with
    | ret u =>
      obtain ⟨v, H', I', rv', p, Hf', e2, ex, rp⟩ := I1.after hq'
      exact ⟨p, v, Hf', H', e2, I', rv', x1.trans ex, rp⟩
    | next => exact False.elim hq'
    | brk => exact False.elim hq'
    | cont => exact False.elim hq'
end
end Mi
set_option Elab.async false
set_option linter.all false
set_option autoImplicit false
set_option maxRecDepth 100000
set_option maxHeartbeats 4000000
namespace Mi
open PySem PySem.Spec PyProof.Rows L2
section
variable {X : Cx} {cl : Nat → Addr} {pins : List (Addr × Obj)} {s : Shared} {σ : SV} {Hf0 H0 Hf H Hf1 H1 : Hp} {ρ : MEnv} {α : Type}
def CalR (X : Cx) (cl : Nat → Addr) (f : Value) (F : List PV → R PV) : Prop :=
  ∀ (pins : List (Addr × Obj)) (s : Shared) (σ : SV) (Hf H : Hp) (xs : List V) (us : List Value) (ps : List PV), Inv X pins σ H s → Same Hf H → Vals xs us → Rps X.K cl Hf xs ps → F ps ≠ .stuck →
    wpAny (model X.prog X.w) X.A (call f us) (OkP X cl pins σ Hf H (F ps)) (ExP X cl pins σ Hf H (F ps)) s
theorem me_callB {x : Str} {id : String} {e : Expr} {es : List Expr} {g : FA} {p pos : Pos} {F : List PV → R PV} (hc : CalR X cl (.builtin id) F) (hg : Gl X x) (hm : X.mg x = none) (hv : bootBuiltins x = some (.builtin id)) (ha : MA X cl (e :: es) g)
    (hn : x ≠ "__name__" := by decide) (hdb : (x == ("__debug__" : Str)) = false := by decide) (he : starEach (e :: es) X.env = (false, eval e X.env) :: starEach es X.env := by rfl) (hpl : (backTo pos (starEach es X.env)).any (·.1) = false := by rfl) :
    ME X cl (.Call (.Name x p) (e :: es) [] pos) (fCall F g) := by
  refine ⟨?_⟩
  intro pins s σ Hf0 H0 Hf H ρ I r hs
  unfold fCall at hs ⊢
  refine wpAny_Call_Name_kw (ld_blt I hg hm hv ?_ hn hdb)
  refine PyProof.Rows.callWith_builtin1 (ha.run pos I r (Ext.refl r.sub) hs fun qs vs us s1 Hf1 H1 _ e1 I1 rv x1 rps => ?_) he hpl
  rw [e1] at hs ⊢
  exact wpAny_mono (hc pins s1 σ Hf1 H1 vs us qs I1 x1.sub rv rps hs) (fun _ _ q => q.from (e0 := x1)) fun _ _ q => q.from (e0 := x1)
theorem me_callTy {x : Str} {T : String} {e : Expr} {es : List Expr} {g : FA} {p pos : Pos} {F : List PV → R PV} (hc : CalR X cl (.type T) F) (hg : Gl X x) (hm : X.mg x = none) (hv : bootBuiltins x = some (.type T)) (ha : MA X cl (e :: es) g)
    (hn : x ≠ "__name__" := by decide) (hdb : (x == ("__debug__" : Str)) = false := by decide) (he : starEach (e :: es) X.env = (false, eval e X.env) :: starEach es X.env := by rfl) (hpl : (backTo pos (starEach es X.env)).any (·.1) = false := by rfl) :
    ME X cl (.Call (.Name x p) (e :: es) [] pos) (fCall F g) := by
  refine ⟨?_⟩
  intro pins s σ Hf0 H0 Hf H ρ I r hs
  unfold fCall at hs ⊢
  refine wpAny_Call_Name_kw (ld_blt I hg hm hv ?_ hn hdb)
  refine PyProof.Rows.callWith_type1 (ha.run pos I r (Ext.refl r.sub) hs fun qs vs us s1 Hf1 H1 _ e1 I1 rv x1 rps => ?_) he hpl
  rw [e1] at hs ⊢
  exact wpAny_mono (hc pins s1 σ Hf1 H1 vs us qs I1 x1.sub rv rps hs) (fun _ _ q => q.from (e0 := x1)) fun _ _ q => q.from (e0 := x1)
/-- the layer's own form of a rule -/
theorem okp' {t : Sem Value} {p : PV} {E : Value → Shared → Prop} {rr : R PV} (hr : rr = .ok p)
    (h : ∀ E, wpAny (model X.prog X.w) X.A t (EP (X.wish E) pins σ fun v H' => ∃ Hf', Ext Hf H Hf' H' ∧ Rp X.K cl Hf' v p) E s) : wpAny (model X.prog X.w) X.A t (OkP X cl pins σ Hf H rr) E s := by
  rw [hr]; exact okp (h E)
theorem rps1' {p : PV} {vs : List V} {K : PySem.W.Frag} (h : Rps K cl Hf vs [p]) : ∃ v, vs = [v] ∧ Rp K cl Hf v p := by
  cases h with
  | cons r t => cases t; exact ⟨_, rfl, r⟩
theorem rps2' {p q : PV} {vs : List V} {K : PySem.W.Frag} (h : Rps K cl Hf vs [p, q]) : ∃ v w, vs = [v, w] ∧ Rp K cl Hf v p ∧ Rp K cl Hf w q := by
  cases h with
  | cons r t =>
    cases t with
    | cons r' t' => cases t'; exact ⟨_, _, rfl, r, r'⟩
theorem c_len : CalR X cl (.builtin "len") bLen := by
  intro pins s σ Hf H xs us ps I sm rv rps hs
  match ps, rps, hs with
  | [.tup l], rps, hs =>
    obtain ⟨v, rfl, rp⟩ := rps1' rps
    cases rp with
    | tup h r =>
      refine okp' (p := .int l.length) rfl fun E => (call_len_seq (X := X.wish E)) pins s σ H _ us _ (I.wish E) rv ?_
      exact ⟨_, _, rfl, .inr (Same.seqT sm h), Hf, Ext.refl sm, by rw [r.length]; exact .int _⟩
  | [.lst l], rps, hs =>
    obtain ⟨v, rfl, rp⟩ := rps1' rps
    cases rp with
    | lst h r =>
      refine okp' (p := .int l.length) rfl fun E => (call_len_seq (X := X.wish E)) pins s σ H _ us _ (I.wish E) rv ?_
      exact ⟨_, _, rfl, .inl (sm.seq h), Hf, Ext.refl sm, by rw [r.length]; exact .int _⟩
  | [.str z], rps, hs =>
    obtain ⟨v, rfl, rp⟩ := rps1' rps
    cases rp
    obtain ⟨hz, e⟩ := ifOk hs
    refine okp' (p := .int z.length) e fun E => (call_len_str (X := X.wish E)) pins s σ H _ us _ (I.wish E) rv ?_
    exact ⟨_, rfl, hz, Hf, Ext.refl sm, .int _⟩
  | [], _, hs => exact absurd rfl hs
  | [.non], _, hs => exact absurd rfl hs
  | [.bl _], _, hs => exact absurd rfl hs
  | [.int _], _, hs => exact absurd rfl hs
  | [.exc _], _, hs => exact absurd rfl hs
  | [.dic0], _, hs => exact absurd rfl hs
  | [.own _], _, hs => exact absurd rfl hs
  | _ :: _ :: _, _, hs => exact absurd (by unfold bLen; split <;> first | rfl | (rename_i h; cases h)) hs
theorem c_list : CalR X cl (.type "list") bList := by
  intro pins s σ Hf H xs us ps I sm rv rps hs
  have : (∃ l, ps = [.tup l]) ∨ ∃ l, ps = [.lst l] := by
    unfold bList at hs
    split at hs
    · exact .inl ⟨_, rfl⟩
    · exact .inr ⟨_, rfl⟩
    · exact absurd rfl hs
  rcases this with ⟨l, rfl⟩ | ⟨l, rfl⟩
  · obtain ⟨v, rfl, rp⟩ := rps1' rps
    cases rp with
    | tup h r =>
      refine okp' rfl fun E => (call_list_of (X := X.wish E)) pins s σ H _ us _ (I.wish E) rv ?_
      exact ⟨_, _, rfl, .inr (Same.seqT sm h), fun q hq => ⟨_, Ext.new sm hq _, .lst (SqL.of upd_same) (r.keep (same_upd (sm.free hq) _))⟩⟩
  · obtain ⟨v, rfl, rp⟩ := rps1' rps
    cases rp with
    | lst h r =>
      refine okp' rfl fun E => (call_list_of (X := X.wish E)) pins s σ H _ us _ (I.wish E) rv ?_
      exact ⟨_, _, rfl, .inl (sm.seq h), fun q hq => ⟨_, Ext.new sm hq _, .lst (SqL.of upd_same) (r.keep (same_upd (sm.free hq) _))⟩⟩
theorem r_add : BinR X cl (binaryOp .Add) oAdd := by
  intro pins s σ Hf H x y v u p q I sm rv ru rp rq hs
  cases p <;> cases q <;> first
    | exact absurd rfl hs
    | skip
  · rename_i i j
    cases rp; cases rq
    obtain ⟨t, rfl⟩ := rv
    obtain ⟨t', rfl⟩ := ru
    exact add_int ⟨_, .int (i + j), Hf, H, rfl, I.tok _, ⟨_, rfl⟩, Ext.refl sm, .int _⟩
  · rename_i i j
    obtain ⟨hz, e⟩ := ifOk hs
    cases rp; cases rq
    refine okp' e fun E => (op_add_str (X := X.wish E)) pins s σ H _ _ v u _ (I.wish E) rv ru ?_
    exact ⟨i, j, rfl, rfl, hz, Hf, Ext.refl sm, .str _⟩
  · rename_i i j
    obtain ⟨⟨⟨hz1, hz2⟩, hz⟩, e⟩ := ifOk hs
    cases rp with
    | tup h1 r1 =>
      cases rq with
      | tup h2 r2 =>
        cases rv; cases ru
        obtain ⟨its, w1, p1, z1⟩ := I.tuple (Same.seqT sm h1)
        obtain ⟨its2, w2, p2, z2⟩ := I.tuple (Same.seqT sm h2)
        have l1 := w1.length
        have l2 := w2.length
        have l3 := r1.length
        have l4 := r2.length
        rw [show oAdd (.tup i) (.tup j) = _ from e]
        refine HT.cat_tup p1 p2 (fun q => by rw [q] at l1; simp only [List.length_nil] at l1; omega) (fun q => by rw [q] at l2; simp only [List.length_nil] at l2; omega) (fun _ => ?_) (by omega)
        exact laid_seq (tk := s.toks) I.fresh sm (I.laid (t' := s.toks) (o := .tup _) (fun b u e => Heap.get?_push_of_some _ e) (Nat.le_refl _) ⟨by rw [List.length_append]; omega, its ++ its2, w1.append w2, ⟨_, Heap.get?_push_size _ rfl, rfl, 0, rfl⟩⟩) (.tup (SqT.of upd_same) ((r1.append r2).keep (same_upd (sm.free I.fresh) _)))
  · rename_i i j
    obtain ⟨hz, e⟩ := ifOk hs
    cases rp with
    | lst h1 r1 =>
      cases rq with
      | lst h2 r2 =>
        cases rv; cases ru
        obtain ⟨its, w1, p1, z1⟩ := I.list (sm.seq h1)
        obtain ⟨its2, w2, p2, z2⟩ := I.list (sm.seq h2)
        have l1 := w1.length
        have l2 := w2.length
        have l3 := r1.length
        have l4 := r2.length
        have e0 : its.toArray ++ its2.toArray = (its ++ its2).toArray := by simp
        obtain ⟨⟨cls, dd, data, sl⟩, ho, hc, n, hd⟩ := id p1.isList
        obtain ⟨⟨cls2, dd2, data2, sl2⟩, ho2, hc2, n2, hd2⟩ := id p2.isList
        simp only at hc hd hc2 hd2
        subst hc hd hc2 hd2
        rw [show oAdd (.lst i) (.lst j) = _ from e]
        refine concat_meets ⟨_, ho, rfl⟩ ⟨_, ho2, rfl⟩ noFill_list_add seq_list_add PySem.F.slot_list_add PySem.F.entry_list_add (PySem.F.args_list_add_2 _ _) (list_addW _ _ its.toArray its2.toArray n n2 dd dd2 sl sl2 (by simp only [List.size_toArray]; omega)) ⟨ho, ho2, ?_⟩
        rw [e0]
        exact laid_seq (tk := s.toks) I.fresh sm (I.lnew (t' := s.toks) (w1.append w2) (by rw [List.length_append]; omega)) (.lst (SqL.of upd_same) ((r1.append r2).keep (same_upd (sm.free I.fresh) _)))

theorem t_notN {a : Expr} {fa : FE} {j : Nat} {pos pos' : Pos} (ha : ME X cl a fa) : MT X cl (.Compare a [.IsNot] [.Constant .none j pos'] pos) (tVal (fUn cNotN fa)) := by
  refine ⟨?_⟩
  intro pins s σ Hf0 H0 Hf H ρ I r hs
  have assoc : ∀ {β γ δ : Type} (x : R β) (f : β → R γ) (g : γ → R δ), (x.bind f).bind g = x.bind fun y => (f y).bind g := fun x f g => by cases x <;> rfl
  unfold tVal fUn at hs ⊢
  rw [assoc] at hs ⊢
  refine wpAny_isTrue_Compare1 (ha.run I r (Ext.refl r.sub) hs fun p v u s1 Hf1 H1 e1 I1 rv x1 rp => ?_) (nobehind _ (by decide) (by decide))
  rw [e1]
  refine Constant_none (isnot_none_gen (wpAny_truthy_bool ⟨Hf1, H1, ?_, I1, x1⟩))
  rw [rv.none_iff]
  cases rp <;> rfl
theorem flat_of {K : PySem.W.Frag} {v : V} {p : PV} (h : Rp K cl Hf v p) (f : flatP p = true) : flatV v = true := by
  cases h <;> first | rfl | (simp [flatP] at f)
theorem eqV_of {K : PySem.W.Frag} {v w : V} {p q : PV} (h : Rp K cl Hf v p) (h' : Rp K cl Hf w q) (f : flatP p = true) (g : flatP q = true) : eqV v w = eqPV p q := by
  cases h <;> cases h' <;> first | rfl | (simp [flatP] at f; done) | (simp [flatP] at g; done)
theorem any_of {K : PySem.W.Frag} {w : V} {q : PV} (h' : Rp K cl Hf w q) (g : flatP q = true) : ∀ {vs : List V} {ps : List PV}, Rps K cl Hf vs ps → ps.all flatP = true → vs.all flatV = true ∧ (vs.any fun y => eqV y w) = ps.any fun z => eqPV z q
  | _, _, .nil, _ => ⟨rfl, rfl⟩
  | _, _, .cons r t, f => by
    rw [List.all_cons, Bool.and_eq_true] at f
    obtain ⟨a, b⟩ := any_of h' g t f.2
    exact ⟨by rw [List.all_cons, flat_of r f.1, a]; rfl, by rw [List.any_cons, List.any_cons, eqV_of r h' f.1 g, b]⟩
theorem str_no_dict (b : Str) (u : Tok) (l : Addr) (o : Obj) {es : Array DictEntry} {ep : Nat} (hc : o.cls = .type "dict") (hd : o.data = .dict es ep) : Meets (Builtin.«str.__eq__» ⟨[.str b u, .ref l], []⟩) (fun _ R s => s.heap.get? l = some o ∧ R (.ok (.ret .notImplemented)) s) := by
  refine .of_wp fun prog w A R s h => ?_
  obtain ⟨hp, g, d, tk, os⟩ := s
  obtain ⟨hl, h⟩ := h
  obtain ⟨c, dd, dt, sl⟩ := o
  cases hc
  cases hd
  have f1 := F.sub_dict_str
  wp_walk using wpAny_loadPart' hl, wpAny_load hl
  exact ⟨_, rfl, h⟩
theorem dict_no_str (b : Str) (u : Tok) (l : Addr) (o : Obj) (hc : o.cls = .type "dict") : Meets (Builtin.«dict.__eq__» ⟨[.ref l, .str b u], []⟩) (fun _ R s => s.heap.get? l = some o ∧ R (.ok (.ret .notImplemented)) s) := by
  refine .of_wp fun prog w A R s h => ?_
  obtain ⟨hp, g, d, tk, os⟩ := s
  obtain ⟨hl, h⟩ := h
  obtain ⟨c, dd, dt, sl⟩ := o
  cases hc
  have f1 := F.sub_str_dict
  wp_walk using wpAny_loadPart' hl, wpAny_load hl
  exact ⟨_, rfl, h⟩
theorem dict_str_at {A : Around} {b : Str} {u : Tok} {l : Addr} {o : Obj} {es : Array DictEntry} {ep : Nat} (hl : s.heap.get? l = some o) (hc : o.cls = .type "dict") (hd : o.data = .dict es ep) (hu : A.units < cLine) : SeqAt.RcAt A s (.ref l) (.str b u) false := fun prog w E Q h => by
  have ty : s.TypeIs (.ref l) "dict" := ⟨o, hl, hc⟩
  refine SeqAt.rc_eq_decline_or (k := false) ty (typeIs_str s b u) (by decide) F.sub_str_dict F.slot_dict_eq F.slot_str_eq_refl (fun _ q => ?_) (fun _ q => ?_) (fun _ q => ?_) (.inr hu) h
  · exact call_meets F.slot_dict_eq ty F.entry_dict_eq (F.args_dict_eq_2 _ _) (dict_no_str b u l o hc) ⟨hl, q⟩
  · exact call_meets F.slot_str_eq_refl (typeIs_str s b u) F.entry_str_eq (F.args_str_eq_2 _ _) (str_no_dict b u l o hc hd) ⟨hl, q⟩
  · exact wpAny_of_eq (rfl : isSame (.ref l) (.str b u) = pure false) q
theorem dic_at {l : Addr} (I : Inv X pins σ H s) (sm : Same Hf H) (h : Hf l = some (.dK [])) : ∃ o es ep, s.heap.get? l = some o ∧ o.cls = .type "dict" ∧ o.data = .dict es ep := by
  obtain ⟨_, _, vs, _, p⟩ := (show ObjOk X.prog X.w H s.heap l (.dK []) from I.hok l _ (sm _ _ h))
  obtain ⟨o, es, ep, h1, h2, h3, _⟩ := p
  exact ⟨o, es, ep, h1, h2.1, h3⟩
theorem r_in : BinR X cl (compareOp .In) cIn := by
  intro pins s σ Hf H x y v u p q I sm rv ru rp rq hs
  cases q <;> first
    | exact absurd rfl hs
    | skip
  · rename_i z
    cases p <;> first
      | exact absurd rfl hs
      | skip
    cases rp; cases rq
    refine okp' rfl fun E => (op_in_str (X := X.wish E)) pins s σ H _ _ v u _ (I.wish E) rv ru ?_
    exact ⟨_, _, rfl, rfl, Hf, Ext.refl sm, .bl _⟩
  · rename_i l
    obtain ⟨hc, e⟩ := ifOk hs
    rw [Bool.and_eq_true] at hc
    cases rq with
    | tup h r =>
      obtain ⟨f1, f2⟩ := any_of rp hc.1 r hc.2
      refine okp' e fun E => (op_in_seq (X := X.wish E)) pins s σ H _ _ v u _ (I.wish E) rv ru ?_
      exact ⟨_, _, rfl, .inr (Same.seqT sm h), flat_of rp hc.1, f1, Hf, Ext.refl sm, by show Rp _ _ _ (.bl (inV x _)) _; unfold inV; rw [f2]; exact .bl _⟩
  · rename_i l
    obtain ⟨hc, e⟩ := ifOk hs
    rw [Bool.and_eq_true] at hc
    cases rq with
    | lst h r =>
      obtain ⟨f1, f2⟩ := any_of rp hc.1 r hc.2
      refine okp' e fun E => (op_in_seq (X := X.wish E)) pins s σ H _ _ v u _ (I.wish E) rv ru ?_
      exact ⟨_, _, rfl, .inl (sm.seq h), flat_of rp hc.1, f1, Hf, Ext.refl sm, by show Rp _ _ _ (.bl (inV x _)) _; unfold inV; rw [f2]; exact .bl _⟩
theorem itemP_of {K : PySem.W.Frag} {l : List PV} {i : Int} {vs : List V} (h : itemP l i ≠ .stuck) (r : Rps K cl Hf vs l) : ∃ v p, itemP l i = .ok p ∧ atI vs i = some v ∧ Rp K cl Hf v p := by
  unfold itemP at h ⊢
  unfold atI
  have e : ixN vs.length i = ixP l.length i := by rw [r.length]; rfl
  rw [e]
  cases q : ixP l.length i with
  | none => rw [q] at h; exact absurd rfl h
  | some j =>
    rw [q] at h
    dsimp only at h ⊢
    cases w : l[j]? with
    | none => rw [w] at h; exact absurd rfl h
    | some p =>
      obtain ⟨v, h1, h2⟩ := r.get w
      exact ⟨v, p, rfl, h1, h2⟩
theorem me_item {a b : Expr} {fa fb : FE} {pos : Pos} (ha : ME X cl a fa) (hb : ME X cl b fb) (hx : PlainIx b := by intro _ _; rfl) : ME X cl (.Subscript a b pos) (fBin oItem fa fb) := by
  refine ⟨?_⟩
  intro pins s σ Hf0 H0 Hf H ρ I r hs
  refine Subscript_ ?_
  have rule : BinR X cl (fun v u => subscriptTail a b v u) oItem := by
    intro pins s σ Hf H x y v u p q I sm rv ru rp rq hs
    cases q <;> first
      | (cases p <;> exact absurd rfl hs)
      | skip
    rename_i i
    cases rq
    cases p <;> first
      | exact absurd rfl hs
      | skip
    · rename_i z
      cases rp
      have hs' : oItem (.str z) (.int i) ≠ .stuck := hs
      unfold oItem at hs' ⊢
      dsimp only at hs' ⊢
      cases w : ixP z.cps.toList.length i with
      | none => rw [w] at hs'; exact absurd rfl hs'
      | some j =>
        rw [w] at hs'
        dsimp only at hs' ⊢
        cases w2 : z.cps.toList[j]? with
        | none => rw [w2] at hs'; exact absurd rfl hs'
        | some c =>
          rw [w2] at hs'
          dsimp only at hs' ⊢
          obtain ⟨hz, e⟩ := ifOk hs'
          refine okp' e fun E => (ix_str (X := X.wish E)) a b pins s σ H _ _ v u _ (I.wish E) rv ru ?_ (hx _ _)
          refine ⟨z, i, c, rfl, rfl, hz, ?_, Hf, Ext.refl sm, .str _⟩
          unfold atI
          have e2 : ixN z.cps.toList.length i = some j := w
          rw [e2]
          exact w2
    · rename_i l
      cases rp with
      | tup h r =>
        obtain ⟨v', p', e1, e2, e3⟩ := itemP_of (show itemP l i ≠ .stuck from hs) r
        refine okp' (show oItem (.tup l) (.int i) = .ok p' from e1) fun E => (ix_tup (X := X.wish E)) a b pins s σ H _ _ v u _ (I.wish E) rv ru ?_ (hx _ _)
        exact ⟨_, _, i, v', rfl, rfl, Same.seqT sm h, e2, Hf, Ext.refl sm, e3⟩
    · rename_i l
      cases rp with
      | lst h r =>
        obtain ⟨v', p', e1, e2, e3⟩ := itemP_of (show itemP l i ≠ .stuck from hs) r
        refine okp' (show oItem (.lst l) (.int i) = .ok p' from e1) fun E => (ix_list (X := X.wish E)) a b pins s σ H _ _ v u _ (I.wish E) rv ru ?_ (hx _ _)
        exact ⟨_, _, i, v', rfl, rfl, sm.seq h, e2, Hf, Ext.refl sm, e3⟩
  exact two ha hb rule I r hs

structure MO (X : Cx) (cl : Nat → Addr) (e : Option Expr) (f : FO) : Prop where
  run' : ∀ (pins : List (Addr × Obj)) (s : Shared) (σ : SV) (Hf0 H0 Hf H : Hp) (ρ : MEnv), Inv X pins σ H s → Rep X.K cl Hf0 H0 Hf H σ ρ → f ρ ≠ .stuck →
    wpAny (model X.prog X.w) X.A (evalPart e X.env) (fun u s' => ∃ o Hf' H', f ρ = .ok o ∧ Inv X pins σ H' s' ∧ IsPart u o ∧ Ext Hf H Hf' H') (ExP X cl pins σ Hf H (f ρ)) s
instance {X : Cx} {cl : Nat → Addr} {e : Option Expr} {f : FO} : CoeFun (MO X cl e f) fun _ => ∀ (pins : List (Addr × Obj)) (s : Shared) (σ : SV) (Hf0 H0 Hf H : Hp) (ρ : MEnv), Inv X pins σ H s → Rep X.K cl Hf0 H0 Hf H σ ρ → f ρ ≠ .stuck →
    wpAny (model X.prog X.w) X.A (evalPart e X.env) (fun u s' => ∃ o Hf' H', f ρ = .ok o ∧ Inv X pins σ H' s' ∧ IsPart u o ∧ Ext Hf H Hf' H') (ExP X cl pins σ Hf H (f ρ)) s := ⟨MO.run'⟩
theorem mo_none : MO X cl none oNone := by
  refine ⟨?_⟩
  intro pins s σ Hf0 H0 Hf H ρ I r hs
  rw [evalPart_none]
  exact wpAny_pure ⟨none, Hf, H, rfl, I, .none, Ext.refl r.sub⟩
theorem mo_some {e : Expr} {f : FE} (h : ME X cl e f) : MO X cl (some e) (oSome f) := by
  refine ⟨?_⟩
  intro pins s σ Hf0 H0 Hf H ρ I r hs
  rw [evalPart_some]
  unfold oSome at hs ⊢
  refine h.run I r (Ext.refl r.sub) hs fun p v u s1 Hf1 H1 e1 I1 rv x1 rp => ?_
  rw [e1] at hs ⊢
  cases p <;> first
    | exact absurd rfl hs
    | skip
  rename_i i
  cases rp
  obtain ⟨t, rfl⟩ := rv
  exact ⟨some i, Hf1, H1, rfl, I1, .int i t, x1⟩
theorem MO.run {e : Option Expr} {f : FO} (h : MO X cl e f) (I : Inv X pins σ H1 s) (r : Rep X.K cl Hf0 H0 Hf1 H1 σ ρ) (e0 : Ext Hf H Hf1 H1) {k : Option Int → R α} (hs : (f ρ).bind k ≠ .stuck) {Q : Value → Shared → Prop}
    (ok : ∀ o u s' Hf' H', (f ρ).bind k = k o → Inv X pins σ H' s' → IsPart u o → Ext Hf1 H1 Hf' H' → Q u s') :
    wpAny (model X.prog X.w) X.A (evalPart e X.env) Q (ExP X cl pins σ Hf H ((f ρ).bind k)) s := by
  have hf : f ρ ≠ .stuck := fun z => hs (by rw [z]; rfl)
  refine wpAny_mono (h pins s σ Hf0 H0 Hf1 H1 ρ I r hf) (fun u s' q => ?_) fun u s' q => ?_
  · obtain ⟨o, Hf', H', e1, I', hp, ex⟩ := q
    exact ok o u s' Hf' H' (by rw [e1]; rfl) I' hp ex
  · obtain ⟨c, e1, x⟩ := q
    exact ⟨c, by rw [e1]; rfl, x.from e0⟩
theorem slP_le (n d : Nat) (hd : d ≤ n) (o : Option Int) : slP n d o ≤ n := by
  cases o with
  | none => exact hd
  | some v => unfold slP; simp only; split <;> omega
theorem indices_eq (n : Nat) (lo hi : Option Int) : Builtin.Str.strSliceIndices lo hi 1 n = (List.range (slP n n hi - slP n 0 lo)).map (slP n 0 lo + ·) := by
  have clip : ∀ (o : Option Int) (d : Nat), d ≤ n → (match o with
      | none => (d : Int)
      | some i => if (1 : Int) > 0 then max 0 (min (if i < 0 then i + (n : Int) else i) (n : Int)) else max (-1) (min (if i < 0 then i + (n : Int) else i) ((n : Int) - 1))) = (slP n d o : Int) := by
    intro o d hd
    cases o with
    | none => rfl
    | some i =>
      simp only [slP]
      rw [if_pos (by decide)]
      by_cases h : i < 0
      · rw [if_pos h, if_pos h]; omega
      · rw [if_neg h, if_neg h]; omega
  have c1 := clip lo 0 (Nat.zero_le n)
  have c2 := clip hi n (Nat.le_refl n)
  refine (congr (congrArg (fun p q => sliceRange p q 1) c1) c2 : Builtin.Str.strSliceIndices lo hi 1 n = sliceRange (slP n 0 lo : Int) (slP n n hi : Int) 1).trans ?_
  generalize slP n 0 lo = a
  generalize slP n n hi = b
  unfold sliceRange
  simp only [show (1 : Int) > 0 from by decide, if_true]
  have hc : (if (a : Int) < (b : Int) then ((b : Int) - (a : Int) + 1 - 1) / 1 else 0).toNat = b - a := by
    by_cases h : (a : Int) < (b : Int)
    · rw [if_pos h, Int.ediv_one]; omega
    · rw [if_neg h]; omega
  rw [hc]
  refine List.map_congr_left fun k _ => ?_
  omega
theorem sCut_eq (z : Str) (lo hi : Option Int) : Txt.slice z lo hi = sCut z lo hi := by
  have hn : z.length = z.cps.toList.length := by show z.cps.size = _; simp
  have hlo := slP_le z.cps.toList.length 0 (Nat.zero_le _) lo
  have hhi := slP_le z.cps.toList.length z.cps.toList.length (Nat.le_refl _) hi
  unfold Txt.slice sCut
  rw [hn, indices_eq]
  generalize slP z.cps.toList.length 0 lo = a at hlo ⊢
  generalize slP z.cps.toList.length z.cps.toList.length hi = b at hhi ⊢
  split
  · rename_i h
    simp only [List.length_map, List.length_range, beq_self_eq_true, Bool.true_and, beq_iff_eq] at h
    by_cases hz : z.cps.toList.length = 0
    · have e : z.cps.toList = [] := List.length_eq_zero_iff.mp hz
      rw [e]; simp only [List.drop_nil, List.take_nil]
      cases z with | mk c => simp at e ⊢; exact e
    · have ha : a = 0 := by omega
      have hb : b = z.cps.toList.length := by omega
      subst ha; subst hb
      rw [List.drop_zero, Nat.sub_zero, List.take_length]
  · congr 1
    congr 1
    by_cases hab : a ≤ b
    · have := StrLaws.sliced_plain z (a := a) (b := b) hab (by rw [hn]; exact hhi)
      rw [StrLaws.strSliceIndices_plain hab (by rw [hn]; exact hhi)] at this
      exact this
    · rw [show b - a = 0 by omega]; simp
theorem me_cut {e : Expr} {lo hi : Option Expr} {f : FE} {l h : FO} {p2 pos : Pos} (he : ME X cl e f) (hl : MO X cl lo l) (hh : MO X cl hi h) : ME X cl (.Subscript e (.Slice lo hi none p2) pos) (fCut f l h) := by
  refine ⟨?_⟩
  intro pins s σ Hf0 H0 Hf H ρ I r hs
  unfold fCut at hs ⊢
  refine Subscript_ (he.run I r (Ext.refl r.sub) hs fun p v u s1 Hf1 H1 e1 I1 rv x1 rp => ?_)
  rw [e1] at hs ⊢
  refine wpAny_Slice (hl.run I1 (r.keep x1) x1 hs fun o vl s2 Hf2 H2 e2 I2 hp2 x2 => ?_)
  rw [e2] at hs ⊢
  have x12 := x1.trans x2
  refine hh.run I2 (r.keep x12) x12 hs fun o' vu s3 Hf3 H3 e3 I3 hp3 x3 => ?_
  rw [e3] at hs ⊢
  have x13 := x12.trans x3
  rw [evalPart_none]
  refine wpAny_pure ?_
  have I4 : Inv X pins σ H3 { s3 with heap := s3.heap.push { cls := .type "slice", data := .fields #[vl, vu, .none] } } := I3.kept (t' := s3.toks) fun b ob q => Heap.get?_push_of_some _ q
  cases p <;> first
    | exact absurd rfl hs
    | skip
  · rename_i z
    obtain ⟨hz, e⟩ := ifOk hs
    rw [show oCut (.str z) o o' = .ok (.str (sCut z o o')) from e]
    cases rp
    obtain ⟨t, rfl⟩ := rv
    generalize ExP X cl pins σ Hf H _ = E
    have fin : ∀ (l u : Option (Int × Tok)), l.map (·.1) = o → u.map (·.1) = o' → ∀ {E : Value → Shared → Prop}, vl = partValue l → vu = partValue u → wpAny (model X.prog X.w) X.A (getItem (.str z t) (.ref s3.heap.objs.size)) (OkP X cl pins σ Hf H (.ok (.str (sCut z o o')))) E { s3 with heap := s3.heap.push { cls := .type "slice", data := .fields #[vl, vu, .none] } } := by
      intro l u hl hu E el eu
      subst el eu
      refine wpAny_getItem_str_slice (l := l) (u := u) (st := none) ⟨_, Heap.get?_push_size _ rfl, rfl, rfl⟩ rfl ?_
      have e2 : Txt.slice z (l.map (·.1)) (u.map (·.1)) = sCut z o o' := by rw [hl, hu]; exact sCut_eq z o o'
      refine post_val_or_str ⟨Nat.le_trans (Txt.slice_le z (l.map (·.1)) (u.map (·.1))) hz, fun t' k => ?_⟩
      refine ⟨_, .str (sCut z o o'), Hf3, H3, rfl, I4.tok _, ⟨t', ?_⟩, x13, .str _⟩
      rw [← e2]
      rfl
    refine tail_any (ops := [.ref s3.heap.objs.size, .str z t]) (typeIs_str _ _ _) F.slot_str_getitem.lookup ?_ (by with_unfolding_all rfl)
    cases hp2 with
    | none => cases hp3 with
      | none => exact fin none none rfl rfl rfl rfl
      | int j tj => exact fin none (some (j, tj)) rfl rfl rfl rfl
    | int i ti => cases hp3 with
      | none => exact fin (some (i, ti)) none rfl rfl rfl rfl
      | int j tj => exact fin (some (i, ti)) (some (j, tj)) rfl rfl rfl rfl
  rename_i l'
  have rp3 := rp.keep (x2.trans x3).frz
  cases rp3 with
  | lst hq rr =>
    have ecut : ∀ xs : List V, Rps X.K cl Hf3 xs l' → Rps X.K cl Hf3 (cutV xs o o') (cutP l' o o') := fun xs rx => by
      unfold cutV cutP
      have hl := rx.length
      rw [hl]
      exact (rx.drop _).take _
    generalize ExP X cl pins σ Hf H (oCut (.lst l') o o') = E
    obtain ⟨T, id, hT, ht, hg⟩ := (sl_list (X := X.wish E)) pins { s3 with heap := s3.heap.push { cls := .type "slice", data := .fields #[vl, vu, .none] } } σ H3 _ u vl vu o o' s3.heap.objs.size
      (fun w H' => ∃ Hf', Ext Hf3 H3 Hf' H' ∧ Rp X.K cl Hf' w (.lst (cutP l' o o'))) (I4.wish E) rv (Heap.IsSliceOf.new ..) hp2 hp3
      ⟨_, _, rfl, x3.sub.seq hq, fun a ha => ⟨_, Ext.new x3.sub ha _, .lst (SqL.of upd_same) ((ecut _ rr).keep (same_upd (x3.sub.free ha) _))⟩⟩
    refine tail_any (ops := [.ref s3.heap.objs.size, u]) ht hT ?_ (by with_unfolding_all rfl)
    refine thn (okp hg) fun _ _ q => OkP.from (e0 := x13) q
end
end Mi
set_option Elab.async false
set_option linter.all false
set_option autoImplicit false
set_option maxRecDepth 100000
set_option maxHeartbeats 4000000
namespace Mi
open PySem PySem.Spec PyProof.Rows L2
section
variable {X : Cx} {cl : Nat → Addr} {pins : List (Addr × Obj)} {s : Shared} {σ : SV} {Hf0 H0 Hf H Hf1 H1 : Hp} {ρ : MEnv} {α : Type}
/-- the answer at the j-th place -/
def eAt (ps qs : List PV) (j : Nat) : Bool := match ps[j]?, qs[j]? with
  | some a, some b => eqPV a b
  | _, _ => false
theorem eAt_succ (a b : PV) (ps qs : List PV) (j : Nat) : eAt (a :: ps) (b :: qs) (j + 1) = eAt ps qs j := by simp [eAt]
theorem all_range_succ (n : Nat) (e : Nat → Bool) : (List.range (n + 1)).all e = (e 0 && (List.range n).all fun j => e (j + 1)) := by
  rw [List.range_succ_eq_map, List.all_cons, List.all_map]
  rfl
theorem eqPVs_eq : ∀ (ps qs : List PV), eqPVs ps qs = ((List.range (min ps.length qs.length)).all (eAt ps qs) && ps.length == qs.length)
  | [], [] => by simp [eqPVs]
  | [], _ :: _ => by simp [eqPVs]
  | _ :: _, [] => by simp [eqPVs]
  | a :: ps, b :: qs => by
    have ih := eqPVs_eq ps qs
    show (eqPV a b && eqPVs ps qs) = _
    have h1 : min (a :: ps).length (b :: qs).length = min ps.length qs.length + 1 := by simp only [List.length_cons]; omega
    rw [h1, all_range_succ, ih]
    have h2 : eAt (a :: ps) (b :: qs) 0 = eqPV a b := rfl
    have h3 : (fun j => eAt (a :: ps) (b :: qs) (j + 1)) = eAt ps qs := by funext j; exact eAt_succ a b ps qs j
    rw [h2, h3]
    have h4 : ((a :: ps).length == (b :: qs).length) = (ps.length == qs.length) := by simp
    rw [h4, Bool.and_assoc]
theorem eqPVs_len {ps qs : List PV} (h : ps.length = qs.length) : eqPVs ps qs = (List.range ps.length).all (eAt ps qs) := by
  rw [eqPVs_eq, ← h]
  simp
theorem eqPVs_ne {ps qs : List PV} (h : ps.length ≠ qs.length) : eqPVs ps qs = false := by
  rw [eqPVs_eq]
  have : (ps.length == qs.length) = false := by simpa using h
  rw [this, Bool.and_false]
theorem cmpOk_get {n : Nat} {ps : List PV} {j : Nat} {p : PV} (h : ps.all (cmpOkN n) = true) (e : ps[j]? = some p) : cmpOkN n p = true := by
  rw [List.all_eq_true] at h
  exact h p (List.mem_of_getElem? e)
/-- the same value twice -/
theorem eq_same (I : Inv X pins σ H s) (sm : Same Hf H) : ∀ (n : Nat) {v : V} {p q : PV}, Rp X.K cl Hf v p → Rp X.K cl Hf v q → cmpOkN n p = true → cmpOkN n q = true → eqPV p q = true := by
  intro n
  induction n with
  | zero =>
    intro v p q hp hq cp cq
    cases hp <;> cases hq <;> first | (simp [eqPV]; done) | (simp [cmpOkN] at cp; done)
  | succ n ih =>
    have all : ∀ {vs : List V} {ps qs : List PV}, Rps X.K cl Hf vs ps → Rps X.K cl Hf vs qs → ps.all (cmpOkN n) = true → qs.all (cmpOkN n) = true → eqPVs ps qs = true := by
      intro vs
      induction vs with
      | nil => intro ps qs r1 r2 _ _; cases r1; cases r2; rfl
      | cons v vs ihv =>
        intro ps qs r1 r2 c1 c2
        cases r1 with
        | cons a1 t1 =>
          cases r2 with
          | cons a2 t2 =>
            rw [List.all_cons, Bool.and_eq_true] at c1 c2
            show (eqPV _ _ && eqPVs _ _) = true
            rw [ih a1 a2 c1.1 c2.1, ihv t1 t2 c1.2 c2.2]
            rfl
    intro v p q hp hq cp cq
    have noLT : ∀ {a : Addr} {xs ys : List V}, SqL X.K Hf a xs → SqT X.K Hf a ys → False := fun {a xs ys} h1 h2 => by
      obtain ⟨its, _, ⟨o, n1, e1, c1, _⟩, _⟩ := I.list (sm.seq h1)
      obtain ⟨its2, _, ⟨o2, e2, c2, _⟩, _⟩ := I.tuple (Same.seqT sm h2)
      rw [e1] at e2; cases e2; rw [c1] at c2; injection c2 with c3; exact absurd c3 (by decide)
    cases hp with
    | tup h1 r1 =>
      cases hq with
      | tup h2 r2 =>
        have e := I.tuple_inj (Same.seqT sm h1) (Same.seqT sm h2)
        subst e
        exact all r1 r2 cp cq
      | lst h2 r2 => exact (noLT h2 h1).elim
      | _ => simp [cmpOkN] at cq
    | lst h1 r1 =>
      cases hq with
      | tup h2 r2 => exact (noLT h1 h2).elim
      | lst h2 r2 =>
        have e := I.list_inj (sm.seq h1) (sm.seq h2)
        subst e
        exact all r1 r2 cp cq
      | _ => simp [cmpOkN] at cq
    | _ => cases hq <;> first | (simp [eqPV]; done) | (simp [cmpOkN] at cp; done)
theorem eq_deep (I : Inv X pins σ H s) (sm : Same Hf H) : ∀ (n : Nat) {A : Around} {x y : V} {v u : Value} {p q : PV}, A.units + n < cLine → RelV x v → RelV y u → Rp X.K cl Hf x p → Rp X.K cl Hf y q → cmpOkN n p = true → cmpOkN n q = true →
    SeqAt.RcAt A s v u (eqPV p q) ∧ SeqAt.EqAt A s v u (eqPV p q) ∧ SeqAt.RcNeAt A s v u (!eqPV p q) := by
  intro n
  induction n with
  | zero =>
    intro A x y v u p q hu rv ru rp rq cp cq
    cases rp <;> first | (simp [cmpOkN] at cp; done) | skip
    all_goals (cases rq <;> first | (simp [cmpOkN] at cq; done) | skip)
    · cases rv; cases ru; exact ⟨SeqAt.RcAt.none_none, SeqAt.EqAt.same _, SeqAt.RcNeAt.none_none⟩
    · cases rv; cases ru; exact ⟨SeqAt.RcAt.none_bool _, SeqAt.EqAt.none_bool _, SeqAt.RcNeAt.none_bool _⟩
    · cases rv; obtain ⟨t, rfl⟩ := ru; exact ⟨SeqAt.RcAt.none_int _ _, SeqAt.EqAt.none_int _ _, SeqAt.RcNeAt.none_int _ _⟩
    · cases rv; obtain ⟨t, rfl⟩ := ru; exact ⟨SeqAt.RcAt.none_str _ _, SeqAt.EqAt.none_str _ _, SeqAt.RcNeAt.none_str _ _⟩
    · cases rv; cases ru; exact ⟨SeqAt.RcAt.bool_none _, SeqAt.EqAt.bool_none _, SeqAt.RcNeAt.bool_none _⟩
    · cases rv; cases ru; exact ⟨SeqAt.RcAt.bool_bool _ _, SeqAt.EqAt.bool_bool _ _, SeqAt.RcNeAt.bool_bool _ _⟩
    · cases rv; obtain ⟨t, rfl⟩ := ru; exact ⟨SeqAt.RcAt.bool_int _ _ _, SeqAt.EqAt.bool_int _ _ _, SeqAt.RcNeAt.bool_int _ _ _⟩
    · cases rv; obtain ⟨t, rfl⟩ := ru; exact ⟨SeqAt.RcAt.bool_str _ _ _, SeqAt.EqAt.bool_str _ _ _, SeqAt.RcNeAt.bool_str _ _ _⟩
    · obtain ⟨t, rfl⟩ := rv; cases ru; exact ⟨SeqAt.RcAt.int_none _ _, SeqAt.EqAt.int_none _ _, SeqAt.RcNeAt.int_none _ _⟩
    · obtain ⟨t, rfl⟩ := rv; cases ru; exact ⟨SeqAt.RcAt.int_bool _ _ _, SeqAt.EqAt.int_bool _ _ _, SeqAt.RcNeAt.int_bool _ _ _⟩
    · obtain ⟨t, rfl⟩ := rv; obtain ⟨t', rfl⟩ := ru; exact ⟨SeqAt.RcAt.int_int _ _ _ _, SeqAt.EqAt.int_int _ _ _ _, SeqAt.RcNeAt.int_int _ _ _ _⟩
    · obtain ⟨t, rfl⟩ := rv; obtain ⟨t', rfl⟩ := ru; exact ⟨SeqAt.RcAt.int_str _ _ _ _, SeqAt.EqAt.int_str _ _ _ _, SeqAt.RcNeAt.int_str _ _ _ _⟩
    · obtain ⟨t, rfl⟩ := rv; cases ru; exact ⟨SeqAt.RcAt.str_none _ _, SeqAt.EqAt.str_none _ _, SeqAt.RcNeAt.str_none _ _⟩
    · obtain ⟨t, rfl⟩ := rv; cases ru; exact ⟨SeqAt.RcAt.str_bool _ _ _, SeqAt.EqAt.str_bool _ _ _, SeqAt.RcNeAt.str_bool _ _ _⟩
    · obtain ⟨t, rfl⟩ := rv; obtain ⟨t', rfl⟩ := ru; exact ⟨SeqAt.RcAt.str_int _ _ _ _, SeqAt.EqAt.str_int _ _ _ _, SeqAt.RcNeAt.str_int _ _ _ _⟩
    · obtain ⟨t, rfl⟩ := rv; obtain ⟨t', rfl⟩ := ru; exact ⟨SeqAt.RcAt.str_str _ _ _ _, SeqAt.EqAt.str_str _ _ _ _, SeqAt.RcNeAt.str_str _ _ _ _⟩
  | succ n ih =>
    intro A x y v u p q hu rv ru rp rq cp cq
    have hu0 : A.units < cLine := by omega
    have hu1 : A.in1.units + n < cLine := by show A.units + 1 + n < cLine; omega
    have items : ∀ {xs ys : List V} {its its2 : List Value} {ps qs : List PV}, Rps X.K cl Hf xs ps → Rps X.K cl Hf ys qs → Vals xs its → Vals ys its2 → ps.all (cmpOkN n) = true → qs.all (cmpOkN n) = true →
        ∀ j (h1 : j < its.toArray.size) (h2 : j < its2.toArray.size), SeqAt.EqAt A.in1 s its.toArray[j] its2.toArray[j] (eAt ps qs j) := by
      intro xs ys its its2 ps qs r1 r2 w1 w2 c1 c2 j h1 h2
      have g1 : j < ps.length := by rw [← r1.length, w1.length]; simpa using h1
      have g2 : j < qs.length := by rw [← r2.length, w2.length]; simpa using h2
      obtain ⟨a, ea, ra⟩ := r1.get (List.getElem?_eq_getElem g1)
      obtain ⟨b, eb, rb⟩ := r2.get (List.getElem?_eq_getElem g2)
      obtain ⟨ua, eua, rua⟩ := w1.get ea
      obtain ⟨ub, eub, rub⟩ := w2.get eb
      have f1 : its.toArray[j] = ua := by
        have : its[j]? = some its.toArray[j] := by simp
        rw [this] at eua; exact Option.some.inj eua
      have f2 : its2.toArray[j] = ub := by
        have : its2[j]? = some its2.toArray[j] := by simp
        rw [this] at eub; exact Option.some.inj eub
      rw [f1, f2]
      have e : eAt ps qs j = eqPV ps[j] qs[j] := by
        unfold eAt
        rw [List.getElem?_eq_getElem g1, List.getElem?_eq_getElem g2]
      rw [e]
      exact (ih hu1 rua rub ra rb (cmpOk_get c1 (List.getElem?_eq_getElem g1)) (cmpOk_get c2 (List.getElem?_eq_getElem g2))).2.1
    cases rp <;> first | (simp [cmpOkN] at cp; done) | skip
    all_goals (cases rq <;> first | (simp [cmpOkN] at cq; done) | skip)
    · cases rv; cases ru; exact ⟨SeqAt.RcAt.none_none, SeqAt.EqAt.same _, SeqAt.RcNeAt.none_none⟩
    · cases rv; cases ru; exact ⟨SeqAt.RcAt.none_bool _, SeqAt.EqAt.none_bool _, SeqAt.RcNeAt.none_bool _⟩
    · cases rv; obtain ⟨t, rfl⟩ := ru; exact ⟨SeqAt.RcAt.none_int _ _, SeqAt.EqAt.none_int _ _, SeqAt.RcNeAt.none_int _ _⟩
    · cases rv; obtain ⟨t, rfl⟩ := ru; exact ⟨SeqAt.RcAt.none_str _ _, SeqAt.EqAt.none_str _ _, SeqAt.RcNeAt.none_str _ _⟩
    · rename_i h r; cases rv; cases ru; obtain ⟨its, w, pl, z⟩ := I.tuple (Same.seqT sm h); exact ⟨SeqAt.RcAt.none_tuple pl hu0, SeqAt.EqAt.none_tuple pl hu0, SeqAt.RcNeAt.none_tuple pl hu0⟩
    · rename_i h r; cases rv; cases ru; obtain ⟨its, w, pl, z⟩ := I.list (sm.seq h); exact ⟨SeqAt.RcAt.none_list pl.isList hu0, SeqAt.EqAt.none_list pl.isList hu0, SeqAt.RcNeAt.none_list pl.isList hu0⟩
    · cases rv; cases ru; exact ⟨SeqAt.RcAt.bool_none _, SeqAt.EqAt.bool_none _, SeqAt.RcNeAt.bool_none _⟩
    · cases rv; cases ru; exact ⟨SeqAt.RcAt.bool_bool _ _, SeqAt.EqAt.bool_bool _ _, SeqAt.RcNeAt.bool_bool _ _⟩
    · cases rv; obtain ⟨t, rfl⟩ := ru; exact ⟨SeqAt.RcAt.bool_int _ _ _, SeqAt.EqAt.bool_int _ _ _, SeqAt.RcNeAt.bool_int _ _ _⟩
    · cases rv; obtain ⟨t, rfl⟩ := ru; exact ⟨SeqAt.RcAt.bool_str _ _ _, SeqAt.EqAt.bool_str _ _ _, SeqAt.RcNeAt.bool_str _ _ _⟩
    · rename_i h r; cases rv; cases ru; obtain ⟨its, w, pl, z⟩ := I.tuple (Same.seqT sm h); exact ⟨SeqAt.RcAt.bool_tuple _ pl hu0, SeqAt.EqAt.bool_tuple _ pl hu0, SeqAt.RcNeAt.bool_tuple _ pl hu0⟩
    · rename_i h r; cases rv; cases ru; obtain ⟨its, w, pl, z⟩ := I.list (sm.seq h); exact ⟨SeqAt.RcAt.bool_list _ pl.isList hu0, SeqAt.EqAt.bool_list _ pl.isList hu0, SeqAt.RcNeAt.bool_list _ pl.isList hu0⟩
    · obtain ⟨t, rfl⟩ := rv; cases ru; exact ⟨SeqAt.RcAt.int_none _ _, SeqAt.EqAt.int_none _ _, SeqAt.RcNeAt.int_none _ _⟩
    · obtain ⟨t, rfl⟩ := rv; cases ru; exact ⟨SeqAt.RcAt.int_bool _ _ _, SeqAt.EqAt.int_bool _ _ _, SeqAt.RcNeAt.int_bool _ _ _⟩
    · obtain ⟨t, rfl⟩ := rv; obtain ⟨t', rfl⟩ := ru; exact ⟨SeqAt.RcAt.int_int _ _ _ _, SeqAt.EqAt.int_int _ _ _ _, SeqAt.RcNeAt.int_int _ _ _ _⟩
    · obtain ⟨t, rfl⟩ := rv; obtain ⟨t', rfl⟩ := ru; exact ⟨SeqAt.RcAt.int_str _ _ _ _, SeqAt.EqAt.int_str _ _ _ _, SeqAt.RcNeAt.int_str _ _ _ _⟩
    · rename_i h r; obtain ⟨t, rfl⟩ := rv; cases ru; obtain ⟨its, w, pl, z⟩ := I.tuple (Same.seqT sm h); exact ⟨SeqAt.RcAt.int_tuple _ _ pl hu0, SeqAt.EqAt.int_tuple _ _ pl hu0, SeqAt.RcNeAt.int_tuple _ _ pl hu0⟩
    · rename_i h r; obtain ⟨t, rfl⟩ := rv; cases ru; obtain ⟨its, w, pl, z⟩ := I.list (sm.seq h); exact ⟨SeqAt.RcAt.int_list _ _ pl.isList hu0, SeqAt.EqAt.int_list _ _ pl.isList hu0, SeqAt.RcNeAt.int_list _ _ pl.isList hu0⟩
    · obtain ⟨t, rfl⟩ := rv; cases ru; exact ⟨SeqAt.RcAt.str_none _ _, SeqAt.EqAt.str_none _ _, SeqAt.RcNeAt.str_none _ _⟩
    · obtain ⟨t, rfl⟩ := rv; cases ru; exact ⟨SeqAt.RcAt.str_bool _ _ _, SeqAt.EqAt.str_bool _ _ _, SeqAt.RcNeAt.str_bool _ _ _⟩
    · obtain ⟨t, rfl⟩ := rv; obtain ⟨t', rfl⟩ := ru; exact ⟨SeqAt.RcAt.str_int _ _ _ _, SeqAt.EqAt.str_int _ _ _ _, SeqAt.RcNeAt.str_int _ _ _ _⟩
    · obtain ⟨t, rfl⟩ := rv; obtain ⟨t', rfl⟩ := ru; exact ⟨SeqAt.RcAt.str_str _ _ _ _, SeqAt.EqAt.str_str _ _ _ _, SeqAt.RcNeAt.str_str _ _ _ _⟩
    · rename_i h r; obtain ⟨t, rfl⟩ := rv; cases ru; obtain ⟨its, w, pl, z⟩ := I.tuple (Same.seqT sm h); exact ⟨SeqAt.RcAt.str_tuple _ _ pl hu0, SeqAt.EqAt.str_tuple _ _ pl hu0, SeqAt.RcNeAt.str_tuple _ _ pl hu0⟩
    · rename_i h r; obtain ⟨t, rfl⟩ := rv; cases ru; obtain ⟨its, w, pl, z⟩ := I.list (sm.seq h); exact ⟨SeqAt.RcAt.str_list _ _ pl.isList hu0, SeqAt.EqAt.str_list _ _ pl.isList hu0, SeqAt.RcNeAt.str_list _ _ pl.isList hu0⟩
    · rename_i h r; cases rv; cases ru; obtain ⟨its, w, pl, z⟩ := I.tuple (Same.seqT sm h); exact ⟨SeqAt.RcAt.tuple_none pl hu0, SeqAt.EqAt.tuple_none pl hu0, SeqAt.RcNeAt.tuple_none pl hu0⟩
    · rename_i h r _; cases rv; cases ru; obtain ⟨its, w, pl, z⟩ := I.tuple (Same.seqT sm h); exact ⟨SeqAt.RcAt.tuple_bool _ pl hu0, SeqAt.EqAt.tuple_bool _ pl hu0, SeqAt.RcNeAt.tuple_bool _ pl hu0⟩
    · rename_i h r _; cases rv; obtain ⟨t', rfl⟩ := ru; obtain ⟨its, w, pl, z⟩ := I.tuple (Same.seqT sm h); exact ⟨SeqAt.RcAt.tuple_int _ _ pl hu0, SeqAt.EqAt.tuple_int _ _ pl hu0, SeqAt.RcNeAt.tuple_int _ _ pl hu0⟩
    · rename_i h r _; cases rv; obtain ⟨t', rfl⟩ := ru; obtain ⟨its, w, pl, z⟩ := I.tuple (Same.seqT sm h); exact ⟨SeqAt.RcAt.tuple_str _ _ pl hu0, SeqAt.EqAt.tuple_str _ _ pl hu0, SeqAt.RcNeAt.tuple_str _ _ pl hu0⟩
    · rename_i a xs ps h r b ys qs h' r'
      cases rv; cases ru
      obtain ⟨its, w, pl, z⟩ := I.tuple (Same.seqT sm h)
      obtain ⟨its2, w2, pl2, z2⟩ := I.tuple (Same.seqT sm h')
      have it := items r r' w w2 cp cq
      have e : ((List.range (min its.toArray.size its2.toArray.size)).all (eAt ps qs) && its.toArray.size == its2.toArray.size) = eqPV (.tup ps) (.tup qs) := by
        show _ = eqPVs ps qs
        rw [eqPVs_eq, List.size_toArray, List.size_toArray, ← w.length, ← w2.length, r.length, r'.length]
      have c1 := SeqAt.RcAt.tuples (A := A) pl pl2 hu0 it
      have c2 := SeqAt.RcNeAt.tuples (A := A) pl pl2 hu0 it
      rw [e] at c1 c2
      refine ⟨c1, ?_, c2⟩
      by_cases hab : a = b
      · subst hab
        rw [eq_same I sm (n + 1) (Rp.tup h r) (Rp.tup h' r') cp cq]
        exact SeqAt.EqAt.same _
      · exact .of_refs hab c1
    · rename_i a xs ps h r b ys qs h' r'
      cases rv; cases ru
      obtain ⟨its, w, pl, z⟩ := I.tuple (Same.seqT sm h)
      obtain ⟨its2, w2, pl2, z2⟩ := I.list (sm.seq h')
      exact ⟨SeqAt.RcAt.tuple_list pl pl2.isList hu0, SeqAt.EqAt.tuple_list pl pl2.isList hu0, SeqAt.RcNeAt.tuple_list pl pl2.isList hu0⟩
    · rename_i h r; cases rv; cases ru; obtain ⟨its, w, pl, z⟩ := I.list (sm.seq h); exact ⟨SeqAt.RcAt.list_none pl.isList hu0, SeqAt.EqAt.list_none pl.isList hu0, SeqAt.RcNeAt.list_none pl.isList hu0⟩
    · rename_i h r _; cases rv; cases ru; obtain ⟨its, w, pl, z⟩ := I.list (sm.seq h); exact ⟨SeqAt.RcAt.list_bool _ pl.isList hu0, SeqAt.EqAt.list_bool _ pl.isList hu0, SeqAt.RcNeAt.list_bool _ pl.isList hu0⟩
    · rename_i h r _; cases rv; obtain ⟨t', rfl⟩ := ru; obtain ⟨its, w, pl, z⟩ := I.list (sm.seq h); exact ⟨SeqAt.RcAt.list_int _ _ pl.isList hu0, SeqAt.EqAt.list_int _ _ pl.isList hu0, SeqAt.RcNeAt.list_int _ _ pl.isList hu0⟩
    · rename_i h r _; cases rv; obtain ⟨t', rfl⟩ := ru; obtain ⟨its, w, pl, z⟩ := I.list (sm.seq h); exact ⟨SeqAt.RcAt.list_str _ _ pl.isList hu0, SeqAt.EqAt.list_str _ _ pl.isList hu0, SeqAt.RcNeAt.list_str _ _ pl.isList hu0⟩
    · rename_i a xs ps h r b ys qs h' r'
      cases rv; cases ru
      obtain ⟨its, w, pl, z⟩ := I.list (sm.seq h)
      obtain ⟨its2, w2, pl2, z2⟩ := I.tuple (Same.seqT sm h')
      exact ⟨SeqAt.RcAt.list_tuple pl.isList pl2 hu0, SeqAt.EqAt.list_tuple pl.isList pl2 hu0, SeqAt.RcNeAt.list_tuple pl.isList pl2 hu0⟩
    · rename_i a xs ps h r b ys qs h' r'
      cases rv; cases ru
      obtain ⟨its, w, pl, z⟩ := I.list (sm.seq h)
      obtain ⟨its2, w2, pl2, z2⟩ := I.list (sm.seq h')
      have it := items r r' w w2 cp cq
      have l1 : its.toArray.size = ps.length := by rw [List.size_toArray, ← w.length, r.length]
      have l2 : its2.toArray.size = qs.length := by rw [List.size_toArray, ← w2.length, r'.length]
      have both : SeqAt.RcAt A s (.ref a) (.ref b) (eqPVs ps qs) ∧ SeqAt.RcNeAt A s (.ref a) (.ref b) (!eqPVs ps qs) := by
        by_cases hl : ps.length = qs.length
        · have c1 := SeqAt.RcAt.lists (A := A) pl.isList pl2.isList (by rw [l1, l2, hl]) hu0 it
          have c2 := SeqAt.RcNeAt.lists (A := A) pl.isList pl2.isList (by rw [l1, l2, hl]) hu0 it
          rw [l1, ← eqPVs_len hl] at c1 c2
          exact ⟨c1, c2⟩
        · rw [eqPVs_ne hl]
          have hne : (its.toArray.size != its2.toArray.size) = true := by rw [l1, l2]; simpa using hl
          exact ⟨SeqAt.RcAt.lists_lengths pl.isList pl2.isList hne hu0, SeqAt.RcNeAt.lists_lengths pl.isList pl2.isList hne hu0⟩
      refine ⟨both.1, ?_, both.2⟩
      by_cases hab : a = b
      · subst hab
        rw [eq_same I sm (n + 1) (Rp.lst h r) (Rp.lst h' r') cp cq]
        exact SeqAt.EqAt.same _
      · exact .of_refs hab both.1
theorem r_eq (hu : X.A.units + 64 < cLine) : BinR X cl (compareOp .Eq) cEq := by
  intro pins s σ Hf H x y v u p q I sm rv ru rp rq hs
  unfold cEq at hs ⊢
  by_cases hc0 : (cmpOk p && cmpOk q) = true
  rotate_left
  · rw [if_neg hc0] at hs ⊢
    obtain ⟨hd, e⟩ := ifOk hs
    rw [e]
    cases p <;> cases q <;> first
      | (simp [dicStr] at hd; done)
      | skip
    cases rp with
    | dic0 h =>
      cases rq
      cases rv
      obtain ⟨t, rfl⟩ := ru
      obtain ⟨o, es, ep, h1, h2, h3⟩ := dic_at I sm h
      exact dict_str_at h1 h2 h3 (by omega) _ _ _ _ ⟨_, .bl false, Hf, H, rfl, I, rfl, Ext.refl sm, .bl _⟩
  rw [if_pos hc0] at hs ⊢
  have e : (R.ok (PV.bl (eqPV p q)) : R PV) = .ok (.bl (eqPV p q)) := rfl
  have hc := hc0
  rw [e]
  rw [Bool.and_eq_true] at hc
  exact (eq_deep I sm 6 (by omega) rv ru rp rq hc.1 hc.2).1 _ _ _ _ ⟨_, .bl _, Hf, H, rfl, I, rfl, Ext.refl sm, .bl _⟩
theorem r_ne (hu : X.A.units + 64 < cLine) : BinR X cl (compareOp .NotEq) cNe := by
  intro pins s σ Hf H x y v u p q I sm rv ru rp rq hs
  unfold cNe at hs ⊢
  obtain ⟨hc, e⟩ := ifOk hs
  rw [e]
  rw [Bool.and_eq_true] at hc
  exact (eq_deep I sm 6 (by omega) rv ru rp rq hc.1 hc.2).2.2 _ _ _ _ ⟨_, .bl _, Hf, H, rfl, I, rfl, Ext.refl sm, .bl _⟩
end
end Mi
set_option Elab.async false
set_option linter.all false
set_option autoImplicit false
set_option maxRecDepth 100000
set_option maxHeartbeats 4000000
namespace Mi
open PySem PySem.Spec PyProof.Rows L2
theorem objOk_there {P : Program} {w : World} {H : Hp} {h : Heap} {a : Addr} {o : HO} (x : ObjOk P w H h a o) : ∃ ob, h.get? a = some ob := by
  cases o with
  | lst xs => obtain ⟨_, _, _, _, e⟩ := x; exact ⟨_, e⟩
  | tup xs => obtain ⟨_, _, _, ob, e, _⟩ := x; exact ⟨_, e⟩
  | dK kvs => obtain ⟨_, _, _, _, o, _, _, e, _⟩ := x; exact ⟨_, e⟩
  | dT kvs => obtain ⟨_, _, _, _, o, _, _, e, _⟩ := x; exact ⟨_, e⟩
  | set S n => obtain ⟨o, _, _, _, e, _⟩ := x; exact ⟨_, e⟩
  | ins C dx fs => obtain ⟨_, _, _, e, _⟩ := x; exact ⟨_, e⟩
  | own y => exact x
  | xd fs => obtain ⟨_, ⟨_, _, _, e, _⟩, _⟩ := x; exact ⟨_, e⟩
  | rng lo hi => obtain ⟨_, _, _, e⟩ := x; exact ⟨_, e⟩
  | frz ob u => exact ⟨_, x.1⟩
  | tbl ps => exact ⟨_, (show h.get? a = some _ from x)⟩
  | met f y => exact ⟨_, (show h.get? a = some _ from x)⟩
  | ext φ => exact x.2.1
section
variable {X : Cx} {cl : Nat → Addr} {pins : List (Addr × Obj)} {s : Shared} {σ : SV} {Hf0 H0 Hf H Hf1 H1 : Hp} {ρ : MEnv} {α : Type} {B h' : Heap}
/-- a def's own context -/
structure Own (X : Cx) : Prop where
  stk : X.stack = X.env :: X.outer
  fr : X.env.frame = some X.env.locals
  ex : ∀ b, b ∉ X.ex
  fn : ∀ x, X.fn x = true
theorem stands_there (W : Own X) (I : Inv X pins σ H s) {b : Addr} (h : Stands X pins H b) : ∃ o, s.heap.get? b = some o := by
  rcases h with h | ⟨p, hp, e⟩ | ⟨o, h⟩ | ⟨x, h⟩
  · cases e : H b with
    | none => exact absurd e h
    | some u => exact objOk_there (I.hok b u e)
  · rw [← e]; exact ⟨_, (I.pin p hp).1⟩
  · exact I.base.there b o h (W.ex b)
  · obtain ⟨v, o', q, _⟩ := I.cell x b h
    exact ⟨o', q⟩
theorem frs_stk (W : Own X) {b : Addr} : b ∈ frs X.stack ↔ b = X.env.locals ∨ b ∈ X.fs := by
  rw [W.stk]
  unfold frs
  rw [List.filterMap_cons, W.fr]
  exact List.mem_cons
theorem Cov.upto (W : Own X) (I : Inv X pins σ H s) (c : Cov X pins H B s.heap) (st : B.StaysIn h') : Cov X pins H B h' := by
  intro b o e hs hn
  obtain ⟨o', e'⟩ := stands_there W I hs
  have q := c b o' e' hs hn
  have := st b o' q
  rw [e] at this; cases this
  exact q
theorem Inv.upto (W : Own X) (I : Inv X pins σ H s) (c : Cov X pins H B s.heap) (st : B.StaysIn h') (u : s.heap.UpToSlots h') {tk : Nat} : Inv X pins σ H { s with heap := h', toks := tk } := by
  have keep : ∀ b o, s.heap.get? b = some o → Stands X pins H b → b ∉ frs X.stack → h'.get? b = some o := fun b o e hs hn => st b o (c b o e hs hn)
  have fr : ∀ b ∈ frs X.stack, ∃ o, s.heap.get? b = some o ∧ ∀ vs, o.data ≠ .fields vs := fun b hb => ((I.stack).mem hb).2
  have lnl : X.env.locals ∈ frs X.stack := (frs_stk W).mpr (.inl rfl)
  have hokx : HOk X.prog X.w H h' := fun a o e => by
    have na : a ∉ frs X.stack := fun z => by rw [I.stkFree a z] at e; cases e
    refine (I.hok a o e).stay (fun b v hb q => ?_) (fun _ q => q) fun _ _ q => q
    rcases hb with rfl | hb
    · exact keep _ v q (.inl (by rw [e]; intro z; cases z)) na
    · have nb : b ∉ frs X.stack := fun z => by rw [I.stkFree b z] at hb; cases hb
      exact keep b v q (.inl (by rw [hb]; intro z; cases z)) nb
  obtain ⟨m, hn, hl⟩ := I.loc
  have old : ∀ b o, X.s₀.heap.get? b = some o → b ≠ X.env.locals := fun b o e z => by
    have := Heap.lt_size e
    rw [z] at this
    exact absurd (Nat.lt_of_lt_of_le this I.ok.above) (Nat.lt_irrefl _)
  have cells : ∀ x cc v, X.env.cells.lookup x = some cc → s.heap.IsCell cc v → h'.IsCell cc v := fun x cc v e q => by
    obtain ⟨o, ho, hd⟩ := q
    have nf : cc ∉ frs X.stack := fun z => by
      rcases (frs_stk W).mp z with z | z
      · exact I.cne x cc e z
      · obtain ⟨_, o', ho', _⟩ := I.ok.funs.mem z
        exact absurd (Nat.lt_of_lt_of_le (Heap.lt_size ho') (I.ok.cab x cc (W.fn x) e)) (Nat.lt_irrefl _)
    exact ⟨o, keep cc o ho (.inr (.inr (.inr ⟨x, e⟩))) nf, hd⟩
  refine ⟨I.ok, I.os, I.bare, ⟨fun b o e n hb hx => ?_, fun b o e n hb hx => ?_, I.base.free, fun b o e hx => ?_, I.base.tups, I.base.frzs, I.base.tbls⟩, ⟨m, u.ns hn, fun i x v e1 e2 e3 => ?_⟩, fun x cc e => ?_, I.free, I.freeC, fun p hp => ?_, hokx, I.len⟩
  · exact keep b o (I.base.keep b o e n hb hx) (.inr (.inr (.inl ⟨o, e⟩))) fun z => ((frs_stk W).mp z).elim (old b o e) hb
  · obtain ⟨sl, q⟩ := I.base.slot b o e n hb hx
    obtain ⟨o', ho', hnf⟩ := fr b ((frs_stk W).mpr (.inr hb))
    rw [q] at ho'; cases ho'
    obtain ⟨sl', q'⟩ := u b _ q hnf
    exact ⟨sl', q'⟩
  · obtain ⟨o', q⟩ := I.base.there b o e hx
    by_cases hb : b ∈ frs X.stack
    · obtain ⟨o2, ho2, hnf⟩ := fr b hb
      obtain ⟨sl', q'⟩ := u b _ ho2 hnf
      exact ⟨_, q'⟩
    · exact ⟨o', keep b o' q (.inr (.inr (.inl ⟨o, e⟩))) hb⟩
  · obtain ⟨uu, r, l⟩ := hl i x v e1 e2 e3
    refine ⟨uu, r, ?_⟩
    rcases l with l | ⟨hk, cc, hc, hcell⟩
    · exact .inl l
    · exact .inr ⟨hk, cc, hc, cells x cc _ hc hcell⟩
  · obtain ⟨v, q⟩ := I.cell x cc e
    exact ⟨v, cells x cc v e q⟩
  · obtain ⟨p1, p2, p3, p4, p5⟩ := I.pin p hp
    exact ⟨keep p.1 p.2 p1 (.inr (.inl ⟨p, hp, rfl⟩)) fun z => ((frs_stk W).mp z).elim p3 p4, p2, p3, p4, p5⟩
/-- the pins of a smaller loop are let go -/
theorem Cov.fewer {pl : List (Addr × Obj)} (c : Cov X (pins ++ pl) H B h') : Cov X pins H B h' := fun b o e hs hn => c b o e (by
  rcases hs with h | ⟨p, hp, q⟩ | h | h
  · exact .inl h
  · refine .inr (.inl ⟨p, ?_, q⟩)
    rcases List.mem_append.mp hp with z | z
    · exact List.mem_append_left _ z
    · exact List.mem_append_right _ (List.mem_append_left _ z)
  · exact .inr (.inr (.inl h))
  · exact .inr (.inr (.inr h))) hn
theorem XSt.fewer {pl : List (Addr × Obj)} {e C : Addr} (x : XSt X (pins ++ pl) H e C h') : XSt X pins H e C h' := by
  obtain ⟨B, a0, c, d, r⟩ := x
  exact ⟨B, a0, c.fewer, d, r⟩
theorem NoD.keep {e : Addr} {h h' : Heap} (d : NoD e h) (k : Kd e h h') : NoD e h' := by
  obtain ⟨o, h1, h2⟩ := d
  obtain ⟨o', h3, _, h4⟩ := k o h1
  exact ⟨o', h3, h4.trans h2⟩
/-- the frame is noted -/
theorem note_ok0 {M : Model} {A : Around} {E : Value → Shared → Prop} {e C : Addr} {a0 : Value} {Q : Unit → Shared → Prop} (W : Own X) (hfr : A.frames = some X.stack)
    (x : FreshW B X.stack e (.ref C) a0 s.heap ∨ Heap.HeldW B X.stack e (.ref C) a0 X.env.locals s.heap ∨ Heap.FlyingW B X.stack e (.ref C) a0 s.heap)
    (h : ∀ h', Heap.HeldW B X.stack e (.ref C) a0 X.env.locals h' → s.heap.UpToSlots h' → Q () { s with heap := h' }) : wpAny M A (noteFrame (.ref e) X.env) Q E s := by
  rw [W.stk] at x h hfr
  rcases x with ⟨f1, f2, f3, oe, vs, he, hc, hdi, hd, h0, h1⟩ | x | x
  · unfold noteFrame
    simp only [W.fr]
    refine wpAny_bind (wpAny_field he hd h1 ?_)
    rw [if_neg (by decide)]
    refine wpAny_entryW hfr f3 W.fr he f1 f2 hd (Array.getElem?_eq_some_iff.mp h1).1 h0 fun h' hN => ?_
    obtain ⟨k1, k2, k3, k4⟩ := hN
    rw [hc] at k3
    exact h h' ⟨k1, f2, k2, k3⟩ k4
  · exact wpAny_noteFrame_againW W.fr x.2.2.2 (h s.heap x (Heap.UpToSlots.refl _))
  · exact wpAny_looks_onW hfr W.fr x h
theorem note_ok {M : Model} {A : Around} {E : Value → Shared → Prop} {e C : Addr} {a0 : Value} {Q : Unit → Shared → Prop} (W : Own X) (hfr : A.frames = some X.stack) (nd : NoD e s.heap)
    (x : FreshW B X.stack e (.ref C) a0 s.heap ∨ Heap.HeldW B X.stack e (.ref C) a0 X.env.locals s.heap ∨ Heap.FlyingW B X.stack e (.ref C) a0 s.heap)
    (h : ∀ h', Heap.HeldW B X.stack e (.ref C) a0 X.env.locals h' → s.heap.UpToSlots h' → NoD e h' → Q () { s with heap := h' }) : wpAny M A (noteFrame (.ref e) X.env) Q E s :=
  wpAny_mono ((tame_note (.ref e) X.env).any e (note_ok0 (E := fun _ _ => False) (Q := fun _ s' => ∃ h', s' = { s with heap := h' } ∧ Heap.HeldW B X.stack e (.ref C) a0 X.env.locals h' ∧ s.heap.UpToSlots h') W hfr x fun h' a b => ⟨h', rfl, a, b⟩))
    (fun _ s' ⟨⟨h', e1, a, b⟩, k⟩ => by subst e1; exact h h' a b (nd.keep k)) fun _ _ ⟨z, _⟩ => z.elim
theorem lands_ok {M : Model} {A : Around} {E : Value → Shared → Prop} {e C : Addr} {a0 : Value} {Q : Unit → Shared → Prop} {l : List Env} {L : Addr} (nd : NoD e s.heap) (R : Heap.HeldW B l e (.ref C) a0 L s.heap)
    (h : ∀ h', Heap.FlyingW B l e (.ref C) a0 h' → s.heap.UpToSlots h' → NoD e h' → Q () { s with heap := h' }) : wpAny M A (setFlight (.ref e) none) Q E s :=
  wpAny_mono ((tame_setFlight (.ref e) none).any e (wpAny_landsW (E := fun _ _ => False) (Q := fun _ s' => ∃ h', s' = { s with heap := h' } ∧ Heap.FlyingW B l e (.ref C) a0 h' ∧ s.heap.UpToSlots h') R fun h' a b => ⟨h', rfl, a, b⟩))
    (fun _ s' ⟨⟨h', e1, a, b⟩, k⟩ => by subst e1; exact h h' a b (nd.keep k)) fun _ _ ⟨z, _⟩ => z.elim
theorem again_ok {M : Model} {A : Around} {E : Value → Shared → Prop} {e C : Addr} {a0 : Value} {Q : Unit → Shared → Prop} {l : List Env} (nd : NoD e s.heap) (R : Heap.FlyingW B l e (.ref C) a0 s.heap)
    (h : ∀ h', Heap.FlyingW B l e (.ref C) a0 h' → s.heap.UpToSlots h' → NoD e h' → Q () { s with heap := h' }) : wpAny M A (setFlight (.ref e) none) Q E s :=
  wpAny_mono ((tame_setFlight (.ref e) none).any e (lands_againW (E := fun _ _ => False) (Q := fun _ s' => ∃ h', s' = { s with heap := h' } ∧ Heap.FlyingW B l e (.ref C) a0 h' ∧ s.heap.UpToSlots h') R fun h' a b => ⟨h', rfl, a, b⟩))
    (fun _ s' ⟨⟨h', e1, a, b⟩, k⟩ => by subst e1; exact h h' a b (nd.keep k)) fun _ _ ⟨z, _⟩ => z.elim
theorem flight_ok0 {M : Model} {A : Around} {E : Value → Shared → Prop} {e C : Addr} {a0 : Value} {Q : Unit → Shared → Prop} {l : List Env} {L : Addr} (R : Heap.HeldW B l e (.ref C) a0 L s.heap)
    (h : ∀ h', Heap.HeldW B l e (.ref C) a0 L h' → s.heap.UpToSlots h' → Q () { s with heap := h' }) : wpAny M A (setFlight (.ref e) (some L)) Q E s := by
  obtain ⟨hkb, hen, hl, oe, vs, T, oT, ts, he, hcls, hd, h1, hnT, hTe, hT, hdT, h3⟩ := R
  have hsz3 : 3 < ts.size := (Array.getElem?_eq_some_iff.mp h3).1
  have other : ∀ b, b ≠ T → (s.heap.update T (Obj.mapFields (·.setIfInBounds 3 ((some L).elim Value.none fun f => rawInt f)))).get? b = s.heap.get? b :=
    fun b hb => Heap.get?_update_other _ _ (Ne.symm hb)
  have noRecord : ∀ b o, s.heap.get? b = some o → (∀ vs, o.data ≠ .fields vs) → b ≠ T := fun b o hb hnf q => by
    rw [q, hT] at hb; injection hb with hb; subst hb; exact hnf ts hdT
  unfold setFlight
  refine wpAny_bind (wpAny_field he hd h1 ?_)
  rw [if_pos (show (Value.ref T != Value.none) = true from by simp)]
  refine wpAny_setField hT hdT hsz3 (h _ ⟨fun b o hbo => (other b fun q => by rw [q, hnT] at hbo; cases hbo).trans (hkb b o hbo), hen,
    hl.of_keeps fun b o hb hnf => ⟨o, (other b (noRecord b o hb hnf)).trans hb, rfl⟩, ?_⟩ fun b o hb hnf => ⟨o.slots, (other b (noRecord b o hb hnf)).trans hb⟩)
  exact ⟨oe, vs, T, _, _, (other e (Ne.symm hTe)).trans he, hcls, hd, h1, hnT, hTe, Heap.get?_update_self _ hT (Obj.isFreed_of_fields (Obj.data_mapFields hdT _)), Obj.data_mapFields hdT _, by simp [hsz3]⟩
theorem flight_ok {M : Model} {A : Around} {E : Value → Shared → Prop} {e C : Addr} {a0 : Value} {Q : Unit → Shared → Prop} {l : List Env} {L : Addr} (nd : NoD e s.heap) (R : Heap.HeldW B l e (.ref C) a0 L s.heap)
    (h : ∀ h', Heap.HeldW B l e (.ref C) a0 L h' → s.heap.UpToSlots h' → NoD e h' → Q () { s with heap := h' }) : wpAny M A (setFlight (.ref e) (some L)) Q E s :=
  wpAny_mono ((tame_setFlight (.ref e) (some L)).any e (flight_ok0 (E := fun _ _ => False) (Q := fun _ s' => ∃ h', s' = { s with heap := h' } ∧ Heap.HeldW B l e (.ref C) a0 L h' ∧ s.heap.UpToSlots h') R fun h' a b => ⟨h', rfl, a, b⟩))
    (fun _ s' ⟨⟨h', e1, a, b⟩, k⟩ => by subst e1; exact h h' a b (nd.keep k)) fun _ _ ⟨z, _⟩ => z.elim
/-- through a loop -/
theorem passes_of (W : Own X) {E : Value → Shared → Prop} (hE : ∀ u s, E u s → ∃ pins σ H e C, u = .ref e ∧ Inv X pins σ H s ∧ XSt X pins H e C s.heap ∧ ∀ h', Inv X pins σ H { s with heap := h' } → XSt X pins H e C h' → E u { s with heap := h' }) :
    PassesOwn (model X.prog X.w) X.A X.env E := by
  intro u s hu
  obtain ⟨pins, σ, H, e, C, rfl, I, ⟨B, a0, c, nd, x⟩, k⟩ := hE u s hu
  refine note_ok W I.ok.frames nd x fun h1 hh u1 nd1 => ?_
  have I1 := Inv.upto W I c hh.1 u1 (tk := s.toks)
  have c1 := c.upto W I hh.1
  show wpAny _ _ _ _ _ _
  have hh' := hh
  obtain ⟨k1, k2, k3, oe, vs, T, oT, ts, he, hcls, hd, h1', _⟩ := hh'
  refine wpAny_bind (wpAny_field he hd h1' ?_)
  rw [if_neg (show ¬ ((Value.ref T == Value.none) = true) from by simp)]
  rw [W.fr]
  first
    | refine wpAny_bind (wpAny_pure ?_)
    | skip
  refine flight_ok (s := { s with heap := h1 }) nd1 hh fun h2 hh2 u2 nd2 => ?_
  have I2 := Inv.upto W I1 c1 hh2.1 u2 (tk := s.toks)
  exact k h2 I2 ⟨B, a0, c1.upto W I1 hh2.1, nd2, .inr (.inl hh2)⟩
end
end Mi
set_option Elab.async false
set_option linter.all false
set_option autoImplicit false
set_option maxRecDepth 100000
set_option maxHeartbeats 4000000
namespace Mi
open PySem PySem.Spec PyProof.Rows L2
section
variable (X : Cx) (cl : Nat → Addr)
def OkS (pins : List (Addr × Obj)) (Hf0 H0 Hg : Hp) (r : SR) (f : Flow) (s : Shared) : Prop := match f with
  | .next => ∃ ρ σ Hf H, r = .next ρ ∧ Inv X pins σ H s ∧ Rep X.K cl Hf0 H0 Hf H σ ρ ∧ Same Hg Hf
  | .brk => ∃ ρ σ Hf H, r = .brk ρ ∧ Inv X pins σ H s ∧ Rep X.K cl Hf0 H0 Hf H σ ρ ∧ Same Hg Hf
  | .cont => ∃ ρ σ Hf H, r = .cont ρ ∧ Inv X pins σ H s ∧ Rep X.K cl Hf0 H0 Hf H σ ρ ∧ Same Hg Hf
  | .ret u => ∃ p v σ Hf H, r = .ret p ∧ Inv X pins σ H s ∧ Ext Hf0 H0 Hf H ∧ RelV v u ∧ Rp X.K cl Hf v p
def ExS (pins : List (Addr × Obj)) (Hf0 H0 Hg : Hp) (r : SR) (u : Value) (s : Shared) : Prop :=
  ∃ c ρ σ Hf H e, r = .exc c ρ ∧ u = .ref e ∧ Inv X pins σ H s ∧ Rep X.K cl Hf0 H0 Hf H σ ρ ∧ Same Hg Hf ∧ XSt X pins H e (cl c) s.heap
structure MS (st : Stmt) (f : FS) : Prop where
  run' : ∀ (pins : List (Addr × Obj)) (s : Shared) (σ : SV) (Hf0 H0 Hf H : Hp) (ρ : MEnv), Inv X pins σ H s → Rep X.K cl Hf0 H0 Hf H σ ρ → f ρ ≠ .stuck →
    wpAny (model X.prog X.w) X.A (exec st X.env) (OkS X cl pins Hf0 H0 Hf (f ρ)) (ExS X cl pins Hf0 H0 Hf (f ρ)) s
instance {st : Stmt} {f : FS} : CoeFun (MS X cl st f) fun _ => ∀ (pins : List (Addr × Obj)) (s : Shared) (σ : SV) (Hf0 H0 Hf H : Hp) (ρ : MEnv), Inv X pins σ H s → Rep X.K cl Hf0 H0 Hf H σ ρ → f ρ ≠ .stuck →
    wpAny (model X.prog X.w) X.A (exec st X.env) (OkS X cl pins Hf0 H0 Hf (f ρ)) (ExS X cl pins Hf0 H0 Hf (f ρ)) s := ⟨MS.run'⟩
structure MSs (st : List Stmt) (f : FS) : Prop where
  run' : ∀ (pins : List (Addr × Obj)) (s : Shared) (σ : SV) (Hf0 H0 Hf H : Hp) (ρ : MEnv), Inv X pins σ H s → Rep X.K cl Hf0 H0 Hf H σ ρ → f ρ ≠ .stuck →
    wpAny (model X.prog X.w) X.A (execs st X.env) (OkS X cl pins Hf0 H0 Hf (f ρ)) (ExS X cl pins Hf0 H0 Hf (f ρ)) s
instance {st : List Stmt} {f : FS} : CoeFun (MSs X cl st f) fun _ => ∀ (pins : List (Addr × Obj)) (s : Shared) (σ : SV) (Hf0 H0 Hf H : Hp) (ρ : MEnv), Inv X pins σ H s → Rep X.K cl Hf0 H0 Hf H σ ρ → f ρ ≠ .stuck →
    wpAny (model X.prog X.w) X.A (execs st X.env) (OkS X cl pins Hf0 H0 Hf (f ρ)) (ExS X cl pins Hf0 H0 Hf (f ρ)) s := ⟨MSs.run'⟩
end
section
variable {X : Cx} {cl : Nat → Addr} {pins : List (Addr × Obj)} {s : Shared} {σ : SV} {Hf0 H0 Hf H Hf1 H1 : Hp} {ρ : MEnv} {α : Type}
theorem exs_of {c : Nat} {u : Value} {s' : Shared} (r : Rep X.K cl Hf0 H0 Hf H σ ρ) (x : XAt X cl pins σ Hf H c u s') : ExS X cl pins Hf0 H0 Hf (.exc c ρ) u s' := by
  obtain ⟨e, Hf', H', rfl, I, ex, st⟩ := x
  exact ⟨c, ρ, σ, Hf', H', e, rfl, rfl, I, r.keep ex, ex.frz, st⟩
theorem OkS.from {Hg Hg' : Hp} {r : SR} {fl : Flow} {s' : Shared} (g : Same Hg Hg') (h : OkS X cl pins Hf0 H0 Hg' r fl s') : OkS X cl pins Hf0 H0 Hg r fl s' := by
  cases fl with
  | next => obtain ⟨ρ, σ, Hf, H, a, b, c, d⟩ := h; exact ⟨ρ, σ, Hf, H, a, b, c, g.trans d⟩
  | brk => obtain ⟨ρ, σ, Hf, H, a, b, c, d⟩ := h; exact ⟨ρ, σ, Hf, H, a, b, c, g.trans d⟩
  | cont => obtain ⟨ρ, σ, Hf, H, a, b, c, d⟩ := h; exact ⟨ρ, σ, Hf, H, a, b, c, g.trans d⟩
  | ret u => exact h
theorem ExS.from {Hg Hg' : Hp} {r : SR} {u : Value} {s' : Shared} (g : Same Hg Hg') (h : ExS X cl pins Hf0 H0 Hg' r u s') : ExS X cl pins Hf0 H0 Hg r u s' := by
  obtain ⟨c, ρ, σ, Hf, H, e, a, b, d, f, k, l⟩ := h
  exact ⟨c, ρ, σ, Hf, H, e, a, b, d, f, g.trans k, l⟩
/-- an expression within a statement -/
theorem ME.stm {e : Expr} {f : FE} (h : ME X cl e f) (I : Inv X pins σ H s) (r : Rep X.K cl Hf0 H0 Hf H σ ρ) {k : PV → SR} (hs : ofR (f ρ) ρ k ≠ .stuck) {Q : Value → Shared → Prop}
    (ok : ∀ p v u s' Hf' H', ofR (f ρ) ρ k = k p → Inv X pins σ H' s' → RelV v u → Ext Hf H Hf' H' → Rp X.K cl Hf' v p → Q u s') :
    wpAny (model X.prog X.w) X.A (eval e X.env) Q (ExS X cl pins Hf0 H0 Hf (ofR (f ρ) ρ k)) s := by
  have hf : f ρ ≠ .stuck := fun z => hs (by rw [z]; rfl)
  refine wpAny_mono (h pins s σ Hf0 H0 Hf H ρ I r hf) (fun u s' q => ?_) fun u s' q => ?_
  · obtain ⟨p, v, Hf', H', e1, I', rv, ex, rp⟩ := q
    exact ok p v u s' Hf' H' (by rw [e1]; rfl) I' rv ex rp
  · obtain ⟨c, e1, x⟩ := q
    rw [e1]
    exact exs_of r x
theorem mss_nil : MSs X cl [] sNext := ⟨fun pins s σ Hf0 H0 Hf H ρ I r _ => wpAny_execs_nil ⟨ρ, σ, Hf, H, rfl, I, r, Same.refl _⟩⟩
theorem mss_cons {st : Stmt} {rest : List Stmt} {f g : FS} (h1 : MS X cl st f) (h2 : MSs X cl rest g) : MSs X cl (st :: rest) (sSeq f g) := by
  refine ⟨?_⟩
  intro pins s σ Hf0 H0 Hf H ρ I r hs
  have hf : f ρ ≠ .stuck := fun z => hs (by unfold sSeq; rw [z])
  refine wpAny_execs_cons (wpAny_mono (h1 pins s σ Hf0 H0 Hf H ρ I r hf) (fun fl s1 q => ?_) fun u s1 q => ?_)
  · cases fl with
    | next =>
      obtain ⟨ρ', σ', Hf', H', e1, I', r', sm⟩ := q
      have e2 : sSeq f g ρ = g ρ' := by unfold sSeq; rw [e1]
      rw [e2] at hs ⊢
      exact wpAny_mono (h2 pins s1 σ' Hf0 H0 Hf' H' ρ' I' r' hs) (fun _ _ q => q.from sm) fun _ _ q => q.from sm
    | brk =>
      obtain ⟨ρ', σ', Hf', H', e1, I', r', sm⟩ := q
      have e2 : sSeq f g ρ = .brk ρ' := by unfold sSeq; rw [e1]
      rw [e2]; exact ⟨ρ', σ', Hf', H', rfl, I', r', sm⟩
    | cont =>
      obtain ⟨ρ', σ', Hf', H', e1, I', r', sm⟩ := q
      have e2 : sSeq f g ρ = .cont ρ' := by unfold sSeq; rw [e1]
      rw [e2]; exact ⟨ρ', σ', Hf', H', rfl, I', r', sm⟩
    | ret u =>
      obtain ⟨p, v, σ', Hf', H', e1, I', ex, rv, rp⟩ := q
      have e2 : sSeq f g ρ = .ret p := by unfold sSeq; rw [e1]
      rw [e2]; exact ⟨p, v, σ', Hf', H', rfl, I', ex, rv, rp⟩
  · obtain ⟨c, ρ', σ', Hf', H', e, e1, eu, I', r', sm, x⟩ := q
    have e2 : sSeq f g ρ = .exc c ρ' := by unfold sSeq; rw [e1]
    rw [e2]; exact ⟨c, ρ', σ', Hf', H', e, rfl, eu, I', r', sm, x⟩
theorem mss_one {st : Stmt} {f : FS} (h1 : MS X cl st f) : MSs X cl [st] f := by
  refine ⟨?_⟩
  intro pins s σ Hf0 H0 Hf H ρ I r hs
  refine wpAny_execs_cons (thn (h1 pins s σ Hf0 H0 Hf H ρ I r hs) fun fl s1 q => ?_)
  cases fl with
  | next => exact wpAny_execs_nil q
  | ret v => exact q
  | brk => exact q
  | cont => exact q
theorem ms_expr {e : Expr} {f : FE} {pos : Pos} (h : ME X cl e f) (hsw : swapsWith e none pos.line X.env = pure false := by rfl) : MS X cl (.Expr e pos) (sExpr f) := by
  refine ⟨?_⟩
  intro pins s σ Hf0 H0 Hf H ρ I r hs
  unfold sExpr at hs ⊢
  refine wpAny_Expr_any (h.stm I r hs fun p v u s1 Hf1 H1 e1 I1 rv x1 rp => ?_) I.quiet hsw
  rw [e1]
  exact ⟨ρ, σ, Hf1, H1, rfl, I1, r.keep x1, x1.frz⟩
theorem ms_ret {e : Expr} {f : FE} {pos : Pos} (h : ME X cl e f) : MS X cl (.Return (some e) pos) (sRet f) := by
  refine ⟨?_⟩
  intro pins s σ Hf0 H0 Hf H ρ I r hs
  unfold sRet at hs ⊢
  refine wpAny_Return_some (h.stm I r hs fun p v u s1 Hf1 H1 e1 I1 rv x1 rp => ?_)
  rw [e1]
  exact ⟨p, v, σ, Hf1, H1, rfl, I1, r.ext.trans x1, rv, rp⟩
theorem ms_set {i : Nat} {x : Str} {e : Expr} {f : FE} {pos pos' : Pos} (hN : X.N.Nodup) (hi : X.N[i]? = some x) (hx : Loc X.env.scope x) (he : ME X cl e f) (hsw : swapsWith e (some (.Name x pos')) pos.line X.env = pure false := by rfl)
    (hf : X.fn x = true ∨ X.env.scope.names.lookup x = some .local := by first | exact .inl rfl | exact .inr rfl | assumption) : MS X cl (.Assign [.Name x pos'] e pos) (sSet i f) := by
  refine ⟨?_⟩
  intro pins s σ Hf0 H0 Hf H ρ I r hs
  unfold sSet at hs ⊢
  refine wpAny_Assign_Name (he.stm I r hs fun p v u s1 Hf1 H1 e1 I1 rv x1 rp => ?_) hsw
  rw [e1]
  have hl : i < σ.length := by rw [I.len]; exact (List.getElem?_eq_some_iff.mp hi).1
  exact store_ok I1 hN hi hx rv (fun s2 I2 => ⟨_, _, Hf1, H1, rfl, I2, (r.keep x1).set i rp hl, x1.frz⟩) hf
theorem ms_if {c : Expr} {a b : List Stmt} {t : FT} {f g : FS} {pos : Pos} (hc : MT X cl c t) (ha : MSs X cl a f) (hb : MSs X cl b g) : MS X cl (.If c a b pos) (sIf t f g) := by
  refine ⟨?_⟩
  intro pins s σ Hf0 H0 Hf H ρ I r hs
  have ht : t ρ ≠ .stuck := fun z => hs (by unfold sIf; rw [z])
  refine wpAny_If (wpAny_mono (hc pins s σ Hf0 H0 Hf H ρ I r ht) (fun d s1 q => ?_) fun u s1 q => ?_)
  · obtain ⟨Hf1, H1, e1, I1, x1⟩ := q
    cases d with
    | true =>
      have e2 : sIf t f g ρ = f ρ := by unfold sIf; rw [e1]; rfl
      rw [e2] at hs ⊢
      exact wpAny_mono (ha pins s1 σ Hf0 H0 Hf1 H1 ρ I1 (r.keep x1) hs) (fun _ _ q => q.from x1.frz) fun _ _ q => q.from x1.frz
    | false =>
      have e2 : sIf t f g ρ = g ρ := by unfold sIf; rw [e1]; rfl
      rw [e2] at hs ⊢
      exact wpAny_mono (hb pins s1 σ Hf0 H0 Hf1 H1 ρ I1 (r.keep x1) hs) (fun _ _ q => q.from x1.frz) fun _ _ q => q.from x1.frz
  · obtain ⟨c, e1, x⟩ := q
    have e2 : sIf t f g ρ = .exc c ρ := by unfold sIf; rw [e1]
    rw [e2]
    exact exs_of r x
/-- an iterator over the values vs, as long as the heap bears what Hg bears -/
def Over (J : It) (Hg : Hp) (vs : List V) : Prop := ∀ H i, Same Hg H → (i < vs.length → J.go i H ∧ ∀ x H', J.yld i H x H' → H' = H ∧ vs[i]? = some x) ∧ (vs.length ≤ i → J.stop i H)
def OkI (X : Cx) (cl : Nat → Addr) (tg : Expr) (pins : List (Addr × Obj)) (σ : SV) (Hf H : Hp) (r : R (List PV)) (itv : Value) (s2 : Shared) : Prop :=
  ∃ (ps : List PV) (vs : List V) (Hf' : Hp), r = .ok ps ∧ PIE X pins σ tg (fun J H' => Ext Hf H Hf' H' ∧ Over J Hf' vs ∧ Rps X.K cl Hf' vs ps) itv s2
structure MI (X : Cx) (cl : Nat → Addr) (tg iter : Expr) (f : FA) : Prop where
  run' : ∀ (pins : List (Addr × Obj)) (s : Shared) (σ : SV) (Hf0 H0 Hf H : Hp) (ρ : MEnv), Inv X pins σ H s → Rep X.K cl Hf0 H0 Hf H σ ρ → f ρ ≠ .stuck →
    wpAny (model X.prog X.w) X.A (eval iter X.env) (fun v s1 => wpAny (model X.prog X.w) X.A (pyIter v) (OkI X cl tg pins σ Hf H (f ρ)) (ExP X cl pins σ Hf H (f ρ)) s1) (ExP X cl pins σ Hf H (f ρ)) s
instance {X : Cx} {cl : Nat → Addr} {tg iter : Expr} {f : FA} : CoeFun (MI X cl tg iter f) fun _ => ∀ (pins : List (Addr × Obj)) (s : Shared) (σ : SV) (Hf0 H0 Hf H : Hp) (ρ : MEnv), Inv X pins σ H s → Rep X.K cl Hf0 H0 Hf H σ ρ → f ρ ≠ .stuck →
    wpAny (model X.prog X.w) X.A (eval iter X.env) (fun v s1 => wpAny (model X.prog X.w) X.A (pyIter v) (OkI X cl tg pins σ Hf H (f ρ)) (ExP X cl pins σ Hf H (f ρ)) s1) (ExP X cl pins σ Hf H (f ρ)) s := ⟨MI.run'⟩
theorem over_tup {K : PySem.W.Frag} {a : Addr} {xs : List V} {Hg : Hp} (h : SqT K Hg a xs) : Over (Itt K a) Hg xs := fun H i sm =>
  ⟨fun hi => ⟨⟨xs, xs[i], Same.seqT sm h, by simp [hi]⟩, fun x H' ⟨e, y⟩ => ⟨e, y xs (Same.seqT sm h)⟩⟩, fun hi => ⟨xs, Same.seqT sm h, hi⟩⟩
theorem over_list' {K : PySem.W.Frag} {a : Addr} {xs : List V} {Hg : Hp} (h : SqL K Hg a xs) : Over (Itl K a) Hg xs := fun H i sm =>
  ⟨fun hi => ⟨⟨xs, xs[i], sm.seq h, by simp [hi]⟩, fun x H' ⟨e, y⟩ => ⟨e, y xs (sm.seq h)⟩⟩, fun hi => ⟨xs, sm.seq h, hi⟩⟩
theorem mi_seq {tg iter : Expr} {f : FE} (h : ME X cl iter f) : MI X cl tg iter (iSeq f) := by
  refine ⟨?_⟩
  intro pins s σ Hf0 H0 Hf H ρ I r hs
  unfold iSeq at hs ⊢
  refine h.run I r (Ext.refl r.sub) hs fun p v u s1 Hf1 H1 e1 I1 rv x1 rp => ?_
  rw [e1] at hs ⊢
  cases p <;> first
    | exact absurd rfl hs
    | skip
  · rename_i l
    cases rp with
    | tup hq rr =>
      cases rv
      obtain ⟨its, w, pl, hz⟩ := I1.tuple (Same.seqT x1.sub hq)
      refine wpAny_pyIter_tuple (show s1.heap.IsTuple _ its.toArray from pl) ?_
      refine ⟨l, _, Hf1, rfl, s1.heap.objs.size, [s1.heap.objs.size], _, _, H1, rfl, I1.kept (t' := s1.toks) fun b o e => Heap.get?_push_of_some _ e, turn_tuple _ _, ⟨_, Heap.get?_push_size _ rfl, rfl, rfl⟩, fun b hb => ?_, x1, over_tup hq, rr⟩
      have e : b = s1.heap.objs.size := by simpa using hb
      subst e
      exact I1.fpOk (Nat.le_refl _) (I1.hok.fresh (Nat.le_refl _))
  · rename_i l
    cases rp with
    | lst hq rr =>
      cases rv
      obtain ⟨its, w, pl, hz⟩ := I1.list (x1.sub.seq hq)
      refine wpAny_pyIter_list pl.isList ?_
      refine ⟨l, _, Hf1, rfl, s1.heap.objs.size, [s1.heap.objs.size], _, _, H1, rfl, I1.kept (t' := s1.toks) fun b o e => Heap.get?_push_of_some _ e, turn_list _ _, ⟨_, Heap.get?_push_size _ rfl, rfl, rfl⟩, fun b hb => ?_, x1, over_list' hq, rr⟩
      have e : b = s1.heap.objs.size := by simpa using hb
      subst e
      exact I1.fpOk (Nat.le_refl _) (I1.hok.fresh (Nat.le_refl _))
theorem passes_exs (W : Own X) {r : SR} {Hg : Hp} : PassesOwn (model X.prog X.w) X.A X.env (ExS X cl pins Hf0 H0 Hg r) := passes_of W fun u s ⟨c, ρ, σ, Hf, H, e, e1, eu, I, rr, sm, x⟩ =>
  ⟨pins, σ, H, e, cl c, eu, I, x, fun h' I' x' => ⟨c, ρ, σ, Hf, H, e, e1, eu, I', rr, sm, x'⟩⟩
theorem ms_for {i : Nat} {x : Str} {iter : Expr} {body : List Stmt} {f : FA} {g : FS} {pos pos' : Pos} (W : Own X) (hc : X.calm = true) (hN : X.N.Nodup) (hi : X.N[i]? = some x) (hx : Loc X.env.scope x) (h : MI X cl (.Name x pos') iter f) (hb : MSs X cl body g)
    (hf : X.fn x = true ∨ X.env.scope.names.lookup x = some .local := by first | exact .inl rfl | exact .inr rfl | assumption) (hfs : ∀ y, foldedSetIterable iter X.env y = pure y := by intro _; rfl) :
    MS X cl (.For (.Name x pos') iter body [] pos) (sFor i f g) := by
  refine ⟨?_⟩
  intro pins s σ Hf0 H0 Hf H ρ I r hs
  have hfr : f ρ ≠ .stuck := fun z => hs (by unfold sFor; rw [z])
  have hE : ∀ u s', ExP X cl pins σ Hf H (f ρ) u s' → ExS X cl pins Hf0 H0 Hf (sFor i f g ρ) u s' := fun u s' ⟨c, e1, y⟩ => by
    have e2 : sFor i f g ρ = .exc c ρ := by unfold sFor; rw [e1]
    rw [e2]; exact exs_of r y
  refine wpAny_For (wpAny_mono (h pins s σ Hf0 H0 Hf H ρ I r hfr) (fun v s1 h1 => wpAny_mono h1 (fun itv s2 h2 => ?_) hE) hE) hfs
  obtain ⟨ps, vs, Hf2, e1, it, fp, tn, J, H2, e, I2, T, st2, f2, x2, ov, rps⟩ := h2
  subst e
  have e2 : sFor i f g ρ = forL i g ps ρ := by unfold sFor; rw [e1]
  rw [e2] at hs ⊢
  have hp : PassesOwn (model X.prog X.w) X.A X.env (ExS X cl pins Hf0 H0 Hf (forL i g ps ρ)) := passes_exs W
  have stat : ∀ {H' : Hp}, (∀ b ∈ fp, H' b = none) → ∀ b ∈ fp, FpOk X pins H' b := fun hn b hb => ⟨hn b hb, (f2 b hb).2⟩
  have hil : ∀ {σ' : SV} {H' : Hp} {s' : Shared}, Inv X pins σ' H' s' → i < σ'.length := fun I' => by rw [I'.len]; exact (List.getElem?_eq_some_iff.mp hi).1
  refine codeAny_forLoop_any (fun n s' => ∃ k ρ' σ' Hf' H', Inv X pins σ' H' s' ∧ tn k s'.heap ∧ (∀ b ∈ fp, H' b = none) ∧ Rep X.K cl Hf0 H0 Hf' H' σ' ρ' ∧ Same Hf2 Hf' ∧ n = ps.length - k ∧ k ≤ ps.length ∧ forL i g (ps.drop k) ρ' = forL i g ps ρ) ?_ ps.length
    ⟨0, ρ, σ, Hf2, H2, I2, st2, fun b hb => (f2 b hb).1, r.keep x2, Same.refl _, rfl, Nat.zero_le _, rfl⟩
  rintro n s3 ⟨k, ρ3, σ3, Hf3, H3, I3, st3, fr3, r3, sm3, rfl, hk, e3⟩
  have hvp := rps.length
  have smH : Same Hf2 H3 := sm3.trans r3.sub
  by_cases hlt : k < ps.length
  · obtain ⟨go, yl⟩ := (ov H3 k smH).1 (by rw [hvp]; exact hlt)
    refine wpAny_passesOwn hp (wpAny_mono (T.item X rfl rfl rfl hc k pins s3 σ3 H3 (ExS X cl pins Hf0 H0 Hf (forL i g ps ρ)) I3 (stat fr3) st3 go) (fun rr s4 ⟨u, hr, h4⟩ => ?_) fun _ _ z => z)
    subst hr
    refine wpAny_passesOwn hp (thn h4 fun _ s5 ⟨x5, H5, I5, r5, y5, st5, fr5⟩ => ?_)
    obtain ⟨eH, ex5⟩ := yl x5 H5 y5
    subst eH
    obtain ⟨p5, ep5, rp5⟩ := rps.get' ex5
    have rp5' := rp5.keep sm3
    have hdrop : ps.drop k = p5 :: ps.drop (k + 1) := by
      rw [List.drop_eq_getElem_cons hlt]
      rw [List.getElem?_eq_getElem hlt] at ep5
      rw [Option.some.inj ep5]
    have I5' := I5.pinned (stat fr5) (T.obj _ _ st5)
    refine wpAny_passesOwn hp (wpAny_assign_Name (store_ok I5' hN hi hx r5 (fun s6 I6 => ?_) hf))
    have r6 := r3.set i rp5' (hil I3)
    rw [hdrop] at e3
    have step : forL i g (p5 :: ps.drop (k + 1)) ρ3 = (match g (ρ3.set i (some p5)) with | .next ρ' => forL i g (ps.drop (k + 1)) ρ' | .cont ρ' => forL i g (ps.drop (k + 1)) ρ' | .brk ρ' => .next ρ' | o => o) := rfl
    rw [step] at e3
    have hg : g (ρ3.set i (some p5)) ≠ .stuck := fun z => hs (by rw [← e3, z])
    have smHf : Same Hf Hf3 := x2.frz.trans sm3
    refine wpAny_passesOwn hp (wpAny_mono (hb _ s6 _ Hf0 H0 Hf3 H5 _ I6 r6 hg) (fun fl s7 q7 => ?_) fun u s7 q7 => ?_)
    · have again : ∀ {ρ7 : MEnv} {σ7 : SV} {Hf7 H7 : Hp}, Inv X (pins ++ pinsAt fp s5.heap) σ7 H7 s7 → Rep X.K cl Hf0 H0 Hf7 H7 σ7 ρ7 → Same Hf2 Hf7 → forL i g (ps.drop (k + 1)) ρ7 = forL i g ps ρ →
          ∃ m, m < ps.length - k ∧ ∃ k ρ' σ' Hf' H', Inv X pins σ' H' s7 ∧ tn k s7.heap ∧ (∀ b ∈ fp, H' b = none) ∧ Rep X.K cl Hf0 H0 Hf' H' σ' ρ' ∧ Same Hf2 Hf' ∧ m = ps.length - k ∧ k ≤ ps.length ∧ forL i g (ps.drop k) ρ' = forL i g ps ρ := fun {ρ7 σ7 Hf7 H7} I7 r7 sm7 e7 => by
        refine ⟨ps.length - (k + 1), by omega, k + 1, ρ7, σ7, Hf7, H7, I7.unpinned, T.keep _ _ _ st5 fun b hb o e => (I7.pin (b, o) (List.mem_append_right _ (List.mem_append_right _ (mem_pinsAt hb e)))).1, fun b hb => ?_, r7, sm7, rfl, hlt, e7⟩
        obtain ⟨o, e, d⟩ := T.obj _ _ st5 b hb
        exact (I7.pin (b, o) (List.mem_append_right _ (List.mem_append_right _ (mem_pinsAt hb e)))).2.1
      cases fl with
      | next =>
        obtain ⟨ρ7, σ7, Hf7, H7, e7, I7, r7, sm7⟩ := q7
        rw [e7] at e3
        exact again I7 r7 (sm3.trans sm7) e3
      | cont =>
        obtain ⟨ρ7, σ7, Hf7, H7, e7, I7, r7, sm7⟩ := q7
        rw [e7] at e3
        exact again I7 r7 (sm3.trans sm7) e3
      | brk =>
        obtain ⟨ρ7, σ7, Hf7, H7, e7, I7, r7, sm7⟩ := q7
        rw [e7] at e3
        rw [← e3]
        exact ⟨ρ7, σ7, Hf7, H7, rfl, I7.unpinned, r7, smHf.trans sm7⟩
      | ret u =>
        obtain ⟨p7, v7, σ7, Hf7, H7, e7, I7, ex7, rv7, rp7⟩ := q7
        rw [e7] at e3
        rw [← e3]
        exact ⟨p7, v7, σ7, Hf7, H7, rfl, I7.unpinned, ex7, rv7, rp7⟩
    · obtain ⟨c7, ρ7, σ7, Hf7, H7, ee7, e7, eu7, I7, r7, sm7, x7⟩ := q7
      rw [e7] at e3
      rw [← e3]
      exact ⟨c7, ρ7, σ7, Hf7, H7, ee7, rfl, eu7, I7.unpinned, r7, smHf.trans sm7, x7.fewer⟩
  · have hke : k = ps.length := by omega
    subst hke
    refine wpAny_passesOwn hp (thn (T.done X rfl rfl rfl hc ps.length pins s3 σ3 H3 _ I3 (stat fr3) st3 ((ov H3 ps.length smH).2 (by rw [hvp]; exact Nat.le_refl _))) fun rr s4 ⟨hr, I4⟩ => ?_)
    subst hr
    rw [List.drop_length] at e3
    rw [← e3]
    exact wpAny_execs_nil ⟨ρ3, σ3, Hf3, H3, rfl, I4, r3, x2.frz.trans sm3⟩
end
end Mi
set_option Elab.async false
set_option linter.all false
set_option autoImplicit false
set_option maxRecDepth 100000
set_option maxHeartbeats 4000000
namespace Mi
open PySem PySem.Spec PyProof.Rows L2
section
variable {K : PySem.W.Frag} {cl : Nat → Addr} {Hf H : Hp}
theorem rep_start {n : Nat} {N : List Str} {vs : List V} {ps : List PV} (hn : N.length = n) (sm : Same Hf H) (r : Rps K cl Hf vs ps) : Rep K cl Hf H Hf H (L2.start N vs) (Mi.start n ps) := by
  have hl := r.length
  have get : ∀ {i : Nat} {p : PV}, (Mi.start n ps)[i]? = some (some p) → ps[i]? = some p := fun {i p} h => by
    unfold Mi.start at h
    by_cases hi : i < ps.length
    · rw [List.getElem?_append_left (by simpa using hi), List.getElem?_map] at h
      cases e : ps[i]? with
      | none => rw [e] at h; cases h
      | some q => rw [e] at h; cases h; rfl
    · rw [List.getElem?_append_right (by simpa using hi), List.getElem?_replicate] at h
      split at h <;> cases h
  have noown : ∀ {i : Nat} {l : List PV}, ps[i]? ≠ some (.own l) := fun {i l} e => by
    obtain ⟨v, _, h⟩ := r.get e
    cases h
  refine ⟨Ext.refl sm, fun i p h => ?_, fun i j a b _ h _ _ _ => absurd (get h) noown⟩
  have e := get h
  obtain ⟨v, h1, h2⟩ := r.get e
  refine ⟨v, ?_, ?_⟩
  · unfold L2.start
    have hi : i < vs.length := (List.getElem?_eq_some_iff.mp h1).1
    rw [List.getElem?_append_left (by simpa using hi), List.getElem?_map, h1]
    rfl
  · cases p with
    | own l => exact absurd e noown
    | _ => exact h2
end
section
variable {P : Program} {w : World} {K : PySem.W.Frag} {mg : Str → Option Value} {base : Heap} {cl : Nat → Addr}
abbrev cxM (P : Program) (w : World) (K : PySem.W.Frag) (mg : Str → Option Value) (base : Heap) (cl : Nat → Addr) (N : List Str) (qual : Str) (scope : Scope) (f : Addr) (cd : Value) (A : Around) (outer : List Env) (s : Shared) (H : Hp) (E : XK) : Cx :=
  cxOf (CXm cl P w) P w K mg base N qual scope f cd A outer s H E
theorem own_cx {N : List Str} {qual : Str} {scope : Scope} {f : Addr} {cd : Value} {A : Around} {outer : List Env} {s : Shared} {H : Hp} {E : XK} : Own (cxM P w K mg base cl N qual scope f cd A outer s H E) :=
  ⟨rfl, rfl, fun b z => absurd (show b ∈ ([] : List Addr) from z) (by simp), fun _ => rfl⟩
/-- an exception leaves the def -/
theorem leaves_ok {N : List Str} {qual : Str} {scope : Scope} {f : Addr} {cd : Value} {A : Around} {outer : List Env} {s s' : Shared} {H H' : Hp} {E : XK} {pins : List (Addr × Obj)} {σ : SV} {e : Addr} {c : Nat}
    (I : Inv (cxM P w K mg base cl N qual scope f cd A outer s H E) pins σ H' s') (x : XSt (cxM P w K mg base cl N qual scope f cd A outer s H E) pins H' e (cl c) s'.heap) (hE : E (.ref (cl c)) none H') :
    (cxM P w K mg base cl N qual scope f cd A outer s H E).xe (.ref e) s' := by
  have W := own_cx (P := P) (w := w) (K := K) (mg := mg) (base := base) (cl := cl) (N := N) (qual := qual) (scope := scope) (f := f) (cd := cd) (A := A) (outer := outer) (s := s) (H := H) (E := E)
  obtain ⟨B, a0, cov, nd, st⟩ := x
  show wpAny _ _ (leaving _ _) _ _ s'
  unfold leaving
  refine wpAny_bind (note_ok W I.ok.frames nd st fun h1 hh u1 nd1 => ?_)
  have I1 := Inv.upto W I cov hh.1 u1 (tk := s'.toks)
  have c1 := cov.upto W I hh.1
  refine lands_ok (s := { s' with heap := h1 }) nd1 hh fun h2 hf u2 nd2 => ?_
  have I2 := Inv.upto W I1 c1 hf.1 u2 (tk := s'.toks)
  have c2 := c1.upto W I1 hf.1
  refine ⟨e, c, H', B, a0, rfl, I2.os, I2.bare, I2.base, I2.hok, ?_, fun b o hb hc hn => ?_, nd2, hE⟩
  · have hf' : Heap.FlyingW B ((cxM P w K mg base cl N qual scope f cd A outer s H E).env :: outer) e (.ref (cl c)) a0 h2 := hf
    obtain ⟨k1, k2, ⟨_, _, k3⟩, k4⟩ := hf'
    exact ⟨k1, k2, k3, k4⟩
  · refine c2 b o hb ?_ fun z => ?_
    · rcases hc with hc | hc
      · exact .inl hc
      · exact .inr (.inr (.inl hc))
    · rcases (frs_stk W).mp z with z | z
      · rcases hc with hc | ⟨o₀, hc⟩
        · exact hc (by rw [z]; exact I2.free)
        · have h1 := Heap.lt_size hc
          rw [z] at h1
          exact absurd (Nat.lt_of_lt_of_le h1 I2.ok.above) (Nat.lt_irrefl _)
      · exact hn z
theorem fn_mirror {x qual : Str} {st : Stmt} {f : Addr} {fd : FuncData} {N ps : List Str} {k n : Nat} {b : FS} (F : Fun K x qual st f fd) (S : FnScope N ps (defScope st)) (hn : ps.length = n)
    (hbody : ∀ (cdv : Value) (A : Around) (outer : List Env) (s : Shared) (H : Hp) (E : XK), Room k (A.deeper (envOfC qual (defScope st) s.heap.objs.size f cdv)) →
      MSs (cxM P w K mg base cl N qual (defScope st) f cdv A outer s H E) cl (defBody st) b) : FnOk P w K mg base (CXm cl P w) (k + 1) f fd ps (spF K cl n (runF N.length b)) := by
  obtain ⟨oc, od, kV, doc, pm, an, cdv, ct, osl, rfl, lk, hcd⟩ := F.ex
  refine fn_of lk hcd S (fun vs H Q E h => by rw [h.1, hn]) fun A outer s H vs Q E hr hsp => ?_
  obtain ⟨hl, Hf, qs, sm, rps, hs, hok, hex⟩ := hsp
  have hb := hbody cdv A outer s H E hr
  have hs' : b (Mi.start N.length qs) ≠ .stuck := fun z => hs (by unfold runF; rw [z])
  refine ⟨fun D σ H1 => σ = L2.start N vs ∧ H1 = H ∧ D = { nx := fun _ H' => Q .non H', rt := Q }, fun pins s1 σ H1 D I h => ?_, rfl, rfl, rfl⟩
  obtain ⟨rfl, rfl, rfl⟩ := h
  refine wpAny_mono (hb pins s1 _ Hf H1 Hf H1 _ I (rep_start rfl sm rps) hs') (fun fl s2 q => ?_) fun u s2 q => ?_
  · cases fl with
    | next =>
      obtain ⟨ρ', σ', Hf', H', e1, I', r', _⟩ := q
      exact ⟨σ', H', I', hok .non .non Hf' H' (by unfold runF; rw [e1]) r'.ext .non⟩
    | ret u =>
      obtain ⟨p, v, σ', Hf', H', e1, I', ex, rv, rp⟩ := q
      exact ⟨v, σ', H', I', rv, hok p v Hf' H' (by unfold runF; rw [e1]) ex rp⟩
    | brk =>
      obtain ⟨ρ', σ', Hf', H', e1, I', r', _⟩ := q
      exact absurd (by unfold runF; rw [e1]) hs
    | cont =>
      obtain ⟨ρ', σ', Hf', H', e1, I', r', _⟩ := q
      exact absurd (by unfold runF; rw [e1]) hs
  · obtain ⟨c, ρ', σ', Hf', H', e, e1, rfl, I', r', _, x⟩ := q
    exact leaves_ok I' x (hex c Hf' H' (by unfold runF; rw [e1]) r'.ext)
end
end Mi
set_option Elab.async false
set_option linter.all false
set_option autoImplicit false
set_option maxRecDepth 100000
set_option maxHeartbeats 4000000
namespace Mi
open PySem PySem.Spec PyProof.Rows L2
def tyS : Ty → String
  | .int => "int" | .bool => "bool" | .str => "str" | .tuple => "tuple" | .list => "list" | .dict => "dict"
def tyN : Ty → Str
  | .int => "int" | .bool => "bool" | .str => "str" | .tuple => "tuple" | .list => "list" | .dict => "dict"
theorem tyN_boot (t : Ty) : bootBuiltins (tyN t) = some (.type (tyS t)) := by
  cases t
  · exact boot_int
  · exact boot_bool
  · exact boot_str
  · exact boot_tuple
  · exact boot_list
  · exact boot_dict
section
variable {K : PySem.W.Frag}
theorem kit_none (t : Ty) : PySem.W.kitOne K (.type "NoneType") (.type (tyS t)) = some false := by cases t <;> rfl
theorem kit_bool (t : Ty) : PySem.W.kitOne K (.type "bool") (.type (tyS t)) = some (match t with | .int => true | .bool => true | _ => false) := by cases t <;> rfl
theorem kit_int (t : Ty) : PySem.W.kitOne K (.type "int") (.type (tyS t)) = some (match t with | .int => true | _ => false) := by cases t <;> rfl
theorem kit_str (t : Ty) : PySem.W.kitOne K (.type "str") (.type (tyS t)) = some (match t with | .str => true | _ => false) := by cases t <;> rfl
theorem kit_tuple (t : Ty) : PySem.W.kitOne K (.type "tuple") (.type (tyS t)) = some (match t with | .tuple => true | _ => false) := by cases t <;> rfl
theorem kit_list (t : Ty) : PySem.W.kitOne K (.type "list") (.type (tyS t)) = some (match t with | .list => true | _ => false) := by cases t <;> rfl
theorem kit_dict (t : Ty) : PySem.W.kitOne K (.type "dict") (.type (tyS t)) = some (match t with | .dict => true | _ => false) := by cases t <;> rfl
end
section
variable {X : Cx} {cl : Nat → Addr} {pins : List (Addr × Obj)} {s : Shared} {σ : SV} {Hf0 H0 Hf H Hf1 H1 : Hp} {ρ : MEnv} {α : Type}
theorem isinst_run {p : PV} {v : V} {u : Value} {t : Ty} {b : Bool} {E : Value → Shared → Prop} (I : Inv X pins σ H s) (sm : Same Hf H) (rv : RelV v u) (rp : Rp X.K cl Hf v p) (h : isTy p t = some b) :
    wpAny (model X.prog X.w) X.A (call (.builtin "isinstance") [u, .type (tyS t)]) (OkP X cl pins σ Hf H (.ok (.bl b))) E s := by
  have fin : ∀ tk, OkP X cl pins σ Hf H (.ok (.bl b)) (.bool b) { s with toks := tk } := fun tk => ⟨.bl b, .bl b, Hf, H, rfl, I.tok _, rfl, Ext.refl sm, .bl b⟩
  cases rp with
  | non => cases rv; exact PySem.W.kia_one PySem.W.kitx_none I.kIn True.intro (by rw [kit_none]; cases t <;> exact h) (fun z => nomatch z) fin
  | bl c => cases rv; exact PySem.W.kia_one PySem.W.kitx_bool I.kIn True.intro (by rw [kit_bool]; cases t <;> exact h) (fun z => nomatch z) fin
  | int c => obtain ⟨tk, rfl⟩ := rv; exact PySem.W.kia_one PySem.W.kitx_int I.kIn True.intro (by rw [kit_int]; cases t <;> exact h) (fun z => nomatch z) fin
  | str c => obtain ⟨tk, rfl⟩ := rv; exact PySem.W.kia_one PySem.W.kitx_str I.kIn True.intro (by rw [kit_str]; cases t <;> exact h) (fun z => nomatch z) fin
  | tup hq r =>
    cases rv
    obtain ⟨its, w, ⟨o, h1, h2, _⟩, _⟩ := I.tuple (Same.seqT sm hq)
    exact PySem.W.kia_one PySem.W.kitx_tuple I.kIn ⟨o, h1, h2⟩ (by rw [kit_tuple]; cases t <;> exact h) (fun z => nomatch z) fin
  | lst hq r =>
    cases rv
    obtain ⟨its, w, ⟨o, n, h1, h2, _⟩, _⟩ := I.list (sm.seq hq)
    exact PySem.W.kia_one PySem.W.kitx_list I.kIn ⟨o, h1, h2⟩ (by rw [kit_list]; cases t <;> exact h) (fun z => nomatch z) fin
  | exc hq => cases t <;> cases h
  | ins hq => cases t <;> cases h
  | dic0 hq =>
    cases rv
    obtain ⟨_, _, vs, _, o, es, ep, h1, h2, _⟩ := I.hok _ _ (sm _ _ hq)
    exact PySem.W.kia_one PySem.W.kitx_dict I.kIn ⟨o, h1, h2.1⟩ (by rw [kit_dict]; cases t <;> exact h) (fun z => nomatch z) fin
theorem me_isinst {e : Expr} {f : FE} (t : Ty) {p p2 pos : Pos} (he : ME X cl e f) (hg : Gl X "isinstance") (hm : X.mg "isinstance" = none) (hg2 : Gl X (tyN t)) (hm2 : X.mg (tyN t) = none)
    (hst : starEach [e, .Name (tyN t) p2] X.env = [(false, eval e X.env), (false, eval (.Name (tyN t) p2) X.env)] := by rfl) (hst2 : starEach [.Name (tyN t) p2] X.env = [(false, eval (.Name (tyN t) p2) X.env)] := by rfl) :
    ME X cl (.Call (.Name "isinstance" p) [e, .Name (tyN t) p2] [] pos) (fIsinst t f) := by
  refine ⟨?_⟩
  intro pins s σ Hf0 H0 Hf H ρ I r hs
  unfold fIsinst at hs ⊢
  refine wpAny_Call_Name_kw (ld_blt I hg hm boot_isinstance ?_)
  refine PyProof.Rows.callWith_builtin1 ?_ (by rw [hst, hst2]) (by rw [hst2]; rfl)
  rw [hst]
  show wpAny _ _ (spliced ((false, eval e X.env) :: backTo pos [(false, eval (.Name (tyN t) p2) X.env)])) _ _ s
  refine Calls.spliced_cons (he.run I r (Ext.refl r.sub) hs fun q v u s1 Hf1 H1 e1 I1 rv x1 rp => ?_)
  rw [e1] at hs ⊢
  cases hb : isTy q t with
  | none => rw [hb] at hs; exact absurd rfl hs
  | some b =>
    have hn : tyN t ≠ "__name__" := by cases t <;> decide
    have hd : (tyN t == ("__debug__" : Str)) = false := by cases t <;> decide
    show wpAny _ _ (spliced ((false, eval (.Name (tyN t) p2) X.env) :: [])) _ _ s1
    refine Calls.spliced_cons (ld_blt I1 hg2 hm2 (tyN_boot t) (Calls.spliced_nil ?_) hn hd)
    show wpAny _ _ (call (.builtin "isinstance") [u, .type (tyS t)]) (OkP X cl pins σ Hf H (.ok (.bl b))) _ s1
    exact thn (isinst_run I1 x1.sub rv rp hb) fun _ _ q => q.from (e0 := x1)
structure MGs (X : Cx) (ts : List Expr) (is : List Nat) : Prop where
  run' : ∀ (pins : List (Addr × Obj)) (s : Shared) (σ : SV) (H : Hp) (vs : List V) (us : List Value) (E : Value → Shared → Prop), Inv X pins σ H s → Vals vs us → vs.length = is.length →
    wpAny (model X.prog X.w) X.A (assignInOrder ((assignEach ts X.env).map (·.2)) us) (fun _ s' => Inv X pins ((is.zip vs).foldl (fun σ q => σ.set q.1 (some q.2)) σ) H s') E s
instance {X : Cx} {ts : List Expr} {is : List Nat} : CoeFun (MGs X ts is) fun _ => ∀ (pins : List (Addr × Obj)) (s : Shared) (σ : SV) (H : Hp) (vs : List V) (us : List Value) (E : Value → Shared → Prop), Inv X pins σ H s → Vals vs us → vs.length = is.length →
    wpAny (model X.prog X.w) X.A (assignInOrder ((assignEach ts X.env).map (·.2)) us) (fun _ s' => Inv X pins ((is.zip vs).foldl (fun σ q => σ.set q.1 (some q.2)) σ) H s') E s := ⟨MGs.run'⟩
end
end Mi
set_option Elab.async false
set_option linter.all false
set_option autoImplicit false
set_option maxRecDepth 100000
set_option maxHeartbeats 4000000
namespace Mi
open PySem PySem.Spec PyProof.Rows L2
section
variable {X : Cx} {cl : Nat → Addr}
theorem mv (i : Nat) {x : Str} {pos : Pos} (hN : X.N[i]? = some x := by rfl) (hv : Vis X.env.scope x := by first | exact Or.inl rfl | exact Or.inr (Or.inl rfl) | exact Or.inr (Or.inr rfl)) (hd : (x == ("__debug__" : Str)) = false := by decide)
    (hcd : (x == ("__classdict__" : Str)) = false := by decide) : ME X cl (.Name x pos) (fVar i) := me_var hN hv hd hcd
end
theorem hu64 {A : Around} {k : Nat} (hr : Room k A) : A.units + 64 < cLine := by have := hr.un; omega
section
variable {P : Program} {w : World} {K : PySem.W.Frag} {mg : Str → Option Value} {base : Heap} {cl : Nat → Addr}
/-- a def of the text, by its mirror, wherever it is called from -/
structure FG (P : Program) (w : World) (K : PySem.W.Frag) (mg : Str → Option Value) (base : Heap) (cl : Nat → Addr) (k : Nat) (x : Str) (n : Nat) (F : List PV → R PV) : Prop where
  ex : ∃ (f : Addr) (fd : FuncData) (ps : List Str), mg x = some (.ref f) ∧ PySem.W.keepIn K (.ref f) = true ∧ ps.length = n ∧ FnOk P w K mg base (CXm cl P w) k f fd ps (spF K cl n F) ∧ Binds K fd ps []
theorem FG.fn {N : List Str} {qual : Str} {scope : Scope} {f : Addr} {cd : Value} {A : Around} {outer : List Env} {s : Shared} {H : Hp} {E : XK} {k n : Nat} {x : Str} {F : List PV → R PV} (h : FG P w K mg base cl k x n F) :
    Fn (cxM P w K mg base cl N qual scope f cd A outer s H E) cl k x n F := ⟨h.ex⟩
theorem mc {N : List Str} {qual : Str} {scope : Scope} {f : Addr} {cd : Value} {A : Around} {outer : List Env} {s : Shared} {H : Hp} {E : XK} {k k' n : Nat} {x : Str} {F : List PV → R PV} {e : Expr} {es : List Expr} {g : FA} {p pos : Pos}
    (h : FG P w K mg base cl k x n F) (hr : Room k' (A.deeper (envOfC qual scope s.heap.objs.size f cd))) (inj : ∀ c d, cl c = cl d → c = d) (ha : MA (cxM P w K mg base cl N qual scope f cd A outer s H E) cl (e :: es) g) (hk : k ≤ k' := by decide)
    (hl : (e :: es).length = n := by rfl) (hg : Gl (cxM P w K mg base cl N qual scope f cd A outer s H E) x := by rfl) (hdb : (x == ("__debug__" : Str)) = false := by decide)
    (he : starEach (e :: es) (cxM P w K mg base cl N qual scope f cd A outer s H E).env = (false, eval e (cxM P w K mg base cl N qual scope f cd A outer s H E).env) :: starEach es (cxM P w K mg base cl N qual scope f cd A outer s H E).env := by rfl)
    (hpl : (backTo pos (starEach es (cxM P w K mg base cl N qual scope f cd A outer s H E).env)).any (·.1) = false := by rfl) :
    ME (cxM P w K mg base cl N qual scope f cd A outer s H E) cl (.Call (.Name x p) (e :: es) [] pos) (fCall F g) :=
  me_call h.fn (hr.mono hk) hg rfl inj (fun b z => absurd (show b ∈ ([] : List Addr) from z) (by simp)) ha hl hdb he hpl
/-- a def as the top has laid it -/
structure DefAt (K : PySem.W.Frag) (mg : Str → Option Value) (x : Str) (st : Stmt) (f : Addr) (fd : FuncData) : Prop where
  fn : Fun K x x st f fd
  mg : mg x = some (.ref f)
theorem def_mk {h : Heap} {x : Str} {st : Stmt} {f : Addr} {oc : Value} {od an : Option Addr} {osl : Array (Option Value)} {kV doc pm cdv ct : Value} (X : K.In h) (G : h.Ns mainGlobals mg) (a : PySem.W.nsIn K mainGlobals x = some (some (.ref f)))
    (l : K.lookup f = some ⟨oc, od, .func (PySem.W.fnOf x x (defArgs st) (defBody st) (defScope st) .none kV doc pm an cdv ct), osl⟩) (c : PySem.W.codeIn K cdv x = true) (k : PySem.W.keepIn K (.ref f) = true) :
    ∃ f fd, DefAt K mg x st f fd := ⟨f, _, fun_mk l c k, PySem.W.mg_of X G a⟩
theorem DefAt.fg {x : Str} {st : Stmt} {f : Addr} {fd : FuncData} {N ps : List Str} {k n : Nat} {b : FS} (D : DefAt K mg x st f fd) (S : FnScope N ps (defScope st)) (hn : ps.length = n)
    (hb : ∀ (kV doc pm : Value) (an : Option Addr) (cdv ct : Value) (us : List Value), us.length = ps.length → bindArgs (PySem.W.fnOf x x (defArgs st) (defBody st) (defScope st) .none kV doc pm an cdv ct) ⟨us, []⟩ = pure (ps.zip us))
    (hbody : ∀ (cdv : Value) (A : Around) (outer : List Env) (s : Shared) (H : Hp) (E : XK), Room k (A.deeper (envOfC x (defScope st) s.heap.objs.size f cdv)) →
      MSs (cxM P w K mg base cl N x (defScope st) f cdv A outer s H E) cl (defBody st) b) : FG P w K mg base cl (k + 1) x n (runF N.length b) :=
  ⟨⟨f, fd, ps, D.mg, D.fn.kp, hn, fn_mirror D.fn S hn hbody, D.fn.binds hb⟩⟩
/-- the addresses of the text's error classes -/
def adOf (K : PySem.W.Frag) (x : Str) : Addr := match PySem.W.nsIn K mainGlobals x with
  | some (some (.ref a)) => a
  | _ => 0
def sumOf (K : PySem.W.Frag) : List (Nat × Str) → Nat
  | [] => 0
  | x :: r => adOf K x.2 + sumOf K r
def clOf (K : PySem.W.Frag) (names : List (Nat × Str)) (c : Nat) : Addr := match names.lookup c with
  | some x => adOf K x
  | none => sumOf K names + 1 + c
theorem lookup_mem : ∀ {names : List (Nat × Str)} {c : Nat} {x : Str}, names.lookup c = some x → (c, x) ∈ names
  | [], _, _, h => by cases h
  | (d, y) :: r, c, x, h => by
    rw [List.lookup_cons] at h
    by_cases e : c = d
    · subst e; simp at h; subst h; exact List.mem_cons_self
    · have : (c == d) = false := by simpa using e
      rw [this] at h
      exact List.mem_cons_of_mem _ (lookup_mem h)
theorem mem_lookup : ∀ {names : List (Nat × Str)} {c : Nat} {x : Str}, (names.map (·.1)).Nodup → (c, x) ∈ names → names.lookup c = some x
  | (d, y) :: r, c, x, hn, h => by
    rw [List.map_cons, List.nodup_cons] at hn
    rw [List.lookup_cons]
    rcases List.mem_cons.mp h with e | h2
    · cases e; simp
    · have : (c == d) = false := by
        by_cases e : c = d
        · subst e; exact absurd (List.mem_map.mpr ⟨(c, x), h2, rfl⟩) hn.1
        · simpa using e
      rw [this]
      exact mem_lookup hn.2 h2
theorem sumOf_le {K : PySem.W.Frag} : ∀ {names : List (Nat × Str)} {c : Nat} {x : Str}, (c, x) ∈ names → adOf K x ≤ sumOf K names
  | y :: r, c, x, h => by
    rcases List.mem_cons.mp h with e | h
    · subst e; exact Nat.le_add_right _ _
    · exact Nat.le_trans (sumOf_le h) (Nat.le_add_left _ _)
theorem inj_map {α β : Type} {f : α → β} : ∀ {l : List α}, (l.map f).Nodup → ∀ a ∈ l, ∀ b ∈ l, f a = f b → a = b
  | y :: r, hn, a, ha, b, hb, e => by
    rw [List.map_cons, List.nodup_cons] at hn
    rcases List.mem_cons.mp ha with rfl | ha2
    · rcases List.mem_cons.mp hb with rfl | hb2
      · rfl
      · exact absurd (List.mem_map.mpr ⟨b, hb2, e.symm⟩) hn.1
    · rcases List.mem_cons.mp hb with rfl | hb2
      · exact absurd (List.mem_map.mpr ⟨a, ha2, e⟩) hn.1
      · exact inj_map hn.2 a ha2 b hb2 e
theorem clOf_inj {K : PySem.W.Frag} {names : List (Nat × Str)} (h : (names.map fun p => adOf K p.2).Nodup) : ∀ c d, clOf K names c = clOf K names d → c = d := by
  intro c d e
  unfold clOf at e
  cases ec : names.lookup c with
  | none =>
    rw [ec] at e
    cases ed : names.lookup d with
    | none => rw [ed] at e; have e' : sumOf K names + 1 + c = sumOf K names + 1 + d := e; omega
    | some y => rw [ed] at e; have e' : sumOf K names + 1 + c = adOf K y := e; have : adOf K y ≤ sumOf K names := sumOf_le (K := K) (lookup_mem ed); rw [← e'] at this; exact absurd (Nat.le_trans (Nat.le_add_right _ _) this) (Nat.not_succ_le_self _)
  | some x =>
    rw [ec] at e
    cases ed : names.lookup d with
    | none => rw [ed] at e; have e' : sumOf K names + 1 + d = adOf K x := e.symm; have : adOf K x ≤ sumOf K names := sumOf_le (K := K) (lookup_mem ec); rw [← e'] at this; exact absurd (Nat.le_trans (Nat.le_add_right _ _) this) (Nat.not_succ_le_self _)
    | some y =>
      rw [ed] at e
      have := inj_map h (c, x) (lookup_mem ec) (d, y) (lookup_mem ed) e
      cases this; rfl
/-- how great the script's numbers may be -/
theorem weight_le : ∀ {ns : List Int} {x : Int}, x ∈ ns → nb x ≤ PySem.W.WData.weightAll (ns.map PySem.W.WData.int)
  | y :: r, x, h => by
    have e : PySem.W.WData.weightAll ((y :: r).map PySem.W.WData.int) = nb y + 1 + PySem.W.WData.weightAll (r.map PySem.W.WData.int) := by
      rw [List.map_cons]
      simp only [PySem.W.WData.weightAll, PySem.W.WData.weight, Builtin.Int.intBits]
    rw [e]
    rcases List.mem_cons.mp h with rfl | h
    · omega
    · have := weight_le h; omega
theorem bits_of_lay {ns : List Int} (h : PySem.W.WData.layableAll [PySem.W.WData.list (ns.map PySem.W.WData.int)] = true) : ∀ x ∈ ns, nb x ≤ 1048576 := by
  intro x hx
  have h1 : PySem.W.WData.layable (PySem.W.WData.list (ns.map PySem.W.WData.int)) = true := by
    simpa [PySem.W.WData.layableAll] using h
  have h2 : PySem.W.WData.weight (PySem.W.WData.list (ns.map PySem.W.WData.int)) ≤ 2 ^ 20 := of_decide_eq_true (Bool.and_eq_true_iff.mp h1).2
  have e : PySem.W.WData.weight (PySem.W.WData.list (ns.map PySem.W.WData.int)) = PySem.W.WData.weightAll (ns.map PySem.W.WData.int) := by simp only [PySem.W.WData.weight]
  rw [e] at h2
  have := weight_le hx
  omega
end
end Mi
set_option Elab.async false
set_option linter.all false
set_option autoImplicit false
set_option maxRecDepth 100000
set_option maxHeartbeats 4000000
namespace Mi
open PySem PySem.Spec PyProof.Rows L2
abbrev bmV : List Value := [.type "ValueError", .type "Exception", .type "BaseException", .type "object"]
def attrOk (K : PySem.W.Frag) (D : Addr) : Bool := (PySem.W.findIn K (.ref D) "__getattribute__" == some (some (.builtin "BaseException.__getattribute__"))) && (PySem.W.findIn K (.ref D) "__getattr__" == some none) && (PySem.W.subIn K (.ref D) (.type "BaseException") == some true) && (PySem.W.clsIn K D).isSome && (PySem.W.findIn K (.ref D) "__class__" == some (some (.builtin "object.__class__"))) &&
  (PySem.W.specialIn K (.builtin "object.__class__") "__get__" == some (some (.builtin "getset_descriptor.__get__"))) && (PySem.W.takesIn K (.builtin "object.__class__") == some true) && (PySem.W.mroIn K D (.type "object") == some true)
structure ClF (K : PySem.W.Frag) (mg : Str → Option Value) (cl : Nat → Addr) (c : Nat) (x : Str) : Prop where
  mg : mg x = some (.ref (cl c))
  ex : PySem.W.excIn K (cl c) bmV "ValueError.__new__" = true
  at_ : attrOk K (cl c) = true
theorem excObj_of {K : PySem.W.Frag} {h : Heap} {C : Addr} {bmB : List Value} {newId : String} (X : K.In h) (q : PySem.W.excIn K C bmB newId = true) :
    ∃ bm N nm q bs hdct sn sub ab col dd k0 k1 k2 k3 k5 mN, h.get? C = some (excClassObj nm q C N bs bm hdct sn sub ab col dd k0 k1 k2 k3 k5 newId) ∧ h.Ns N mN ∧ mN "__init__" = none ∧ OwnTail h bmB bm := by
  unfold PySem.W.excIn at q
  split at q
  · rename_i dd cd sl ho
    split at q
    · rename_i C' bm k0 k1 k2 k3 n k5 hm hs
      simp only [Bool.and_eq_true, beq_iff_eq, Bool.not_eq_true'] at q
      obtain ⟨⟨⟨⟨⟨rfl, rfl⟩, hdel⟩, ht⟩, hok⟩, hni⟩ := q
      obtain ⟨nm, bs, mro, ns, qn, hd, sn, sub, ab, col, del⟩ := cd
      dsimp only at hm hdel hok hni
      subst hm hdel
      have es : sl = #[k0, k1, k2, k3, some (.builtin n), k5] := by
        cases sl with | mk l => simp only at hs; rw [hs]
      subst es
      exact ⟨bm, ns, nm, qn, bs, hd, sn, sub, ab, col, dd, k0, k1, k2, k3, k5, _, X _ _ ho, .of_isNs (PySem.W.isNs_of_in X hok), PySem.W.nsMap_none_of_in X hok hni, PySem.W.tail_of_in X ht⟩
    · cases q
  · cases q
theorem isSmallI_ok {r : R PV} (h : isSmallI r = true) : ∃ i : Int, r = .ok (.int i) ∧ i.natAbs < 18446744073709551616 := by
  cases r with
  | ok p => cases p <;> first | (cases h; done) | (rename_i i; exact ⟨i, rfl, of_decide_eq_true h⟩)
  | exc c => cases h
  | stuck => cases h
theorem digits_le (a : Int) (h : a.natAbs < 18446744073709551616) : (Str.ofString (toString a)).length ≤ 21 := by
  have h1 : a.natAbs < 10 ^ 20 := Nat.lt_trans h (by decide)
  have := int_text_length_le10 (k := 20) (by decide) h1
  rw [PySem.ofString_length]; omega
section
variable {X : Cx} {cl : Nat → Addr} {pins : List (Addr × Obj)} {s : Shared} {σ : SV} {Hf0 H0 Hf H Hf1 H1 : Hp} {ρ : MEnv} {α : Type}
/-- e comes to a text of at most n signs, where c holds -/
structure MV (X : Cx) (cl : Nat → Addr) (e : Expr) (n : Nat) (c : MEnv → Bool) : Prop where
  run' : ∀ (pins : List (Addr × Obj)) (s : Shared) (σ : SV) (Hf0 H0 Hf H : Hp) (ρ : MEnv) (E : Value → Shared → Prop), Inv X pins σ H s → Rep X.K cl Hf0 H0 Hf H σ ρ → c ρ = true →
    wpAny (model X.prog X.w) X.A (eval e X.env) (fun u s' => ∃ x t Hf' H', u = .str x t ∧ x.length ≤ n ∧ Inv X pins σ H' s' ∧ Ext Hf H Hf' H') E s
instance {X : Cx} {cl : Nat → Addr} {e : Expr} {n : Nat} {c : MEnv → Bool} : CoeFun (MV X cl e n c) fun _ => ∀ (pins : List (Addr × Obj)) (s : Shared) (σ : SV) (Hf0 H0 Hf H : Hp) (ρ : MEnv) (E : Value → Shared → Prop), Inv X pins σ H s → Rep X.K cl Hf0 H0 Hf H σ ρ → c ρ = true →
    wpAny (model X.prog X.w) X.A (eval e X.env) (fun u s' => ∃ x t Hf' H', u = .str x t ∧ x.length ≤ n ∧ Inv X pins σ H' s' ∧ Ext Hf H Hf' H') E s := ⟨MV.run'⟩
theorem mv_str {x : Str} {j : Nat} {pos : Pos} (n : Nat) (h : x.length ≤ n := by decide +kernel) : MV X cl (.Constant (.str x) j pos) n (fun _ => true) := ⟨fun pins s σ Hf0 H0 Hf H ρ E I r _ =>
  Calls.Constant_str ⟨x, _, Hf, H, rfl, h, I.tok _, Ext.refl r.sub⟩⟩
theorem mv_fmt {e : Expr} {f : FE} {pos : Pos} (he : ME X cl e f) : MV X cl (.FormattedValue e (-1) none pos) 21 (fun ρ => isSmallI (f ρ)) := by
  refine ⟨?_⟩
  intro pins s σ Hf0 H0 Hf H ρ E I r hc
  obtain ⟨i, ei, hi⟩ := isSmallI_ok hc
  refine FormattedValue_plain (wpAny_mono (he pins s σ Hf0 H0 Hf H ρ I r (by rw [ei]; intro z; cases z)) (fun u s1 q => ?_) fun u s1 q => ?_)
  · obtain ⟨p, v, Hf1, H1, e1, I1, rv, x1, rp⟩ := q
    rw [ei] at e1; cases e1
    cases rp
    obtain ⟨t, rfl⟩ := rv
    have hl : i.natAbs.log2 < 1920 := by
      by_cases h0 : i.natAbs = 0
      · rw [h0]; decide
      · have := (Nat.log2_lt h0).mpr (show i.natAbs < 2 ^ 64 from hi)
        omega
    exact formatField_int_small hl ⟨_, _, Hf1, H1, rfl, digits_le i hi, I1.tok _, x1⟩
  · obtain ⟨c, e1, _⟩ := q
    rw [ei] at e1; cases e1
structure MVs (X : Cx) (cl : Nat → Addr) (es : List Expr) (n : Nat) (c : MEnv → Bool) : Prop where
  run' : ∀ (pins : List (Addr × Obj)) (s : Shared) (σ : SV) (Hf0 H0 Hf H : Hp) (ρ : MEnv) (E : Value → Shared → Prop) (acc : Str) (Q : Str → Shared → Prop), Inv X pins σ H s → Rep X.K cl Hf0 H0 Hf H σ ρ → c ρ = true → acc.length + n ≤ sizeLine →
    (∀ out s' Hf' H', out.length ≤ acc.length + n → Inv X pins σ H' s' → Ext Hf H Hf' H' → Q out s') → Joins (model X.prog X.w) X.A E (evalEach es X.env) acc Q s
instance {X : Cx} {cl : Nat → Addr} {es : List Expr} {n : Nat} {c : MEnv → Bool} : CoeFun (MVs X cl es n c) fun _ => ∀ (pins : List (Addr × Obj)) (s : Shared) (σ : SV) (Hf0 H0 Hf H : Hp) (ρ : MEnv) (E : Value → Shared → Prop) (acc : Str) (Q : Str → Shared → Prop), Inv X pins σ H s → Rep X.K cl Hf0 H0 Hf H σ ρ → c ρ = true → acc.length + n ≤ sizeLine →
    (∀ out s' Hf' H', out.length ≤ acc.length + n → Inv X pins σ H' s' → Ext Hf H Hf' H' → Q out s') → Joins (model X.prog X.w) X.A E (evalEach es X.env) acc Q s := ⟨MVs.run'⟩
theorem mvs_nil : MVs X cl [] 0 (fun _ => true) := ⟨fun pins s σ Hf0 H0 Hf H ρ E acc Q I r _ _ k => k acc s Hf H (Nat.le_refl _) I (Ext.refl r.sub)⟩
theorem mvs_cons {e : Expr} {es : List Expr} {n m : Nat} {c d : MEnv → Bool} (h : MV X cl e n c) (ht : MVs X cl es m d) (he : evalEach (e :: es) X.env = eval e X.env :: evalEach es X.env := by rfl) : MVs X cl (e :: es) (n + m) (fun ρ => c ρ && d ρ) := by
  refine ⟨?_⟩
  intro pins s σ Hf0 H0 Hf H ρ E acc Q I r hc hz k
  rw [Bool.and_eq_true] at hc
  rw [he]
  refine wpAny_mono (h pins s σ Hf0 H0 Hf H ρ E I r hc.1) (fun u s1 q => ?_) fun _ _ z => z
  obtain ⟨x, t, Hf1, H1, rfl, hl, I1, x1⟩ := q
  have e1 : (acc ++ x).length = acc.length + x.length := strLen_append ..
  refine ⟨x, t, rfl, by rw [e1]; omega, ht pins s1 σ Hf0 H0 Hf1 H1 ρ E (acc ++ x) Q I1 (r.keep x1) hc.2 (by rw [e1]; omega) fun out s' Hf' H' hl' I' x' => k out s' Hf' H' (by rw [e1] at hl'; omega) I' (x1.trans x')⟩
theorem mv_join {a b : Expr} {es : List Expr} {n : Nat} {c : MEnv → Bool} {pos : Pos} (h : MVs X cl (a :: b :: es) n c) (hn : n ≤ 1000 := by decide) : MV X cl (.JoinedStr (a :: b :: es) pos) n c := by
  refine ⟨?_⟩
  intro pins s σ Hf0 H0 Hf H ρ E I r hc
  have h0 : (Str.empty).length = 0 := rfl
  have hs : n ≤ sizeLine := Nat.le_trans hn (by decide)
  refine wpAny_JoinedStr (h pins s σ Hf0 H0 Hf H ρ E _ _ I r hc (by rw [h0]; omega) fun out s' Hf' H' hl I' x' => ?_)
  rw [h0] at hl
  exact ⟨by omega, out, _, Hf', H', rfl, by omega, I'.tok _, x'⟩
theorem stands_of (W : Own X) (I : Inv X pins σ H s) {h' : Heap} (k : ∀ b o, s.heap.get? b = some o → h'.get? b = some o) : Cov X pins H (PySem.W.hideAll s.heap (frs X.stack)) h' := by
  intro b o e hs hn
  obtain ⟨o', q⟩ := stands_there W I hs
  have := k b o' q
  rw [e] at this; cases this
  exact PySem.W.hideAll_get _ q hn
theorem xst_made (W : Own X) (I : Inv X pins σ H s) {h' : Heap} {e C : Addr} {vs : List Value} (hm : Heap.MadeExcOf s.heap h' e (.ref C) vs) : XSt X pins H e C h' := by
  obtain ⟨t, he, _, _⟩ := hm.there
  refine ⟨PySem.W.hideAll s.heap (frs X.stack), .ref t, stands_of W I hm.keeps, ⟨_, he, rfl⟩, .inl ⟨fun b o q => hm.keeps b o (PySem.W.of_hideAll _ q), ?_, ?_, _, _, he, rfl, rfl, rfl, rfl, rfl⟩⟩
  · cases q : (PySem.W.hideAll s.heap (frs X.stack)).get? e with
    | none => rfl
    | some o => have := PySem.W.of_hideAll _ q; rw [hm.new] at this; cases this
  · refine Heap.FunFrames.of_keeps (fun b o q _ => ⟨o, hm.keeps b o q, rfl⟩) (PySem.W.funFrames_hide I.stack fun env he a ha => ?_)
    exact List.mem_filterMap.mpr ⟨env, he, ha⟩
theorem ms_raise {x : Str} {c : Nat} {e : Expr} {n : Nat} {k : MEnv → Bool} {np cpos pos : Pos} (hc : ClF X.K X.mg cl c x) (W : Own X) (hg : Gl X x) (hh : X.A.handled = none) (he : MV X cl e n k)
    (hst : starEach [e] X.env = [(false, eval e X.env)] := by rfl) (hdb : (x == ("__debug__" : Str)) = false := by decide) :
    MS X cl (.Raise (some (.Call (.Name x np) [e] [] cpos)) none pos) (sRaiseT k c) := by
  refine ⟨?_⟩
  intro pins s σ Hf0 H0 Hf H ρ I r hs
  have hk : k ρ = true := by
    cases q : k ρ with
    | true => rfl
    | false => exact absurd (by unfold sRaiseT; rw [q]; rfl) hs
  have e0 : sRaiseT k c ρ = .exc c ρ := by unfold sRaiseT; rw [hk]; rfl
  rw [e0]
  obtain ⟨bm, N, nm, q, bs, hdct, sn, sub, ab, col, dd, k0, k1, k2, k3, k5, mN, hC, hN, hni, T⟩ := excObj_of I.ok.mod.kin hc.ex
  refine wpAny_Raise_call_subT (C := cl c) (nm := nm) (q := q) (N := N) (bs := bs) (bm := bm) (hdct := hdct) (sn := sn) (sub := sub) (ab := ab) (col := col) (dd := dd) (k0 := k0) (k1 := k1) (k2 := k2) (k3 := k3) (k5 := k5)
    PySem.F.excBase_ValueError (mN := mN) (T.hasType PySem.F.excBase_ValueError.hasBase) hh (by rw [hst]; rfl) hni (ld_glob I hg hc.mg ⟨rfl, ?_⟩ hdb)
  rw [hst]
  refine Calls.evalArgs_plain ?_
  show wpAny _ _ (spliced ((false, eval e X.env) :: backTo cpos [])) _ _ s
  refine Calls.spliced_cons (wpAny_mono (he pins s σ Hf0 H0 Hf H ρ _ I r hk) (fun u s1 q1 => Calls.spliced_nil ?_) fun _ _ z => z)
  obtain ⟨y, t, Hf1, H1, rfl, hl, I1, x1⟩ := q1
  refine ⟨rfl, by show 1 ≤ sizeLine; decide, I1.bk _ _ hC, hN.keeps I1.bk, T.keeps I1.bk, fun h' ee hm => ?_⟩
  exact ⟨c, ρ, σ, Hf1, H1, ee, rfl, rfl, I1.kept (t' := s1.toks) hm.keeps, r.keep x1, x1.frz, xst_made W I1 hm⟩
end
end Mi
set_option Elab.async false
set_option linter.all false
set_option autoImplicit false
set_option maxRecDepth 100000
set_option maxHeartbeats 4000000
namespace Mi
open PySem PySem.Spec PyProof.Rows L2
structure Cls (K : PySem.W.Frag) (mg : Str → Option Value) (cl : Nat → Addr) (names : List (Nat × Str)) : Prop where
  cls : ∀ c x, (c, x) ∈ names → ClF K mg cl c x
  kit : ∀ c x d y, (c, x) ∈ names → (d, y) ∈ names → PySem.W.kitOne K (.ref (cl c)) (.ref (cl d)) = some (under c d)
  exm : ∀ c x d y, (c, x) ∈ names → (d, y) ∈ names → PySem.W.exmOne K (.ref (cl c)) (.ref (cl d)) = some (under c d)
  non : ∀ d y, (d, y) ∈ names → PySem.W.kitOne K (.type "NoneType") (.ref (cl d)) = some false
  val : ∀ c x, (c, x) ∈ names → PySem.W.kitOne K (.ref (cl c)) (.type "ValueError") = some true
theorem mem_ks {names : List (Nat × Str)} {c : Nat} (h : (names.map (·.1)).contains c = true) : ∃ x, (c, x) ∈ names := by
  rw [List.contains_iff_mem, List.mem_map] at h
  obtain ⟨⟨a, b⟩, h1, h2⟩ := h
  cases h2
  exact ⟨b, h1⟩
section
variable {prog : Program} {w : World} {A : Around} {E : Value → Shared → Prop} {s : Shared} {K : PySem.W.Frag} {x D : Addr} {ox : Obj}
/-- __class__ of an error -/
theorem exc_class {Q : Option Value → Shared → Prop} (X : K.In s.heap) (I : PySem.W.InstAt s.heap x ox D none) (hga : PySem.W.findIn K (.ref D) "__getattribute__" = some (some (.builtin "BaseException.__getattribute__")))
    (hgt : PySem.W.findIn K (.ref D) "__getattr__" = some none) (hsb : PySem.W.subIn K (.ref D) (.type "BaseException") = some true)
    (hf : PySem.W.findObj K D none "__class__" = some (.bind (.builtin "getset_descriptor.__get__") (.builtin "object.__class__"))) (hm : PySem.W.mroIn K D (.type "object") = some true)
    (h : Q (some (.ref D)) { s with toks := s.toks + 1 }) : wpAny (model prog w) A (getAttr? (.ref x) "__class__") Q E s := by
  obtain ⟨hh, g, d, t, os⟩ := s
  have L0 := I.type (M := model prog w)
  have L1 := PySem.W.looks_findIn (M := model prog w) X hga
  have L2 := PySem.W.looks_findIn (M := model prog w) X hgt
  have L3 := PySem.W.looks_subIn (M := model prog w) X hsb
  have L4 := PySem.W.looks_find (M := model prog w) X I hf
  have slot := PySem.F.attr_ValueError.ga
  unfold getAttr? getAttrBy? getAttrBy
  refine wpAny_bind (wpAny_mkText (wpAny_bind (wpAny_attempt (wpAny_holding (wpAny_bind (L0.at (wpAny_bind (L1.at ?_))))))))
  have hx1 : (onTheHeap (Value.ref D) && Value.builtin "BaseException.__getattribute__" == Value.builtin "object.__getattribute__") = false := by
    have : (Value.builtin "BaseException.__getattribute__" == Value.builtin "object.__getattribute__") = false := by decide +kernel
    rw [this]; rfl
  show wpAny _ _ (if (onTheHeap (Value.ref D) && Value.builtin "BaseException.__getattribute__" == Value.builtin "object.__getattribute__") = true then _ else getAttrByItsOwn _ _ _ _ _ _) _ _ _
  rw [hx1, if_neg Bool.false_ne_true]
  unfold getAttrByItsOwn
  refine wpAny_bind ?_
  show wpAny _ _ (typeLookup (.ref D) "__getattr__") _ _ _
  refine L2.at ?_
  refine wpAny_bind (wpAny_attempt (wpAny_holding ?_))
  show wpAny _ _ (boundAndCalled _ _ _) _ _ _
  unfold boundAndCalled
  rw [slot.bind]
  refine wpAny_bind (wpAny_pure ?_)
  show wpAny _ _ (call (.builtin "BaseException.__getattribute__") [.ref x, .str "__class__" t]) _ _ _
  refine wpAny_call (codeAny_call_builtin slot.plain PySem.F.entry_bexc_ga ?_)
  have hk : builtinKind "BaseException.__getattribute__" = some .slot := by decide +kernel
  have hsplit : splitId "BaseException.__getattribute__" = some ("BaseException", "__getattribute__") := by decide +kernel
  have hai := PySem.F.args_bexc_ga (.ref x) (.str "__class__" t)
  simp only [checkBuiltinCall, hk, hsplit]
  unfold isInstance
  refine wpAny_bind ?_
  refine wpAny_bind (L0.at ?_)
  refine L3.at ?_
  simp only [Bool.not_true, Bool.false_eq_true, if_false]
  unfold argsOk at hai
  first
    | rw [hai]
    | skip
  refine wpAny_pure ?_
  refine wpAny_bind (wpAny_pure (wpAny_bind (wpAny_pure (wpAny_bind (L0.at (wpAny_bind (L4.at ?_)))))))
  show wpAny _ _ (holding _ (call (.builtin "getset_descriptor.__get__") [.builtin "object.__class__", .ref x, .ref D]) >>= _) _ _ _
  refine wpAny_bind (wpAny_holding (wpAny_call (PySem.W.class_get (ox := ox) (od := none) X I hm ?_)))
  exact wpAny_pure (PySem.W.handed_on rfl (wpAny_pure h))
end
section
variable {K : PySem.W.Frag} {D x : Addr}
theorem kitx_exc (hD : attrOk K D = true) : PySem.W.KitX K (.ref x) (.ref D) (fun h => ∃ ox, PySem.W.InstAt h x ox D none) := by
  unfold attrOk at hD
  simp only [Bool.and_eq_true, beq_iff_eq] at hD
  obtain ⟨⟨⟨⟨⟨⟨⟨hga, hgt⟩, hsb⟩, hc⟩, ha⟩, hn⟩, htk⟩, hm⟩ := hD
  obtain ⟨cd, hcd⟩ := Option.isSome_iff_exists.mp hc
  have obj : ∃ c' d' sl', K.lookup D = some ⟨c', d', .cls cd, sl'⟩ := by
    unfold PySem.W.clsIn at hcd
    split at hcd
    · rename_i c' d' cd' sl' ho
      cases hcd
      exact ⟨c', d', sl', ho⟩
    · cases hcd
  obtain ⟨c', d', sl', ho⟩ := obj
  have hf : PySem.W.findObj K D none "__class__" = some (.bind (.builtin "getset_descriptor.__get__") (.builtin "object.__class__")) := by
    unfold PySem.W.findObj
    rw [hcd, Option.bind_some, ha, Option.bind_some]
    simp [hn, htk]
  refine ⟨fun M h _ ⟨ox, I⟩ => I.type, fun M h X _ A Q E s k q => ?_, fun h tp dd its n sl X htp => ?_, fun {prog w A E Q s} X ⟨ox, I⟩ k => ?_⟩
  · unfold isType loadHead
    exact wpAny_bind (wpAny_loadPart (k _ _ (X _ _ ho)) (wpAny_pure q))
  · refine Bool.eq_false_iff.mpr fun q => ?_
    have e : D = tp := Value.ref.inj (beq_iff_eq.mp q)
    subst e
    have z := (X _ _ ho).symm.trans htp
    cases z
  · exact exc_class X I hga hgt hsb hf hm k
end
section
variable {X : Cx} {cl : Nat → Addr} {pins : List (Addr × Obj)} {s : Shared} {σ : SV} {Hf0 H0 Hf H Hf1 H1 : Hp} {ρ : MEnv} {α : Type}
theorem inst_of (I : Inv X pins σ H s) (sm : Same Hf H) {a : Addr} {c : Nat} (h : Hf a = some (ExcO a (cl c))) : ∃ ox, PySem.W.InstAt s.heap a ox (cl c) none := by
  obtain ⟨⟨o, vs, h1, h2, h3, h4⟩, _, _⟩ := I.hok a _ (sm _ _ h)
  refine ⟨o, h1, h2, ?_, ?_⟩
  · unfold PySem.W.notCls; rw [h4]
  · rw [h3]; trivial
theorem isexc_run {p : PV} {v : V} {u cv : Value} {b : Bool} {E : Value → Shared → Prop} (I : Inv X pins σ H s) (sm : Same Hf H) (rv : RelV v u) (rp : Rp X.K cl Hf v p)
    (hb : (∃ c, p = .exc c ∧ attrOk X.K (cl c) = true ∧ PySem.W.kitOne X.K (.ref (cl c)) cv = some b) ∨ (p = .non ∧ PySem.W.kitOne X.K (.type "NoneType") cv = some b)) :
    wpAny (model X.prog X.w) X.A (call (.builtin "isinstance") [u, cv]) (OkP X cl pins σ Hf H (.ok (.bl b))) E s := by
  have fin : ∀ tk, OkP X cl pins σ Hf H (.ok (.bl b)) (.bool b) { s with toks := tk } := fun tk => ⟨.bl b, .bl b, Hf, H, rfl, I.tok _, rfl, Ext.refl sm, .bl b⟩
  rcases hb with ⟨c, rfl, ha, hk⟩ | ⟨rfl, hk⟩
  · cases rp with
    | exc hq =>
      cases rv
      exact PySem.W.kia_one (kitx_exc ha) I.kIn (inst_of I sm hq) hk (fun z => nomatch z) fin
  · cases rp
    cases rv
    exact PySem.W.kia_one PySem.W.kitx_none I.kIn True.intro hk (fun z => nomatch z) fin
theorem me_isexc {e : Expr} {f : FE} {names : List (Nat × Str)} (C : Cls X.K X.mg cl names) {d : Nat} {y : Str} {p p2 pos : Pos} (hy : (d, y) ∈ names) (he : ME X cl e f) (hg : Gl X "isinstance") (hm : X.mg "isinstance" = none) (hg2 : Gl X y)
    (hdb : (y == ("__debug__" : Str)) = false := by decide)
    (hst : starEach [e, .Name y p2] X.env = [(false, eval e X.env), (false, eval (.Name y p2) X.env)] := by rfl) (hst2 : starEach [.Name y p2] X.env = [(false, eval (.Name y p2) X.env)] := by rfl) :
    ME X cl (.Call (.Name "isinstance" p) [e, .Name y p2] [] pos) (fIsExc (names.map (·.1)) d f) := by
  refine ⟨?_⟩
  intro pins s σ Hf0 H0 Hf H ρ I r hs
  unfold fIsExc at hs ⊢
  refine wpAny_Call_Name_kw (ld_blt I hg hm boot_isinstance ?_)
  refine PyProof.Rows.callWith_builtin1 ?_ (by rw [hst, hst2]) (by rw [hst2]; rfl)
  rw [hst]
  show wpAny _ _ (spliced ((false, eval e X.env) :: backTo pos [(false, eval (.Name y p2) X.env)])) _ _ s
  refine Calls.spliced_cons (he.run I r (Ext.refl r.sub) hs fun q v u s1 Hf1 H1 e1 I1 rv x1 rp => ?_)
  rw [e1] at hs ⊢
  show wpAny _ _ (spliced ((false, eval (.Name y p2) X.env) :: [])) _ _ s1
  refine Calls.spliced_cons (ld_glob I1 hg2 (C.cls d y hy).mg (Calls.spliced_nil ?_) hdb)
  cases q <;> first
    | exact absurd rfl hs
    | skip
  · exact thn (isexc_run I1 x1.sub rv rp (.inr ⟨rfl, C.non d y hy⟩)) fun _ _ q => q.from (e0 := x1)
  · rename_i c
    have hs' : (if (names.map (·.1)).contains c = true then R.ok (PV.bl (under c d)) else R.stuck) ≠ .stuck := hs
    obtain ⟨hc, e2⟩ := ifOk hs'
    obtain ⟨x, hx⟩ := mem_ks hc
    show wpAny _ _ _ (OkP X cl pins σ Hf H (if (names.map (·.1)).contains c = true then R.ok (PV.bl (under c d)) else R.stuck)) _ s1
    rw [e2]
    exact thn (isexc_run I1 x1.sub rv rp (.inl ⟨c, rfl, (C.cls c x hx).at_, C.kit c x d y hx hy⟩)) fun _ _ q => q.from (e0 := x1)
theorem kit_non_val : PySem.W.kitOne X.K (.type "NoneType") (.type "ValueError") = some false := by rfl
theorem me_isval {e : Expr} {f : FE} {names : List (Nat × Str)} (C : Cls X.K X.mg cl names) {p p2 pos : Pos} (he : ME X cl e f) (hg : Gl X "isinstance") (hm : X.mg "isinstance" = none) (hg2 : Gl X "ValueError") (hm2 : X.mg "ValueError" = none)
    (hst : starEach [e, .Name "ValueError" p2] X.env = [(false, eval e X.env), (false, eval (.Name "ValueError" p2) X.env)] := by rfl) (hst2 : starEach [.Name "ValueError" p2] X.env = [(false, eval (.Name "ValueError" p2) X.env)] := by rfl) :
    ME X cl (.Call (.Name "isinstance" p) [e, .Name "ValueError" p2] [] pos) (fIsVal (names.map (·.1)) f) := by
  refine ⟨?_⟩
  intro pins s σ Hf0 H0 Hf H ρ I r hs
  unfold fIsVal at hs ⊢
  refine wpAny_Call_Name_kw (ld_blt I hg hm boot_isinstance ?_)
  refine PyProof.Rows.callWith_builtin1 ?_ (by rw [hst, hst2]) (by rw [hst2]; rfl)
  rw [hst]
  show wpAny _ _ (spliced ((false, eval e X.env) :: backTo pos [(false, eval (.Name "ValueError" p2) X.env)])) _ _ s
  refine Calls.spliced_cons (he.run I r (Ext.refl r.sub) hs fun q v u s1 Hf1 H1 e1 I1 rv x1 rp => ?_)
  rw [e1] at hs ⊢
  show wpAny _ _ (spliced ((false, eval (.Name "ValueError" p2) X.env) :: [])) _ _ s1
  refine Calls.spliced_cons (ld_blt I1 hg2 hm2 PyProof.Rows.Boot.«ValueError» (Calls.spliced_nil ?_))
  cases q <;> first
    | exact absurd rfl hs
    | skip
  · exact thn (isexc_run I1 x1.sub rv rp (.inr ⟨rfl, kit_non_val⟩)) fun _ _ q => q.from (e0 := x1)
  · rename_i c
    have hs' : (if (names.map (·.1)).contains c = true then R.ok (PV.bl true) else R.stuck) ≠ .stuck := hs
    obtain ⟨hc, e2⟩ := ifOk hs'
    obtain ⟨x, hx⟩ := mem_ks hc
    show wpAny _ _ _ (OkP X cl pins σ Hf H (if (names.map (·.1)).contains c = true then R.ok (PV.bl true) else R.stuck)) _ s1
    rw [e2]
    exact thn (isexc_run I1 x1.sub rv rp (.inl ⟨c, rfl, (C.cls c x hx).at_, C.val c x hx⟩)) fun _ _ q => q.from (e0 := x1)
end
end Mi
set_option Elab.async false
set_option linter.all false
set_option autoImplicit false
set_option maxRecDepth 100000
set_option maxHeartbeats 4000000
namespace Mi
open PySem PySem.Spec PyProof.Rows L2
section
variable {X : Cx} {cl : Nat → Addr} {pins : List (Addr × Obj)} {s : Shared} {σ : SV} {Hf0 H0 Hf H Hf1 H1 : Hp} {ρ : MEnv} {α : Type}
/-- a name's value, wherever the frame stands -/
theorem var_any {M : Model} {A : Around} {E : Value → Shared → Prop} {i : Nat} {x : Str} {pos : Pos} {v : V} {Q : Value → Shared → Prop} (I : Inv X pins σ H s) (hN : X.N[i]? = some x) (hv : Vis X.env.scope x) (e : σ[i]? = some (some v)) (h : ∀ u, RelV v u → Q u s)
    (hd : (x == ("__debug__" : Str)) = false := by decide) (hcd : (x == ("__classdict__" : Str)) = false := by decide) : wpAny M A (eval (.Name x pos) X.env) Q E s := by
  obtain ⟨m, hn, hl⟩ := I.loc
  obtain ⟨u, r, l⟩ := hl i x v hN e hv
  rcases l with ⟨hk, hm⟩ | ⟨hk, c, hc, hcell⟩
  · exact wpAny_Name (wpAny_loadName_local I.ok.kind hk hn hm (h u r)) hd
  · rcases hk with hk | hk
    · exact wpAny_Name (wpAny_loadName_cell I.ok.kind hk hc hcell (h u r)) hd
    · exact wpAny_Name (wpAny_loadName_free I.ok.kind hk hc hcell (h u r) hcd) hd
/-- the handler's name goes -/
theorem goes_any {M : Model} {A : Around} {E : Value → Shared → Prop} {i : Nat} {x : Str} {pos : Pos} {Q : Unit → Shared → Prop} (I : Inv X pins σ H s) (hN : X.N.Nodup) (hi : X.N[i]? = some x) (hk : X.env.scope.names.lookup x = some .local)
    (h : ∀ s', Inv X pins (σ.set i none) H s' → Q () s') : wpAny M A (do bindName X.env x .none; unbindBehindTheSuite X.env x pos) Q E s := by
  obtain ⟨m, hn, hl⟩ := id I.loc
  have hcls : (X.env.scope.kind == .class || (X.env.scope.kind == .module && X.env.locals != X.env.globals)) = false := by rw [I.ok.kind]; rfl
  refine wpAny_nameGoes_keeps hk hn hcls fun h' v hn' hs => ?_
  obtain ⟨oL, _, _, hoL, _⟩ := id hn
  have old : ∀ b o, X.s₀.heap.get? b = some o → h'.get? b = s.heap.get? b := fun b o e => hs.2 b (Nat.ne_of_lt (Nat.lt_of_lt_of_le (Heap.lt_size e) I.ok.above))
  have hokx : HOk X.prog X.w H h' := fun b ob e => by
    have nl : ∀ c, (c = b ∨ H c = some (.own b)) → c ≠ X.env.locals := fun c hc z => by
      subst z
      rcases hc with rfl | hc
      · rw [I.free] at e; cases e
      · rw [I.free] at hc; cases hc
    exact (I.hok b ob e).stay (fun c w' hc q => by rw [hs.2 c (nl c hc)]; exact q) (fun _ q => q) fun _ _ q => q
  refine h _ ⟨I.ok, I.os, I.bare, ⟨fun b o e n hb hx => ?_, fun b o e n hb hx => ?_, I.base.free, fun b o e hx => ?_, I.base.tups, I.base.frzs, I.base.tbls⟩, ⟨_, hn', fun j y v' e1 e2 e3 => ?_⟩, fun y c e => ?_, I.free, I.freeC, fun p hp => ?_, hokx, by simpa using I.len⟩
  · show h'.get? b = _; rw [old b o e]; exact I.base.keep b o e n hb hx
  · obtain ⟨sl, q⟩ := I.base.slot b o e n hb hx
    exact ⟨sl, by show h'.get? b = _; rw [old b o e]; exact q⟩
  · obtain ⟨o', q⟩ := I.base.there b o e hx
    exact ⟨o', by show h'.get? b = _; rw [old b o e]; exact q⟩
  · by_cases hj : j = i
    · subst hj
      rw [List.getElem?_set] at e2
      by_cases hh : j < σ.length <;> simp [hh] at e2
    · rw [List.getElem?_set_ne (Ne.symm hj)] at e2
      obtain ⟨u', r', q⟩ := hl j y v' e1 e2 e3
      have ny : y ≠ x := fun e => hj (nodup_ix hN e1 (e ▸ hi))
      refine ⟨u', r', ?_⟩
      rcases q with ⟨k, e⟩ | ⟨k, c, e, z⟩
      · exact .inl ⟨k, by simp [ny, e]⟩
      · exact .inr ⟨k, c, e, z.sameBut hs (I.cne y c e)⟩
  · obtain ⟨w', z⟩ := I.cell y c e
    exact ⟨w', z.sameBut hs (I.cne y c e)⟩
  · obtain ⟨p1, p2, p3, p4, p5⟩ := I.pin p hp
    exact ⟨by show h'.get? p.1 = _; rw [hs.2 p.1 p3]; exact p1, p2, p3, p4, p5⟩
/-- what is not tracked, and stood not at the entry, is tracked from now on -/
theorem Inv.adopt {e : Addr} {o : HO} (I : Inv X pins σ H s) (hH : H e = none) (h0 : X.s₀.heap.get? e = none) (hL : e ≠ X.env.locals) (hC : ∀ x c, X.env.cells.lookup x = some c → c ≠ e) (hP : ∀ p ∈ X.pn ++ pins, p.1 ≠ e)
    (new : ObjOk X.prog X.w (upd H e o) s.heap e o) : Inv X pins σ (upd H e o) s := by
  have up : ∀ {b : Addr} {u : HO}, H b = some u → (upd H e o) b = some u := fun {b u} q => by rw [upd_ne (ne_of_none q hH)]; exact q
  refine ⟨I.ok, I.os, I.bare, ⟨I.base.keep, I.base.slot, fun b ob q n hx => ?_, I.base.there, fun b xs q => up (I.base.tups b xs q), fun b ob u q => up (I.base.frzs b ob u q), fun b ps q => ?_⟩, I.loc, I.cell, ?_, fun x c q => ?_, fun p hp => ?_, fun b u q => ?_, I.len⟩
  · rw [upd_ne (fun z => by rw [z, h0] at q; cases q)]; exact I.base.free b ob q n hx
  · obtain ⟨more, q'⟩ := I.base.tbls b ps q
    exact ⟨more, up q'⟩
  · rw [upd_ne (Ne.symm hL)]; exact I.free
  · rw [upd_ne (hC x c q)]; exact I.freeC x c q
  · obtain ⟨p1, p2, p3⟩ := I.pin p hp
    exact ⟨p1, by rw [upd_ne (hP p hp)]; exact p2, p3⟩
  · by_cases hb : b = e
    · subst hb; rw [upd_same] at q; cases q; exact new
    · rw [upd_ne hb] at q
      exact (I.hok b u q).stay (fun c v _ q => q) (fun c q => up q) fun c xs q => up q
/-- a caught error is tracked -/
theorem caught_in {B : Heap} {e : Addr} {c : Nat} {a0 : Value} (W : Own X) (I : Inv X pins σ H s) (cov : Cov X pins H B s.heap) (nd : NoD e s.heap) (fl : Heap.FlyingW B X.stack e (.ref (cl c)) a0 s.heap) :
    H e = none ∧ Inv X pins σ (upd H e (ExcO e (cl c))) s := by
  obtain ⟨f1, f2, f3, f4⟩ := fl
  obtain ⟨oe, vs, T, oT, ts, he, hc, hd, _⟩ := f4
  obtain ⟨o', q1, q2⟩ := nd
  rw [he] at q1; cases q1
  have nfr : e ∉ frs X.stack := fun z => by
    obtain ⟨_, o, ho, hnf⟩ := I.stack.mem z
    rw [he] at ho; cases ho
    exact hnf vs hd
  have ns : ¬ Stands X pins H e := fun z => by
    have := cov e oe he z nfr
    rw [f2] at this; cases this
  have nH : H e = none := by
    cases q : H e with
    | none => rfl
    | some u => exact absurd (.inl (by rw [q]; intro z; cases z)) ns
  refine ⟨nH, Mi.Inv.adopt I nH ?_ (fun z => nfr ((frs_stk W).mpr (.inl z))) (fun x c' q z => ns (.inr (.inr (.inr ⟨x, z ▸ q⟩)))) (fun p hp z => ns (.inr (.inl ⟨p, hp, z⟩))) ⟨⟨oe, vs, he, hc.1, q2, hd⟩, ⟨oe, he⟩, ?_⟩⟩
  · cases q : X.s₀.heap.get? e with
    | none => rfl
    | some u => exact absurd (.inr (.inr (.inl ⟨u, q⟩))) ns
  · rintro h1 h2 ⟨o, ws, a1, a2, a3, a4⟩ k
    exact ⟨o, ws, k o a1, a2, a3, a4⟩
theorem ms_try {names : List (Nat × Str)} (C : Cls X.K X.mg cl names) {body : List Stmt} {f : FS} {d : Nat} {y : Str} {n x : Nat} {en ex : Str} {np p1 p2 p3 hpos pos : Pos} (W : Own X) (hy : (d, y) ∈ names) (hb : MSs X cl body f) (hN : X.N.Nodup)
    (hn : X.N[n]? = some en) (hx : X.N[x]? = some ex) (hln : X.env.scope.names.lookup en = some .local) (hlx : Loc X.env.scope ex) (hg : Gl X y) (hne : n ≠ x) (hdb : (y == ("__debug__" : Str)) = false := by decide)
    (hsw : swapsWith (.Name en p2) (some (.Name ex p1)) p3.line X.env = pure false := by rfl) (hde : (en == ("__debug__" : Str)) = false := by decide) (hce : (en == ("__classdict__" : Str)) = false := by decide) :
    MS X cl (.Try body [.ExceptHandler (some (.Name y np)) (some en) [.Assign [.Name ex p1] (.Name en p2) p3] hpos] [] [] pos) (sTryAs f (names.map (·.1)) d n x) := by
  refine ⟨?_⟩
  intro pins s σ Hf0 H0 Hf H ρ I r hs
  have hf : f ρ ≠ .stuck := fun z => hs (by unfold sTryAs; rw [z])
  refine wpAny_Try_except (wpAny_mono (hb pins s σ Hf0 H0 Hf H ρ I r hf) (fun fl s1 q => ?_) fun u s1 q => ?_)
  · cases fl with
    | next =>
      obtain ⟨ρ', σ', Hf', H', e1, I', r', sm⟩ := q
      have e2 : sTryAs f (names.map (·.1)) d n x ρ = .next ρ' := by unfold sTryAs; rw [e1]
      rw [e2]
      exact wpAny_execs_nil ⟨ρ', σ', Hf', H', rfl, I', r', sm⟩
    | brk =>
      obtain ⟨ρ', σ', Hf', H', e1, I', r', sm⟩ := q
      have e2 : sTryAs f (names.map (·.1)) d n x ρ = .brk ρ' := by unfold sTryAs; rw [e1]
      rw [e2]; exact ⟨ρ', σ', Hf', H', rfl, I', r', sm⟩
    | cont =>
      obtain ⟨ρ', σ', Hf', H', e1, I', r', sm⟩ := q
      have e2 : sTryAs f (names.map (·.1)) d n x ρ = .cont ρ' := by unfold sTryAs; rw [e1]
      rw [e2]; exact ⟨ρ', σ', Hf', H', rfl, I', r', sm⟩
    | ret u =>
      obtain ⟨p, v, σ', Hf', H', e1, I', ex', rv, rp⟩ := q
      have e2 : sTryAs f (names.map (·.1)) d n x ρ = .ret p := by unfold sTryAs; rw [e1]
      rw [e2]; exact ⟨p, v, σ', Hf', H', rfl, I', ex', rv, rp⟩
  · obtain ⟨c, ρ', σ', Hf', H', e, e1, rfl, I', r', sm, B, a0, cov, nd, st⟩ := q
    have e2 : sTryAs f (names.map (·.1)) d n x ρ = if (names.map (·.1)).contains c && under c d then .next (((ρ'.set n (some (.exc c))).set x (some (.exc c))).set n none) else .stuck := by unfold sTryAs; rw [e1]
    rw [e2] at hs ⊢
    have hc : ((names.map (·.1)).contains c && under c d) = true := by
      cases q : ((names.map (·.1)).contains c && under c d) with
      | true => rfl
      | false => rw [q] at hs; exact absurd rfl hs
    rw [if_pos hc]
    rw [Bool.and_eq_true] at hc
    obtain ⟨cx, hcx⟩ := mem_ks hc.1
    refine note_ok W I'.ok.frames nd st fun h1 hh u1 nd1 => ?_
    have I1 := Inv.upto W I' cov hh.1 u1 (tk := s1.toks)
    have c1 := cov.upto W I' hh.1
    refine lands_ok (s := { s1 with heap := h1 }) nd1 hh fun h2 hf2 u2 nd2 => ?_
    have I2 := Inv.upto W I1 c1 hf2.1 u2 (tk := s1.toks)
    have c2 := c1.upto W I1 hf2.1
    refine wpAny_handleBy_cons (codeAny_handlers_test (Calls.Name_function_global I2.ok.kind hg (Calls.loadGlobal_global (by rw [I2.ok.glob]; exact I2.mod.glob.keeps I2.bk) (C.cls d y hy).mg ?_) hdb)) (by intro z; cases z)
    have LT : PySem.W.Looks (model X.prog X.w) h2 (typeOf (.ref e)) (.ref (cl c)) := by
      obtain ⟨ob, q1, q2⟩ := hf2.there
      exact q2 ▸ (PySem.W.Looks.ld q1).andThen .now
    refine (PySem.W.exm_one (M := model X.prog X.w) (h := h2) I2.kIn LT (C.exm c cx d y hcx hy)).here ?_
    rw [hc.2]
    refine codeAny_handlers_suite_as ?_
    refine again_ok (s := { s1 with heap := h2 }) nd2 hf2 fun h3 hf3 u3 nd3 => ?_
    have I3 := Inv.upto W I2 c2 hf3.1 u3 (tk := s1.toks)
    have c3 := c2.upto W I2 hf3.1
    obtain ⟨nH, I4⟩ := caught_in W I3 c3 nd3 hf3
    have x4 := Ext.new r'.sub nH (ExcO e (cl c))
    have rp4 : Rp X.K cl (upd Hf' e (ExcO e (cl c))) (.ref e) (.exc c) := .exc upd_same
    have hnl : n < σ'.length := by rw [I'.len]; exact (List.getElem?_eq_some_iff.mp hn).1
    have hxl : x < (σ'.set n (some (.ref e))).length := by rw [List.length_set, I'.len]; exact (List.getElem?_eq_some_iff.mp hx).1
    refine store_ok I4 hN hn (.inl hln) (v := .ref e) rfl (fun s5 I5 => ?_) (.inl (W.fn en))
    refine wpAny_execs_cons (wpAny_Assign_Name (var_any I5 hn (.inl hln) (List.getElem?_set_self hnl) (fun u ru => ?_) hde hce) hsw)
    refine store_ok I5 hN hx hlx ru (fun s6 I6 => ?_) (.inl (W.fn ex))
    refine wpAny_execs_nil ?_
    refine goes_any I6 hN hn hln fun s7 I7 => ?_
    exact ⟨_, _, _, _, rfl, I7, ((((r'.keep x4).set n rp4 hnl).set x rp4 hxl).forget n none), sm.trans x4.frz⟩
end
end Mi
set_option Elab.async false
set_option linter.all false
set_option autoImplicit false
set_option maxRecDepth 100000
set_option maxHeartbeats 4000000
namespace Mi
open PySem PySem.Spec PyProof.Rows L2
def refIn (K : PySem.W.Frag) (x : Str) : Bool := match PySem.W.nsIn K mainGlobals x with
  | some (some (.ref _)) => true
  | _ => false
theorem refIn_of {K : PySem.W.Frag} {x : Str} (h : refIn K x = true) : PySem.W.nsIn K mainGlobals x = some (some (.ref (adOf K x))) := by
  unfold refIn at h
  unfold adOf
  split at h
  · rename_i a e; rw [e]
  · cases h
/-- all that is asked of the text's error classes, as one word that is reckoned -/
def pairOk (K : PySem.W.Frag) (p q : Nat × Str) : Bool := PySem.W.kitOne K (.ref (adOf K p.2)) (.ref (adOf K q.2)) == some (under p.1 q.1) && PySem.W.exmOne K (.ref (adOf K p.2)) (.ref (adOf K q.2)) == some (under p.1 q.1)
def oneOk (K : PySem.W.Frag) (p : Nat × Str) : Bool := refIn K p.2 && PySem.W.excIn K (adOf K p.2) bmV "ValueError.__new__" && attrOk K (adOf K p.2) && PySem.W.kitOne K (.ref (adOf K p.2)) (.type "ValueError") == some true &&
  PySem.W.kitOne K (.type "NoneType") (.ref (adOf K p.2)) == some false
def ndOk : List Nat → Bool
  | [] => true
  | a :: r => !r.contains a && ndOk r
theorem nd_of : ∀ {l : List Nat}, ndOk l = true → l.Nodup
  | [], _ => List.nodup_nil
  | a :: r, h => by
    unfold ndOk at h
    rw [Bool.and_eq_true] at h
    refine List.nodup_cons.mpr ⟨fun z => ?_, nd_of h.2⟩
    have := List.contains_iff_mem.mpr z
    rw [this] at h; exact absurd h.1 (by decide)
section
variable {K : PySem.W.Frag} {mg : Str → Option Value} {names : List (Nat × Str)} {h : Heap}
theorem clOf_at {c : Nat} {x : Str} (hn : (names.map (·.1)).Nodup) (hx : (c, x) ∈ names) : clOf K names c = adOf K x := by
  unfold clOf; rw [mem_lookup hn hx]
end
end Mi
set_option Elab.async false
set_option linter.all false
set_option autoImplicit false
set_option maxRecDepth 100000
set_option maxHeartbeats 4000000
namespace Mi
open PySem PySem.Spec PyProof.Rows L2
section
variable {X : Cx} {cl : Nat → Addr}
/-- a module's whole number -/
theorem me_globI {x : Str} {i : Int} {pos : Pos} (hg : Gl X x) (hm : ∃ t, X.mg x = some (.int i t)) (hd : (x == ("__debug__" : Str)) = false := by decide) : ME X cl (.Name x pos) (fC (.int i)) := by
  obtain ⟨t, hm⟩ := hm
  exact me_glob (v := .int i) hg hm ⟨t, rfl⟩ (fun _ => .int i) hd
theorem at_mem {names : List (Nat × Str)} (i : Nat) {p : Nat × Str} (h : names[i]? = some p) : p ∈ names := List.mem_of_getElem? h
end
end Mi
set_option Elab.async false
set_option linter.all false
set_option autoImplicit false
set_option maxRecDepth 100000
set_option maxHeartbeats 4000000
namespace Mi
open PySem PySem.Spec PyProof.Rows L2
section
variable {K : PySem.W.Frag} {cl : Nat → Addr} {Hf0 H0 Hf H Hf' H' : Hp} {σ : SV} {ρ : MEnv}
theorem Rep.freeze (r : Rep K cl Hf0 H0 Hf H σ ρ) {i : Nat} {l : List PV} (h : ρ[i]? = some (some (.own l))) : ∃ Hf', Rep K cl Hf0 H0 Hf' H σ (ρ.set i (some (.lst l))) ∧ Same Hf Hf' := by
  obtain ⟨v, hv, a, xs, rfl, ha, hfa, h0a, rps⟩ := r.slot i _ h
  have sm := same_upd hfa (.lst xs)
  have hi : i < ρ.length := (List.getElem?_eq_some_iff.mp h).1
  refine ⟨upd Hf a (.lst xs), ⟨⟨r.ext.all, r.ext.frz.trans sm, fun b u q => ?_, fun b n => ?_⟩, fun j p hp => ?_, fun j k ps qs b h1 h2 h3 h4 => ?_⟩, sm⟩
  · by_cases e : b = a
    · subst e; rw [upd_same] at q; cases q; exact ha
    · rw [upd_ne e] at q; exact r.ext.sub b u q
  · rw [upd_ne (fun e => n (by rw [e]; exact h0a)), r.ext.old b n]
  · by_cases e : i = j
    · subst e
      rw [List.getElem?_set_self hi] at hp
      cases hp
      exact ⟨_, hv, .lst (SqL.of upd_same) (rps.keep sm)⟩
    · rw [List.getElem?_set_ne e] at hp
      obtain ⟨w, hw, sl⟩ := r.slot j p hp
      refine ⟨w, hw, ?_⟩
      cases p with
      | own qs =>
        obtain ⟨b, ys, rfl, h1, h2, h3, h4⟩ := sl
        have nb : b ≠ a := fun z => by subst z; exact e (r.dist i j _ _ _ h hp hv hw)
        exact ⟨b, ys, rfl, h1, by rw [upd_ne nb]; exact h2, h3, h4.keep sm⟩
      | _ => exact Rp.keep sm sl
  · have back : ∀ {m : Nat} {l' : List PV}, (ρ.set i (some (.lst l)))[m]? = some (some (.own l')) → ρ[m]? = some (some (.own l')) := fun {m l'} hm => by
      by_cases e : i = m
      · subst e; rw [List.getElem?_set_self hi] at hm; cases hm
      · rw [List.getElem?_set_ne e] at hm; exact hm
    exact r.dist j k ps qs b (back h1) (back h2) h3 h4
/-- a slot's list is written to -/
theorem Rep.store (r : Rep K cl Hf0 H0 Hf H σ ρ) {i : Nat} {l l' : List PV} {a : Addr} {ys : List V} (h : ρ[i]? = some (some (.own l))) (hv : σ[i]? = some (some (.ref a))) (hfa : Hf a = none) (h0a : H0 a = none) (ry : Rps K cl Hf ys l') :
    Rep K cl Hf0 H0 Hf (upd H a (.lst ys)) σ (ρ.set i (some (.own l'))) := by
  have hi : i < ρ.length := (List.getElem?_eq_some_iff.mp h).1
  have same : ∀ {G : Hp}, G a = none → Same G H → Same G (upd H a (.lst ys)) := fun {G} g s b u q => by
    rw [upd_ne (fun e => by rw [e, g] at q; cases q)]; exact s b u q
  refine ⟨⟨same h0a r.ext.all, r.ext.frz, same hfa r.ext.sub, r.ext.old⟩, fun j p hp => ?_, fun j k ps qs b h1 h2 h3 h4 => ?_⟩
  · by_cases e : i = j
    · subst e
      rw [List.getElem?_set_self hi] at hp
      cases hp
      exact ⟨_, hv, a, ys, rfl, upd_same, hfa, h0a, ry⟩
    · rw [List.getElem?_set_ne e] at hp
      obtain ⟨w, hw, sl⟩ := r.slot j p hp
      refine ⟨w, hw, ?_⟩
      cases p with
      | own qs =>
        obtain ⟨b, zs, rfl, h1, h2, h3, h4⟩ := sl
        have nb : b ≠ a := fun z => by subst z; exact e (r.dist i j _ _ _ h hp hv hw)
        exact ⟨b, zs, rfl, by rw [upd_ne nb]; exact h1, h2, h3, h4⟩
      | _ => exact sl
  · have back : ∀ {m : Nat} {l'' : List PV}, (ρ.set i (some (.own l')))[m]? = some (some (.own l'')) → ∃ l3, ρ[m]? = some (some (.own l3)) := fun {m l''} hm => by
      by_cases e : i = m
      · subst e; exact ⟨_, h⟩
      · rw [List.getElem?_set_ne e] at hm; exact ⟨_, hm⟩
    obtain ⟨_, g1⟩ := back h1
    obtain ⟨_, g2⟩ := back h2
    exact r.dist j k _ _ b g1 g2 h3 h4
/-- a new list in a slot -/
theorem Rep.own (r : Rep K cl Hf0 H0 Hf H σ ρ) (i : Nat) {l : List PV} {a : Addr} {xs : List V} (ha : H a = some (.lst xs)) (hfa : Hf a = none) (h0a : H0 a = none) (rps : Rps K cl Hf xs l) (hl : i < σ.length)
    (nw : ∀ (j : Nat) (qs : List PV), ρ[j]? = some (some (.own qs)) → σ[j]? ≠ some (some (.ref a))) : Rep K cl Hf0 H0 Hf H (σ.set i (some (.ref a))) (ρ.set i (some (.own l))) := by
  refine ⟨r.ext, fun j p hp => ?_, fun j k ps qs b h1 h2 h3 h4 => ?_⟩
  · by_cases e : i = j
    · subst e
      have hi : i < ρ.length := by
        rw [List.getElem?_set] at hp
        by_cases hh : i < ρ.length
        · exact hh
        · simp [hh] at hp
      rw [List.getElem?_set_self hi] at hp
      cases hp
      exact ⟨_, List.getElem?_set_self hl, a, xs, rfl, ha, hfa, h0a, rps⟩
    · rw [List.getElem?_set_ne e] at hp
      obtain ⟨w, hw, sl⟩ := r.slot j p hp
      exact ⟨w, by rw [List.getElem?_set_ne e]; exact hw, sl⟩
  · by_cases e : i = j
    · by_cases e' : i = k
      · exact e.symm.trans e'
      · subst e
        rw [List.getElem?_set_self hl] at h3
        cases h3
        rw [List.getElem?_set_ne e'] at h2 h4
        exact absurd h4 (nw k _ h2)
    · by_cases e' : i = k
      · subst e'
        rw [List.getElem?_set_self hl] at h4
        cases h4
        rw [List.getElem?_set_ne e] at h1 h3
        exact absurd h3 (nw j _ h1)
      · rw [List.getElem?_set_ne e] at h1 h3
        rw [List.getElem?_set_ne e'] at h2 h4
        exact r.dist j k _ _ b h1 h2 h3 h4
end
section
variable {X : Cx} {cl : Nat → Addr}
theorem Rps.set {K : PySem.W.Frag} {Hf : Hp} {v : V} {p : PV} (h : Rp K cl Hf v p) : ∀ {vs : List V} {ps : List PV} (j : Nat), Rps K cl Hf vs ps → Rps K cl Hf (vs.set j v) (ps.set j p)
  | _, _, _, .nil => .nil
  | _, _, 0, .cons _ t => .cons h t
  | _, _, j + 1, .cons r t => .cons r (Rps.set h j t)
theorem mss_freeze {st : List Stmt} {g : FS} (i : Nat) (h : MSs X cl st g) : MSs X cl st (sFreeze i g) := by
  refine ⟨?_⟩
  intro pins s σ Hf0 H0 Hf H ρ I r hs
  unfold sFreeze at hs ⊢
  split at hs
  · next l e =>
    obtain ⟨Hf', r', sm⟩ := r.freeze e
    exact wpAny_mono (h pins s σ Hf0 H0 Hf' H _ I r' hs) (fun _ _ q => OkS.from sm q) fun _ _ q => ExS.from sm q
  · next hn =>
    exact h pins s σ Hf0 H0 Hf H _ I r hs
end
end Mi
set_option Elab.async false
set_option linter.all false
set_option autoImplicit false
set_option maxRecDepth 100000
set_option maxHeartbeats 4000000
namespace Mi
open PySem PySem.Spec PyProof.Rows L2
/-- what gives a new list -/
def OkF (X : Cx) (cl : Nat → Addr) (pins : List (Addr × Obj)) (σ : SV) (Hf H : Hp) (r : R PV) (u : Value) (s : Shared) : Prop :=
  ∃ ps a xs Hf' H', r = .ok (.lst ps) ∧ Inv X pins σ H' s ∧ u = .ref a ∧ Ext Hf H Hf' H' ∧ H' a = some (.lst xs) ∧ Hf' a = none ∧ H a = none ∧ Rps X.K cl Hf' xs ps
structure MF (X : Cx) (cl : Nat → Addr) (e : Expr) (f : FE) : Prop where
  run' : ∀ (pins : List (Addr × Obj)) (s : Shared) (σ : SV) (Hf0 H0 Hf H : Hp) (ρ : MEnv), Inv X pins σ H s → Rep X.K cl Hf0 H0 Hf H σ ρ → f ρ ≠ .stuck →
    wpAny (model X.prog X.w) X.A (eval e X.env) (OkF X cl pins σ Hf H (f ρ)) (ExP X cl pins σ Hf H (f ρ)) s
section
variable {X : Cx} {cl : Nat → Addr}
theorem ext_none {Hf H Hf1 H1 : Hp} (e : Ext Hf H Hf1 H1) {a : Addr} (h : H1 a = none) : H a = none := by
  cases q : H a with
  | none => rfl
  | some o => rw [e.all a o q] at h; cases h
theorem OkF.from {pins : List (Addr × Obj)} {σ : SV} {Hf H Hf1 H1 : Hp} {e0 : Ext Hf H Hf1 H1} {r : R PV} {u : Value} {s' : Shared} (h : OkF X cl pins σ Hf1 H1 r u s') : OkF X cl pins σ Hf H r u s' := by
  obtain ⟨ps, a, xs, Hf', H', e1, I', e2, ex, g1, g2, g3, rps⟩ := h
  exact ⟨ps, a, xs, Hf', H', e1, I', e2, e0.trans ex, g1, g2, ext_none e0 g3, rps⟩
theorem mf_lst {es : List Expr} {f : FA} {pos : Pos} (h : MA X cl es f) : MF X cl (.List es pos) (fLst f) := by
  refine ⟨?_⟩
  intro pins s σ Hf0 H0 Hf H ρ I r hs
  unfold fLst at hs ⊢
  refine wpAny_List_spliced (h.run pos I r (Ext.refl r.sub) hs fun ps vs us s1 Hf1 H1 _ e1 I1 rv x1 rps => ?_)
  rw [e1] at hs ⊢
  obtain ⟨hz, e2⟩ := ifOk hs
  rw [e2]
  have z : vs.length ≤ sizeLine := by rw [rps.length]; exact hz
  refine ⟨by rw [← rv.length]; exact z, ?_⟩
  have hf : H1 s1.heap.objs.size = none := I1.hok.fresh (Nat.le_refl _)
  refine OkF.from (e0 := x1) ⟨_, _, vs, Hf1, _, rfl, I1.laid (t' := s1.toks) (o := .lst vs) (fun b u e => Heap.get?_push_of_some _ e) (Nat.le_refl _) ?_, rfl, Ext.newH x1.sub hf _, upd_same, x1.sub.free hf, hf, rps⟩
  exact ⟨z, us, 0, rv, Heap.get?_push_size _ rfl⟩
theorem ms_own {i : Nat} {x : Str} {e : Expr} {f : FE} {pos pos' : Pos} (hN : X.N.Nodup) (hi : X.N[i]? = some x) (hx : Loc X.env.scope x) (he : MF X cl e f) (hsw : swapsWith e (some (.Name x pos')) pos.line X.env = pure false := by rfl)
    (hf : X.fn x = true ∨ X.env.scope.names.lookup x = some .local := by first | exact .inl rfl | exact .inr rfl | assumption) : MS X cl (.Assign [.Name x pos'] e pos) (sOwn i f) := by
  refine ⟨?_⟩
  intro pins s σ Hf0 H0 Hf H ρ I r hs
  unfold sOwn at hs ⊢
  have hff : f ρ ≠ .stuck := fun z => hs (by rw [z]; rfl)
  refine wpAny_Assign_Name (wpAny_mono (he.run' pins s σ Hf0 H0 Hf H ρ I r hff) (fun u s1 q => ?_) fun u s1 q => ?_) hsw
  · obtain ⟨ps, a, xs, Hf1, H1, e1, I1, rfl, x1, g1, g2, g3, rps⟩ := q
    rw [e1]
    have hl : i < σ.length := by rw [I.len]; exact (List.getElem?_eq_some_iff.mp hi).1
    have h0 : H0 a = none := ext_none r.ext g3
    refine store_ok (v := .ref a) I1 hN hi hx rfl (fun s2 I2 => ⟨_, _, Hf1, H1, rfl, I2, (r.keep x1).own i g1 g2 h0 rps hl ?_, x1.frz⟩) hf
    intro j qs hj hσ
    obtain ⟨w, hw, b, ys, rfl, hb, _⟩ := r.slot j _ hj
    rw [hσ] at hw
    cases hw
    rw [g3] at hb
    cases hb
  · obtain ⟨c, e1, x⟩ := q
    rw [e1]
    exact exs_of r x
end
end Mi
set_option Elab.async false
set_option linter.all false
set_option autoImplicit false
set_option maxRecDepth 100000
set_option maxHeartbeats 4000000
namespace Mi
open PySem PySem.Spec PyProof.Rows L2
section
variable {X : Cx} {cl : Nat → Addr}
theorem ms_append {i : Nat} {x : Str} {e : Expr} {g : FA} {p apos pos pos' : Pos} {pl : Sem Bool} (hN : X.N[i]? = some x) (hv : Vis X.env.scope x) (ha : MA X cl [e] g) (hd : (x == ("__debug__" : Str)) = false := by decide) (hcd : (x == ("__classdict__" : Str)) = false := by decide)
    (hsw : swapsWith (.Call (.Attribute (.Name x p) "append" apos) [e] [] pos) none pos'.line X.env = pure false := by rfl)
    (he : starEach [e] X.env = (false, eval e X.env) :: starEach [] X.env := by rfl) (hpl : (backTo pos (starEach [e] X.env)).any (·.1) = false := by rfl)
    (ht : eval (.Call (.Attribute (.Name x p) "append" apos) [e] [] pos) X.env = (do
      let ov ← eval (.Name x p) X.env
      standAt apos.atName
      let (f, first) ← holding [ov] (getMethod ov "append" pl)
      callWith pos f first (backTo pos (starEach [e] X.env)) (backToKw pos (keywordEach [] X.env))) := by rfl) : MS X cl (.Expr (.Call (.Attribute (.Name x p) "append" apos) [e] [] pos) pos') (sAppend i g) := by
  refine ⟨?_⟩
  intro pins s σ Hf0 H0 Hf H ρ I r hs
  unfold sAppend at hs ⊢
  split at hs
  · next l el =>
    obtain ⟨v0, hv0, a, xs, rfl, hHa, hfa, h0a, rps⟩ := r.slot i _ el
    have hg : g ρ ≠ .stuck := fun z => hs (by rw [z])
    refine wpAny_Expr_any ?_ I.quiet hsw
    generalize hE : ExS X cl pins Hf0 H0 Hf _ = E
    refine PySem.W.methodCall_KW (pl := pl) (thn (pe_var (X := X.wish E) hN hv hd hcd pins s σ H (fun v H' => v = .ref a ∧ H' = H) (I.wish E) ⟨_, hv0, rfl, rfl⟩) fun ov s1 ⟨x', H1, I1, ro, q1⟩ => ?_) ht
    obtain ⟨rfl, rfl⟩ := q1
    cases ro
    obtain ⟨z, its, n, rv, hl, ho⟩ := I1.lstM hHa
    refine Calls.getMethod_list_append ho rfl rfl ?_
    refine Calls.callWith_builtin hpl ?_
    rw [he]
    refine Calls.evalArgs_plain ?_
    have run := ha.run' pos pins s1 σ Hf0 H0 Hf H1 ρ I1.unwish r hg
    rw [he] at run
    refine wpAny_mono run (fun us s2 q => ?_) fun u s2 q => ?_
    · obtain ⟨ps, vs, Hf2, H2, e1, I2, rv2, x2, rp2⟩ := q
      have hlen := ha.len ρ ps e1
      match ps, hlen with
      | [pv], _ =>
        obtain ⟨v, rfl, rp⟩ := rps1' rp2
        obtain ⟨u, rfl, ru⟩ := rv2.one
        rw [e1] at hs hE ⊢
        have hs' : (if l.length < sizeLine then SR.next (ρ.set i (some (.own (l ++ [pv])))) else .stuck) ≠ .stuck := hs
        have hz : l.length < sizeLine := Decidable.byContradiction fun c => hs' (by rw [if_neg c])
        have g1 : H2 a = some (.lst xs) := x2.all _ _ hHa
        have g2 : Hf2 a = none := by rw [x2.old a (by rw [hHa]; intro z; cases z)]; exact hfa
        have g3 := rps.keep x2.frz
        refine thn (mt_append (X := X.wish E) pins s2 σ H2 (.ref a) [v] (.ref a) [u] (fun w H' => H' = upd H2 a (.lst (xs ++ [v]))) (I2.wish E) rfl (.cons ru .nil) ⟨a, xs, v, rfl, rfl, g1, by rw [rps.length]; exact hz, rfl⟩) fun w s3 ⟨w', H3, I3, _, q3⟩ => ?_
        subst q3
        have rr := (r.keep x2).store (l' := l ++ [pv]) (ys := xs ++ [v]) el hv0 g2 h0a (Rps.append g3 (.cons rp .nil))
        show OkS X cl pins Hf0 H0 Hf (if l.length < sizeLine then SR.next (ρ.set i (some (.own (l ++ [pv])))) else .stuck) Flow.next _
        rw [if_pos hz]
        exact ⟨_, σ, Hf2, _, rfl, I3.unwish, rr, x2.frz⟩
    · obtain ⟨c, e1, xa⟩ := q
      rw [e1] at hE
      rw [← hE]
      exact exs_of r xa
  · next hn => exact absurd rfl hs
end
end Mi
set_option Elab.async false
set_option linter.all false
set_option autoImplicit false
set_option maxRecDepth 100000
set_option maxHeartbeats 4000000
namespace Mi
open PySem PySem.Spec PyProof.Rows L2
mutual
inductive KRep (K : PySem.W.Frag) : Value → PV → Prop where
  | non : KRep K .none .non
  | bl (b : Bool) : KRep K (.bool b) (.bl b)
  | int (i : Int) (t : Tok) : KRep K (.int i t) (.int i)
  | str (x : Str) (t : Tok) : KRep K (.str x t) (.str x)
  | tup {a : Addr} {o : Obj} {its : Array Value} {n : Nat} {ps : List PV} (h : K.lookup a = some o) (c : o.cls = .type "tuple") (d : o.data = .seq its n) (z : its.size ≤ sizeLine) (r : KReps K its.toList ps) : KRep K (.ref a) (.tup ps)
inductive KReps (K : PySem.W.Frag) : List Value → List PV → Prop where
  | nil : KReps K [] []
  | cons {u : Value} {p : PV} {us : List Value} {ps : List PV} (r : KRep K u p) (t : KReps K us ps) : KReps K (u :: us) (p :: ps)
end
section
variable {K : PySem.W.Frag} {cl : Nat → Addr}
mutual
theorem KRep.rp (Hf : Hp) : ∀ {u : Value} {p : PV}, KRep K u p → ∃ v, RelV v u ∧ Rp K cl Hf v p
  | _, _, .non => ⟨.non, rfl, .non⟩
  | _, _, .bl b => ⟨.bl b, rfl, .bl b⟩
  | _, _, .int i t => ⟨.int i, ⟨t, rfl⟩, .int i⟩
  | _, _, .str x t => ⟨.str x, ⟨t, rfl⟩, .str x⟩
  | _, _, .tup (a := a) (o := o) (its := its) (n := n) h c d z r => by
    obtain ⟨vs, h1, h2⟩ := KReps.rps Hf r
    exact ⟨.ref a, rfl, .tup (.inr ⟨o, its, n, h, c, d, z, h1⟩) h2⟩
theorem KReps.rps (Hf : Hp) : ∀ {us : List Value} {ps : List PV}, KReps K us ps → ∃ vs, Vals vs us ∧ Rps K cl Hf vs ps
  | _, _, .nil => ⟨[], .nil, .nil⟩
  | _, _, .cons r t => by
    obtain ⟨v, a, b⟩ := KRep.rp Hf r
    obtain ⟨vs, c, d⟩ := KReps.rps Hf t
    exact ⟨v :: vs, .cons a c, .cons b d⟩
end
end
structure FunD (K : PySem.W.Frag) (x qual : Str) (st : Stmt) (f : Addr) (fd : FuncData) (y : Str) : Prop where
  ex : ∃ (oc : Value) (od : Option Addr) (kV doc pm : Value) (an : Option Addr) (cdv ct : Value) (osl : Array (Option Value)) (T : Addr) (o : Obj) (n : Nat) (t : Tok),
    fd = PySem.W.fnOf x qual (defArgs st) (defBody st) (defScope st) (.ref T) kV doc pm an cdv ct ∧ K.lookup f = some ⟨oc, od, .func fd, osl⟩ ∧ PySem.W.codeIn K cdv qual = true ∧ K.lookup T = some o ∧ o.data = .seq #[.str y t] n
  kp : PySem.W.keepIn K (.ref f) = true
section
variable {P : Program} {w : World} {K : PySem.W.Frag} {mg : Str → Option Value} {base : Heap} {cl : Nat → Addr}
theorem fn_mirror' {x qual : Str} {st : Stmt} {f : Addr} {N ps : List Str} {k n : Nat} {b : FS} {dV kV doc pm cdv ct oc : Value} {an od : Option Addr} {osl : Array (Option Value)}
    (lk : K.lookup f = some ⟨oc, od, .func (PySem.W.fnOf x qual (defArgs st) (defBody st) (defScope st) dV kV doc pm an cdv ct), osl⟩) (hcd : PySem.W.codeIn K cdv qual = true) (S : FnScope N ps (defScope st)) (hn : ps.length = n)
    (hbody : ∀ (cdv : Value) (A : Around) (outer : List Env) (s : Shared) (H : Hp) (E : XK), Room k (A.deeper (envOfC qual (defScope st) s.heap.objs.size f cdv)) →
      MSs (cxM P w K mg base cl N qual (defScope st) f cdv A outer s H E) cl (defBody st) b) : FnOk P w K mg base (CXm cl P w) (k + 1) f (PySem.W.fnOf x qual (defArgs st) (defBody st) (defScope st) dV kV doc pm an cdv ct) ps (spF K cl n (runF N.length b)) := by
  refine fn_of lk hcd S (fun vs H Q E h => by rw [h.1, hn]) fun A outer s H vs Q E hr hsp => ?_
  obtain ⟨hl, Hf, qs, sm, rps, hs, hok, hex⟩ := hsp
  have hb := hbody cdv A outer s H E hr
  have hs' : b (Mi.start N.length qs) ≠ .stuck := fun z => hs (by unfold runF; rw [z])
  refine ⟨fun D σ H1 => σ = L2.start N vs ∧ H1 = H ∧ D = { nx := fun _ H' => Q .non H', rt := Q }, fun pins s1 σ H1 D I h => ?_, rfl, rfl, rfl⟩
  obtain ⟨rfl, rfl, rfl⟩ := h
  refine wpAny_mono (hb pins s1 _ Hf H1 Hf H1 _ I (rep_start rfl sm rps) hs') (fun fl s2 q => ?_) fun u s2 q => ?_
  · cases fl with
    | next =>
      obtain ⟨ρ', σ', Hf', H', e1, I', r', _⟩ := q
      exact ⟨σ', H', I', hok .non .non Hf' H' (by unfold runF; rw [e1]) r'.ext .non⟩
    | ret u =>
      obtain ⟨p, v, σ', Hf', H', e1, I', ex, rv, rp⟩ := q
      exact ⟨v, σ', H', I', rv, hok p v Hf' H' (by unfold runF; rw [e1]) ex rp⟩
    | brk =>
      obtain ⟨ρ', σ', Hf', H', e1, I', r', _⟩ := q
      exact absurd (by unfold runF; rw [e1]) hs
    | cont =>
      obtain ⟨ρ', σ', Hf', H', e1, I', r', _⟩ := q
      exact absurd (by unfold runF; rw [e1]) hs
  · obtain ⟨c, ρ', σ', Hf', H', e, e1, rfl, I', r', _, x⟩ := q
    exact leaves_ok I' x (hex c Hf' H' (by unfold runF; rw [e1]) r'.ext)
structure DefAtD (K : PySem.W.Frag) (mg : Str → Option Value) (x : Str) (st : Stmt) (f : Addr) (fd : FuncData) (y : Str) : Prop where
  fn : FunD K x x st f fd y
  mg : mg x = some (.ref f)
/-- a def of the text with one default, by its mirror -/
structure FGD (P : Program) (w : World) (K : PySem.W.Frag) (mg : Str → Option Value) (base : Heap) (cl : Nat → Addr) (k : Nat) (x : Str) (n : Nat) (F : List PV → R PV) (y : Str) : Prop where
  ex : ∃ (f : Addr) (fd : FuncData) (ps : List Str) (d : Value), mg x = some (.ref f) ∧ PySem.W.keepIn K (.ref f) = true ∧ ps.length = n ∧ FnOk P w K mg base (CXm cl P w) k f fd ps (spF K cl n F) ∧ Binds K fd ps [] ∧ Binds K fd ps [d] ∧ RelV (.str y) d
theorem FGD.fg {k : Nat} {x : Str} {n : Nat} {F : List PV → R PV} {y : Str} (h : FGD P w K mg base cl k x n F y) : FG P w K mg base cl k x n F := by
  obtain ⟨f, fd, ps, d, a, b, c, e, g, _⟩ := h.ex
  exact ⟨⟨f, fd, ps, a, b, c, e, g⟩⟩
theorem DefAtD.fg {x : Str} {st : Stmt} {f : Addr} {fd : FuncData} {y : Str} {N ps : List Str} {k n : Nat} {b : FS} (D : DefAtD K mg x st f fd y) (S : FnScope N ps (defScope st)) (hn : ps.length = n)
    (hb : ∀ (T : Addr) (t : Tok) (kV doc pm : Value) (an : Option Addr) (cdv ct : Value) (us : List Value), us.length = ps.length → ∃ k, bindArgs (PySem.W.fnOf x x (defArgs st) (defBody st) (defScope st) (.ref T) kV doc pm an cdv ct) ⟨us, []⟩ = seqItems? (.ref T) >>= k ∧ k (some #[.str y t]) = pure (ps.zip us))
    (hb1 : ∀ (T : Addr) (t : Tok) (kV doc pm : Value) (an : Option Addr) (cdv ct : Value) (us : List Value), us.length + 1 = ps.length → ∃ k, bindArgs (PySem.W.fnOf x x (defArgs st) (defBody st) (defScope st) (.ref T) kV doc pm an cdv ct) ⟨us, []⟩ = seqItems? (.ref T) >>= k ∧ k (some #[.str y t]) = pure (ps.zip (us ++ [.str y t])))
    (hbody : ∀ (cdv : Value) (A : Around) (outer : List Env) (s : Shared) (H : Hp) (E : XK), Room k (A.deeper (envOfC x (defScope st) s.heap.objs.size f cdv)) →
      MSs (cxM P w K mg base cl N x (defScope st) f cdv A outer s H E) cl (defBody st) b) : FGD P w K mg base cl (k + 1) x n (runF N.length b) y := by
  obtain ⟨oc, od, kV, doc, pm, an, cdv, ct, osl, T, o, m, t, rfl, lk, hcd, lt, dt⟩ := D.fn.ex
  refine ⟨⟨f, _, ps, .str y t, D.mg, D.fn.kp, hn, fn_mirror' lk hcd S hn hbody, fun s us X hl => ?_, fun s us X hl => ?_, ⟨t, rfl⟩⟩⟩
  · rw [List.append_nil] at hl ⊢
    obtain ⟨k, e1, e2⟩ := hb T t kV doc pm an cdv ct us hl
    exact PySem.W.binds_K X rfl lt dt e1 e2
  · obtain ⟨k, e1, e2⟩ := hb1 T t kV doc pm an cdv ct us (by simpa using hl)
    exact PySem.W.binds_K X rfl lt dt e1 e2
end
def dflt (F : List PV → R PV) (ds : List PV) : List PV → R PV := fun vs => F (vs ++ ds)
section
variable {X : Cx} {cl : Nat → Addr}
theorem Rps.snoc {K : PySem.W.Frag} {Hf : Hp} {vs : List V} {ps : List PV} {v : V} {p : PV} (a : Rps K cl Hf vs ps) (b : Rp K cl Hf v p) : Rps K cl Hf (vs ++ [v]) (ps ++ [p]) := a.append (.cons b .nil)
end
/-- a plain class: c its number, x its name -/
structure WayC (K : PySem.W.Frag) (mg : Str → Option Value) (cl : Nat → Addr) (c : Nat) (x : Str) : Prop where
  mg : mg x = some (.ref (cl c))
  makes : PySem.W.makesIn K (cl c) = true
  init : PySem.W.findIn K (.ref (cl c)) "__init__" = some (some (.builtin "object.__init__"))
  kp : PySem.W.keepIn K (.ref (cl c)) = true
  cls : L2.Cls K (cl c)
  hc : PySem.W.findIn K (.ref (cl c)) "__class__" = some (some (.builtin "object.__class__"))
  hn : PySem.W.specialIn K (.builtin "object.__class__") "__get__" = some (some (.builtin "getset_descriptor.__get__"))
  ht : PySem.W.takesIn K (.builtin "object.__class__") = some true
  hm : PySem.W.mroIn K (cl c) (.type "object") = some true
end Mi
set_option Elab.async false
set_option linter.all false
set_option autoImplicit false
set_option maxRecDepth 100000
set_option maxHeartbeats 4000000
namespace Mi
open PySem PySem.Spec PyProof.Rows L2
/-- plain classes by number: 20 is the base of all -/
def wunder (c d : Nat) : Bool := c == d || d == 20
structure Ways (K : PySem.W.Frag) (mg : Str → Option Value) (cl : Nat → Addr) (wn : List (Nat × Str)) : Prop where
  cls : ∀ c x, (c, x) ∈ wn → WayC K mg cl c x
  kit : ∀ c x d y, (c, x) ∈ wn → (d, y) ∈ wn → PySem.W.kitOne K (.ref (cl c)) (.ref (cl d)) = some (wunder c d)
section
variable {P : Program} {w : World} {K : PySem.W.Frag} {mg : Str → Option Value} {base : Heap} {cl : Nat → Addr}
/-- reckoned: what is asked of a plain class -/
def wayOk (K : PySem.W.Frag) (x : Str) : Bool :=
  refIn K x && PySem.W.makesIn K (adOf K x) && PySem.W.findIn K (.ref (adOf K x)) "__init__" == some (some (.builtin "object.__init__")) && PySem.W.keepIn K (.ref (adOf K x)) &&
  PySem.W.plainGet K (adOf K x) Str.empty && PySem.W.hasDictIn K (adOf K x) && PySem.W.plainOver K (adOf K x) && PySem.W.findIn K (.ref (adOf K x)) "__setattr__" == some (some (.builtin "object.__setattr__")) &&
  PySem.W.findIn K (.ref (adOf K x)) "__class__" == some (some (.builtin "object.__class__")) && PySem.W.specialIn K (.builtin "object.__class__") "__get__" == some (some (.builtin "getset_descriptor.__get__")) &&
  PySem.W.takesIn K (.builtin "object.__class__") == some true && PySem.W.mroIn K (adOf K x) (.type "object") == some true
def waysOk (K : PySem.W.Frag) (wn : List (Nat × Str)) : Bool := wn.all fun p => wayOk K p.2 && wn.all fun q => PySem.W.kitOne K (.ref (adOf K p.2)) (.ref (adOf K q.2)) == some (wunder p.1 q.1)
/-- the error classes, where other classes have numbers too -/
def clsOk2 (K : PySem.W.Frag) (all names : List (Nat × Str)) : Bool := ndOk (all.map fun p => adOf K p.2) && names.all fun p => oneOk K p && names.all fun q => pairOk K p q
theorem cls_inj2 {all names : List (Nat × Str)} (e : clsOk2 K all names = true) : ∀ c d, clOf K all c = clOf K all d → c = d := clOf_inj (nd_of (Bool.and_eq_true_iff.mp e).1)
theorem cls_of2 {h : Heap} {all names : List (Nat × Str)} (X : K.In h) (G : h.Ns mainGlobals mg) (hn : (all.map (·.1)).Nodup) (hs : ∀ p ∈ names, p ∈ all) (e : clsOk2 K all names = true) : Cls K mg (clOf K all) names := by
  have a := (Bool.and_eq_true_iff.mp e).2
  have one : ∀ c x, (c, x) ∈ names → oneOk K (c, x) = true ∧ ∀ d y, (d, y) ∈ names → pairOk K (c, x) (d, y) = true := fun c x hx => by
    have := List.all_eq_true.mp a (c, x) hx
    rw [Bool.and_eq_true] at this
    exact ⟨this.1, fun d y hy => List.all_eq_true.mp this.2 (d, y) hy⟩
  refine ⟨fun c x hx => ?_, fun c x d y hx hy => ?_, fun c x d y hx hy => ?_, fun d y hy => ?_, fun c x hx => ?_⟩
  · obtain ⟨o, _⟩ := one c x hx
    unfold oneOk at o
    simp only [Bool.and_eq_true, beq_iff_eq] at o
    exact ⟨by rw [clOf_at hn (hs _ hx)]; exact PySem.W.mg_of X G (refIn_of o.1.1.1.1), by rw [clOf_at hn (hs _ hx)]; exact o.1.1.1.2, by rw [clOf_at hn (hs _ hx)]; exact o.1.1.2⟩
  · have o := (one c x hx).2 d y hy
    unfold pairOk at o
    simp only [Bool.and_eq_true, beq_iff_eq] at o
    rw [clOf_at hn (hs _ hx), clOf_at hn (hs _ hy)]; exact o.1
  · have o := (one c x hx).2 d y hy
    unfold pairOk at o
    simp only [Bool.and_eq_true, beq_iff_eq] at o
    rw [clOf_at hn (hs _ hx), clOf_at hn (hs _ hy)]; exact o.2
  · obtain ⟨o, _⟩ := one d y hy
    unfold oneOk at o
    simp only [Bool.and_eq_true, beq_iff_eq] at o
    rw [clOf_at hn (hs _ hy)]; exact o.2
  · obtain ⟨o, _⟩ := one c x hx
    unfold oneOk at o
    simp only [Bool.and_eq_true, beq_iff_eq] at o
    rw [clOf_at hn (hs _ hx)]; exact o.1.2
theorem ways_of {h : Heap} {all wn : List (Nat × Str)} (X : K.In h) (G : h.Ns mainGlobals mg) (hn : (all.map (·.1)).Nodup) (hs : ∀ p ∈ wn, p ∈ all) (e : waysOk K wn = true) : Ways K mg (clOf K all) wn := by
  have one : ∀ c x, (c, x) ∈ wn → wayOk K x = true ∧ ∀ d y, (d, y) ∈ wn → PySem.W.kitOne K (.ref (adOf K x)) (.ref (adOf K y)) = some (wunder c d) := fun c x hx => by
    have := List.all_eq_true.mp e (c, x) hx
    rw [Bool.and_eq_true] at this
    exact ⟨this.1, fun d y hy => beq_iff_eq.mp (List.all_eq_true.mp this.2 (d, y) hy)⟩
  refine ⟨fun c x hx => ?_, fun c x d y hx hy => ?_⟩
  · obtain ⟨o, _⟩ := one c x hx
    have ec := clOf_at (K := K) hn (hs _ hx)
    unfold wayOk at o
    simp only [Bool.and_eq_true, beq_iff_eq] at o
    obtain ⟨⟨⟨⟨⟨⟨⟨⟨⟨⟨⟨o1, o2⟩, o3⟩, o4⟩, o5⟩, o6⟩, o7⟩, o8⟩, o9⟩, o10⟩, o11⟩, o12⟩ := o
    exact ⟨by rw [ec]; exact PySem.W.mg_of X G (refIn_of o1), by rw [ec]; exact o2, by rw [ec]; exact o3, by rw [ec]; exact o4, by rw [ec]; exact ⟨o5, o6, o7, o8⟩, by rw [ec]; exact o9, o10, o11, by rw [ec]; exact o12⟩
  · rw [clOf_at hn (hs _ hx), clOf_at hn (hs _ hy)]; exact (one c x hx).2 d y hy
end
end Mi
set_option Elab.async false
set_option linter.all false
set_option autoImplicit false
set_option maxRecDepth 100000
set_option maxHeartbeats 4000000
namespace Mi
open PySem PySem.Spec PyProof.Rows L2
/-- the frame's slots, n of them -/
def padTo : Nat → MEnv → MEnv
  | 0, _ => []
  | n + 1, [] => none :: padTo n []
  | n + 1, o :: r => o :: padTo n r
/-- one item after the other; what raises is not mirrored -/
def compL (n : Nat) (t : FT) (f : FE) (ρ : MEnv) : List PV → R (List PV)
  | [] => .ok []
  | p :: r => match t (padTo n ρ ++ [some p]) with
    | .ok true => (match f (padTo n ρ ++ [some p]) with
      | .ok v => (match compL n t f ρ r with
        | .ok vs => .ok (v :: vs)
        | _ => .stuck)
      | _ => .stuck)
    | .ok false => compL n t f ρ r
    | _ => .stuck
def tTrue : FT := fun _ => .ok true
def compK (n : Nat) (t : FT) (f : FE) (ρ : MEnv) (l : List PV) : R PV := if l.length ≤ 1000000 then (match compL n t f ρ l with
  | .ok vs => .ok (.lst vs)
  | _ => .stuck) else .stuck
/-- [f for the name behind the n slots in it, where t] -/
def fComp (n : Nat) (it : FA) (t : FT) (f : FE) : FE := fun ρ => (it ρ).bind (compK n t f ρ)
theorem padTo_len : ∀ (n : Nat) (ρ : MEnv), (padTo n ρ).length = n
  | 0, _ => rfl
  | n + 1, [] => congrArg (· + 1) (padTo_len n [])
  | n + 1, _ :: r => congrArg (· + 1) (padTo_len n r)
theorem padTo_get : ∀ {n : Nat} {ρ : MEnv} {i : Nat} {p : PV}, (padTo n ρ)[i]? = some (some p) → ρ[i]? = some (some p)
  | 0, _, _, _, h => by simp [padTo] at h
  | n + 1, [], 0, _, h => by simp [padTo] at h
  | n + 1, [], i + 1, p, h => by
    have : (padTo n [])[i]? = some (some p) := by simpa [padTo] using h
    have := padTo_get this
    simp at this
  | n + 1, o :: r, 0, p, h => by simpa [padTo] using h
  | n + 1, o :: r, i + 1, p, h => by
    have : (padTo n r)[i]? = some (some p) := by simpa [padTo] using h
    simpa using padTo_get this
/-- a slot more -/
theorem Rep.snoc {K : PySem.W.Frag} {cl : Nat → Addr} {Hf0 H0 Hf H : Hp} {σ : SV} {ρ : MEnv} (r : Rep K cl Hf0 H0 Hf H σ ρ) {v : V} {p : PV} (hr : Rp K cl Hf v p) : Rep K cl Hf0 H0 Hf H (σ ++ [some v]) (padTo σ.length ρ ++ [some p]) := by
  have np : ∀ l, p ≠ .own l := fun l z => by subst z; cases hr
  have at_ : ∀ {i : Nat} {q : PV}, (padTo σ.length ρ ++ [some p])[i]? = some (some q) → (i < σ.length ∧ ρ[i]? = some (some q)) ∨ (i = σ.length ∧ q = p) := fun {i q} h => by
    by_cases hi : i < σ.length
    · rw [List.getElem?_append_left (by rw [padTo_len]; exact hi)] at h
      exact .inl ⟨hi, padTo_get h⟩
    · rw [List.getElem?_append_right (by rw [padTo_len]; omega), padTo_len] at h
      by_cases z : i = σ.length
      · subst z; simp at h; exact .inr ⟨rfl, h.symm⟩
      · rw [List.getElem?_eq_none (by simp; omega)] at h; cases h
  refine ⟨r.ext, fun i q h => ?_, fun i j ps qs a h1 h2 h3 h4 => ?_⟩
  · rcases at_ h with ⟨hi, h'⟩ | ⟨rfl, rfl⟩
    · obtain ⟨w, h1, h2⟩ := r.slot i q h'
      exact ⟨w, by rw [List.getElem?_append_left hi]; exact h1, h2⟩
    · refine ⟨v, by simp, ?_⟩
      cases q with
      | own l => exact absurd rfl (np l)
      | _ => exact hr
  · rcases at_ h1 with ⟨hi, h1'⟩ | ⟨rfl, e⟩
    · rcases at_ h2 with ⟨hj, h2'⟩ | ⟨rfl, e⟩
      · rw [List.getElem?_append_left hi] at h3
        rw [List.getElem?_append_left hj] at h4
        exact r.dist i j ps qs a h1' h2' h3 h4
      · exact absurd e.symm (np qs)
    · exact absurd e.symm (np ps)
/-- the block of a comprehension -/
def cxB (X : Cx) (Ns : List Str) (x : Str) (sc : Scope) (cs : List (Str × Addr)) (C : Addr) (s : Shared) (H : Hp) (fp : List Addr) : Cx :=
  { X with N := Ns ++ [x], s₀ := s, H₀ := H, env := compEnvC sc cs C X.env, outer := X.stack, stack := X.stack, ex := fp, fn := fun _ => false, pn := [], xe := fun _ _ => False }
/-- what is asked of the block's names -/
structure Cap (X : Cx) (Ns : List Str) (x : Str) (sc : Scope) (cs : List (Str × Addr)) : Prop where
  clos : closureFor sc X.env = pure cs
  kind : sc.kind = .function
  nocell : ∀ y ∈ sc.names, y.2 ≠ .cell
  names : ∀ y ∈ sc.names, y.2 = .local → sc.names.lookup y.1 = some .local
  here : sc.names.lookup x = some .local
  sub : ∀ y c, cs.lookup y = some c → X.env.cells.lookup y = some c
  has : ∀ y, ((relabel sc X.env).names.lookup y = some .cell ∨ (relabel sc X.env).names.lookup y = some .free) → ∃ c, cs.lookup y = some c
  vis : ∀ y ∈ Ns, Vis (relabel sc X.env) y → ((relabel sc X.env).names.lookup y = some .cell ∨ (relabel sc X.env).names.lookup y = some .free) ∧ (X.env.kindOf y = some .cell ∨ X.env.kindOf y = some .free)
  new : x ∉ Ns
  len : Ns.length = X.N.length
  same : ∀ (i : Nat) (y : Str), Ns[i]? = some y → Vis (relabel sc X.env) y → X.N[i]? = some y
section
variable {X : Cx} {cl : Nat → Addr} {pins : List (Addr × Obj)} {σ : SV} {H : Hp} {s : Shared} {Ns : List Str} {x : Str} {sc : Scope} {cs : List (Str × Addr)} {fp : List Addr}
theorem cxB_ok (I : Inv X pins σ H s) (c : Cap X Ns x sc cs) (hf : ∀ b ∈ fp, FpOk X pins H b) (hl : ∀ b ∈ fp, b < s.heap.objs.size) : (cxB X Ns x sc cs s.heap.objs.size s H fp).Ok where
  mod := I.ok.mod
  kind := c.kind
  glob := I.ok.glob
  blt := I.ok.blt
  above := Nat.le_refl _
  inj := fun y z d e1 e2 => I.ok.inj y z d (c.sub y d e1) (c.sub z d e2)
  has := fun y h => c.has y h
  cab := fun y d h => by cases h
  hd := I.ok.hd
  frames := I.ok.frames
  stk := .inl rfl
  exf := fun b hb => ⟨Nat.ne_of_lt (hl b hb), fun y d e => (hf b hb).2.2.2.2.1 y d (c.sub y d e)⟩
  bs := I.bs
  bsz := Nat.le_trans I.ok.bsz I.sz
  noex := fun b o e hb => by
    rcases (hf b hb).2.2.2.1 with z | z
    · exact I.ok.noex b o e z
    · exact absurd (Nat.lt_of_lt_of_le (Heap.lt_size e) (Nat.le_trans I.ok.bsz z)) (Nat.lt_irrefl _)
  exfs := fun b hb z => by
    rcases List.mem_cons.mp (I.stkSub b z) with e | e
    · exact (hf b hb).2.1 e
    · exact (hf b hb).2.2.1 e
  funs := I.stack
  frf := I.stkFree
theorem cxB_inv {h1 : Heap} {tk : Nat} (I : Inv X pins σ H s) (c : Cap X Ns x sc cs) (hf : ∀ b ∈ fp, FpOk X pins H b) (hl : ∀ b ∈ fp, b < s.heap.objs.size) (hn : h1.Ns s.heap.objs.size (fun _ => none)) (k : ∀ b o, s.heap.get? b = some o → h1.get? b = some o) :
    Inv (cxB X Ns x sc cs s.heap.objs.size s H fp) [] (σ ++ [none]) H { s with heap := h1, toks := tk } where
  ok := cxB_ok I c hf hl
  os := rfl
  bare := I.bare
  base := Un.kept k
  loc := by
    refine ⟨_, hn, fun i y v e1 e2 e3 => ?_⟩
    obtain ⟨m, _, lk⟩ := I.loc
    have hi : i < σ.length := by
      by_cases z : i < σ.length
      · exact z
      · rw [List.getElem?_append_right (by omega)] at e2
        by_cases z2 : i = σ.length
        · subst z2; simp at e2
        · rw [List.getElem?_eq_none (by simp; omega)] at e2; cases e2
    rw [List.getElem?_append_left hi] at e2
    have e1'' : Ns[i]? = some y := by
      have : (Ns ++ [x])[i]? = some y := e1
      rw [List.getElem?_append_left (by rw [c.len, ← I.len]; exact hi)] at this; exact this
    have e1' := c.same i y e1'' e3
    obtain ⟨k1, k2⟩ := c.vis y (List.mem_of_getElem? e1'') e3
    have v' : Vis X.env.scope y := .inr k2
    obtain ⟨u, ru, l⟩ := lk i y v e1' e2 v'
    refine ⟨u, ru, .inr ⟨k1, ?_⟩⟩
    rcases l with ⟨kl, _⟩ | ⟨_, d, ed, z⟩
    · rcases k2 with k2 | k2 <;> (rw [k2] at kl; cases kl)
    · obtain ⟨d', ed'⟩ := c.has y k1
      have := c.sub y d' ed'
      rw [ed] at this
      cases this
      obtain ⟨o, ho, hd⟩ := z
      exact ⟨d, ed', o, k _ _ ho, hd⟩
  cell := fun y d e => by
    obtain ⟨v, o, ho, hd⟩ := I.cell y d (c.sub y d e)
    exact ⟨v, o, k _ _ ho, hd⟩
  free := I.hok.fresh (Nat.le_refl _)
  freeC := fun y d e => I.freeC y d (c.sub y d e)
  pin := fun p hp => by cases hp
  hok := I.hok.kept k
  len := by show (σ ++ [none]).length = (Ns ++ [x]).length; rw [List.length_append, List.length_append, I.len, c.len]; rfl
theorem cxB_fp (c : Cap X Ns x sc cs) (I : Inv X pins σ H s) {H' : Hp} {C : Addr} {s0 : Shared} {H0 : Hp} (hC : ∀ b ∈ fp, b ≠ C) (hf : ∀ b ∈ fp, FpOk X pins H b) (hn : ∀ b ∈ fp, H' b = none) : ∀ b ∈ fp, FpOk (cxB X Ns x sc cs C s0 H0 fp) [] H' b := fun b hb =>
  ⟨hn b hb, hC b hb, fun z => (List.mem_cons.mp (I.stkSub b z)).elim (hf b hb).2.1 (hf b hb).2.2.1, .inl hb, fun y d e => (hf b hb).2.2.2.2.1 y d (c.sub y d e), fun p hp => by cases hp⟩
end
section
variable {prog : Program} {w : World} {A : Around} {R : Result → Shared → Prop} {s : Shared}
/-- the loop, with the step ahead of the store -/
theorem compLoop_let {elt target iter : Expr} {ifs : List Expr} {scope : Scope} {pos : Pos} {it acc : Value} {env : Env} (I : Nat → Shared → Prop)
    (turn : ∀ n s, I n s → wpAny (model prog w) A (pyNext it) (fun r s₁ => match r with
      | none => R (.ok .next) s₁
      | some v => wpAny (model prog w) A (letOwnedTupleGo target it v) (fun _ s₁' => wpAny (model prog w) A (assign target env v) (fun _ s₂ =>
          wpAny (model prog w) A (forIn ifs true fun c r => if r = true then do let ok ← isTrue c env (eval c env); pure (ForInStep.yield ok) else pure (ForInStep.yield r)) (fun ok s₃ =>
            if ok = true then wpAny (model prog w) A (eval elt env) (fun x s₄ =>
              wpAny (model prog w) A (call (.builtin "list.append") [acc, x]) (fun _ s₅ => ∃ m, m < n ∧ I m s₅) (fun _ _ => False) s₄) (fun _ _ => False) s₃
            else ∃ m, m < n ∧ I m s₃) (fun _ _ => False) s₂) (fun _ _ => False) s₁') (fun _ _ => False) s₁) (fun _ _ => False) s)
    (n : Nat) (h : I n s) :
    codeAny (model prog w) A (.compLoop (.ListComp elt [⟨target, iter, ifs, 0⟩] scope pos) 0 it acc env) R s := by
  refine codeAny_loop rfl I (fun n s hI => ?_) n h
  show wpAny _ A ((compTurn (.ListComp elt [⟨target, iter, ifs, 0⟩] scope pos) 0 it acc env).onRaise (fun x => do noteFrame x env; theTreesLotGoes x)) _ _ s
  refine wpAny_noted ?_
  rw [compTurn_list]
  refine wpAny_bind (wpAny_standAt (wpAny_bind (wpAny_mono (turn n s hI) (fun r s₁ h₁ => ?_) fun _ _ h' => h'.elim)))
  cases r with
  | none => exact wpAny_pure h₁
  | some v =>
    refine wpAny_bind (wpAny_mono h₁ (fun _ s₁' h₁' => ?_) fun _ _ h' => h'.elim)
    refine wpAny_bind (wpAny_mono h₁' (fun _ s₂ h₂ => wpAny_bind (wpAny_mono h₂ (fun ok s₃ h₃ => ?_) fun _ _ h' => h'.elim)) fun _ _ h' => h'.elim)
    cases ok with
    | false => exact wpAny_pure ⟨rfl, h₃⟩
    | true =>
      exact wpAny_bind (wpAny_bind (wpAny_mono h₃ (fun x s₄ h₄ => wpAny_bind (wpAny_mono h₄ (fun _ s₅ h₅ => wpAny_pure (wpAny_pure ⟨rfl, h₅⟩)) fun _ _ h' => h'.elim)) fun _ _ h' => h'.elim))
end
/-- the tests of a comprehension -/
inductive MC (X : Cx) (cl : Nat → Addr) : List Expr → FT → Prop where
  | nil : MC X cl [] tTrue
  | one {c : Expr} {t : FT} (h : MT X cl c t) : MC X cl [c] t
theorem compL_cons {n : Nat} {t : FT} {f : FE} {ρ : MEnv} {p : PV} {r rs : List PV} (h : compL n t f ρ (p :: r) = .ok rs) :
    (t (padTo n ρ ++ [some p]) = .ok false ∧ compL n t f ρ r = .ok rs) ∨ (t (padTo n ρ ++ [some p]) = .ok true ∧ ∃ v vs, f (padTo n ρ ++ [some p]) = .ok v ∧ compL n t f ρ r = .ok vs ∧ rs = v :: vs) := by
  unfold compL at h
  split at h
  · rename_i e1
    split at h
    · rename_i v e2
      split at h
      · rename_i vs e3
        cases h
        exact .inr ⟨e1, v, vs, e2, e3, rfl⟩
      · cases h
    · cases h
  · rename_i e1; exact .inl ⟨e1, h⟩
  · cases h
section
variable {X : Cx} {cl : Nat → Addr}
theorem mc_run {ifs : List Expr} {t : FT} (h : MC X cl ifs t) {pins : List (Addr × Obj)} {s : Shared} {σ : SV} {Hf0 H0 Hf H : Hp} {ρ : MEnv} {b : Bool} (I : Inv X pins σ H s) (r : Rep X.K cl Hf0 H0 Hf H σ ρ) (e : t ρ = .ok b) {Q : Bool → Shared → Prop}
    (ok : ∀ s' Hf' H', Inv X pins σ H' s' → Ext Hf H Hf' H' → Q b s') :
    wpAny (model X.prog X.w) X.A (forIn ifs true fun c r => if r = true then do let ok ← isTrue c X.env (eval c X.env); pure (ForInStep.yield ok) else pure (ForInStep.yield r)) Q (fun _ _ => False) s := by
  cases h with
  | nil =>
    cases e
    exact wpAny_tests_nil (ok s Hf H I (Ext.refl r.sub))
  | one h =>
    refine wpAny_tests_one (wpAny_mono (h pins s σ Hf0 H0 Hf H ρ I r (by rw [e]; intro z; cases z)) (fun b' s' q => ?_) fun u s' q => ?_)
    · obtain ⟨Hf', H', e1, I', x⟩ := q
      rw [e] at e1; cases e1
      exact ok s' Hf' H' I' x
    · obtain ⟨c, e1, _⟩ := q
      rw [e] at e1; cases e1
theorem Ext.freeze {Hf H Hf1 H1 : Hp} (x : Ext Hf H Hf1 H1) {l : Addr} {o : HO} (h1 : H1 l = some o) (h2 : Hf1 l = none) (h3 : H l = none) : Ext Hf H (upd Hf1 l o) H1 := by
  refine ⟨x.all, fun b u q => ?_, fun b u q => ?_, fun b n => ?_⟩
  · have := x.frz b u q
    by_cases e : b = l
    · subst e; rw [h2] at this; cases this
    · rw [upd_ne e]; exact this
  · by_cases e : b = l
    · subst e; rw [upd_same] at q; cases q; exact h1
    · rw [upd_ne e] at q; exact x.sub b u q
  · have e : b ≠ l := fun z => n (by rw [z]; exact h3)
    rw [upd_ne e]; exact x.old b n
theorem comp_run {elt iter : Expr} {Ns : List Str} {x : Str} {px pos pos' : Pos} {sc : Scope} {cs : List (Str × Addr)} {ifs : List Expr} {fa : FA} {t : FT} {f : FE} {n : Nat} {use : Option (Value → Sem Unit)} {Q : Value → Shared → Prop} {E : Value → Shared → Prop}
    {pins : List (Addr × Obj)} {s : Shared} {σ : SV} {Hf0 H0 Hf H : Hp} {ρ : MEnv} (hc : X.calm = true) (c0 : X.Ok → Cap X Ns x sc cs) (hn : X.N.length = n) (hnd : (Ns ++ [x]).Nodup) (hi : MI X cl (.Name x px) iter fa)
    (ht : ∀ C s H fp, MC (cxB X Ns x sc cs C s H fp) cl ifs t) (hb : ∀ C s H fp, ME (cxB X Ns x sc cs C s H fp) cl elt f) (hfs : ∀ y, foldedSetIterable iter X.env y = pure y)
    (I : Inv X pins σ H s) (r : Rep X.K cl Hf0 H0 Hf H σ ρ) (hs : fComp n fa t f ρ ≠ .stuck) (hE : ∀ u s', ExP X cl pins σ Hf H (fa ρ) u s' → E u s')
    (hQ : ∀ (rs : List PV) (s5 : Shared) (Hf5 H5 : Hp) (l C : Addr), fComp n fa t f ρ = .ok (.lst rs) → Inv X pins σ H5 s5 → Ext Hf H Hf5 H5 → Rp X.K cl Hf5 (.ref l) (.lst rs) → FpOk X pins H5 C → (∃ m, s5.heap.Ns C m) → compPost (model X.prog X.w) X.A E use Q (.ref l) C (.ok .next) s5) :
    wpAny (model X.prog X.w) X.A (comprehension (.ListComp elt [⟨.Name x px, iter, ifs, 0⟩] sc pos) sc X.env pos' (newList []) false (eval iter X.env) use) Q E s := by
  have c := c0 I.ok
  have hfr : fa ρ ≠ .stuck := fun z => hs (by unfold fComp; rw [z]; rfl)
  refine wpAny_comprehension_free (use := use) rfl hfs c.clos c.kind c.names (wpAny_mono (hi pins s σ Hf0 H0 Hf H ρ I r hfr) (fun xv s1 h1 => wpAny_mono h1 (fun itv s2 h2 => ?_) hE) hE)
  obtain ⟨ps, vs, Hf2, e1, it, fp, tn, J, H2, e, I2, T, st2, f2, x2, ov, rps⟩ := h2
  subst e
  have ef : fComp n fa t f ρ = compK n t f ρ ps := by unfold fComp; rw [e1]; rfl
  have hs' : compK n t f ρ ps ≠ .stuck := by rw [← ef]; exact hs
  obtain ⟨hz, rs, ec, ek⟩ : ps.length ≤ 1000000 ∧ ∃ rs, compL n t f ρ ps = .ok rs ∧ compK n t f ρ ps = .ok (.lst rs) := by
    unfold compK at hs' ⊢
    by_cases hz : ps.length ≤ 1000000
    · rw [if_pos hz] at hs' ⊢
      cases ec : compL n t f ρ ps with
      | ok rs => exact ⟨hz, rs, rfl, rfl⟩
      | exc d => rw [ec] at hs'; exact absurd rfl hs'
      | stuck => rw [ec] at hs'; exact absurd rfl hs'
    · rw [if_neg hz] at hs'; exact absurd rfl hs'
  have ek' : fComp n fa t f ρ = .ok (.lst rs) := ef.trans ek
  have nsm : H2 s2.heap.objs.size = none := I2.hok.fresh (Nat.le_refl _)
  have fpl : ∀ b ∈ fp, b < s2.heap.objs.size := fun b hb => by
    obtain ⟨o, ho, _⟩ := T.obj _ _ st2 b hb
    exact Heap.lt_size ho
  refine wpAny_newList ?_
  have k3 : ∀ b u, s2.heap.get? b = some u → (s2.heap.push { cls := .type "list", data := .seq ([] : List Value).toArray }).get? b = some u := fun b u q => Heap.get?_push_of_some _ q
  have I3 : Inv X pins σ (upd H2 s2.heap.objs.size (.lst [])) { s2 with heap := s2.heap.push { cls := .type "list", data := .seq ([] : List Value).toArray } } :=
    I2.laid (a := s2.heap.objs.size) (o := .lst []) (t' := s2.toks) k3 (Nat.le_refl _) ⟨Nat.zero_le _, [], 0, .nil, Heap.get?_push_size _ rfl⟩
  generalize hl : s2.heap.objs.size = l at *
  have hf3 : ∀ b ∈ fp, FpOk X pins (upd H2 l (.lst [])) b := fun b hb => ⟨by rw [upd_ne (Nat.ne_of_lt (fpl b hb))]; exact (f2 b hb).1, (f2 b hb).2⟩
  generalize hs3 : ({ s2 with heap := s2.heap.push { cls := .type "list", data := .seq ([] : List Value).toArray } } : Shared) = s3 at I3 ⊢
  have hl3 : ∀ b ∈ fp, b < s3.heap.objs.size := fun b hb => by
    rw [← hs3]
    show b < (s2.heap.push _).objs.size
    rw [Heap.size_push, hl]; exact Nat.lt_succ_of_lt (fpl b hb)
  have st3 : tn 0 s3.heap := T.keep _ _ _ st2 fun b _ o e => by rw [← hs3]; exact k3 b o e
  refine wpAny_newFunctionEnv c.nocell (by intro y hy; simp at hy) (fun h1 hn1 hsb => ?_) c.kind
  have kC : ∀ b o, s3.heap.get? b = some o → h1.get? b = some o := fun b o e => hsb.extBut b o (Nat.ne_of_lt (Heap.lt_size e)) (Heap.get?_push_of_some _ e)
  have IB := cxB_inv (tk := s3.toks + ([] : List (Str × Value)).length) I3 c hf3 hl3 hn1 kC
  have x3 : Ext Hf2 H2 Hf2 (upd H2 l (.lst [])) := Ext.newH x2.sub nsm (.lst [])
  have hf2l : Hf2 l = none := x2.sub.free nsm
  have stB : tn 0 h1 := T.keep _ _ _ st3 fun b _ o e => kC b o e
  have rk := r.keep x2
  have hsl : σ.length = n := by rw [I.len, hn]
  have hvp := rps.length
  have hNn : Ns.length = n := c.len.trans hn
  have hNi : (Ns ++ [x])[n]? = some x := by rw [List.getElem?_append_right (by omega), hNn]; simp
  have hLx : (relabel sc X.env).names.lookup x = some .local := lookup_relabel_local c.here
  have hCf : ∀ b ∈ fp, b ≠ s3.heap.objs.size := fun b hb => Nat.ne_of_lt (hl3 b hb)
  have stat : ∀ {H' : Hp}, (∀ b ∈ fp, H' b = none) → ∀ b ∈ fp, FpOk (cxB X Ns x sc cs s3.heap.objs.size s3 (upd H2 l (.lst [])) fp) [] H' b := fun hn' => cxB_fp c I3 hCf hf3 hn'
  have hbb := hb s3.heap.objs.size s3 (upd H2 l (.lst [])) fp
  have htt := ht s3.heap.objs.size s3 (upd H2 l (.lst [])) fp
  have loop : codeAny (model X.prog X.w) X.A (.compLoop (.ListComp elt [⟨.Name x px, iter, ifs, 0⟩] sc pos) 0 (.ref it) (.ref l) (compEnvC sc cs s3.heap.objs.size X.env))
      (compPost (model X.prog X.w) X.A E use Q (.ref l) s3.heap.objs.size) { s3 with heap := h1, toks := s3.toks + ([] : List (Str × Value)).length } := by
    refine compLoop_let (fun m s' => ∃ (k : Nat) (ys : List V) (qs rest : List PV) (Hf' H' : Hp) (v : Option V), Inv (cxB X Ns x sc cs s3.heap.objs.size s3 (upd H2 l (.lst [])) fp) [] (σ ++ [v]) H' s' ∧ tn k s'.heap ∧ (∀ b ∈ fp, H' b = none) ∧ Ext Hf2 H2 Hf' H' ∧ H' l = some (.lst ys) ∧ Hf' l = none ∧
      Rps X.K cl Hf' ys qs ∧ m = ps.length - k ∧ k ≤ ps.length ∧ qs.length ≤ k ∧ compL n t f ρ (ps.drop k) = .ok rest ∧ qs ++ rest = rs) ?_ ps.length
      ⟨0, [], [], rs, Hf2, upd H2 l (.lst []), none, IB, stB, fun b hb => (hf3 b hb).1, x3, upd_same, hf2l, .nil, by omega, Nat.zero_le _, Nat.zero_le _, ec, rfl⟩
    rintro m s4 ⟨k, ys, qs, rest, Hf4, H4, v4, I4, st4, fr4, x4, hl4, hfl4, rq, rfl, hk, hqk, e4, eq4⟩
    have smH : Same Hf2 H4 := x4.frz.trans x4.sub
    by_cases hlt : k < ps.length
    · obtain ⟨go, yl⟩ := (ov H4 k smH).1 (by rw [hvp]; exact hlt)
      refine wpAny_mono (T.item (cxB X Ns x sc cs s3.heap.objs.size s3 (upd H2 l (.lst [])) fp) rfl rfl rfl hc k [] s4 (σ ++ [v4]) H4 (fun _ _ => False) I4 (stat fr4) st4 go) (fun rr s5 ⟨u, hr, h5⟩ => ?_) fun _ _ z => z
      subst hr
      refine thn h5 fun _ s6 ⟨x6, H6, I6, r6, y6, st6, fr6⟩ => ?_
      obtain ⟨eH, ex6⟩ := yl x6 H6 y6
      subst eH
      obtain ⟨p6, ep6, rp6⟩ := rps.get' ex6
      have rp6' := rp6.keep x4.frz
      have hdrop : ps.drop k = p6 :: ps.drop (k + 1) := by
        rw [List.drop_eq_getElem_cons hlt]
        rw [List.getElem?_eq_getElem hlt] at ep6
        rw [Option.some.inj ep6]
      rw [hdrop] at e4
      have I6' := I6.pinned (stat fr6) (T.obj _ _ st6)
      refine wpAny_assign_Name (store_ok (X := cxB X Ns x sc cs s3.heap.objs.size s3 (upd H2 l (.lst [])) fp) I6' hnd hNi (.inl hLx) r6 (fun s7 I7 => ?_) (.inr hLx))
      have eσ : (σ ++ [v4]).set n (some x6) = σ ++ [some x6] := by rw [← hsl, List.set_append_right _ _ (Nat.le_refl _)]; simp
      rw [eσ] at I7
      have r7 := (rk.keep x4).snoc rp6'
      rw [hsl] at r7
      have again : ∀ {s9 : Shared} {Hf9 H9 : Hp} {ys9 : List V} {qs9 rest9 : List PV}, Inv (cxB X Ns x sc cs s3.heap.objs.size s3 (upd H2 l (.lst [])) fp) ([] ++ pinsAt fp s6.heap) (σ ++ [some x6]) H9 s9 → Ext Hf2 H2 Hf9 H9 → H9 l = some (.lst ys9) → Hf9 l = none → Rps X.K cl Hf9 ys9 qs9 → qs9.length ≤ k + 1 →
          compL n t f ρ (ps.drop (k + 1)) = .ok rest9 → qs9 ++ rest9 = rs →
          ∃ m, m < ps.length - k ∧ ∃ (k : Nat) (ys : List V) (qs rest : List PV) (Hf' H' : Hp) (v : Option V), Inv (cxB X Ns x sc cs s3.heap.objs.size s3 (upd H2 l (.lst [])) fp) [] (σ ++ [v]) H' s9 ∧ tn k s9.heap ∧ (∀ b ∈ fp, H' b = none) ∧ Ext Hf2 H2 Hf' H' ∧ H' l = some (.lst ys) ∧ Hf' l = none ∧
            Rps X.K cl Hf' ys qs ∧ m = ps.length - k ∧ k ≤ ps.length ∧ qs.length ≤ k ∧ compL n t f ρ (ps.drop k) = .ok rest ∧ qs ++ rest = rs := fun {s9 Hf9 H9 ys9 qs9 rest9} I9 x9 hl9 hfl9 rq9 hq9 ec9 eq9 => by
        refine ⟨ps.length - (k + 1), by omega, k + 1, ys9, qs9, rest9, Hf9, H9, some x6, I9.unpinned, T.keep _ _ _ st6 fun b hb o e => (I9.pin (b, o) (List.mem_append_right _ (List.mem_append_right _ (mem_pinsAt hb e)))).1, fun b hb => ?_, x9, hl9, hfl9, rq9, rfl, hlt, hq9, ec9, eq9⟩
        obtain ⟨o, e, d⟩ := T.obj _ _ st6 b hb
        exact (I9.pin (b, o) (List.mem_append_right _ (List.mem_append_right _ (mem_pinsAt hb e)))).2.1
      have nl4 : H6 l ≠ none := by rw [hl4]; intro z; cases z
      rcases compL_cons e4 with ⟨et, e5⟩ | ⟨et, v, vs', ef, e5, er⟩
      · refine mc_run htt I7 r7 et fun s8 Hf8 H8 I8 x8 => ?_
        rw [if_neg (by decide)]
        exact again I8 (x4.trans x8) (x8.all _ _ hl4) (by rw [x8.old l nl4]; exact hfl4) (rq.keep x8.frz) (by omega) e5 eq4
      · refine mc_run htt I7 r7 et fun s8 Hf8 H8 I8 x8 => ?_
        rw [if_pos rfl]
        have r8 := r7.keep x8
        refine wpAny_mono (hbb _ s8 _ Hf0 H0 Hf8 H8 _ I8 r8 (by rw [ef]; intro z; cases z)) (fun u s9 q9 => ?_) fun u s9 q9 => ?_
        · obtain ⟨p9, v9, Hf9, H9, e9, I9, rv9, x9, rp9⟩ := q9
          rw [ef] at e9; cases e9
          have hl8 : H8 l = some (.lst ys) := x8.all _ _ hl4
          have hl9 : H9 l = some (.lst ys) := x9.all _ _ hl8
          have hfl9 : Hf9 l = none := by rw [x9.old l (by rw [hl8]; intro z; cases z), x8.old l nl4]; exact hfl4
          refine thn (mt_append (X := cxB X Ns x sc cs s3.heap.objs.size s3 (upd H2 l (.lst [])) fp) _ s9 _ H9 (.ref l) [v9] (.ref l) [u] (fun w H' => H' = upd H9 l (.lst (ys ++ [v9]))) I9 rfl (.cons rv9 .nil) ⟨l, ys, v9, rfl, rfl, hl9, by rw [rq.length]; exact Nat.lt_of_le_of_lt (show qs.length ≤ 1000000 by omega) (by decide), rfl⟩) fun w s10 ⟨w', H10, I10, _, q10⟩ => ?_
          subst q10
          have x49 := (x4.trans x8).trans x9
          have x10 : Ext Hf2 H2 Hf9 (upd H9 l (.lst (ys ++ [v9]))) := by
            refine ⟨fun b o q => ?_, x49.frz, fun b o q => ?_, x49.old⟩
            · have e : b ≠ l := fun z => by rw [z, nsm] at q; cases q
              rw [upd_ne e]; exact x49.all b o q
            · have e : b ≠ l := fun z => by rw [z, hfl9] at q; cases q
              rw [upd_ne e]; exact x49.sub b o q
          exact again I10 x10 upd_same hfl9 (((rq.keep x8.frz).keep x9.frz).append (.cons rp9 .nil)) (by rw [List.length_append]; simp; omega) e5 (by rw [List.append_assoc, ← eq4, er]; rfl)
        · obtain ⟨d, e9, _⟩ := q9
          rw [ef] at e9; cases e9
    · have hke : k = ps.length := by omega
      subst hke
      refine wpAny_mono (T.done (cxB X Ns x sc cs s3.heap.objs.size s3 (upd H2 l (.lst [])) fp) rfl rfl rfl hc ps.length [] s4 (σ ++ [v4]) H4 (fun _ _ => False) I4 (stat fr4) st4 ((ov H4 ps.length smH).2 (by rw [hvp]; exact Nat.le_refl _))) (fun rr s5 ⟨hr, I5⟩ => ?_) fun _ _ z => z
      subst hr
      rw [List.drop_length] at e4
      cases e4
      rw [List.append_nil] at eq4
      subst eq4
      obtain ⟨m5, hn5, _⟩ := I5.loc
      have xx := x2.trans x4
      have hHl : H l = none := by
        cases q : H l with
        | none => rfl
        | some o => have := x2.all l o q; rw [nsm] at this; cases this
      have IX : Inv X pins σ H4 s5 := I3.call' I5.os I5.base I5.hok I5.bare fun b hb => ⟨(hf3 b hb).2.2.2.1, (hf3 b hb).2.1, (hf3 b hb).2.2.2.2.1, (hf3 b hb).2.2.2.2.2⟩
      exact hQ qs s5 (upd Hf4 l (.lst ys)) H4 l s3.heap.objs.size ek' IX (xx.freeze hl4 hfl4 hHl) (.lst (SqL.of upd_same) (rq.keep (same_upd hfl4 _))) (I3.fpOk (Nat.le_refl _) I5.free) ⟨m5, hn5⟩
  exact codeAny_compStart_list loop (T.self _ 0 _ _ _ stB loop)
/-- the block's own names are let go -/
theorem inv_letgo {pins : List (Addr × Obj)} {s : Shared} {σ : SV} {H : Hp} {C : Addr} {h' : Heap} (I : Inv X pins σ H s) (hf : FpOk X pins H C) (hs : Heap.SameBut C s.heap h') : Inv X pins σ H { s with heap := h' } :=
  I.turned (t' := s.toks) (fun b o hb e => (hs.2 b hb).trans e) hf.1 hf.2.1 hf.2.2.2.1 hf.2.2.2.2.1 hf.2.2.2.2.2
/-- name = a comprehension: the name is stored ahead of the letting go -/
theorem ms_setC {i : Nat} {y : Str} {py spos : Pos} {elt iter : Expr} {Ns : List Str} {x : Str} {px pos : Pos} {sc : Scope} {cs : List (Str × Addr)} {ifs : List Expr} {fa : FA} {t : FT} {f : FE} {n : Nat} (hN : X.N.Nodup) (hy : X.N[i]? = some y) (hl : Loc X.env.scope y) (hc : X.calm = true) (c0 : X.Ok → Cap X Ns x sc cs) (hn : X.N.length = n) (hnd : (Ns ++ [x]).Nodup) (hi : MI X cl (.Name x px) iter fa)
    (ht : ∀ C s H fp, MC (cxB X Ns x sc cs C s H fp) cl ifs t) (hb : ∀ C s H fp, ME (cxB X Ns x sc cs C s H fp) cl elt f) (hfs : ∀ y, foldedSetIterable iter X.env y = pure y := by intro _; rfl)
    (hsw : swapsWith (.ListComp elt [⟨.Name x px, iter, ifs, 0⟩] sc pos) (some (.Name y py)) spos.line X.env = pure true := by rfl)
    (hf : X.fn y = true ∨ X.env.scope.names.lookup y = some .local := by first | exact .inl rfl | exact .inr rfl | assumption) :
    MS X cl (.Assign [.Name y py] (.ListComp elt [⟨.Name x px, iter, ifs, 0⟩] sc pos) spos) (sSet i (fComp n fa t f)) := by
  refine ⟨?_⟩
  intro pins s σ Hf0 H0 Hf H ρ I r hs
  unfold sSet at hs ⊢
  have hs' : fComp n fa t f ρ ≠ .stuck := fun z => hs (by rw [z]; rfl)
  rw [exec_Assign_Name_used _ _ _ _ hsw]
  refine wpAny_bind (wpAny_standAt (wpAny_bind ?_))
  show wpAny _ X.A (do let _ ← comprehension (.ListComp elt [⟨.Name x px, iter, ifs, 0⟩] sc pos) sc X.env _ (newList []) false (eval iter X.env) (some (assign (.Name y py) X.env))) _ _ s
  have hE : ∀ u s', ExP X cl pins σ Hf H (fa ρ) u s' → ExS X cl pins Hf0 H0 Hf (ofR (fComp n fa t f ρ) ρ fun v => .next (ρ.set i (some v))) u s' := fun u s' ⟨d, e1, z⟩ => by
    have e2 : fComp n fa t f ρ = .exc d := by unfold fComp; rw [e1]; rfl
    rw [e2]
    exact exs_of r z
  refine wpAny_bind (wpAny_mono (comp_run (use := some (assign (.Name y py) X.env)) (Q := fun _ s' => OkS X cl pins Hf0 H0 Hf (ofR (fComp n fa t f ρ) ρ fun v => .next (ρ.set i (some v))) .next s') hc c0 hn hnd hi ht hb hfs I r hs' hE ?_) (fun _ s' hq => wpAny_pure (wpAny_pure hq)) fun _ _ e => e)
  intro rs s5 Hf5 H5 l C ek I5 x5 rp hfC hmm
  obtain ⟨m, hm⟩ := hmm
  show wpAny _ X.A (assign (.Name y py) X.env (.ref l)) _ _ s5
  have hil : i < σ.length := by rw [I.len]; exact (List.getElem?_eq_some_iff.mp hy).1
  refine wpAny_assign_Name (store_ok2 I5 hN hy hl (v := .ref l) rfl (fun s6 I6 h6 => ?_) hf)
  obtain ⟨a, hs6, ha⟩ := h6
  have neC : C ≠ a := by
    rcases ha with rfl | ha
    · exact hfC.2.1
    · exact fun z => hfC.2.2.2.2.1 y a ha z.symm
  refine ⟨m, hm.sameBut hs6 neC, fun h' hsC => ?_⟩
  rw [ek]
  exact ⟨_, _, Hf5, H5, rfl, inv_letgo I6 hfC hsC, (r.keep x5).set i rp hil, x5.frz⟩
end
end Mi
set_option Elab.async false
set_option linter.all false
set_option autoImplicit false
set_option maxRecDepth 100000
set_option maxHeartbeats 4000000
namespace Mi
open PySem PySem.Spec PyProof.Rows L2
/-- the cells that a block takes from around -/
def csOf (sc : Scope) (env : Env) : List (Str × Addr) := sc.names.foldl (fun cs y => if y.2 == .free then (y.1, (env.cells.lookup y.1).getD 0) :: cs else cs) []
theorem clos_of {sc : Scope} {env : Env} (h : ∀ y ∈ sc.names, y.2 = .free → ∃ c, env.cells.lookup y.1 = some c) : closureFor sc env = pure (csOf sc env) := by
  unfold closureFor csOf
  generalize sc.names = l at h
  have go : ∀ (l : List (Str × NameKind)) (cs : List (Str × Addr)), (∀ y ∈ l, y.2 = .free → ∃ c, env.cells.lookup y.1 = some c) →
      (forIn l cs (fun (x : Str × NameKind) (r : List (Str × Addr)) => match x with
        | (name, kind) => if (kind == NameKind.free) = true then do
            let a ← cellOf env name
            pure (ForInStep.yield ((name, a) :: r)) else pure (ForInStep.yield r)) : Sem (List (Str × Addr))) = pure (l.foldl (fun cs y => if y.2 == .free then (y.1, (env.cells.lookup y.1).getD 0) :: cs else cs) cs) := by
    intro l
    induction l with
    | nil => intro cs _; rfl
    | cons y r ih =>
      intro cs hl
      obtain ⟨n, k⟩ := y
      rw [List.forIn_cons, List.foldl_cons]
      by_cases hk : (k == NameKind.free) = true
      · obtain ⟨d, hd⟩ := hl (n, k) List.mem_cons_self (by simpa using hk)
        have e : cellOf env n = pure d := by
          have hd' : env.cells.lookup n = some d := hd
          unfold cellOf; rw [hd']
        have hd' : env.cells.lookup n = some d := hd
        dsimp only
        rw [if_pos hk, if_pos hk, e, hd']
        exact ih _ fun z hz => hl z (List.mem_cons_of_mem _ hz)
      · dsimp only
        rw [if_neg hk, if_neg hk]
        exact ih _ fun z hz => hl z (List.mem_cons_of_mem _ hz)
  exact (congrArg (fun (m : Sem (List (Str × Addr))) => m >>= fun cs => pure cs) (go l [] h)).trans rfl
theorem csOf_go {env : Env} : ∀ (l : List (Str × NameKind)) (cs : List (Str × Addr)) (y : Str) (c : Addr), (∀ z ∈ l, z.2 = .free → ∃ c, env.cells.lookup z.1 = some c) →
    (l.foldl (fun cs y => if y.2 == .free then (y.1, (env.cells.lookup y.1).getD 0) :: cs else cs) cs).lookup y = some c → cs.lookup y = some c ∨ env.cells.lookup y = some c
  | [], _, _, _, _, h => .inl h
  | (n, k) :: r, cs, y, c, hl, h => by
    rw [List.foldl_cons] at h
    rcases csOf_go r _ y c (fun z hz => hl z (List.mem_cons_of_mem _ hz)) h with q | q
    · by_cases hk : (k == NameKind.free) = true
      · rw [if_pos hk] at q
        obtain ⟨d, hd⟩ := hl (n, k) List.mem_cons_self (by simpa using hk)
        have hd' : env.cells.lookup n = some d := hd
        rw [hd', List.lookup_cons] at q
        by_cases e : y == n
        · rw [e] at q
          have e' := beq_iff_eq.mp e
          subst e'
          exact .inr (by rw [hd']; exact q)
        · have e2 : (y == n) = false := by simpa using e
          rw [e2] at q; exact .inl q
      · rw [if_neg hk] at q; exact .inl q
    · exact .inr q
theorem csOf_has {env : Env} : ∀ (l : List (Str × NameKind)) (cs : List (Str × Addr)) (y : Str), ((∃ c, cs.lookup y = some c) ∨ (y, NameKind.free) ∈ l) →
    ∃ c, (l.foldl (fun cs y => if y.2 == .free then (y.1, (env.cells.lookup y.1).getD 0) :: cs else cs) cs).lookup y = some c
  | [], cs, y, h => by
    rcases h with h | h
    · exact h
    · cases h
  | (n, k) :: r, cs, y, h => by
    rw [List.foldl_cons]
    refine csOf_has r _ y ?_
    rcases h with ⟨c, h⟩ | h
    · left
      by_cases hk : (k == NameKind.free) = true
      · rw [if_pos hk, List.lookup_cons]
        by_cases e : (y == n) = true
        · rw [e]; exact ⟨_, rfl⟩
        · have e2 : (y == n) = false := by simpa using e
          rw [e2]; exact ⟨c, h⟩
      · rw [if_neg hk]; exact ⟨c, h⟩
    · rcases List.mem_cons.mp h with e | e
      · left
        have e1 : y = n := congrArg Prod.fst e
        have e2 : NameKind.free = k := congrArg Prod.snd e
        subst e1 e2
        rw [if_pos (by rfl), List.lookup_cons]
        have : (y == y) = true := beq_self_eq_true y
        rw [this]; exact ⟨_, rfl⟩
      · exact .inr e
/-- reckoned: what is asked of a block's names -/
def capB (N : List Str) (x : Str) (sc es : Scope) : Bool :=
  sc.kind == .function && es.kind == .function && (sc.names.all fun y => y.2 != .cell) && (sc.names.all fun y => y.2 != .local || sc.names.lookup y.1 == some .local) && (sc.names.lookup x == some .local) &&
  (sc.names.all fun y => y.2 != .free || es.names.lookup y.1 == some .cell || es.names.lookup y.1 == some .free) && (N.all fun y => sc.names.lookup y != some .local) && !N.contains x
theorem lookup_mem' {α : Type} : ∀ {l : List (Str × α)} {y : Str} {k : α}, l.lookup y = some k → (y, k) ∈ l
  | [], _, _, h => by cases h
  | (n, j) :: r, y, k, h => by
    rw [List.lookup_cons] at h
    by_cases e : (y == n) = true
    · rw [e] at h; cases h
      rw [beq_iff_eq.mp e]; exact List.mem_cons_self
    · have e2 : (y == n) = false := by simpa using e
      rw [e2] at h
      exact List.mem_cons_of_mem _ (lookup_mem' h)
theorem relabel_go (cond : Str → NameKind → Bool) (hcond : ∀ n k, cond n k = true → k = .free) : ∀ {l : List (Str × NameKind)} {y : Str} {k : NameKind},
    (l.map fun z => if cond z.1 z.2 then (z.1, NameKind.cell) else (z.1, z.2)).lookup y = some k → (l.lookup y = some k) ∨ (k = .cell ∧ l.lookup y = some .free)
  | [], _, _, h => by cases h
  | (n, j) :: r, y, k, h => by
    rw [List.map_cons] at h
    dsimp only at h
    by_cases hc : cond n j = true
    · rw [if_pos hc, List.lookup_cons] at h
      rw [List.lookup_cons]
      by_cases e : (y == n) = true
      · rw [e] at h ⊢
        cases h
        right; exact ⟨rfl, by rw [hcond n j hc]⟩
      · have e2 : (y == n) = false := by simpa using e
        rw [e2] at h ⊢
        exact relabel_go cond hcond h
    · rw [if_neg hc, List.lookup_cons] at h
      rw [List.lookup_cons]
      by_cases e : (y == n) = true
      · rw [e] at h ⊢; exact .inl h
      · have e2 : (y == n) = false := by simpa using e
        rw [e2] at h ⊢
        exact relabel_go cond hcond h
theorem relabel_kind {sc : Scope} {env : Env} {y : Str} {k : NameKind} (h : (relabel sc env).names.lookup y = some k) : (sc.names.lookup y = some k) ∨ (k = .cell ∧ sc.names.lookup y = some .free) :=
  relabel_go (fun n k => k == NameKind.free && env.scope.kind == .function && env.kindOf n == some .cell) (fun n k h => beq_iff_eq.mp (Bool.and_eq_true_iff.mp (Bool.and_eq_true_iff.mp h).1).1) h
theorem cap_of {X : Cx} {Ns : List Str} {x : Str} {sc : Scope} (h : capB Ns x sc X.env.scope = true) (hl : Ns.length = X.N.length) (hsm : ∀ (i : Nat) (y : Str), Ns[i]? = some y → Vis (relabel sc X.env) y → X.N[i]? = some y) (ok : X.Ok) : Cap X Ns x sc (csOf sc X.env) := by
  unfold capB at h
  simp only [Bool.and_eq_true, beq_iff_eq, List.all_eq_true, Bool.or_eq_true, bne_iff_ne, ne_eq, Bool.not_eq_true'] at h
  obtain ⟨⟨⟨⟨⟨⟨⟨h1, h2⟩, h3⟩, h4⟩, h5⟩, h6⟩, h7⟩, h8⟩ := h
  have free : ∀ y ∈ sc.names, y.2 = .free → (X.env.kindOf y.1 = some .cell ∨ X.env.kindOf y.1 = some .free) := fun y hy e => by
    rcases h6 y hy with (z | z) | z
    · exact absurd e z
    · exact .inl z
    · exact .inr z
  have cells : ∀ y ∈ sc.names, y.2 = .free → ∃ c, X.env.cells.lookup y.1 = some c := fun y hy e => ok.has y.1 (free y hy e)
  have kinds : ∀ y, ((relabel sc X.env).names.lookup y = some .cell ∨ (relabel sc X.env).names.lookup y = some .free) → (y, NameKind.free) ∈ sc.names := fun y hy => by
    rcases hy with hy | hy
    · rcases relabel_kind hy with z | ⟨_, z⟩
      · exact absurd rfl (h3 (y, .cell) (lookup_mem' z))
      · exact lookup_mem' z
    · rcases relabel_kind hy with z | ⟨z, _⟩
      · exact lookup_mem' z
      · cases z
  refine ⟨clos_of cells, h1, fun y hy => h3 y hy, fun y hy e => ?_, h5, fun y c e => ?_, fun y hy => csOf_has _ _ y (.inr (kinds y hy)), fun y hy v => ?_, fun z => ?_, hl, hsm⟩
  · rcases h4 y hy with z | z
    · exact absurd e z
    · exact z
  · rcases csOf_go _ _ y c cells e with q | q
    · cases q
    · exact q
  · rcases v with v | v
    · exfalso
      rcases relabel_kind v with z | ⟨z, _⟩
      · exact h7 y hy z
      · cases z
    · exact ⟨v, free _ (kinds y v) rfl⟩
  · rw [List.contains_iff_mem.mpr z] at h8; cases h8
section
variable {P : Program} {w : World} {K : PySem.W.Frag} {mg : Str → Option Value} {base : Heap} {cl : Nat → Addr}
/-- names as the block sees them: one that the block's own name hides is another word, that nothing says -/
def hidB (N Ns : List Str) (sc : Scope) : Bool := Ns.length == N.length && decide Ns.Nodup && ((List.range N.length).all fun i => N[i]? == Ns[i]? || (match Ns[i]? with
  | some y => sc.names.lookup y == none
  | none => true))
theorem hid_same {N Ns : List Str} {sc : Scope} {env : Env} (h : hidB N Ns sc = true) (i : Nat) (y : Str) (e : Ns[i]? = some y) (v : Vis (relabel sc env) y) : N[i]? = some y := by
  unfold hidB at h
  simp only [Bool.and_eq_true, beq_iff_eq, List.all_eq_true, Bool.or_eq_true, List.mem_range] at h
  obtain ⟨⟨h1, _⟩, h2⟩ := h
  have hi : i < N.length := by rw [← h1]; exact (List.getElem?_eq_some_iff.mp e).1
  rcases h2 i hi with z | z
  · rw [z]; exact e
  · rw [e] at z
    have z' : sc.names.lookup y = none := by simpa using z
    exfalso
    have : ∀ k, (relabel sc env).names.lookup y ≠ some k := fun k w => by
      rcases relabel_kind w with q | ⟨_, q⟩ <;> (rw [z'] at q; cases q)
    rcases v with v | v | v
    · exact this _ v
    · exact this _ v
    · exact this _ v
theorem msC {N : List Str} {qual : Str} {scope : Scope} {f : Addr} {cd : Value} {A : Around} {outer : List Env} {s : Shared} {H : Hp} {E : XK} {i : Nat} {y : Str} {py spos : Pos} {elt iter : Expr} {x : Str} {px pos : Pos} {sc : Scope} {ifs : List Expr} {fa : FA} {t : FT} {g : FE} {n : Nat}
    (hnd : N.Nodup) (hy : N[i]? = some y) (hl : Loc scope y) (hcap : capB N x sc scope = true) (hn : N.length = n) (hi : MI (cxM P w K mg base cl N qual scope f cd A outer s H E) cl (.Name x px) iter fa)
    (ht : ∀ C s' H' fp, MC (cxB (cxM P w K mg base cl N qual scope f cd A outer s H E) N x sc (csOf sc (cxM P w K mg base cl N qual scope f cd A outer s H E).env) C s' H' fp) cl ifs t)
    (hb : ∀ C s' H' fp, ME (cxB (cxM P w K mg base cl N qual scope f cd A outer s H E) N x sc (csOf sc (cxM P w K mg base cl N qual scope f cd A outer s H E).env) C s' H' fp) cl elt g)
    (hfs : ∀ y, foldedSetIterable iter (cxM P w K mg base cl N qual scope f cd A outer s H E).env y = pure y := by intro _; rfl)
    (hsw : swapsWith (.ListComp elt [⟨.Name x px, iter, ifs, 0⟩] sc pos) (some (.Name y py)) spos.line (cxM P w K mg base cl N qual scope f cd A outer s H E).env = pure true := by rfl) :
    MS (cxM P w K mg base cl N qual scope f cd A outer s H E) cl (.Assign [.Name y py] (.ListComp elt [⟨.Name x px, iter, ifs, 0⟩] sc pos) spos) (sSet i (fComp n fa t g)) := by
  refine ms_setC hnd hy hl rfl (fun ok => cap_of hcap rfl (fun _ _ h _ => h) ok) hn ?_ hi ht hb hfs hsw (.inl rfl)
  show (N ++ [x]).Nodup
  have hx : x ∉ N := fun z => by
    unfold capB at hcap
    have := (Bool.and_eq_true_iff.mp hcap).2
    rw [List.contains_iff_mem.mpr z] at this; cases this
  exact List.nodup_append.mpr ⟨hnd, List.nodup_cons.mpr ⟨List.not_mem_nil, List.nodup_nil⟩, fun a ha b hb e => hx (by
    rw [List.mem_singleton] at hb; rw [← hb, ← e]; exact ha)⟩
end
/-- a call that must not raise (within a block) -/
def noX (F : List PV → R PV) : List PV → R PV := fun vs => match F vs with
  | .ok v => .ok v
  | _ => .stuck
section
variable {X : Cx} {cl : Nat → Addr}
theorem mcN {e : Expr} {es : List Expr} {g : FA} {x : Str} {p pos : Pos} {k k' n : Nat} {F : List PV → R PV} (hF : FG X.prog X.w X.K X.mg X.base cl k x n F) (hr : Room k' X.A) (ha : MA X cl (e :: es) g) (hk : k ≤ k' := by decide) (hl : (e :: es).length = n := by rfl) (hg : Gl X x := by rfl)
    (hdb : (x == ("__debug__" : Str)) = false := by decide) (he : starEach (e :: es) X.env = (false, eval e X.env) :: starEach es X.env := by rfl) (hpl : (backTo pos (starEach es X.env)).any (·.1) = false := by rfl) :
    ME X cl (.Call (.Name x p) (e :: es) [] pos) (fCall (noX F) g) := by
  obtain ⟨f, fd, ps, hm, hkp, hn, hf, hb⟩ := hF.ex
  refine ⟨?_⟩
  intro pins s σ Hf0 H0 Hf H ρ I r hs
  unfold fCall at hs ⊢
  refine wpAny_Call_Name_kw (ld_glob I hg hm ?_ hdb)
  refine PySem.W.callWith_K (h₀ := X.base) I.ok.mod.kin hkp (ha.run pos I r (Ext.refl r.sub) hs fun qs vs us s1 Hf1 H1 hq e1 I1 rv x1 rps => ⟨I1.kIn, ?_⟩) he hpl
  rw [e1] at hs ⊢
  obtain ⟨v0, ev0⟩ : ∃ v, F qs = .ok v := by
    unfold noX at hs
    cases ef : F qs with
    | ok v => exact ⟨v, rfl⟩
    | exc c => rw [ef] at hs; exact absurd rfl hs
    | stuck => rw [ef] at hs; exact absurd rfl hs
  have en : noX F qs = .ok v0 := by unfold noX; rw [ev0]
  rw [en]
  have hv : vs.length = n := by rw [rps.length, hq, hl]
  have hsp : spF X.K cl n F vs H1 (fun v H' => ∃ p Hf', F qs = .ok p ∧ Ext Hf1 H1 Hf' H' ∧ Rp X.K cl Hf' v p) (fun u o H' => False) :=
    ⟨hv, Hf1, qs, x1.sub, rps, (by rw [ev0]; intro z; cases z), fun p v Hf' H' a b c => ⟨p, Hf', a, b, c⟩, fun c Hf' H' a b => (by rw [ev0] at a; cases a)⟩
  have hlu : (us ++ []).length = ps.length := by rw [List.append_nil, ← rv.length, hv, hn]
  have hbb := hb s1 us I1.kIn hlu
  rw [List.append_nil] at hbb
  refine wpAny_call (codeAny_mono (hf.run X.A X.stack s1 H1 ⟨us, []⟩ us vs _ _ (hr.mono hk) I1.env0 hbb rv hsp) fun r s' hq' => ?_)
  cases r with
  | error e =>
    obtain ⟨a, c, H', B, a0, _, _, _, _, _, _, _, _, z⟩ := hq'
    exact z.elim
  | ok fl =>
    cases fl with
    | ret u =>
      obtain ⟨v, H', I', rv', p, Hf', e2, ex, rp⟩ := I1.after hq'
      rw [ev0] at e2; cases e2
      exact ⟨v0, v, Hf', H', rfl, I', rv', x1.trans ex, rp⟩
    | next => exact False.elim hq'
    | brk => exact False.elim hq'
    | cont => exact False.elim hq'
end
end Mi
set_option Elab.async false
set_option linter.all false
set_option autoImplicit false
set_option maxRecDepth 100000
set_option maxHeartbeats 4000000
set_option Elab.async false
set_option linter.all false
set_option autoImplicit false
set_option maxRecDepth 100000
set_option maxHeartbeats 4000000
namespace Mi
open PySem PySem.Spec PyProof.Rows L2
section
variable {X : Cx} {cl : Nat → Addr} {pins : List (Addr × Obj)} {s : Shared} {σ : SV} {Hf0 H0 Hf H Hf1 H1 : Hp} {ρ : MEnv} {α : Type}
inductive BoolsV : List Value → List Bool → Prop
  | nil : BoolsV [] []
  | cons (b : Bool) {vs : List Value} {bs : List Bool} : BoolsV vs bs → BoolsV (.bool b :: vs) (b :: bs)
theorem BoolsV.get : ∀ {vs : List Value} {bs : List Bool}, BoolsV vs bs → ∀ (i : Nat) (v : Value), vs[i]? = some v → ∃ b, bs[i]? = some b ∧ v = .bool b := by
  intro vs bs h
  induction h with
  | nil => intro i v e; simp at e
  | cons b _ ih =>
    intro i v e
    cases i with
    | zero => simp at e; subst e; exact ⟨b, rfl, rfl⟩
    | succ i => simpa using ih i v (by simpa using e)
theorem BoolsV.len : ∀ {vs : List Value} {bs : List Bool}, BoolsV vs bs → vs.length = bs.length := by
  intro vs bs h
  induction h with
  | nil => rfl
  | cons b _ ih => simp [ih]
end
end Mi
set_option Elab.async false
set_option linter.all false
set_option autoImplicit false
set_option maxRecDepth 100000
set_option maxHeartbeats 4000000
set_option Elab.async false
set_option linter.all false
set_option autoImplicit false
set_option maxRecDepth 100000
set_option maxHeartbeats 4000000
namespace Mi
open PySem PySem.Spec PyProof.Rows L2
def insI (x : Int) : List Int → List Int
  | [] => [x]
  | y :: r => if x ≤ y then x :: y :: r else y :: insI x r
def sortL : List Int → List Int
  | [] => []
  | x :: r => insI x (sortL r)
def intsP : List PV → Option (List Int)
  | [] => some []
  | .int b :: r => (intsP r).map (b :: ·)
  | _ => none
def bSorted : List PV → R PV
  | [.lst l] => (match intsP l with
    | some ns => if ns.length < 64 then .ok (.lst ((sortL ns).map PV.int)) else .stuck
    | none => .stuck)
  | _ => .stuck
theorem insI_perm (x : Int) : ∀ l : List Int, (insI x l).Perm (x :: l)
  | [] => .refl _
  | y :: r => by
    show (if x ≤ y then x :: y :: r else y :: insI x r).Perm _
    split
    · exact .refl _
    · exact ((insI_perm x r).cons y).trans (.swap x y r)
theorem sortL_perm : ∀ l : List Int, (sortL l).Perm l
  | [] => .refl _
  | x :: r => (insI_perm x (sortL r)).trans ((sortL_perm r).cons x)
theorem insI_pw (x : Int) : ∀ l : List Int, l.Pairwise (· ≤ ·) → (insI x l).Pairwise (· ≤ ·)
  | [], _ => List.pairwise_singleton _ _
  | y :: r, h => by
    obtain ⟨h1, h2⟩ := List.pairwise_cons.mp h
    show (if x ≤ y then x :: y :: r else y :: insI x r).Pairwise _
    split
    · next c =>
      refine List.pairwise_cons.mpr ⟨fun z hz => ?_, h⟩
      rcases List.mem_cons.mp hz with rfl | hz
      · exact c
      · have := h1 z hz; omega
    · next c =>
      refine List.pairwise_cons.mpr ⟨fun z hz => ?_, insI_pw x r h2⟩
      rcases List.mem_cons.mp ((insI_perm x r).mem_iff.mp hz) with rfl | hz
      · omega
      · exact h1 z hz
theorem sortL_pw : ∀ l : List Int, (sortL l).Pairwise (· ≤ ·)
  | [] => .nil
  | x :: r => insI_pw x _ (sortL_pw r)
theorem pw_unique : ∀ {a b : List Int}, a.Perm b → a.Pairwise (· ≤ ·) → b.Pairwise (· ≤ ·) → a = b
  | [], b, p, _, _ => (List.Perm.nil_eq p)
  | x :: a, [], p, _, _ => absurd p.length_eq (by simp)
  | x :: a, y :: b, p, h1, h2 => by
    obtain ⟨a1, a2⟩ := List.pairwise_cons.mp h1
    obtain ⟨b1, b2⟩ := List.pairwise_cons.mp h2
    have e : x = y := by
      have c1 : x ∈ y :: b := p.mem_iff.mp List.mem_cons_self
      have c2 : y ∈ x :: a := p.mem_iff.mpr List.mem_cons_self
      rcases List.mem_cons.mp c1 with c1 | c1
      · exact c1
      · rcases List.mem_cons.mp c2 with c2 | c2
        · exact c2.symm
        · have := b1 x c1; have := a1 y c2; omega
    subst e
    rw [pw_unique (List.perm_cons x |>.mp p) a2 b2]
section
variable {X : Cx} {cl : Nat → Addr} {pins : List (Addr × Obj)} {s : Shared} {σ : SV} {Hf0 H0 Hf H Hf1 H1 : Hp} {ρ : MEnv} {α : Type}
theorem ints_vals : ∀ {l : List PV} {bs : List Int} {vs : List V} {us : List Value}, intsP l = some bs → Rps X.K cl Hf vs l → Vals vs us → IntsAre us bs
  | [], bs, vs, us, h, r, w => by
    cases r; cases w
    cases h
    exact .nil
  | p :: l, bs, vs, us, h, r, w => by
    cases r with
    | cons r1 r2 =>
      cases w with
      | cons w1 w2 =>
        cases p <;> first | (simp [intsP] at h; done) | skip
        cases r1
        obtain ⟨t, rfl⟩ := w1
        simp only [intsP, Option.map_eq_some_iff] at h
        obtain ⟨ts', h1, rfl⟩ := h
        exact .cons _ _ (ints_vals h1 r2 w2)
theorem vals_ints : ∀ {us : List Value} {ns : List Int}, IntsAre us ns → Vals (ns.map V.int) us := by
  intro us ns h
  induction h with
  | nil => exact .nil
  | cons n t _ ih => exact .cons ⟨t, rfl⟩ ih
theorem rps_ints (K : PySem.W.Frag) (Hf : Hp) : ∀ ns : List Int, Rps K cl Hf (ns.map V.int) (ns.map PV.int)
  | [] => .nil
  | _ :: r => .cons (.int _) (rps_ints K Hf r)
theorem bSorted_ns {ps : List PV} (hs : bSorted ps ≠ .stuck) : ∃ l ns, ps = [.lst l] ∧ intsP l = some ns ∧ ns.length < 64 ∧ bSorted ps = .ok (.lst ((sortL ns).map PV.int)) := by
  unfold bSorted at hs ⊢
  split at hs
  · next l =>
    split at hs
    · next ns e =>
      obtain ⟨h1, h2⟩ := ifOk hs
      exact ⟨l, ns, rfl, e, h1, by simp only [e, h1, if_true]⟩
    · exact absurd rfl hs
  · exact absurd rfl hs
theorem c_sorted : CalR X cl (.builtin "sorted") bSorted := by
  intro pins s σ Hf H xs us ps I sm rv rps hs
  obtain ⟨l, ns, rfl, e1, e2, e3⟩ := bSorted_ns hs
  rw [e3]
  obtain ⟨v, rfl, rp⟩ := rps1' rps
  cases rp with
  | lst h r =>
    obtain ⟨u, rfl, ru⟩ := rv.one
    cases ru
    obtain ⟨its, wl, pl, z⟩ := I.list (sm.seq h)
    have hi := ints_vals e1 r wl
    have hlen : its.length = ns.length := by
      have : ∀ {us : List Value} {ns : List Int}, IntsAre us ns → us.length = ns.length := by
        intro us ns h
        induction h with
        | nil => rfl
        | cons n t _ ih => simp [ih]
      exact this hi
    refine sorted_ints pl.isList hi (by omega) fun out ns' a1 a2 a3 => ?_
    have es : ns' = sortL ns := pw_unique (a2.trans (sortL_perm ns).symm) a3 (sortL_pw ns)
    subst es
    obtain ⟨e, he⟩ := sortedAll_at s.heap its out
    have hn : H (s.heap.objs.size + 1) = none := I.hok.fresh (Nat.le_succ _)
    have hz : ((sortL ns).map V.int).length ≤ sizeLine := by
      rw [List.length_map, (sortL_perm ns).length_eq]
      exact Nat.le_trans (Nat.le_of_lt e2) (by rw [sizeLine_eq]; decide)
    have I' : Inv X pins σ (upd H (s.heap.objs.size + 1) (.lst ((sortL ns).map V.int))) { s with heap := sortedAll s.heap its out, toks := s.toks } :=
      I.laid (fun b o q => sortedAll_old q) (Nat.le_succ _) ⟨hz, out.toList, e, vals_ints a1, by simpa [seqObj] using he⟩
    exact ⟨_, .ref _, _, _, rfl, I', rfl, Ext.new sm hn _, .lst (SqL.of upd_same) (rps_ints _ _ _)⟩
end
end Mi
set_option Elab.async false
set_option linter.all false
set_option autoImplicit false
set_option maxRecDepth 100000
set_option maxHeartbeats 4000000
set_option Elab.async false
set_option linter.all false
set_option autoImplicit false
set_option maxRecDepth 100000
set_option maxHeartbeats 4000000
namespace Mi
open PySem PySem.Spec PyProof.Rows L2
/-- list(reversed(x)) -/
def bRev : List PV → R PV
  | [.lst l] => .ok (.lst l.reverse)
  | _ => .stuck
section
variable {X : Cx} {cl : Nat → Addr} {pins : List (Addr × Obj)} {s : Shared} {σ : SV} {Hf0 H0 Hf H Hf1 H1 : Hp} {ρ : MEnv} {α : Type}
/-- the same frame under another surrounding -/
def Cx.at (X : Cx) (A : Around) : Cx := { X with A := A, calm := false }
theorem Inv.at {A : Around} (I : Inv X pins σ H s) (hf : A.frames = X.A.frames) : Inv (Cx.at X A) pins σ H s :=
  ⟨⟨I.ok.mod, I.ok.kind, I.ok.glob, I.ok.blt, I.ok.above, I.ok.inj, I.ok.has, I.ok.cab, (fun z => by cases z), hf.trans I.ok.frames, I.ok.stk, I.ok.exf, I.ok.bs, I.ok.bsz, I.ok.noex, I.ok.exfs, I.ok.funs, I.ok.frf⟩, I.os, I.bare, I.base, I.loc, I.cell, I.free, I.freeC, I.pin, I.hok, I.len⟩
theorem Inv.back {A : Around} {pins' : List (Addr × Obj)} {σ' : SV} {H' : Hp} {s' : Shared} (ok : X.Ok) (I : Inv (Cx.at X A) pins' σ' H' s') : Inv X pins' σ' H' s' :=
  ⟨ok, I.os, I.bare, I.base, I.loc, I.cell, I.free, I.freeC, I.pin, I.hok, I.len⟩
end
end Mi
set_option Elab.async false
set_option linter.all false
set_option autoImplicit false
set_option maxRecDepth 100000
set_option maxHeartbeats 4000000
namespace Mi
open PySem PySem.Spec PyProof.Rows L2
mutual
/-- no list of this length within -/
def chk (n : Nat) : PV → Bool
  | .lst l => decide (l.length ≠ n) && chks n l
  | .tup l => chks n l
  | .own _ => false
  | _ => true
def chks (n : Nat) : List PV → Bool
  | [] => true
  | p :: r => chk n p && chks n r
end
def fLend (i : Nat) (fe : FE) : FE := fun ρ => match ρ[i]? with
  | some (some (.own ps)) => (match fe (ρ.set i (some (.lst ps))) with
    | .ok p => if chk ps.length p then .ok p else .stuck
    | _ => .stuck)
  | _ => fe ρ
def tLend (i : Nat) (ft : FT) : FT := fun ρ => match ρ[i]? with
  | some (some (.own ps)) => (match ft (ρ.set i (some (.lst ps))) with
    | .ok b => .ok b
    | _ => .stuck)
  | _ => ft ρ
section
variable {K : PySem.W.Frag} {cl : Nat → Addr} {Hf0 H0 Hf H Hf' H' : Hp} {σ : SV} {ρ : MEnv}
/-- the frozen heap without one list -/
def less (Hf : Hp) (a : Addr) : Hp := fun b => if b = a then none else Hf b
theorem less_ne {a b : Addr} (h : b ≠ a) : less Hf a b = Hf b := if_neg h
theorem less_at {a : Addr} : less Hf a a = none := if_pos rfl
theorem sqT_less {a b : Addr} {xs ys : List V} (ha : Hf a = some (.lst xs)) (h : SqT K Hf b ys) : SqT K (less Hf a) b ys := by
  by_cases e : b = a
  · subst e
    rcases h with (h | ⟨o, h⟩) | h
    · rw [ha] at h; cases h
    · rw [ha] at h; cases h
    · exact .inr h
  · rcases h with (h | ⟨o, h⟩) | h
    · exact .inl (.inl (by rw [less_ne e]; exact h))
    · exact .inl (.inr ⟨o, by rw [less_ne e]; exact h⟩)
    · exact .inr h
theorem sqL_less {a b : Addr} {xs ys : List V} (ha : Hf a = some (.lst xs)) (h : SqL K Hf b ys) : SqL K (less Hf a) b ys ∨ ys = xs := by
  by_cases e : b = a
  · subst e
    rcases h with (h | ⟨o, h⟩) | h
    · rw [ha] at h; cases h; exact .inr rfl
    · rw [ha] at h; cases h
    · exact .inl (.inr h)
  · left
    rcases h with (h | ⟨o, h⟩) | h
    · exact .inl (.inl (by rw [less_ne e]; exact h))
    · exact .inl (.inr ⟨o, by rw [less_ne e]; exact h⟩)
    · exact .inr h
mutual
theorem rp_less {a : Addr} {xs : List V} {n : Nat} (ha : Hf a = some (.lst xs)) (hn : xs.length = n) : ∀ {v : V} {p : PV}, Rp K cl Hf v p → chk n p = true → Rp K cl (less Hf a) v p
  | _, _, .non, _ => .non
  | _, _, .bl b, _ => .bl b
  | _, _, .int i, _ => .int i
  | _, _, .str x, _ => .str x
  | _, _, .tup h r, c => .tup (sqT_less ha h) (rps_less ha hn r (by simpa only [chk] using c))
  | _, _, .lst (ps := ps) h r, c => by
    have c' : (decide (ps.length ≠ n) && chks n ps) = true := by simpa only [chk] using c
    rw [Bool.and_eq_true] at c'
    rcases sqL_less ha h with z | z
    · exact .lst z (rps_less ha hn r c'.2)
    · exact absurd (by rw [← r.length, z]; exact hn) (of_decide_eq_true c'.1)
  | _, _, .exc (a := b) h, _ => .exc (by rw [less_ne (fun e => by rw [e, ha] at h; cases h)]; exact h)
  | _, _, .dic0 (a := b) h, _ => .dic0 (by rw [less_ne (fun e => by rw [e, ha] at h; cases h)]; exact h)
  | _, _, .ins (a := b) h, _ => .ins (by rw [less_ne (fun e => by rw [e, ha] at h; cases h)]; exact h)
theorem rps_less {a : Addr} {xs : List V} {n : Nat} (ha : Hf a = some (.lst xs)) (hn : xs.length = n) : ∀ {vs : List V} {ps : List PV}, Rps K cl Hf vs ps → chks n ps = true → Rps K cl (less Hf a) vs ps
  | _, _, .nil, _ => .nil
  | _, _, .cons (p := p) (ps := ps) r t, c => by
    have c' : (chk n p && chks n ps) = true := by simpa only [chks] using c
    rw [Bool.and_eq_true] at c'
    exact .cons (rp_less ha hn r c'.1) (rps_less ha hn t c'.2)
end
theorem Rep.lend (r : Rep K cl Hf0 H0 Hf H σ ρ) {i : Nat} {l : List PV} {a : Addr} {xs : List V} (h : ρ[i]? = some (some (.own l))) (hv : σ[i]? = some (some (.ref a))) (ha : H a = some (.lst xs)) (hfa : Hf a = none) (h0a : H0 a = none) (rps : Rps K cl Hf xs l) :
    Rep K cl Hf0 H0 (upd Hf a (.lst xs)) H σ (ρ.set i (some (.lst l))) := by
  have sm := same_upd hfa (.lst xs)
  have hi : i < ρ.length := (List.getElem?_eq_some_iff.mp h).1
  refine ⟨⟨r.ext.all, r.ext.frz.trans sm, fun b u q => ?_, fun b n => ?_⟩, fun j p hp => ?_, fun j k ps qs b h1 h2 h3 h4 => ?_⟩
  · by_cases e : b = a
    · subst e; rw [upd_same] at q; cases q; exact ha
    · rw [upd_ne e] at q; exact r.ext.sub b u q
  · rw [upd_ne (fun e => n (by rw [e]; exact h0a)), r.ext.old b n]
  · by_cases e : i = j
    · subst e
      rw [List.getElem?_set_self hi] at hp
      cases hp
      exact ⟨_, hv, .lst (SqL.of upd_same) (rps.keep sm)⟩
    · rw [List.getElem?_set_ne e] at hp
      obtain ⟨w, hw, sl⟩ := r.slot j p hp
      refine ⟨w, hw, ?_⟩
      cases p with
      | own qs =>
        obtain ⟨b, ys, rfl, h1, h2, h3, h4⟩ := sl
        have nb : b ≠ a := fun z => by subst z; exact e (r.dist i j _ _ _ h hp hv hw)
        exact ⟨b, ys, rfl, h1, by rw [upd_ne nb]; exact h2, h3, h4.keep sm⟩
      | _ => exact Rp.keep sm sl
  · have back : ∀ {m : Nat} {l' : List PV}, (ρ.set i (some (.lst l)))[m]? = some (some (.own l')) → ρ[m]? = some (some (.own l')) := fun {m l'} hm => by
      by_cases e : i = m
      · subst e; rw [List.getElem?_set_self hi] at hm; cases hm
      · rw [List.getElem?_set_ne e] at hm; exact hm
    exact r.dist j k ps qs b (back h1) (back h2) h3 h4
theorem ext_less {a : Addr} {xs : List V} {Hf2 H2 : Hp} (hf : Hf a = none) (x : Ext (upd Hf a (.lst xs)) H Hf2 H2) : Ext Hf H (less Hf2 a) H2 := by
  refine ⟨x.all, fun b o q => ?_, fun b o q => ?_, fun b n => ?_⟩
  · have e : b ≠ a := fun z => by rw [z, hf] at q; cases q
    rw [less_ne e]
    exact x.frz b o (by rw [upd_ne e]; exact q)
  · by_cases e : b = a
    · subst e; rw [less_at] at q; cases q
    · rw [less_ne e] at q; exact x.sub b o q
  · by_cases e : b = a
    · subst e; rw [less_at, hf]
    · rw [less_ne e, x.old b n, upd_ne e]
end
section
variable {X : Cx} {cl : Nat → Addr}
theorem me_lend {i : Nat} {e : Expr} {fe : FE} (he : ME X cl e fe) : ME X cl e (fLend i fe) := by
  refine ⟨?_⟩
  intro pins s σ Hf0 H0 Hf H ρ I r hs
  by_cases hc : ∃ ps, ρ[i]? = some (some (.own ps))
  · obtain ⟨ps, hi⟩ := hc
    have e0 : fLend i fe ρ = (match fe (ρ.set i (some (.lst ps))) with
      | .ok p => if chk ps.length p then .ok p else .stuck
      | _ => .stuck) := by unfold fLend; rw [hi]
    rw [e0] at hs ⊢
    obtain ⟨p, ep⟩ : ∃ p, fe (ρ.set i (some (.lst ps))) = .ok p := by
      cases q : fe (ρ.set i (some (.lst ps))) with
      | ok p => exact ⟨p, rfl⟩
      | exc _ => rw [q] at hs; exact absurd rfl hs
      | stuck => rw [q] at hs; exact absurd rfl hs
    rw [ep] at hs ⊢
    have hs' : (if chk ps.length p = true then R.ok p else R.stuck) ≠ .stuck := hs
    obtain ⟨hk, e2⟩ := ifOk hs'
    show wpAny _ _ _ (OkP X cl pins σ Hf H (if chk ps.length p = true then R.ok p else R.stuck)) (ExP X cl pins σ Hf H (if chk ps.length p = true then R.ok p else R.stuck)) s
    rw [e2]
    obtain ⟨v, hv, a, xs, rfl, ha, hfa, h0a, rps⟩ := r.slot i _ hi
    have r' := r.lend hi hv ha hfa h0a rps
    refine wpAny_mono (he.run' pins s σ Hf0 H0 _ H _ I r' (by rw [ep]; intro z; cases z)) (fun u s1 q => ?_) fun u s1 q => ?_
    · rw [ep] at q
      obtain ⟨p', v', Hf2, H2, e3, I2, rv, x2, rp⟩ := q
      cases e3
      exact ⟨p, v', less Hf2 a, H2, rfl, I2, rv, ext_less hfa x2, rp_less (x2.frz a _ upd_same) rps.length rp hk⟩
    · rw [ep] at q
      obtain ⟨c, e3, _⟩ := q
      cases e3
  · have e0 : fLend i fe ρ = fe ρ := by
      unfold fLend
      split
      · next ps h => exact absurd ⟨ps, h⟩ hc
      · rfl
    rw [e0] at hs ⊢
    exact he.run' pins s σ Hf0 H0 Hf H ρ I r hs
theorem mt_lend {i : Nat} {e : Expr} {ft : FT} (he : MT X cl e ft) : MT X cl e (tLend i ft) := by
  refine ⟨?_⟩
  intro pins s σ Hf0 H0 Hf H ρ I r hs
  by_cases hc : ∃ ps, ρ[i]? = some (some (.own ps))
  · obtain ⟨ps, hi⟩ := hc
    have e0 : tLend i ft ρ = (match ft (ρ.set i (some (.lst ps))) with
      | .ok b => .ok b
      | _ => .stuck) := by unfold tLend; rw [hi]
    rw [e0] at hs ⊢
    obtain ⟨p, ep⟩ : ∃ p, ft (ρ.set i (some (.lst ps))) = .ok p := by
      cases q : ft (ρ.set i (some (.lst ps))) with
      | ok p => exact ⟨p, rfl⟩
      | exc _ => rw [q] at hs; exact absurd rfl hs
      | stuck => rw [q] at hs; exact absurd rfl hs
    rw [ep]
    obtain ⟨v, hv, a, xs, rfl, ha, hfa, h0a, rps⟩ := r.slot i _ hi
    have r' := r.lend hi hv ha hfa h0a rps
    refine wpAny_mono (he.run' pins s σ Hf0 H0 _ H _ I r' (by rw [ep]; intro z; cases z)) (fun u s1 q => ?_) fun u s1 q => ?_
    · rw [ep] at q
      obtain ⟨Hf2, H2, e3, I2, x2⟩ := q
      exact ⟨less Hf2 a, H2, e3, I2, ext_less hfa x2⟩
    · rw [ep] at q
      obtain ⟨c, e3, _⟩ := q
      cases e3
  · have e0 : tLend i ft ρ = ft ρ := by
      unfold tLend
      split
      · next ps h => exact absurd ⟨ps, h⟩ hc
      · rfl
    rw [e0] at hs ⊢
    exact he.run' pins s σ Hf0 H0 Hf H ρ I r hs
end
end Mi
set_option Elab.async false
set_option linter.all false
set_option autoImplicit false
set_option maxRecDepth 100000
set_option maxHeartbeats 4000000
namespace Mi
open PySem PySem.Spec PyProof.Rows L2
theorem lri_no_len : typeLookup (.type "list_reverseiterator") "__len__" = pure none := by rw [typeLookup_type, builtinLookup_eq_fast]; kernel_rfl
theorem lri_hint : typeLookup (.type "list_reverseiterator") "__length_hint__" = pure (some (.builtin "list_reverseiterator.__length_hint__")) := by rw [typeLookup_type, builtinLookup_eq_fast]; kernel_rfl
theorem lri_self : isSubtype (.type "list_reverseiterator") (.type "list_reverseiterator") = pure true := by rw [isSubtype_type]; kernel_rfl
section
variable {prog : Program} {w : World} {A : Around} {E : Value → Shared → Prop} {s : Shared}
theorem extend_rev {R : Result → Shared → Prop} {I l : Addr} {items : Array Value} (hh : A.handled = none) (hne : l ≠ I) (S : Addr) (res : Value) (c₀ : Nat) (hit : s.heap.IsRevIter I l ((items.size : Int) - 1)) (hl : s.heap.IsList l items) (hSI : S ≠ I) (hSl : S ≠ l)
    (hS : s.heap.get? S = some { cls := .type "list", data := .seq #[] c₀ })
    (hR : ∀ s' acc' c', Moved (S :: [I]) (fun a b => b = a) s s' → s'.heap.get? S = some { cls := .type "list", dict := none, data := .seq acc' c', slots := #[] } → ItemsOf (fun i v => items[items.size - 1 - i]? = some v) acc' items.size → R (.ok (.ret res)) s') (hn : items.size ≤ sizeLine) :
    wpAny (model prog w) A.in1 (Builtin.List.listExtendWith (.ref S) (.ref I) res)
      (fun fin s' => match fin with | .done f => R (.ok f) s' | .again c' => c'.quiet = true ∧ codeAny (model prog w) A c' R s') (fun e s' => R (.error e) s') s := by
  have W := (Walks.listRev (prog := prog) (w := w) (A := A.in1) hh I l hne items).toS
  have hT := hit.typeIs
  have hSf : S ∉ [I, l] := fun hm => by
    rcases List.mem_cons.mp hm with e | e
    · exact hSI e
    · exact hSl (List.mem_singleton.mp e)
  unfold Builtin.List.listExtendWith
  refine wpAny_bind (wpAny_typeOf hT ?_)
  have h1 : Builtin.List.listSameRef (.ref S) (.ref I) = false := by simp [Builtin.List.listSameRef, hSI]
  have h2 : (Value.type "list_reverseiterator" == Value.type "list") = false := by decide
  have h3 : (Value.type "list_reverseiterator" == Value.type "tuple") = false := by decide
  simp only [h1, h2, h3, Bool.or_false, Bool.false_eq_true, if_false]
  refine wpAny_bind (wpAny_pyIter_revIter hit ?_)
  refine wpAny_bind (wpAny_holding ?_)
  unfold Builtin.List.listLengthHint
  refine wpAny_bind (wpAny_specialOf hT lri_no_len ?_)
  show wpAny _ A.in1 (specialOf (Value.ref I) (Str.ofString "__length_hint__") >>= _) _ _ _
  refine wpAny_bind (wpAny_specialOf hT lri_hint ?_)
  wp_delta
  refine wpAny_bind (wpAny_isInstance hT lri_self ?_)
  try dsimp only
  rw [if_neg (by decide)]
  try dsimp only
  rw [if_pos (by first | rfl | decide +kernel)]
  try dsimp only
  rw [if_neg (by decide)]
  refine wpAny_pure ?_
  rw [if_neg (by decide)]
  have hst : (0 ≤ items.size ∧ s.heap.IsRevIter I l ((items.size : Int) - 1 - ((0 : Nat) : Int)) ∧ s.heap.IsList l items) := ⟨Nat.zero_le _, by rw [show (items.size : Int) - 1 - ((0 : Nat) : Int) = (items.size : Int) - 1 by omega]; exact hit, hl⟩
  exact wpAny_pure ⟨plainId_quiet F.plain_extend_loop _, codeAny_extend_loopS W hn _ hSf _ items.size 0 _ _ _ rfl (Nat.zero_le _) hst hS (ItemsOf.nil _) fun s' acc' c' hm hS' hacc => hR s' acc' c' hm hS' hacc⟩
theorem init_rev {R : Result → Shared → Prop} {I l : Addr} {items : Array Value} (hh : A.handled = none) (hne : l ≠ I) (S : Addr) (hit : s.heap.IsRevIter I l ((items.size : Int) - 1)) (hl : s.heap.IsList l items) (hSI : S ≠ I) (hSl : S ≠ l)
    (hS : s.heap.get? S = some { cls := .type "list", data := .seq #[] })
    (hR : ∀ s' acc' c', Moved (S :: [I]) (fun a b => b = a) s s' → s'.heap.get? S = some { cls := .type "list", dict := none, data := .seq acc' c', slots := #[] } → ItemsOf (fun i v => items[items.size - 1 - i]? = some v) acc' items.size → R (.ok (.ret .none)) s') (hn : items.size ≤ sizeLine) :
    wpAny (model prog w) A.in1 (Builtin.«list.__init__» ⟨[.ref S, .ref I], []⟩)
      (fun fin s' => match fin with | .done f => R (.ok f) s' | .again c' => c'.quiet = true ∧ codeAny (model prog w) A c' R s') (fun e s' => R (.error e) s') s := by
  show wpAny _ _ (do let old ← Builtin.List.listItems (.ref S); Builtin.List.listUpdate (.ref S) (fun _ => #[]); letGo old.toList.reverse; Builtin.List.listExtendWith (.ref S) (.ref I) .none) _ _ s
  refine wpAny_bind ?_
  unfold Builtin.List.listItems
  refine wpAny_bind (wpAny_seqItems hS rfl (wpAny_pure ?_))
  show wpAny _ _ (updateSeq S (fun _ => #[]) >>= fun _ => letGo (#[] : Array Value).toList.reverse >>= fun _ => Builtin.List.listExtendWith (.ref S) (.ref I) .none) _ _ s
  refine wpAny_bind (wpAny_updateSeq hS rfl ?_)
  have hS₂ := Heap.get?_update_self (Obj.mapSeq (fun _ => (#[] : Array Value))) hS rfl
  have oth : ∀ b o, b ≠ S → s.heap.get? b = some o → (s.heap.update S (Obj.mapSeq (fun _ => (#[] : Array Value)))).get? b = some o :=
    fun b o hb e => (Heap.get?_update_other _ _ (Ne.symm hb)).trans e
  refine wpAny_bind (wpAny_letGo ?_)
  refine extend_rev (hn := hn) hh hne S .none _ (hit.at fun o e => oth I o (Ne.symm hSI) e) (hl.at fun o e => oth l o (Ne.symm hSl) e) hSI hSl hS₂ fun s' acc' c' hm hS' hacc => ?_
  have m0 : Moved (S :: [I]) (fun (a b : Array GenState) => b = a) s s := Moved.refl (fun _ => rfl)
  exact hR s' acc' c' (Moved.trans (G := fun (a b : Array GenState) => b = a) (fun _ _ _ h1 h2 => h2.trans h1) (m0.then_heap (Nat.le_refl _) fun b o hb e => oth b o (fun h => hb (h ▸ List.mem_cons_self)) e) hm) hS' hacc
theorem call_list_rev {Q : Value → Shared → Prop} {I l : Addr} {items : Array Value} (hh : A.handled = none) (hne : l ≠ I) (hit : s.heap.IsRevIter I l ((items.size : Int) - 1)) (hl : s.heap.IsList l items)
    (hQ : ∀ s' acc' c', Moved (s.heap.objs.size :: [I]) (fun a b => b = a) { s with heap := s.heap.push { cls := .type "list", data := .seq #[] } } s' →
      s'.heap.get? s.heap.objs.size = some { cls := .type "list", dict := none, data := .seq acc' c', slots := #[] } → ItemsOf (fun i v => items[items.size - 1 - i]? = some v) acc' items.size → Q (.ref s.heap.objs.size) s') (hn : items.size ≤ sizeLine) :
    wpAny (model prog w) A (call (.type "list") [.ref I]) Q E s := by
  have hI : I < s.heap.objs.size := by obtain ⟨_, e, _⟩ := hit; exact Heap.lt_size e
  have hL : l < s.heap.objs.size := by obtain ⟨_, e, _⟩ := hl; exact Heap.lt_size e
  refine callType_codes (Q₁ := fun obj s₁ => obj = .ref s.heap.objs.size ∧ s₁ = { s with heap := s.heap.push { cls := .type "list", data := .seq #[] } }) F.called_list (F.typeCall_list_1 _) F.entry_list_init
    (code_list_new _ ⟨rfl, rfl⟩) fun obj s₁ h₁ => ?_
  obtain ⟨rfl, rfl⟩ := h₁
  have hS : (s.heap.push { cls := .type "list", data := .seq #[] }).get? s.heap.objs.size = some { cls := .type "list", data := .seq #[] } := Heap.get?_push_size _ rfl
  refine ⟨⟨_, hS, rfl⟩, F.args_list_init_2 _ _, init_rev (A := A.in1) (hn := hn) hh hne _ (hit.at fun o e => Heap.get?_push_of_some _ e) (hl.push _) (Nat.ne_of_gt hI) (Nat.ne_of_gt hL) hS fun s' acc' c' hm hS' hacc => ?_⟩
  exact ⟨rfl, hQ s' acc' c' hm hS' hacc⟩
end
theorem rev_items {its : List Value} {acc : Array Value} (h : ItemsOf (fun i v => its.toArray[its.toArray.size - 1 - i]? = some v) acc its.toArray.size) : acc.toList = its.reverse := by
  obtain ⟨h1, h2⟩ := h
  apply List.ext_getElem?
  intro i
  by_cases hi : i < its.length
  · have a1 : i < acc.size := by rw [h1]; simpa using hi
    have a2 := h2 i acc[i] (by rw [Array.getElem?_eq_getElem a1])
    rw [List.getElem?_reverse hi, Array.getElem?_toList, Array.getElem?_eq_getElem a1]
    simp only [List.size_toArray, List.getElem?_toArray] at a2
    exact a2.symm
  · have h3 : acc.toList.length = its.length := by simpa using h1
    rw [List.getElem?_eq_none (l := acc.toList) (by omega), List.getElem?_eq_none (by rw [List.length_reverse]; omega)]
section
variable {X : Cx} {cl : Nat → Addr} {pins : List (Addr × Obj)} {s : Shared} {σ : SV} {Hf0 H0 Hf H Hf1 H1 : Hp} {ρ : MEnv}
theorem bRev_ns {ps : List PV} (hs : bRev ps ≠ .stuck) : ∃ l, ps = [.lst l] := by
  unfold bRev at hs
  split at hs
  · exact ⟨_, rfl⟩
  · exact absurd rfl hs
theorem vals_rev : ∀ {vs : List V} {us : List Value}, Vals vs us → Vals vs.reverse us.reverse
  | [], _, h => by cases h; exact .nil
  | v :: r, _, .cons a b => by
    rw [List.reverse_cons, List.reverse_cons]
    exact (vals_rev b).append (.cons a .nil)
theorem rps_rev {K : PySem.W.Frag} : ∀ {vs : List V} {ps : List PV}, Rps K cl Hf vs ps → Rps K cl Hf vs.reverse ps.reverse
  | [], _, .nil => .nil
  | v :: r, _, .cons a b => by
    rw [List.reverse_cons, List.reverse_cons]
    exact (rps_rev b).append (.cons a .nil)
theorem me_revl {e : Expr} {g : FA} {p1 p2 pos1 pos2 : Pos} (hc : X.calm = true) (hg : Gl X "list") (hm : X.mg "list" = none) (hv : bootBuiltins "list" = some (.type "list")) (hg2 : Gl X "reversed") (hm2 : X.mg "reversed" = none) (hv2 : bootBuiltins "reversed" = some (.type "reversed")) (ha : MA X cl [e] g)
    (he : starEach [.Call (.Name "reversed" p2) [e] [] pos2] X.env = (false, eval (.Call (.Name "reversed" p2) [e] [] pos2) X.env) :: starEach [] X.env := by rfl) (hpl : (backTo pos1 (starEach [] X.env)).any (·.1) = false := by rfl)
    (he2 : starEach [e] X.env = (false, eval e X.env) :: starEach [] X.env := by rfl) (hpl2 : (backTo pos2 (starEach [] X.env)).any (·.1) = false := by rfl) :
    ME X cl (.Call (.Name "list" p1) [.Call (.Name "reversed" p2) [e] [] pos2] [] pos1) (fCall bRev g) := by
  refine ⟨?_⟩
  intro pins s σ Hf0 H0 Hf H ρ I r hs
  unfold fCall at hs ⊢
  refine wpAny_Call_Name_kw (ld_blt I hg hm hv ?_ (by decide) (by decide))
  refine PyProof.Rows.callWith_type1 ?_ he hpl
  rw [he]
  show wpAny _ _ (spliced ((false, eval (.Call (.Name "reversed" p2) [e] [] pos2) X.env) :: [])) _ _ s
  refine Calls.spliced_cons ?_
  refine wpAny_Call_Name_kw (ld_blt I hg2 hm2 hv2 ?_ (by decide) (by decide))
  refine PyProof.Rows.callWith_type1 (ha.run pos2 I r (Ext.refl r.sub) hs fun qs vs us s1 Hf1 H1 _ e1 I1 rv x1 rps => ?_) he2 hpl2
  rw [e1] at hs ⊢
  obtain ⟨l, rfl⟩ := bRev_ns hs
  obtain ⟨v, rfl, rp⟩ := rps1' rps
  cases rp with
  | lst h rr =>
    rename_i a xs
    obtain ⟨u, rfl, ru⟩ := rv.one
    cases ru
    obtain ⟨its, wl, pl, z⟩ := I1.list (x1.sub.seq h)
    have hl := pl.isList
    have hz : its.toArray.size ≤ sizeLine := by rw [List.size_toArray, ← wl.length]; exact z
    have hlt : a < s1.heap.objs.size := by obtain ⟨_, e, _⟩ := hl; exact Heap.lt_size e
    refine call_reversed_list hl ?_
    refine Calls.spliced_nil ?_
    refine call_list_rev (items := its.toArray) (l := a) (I.ok.hd hc) (Nat.ne_of_lt hlt) ⟨_, Heap.get?_push_size _ rfl, rfl, rfl⟩ (hl.push _) (fun s' acc' c' hmv hS' hacc => ?_) hz
    have ea := rev_items hacc
    rw [Moved.eq_with hmv]
    have kp : ∀ b o, s1.heap.get? b = some o → s'.heap.get? b = some o := fun b o q => by
      have hb := Heap.lt_size q
      refine hmv.heap b o (fun hmem => ?_) (Heap.get?_push_of_some _ (Heap.get?_push_of_some _ q))
      rcases List.mem_cons.mp hmem with z1 | z1
      · rw [z1, Heap.size_push] at hb; exact absurd (Nat.lt_of_succ_lt hb) (Nat.lt_irrefl _)
      · rw [List.mem_singleton.mp z1] at hb; exact absurd hb (Nat.lt_irrefl _)
    have hp : s1.heap.objs.size ≤ (s1.heap.push (revObj a ((its.toArray.size : Int) - 1))).objs.size := by rw [Heap.size_push]; omega
    have new : ObjOk X.prog X.w (upd H1 (s1.heap.push (revObj a ((its.toArray.size : Int) - 1))).objs.size (.lst xs.reverse)) s'.heap (s1.heap.push (revObj a ((its.toArray.size : Int) - 1))).objs.size (.lst xs.reverse) :=
      ⟨by rw [List.length_reverse]; exact z, its.reverse, c', vals_rev wl, by rw [hS', ← ea]⟩
    have hq : H1 (s1.heap.push (revObj a ((its.toArray.size : Int) - 1))).objs.size = none := I1.hok.fresh hp
    exact OkP.from (e0 := x1) ⟨_, .ref _, _, _, rfl, I1.laid (t' := s'.toks) kp hp new, rfl, Ext.new x1.sub hq _, .lst (SqL.of upd_same) ((rps_rev rr).keep (same_upd (x1.sub.free hq) _))⟩
end
end Mi
set_option Elab.async false
set_option linter.all false
set_option autoImplicit false
set_option maxRecDepth 100000
set_option maxHeartbeats 4000000
set_option Elab.async false
set_option linter.all false
set_option autoImplicit false
set_option maxRecDepth 100000
set_option maxHeartbeats 4000000
namespace Mi
open PySem PySem.Spec PyProof.Rows L2
section
variable (X : Cx) (cl : Nat → Addr)
def OkO (pins : List (Addr × Obj)) (Hf0 H0 Hg : Hp) (r : SR) (f : Flow) (s : Shared) : Prop := match f with
  | .ret u => ∃ ps a xs σ Hf H, r = .ret (.lst ps) ∧ Inv X pins σ H s ∧ u = .ref a ∧ Ext Hf0 H0 Hf H ∧ H a = some (.lst xs) ∧ Hf a = none ∧ H0 a = none ∧ Rps X.K cl Hf xs ps
  | o => OkS X cl pins Hf0 H0 Hg r o s
end
section
variable {X : Cx} {cl : Nat → Addr}
theorem OkO.from {pins : List (Addr × Obj)} {Hf0 H0 Hg Hg' : Hp} {r : SR} {fl : Flow} {s' : Shared} (g : Same Hg Hg') (h : OkO X cl pins Hf0 H0 Hg' r fl s') : OkO X cl pins Hf0 H0 Hg r fl s' := by
  cases fl with
  | ret u => exact h
  | next => exact OkS.from (fl := .next) g h
  | brk => exact OkS.from (fl := .brk) g h
  | cont => exact OkS.from (fl := .cont) g h
end
end Mi
set_option Elab.async false
set_option linter.all false
set_option autoImplicit false
set_option maxRecDepth 100000
set_option maxHeartbeats 4000000
set_option Elab.async false
set_option linter.all false
set_option autoImplicit false
set_option maxRecDepth 100000
set_option maxHeartbeats 4000000
namespace Mi
open PySem PySem.Spec PyProof.Rows L2
/-- a call that may raise, with arguments that may not -/
def fCallX (F : List PV → R PV) (g : FA) : FE := fun ρ => match g ρ with
  | .ok qs => F qs
  | _ => .stuck
def combX (qs : List PV) : R (List PV) → R (List PV)
  | .ok rest => .ok (qs ++ rest)
  | .exc c => .exc c
  | .stuck => .stuck
theorem combX_ns {qs : List PV} {T : R (List PV)} (h : combX qs T ≠ .stuck) : T ≠ .stuck := fun z => h (by rw [z]; rfl)
theorem combX_app (qs rs : List PV) (T : R (List PV)) : combX qs (combX rs T) = combX (qs ++ rs) T := by
  cases T with
  | ok r => show R.ok (qs ++ (rs ++ r)) = R.ok (qs ++ rs ++ r); rw [List.append_assoc]
  | exc c => rfl
  | stuck => rfl
theorem combX_nil (T : R (List PV)) : combX [] T = T := by cases T <;> rfl
theorem ff_less {h h' B B' : Heap} : ∀ {l : List Env}, h.FunFrames B l → (∀ b, B.get? b = none → B'.get? b = none) → (∀ b ∈ frs l, h'.get? b = h.get? b) → h'.FunFrames B' l
  | [], _, _, _ => trivial
  | env :: rest, ⟨a, ⟨L, o, e1, e2, e3, e4⟩, r⟩, k, g => by
    have hm : L ∈ frs (env :: rest) := by
      unfold frs
      rw [List.filterMap_cons, e1]; exact List.mem_cons_self
    refine ⟨a, ⟨L, o, e1, k L e2, (g L hm).trans e3, e4⟩, ff_less r k fun b hb => g b ?_⟩
    unfold frs at hb ⊢
    rw [List.filterMap_cons, e1]
    exact List.mem_cons_of_mem _ hb
theorem tr_less {h h' B B' : Heap} {e : Addr} {cls a0 fl : Value} (x : h.TracedAtW B e cls a0 fl) (k : ∀ b, B.get? b = none → B'.get? b = none) (g : ∀ b o, h.get? b = some o → (∃ vs, o.data = .fields vs) → h'.get? b = some o) : h'.TracedAtW B' e cls a0 fl := by
  obtain ⟨oe, vs, T, oT, ts, he, hc, hd, h1, hT, hne, gT, dT, h3⟩ := x
  exact ⟨oe, vs, T, oT, ts, g e oe he ⟨_, hd⟩, hc, hd, h1, k T hT, hne, g T oT gT ⟨_, dT⟩, dT, h3⟩
theorem hide1_none {B : Heap} {C b : Addr} (h : B.get? b = none) : (PySem.W.hideAll B [C]).get? b = none := by
  cases q : (PySem.W.hideAll B [C]).get? b with
  | none => rfl
  | some o => have := PySem.W.of_hideAll _ q; rw [h] at this; cases this
theorem held_hide {h B : Heap} {C e L : Addr} {l : List Env} {cls a0 : Value} (x : Heap.HeldW B l e cls a0 L h) : Heap.HeldW (PySem.W.hideAll B [C]) l e cls a0 L h := by
  obtain ⟨a, b, c, d⟩ := x
  exact ⟨fun b o q => a b o (PySem.W.of_hideAll _ q), hide1_none b, ff_less c (fun _ q => hide1_none q) fun _ _ => rfl, tr_less d (fun _ q => hide1_none q) fun _ _ q _ => q⟩
theorem held_go {h h' B : Heap} {C e L : Addr} {l : List Env} {cls a0 : Value} {m : Str → Option Value} (x : Heap.HeldW B l e cls a0 L h) (hB : B.get? C = none) (hl : C ∉ frs l) (hn : h.Ns C m) (hs : Heap.SameBut C h h') : Heap.HeldW B l e cls a0 L h' := by
  obtain ⟨a, b, c, d⟩ := x
  refine ⟨fun b o q => ?_, b, ff_less c (fun _ q => q) fun b hb => hs.2 b fun z => hl (by rw [← z]; exact hb), tr_less d (fun _ q => q) fun b o q ⟨vs, hv⟩ => ?_⟩
  · have hb : b ≠ C := fun z => by rw [z, hB] at q; cases q
    rw [hs.2 b hb]; exact a b o q
  · have hb : b ≠ C := fun z => by
      obtain ⟨o', es, ep, ho, hd, _⟩ := hn
      rw [z, ho] at q; cases q
      rw [hd] at hv; cases hv
    rw [hs.2 b hb]; exact q
section
variable (X : Cx) (cl : Nat → Addr)
def FlyX (pins : List (Addr × Obj)) (σ : SV) (Hf H : Hp) (r : R PV) (u : Value) (s : Shared) : Prop :=
  ∃ (c : Nat) (a : Addr) (Hf' H' : Hp) (B : Heap) (a0 : Value), r = .exc c ∧ u = .ref a ∧ Inv X pins σ H' s ∧ Ext Hf H Hf' H' ∧ Cov X pins H' B s.heap ∧ NoD a s.heap ∧ Heap.FlyingW B X.stack a (.ref (cl c)) a0 s.heap
structure MEX (e : Expr) (f : FE) : Prop where
  run : ∀ (pins : List (Addr × Obj)) (s : Shared) (σ : SV) (Hf0 H0 Hf H : Hp) (ρ : MEnv), Inv X pins σ H s → Rep X.K cl Hf0 H0 Hf H σ ρ → f ρ ≠ .stuck → (∀ b ∈ X.ex, ∃ p ∈ pins, p.1 = b) →
    wpAny (model X.prog X.w) X.A (eval e X.env) (OkP X cl pins σ Hf H (f ρ)) (FlyX X cl pins σ Hf H (f ρ)) s
end
section
variable {X : Cx} {cl : Nat → Addr}
theorem mcX {e : Expr} {es : List Expr} {g : FA} {x : Str} {p pos : Pos} {k k' n : Nat} {F : List PV → R PV} (hF : FG X.prog X.w X.K X.mg X.base cl k x n F) (hr : Room k' X.A) (inj : ∀ c d, cl c = cl d → c = d) (ha : MA X cl (e :: es) g) (hk : k ≤ k' := by decide) (hl : (e :: es).length = n := by rfl) (hg : Gl X x := by rfl)
    (hdb : (x == ("__debug__" : Str)) = false := by decide) (he : starEach (e :: es) X.env = (false, eval e X.env) :: starEach es X.env := by rfl) (hpl : (backTo pos (starEach es X.env)).any (·.1) = false := by rfl) :
    MEX X cl (.Call (.Name x p) (e :: es) [] pos) (fCallX F g) := by
  obtain ⟨f, fd, ps, hm, hkp, hn, hf, hb⟩ := hF.ex
  refine ⟨?_⟩
  intro pins s σ Hf0 H0 Hf H ρ I r hs hex
  obtain ⟨qs, eg, ef⟩ : ∃ qs, g ρ = .ok qs ∧ fCallX F g ρ = F qs := by
    unfold fCallX at hs ⊢
    cases q : g ρ with
    | ok qs => exact ⟨qs, rfl, rfl⟩
    | exc c => rw [q] at hs; exact absurd rfl hs
    | stuck => rw [q] at hs; exact absurd rfl hs
  rw [ef] at hs ⊢
  refine wpAny_Call_Name_kw (ld_glob I hg hm ?_ hdb)
  refine PySem.W.callWith_K (h₀ := X.base) I.ok.mod.kin hkp (wpAny_mono (ha.run' pos pins s σ Hf0 H0 Hf H ρ I r (by rw [eg]; intro z; cases z)) (fun us s1 q1 => ?_) fun u s1 q1 => ?_) he hpl
  rotate_left
  · obtain ⟨c, e1, _⟩ := q1
    rw [eg] at e1; cases e1
  obtain ⟨ps1, vs, Hf1, H1, e1, I1, rv, x1, rps⟩ := q1
  rw [eg] at e1; cases e1
  refine ⟨I1.kIn, ?_⟩
  have hq := ha.len ρ qs eg
  have hv : vs.length = n := by rw [rps.length, hq, hl]
  have hsp : spF X.K cl n F vs H1 (fun v H' => ∃ p Hf', F qs = .ok p ∧ Ext Hf1 H1 Hf' H' ∧ Rp X.K cl Hf' v p) (fun u o H' => ∃ c Hf', F qs = .exc c ∧ Ext Hf1 H1 Hf' H' ∧ u = .ref (cl c)) :=
    ⟨hv, Hf1, qs, x1.sub, rps, hs, fun p v Hf' H' a b c => ⟨p, Hf', a, b, c⟩, fun c Hf' H' a b => ⟨c, Hf', a, b, rfl⟩⟩
  have hlu : (us ++ []).length = ps.length := by rw [List.append_nil, ← rv.length, hv, hn]
  have hbb := hb s1 us I1.kIn hlu
  rw [List.append_nil] at hbb
  refine wpAny_call (codeAny_mono (hf.run X.A X.stack s1 H1 ⟨us, []⟩ us vs _ _ (hr.mono hk) I1.env0 hbb rv hsp) fun r s' hq' => ?_)
  cases r with
  | error e =>
    obtain ⟨a, c, H', B, a0, rfl, ho, hgg, un, hok, fl, cov, nd, c', Hf', e1, ex, e2⟩ := hq'
    have ec : c' = c := inj _ _ (by injection e2 with e2; exact e2.symm)
    subst ec
    refine ⟨c', a, Hf', H', B, a0, e1, rfl, I1.call' ho un hok hgg (fun b z => absurd z (by simp)), x1.trans ex, ?_, nd, fl⟩
    intro b o hb hc hn
    refine cov b o hb ?_ hn
    rcases hc with hc | ⟨p, hp, e⟩ | ⟨o₀, hc⟩ | ⟨x, hc⟩
    · exact .inl hc
    · right
      rw [← e]
      exact ⟨_, (I1.pin p hp).1⟩
    · right
      by_cases hx : b ∈ X.ex
      · obtain ⟨p, hp, e⟩ := hex b hx
        rw [← e]
        exact ⟨_, (I1.pin p (List.mem_append_right _ hp)).1⟩
      · exact I1.base.there b o₀ hc hx
    · right
      obtain ⟨v, o', q, _⟩ := I1.cell x b hc
      exact ⟨o', q⟩
  | ok fl =>
    cases fl with
    | ret u =>
      obtain ⟨v, H', I', rv', p, Hf', e2, ex, rp⟩ := I1.after hq'
      exact ⟨p, v, Hf', H', e2, I', rv', x1.trans ex, rp⟩
    | next => exact False.elim hq'
    | brk => exact False.elim hq'
    | cont => exact False.elim hq'
end
end Mi
set_option Elab.async false
set_option linter.all false
set_option autoImplicit false
set_option maxRecDepth 100000
set_option maxHeartbeats 4000000
set_option Elab.async false
set_option linter.all false
set_option autoImplicit false
set_option maxRecDepth 100000
set_option maxHeartbeats 4000000
set_option Elab.async false
set_option linter.all false
set_option autoImplicit false
set_option maxRecDepth 100000
set_option maxHeartbeats 4000000
set_option Elab.async false
set_option linter.all false
set_option autoImplicit false
set_option maxRecDepth 100000
set_option maxHeartbeats 4000000
set_option Elab.async false
set_option linter.all false
set_option autoImplicit false
set_option maxRecDepth 100000
set_option maxHeartbeats 4000000
set_option Elab.async false
set_option linter.all false
set_option autoImplicit false
set_option maxRecDepth 100000
set_option maxHeartbeats 4000000
set_option Elab.async false
set_option linter.all false
set_option autoImplicit false
set_option maxRecDepth 100000
set_option maxHeartbeats 4000000
set_option Elab.async false
set_option linter.all false
set_option autoImplicit false
set_option maxRecDepth 100000
set_option maxHeartbeats 4000000
set_option Elab.async false
set_option linter.all false
set_option autoImplicit false
set_option maxRecDepth 100000
set_option maxHeartbeats 4000000
set_option Elab.async false
set_option linter.all false
set_option autoImplicit false
set_option Elab.async false
set_option linter.all false
set_option autoImplicit false
set_option maxRecDepth 100000
set_option maxHeartbeats 4000000
set_option Elab.async false
set_option linter.all false
set_option autoImplicit false
set_option maxRecDepth 100000
set_option maxHeartbeats 4000000
set_option Elab.async false
set_option linter.all false
set_option autoImplicit false
set_option maxRecDepth 100000
set_option maxHeartbeats 4000000
namespace Mi
open PySem PySem.Spec PyProof.Rows L2
section
variable {P : Program} {w : World} {K : PySem.W.Frag} {mg : Str → Option Value} {base : Heap} {cl : Nat → Addr}
theorem msCS {N Ns : List Str} {qual : Str} {scope : Scope} {f : Addr} {cd : Value} {A : Around} {outer : List Env} {s : Shared} {H : Hp} {E : XK} {i : Nat} {y : Str} {py spos : Pos} {elt iter : Expr} {x : Str} {px pos : Pos} {sc : Scope} {ifs : List Expr} {fa : FA} {t : FT} {g : FE} {n : Nat}
    (hnd : N.Nodup) (hy : N[i]? = some y) (hl : Loc scope y) (hid : hidB N Ns sc = true) (hcap : capB Ns x sc scope = true) (hn : N.length = n) (hi : MI (cxM P w K mg base cl N qual scope f cd A outer s H E) cl (.Name x px) iter fa)
    (ht : ∀ C s' H' fp, MC (cxB (cxM P w K mg base cl N qual scope f cd A outer s H E) Ns x sc (csOf sc (cxM P w K mg base cl N qual scope f cd A outer s H E).env) C s' H' fp) cl ifs t)
    (hb : ∀ C s' H' fp, ME (cxB (cxM P w K mg base cl N qual scope f cd A outer s H E) Ns x sc (csOf sc (cxM P w K mg base cl N qual scope f cd A outer s H E).env) C s' H' fp) cl elt g)
    (hfs : ∀ y, foldedSetIterable iter (cxM P w K mg base cl N qual scope f cd A outer s H E).env y = pure y := by intro _; rfl)
    (hsw : swapsWith (.ListComp elt [⟨.Name x px, iter, ifs, 0⟩] sc pos) (some (.Name y py)) spos.line (cxM P w K mg base cl N qual scope f cd A outer s H E).env = pure true := by rfl) :
    MS (cxM P w K mg base cl N qual scope f cd A outer s H E) cl (.Assign [.Name y py] (.ListComp elt [⟨.Name x px, iter, ifs, 0⟩] sc pos) spos) (sSet i (fComp n fa t g)) := by
  have hd := hid
  unfold hidB at hd
  simp only [Bool.and_eq_true, beq_iff_eq, decide_eq_true_eq] at hd
  refine ms_setC hnd hy hl rfl (fun ok => cap_of hcap hd.1.1 (hid_same hid) ok) hn ?_ hi ht hb hfs hsw (.inl rfl)
  show (Ns ++ [x]).Nodup
  have hx : x ∉ Ns := fun z => by
    unfold capB at hcap
    have := (Bool.and_eq_true_iff.mp hcap).2
    rw [List.contains_iff_mem.mpr z] at this; cases this
  exact List.nodup_append.mpr ⟨hd.1.2, List.nodup_cons.mpr ⟨List.not_mem_nil, List.nodup_nil⟩, fun a ha b hb e => hx (by
    rw [List.mem_singleton] at hb; rw [← hb, ← e]; exact ha)⟩
end
end Mi
set_option Elab.async false
set_option linter.all false
set_option autoImplicit false
set_option maxRecDepth 100000
set_option maxHeartbeats 4000000
namespace Mi
open PySem PySem.Spec PyProof.Rows L2 PySem.Builtin PySem.Builtin.Str
def repl1 (x y z : PySem.Str) : PySem.Str := if ((occurrences x y 0 x.length 1).isEmpty || (y.length == 0 && z.length == 0)) = true then x else glued z (partsBetween x (occurrences x y 0 x.length 1) y.length)
def replOk (x y z : PySem.Str) : Prop := (y == z) = false ∧ x.length + (occurrences x y 0 x.length 1).length * z.length ≤ sizeLine ∧ (repl1 x y z).length ≤ sizeLine
instance {x y z : PySem.Str} : Decidable (replOk x y z) := by unfold replOk; infer_instance
section
variable {X : Cx} {cl : Nat → Addr} {pins : List (Addr × Obj)} {s : Shared} {σ : SV} {Hf0 H0 Hf H Hf1 H1 : Hp} {ρ : MEnv} {α : Type}
theorem var_at {i : Nat} {x : PySem.Str} {pos : Pos} {v : V} {Q : Value → Shared → Prop} {E : Value → Shared → Prop} (hN : X.N[i]? = some x) (hv : Vis X.env.scope x) (I : Inv X pins σ H s) (e : σ[i]? = some (some v)) (h : ∀ u, RelV v u → Q u s)
    (hd : (x == ("__debug__" : PySem.Str)) = false := by decide) (hcd : (x == ("__classdict__" : PySem.Str)) = false := by decide) : wpAny (model X.prog X.w) X.A (eval (.Name x pos) X.env) Q E s := by
  obtain ⟨m, hn, hl⟩ := I.loc
  obtain ⟨u, r, l⟩ := hl i x v hN e hv
  have fin := h u r
  rcases l with ⟨hk, hm⟩ | ⟨hk, c, hc, hcell⟩
  · exact wpAny_Name (wpAny_loadName_local I.ok.kind hk hn hm fin) hd
  · rcases hk with hk | hk
    · exact wpAny_Name (wpAny_loadName_cell I.ok.kind hk hc hcell fin) hd
    · exact wpAny_Name (wpAny_loadName_free I.ok.kind hk hc hcell fin hcd) hd
end
end Mi
set_option Elab.async false
set_option linter.all false
set_option autoImplicit false
set_option maxRecDepth 100000
set_option maxHeartbeats 4000000
namespace Mi
open PySem PySem.W PyProof.Rows
section
variable {N : Nat} {key : Nat → Int} {cmp : Nat → Nat → (Bool → Shared → Prop) → Shared → Prop} {s : Shared}
/-- the key at a place -/
def kp (key : Nat → Int) (p : Array Nat) (i : Nat) : Int := key (p.getD i 0)
def Pm (N : Nat) (p : Array Nat) : Prop := p.Perm (List.toArray (List.range N))
def Cm2 (N : Nat) (key : Nat → Int) (cmp : Nat → Nat → (Bool → Shared → Prop) → Shared → Prop) (s : Shared) : Prop :=
  ∀ (i j : Nat) (C : Bool → Shared → Prop), i < N → j < N → C (decide (key i < key j)) s → cmp i j C s
def Up (key : Nat → Int) (p : Array Nat) (n : Nat) : Prop := ∀ i j, i ≤ j → j < n → kp key p i ≤ kp key p j
def Dn (key : Nat → Int) (p : Array Nat) (n : Nat) : Prop := ∀ i j, i ≤ j → j < n → kp key p j ≤ kp key p i
theorem Pm.size {p : Array Nat} (h : Pm N p) : p.size = N := by rw [Array.Perm.size_eq h]; simp
theorem Pm.lt {p : Array Nat} (h : Pm N p) {i : Nat} (hi : i < N) : p.getD i 0 < N := by
  have hs : i < p.size := by rw [h.size]; exact hi
  have e : p.getD i 0 = p[i] := by simp [Array.getD, hs]
  rw [e]
  have : p[i] ∈ List.toArray (List.range N) := (Array.Perm.mem_iff h).mp (Array.getElem_mem hs)
  simpa using this
theorem kp_of {p q : Array Nat} {i j : Nat} (h : p[i]? = q[j]?) : kp key p i = kp key q j := by
  unfold kp
  rw [Array.getD_eq_getD_getElem?, Array.getD_eq_getD_getElem?, h]
theorem kp_rev {p : Array Nat} {i j : Nat} (hj : j ≤ p.size) (k : Nat) : kp key (kas_rev p i j) k = if i ≤ k ∧ k < j then kp key p (i + j - 1 - k) else kp key p k := by
  unfold kas_rev
  have e := getElem?_mirror_all (xs := p) (i := i) hj k
  split
  · next h => rw [if_pos h] at e; exact kp_of e
  · next h => rw [if_neg h] at e; exact kp_of e
theorem pm_rev {p : Array Nat} (h : Pm N p) (i j : Nat) : Pm N (kas_rev p i j) := (mirror_perm p i j _).trans h
/-- a stretch of equals turned about: the keys stay -/
theorem kp_rev_eq {p : Array Nat} {i j : Nat} (hj : j ≤ p.size) (he : ∀ k, i ≤ k → k < j → kp key p k = kp key p (j - 1)) (k : Nat) : kp key (kas_rev p i j) k = kp key p k := by
  rw [kp_rev hj]
  split
  · next h => rw [he _ (by omega) (by omega), he k h.1 h.2]
  · rfl
theorem asc_wp (hc : Cm2 N key cmp s) {p : Array Nat} (hp : Pm N p) {nrem : Nat} (hn : nrem ≤ N) {G : Nat → Shared → Prop} :
    ∀ (f n : Nat), 1 ≤ n → n + f = nrem → Up key p n → (∀ m, n ≤ m → m ≤ nrem → Up key p m → (m = nrem ∨ kp key p m < kp key p (m - 1)) → G m s) → (kas_asc p f n).kasWp cmp G s
  | 0, n, h1, h2, hu, hg => hg n (Nat.le_refl _) (by omega) hu (.inl (by omega))
  | f + 1, n, h1, h2, hu, hg => by
    refine hc _ _ _ (hp.lt (by omega)) (hp.lt (by omega)) ?_
    show ((if decide (kp key p n < kp key p (n - 1)) = true then KasT.ret n else kas_asc p f (n + 1))).kasWp cmp G s
    by_cases h : kp key p n < kp key p (n - 1)
    · rw [if_pos (decide_eq_true h)]
      exact hg n (Nat.le_refl _) (by omega) hu (.inr h)
    · rw [if_neg (by simpa using h)]
      refine asc_wp hc hp hn f (n + 1) (by omega) (by omega) (fun i j hij hj => ?_) fun m h3 h4 h5 h6 => hg m (by omega) h4 h5 h6
      by_cases hjn : j = n
      · subst hjn
        by_cases hi : i = j
        · subst hi; exact Int.le_refl _
        · have := hu i (j - 1) (by omega) (by omega); omega
      · exact hu i j hij (by omega)
theorem desc_wp (hc : Cm2 N key cmp s) {nrem : Nat} (hn : nrem ≤ N) {G : Array Nat × Nat × Nat → Shared → Prop} :
    ∀ (f : Nat) (p : Array Nat) (n q : Nat), Pm N p → q + 1 ≤ n → n + f = nrem → Dn key p n → (∀ k, n - (q + 1) ≤ k → k < n → kp key p k = kp key p (n - 1)) →
      (∀ p' m q', Pm N p' → q' + 1 ≤ m → m ≤ nrem → Dn key p' m → (∀ k, m - (q' + 1) ≤ k → k < m → kp key p' k = kp key p' (m - 1)) → G (p', m, q') s) → (kas_desc f p n q).kasWp cmp G s
  | 0, p, n, q, hp, h1, h2, hd, he, hg => hg p n q hp h1 (by omega) hd he
  | f + 1, p, n, q, hp, h1, h2, hd, he, hg => by
    have step : ∀ p' : Array Nat, (∀ k, kp key p' k = kp key p k) → kp key p n ≤ kp key p (n - 1) → Dn key p' (n + 1) := fun p' hk hle i j hij hj => by
      rw [hk, hk]
      by_cases hjn : j = n
      · subst hjn
        by_cases hi : i = j
        · subst hi; exact Int.le_refl _
        · have := hd i (j - 1) (by omega) (by omega); omega
      · exact hd i j hij (by omega)
    refine hc _ _ _ (hp.lt (by omega)) (hp.lt (by omega)) ?_
    show ((if decide (kp key p n < kp key p (n - 1)) = true then (if q > 0 then kas_desc f (kas_rev p (n - (q + 1)) n) (n + 1) 0 else kas_desc f p (n + 1) 0)
      else KasT.ask (p.getD (n - 1) 0) (p.getD n 0) fun d => if d = true then KasT.ret (p, n, q) else kas_desc f p (n + 1) (q + 1))).kasWp cmp G s
    by_cases h : kp key p n < kp key p (n - 1)
    · rw [if_pos (decide_eq_true h)]
      by_cases hq : q > 0
      · rw [if_pos hq]
        have hk := kp_rev_eq (key := key) (p := p) (i := n - (q + 1)) (j := n) (by rw [hp.size]; omega) he
        exact desc_wp hc hn f _ (n + 1) 0 (pm_rev hp _ _) (by omega) (by omega) (step _ hk (by omega)) (fun k a b => by congr 1; omega) hg
      · rw [if_neg hq]
        exact desc_wp hc hn f _ (n + 1) 0 hp (by omega) (by omega) (step _ (fun _ => rfl) (by omega)) (fun k a b => by congr 1; omega) hg
    · rw [if_neg (by simpa using h)]
      refine hc _ _ _ (hp.lt (by omega)) (hp.lt (by omega)) ?_
      show ((if decide (kp key p (n - 1) < kp key p n) = true then KasT.ret (p, n, q) else kas_desc f p (n + 1) (q + 1))).kasWp cmp G s
      by_cases h' : kp key p (n - 1) < kp key p n
      · rw [if_pos (decide_eq_true h')]
        exact hg p n q hp h1 (by omega) hd he
      · rw [if_neg (by simpa using h')]
        refine desc_wp hc hn f p (n + 1) (q + 1) hp (by omega) (by omega) (step p (fun _ => rfl) (by omega)) (fun k a b => ?_) hg
        show _ = kp key p n
        by_cases hkn : k = n
        · rw [hkn]
        · rw [he k (by omega) (by omega)]; omega
theorem tail3_wp (hc : Cm2 N key cmp s) {nrem n : Nat} (hn : nrem ≤ N) {p : Array Nat} (hp : Pm N p) (h1 : 1 ≤ n) (h2 : n ≤ nrem) (hd : Dn key p n) {G : Nat × Array Nat → Shared → Prop}
    (hg : ∀ m p', Pm N p' → 1 ≤ m → m ≤ nrem → Up key p' m → G (m, p') s) : (kas_tail3 n nrem p).kasWp cmp G s := by
  unfold kas_tail3
  rw [KasT.kasWp_bind]
  have hk := kp_rev (key := key) (p := p) (i := 0) (j := n) (by rw [hp.size]; omega)
  refine asc_wp hc (pm_rev hp 0 n) hn (nrem - n) n h1 (by omega) (fun i j hij hj => ?_) fun m a b c _ => hg m _ (pm_rev hp 0 n) (by omega) b c
  rw [hk, hk, if_pos ⟨by omega, by omega⟩, if_pos ⟨by omega, by omega⟩]
  exact hd _ _ (by omega) (by omega)
theorem descPart_wp (hc : Cm2 N key cmp s) {nrem n : Nat} (hn : nrem ≤ N) {p : Array Nat} (hp : Pm N p) (h1 : 1 ≤ n) (h2 : n + 1 ≤ nrem) (hd : Dn key p (n + 1)) {G : Nat × Array Nat → Shared → Prop}
    (hg : ∀ m p', Pm N p' → 1 ≤ m → m ≤ nrem → Up key p' m → G (m, p') s) : (kas_descPart n nrem p).kasWp cmp G s := by
  unfold kas_descPart
  rw [KasT.kasWp_bind]
  refine desc_wp hc hn _ p (n + 1) 0 hp (by omega) (by omega) hd (fun k a b => by congr 1; omega) fun p' m q' hp' a b hd' he => ?_
  show (if q' > 0 then kas_tail3 m nrem (kas_rev p' (m - (q' + 1)) m) else kas_tail3 m nrem p').kasWp cmp G s
  split
  · have hk := kp_rev_eq (key := key) (p := p') (i := m - (q' + 1)) (j := m) (by rw [hp'.size]; omega) he
    exact tail3_wp hc hn (pm_rev hp' _ _) (by omega) b (fun i j hij hj => by rw [hk, hk]; exact hd' i j hij hj) hg
  · exact tail3_wp hc hn hp' (by omega) b hd' hg
theorem count_wp (hc : Cm2 N key cmp s) {nrem : Nat} (hn : nrem ≤ N) (h1 : 1 ≤ nrem) {p : Array Nat} (hp : Pm N p) {G : Nat × Array Nat → Shared → Prop}
    (hg : ∀ m p', Pm N p' → 1 ≤ m → m ≤ nrem → Up key p' m → G (m, p') s) : (kas_count nrem p).kasWp cmp G s := by
  unfold kas_count
  rw [KasT.kasWp_bind]
  refine asc_wp hc hp hn (nrem - 1) 1 (Nat.le_refl _) (by omega) (fun i j hij hj => ?_) fun m a b hu hm => ?_
  · have e : i = j := by omega
    rw [e]; exact Int.le_refl _
  · by_cases hmn : m = nrem
    · rw [if_pos (by simp [hmn])]
      exact hg m p hp a b hu
    · rw [if_neg (by simp [hmn])]
      have hlt : kp key p m < kp key p (m - 1) := hm.resolve_left hmn
      by_cases h1m : m > 1
      · rw [if_pos h1m]
        refine hc _ _ _ (hp.lt (by omega)) (hp.lt (by omega)) ?_
        show (if decide (kp key p 0 < kp key p (m - 1)) = true then KasT.ret (m, p) else kas_descPart m nrem (kas_rev p 0 m)).kasWp cmp G s
        by_cases h : kp key p 0 < kp key p (m - 1)
        · rw [if_pos (decide_eq_true h)]
          exact hg m p hp a b hu
        · rw [if_neg (by simpa using h)]
          have he : ∀ k, 0 ≤ k → k < m → kp key p k = kp key p (m - 1) := fun k _ hk => by
            have a1 := hu 0 k (by omega) hk
            have a2 := hu k (m - 1) (by omega) (by omega)
            omega
          have hk := kp_rev_eq (key := key) (p := p) (i := 0) (j := m) (by rw [hp.size]; omega) he
          refine descPart_wp hc hn (pm_rev hp _ _) (by omega) (by omega) (fun i j hij hj => ?_) hg
          rw [hk, hk]
          by_cases hjm : j = m
          · subst hjm
            by_cases hi : i = j
            · subst hi; exact Int.le_refl _
            · have := he i (by omega) (by omega); omega
          · rw [he i (by omega) (by omega), he j (by omega) (by omega)]; exact Int.le_refl _
      · rw [if_neg h1m]
        have hm1 : m = 1 := by omega
        subst hm1
        refine descPart_wp hc hn hp (by omega) (by omega) (fun i j hij hj => ?_) hg
        have hcase : (i = 0 ∧ j = 0) ∨ (i = 0 ∧ j = 1) ∨ (i = 1 ∧ j = 1) := by omega
        rcases hcase with ⟨rfl, rfl⟩ | ⟨rfl, rfl⟩ | ⟨rfl, rfl⟩
        · exact Int.le_refl _
        · have : kp key p 1 < kp key p 0 := hlt
          omega
        · exact Int.le_refl _
theorem place_wp (hc : Cm2 N key cmp s) {p : Array Nat} (hp : Pm N p) {k : Nat} (hk : k < N) (hu : Up key p k) {G : Nat → Shared → Prop}
    (hg : ∀ l, l ≤ k → (∀ i, i < l → kp key p i ≤ kp key p k) → (∀ i, l ≤ i → i < k → kp key p k < kp key p i) → G l s) :
    ∀ (f l r : Nat), l ≤ r → r ≤ k → r - l ≤ f → (∀ i, i < l → kp key p i ≤ kp key p k) → (∀ i, r ≤ i → i < k → kp key p k < kp key p i) → (kas_place p k f l r).kasWp cmp G s
  | 0, l, r, h1, h2, h3, ha, hb => hg l (by omega) ha fun i h h' => hb i (by omega) h'
  | f + 1, l, r, h1, h2, h3, ha, hb => by
    show (if l ≥ r then KasT.ret l else KasT.ask (p.getD k 0) (p.getD ((l + r) / 2) 0) fun c => if c = true then kas_place p k f l ((l + r) / 2) else kas_place p k f ((l + r) / 2 + 1) r).kasWp cmp G s
    by_cases h : l ≥ r
    · rw [if_pos h]
      exact hg l (by omega) ha fun i q q' => hb i (by omega) q'
    · rw [if_neg h]
      refine hc _ _ _ (hp.lt hk) (hp.lt (by omega)) ?_
      show (if decide (kp key p k < kp key p ((l + r) / 2)) = true then kas_place p k f l ((l + r) / 2) else kas_place p k f ((l + r) / 2 + 1) r).kasWp cmp G s
      by_cases h' : kp key p k < kp key p ((l + r) / 2)
      · rw [if_pos (decide_eq_true h')]
        refine place_wp hc hp hk hu hg f l ((l + r) / 2) (by omega) (by omega) (by omega) ha fun i q q' => ?_
        have := hu ((l + r) / 2) i q q'; omega
      · rw [if_neg (by simpa using h')]
        refine place_wp hc hp hk hu hg f ((l + r) / 2 + 1) r (by omega) h2 (by omega) (fun i q => ?_) hb
        have := hu i ((l + r) / 2) (by omega) (by omega); omega
theorem bin_wp (hc : Cm2 N key cmp s) {G : Array Nat → Shared → Prop} (hg : ∀ p, Pm N p → Up key p N → G p s) :
    ∀ (f : Nat) (p : Array Nat) (k : Nat), Pm N p → k + f = N → Up key p k → (kas_bin f p k).kasWp cmp G s
  | 0, p, k, hp, h1, hu => hg p hp (by have : k = N := by omega
                                       rw [← this]; exact hu)
  | f + 1, p, k, hp, h1, hu => by
    show ((kas_place p k k 0 k).bind fun l => kas_bin f (bubble p k (k - l)) (k + 1)).kasWp cmp G s
    rw [KasT.kasWp_bind]
    refine place_wp hc hp (by omega) hu (fun l hl ha hb => ?_) k 0 k (by omega) (Nat.le_refl _) (by omega) (fun i h => absurd h (by omega)) (fun i h h' => absurd h (by omega))
    have hs : k < p.size := by rw [hp.size]; omega
    have hkp : ∀ i, kp key (bubble p k (k - l)) i = if i = l then kp key p k else if l < i ∧ i ≤ k then kp key p (i - 1) else kp key p i := fun i => by
      have e := getElem?_bubble hs (k - l) (by omega) i
      rw [show k - (k - l) = l by omega] at e
      split
      · next h => rw [if_pos h] at e; exact kp_of e
      · next h =>
        rw [if_neg h] at e
        split
        · next h' => rw [if_pos h'] at e; exact kp_of e
        · next h' => rw [if_neg h'] at e; exact kp_of e
    refine bin_wp hc hg f _ (k + 1) ((bubble_perm p k _).trans hp) (by omega) fun i j hij hj => ?_
    rw [hkp, hkp]
    by_cases i1 : i = l
    · rw [if_pos i1]
      by_cases j1 : j = l
      · rw [if_pos j1]; exact Int.le_refl _
      · rw [if_neg j1, if_pos ⟨by omega, by omega⟩]
        have := hb (j - 1) (by omega) (by omega); omega
    · rw [if_neg i1]
      by_cases i2 : l < i ∧ i ≤ k
      · rw [if_pos i2, if_neg (by omega), if_pos ⟨by omega, by omega⟩]
        exact hu _ _ (by omega) (by omega)
      · rw [if_neg i2]
        by_cases j1 : j = l
        · rw [if_pos j1]; exact ha i (by omega)
        · rw [if_neg j1]
          by_cases j2 : l < j ∧ j ≤ k
          · rw [if_pos j2]; exact hu _ _ (by omega) (by omega)
          · rw [if_neg j2]; exact hu _ _ hij (by omega)
theorem sort_wp (hc : Cm2 N key cmp s) (h1 : 1 ≤ N) {G : Array Nat → Shared → Prop} (hg : ∀ p, Pm N p → Up key p N → G p s) : (kas_sort N).kasWp cmp G s := by
  unfold kas_sort
  rw [KasT.kasWp_bind]
  refine count_wp hc (Nat.le_refl _) h1 (p := List.toArray (List.range N)) (Array.Perm.refl _) fun m p hp a b hu => ?_
  show (if m < N then kas_bin (N - max m 1) p (max m 1) else KasT.ret p).kasWp cmp G s
  have e : max m 1 = m := by omega
  rw [e]
  split
  · exact bin_wp hc hg _ p m hp (by omega) hu
  · have : m = N := by omega
    subst this
    exact hg p hp hu
end
end Mi
set_option Elab.async false
set_option linter.all false
set_option autoImplicit false
set_option maxRecDepth 100000
set_option maxHeartbeats 4000000
namespace Mi
open PySem PySem.W PyProof.Rows
section
variable {prog : Program} {w : World} {A : Around} {E : Value → Shared → Prop} {s : Shared} {a kS : Addr} {vs ks : List Value} {f : Value} {key : Nat → Int}
/-- what stands while the keys are told: the store of keys, the emptied list, and what the asker keeps -/
structure Keep (a kS : Addr) (e1 : Nat) (St : List Value → Shared → Prop) (ks : List Value) (e : Nat) (s : Shared) : Prop where
  store : s.heap.get? kS = some (seqObj "list" ks.toArray e)
  list : s.heap.get? a = some (seqObj "list" #[] e1)
  st : St ks s
/-- the calls of the key: each leaves the store and the list, and what is kept may stand on with one key more -/
def Calls1 (prog : Program) (w : World) (A : Around) (a kS : Addr) (e1 : Nat) (St : List Value → Shared → Prop) (f : Value) (vs : List Value) : Prop :=
  ∀ (ks : List Value) (e : Nat) (s : Shared) (x : Value), vs[ks.length]? = some x → Keep a kS e1 St ks e s →
    wpAny (model prog w) A (call f [x]) (fun k s' => s'.heap.get? kS = some (seqObj "list" ks.toArray e) ∧ s'.heap.get? a = some (seqObj "list" #[] e1) ∧
      ∀ h', Heap.SameBut kS s'.heap h' → (∃ c, h'.get? kS = some (seqObj "list" (ks ++ [k]).toArray c)) → St (ks ++ [k]) { s' with heap := h' }) (fun _ _ => False) s
theorem keys_fold {e1 : Nat} {St : List Value → Shared → Prop} (hak : a ≠ kS) (hc : Calls1 prog w A a kS e1 St f vs) (h64 : vs.length < 64) {body : Value → PUnit → Sem (ForInStep PUnit)}
    (hb : ∀ x (s : Shared) (R : ForInStep PUnit → Shared → Prop) (ks : List Value) (e : Nat), ks.length < 64 →
      wpAny (model prog w) A (call f [x]) (fun k s' => s'.heap.get? kS = some (seqObj "list" ks.toArray e) ∧ ∀ h' c, Heap.SameBut kS s'.heap h' → h'.get? kS = some (seqObj "list" (ks ++ [k]).toArray c) → R (.yield ⟨⟩) { s' with heap := h' }) (fun _ _ => False) s →
      wpAny (model prog w) A (body x ⟨⟩) R E s) :
    ∀ (r ks : List Value) (e : Nat) (s : Shared), ks.length + r.length = vs.length → vs.drop ks.length = r → Keep a kS e1 St ks e s →
      wpAny (model prog w) A (forIn r PUnit.unit body) (fun _ s' => ∃ ks e, ks.length = vs.length ∧ Keep a kS e1 St ks e s') E s
  | [], ks, e, s, hl, hd, k => by
    rw [List.forIn_nil]
    exact wpAny_pure ⟨ks, e, by simpa using hl, k⟩
  | x :: r, ks, e, s, hl, hd, k => by
    rw [List.length_cons] at hl
    rw [List.forIn_cons]
    have hx : vs[ks.length]? = some x := by
      have : (vs.drop ks.length)[0]? = some x := by rw [hd]; rfl
      rw [List.getElem?_drop] at this
      simpa using this
    refine wpAny_bind (hb x s _ ks e (by omega) (wpAny_mono (hc ks e s x hx k) (fun q s' hq => ?_) fun _ _ z => z))
    obtain ⟨q1, q2, q3⟩ := hq
    refine ⟨q1, fun h' c hs hk' => ?_⟩
    show wpAny (model prog w) A (forIn r PUnit.unit body) _ E { s' with heap := h' }
    refine keys_fold hak hc h64 hb r (ks ++ [q]) c { s' with heap := h' } (by rw [List.length_append, List.length_singleton]; omega) ?_ ⟨hk', ?_, q3 h' hs ⟨c, hk'⟩⟩
    · rw [List.length_append, List.length_singleton, ← List.drop_drop, hd]; rfl
    · exact hs.extBut a _ hak q2
theorem keyed_rest {e1 : Nat} {St : List Value → Shared → Prop} {P : PySem.Fin → Shared → Prop} (hak : a ≠ kS) (hc : Calls1 prog w A a kS e1 St f vs) (h64 : vs.length < 64) (h0 : Keep a kS e1 St [] 0 s)
    (hkind : ∀ ks e s', 2 ≤ vs.length → ks.length = vs.length → Keep a kS e1 St ks e s' → wpAny (model prog w) A (keyKind' (List.toArray ks)) (fun κ s'' => s'' = s' ∧ Cm2 vs.length key (kas_ask prog w A κ ks) s') (fun _ _ => False) s')
    (hfin : ∀ ks e s' (p : Array Nat), ks.length = vs.length → Keep a kS e1 St ks e s' → Pm vs.length p → Up key p vs.length →
      ∀ h1 h2 c2, Heap.SameBut kS s'.heap h1 → Heap.SameBut a h1 h2 → h2.get? a = some (seqObj "list" (List.toArray (p.toList.map fun i => vs.getD i Value.none)) c2) → P (.done (.ret .none)) { s' with heap := h2 }) :
    wpAny (model prog w) A (ksk_rest a f false vs.toArray e1 (.ref kS)) P E s := by
  unfold ksk_rest
  refine wpAny_bind (wpAny_rule ?_)
  first
    | rw [List.forIn_toArray]
    | (rw [← Array.forIn_toList]; simp only [List.toList_toArray])
    | rw [← Array.forIn_toList]
  refine wpAny_bind (wpAny_mono (keys_fold (a := a) (kS := kS) (e1 := e1) (St := St) hak hc h64 (fun x s' R ks e hz hx => ?_) vs [] 0 s (by simp) (by simp) h0) (fun _ s' hd => ?_) fun _ _ z => z)
  · refine wpAny_bind (wpAny_attempt (wpAny_mono hx (fun k s'' hk => ?_) fun _ _ hF => hF.elim))
    obtain ⟨nk, c⟩ := hk
    have s1 := Heap.SameBut.update s''.heap kS (Obj.mapSeq (·.push k))
    have ea : (List.toArray ks).push k = List.toArray (ks ++ [k]) := by simp
    obtain ⟨c2, hc2⟩ : ∃ c2, (s''.heap.update kS (Obj.mapSeq (·.push k))).get? kS = some (seqObj "list" (List.toArray (ks ++ [k])) c2) := ⟨_, by rw [← ea]; exact get?_update_seq nk (·.push k)⟩
    try dsimp only
    refine wpAny_bind (listUpdate_at nk rfl ?_ (by rw [List.size_toArray, sizeLine_eq]; omega) (Nat.le_trans (Nat.le_of_eq (Array.size_push ..)) (by rw [List.size_toArray, sizeLine_eq]; omega)))
    exact wpAny_pure (c _ c2 s1 hc2)
  · obtain ⟨ks, e, hl, kp⟩ := hd
    try dsimp only
    refine wpAny_bind (listItems_at kp.store rfl ?_)
    have fin : ∀ (st' : SortSt) (p : Array Nat), p.size = vs.length → arrOf st' = p.map (kas_item (ks.toArray.zip vs.toArray)) → failedOf st' = none → Pm vs.length p → Up key p vs.length → wpAny (model prog w) A (ksk_tail a false e1 (.ref kS) st') P E s' := fun st' p hp har hf hpm hup => ?_
    · unfold ksk_end
      simp only [Bool.false_eq_true, if_false]
      by_cases h2 : 2 ≤ vs.length
      · have hn2 : ¬ vs.toArray.size < 2 := by rw [List.size_toArray]; omega
        rw [if_neg hn2, if_neg hn2]
        refine wpAny_bind (wpAny_mono (hkind ks e s' h2 hl kp) (fun κ s0 hk => ?_) fun _ _ z => z.elim)
        obtain ⟨rfl, hcm⟩ := hk
        have hsort : (kas_sort vs.length).kasWp (kas_ask prog w A κ ks) (fun p s'' => s'' = s0 ∧ Pm vs.length p ∧ Up key p vs.length) s0 := sort_wp hcm (by omega) fun p hp hu => ⟨rfl, hp, hu⟩
        refine wpAny_bind (wpAny_mono (kat_run (Q := fun st' s'' => ∃ p : Array Nat, p.size = vs.length ∧ arrOf st' = p.map (kas_item (ks.toArray.zip vs.toArray)) ∧ failedOf st' = none ∧ (s'' = s0 ∧ Pm vs.length p ∧ Up key p vs.length)) hl h2 h64 (fun p' st' s'' a1 a2 a3 a4 => ⟨p', a1, a2, a3, a4⟩) hsort) ?_ fun _ _ z => z)
        rintro ⟨⟨⟩, st'⟩ s'' ⟨p, hp, har, hf, rfl, hpm, hup⟩
        try dsimp only
        exact fin st' p hp har hf hpm hup
      · have hn2 : vs.toArray.size < 2 := by rw [List.size_toArray]; omega
        rw [if_pos hn2, if_pos hn2]
        refine wpAny_bind (wpAny_pure ?_)
        refine wpAny_bind (wpAny_pure ?_)
        refine fin _ (List.toArray (List.range vs.length)) (by simp) ?_ rfl (Array.Perm.refl _) fun i j hij hj => ?_
        · have e := kas_range (ks.toArray.zip vs.toArray)
          rw [show (ks.toArray.zip vs.toArray).size = vs.length by simp [hl]] at e
          rw [e]
        · have : i = j := by omega
          rw [this]; exact Int.le_refl _
    have hout := kat_snds hl har
    have s1 := Heap.SameBut.update s'.heap kS (Obj.mapSeq fun _ => (#[] : Array Value))
    have na : (s'.heap.update kS (Obj.mapSeq fun _ => (#[] : Array Value))).get? a = some (seqObj "list" #[] e1) := s1.extBut a _ hak kp.list
    have s2 := Heap.SameBut.update (s'.heap.update kS (Obj.mapSeq fun _ => (#[] : Array Value))) a (Obj.mapSeq fun _ => List.toArray (p.toList.map fun i => vs.getD i Value.none))
    obtain ⟨c2, hc2⟩ : ∃ c2, ((s'.heap.update kS (Obj.mapSeq fun _ => (#[] : Array Value))).update a (Obj.mapSeq fun _ => List.toArray (p.toList.map fun i => vs.getD i Value.none))).get? a = some (seqObj "list" (List.toArray (p.toList.map fun i => vs.getD i Value.none)) c2) := ⟨_, get?_update_seq na fun _ => List.toArray (p.toList.map fun i => vs.getD i Value.none)⟩
    have hsz : (List.toArray (p.toList.map fun i => vs.getD i Value.none)).size = vs.length := by rw [List.size_toArray, List.length_map, Array.length_toList, hp]
    unfold ksk_tail
    try dsimp only
    rw [hout]
    refine wpAny_bind (listUpdate_at kp.store rfl ?_ (by rw [List.size_toArray, sizeLine_eq]; omega) (Nat.zero_le _))
    refine wpAny_bind (wpAny_letGo ?_)
    refine wpAny_bind (seqEpoch_at na rfl ?_)
    simp only [Bool.false_eq_true, if_false]
    refine wpAny_bind (listUpdate_at na rfl ?_ (Nat.zero_le _) (Nat.le_trans (Nat.le_of_eq hsz) (by rw [sizeLine_eq]; omega)))
    rw [hf]
    simp only [bne_self_eq_false, Bool.false_eq_true, if_false]
    exact wpAny_pure (hfin ks e s' p hl kp hpm hup _ _ c2 s1 s2 hc2)
theorem sorted_keyed {l q : Addr} {Q : Value → Shared → Prop} {St : Nat → List Value → Shared → Prop} (hl : s.heap.IsList l vs.toArray) (h64 : vs.length < 64)
    (h0 : ∀ e1 h', (∀ b o, s.heap.get? b = some o → h'.get? b = some o) → h'.get? (s.heap.objs.size + 1) = some (seqObj "list" #[] e1) → h'.get? (s.heap.objs.size + 3) = some (seqObj "list" #[] 0) → h'.objs.size = s.heap.objs.size + 4 → St e1 [] { s with heap := h' })
    (hc : ∀ e1, Calls1 prog w A.in1.in1 (s.heap.objs.size + 1) (s.heap.objs.size + 3) e1 (St e1) (.ref q) vs)
    (hkind : ∀ e1 ks e s', 2 ≤ vs.length → ks.length = vs.length → Keep (s.heap.objs.size + 1) (s.heap.objs.size + 3) e1 (St e1) ks e s' → wpAny (model prog w) A.in1.in1 (keyKind' (List.toArray ks)) (fun κ s'' => s'' = s' ∧ Cm2 vs.length key (kas_ask prog w A.in1.in1 κ ks) s') (fun _ _ => False) s')
    (hfin : ∀ e1 ks e s' (p : Array Nat), ks.length = vs.length → Keep (s.heap.objs.size + 1) (s.heap.objs.size + 3) e1 (St e1) ks e s' → Pm vs.length p → Up key p vs.length →
      ∀ h1 h2 c2, Heap.SameBut (s.heap.objs.size + 3) s'.heap h1 → Heap.SameBut (s.heap.objs.size + 1) h1 h2 → h2.get? (s.heap.objs.size + 1) = some (seqObj "list" (List.toArray (p.toList.map fun i => vs.getD i Value.none)) c2) → Q (.ref (s.heap.objs.size + 1)) { s' with heap := h2 }) :
    wpAny (model prog w) A (call (.builtin "sorted") [.ref l] [(Str.ofString "key", .ref q)]) Q E s := by
  refine call_function_entry_kw kind_sorted plain_sorted entry_sorted (ksk_s1 _ _) ?_
  unfold Builtin.«sorted»
  refine wpAny_bind (m := checkCount "sorted" 1 1 _) (wpAny_pure ?_)
  refine wpAny_bind (collect_list hl ?_ (by rw [sizeLine_eq]; omega))
  refine wpAny_bind (wpAny_newList ?_ (by rw [sizeLine_eq]; omega))
  have hsz : ((s.heap.push (seqObj "list" #[] 0)).update s.heap.objs.size (Obj.mapSeq (· ++ vs.toArray))).objs.size = s.heap.objs.size + 1 := by
    rw [Heap.size_update, size_push']
  have hoL : (((s.heap.push (seqObj "list" #[] 0)).update s.heap.objs.size (Obj.mapSeq (· ++ vs.toArray))).push (seqObj "list" vs.toArray 0)).get? (s.heap.objs.size + 1) = some (seqObj "list" vs.toArray 0) := by
    rw [← hsz]; exact Heap.get?_push_size _ rfl
  have keep : ∀ b o, s.heap.get? b = some o → (((s.heap.push (seqObj "list" #[] 0)).update s.heap.objs.size (Obj.mapSeq (· ++ vs.toArray))).push (seqObj "list" vs.toArray 0)).get? b = some o := fun b o q => by
    have hlt : b < s.heap.objs.size := Heap.lt_size q
    rw [Heap.get?_push_ne _ _ _ (by rw [hsz]; exact Nat.ne_of_lt (Nat.lt_succ_of_lt hlt)), Heap.get?_update_ne _ _ _ _ (Nat.ne_of_lt hlt), Heap.get?_push_ne _ _ _ (Nat.ne_of_lt hlt)]
    exact q
  have hsz2 : (((s.heap.push (seqObj "list" #[] 0)).update s.heap.objs.size (Obj.mapSeq (· ++ vs.toArray))).push (seqObj "list" vs.toArray 0)).objs.size = s.heap.objs.size + 2 := by rw [size_push', hsz]
  show wpAny _ _ _ _ _ { s with heap := ((s.heap.push (seqObj "list" #[] 0)).update s.heap.objs.size (Obj.mapSeq (· ++ vs.toArray))).push (seqObj "list" vs.toArray 0) }
  rw [hsz]
  generalize hH : ((s.heap.push (seqObj "list" #[] 0)).update s.heap.objs.size (Obj.mapSeq (· ++ vs.toArray))).push (seqObj "list" vs.toArray 0) = hp at *
  refine wpAny_bind (wpAny_holding (wpAny_call_entry_kw slot_list_sort ⟨_, hoL, rfl⟩ entry_list_sort ?body (ksk_l1 _ _)))
  case body =>
    show wpAny (model prog w) A.in1.in1 (Builtin.«list.sort» ⟨[.ref (s.heap.objs.size + 1)], [(Str.ofString "key", .ref q)]⟩) _ _ _
    rw [ksk_t1]
    have s1 := Heap.SameBut.update hp (s.heap.objs.size + 1) (Obj.mapSeq fun _ => (#[] : Array Value))
    obtain ⟨e1, ho1⟩ : ∃ e1, (hp.update (s.heap.objs.size + 1) (Obj.mapSeq fun _ => (#[] : Array Value))).get? (s.heap.objs.size + 1) = some (seqObj "list" #[] e1) := ⟨_, get?_update_seq hoL fun _ => #[]⟩
    unfold ksk_tree
    refine wpAny_bind (listItems_at hoL rfl ?_)
    refine wpAny_bind (listUpdate_at hoL rfl ?_ (by rw [List.size_toArray, sizeLine_eq]; omega) (Nat.zero_le _))
    refine wpAny_bind (seqEpoch_at ho1 rfl ?_)
    refine wpAny_bind (wpAny_newTuple ?_ (by show vs.length ≤ _; rw [sizeLine_eq]; omega))
    refine wpAny_bind (wpAny_newList ?_ (Nat.zero_le _))
    refine wpAny_holding ?_
    have z1 : ((hp.update (s.heap.objs.size + 1) (Obj.mapSeq fun _ => (#[] : Array Value))).push (seqObj "tuple" vs.toArray 0)).objs.size = s.heap.objs.size + 3 := by rw [size_push', Heap.size_update, hsz2]
    have g1 : (((hp.update (s.heap.objs.size + 1) (Obj.mapSeq fun _ => (#[] : Array Value))).push (seqObj "tuple" vs.toArray 0)).push (seqObj "list" #[] 0)).get? (s.heap.objs.size + 3) = some (seqObj "list" #[] 0) := by
      rw [← z1]; exact Heap.get?_push_size _ rfl
    have g2 := Heap.get?_push_of_some (seqObj "list" #[] 0) (Heap.get?_push_of_some (seqObj "tuple" vs.toArray 0) ho1)
    have g3 : ∀ b o, s.heap.get? b = some o → (((hp.update (s.heap.objs.size + 1) (Obj.mapSeq fun _ => (#[] : Array Value))).push (seqObj "tuple" vs.toArray 0)).push (seqObj "list" #[] 0)).get? b = some o := fun b o q => by
      have hlt : b < s.heap.objs.size := Heap.lt_size q
      exact Heap.get?_push_of_some _ (Heap.get?_push_of_some _ (s1.extBut b _ (Nat.ne_of_lt (Nat.lt_succ_of_lt hlt)) (keep b o q)))
    have K0 : Keep (s.heap.objs.size + 1) (s.heap.objs.size + 3) e1 (St e1) [] 0 { s with heap := ((hp.update (s.heap.objs.size + 1) (Obj.mapSeq fun _ => (#[] : Array Value))).push (seqObj "tuple" vs.toArray 0)).push (seqObj "list" #[] 0) } :=
      ⟨g1, g2, h0 e1 _ g3 g2 g1 (by rw [size_push', z1])⟩
    show wpAny _ _ (ksk_rest _ _ _ _ _ (.ref ((hp.update (s.heap.objs.size + 1) (Obj.mapSeq fun _ => (#[] : Array Value))).push (seqObj "tuple" vs.toArray 0)).objs.size)) _ _ _
    rw [z1]
    refine keyed_rest (key := key) (Nat.ne_of_lt (Nat.add_lt_add_left (by decide) _)) (hc e1) h64 K0 (hkind e1) fun ks e s' p hl' kp hpm hup h1 h3 c2 a1 a2 a3 => ?_
    exact ⟨_, rfl, wpAny_pure ⟨_, rfl, hfin e1 ks e s' p hl' kp hpm hup h1 h3 c2 a1 a2 a3⟩⟩
end
end Mi
set_option Elab.async false
set_option linter.all false
set_option autoImplicit false
set_option maxRecDepth 100000
set_option maxHeartbeats 4000000
namespace Mi
open PySem PySem.Spec PyProof.Rows L2 PySem.W
def cxL (X : Cx) (x y : Str) (qual : Str) (scope : Scope) (f c' : Addr) (clos : List (Str × Addr)) (A : Around) (s : Shared) (H : Hp) : Cx :=
  { X with A := A.deeper (envX qual scope s.heap.objs.size f (.ref c') clos), N := [x, y], s₀ := s, H₀ := H, env := envX qual scope s.heap.objs.size f (.ref c') clos, outer := X.stack, stack := envX qual scope s.heap.objs.size f (.ref c') clos :: X.stack, ex := [], fn := fun _ => false, pn := [], xe := fun _ _ => False }
/-- what is asked of the lambda's names -/
structure LamSc (x y : Str) (scope : Scope) : Prop where
  kind : scope.kind = .function
  co : scope.isCoroutine = false
  gen : scope.isGenerator = false
  loc : scope.names.lookup x = some .local
  fre : scope.names.lookup y = some .free
  nocell : ∀ z ∈ scope.names, z.2 ≠ .cell
  only : ∀ z, scope.names.lookup z = some .free → z = y
section
variable {X : Cx} {cl : Nat → Addr} {pins : List (Addr × Obj)} {σ : SV} {Hf H : Hp} {s : Shared} {x y qual : Str} {scope : Scope} {f c' cy : Addr} {A : Around} {k : Nat}
theorem cxL_inv {h1 : Heap} {tk : Nat} {u uy : Value} {v vy : V} (S : LamSc x y scope) (hA : A.frames = some X.stack) (hh : A.handled = none) (I : Inv X pins σ H s) (hcy : X.env.cells.lookup y = some cy) (hv : s.heap.IsCell cy (some uy)) (ru : RelV v u) (ry : RelV vy uy)
    (hn : h1.Ns s.heap.objs.size (fun z => [(x, u)].reverse.lookup z)) (kp : ∀ b o, s.heap.get? b = some o → h1.get? b = some o) :
    Inv (cxL X x y qual scope f c' [(y, cy)] A s H) [] (L2.start [x, y] [v, vy]) H { s with heap := h1, toks := tk } := by
  have one : ∀ z c, ([(y, cy)] : List (Str × Addr)).lookup z = some c → z = y ∧ c = cy := fun z c e => by
    simp only [List.lookup_cons, List.lookup_nil] at e
    split at e
    · next h => cases e; exact ⟨eq_of_beq h, rfl⟩
    · cases e
  have hyy : ([(y, cy)] : List (Str × Addr)).lookup y = some cy := by simp
  have noA : ∀ b : Addr, b ∉ (cxL X x y qual scope f c' [(y, cy)] A s H).ex := fun b z => absurd (show b ∈ ([] : List Addr) from z) (by simp)
  refine ⟨⟨I.ok.mod, S.kind, rfl, rfl, Nat.le_refl _, fun z z' c e1 e2 => ?_, fun z hz => ?_, fun z c e => (by cases e), fun _ => hh, Around.frames_deeper hA, .inr ⟨rfl, rfl⟩, fun b z => absurd z (noA b), I.bs, Nat.le_trans I.ok.bsz I.sz, fun b _ _ => noA b, fun b z => absurd z (noA b), I.stack, I.stkFree⟩,
    rfl, I.bare, Un.kept kp, ⟨_, hn, fun i z w h1 h2 h3 => ?_⟩, fun z c e => ?_, I.hok.fresh (Nat.le_refl _), fun z c e => ?_, fun p hp => absurd (show p ∈ ([] : List (Addr × Obj)) from hp) (by simp), I.hok.kept kp, rfl⟩
  · rw [(one z c e1).1, (one z' c e2).1]
  · have hz : scope.names.lookup z = some .cell ∨ scope.names.lookup z = some .free := hz
    rcases hz with hz | hz
    · exact absurd rfl (S.nocell _ (PySem.mem_of_lookup hz))
    · rw [S.only z hz]; exact ⟨cy, hyy⟩
  · have hi : i = 0 ∨ i = 1 := by
      have : i < 2 := (List.getElem?_eq_some_iff.mp h1).1
      omega
    rcases hi with rfl | rfl
    · have e1 : x = z := by simpa [cxL] using h1
      have e2 : v = w := by simpa [L2.start] using h2
      subst e1; subst e2
      exact ⟨u, ru, .inl ⟨S.loc, by simp⟩⟩
    · have e1 : y = z := by simpa [cxL] using h1
      have e2 : vy = w := by simpa [L2.start] using h2
      subst e1; subst e2
      obtain ⟨o, ho, hd⟩ := hv
      exact ⟨uy, ry, .inr ⟨.inr S.fre, cy, hyy, o, kp _ _ ho, hd⟩⟩
  · have := one z c e
    obtain ⟨v0, o, ho, hd⟩ := I.cell y cy hcy
    rw [this.2]
    exact ⟨v0, o, kp _ _ ho, hd⟩
  · rw [(one z c e).2]
    exact I.freeC y cy hcy
theorem call_lam {name : Str} {params : Arguments} {body : Expr} {pm ctv : Value} {g : FE} {u uy : Value} {v vy : V} {p py pr : PV} (S : LamSc x y scope) (hA : A.frames = some X.stack) (hr : Room (k + 1) A) (I : Inv X pins σ H s) (sm : Same Hf H)
    (ho : s.heap.get? f = some (kla_obj name qual params body scope [(y, cy)] pm c' ctv)) (hcd : s.heap.CodeRec (.ref c') qual) (hbind : bindArgs (kla_fn name qual params body scope [(y, cy)] pm (.ref c') ctv) ⟨[u], []⟩ = pure [(x, u)])
    (hcy : X.env.cells.lookup y = some cy) (hv : s.heap.IsCell cy (some uy)) (ru : RelV v u) (ry : RelV vy uy) (rp : Rp X.K cl Hf v p) (rpy : Rp X.K cl Hf vy py)
    (hb : ME (cxL X x y qual scope f c' [(y, cy)] A s H) cl body g) (e : g [some p, some py] = .ok pr) :
    wpAny (model X.prog X.w) A (call (.ref f) [u]) (fun k s' => ∃ vr Hf' H', Inv X pins σ H' s' ∧ RelV vr k ∧ Ext Hf H Hf' H' ∧ Rp X.K cl Hf' vr pr) (fun _ _ => False) s := by
  refine wpAny_call (kla_callFunE hr.depth ho rfl S.co S.gen rfl hcd ?_)
  rw [hbind]
  have hloc : ∀ z ∈ [(x, u)], scope.names.lookup z.1 = some .local := fun z hz => by rw [List.mem_singleton.mp hz]; exact S.loc
  refine wpAny_pure (wpAny_newFunctionEnv S.nocell hloc (fun h₁ hns hsb => ?_) S.kind)
  have hk₁ : ∀ b o, s.heap.get? b = some o → h₁.get? b = some o := fun b o e => hsb.extBut b o (Nat.ne_of_lt (Heap.lt_size e)) (Heap.get?_push_of_some _ e)
  refine ⟨I.nolimit.keeps hk₁, ?_⟩
  show codeAny _ _ (.expr body (envX qual scope s.heap.objs.size f (.ref c') [(y, cy)])) _ _
  have J : Inv (cxL X x y qual scope f c' [(y, cy)] A s H) [] (L2.start [x, y] [v, vy]) H { s with heap := h₁, toks := s.toks + [(x, u)].length } := cxL_inv S hA hr.hd I hcy hv ru ry hns hk₁
  have rr : Rep X.K cl Hf H Hf H (L2.start [x, y] [v, vy]) (Mi.start 2 [p, py]) := rep_start rfl sm (.cons rp (.cons rpy .nil))
  have e' : g (Mi.start 2 [p, py]) = .ok pr := e
  refine kla_codeExpr (wpAny_mono (hb.run' [] _ _ Hf H Hf H _ J rr (by rw [e']; intro z; cases z)) (fun w s' q => ?_) fun w s' q => ?_)
  · obtain ⟨p', v', Hf', H', e1, J', rv', ex, rp'⟩ := q
    rw [e'] at e1
    cases e1
    exact ⟨v', Hf', H', I.call' J'.os J'.base J'.hok J'.bare (fun b z => absurd (show b ∈ ([] : List Addr) from z) (by simp)), rv', ex, rp'⟩
  · obtain ⟨c, e1, _⟩ := q
    rw [e'] at e1
    cases e1
end
end Mi
set_option Elab.async false
set_option linter.all false
set_option autoImplicit false
set_option maxRecDepth 100000
set_option maxHeartbeats 4000000
namespace Mi
open PySem PySem.Spec PyProof.Rows L2 PySem.W
def big : Int := 2 ^ 200
def hbig : Int := 2 ^ 199
theorem big_e : big = 2 * hbig := by decide
theorem hbig_pos : 0 < hbig := by decide
/-- the number of a code -/
def dec (c : Int) : Int := -((c + hbig) % big - hbig)
theorem dec_code {r n : Int} (h1 : -hbig < n) (h2 : n < hbig) : dec (r * big - n) = n := by
  unfold dec
  have e : r * big - n + hbig = (hbig - n) + big * r := by rw [Int.mul_comm r]; omega
  rw [e, Int.add_mul_emod_self_left, Int.emod_eq_of_lt (by omega) (by rw [big_e]; omega)]
  omega
theorem code_lt {r n r' n' : Int} (h1 : -hbig < n) (h2 : n < hbig) (h3 : -hbig < n') (h4 : n' < hbig) : decide (r * big - n < r' * big - n') = if r = r' then decide (-n < -n') else decide (r < r') := by
  have hb := hbig_pos
  split
  · next h => subst h; congr 1; apply propext; omega
  · next h =>
    congr 1
    apply propext
    rw [big_e]
    constructor
    · intro q
      refine Classical.byContradiction fun z => ?_
      have : r' + 1 ≤ r := by omega
      have := Int.mul_le_mul_of_nonneg_right this (show 0 ≤ 2 * hbig by omega)
      rw [Int.add_mul, Int.one_mul] at this; omega
    · intro q
      have : r + 1 ≤ r' := by omega
      have := Int.mul_le_mul_of_nonneg_right this (show 0 ≤ 2 * hbig by omega)
      rw [Int.add_mul, Int.one_mul] at this; omega
def rkOf (g : FE) (py : PV) (n : Int) : Option Int := match g [some (.int n), some py] with
  | .ok (.tup [.int r, .int m]) => if m = -n ∧ -hbig < n ∧ n < hbig then some r else none
  | _ => none
theorem rk_some {g : FE} {py : PV} {n r : Int} (h : rkOf g py n = some r) : g [some (.int n), some py] = .ok (.tup [.int r, .int (-n)]) ∧ -hbig < n ∧ n < hbig := by
  unfold rkOf at h
  split at h
  · next r' m e =>
    split at h
    · next c => cases h; rw [e, c.1]; exact ⟨rfl, c.2⟩
    · cases h
  · cases h
def codesOf (g : FE) (py : PV) : List Int → Option (List Int)
  | [] => some []
  | n :: r => match rkOf g py n with
    | some k => (codesOf g py r).map ((k * big - n) :: ·)
    | none => none
/-- the codes, place by place -/
theorem codes_at {g : FE} {py : PV} : ∀ {ns cs : List Int}, codesOf g py ns = some cs → cs.length = ns.length ∧ ∀ (i : Nat) (n : Int), ns[i]? = some n → ∃ r, rkOf g py n = some r ∧ cs[i]? = some (r * big - n)
  | [], cs, h => by cases h; exact ⟨rfl, fun i n e => by simp at e⟩
  | m :: r, cs, h => by
    unfold codesOf at h
    cases e : rkOf g py m with
    | none => rw [e] at h; cases h
    | some k =>
      rw [e] at h
      obtain ⟨cs', h1, rfl⟩ := Option.map_eq_some_iff.mp h
      obtain ⟨a, b⟩ := codes_at h1
      refine ⟨by simp [a], fun i n q => ?_⟩
      cases i with
      | zero => cases q; exact ⟨k, e, rfl⟩
      | succ i => exact b i n (by simpa using q)
def srtK (g : FE) (py : PV) : PV → R PV
  | .lst l => (match intsP l with
    | some ns => if ns.length < 64 then (match codesOf g py ns with
      | some cs => .ok (.lst ((sortL cs).map fun c => PV.int (dec c)))
      | none => .stuck) else .stuck
    | none => .stuck)
  | _ => .stuck
def kpv (g : FE) (py : PV) (n : Int) : PV := match rkOf g py n with
  | some r => .tup [.int r, .int (-n)]
  | none => .non
theorem ints_get {us : List Value} {ns : List Int} (h : IntsAre us ns) : us.length = ns.length ∧ ∀ (i : Nat) (u : Value), us[i]? = some u → ∃ n t, ns[i]? = some n ∧ u = .int n t := by
  induction h with
  | nil => exact ⟨rfl, fun i u e => by simp at e⟩
  | cons n t _ ih =>
    refine ⟨by simp [ih.1], fun i u e => ?_⟩
    cases i with
    | zero => cases e; exact ⟨n, t, rfl, rfl⟩
    | succ i => exact ih.2 i u (by simpa using e)
theorem ints_of : ∀ {us : List Value} {ns : List Int}, us.length = ns.length → (∀ (i : Nat) (u : Value), us[i]? = some u → ∃ n t, ns[i]? = some n ∧ u = .int n t) → IntsAre us ns
  | [], [], _, _ => .nil
  | [], _ :: _, h, _ => by simp at h
  | _ :: _, [], h, _ => by simp at h
  | u :: us, n :: ns, h, f => by
    obtain ⟨n', t, e1, rfl⟩ := f 0 u rfl
    cases e1
    exact .cons _ _ (ints_of (by simpa using h) fun i u e => f (i + 1) u (by simpa using e))
section
variable {prog : Program} {w : World} {A : Around} {s : Shared}
/-- two keys asked -/
theorem lt_pair {a b : Addr} {oa ob : Obj} {r m r' m' : Int} {t1 t2 t3 t4 : Tok} {na nb : Nat} {Q : Bool → Shared → Prop} {E : Value → Shared → Prop} (ha : s.heap.get? a = some oa) (da : oa.data = .seq #[.int r t1, .int m t2] na) (hb : s.heap.get? b = some ob) (db : ob.data = .seq #[.int r' t3, .int m' t4] nb)
    (h : Q (if r = r' then decide (m < m') else decide (r < r')) s) : wpAny (model prog w) A (keyLt' (tuples' true) (.ref a) (.ref b)) Q E s := by
  refine kat_lt ha da hb db ?_
  show KatLex prog w A true _ Q [(.int r t1, .int r' t3), (.int m t2, .int m' t4)] 0 s
  refine kat_cons (wpAny_eqBool_int ?_)
  by_cases h1 : r = r'
  · subst h1
    rw [if_pos rfl] at h
    rw [show (r == r) = true from beq_self_eq_true r]
    refine kat_yes (kat_cons (wpAny_eqBool_int ?_))
    by_cases h2 : m = m'
    · subst h2
      rw [show (m == m) = true from beq_self_eq_true m]
      refine kat_yes (kat_nil ?_)
      rw [decide_eq_false (by omega)] at h
      exact h
    · rw [show (m == m') = false from by simpa using h2]
      refine kat_no ?_
      show wpAny (model prog w) A (oneLt' false (.int m t2) (.int m' t4)) Q _ s
      exact kat_one _ _ (PyProof.Rows.lt_int h)
  · rw [if_neg h1] at h
    rw [show (r == r') = false from by simpa using h1]
    refine kat_no ?_
    show wpAny (model prog w) A (oneLt' true (.int r t1) (.int r' t3)) Q _ s
    exact oneLt_int h
end
end Mi
set_option Elab.async false
set_option linter.all false
set_option autoImplicit false
set_option maxRecDepth 100000
set_option maxHeartbeats 4000000
namespace Mi
open PySem PySem.Spec PyProof.Rows L2 PySem.W
section
variable {X : Cx} {cl : Nat → Addr} {pins : List (Addr × Obj)} {σ : SV} {Hf H : Hp} {s : Shared}
/-- a pinned thing changed -/
theorem inv_repin {it : Addr} {o o' : Obj} {h' : Heap} (I : Inv X ((it, o) :: pins) σ H s) (hge : X.s₀.heap.objs.size ≤ it) (hne : ∀ p ∈ X.pn ++ pins, p.1 ≠ it) (hs : Heap.SameBut it s.heap h') (ho : h'.get? it = some o') (hc : ∀ v, o'.data ≠ .cell v) :
    Inv X ((it, o') :: pins) σ H { s with heap := h' } := by
  have p0 := I.pin (it, o) (List.mem_append_right _ (.head _))
  have I1 : Inv X pins σ H s := I.pins_of fun p hp => I.pin p (List.mem_append_right _ (.tail _ hp))
  have ncell : ∀ x c, X.env.cells.lookup x = some c → c ≠ it := fun x c e z => by
    obtain ⟨v, ob, h1, h2⟩ := I.cell x c e
    rw [z, p0.1] at h1
    cases h1
    exact p0.2.2.2.2 v h2
  have I2 : Inv X pins σ H { s with heap := h', toks := s.toks } := I1.turned (it := it) (fun b ob hb e => hs.extBut b ob hb e) p0.2.1 p0.2.2.1 (.inr hge) ncell hne
  refine I2.pins_of fun p hp => ?_
  rcases List.mem_cons.mp hp with rfl | hp
  · exact ⟨ho, p0.2.1, p0.2.2.1, p0.2.2.2.1, hc⟩
  · exact I2.pin p (List.mem_append_right _ hp)
/-- new things pinned -/
theorem inv_pinNew {a : Addr} {o : Obj} {s1 : Shared} (I : Inv X pins σ H s1) (hge : s.heap.objs.size ≤ a) (I0 : Inv X pins σ H s) (ho : s1.heap.get? a = some o) (hc : ∀ v, o.data ≠ .cell v) : Inv X ((a, o) :: pins) σ H s1 := by
  refine I.pins_of fun p hp => ?_
  rcases List.mem_cons.mp hp with rfl | hp
  · exact ⟨ho, I0.hok.fresh hge, fun z => absurd (Nat.lt_of_lt_of_le I0.lt hge) (by show ¬ _ < _; rw [show a = X.env.locals from z]; exact Nat.lt_irrefl _), I0.nofs hge, hc⟩
  · exact I.pin p (List.mem_append_right _ hp)
theorem seq_nocell {T : String} {its : Array Value} {e : Nat} : ∀ v, (seqObj T its e).data ≠ .cell v := fun v z => by cases z
end
end Mi
set_option Elab.async false
set_option linter.all false
set_option autoImplicit false
set_option maxRecDepth 100000
set_option maxHeartbeats 4000000
namespace Mi
open PySem PySem.Spec PyProof.Rows L2 PySem.W
section
variable {X : Cx} {cl : Nat → Addr} {pins : List (Addr × Obj)} {σ : SV} {Hf H : Hp} {s : Shared} {x y qual name : Str} {scope : Scope} {f c' cy : Addr} {k iy : Nat} {params : Arguments} {body : Expr} {pm ctv : Value} {g : FE} {py : PV} {vy : V} {oc : Obj} {vsc : Array Value} {t0 : Tok}
theorem inv_frz (I : Inv X pins σ H s) {a : Addr} {o : Obj} (h : H a = some (.frz o (.own a))) : s.heap.get? a = some o := (I.hok a _ h).1
theorem sorted_lam {l : Addr} {its : List Value} {ns cs : List Int} {E : Value → Shared → Prop} (S : LamSc x y scope) (hr : Room (k + 3) X.A) (I : Inv X pins σ H s) (sm : Same Hf H)
    (hl : s.heap.IsList l its.toArray) (hi : IntsAre its ns) (h64 : ns.length < 64) (hc : codesOf g py ns = some cs)
    (hf : H f = some (.frz (kla_obj name qual params body scope [(y, cy)] pm c' ctv) (.own f))) (hcd : H c' = some (.frz oc (.own c'))) (hd : oc.data = .fields vsc) (hq : vsc[1]? = some (.str qual t0))
    (hbind : ∀ u, bindArgs (kla_fn name qual params body scope [(y, cy)] pm (.ref c') ctv) ⟨[u], []⟩ = pure [(x, u)])
    (hN : X.N[iy]? = some y) (hvis : X.env.kindOf y = some .cell) (hcy : X.env.cells.lookup y = some cy) (hσ : σ[iy]? = some (some vy)) (rpy : Rp X.K cl Hf vy py)
    (hb : ∀ s H, ME (cxL X x y qual scope f c' [(y, cy)] X.A.in1.in1 s H) cl body g) :
    wpAny (model X.prog X.w) X.A (call (.builtin "sorted") [.ref l] [(Str.ofString "key", .ref f)]) (OkP X cl pins σ Hf H (.ok (.lst ((sortL cs).map fun c => PV.int (dec c))))) E s := by
  obtain ⟨lit, gi⟩ := ints_get hi
  obtain ⟨lcs, gc⟩ := codes_at hc
  have hz : its.length < 64 := by omega
  have gD : s.heap.objs.size ≤ s.heap.objs.size + 1 := Nat.le_succ _
  have gK : s.heap.objs.size ≤ s.heap.objs.size + 3 := Nat.le_add_right _ _
  have pinlt : ∀ p ∈ X.pn ++ pins, p.1 < s.heap.objs.size := fun p hp => Heap.lt_size (I.pin p hp).1
  have hKD : s.heap.objs.size + 1 ≠ s.heap.objs.size + 3 := Nat.ne_of_lt (Nat.add_lt_add_left (by decide) _)
  have neK : ∀ e1, ∀ p ∈ X.pn ++ ((s.heap.objs.size + 1, seqObj "list" #[] e1) :: pins), p.1 ≠ s.heap.objs.size + 3 := fun e1 p hp z => by
    rcases List.mem_append.mp hp with hp | hp
    · have := pinlt p (List.mem_append_left _ hp); rw [z] at this; exact absurd this (Nat.not_lt.mpr gK)
    · rcases List.mem_cons.mp hp with rfl | hp
      · exact hKD z
      · have := pinlt p (List.mem_append_right _ hp); rw [z] at this; exact absurd this (Nat.not_lt.mpr gK)
  have geK : X.s₀.heap.objs.size ≤ s.heap.objs.size + 3 := Nat.le_trans I.sz gK
  have geD : X.s₀.heap.objs.size ≤ s.heap.objs.size + 1 := Nat.le_trans I.sz gD
  refine sorted_keyed (key := fun i => cs.getD i 0) (vs := its) (St := fun e1 ks s' => ∃ e Hf' H' kvs, Inv X ((s.heap.objs.size + 3, seqObj "list" ks.toArray e) :: (s.heap.objs.size + 1, seqObj "list" #[] e1) :: pins) σ H' s' ∧ Ext Hf H Hf' H' ∧ Vals kvs ks ∧ Rps X.K cl Hf' kvs ((ns.take ks.length).map (kpv g py)))
    hl hz (fun e1 h' kp a1 a2 a3 => ?_) (fun e1 ks e s' u hu kp => ?_) (fun e1 ks e s' h2 hlk kp => ?_) (fun e1 ks e s' p hlk kp hpm hup h1 h2 c2 b1 b2 b3 => ?_)
  · -- the start
    have I1 : Inv X pins σ H { s with heap := h', toks := s.toks } := I.kept kp
    have I2 := inv_pinNew I1 gD I a1 seq_nocell
    have I3 : Inv X ((s.heap.objs.size + 3, seqObj "list" #[] 0) :: (s.heap.objs.size + 1, seqObj "list" #[] e1) :: pins) σ H { s with heap := h', toks := s.toks } := by
      refine I2.pins_of fun p hp => ?_
      rcases List.mem_cons.mp hp with rfl | hp
      · exact ⟨a2, I.hok.fresh gK, fun z => absurd (Nat.lt_of_lt_of_le I.lt gK) (by show ¬ _ < _; rw [show s.heap.objs.size + 3 = X.env.locals from z]; exact Nat.lt_irrefl _), I.nofs gK, seq_nocell⟩
      · exact I2.pin p (List.mem_append_right _ hp)
    exact ⟨0, Hf, H, [], I3, Ext.refl sm, .nil, .nil⟩
  · -- a key
    obtain ⟨e', Hf', H', kvs, I', ex, rvk, rpk⟩ := kp.st
    obtain ⟨n, t, en, rfl⟩ := gi _ u hu
    obtain ⟨r, er, ec⟩ := gc _ n en
    obtain ⟨eg, n1, n2⟩ := rk_some er
    obtain ⟨m, _, hloc⟩ := I'.loc
    obtain ⟨uy, ry, lk⟩ := hloc iy y vy hN hσ (.inr (.inl hvis))
    have hv : s'.heap.IsCell cy (some uy) := by
      rcases lk with ⟨k1, _⟩ | ⟨_, c, ec, z⟩
      · rw [hvis] at k1; cases k1
      · rw [hcy] at ec; cases ec; exact z
    have hcr : s'.heap.CodeRec (.ref c') qual := ⟨c', oc, vsc, t0, rfl, inv_frz I' (ex.all _ _ hcd), hd, hq⟩
    have hA : (X.A.in1.in1).frames = some X.stack := I.ok.frames
    have hr1 : Room (k + 1) X.A.in1.in1 := Room.in1 (Room.in1 hr)
    refine wpAny_mono (call_lam (cl := cl) S hA hr1 I' ex.sub (inv_frz I' (ex.all _ _ hf)) hcr (hbind _) hcy hv (v := .int n) ⟨t, rfl⟩ ry (.int n) (rpy.keep ex.frz) (hb s' H') eg) (fun kk s2 q => ?_) fun _ _ z => z
    obtain ⟨vr, Hf2, H2, I2, rv2, ex2, rp2⟩ := q
    have pk := I2.pin (s.heap.objs.size + 3, seqObj "list" ks.toArray e') (List.mem_append_right _ (.head _))
    have pd := I2.pin (s.heap.objs.size + 1, seqObj "list" #[] e1) (List.mem_append_right _ (.tail _ (.head _)))
    have ee : e' = e := by
      have q1 := (I'.pin (s.heap.objs.size + 3, seqObj "list" ks.toArray e') (List.mem_append_right _ (.head _))).1
      rw [kp.store] at q1
      injection q1 with q1
      injection q1 with _ _ q1
      injection q1 with _ q1
      exact q1.symm
    subst ee
    refine ⟨pk.1, pd.1, fun h' hs ⟨c, hk⟩ => ?_⟩
    refine ⟨c, Hf2, H2, kvs ++ [vr], inv_repin I2 geK (neK e1) hs hk seq_nocell, ex.trans ex2, rvk.append (.cons rv2 .nil), ?_⟩
    have et : (ns.take (ks ++ [kk]).length).map (kpv g py) = (ns.take ks.length).map (kpv g py) ++ [.tup [.int r, .int (-n)]] := by
      rw [List.length_append, List.length_singleton, List.take_add_one, en, List.map_append]
      congr 1
      show [kpv g py n] = _
      unfold kpv
      rw [er]
    rw [et]
    exact (rpk.keep ex2.frz).append (.cons rp2 .nil)
  · -- the kind, the order
    obtain ⟨e', Hf', H', kvs, I', ex, rvk, rpk⟩ := kp.st
    rw [hlk, lit, List.take_length] at rpk
    have tup : ∀ (i : Nat) (ki : Value), ks[i]? = some ki → ∃ (n r : Int) (a : Addr) (o : Obj) (t1 t2 : Tok) (m : Nat), ns[i]? = some n ∧ rkOf g py n = some r ∧ cs[i]? = some (r * big - n) ∧ -hbig < n ∧ n < hbig ∧ ki = .ref a ∧ s'.heap.get? a = some o ∧ o.cls = .type "tuple" ∧ o.data = .seq #[.int r t1, .int (-n) t2] m := fun i ki hk => by
      have hik : i < ks.length := (List.getElem?_eq_some_iff.mp hk).1
      have hin : i < ns.length := by omega
      have en : ns[i]? = some ns[i] := List.getElem?_eq_getElem hin
      obtain ⟨r, er, ec⟩ := gc i _ en
      obtain ⟨_, n1, n2⟩ := rk_some er
      obtain ⟨v, ev, rp⟩ := rpk.get (i := i) (p := .tup [.int r, .int (-ns[i])]) (by
        rw [List.getElem?_map, en]
        show some (kpv g py ns[i]) = _
        unfold kpv; rw [er])
      obtain ⟨u, eu, ru⟩ := rvk.get ev
      rw [hk] at eu; cases eu
      cases rp with
      | tup h rr =>
        cases ru
        obtain ⟨its2, w2, ⟨o, g1, g2, m, g3⟩, _⟩ := I'.tuple (Same.seqT ex.sub h)
        obtain ⟨v1, v2, rfl, q1, q2⟩ := rps2' rr
        cases q1
        cases q2
        obtain ⟨u1, u2, rfl, w3, w4⟩ := w2.two
        obtain ⟨t1, rfl⟩ := w3
        obtain ⟨t2, rfl⟩ := w4
        exact ⟨_, r, _, o, t1, t2, m, en, er, ec, n1, n2, rfl, g1, g2, g3⟩
    -- the firsts
    have firsts : ∀ (l : List Value), (∀ ki ∈ l, ∃ (r m : Int) (a : Addr) (o : Obj) (t1 t2 : Tok) (q : Nat), ki = .ref a ∧ s'.heap.get? a = some o ∧ o.cls = .type "tuple" ∧ o.data = .seq #[.int r t1, .int m t2] q) → ∃ fs, KatTups s'.heap l fs ∧ fs.length = l.length ∧ ∀ v ∈ fs, Looks (model X.prog X.w) s'.heap (typeOf v) (.type "int") := fun l => by
      induction l with
      | nil => exact fun _ => ⟨[], KatTups.nil, rfl, fun v hv => by cases hv⟩
      | cons k0 l ih =>
        intro hh
        obtain ⟨r, m, a, o, t1, t2, q, rfl, g1, g2, g3⟩ := hh k0 (.head _)
        obtain ⟨fs, f1, f2, f3⟩ := ih fun ki hk => hh ki (.tail _ hk)
        refine ⟨.int r t1 :: fs, KatTups.cons g1 g2 g3 rfl f1, by simp [f2], fun v hv => ?_⟩
        rcases List.mem_cons.mp hv with rfl | hv
        · exact Looks.now
        · exact f3 v hv
    obtain ⟨fs, f1, f2, f3⟩ := firsts ks fun ki hk => by
      obtain ⟨i, hi⟩ := List.mem_iff_getElem?.mp hk
      obtain ⟨n, r, a, o, t1, t2, m, _, _, _, _, _, g0, g1, g2, g3⟩ := tup i ki hi
      exact ⟨r, -n, a, o, t1, t2, m, g0, g1, g2, g3⟩
    refine kat_kind f1 (by omega) f3 (by decide) ⟨rfl, fun i j C hi hj hC => ?_⟩
    rw [lit] at hi hj
    have gi' : ks[i]? = some ks[i] := List.getElem?_eq_getElem (by omega)
    have gj' : ks[j]? = some ks[j] := List.getElem?_eq_getElem (by omega)
    obtain ⟨n, r, a, o, t1, t2, m, _, _, ci, n1, n2, g0, g1, g2, g3⟩ := tup i _ gi'
    obtain ⟨n', r', a', o', t1', t2', m', _, _, cj, n1', n2', g0', g1', g2', g3'⟩ := tup j _ gj'
    show wpAny _ _ (keyLt' (tuples' _) (ks.getD i Value.none) (ks.getD j Value.none)) C _ s'
    rw [List.getD_eq_getElem?_getD, List.getD_eq_getElem?_getD, gi', gj', Option.getD_some, Option.getD_some, g0, g0']
    rw [show (Value.type "int" != Value.type "tuple") = true from by decide]
    refine lt_pair g1 g3 g1' g3' ?_
    have hC' : C (decide (cs.getD i 0 < cs.getD j 0)) s' := hC
    rw [List.getD_eq_getElem?_getD, List.getD_eq_getElem?_getD, ci, cj, Option.getD_some, Option.getD_some, code_lt n1 n2 n1' n2'] at hC'
    exact hC'
  · -- the end
    obtain ⟨e', Hf', H', kvs, I', ex, rvk, rpk⟩ := kp.st
    have pk := I'.pin (s.heap.objs.size + 3, seqObj "list" ks.toArray e') (List.mem_append_right _ (.head _))
    have pd := I'.pin (s.heap.objs.size + 1, seqObj "list" #[] e1) (List.mem_append_right _ (.tail _ (.head _)))
    have psz : p.size = ns.length := by rw [hpm.size, lit]
    -- what is handed back
    have es : p.toList.map (fun i => cs.getD i 0) = sortL cs := by
      refine pw_unique ?_ ?_ (sortL_pw cs)
      · have hp2 : p.toList.Perm (List.range its.length) := by
          have := Array.Perm.toList hpm
          simpa using this
        have := hp2.map (fun i => cs.getD i 0)
        refine (this.trans ?_).trans (sortL_perm cs).symm
        have e : (List.range its.length).map (fun i => cs.getD i 0) = cs := by
          apply List.ext_getElem?
          intro i
          rw [List.getElem?_map]
          by_cases hi' : i < cs.length
          · rw [List.getElem?_range (by omega), List.getElem?_eq_getElem hi']
            simp [List.getD_eq_getElem?_getD, List.getElem?_eq_getElem hi']
          · rw [List.getElem?_eq_none (l := cs) (by omega), List.getElem?_eq_none (by simp; omega)]; rfl
        rw [e]
      · rw [List.pairwise_map, List.pairwise_iff_getElem]
        intro i j hi' hj' hij
        have := hup i j (by omega) (by simpa [hpm.size] using hj')
        unfold Mi.kp at this
        have ei : p.getD i 0 = p.toList[i] := by simp at hi'; simp [Array.getD, hi']
        have ej : p.getD j 0 = p.toList[j] := by simp at hj'; simp [Array.getD, hj']
        rw [ei, ej] at this
        exact this
    have hout : IntsAre (p.toList.map fun i => its.getD i Value.none) ((sortL cs).map dec) := by
      rw [← es, List.map_map]
      refine ints_of (by simp) fun i u hu => ?_
      rw [List.getElem?_map] at hu ⊢
      cases ep : p.toList[i]? with
      | none => rw [ep] at hu; cases hu
      | some q =>
        rw [ep] at hu
        have hq' : q < its.length := by
          have hm : q ∈ p.toList := List.mem_of_getElem? ep
          have : q ∈ List.toArray (List.range its.length) := (Array.Perm.mem_iff hpm).mp (Array.mem_toList_iff.mp hm)
          simpa using this
        have eu : its[q]? = some its[q] := List.getElem?_eq_getElem hq'
        obtain ⟨n, t, en, eu'⟩ := gi q _ eu
        obtain ⟨r, er, ec⟩ := gc q n en
        obtain ⟨_, n1, n2⟩ := rk_some er
        refine ⟨n, t, ?_, ?_⟩
        · show some (dec (cs.getD q 0)) = some n
          rw [List.getD_eq_getElem?_getD, ec, Option.getD_some, dec_code n1 n2]
        · have : some (its.getD q Value.none) = some u := hu
          rw [List.getD_eq_getElem?_getD, eu, Option.getD_some] at this
          cases this
          exact eu'
    -- the heap
    have kept : ∀ b o, b ≠ s.heap.objs.size + 3 → b ≠ s.heap.objs.size + 1 → s'.heap.get? b = some o → h2.get? b = some o := fun b o n1 n2 e => b2.extBut b o n2 (b1.extBut b o n1 e)
    have hvals := vals_ints hout
    have hlen : ((sortL cs).map dec).length = ns.length := by rw [List.length_map, (sortL_perm cs).length_eq, lcs]
    have fresh2 : ∀ b o, H' b = some o → b ≠ s.heap.objs.size + 3 ∧ b ≠ s.heap.objs.size + 1 := fun b o e => ⟨fun z => (by rw [z, pk.2.1] at e; cases e), fun z => (by rw [z, pd.2.1] at e; cases e)⟩
    have I1 : Inv X pins σ H' s' := I'.pins_of fun q hq' => I'.pin q (List.mem_append_right _ (.tail _ (.tail _ hq')))
    have ncell : ∀ a o, I'.pin = I'.pin → s'.heap.get? a = some o → (∀ v, o.data ≠ .cell v) → ∀ z c, X.env.cells.lookup z = some c → c ≠ a := fun a o _ ho hc z c e q => by
      obtain ⟨v, ob, g1, g2⟩ := I'.cell z c e
      rw [q, ho] at g1
      cases g1
      exact hc v g2
    have new : ObjOk X.prog X.w (upd H' (s.heap.objs.size + 1) (.lst (((sortL cs).map dec).map V.int))) h2 (s.heap.objs.size + 1) (.lst (((sortL cs).map dec).map V.int)) :=
      ⟨by rw [List.length_map, hlen, sizeLine_eq]; omega, _, c2, hvals, b3⟩
    have hok : HOk X.prog X.w (upd H' (s.heap.objs.size + 1) (.lst (((sortL cs).map dec).map V.int))) h2 := fun a o e => by
      by_cases ha : a = s.heap.objs.size + 1
      · subst ha
        rw [upd_same] at e
        cases e
        exact new
      · rw [upd_ne ha] at e
        refine (I'.hok a o e).stay (fun b u hb q => ?_) (fun b q => ?_) fun b xs q => ?_
        · rcases hb with rfl | hb
          · exact kept _ _ (fresh2 _ _ e).1 (fresh2 _ _ e).2 q
          · exact kept _ _ (fresh2 _ _ hb).1 (fresh2 _ _ hb).2 q
        · rw [upd_ne (fresh2 _ _ q).2]; exact q
        · rw [upd_ne (fresh2 _ _ q).2]; exact q
    have nf : ∀ b ∈ X.fs, b ≠ s.heap.objs.size + 3 ∧ b ≠ s.heap.objs.size + 1 := fun b hb => ⟨fun z => pk.2.2.2.1 (by rw [← z]; exact hb), fun z => pd.2.2.2.1 (by rw [← z]; exact hb)⟩
    have I2 : Inv X pins σ (upd H' (s.heap.objs.size + 1) (.lst (((sortL cs).map dec).map V.int))) { s' with heap := h2, gens := s'.gens, drawn := s'.drawn, toks := s'.toks } := by
      refine I1.step (ch := [s.heap.objs.size + 3, s.heap.objs.size + 1]) (fun b hb => ?_) (fun b o n1 n2 n3 e n4 => ?_) (fun b o n1 n2 n3 e n4 => ?_) (fun b o n3 e n4 => ?_) (fun b o n3 e => ?_) (fun b xs e => ?_) (fun b o u e => ?_) (fun b ps e => ?_) (fun m hm => ?_) hok I1.bare
      · rcases List.mem_cons.mp hb with rfl | hb
        · refine ⟨.inr geK, pk.2.2.1, ncell _ _ rfl pk.1 pk.2.2.2.2, fun q hq' => neK e1 q ?_⟩
          rcases List.mem_append.mp hq' with hq' | hq'
          · exact List.mem_append_left _ hq'
          · exact List.mem_append_right _ (.tail _ hq')
        · rw [List.mem_singleton.mp hb]
          exact ⟨.inr geD, pd.2.2.1, ncell _ _ rfl pd.1 pd.2.2.2.2, fun q hq' z => by have := pinlt q hq'; rw [z] at this; exact absurd this (Nat.not_lt.mpr gD)⟩
      · exact kept b o (fun z => n3 (by simp [z])) (fun z => n3 (by simp [z])) e
      · exact ⟨o.slots, kept b o (fun z => n3 (by simp [z])) (fun z => n3 (by simp [z])) e⟩
      · rw [upd_ne fun z => n3 (by simp [z])]; exact n4
      · exact ⟨o, kept b o (fun z => n3 (by simp [z])) (fun z => n3 (by simp [z])) e⟩
      · rw [upd_ne (fresh2 _ _ e).2]; exact e
      · rw [upd_ne (fresh2 _ _ e).2]; exact e
      · exact ⟨#[], by rw [upd_ne (fresh2 _ _ e).2, e]; simp⟩
      · obtain ⟨o, es', ep', ho', r'⟩ := hm
        exact ⟨o, es', ep', kept _ _ (Ne.symm pk.2.2.1) (Ne.symm pd.2.2.1) ho', r'⟩
    refine ⟨_, .ref _, _, _, rfl, I2, rfl, ex.trans (Ext.new ex.sub pd.2.1 _), ?_⟩
    refine .lst (SqL.of upd_same) ?_
    have := rps_ints (cl := cl) X.K (upd Hf' (s.heap.objs.size + 1) (.lst (((sortL cs).map dec).map V.int))) ((sortL cs).map dec)
    rw [List.map_map (g := PV.int)] at this
    exact this
end
end Mi
set_option Elab.async false
set_option linter.all false
set_option autoImplicit false
set_option maxRecDepth 100000
set_option maxHeartbeats 4000000
namespace Mi
open PySem PySem.Spec PyProof.Rows L2
def compLR (n : Nat) (t : FT) (f : FE) (ρ : MEnv) : List PV → R (List PV)
  | [] => .ok []
  | p :: r => match t (padTo n ρ ++ [some p]) with
    | .ok true => (match f (padTo n ρ ++ [some p]) with
      | .ok v => (match compLR n t f ρ r with
        | .ok vs => .ok (v :: vs)
        | .exc c => .exc c
        | .stuck => .stuck)
      | _ => .stuck)
    | .ok false => compLR n t f ρ r
    | .exc c => .exc c
    | .stuck => .stuck
def compKR (n : Nat) (t : FT) (f : FE) (ρ : MEnv) (l : List PV) : R PV := if l.length ≤ 1000000 then (match compLR n t f ρ l with
  | .ok vs => .ok (.lst vs)
  | .exc c => .exc c
  | .stuck => .stuck) else .stuck
def fCompR (n : Nat) (it : FA) (t : FT) (f : FE) : FE := fun ρ => (it ρ).bind (compKR n t f ρ)
theorem compLR_cons {n : Nat} {t : FT} {f : FE} {ρ : MEnv} {p : PV} {r : List PV} (h : compLR n t f ρ (p :: r) ≠ .stuck) :
    (t (padTo n ρ ++ [some p]) = .ok false ∧ compLR n t f ρ (p :: r) = compLR n t f ρ r) ∨ (t (padTo n ρ ++ [some p]) = .ok true ∧ ∃ v, f (padTo n ρ ++ [some p]) = .ok v ∧ compLR n t f ρ (p :: r) = combX [v] (compLR n t f ρ r)) ∨
      (∃ c, t (padTo n ρ ++ [some p]) = .exc c ∧ compLR n t f ρ (p :: r) = .exc c) := by
  have e : compLR n t f ρ (p :: r) = match t (padTo n ρ ++ [some p]) with
    | .ok true => (match f (padTo n ρ ++ [some p]) with
      | .ok v => (match compLR n t f ρ r with
        | .ok vs => .ok (v :: vs)
        | .exc c => .exc c
        | .stuck => .stuck)
      | _ => .stuck)
    | .ok false => compLR n t f ρ r
    | .exc c => .exc c
    | .stuck => .stuck := by rw [compLR]
  rw [e] at h ⊢
  cases ht : t (padTo n ρ ++ [some p]) with
  | stuck => rw [ht] at h; exact absurd rfl h
  | exc c => exact .inr (.inr ⟨c, rfl, rfl⟩)
  | ok b =>
    cases b with
    | false => exact .inl ⟨rfl, rfl⟩
    | true =>
      rw [ht] at h
      cases hf : f (padTo n ρ ++ [some p]) with
      | stuck => rw [hf] at h; exact absurd rfl h
      | exc c => rw [hf] at h; exact absurd rfl h
      | ok v => exact .inr (.inl ⟨rfl, v, rfl, by cases compLR n t f ρ r <;> rfl⟩)
section
variable (X : Cx) (cl : Nat → Addr)
def FlyT (pins : List (Addr × Obj)) (σ : SV) (Hf H : Hp) (r : R Bool) (u : Value) (s : Shared) : Prop :=
  ∃ (c : Nat) (a : Addr) (Hf' H' : Hp) (B : Heap) (a0 : Value), r = .exc c ∧ u = .ref a ∧ Inv X pins σ H' s ∧ Ext Hf H Hf' H' ∧ Cov X pins H' B s.heap ∧ NoD a s.heap ∧ Heap.FlyingW B X.stack a (.ref (cl c)) a0 s.heap
structure MTX (e : Expr) (t : FT) : Prop where
  run : ∀ (pins : List (Addr × Obj)) (s : Shared) (σ : SV) (Hf0 H0 Hf H : Hp) (ρ : MEnv), Inv X pins σ H s → Rep X.K cl Hf0 H0 Hf H σ ρ → t ρ ≠ .stuck → (∀ b ∈ X.ex, ∃ p ∈ pins, p.1 = b) →
    wpAny (model X.prog X.w) X.A (isTrue e X.env (eval e X.env)) (OkT X pins σ Hf H (t ρ)) (FlyT X cl pins σ Hf H (t ρ)) s
end
section
variable {X : Cx} {cl : Nat → Addr}
theorem mtx_isN {a : Expr} {fa : FE} {j : Nat} {pos pos' : Pos} (ha : MEX X cl a fa) : MTX X cl (.Compare a [.Is] [.Constant .none j pos'] pos) (tVal (fUn cIsN fa)) := by
  refine ⟨?_⟩
  intro pins s σ Hf0 H0 Hf H ρ I r hs hex
  have assoc : ∀ {β γ δ : Type} (x : R β) (f : β → R γ) (g : γ → R δ), (x.bind f).bind g = x.bind fun y => (f y).bind g := fun x f g => by cases x <;> rfl
  unfold tVal fUn at hs ⊢
  rw [assoc] at hs ⊢
  refine wpAny_isTrue_Compare1 (wpAny_mono (ha.run pins s σ Hf0 H0 Hf H ρ I r (fun z => hs (by rw [z]; rfl)) hex) (fun u s1 q => ?_) fun u s1 q => ?_) (nobehind _ (by decide) (by decide))
  · obtain ⟨p, v, Hf1, H1, e1, I1, rv, x1, rp⟩ := q
    rw [e1]
    refine Constant_none (is_none_gen (wpAny_truthy_bool ⟨Hf1, H1, ?_, I1, x1⟩))
    rw [rv.none_iff]
    cases rp <;> rfl
  · obtain ⟨c, a', Hf', H', B, a0, e1, r1⟩ := q
    exact ⟨c, a', Hf', H', B, a0, by rw [e1]; rfl, r1⟩
end
section
variable {M : Model} {A : Around} {E : Value → Shared → Prop} {s : Shared} {env : Env}
def postR (M : Model) (A : Around) (E : Value → Shared → Prop) (use : Option (Value → Sem Unit)) (Q : Value → Shared → Prop) (acc : Value) (cenv : Env) (r : Result) (s' : Shared) : Prop :=
  match r with
  | .ok _ => compPost M A E use Q acc cenv.locals (.ok .next) s'
  | .error x => ∃ m, s'.heap.Ns cenv.locals m ∧ ∀ h', Heap.SameBut cenv.locals s'.heap h' → wpAny M A (PySem.passOn "comprehension.variables-let-go" x cenv : Sem Value) Q E { s' with heap := h' }
theorem comp_freeR {use : Option (Value → Sem Unit)} {e : Expr} {scope : Scope} {pos : Pos} {newAcc first : Sem Value} {g : Comprehension} {gs : List Comprehension} {cl : List (Str × Addr)} {Q : Value → Shared → Prop}
    (hcl : clausesOf e = g :: gs) (hs : ∀ x, foldedSetIterable g.iter env x = pure x) (hclos : closureFor scope env = pure cl)
    (hkind : scope.kind = .function) (hnames : ∀ x ∈ scope.names, x.2 = .local → scope.names.lookup x.1 = some .local)
    (h : wpAny M A first (fun x s₁ => wpAny M A (pyIter x) (fun it s₂ => wpAny M A newAcc (fun acc s₃ =>
      wpAny M A (newFunctionEnv scope env.globals cl [] env.qual none .none (some env)) (fun cenv s₄ =>
        codeAny M A (.compStart e 0 it acc { cenv with scope := relabel scope env }) (postR M A E use Q acc { cenv with scope := relabel scope env }) s₄) E s₃) E s₂) E s₁) E s) :
    wpAny M A (comprehension e scope env pos newAcc false first use) Q E s := by
  unfold comprehension
  rw [hclos, hcl]
  refine wpAny_bind (wpAny_mono h (fun x s₁ h₁ => wpAny_bind (wpAny_standAt (wpAny_bind (wpAny_of_eq (hs x) (wpAny_bind (wpAny_holding (wpAny_mono h₁ (fun it s₂ h₂ =>
    wpAny_standIf (wpAny_bind (wpAny_mono h₂ (fun acc s₃ h₃ => wpAny_bind (wpAny_pure (wpAny_bind (wpAny_mono h₃ (fun cenv s₄ h₄ => ?_) fun _ _ h' => h')))) fun _ _ h' => h')))
      fun _ _ h' => h'))))))) fun _ _ h' => h')
  dsimp only
  have hv : ∀ x ∈ (scope.names.filter fun x => (x.2 == .local || x.2 == .cell) && x.1 != (".0" : Str)).reverse, x.2 = .local →
      Env.kindOf { cenv with scope := relabel scope env } x.1 = some .local := fun x hx hl => lookup_relabel_local (hnames x (List.mem_filter.mp (List.mem_reverse.mp hx)).1 hl)
  have hv' : ∀ x ∈ (scope.names.filter fun x => (x.2 == .local || x.2 == .cell) && x.1 != (".0" : Str)).reverse.drop 1 ++ (scope.names.filter fun x => (x.2 == .local || x.2 == .cell) && x.1 != (".0" : Str)).reverse.take 1,
      x.2 = .local → Env.kindOf { cenv with scope := relabel scope env } x.1 = some .local := fun x hx hl => by
    rcases List.mem_append.mp hx with h1 | h1
    · exact hv x (List.mem_of_mem_drop h1) hl
    · exact hv x (List.mem_of_mem_take h1) hl
  refine wpAny_holding (wpAny_bind (wpAny_attempt (wpAny_holding (wpAny_run (codeAny_mono h₄ fun r s' hr => ?_)))))
  cases r with
  | ok f =>
    cases use with
    | none =>
      obtain ⟨m, hn, hr⟩ := hr
      exact wpAny_bind (wpAny_holding (wpAny_comp_letGo (cenv := { cenv with scope := relabel scope env }) hkind _ s' m hv hn fun h' m' _ hs' => wpAny_pure (hr h' hs')))
    | some u =>
      refine wpAny_bind (wpAny_rule (wpAny_bind (wpAny_holding (wpAny_mono (show wpAny _ _ (u acc) _ _ _ from hr) (fun _ s'' hr' => ?_) fun _ _ h' => h'))))
      obtain ⟨m, hn, hr'⟩ := hr'
      exact wpAny_bind (wpAny_comp_letGo (cenv := { cenv with scope := relabel scope env }) hkind _ s'' m hv' hn fun h' m' _ hs' => wpAny_pure (hr' h' hs'))
  | error x =>
    obtain ⟨m, hn, hr⟩ := hr
    exact wpAny_bind (wpAny_holding (wpAny_comp_letGo (cenv := { cenv with scope := relabel scope env }) hkind _ s' m hv hn fun h' m' _ hs' => hr h' hs'))
end
section
variable {prog : Program} {w : World} {A : Around} {R : Result → Shared → Prop} {s : Shared}
theorem compLoop_letR {elt target iter : Expr} {ifs : List Expr} {scope : Scope} {pos : Pos} {it acc : Value} {env : Env} (I : Nat → Shared → Prop)
    (turn : ∀ n s, I n s → wpAny (model prog w) A (pyNext it) (fun r s₁ => match r with
      | none => R (.ok .next) s₁
      | some v => wpAny (model prog w) A (letOwnedTupleGo target it v) (fun _ s₁' => wpAny (model prog w) A (assign target env v) (fun _ s₂ =>
          wpAny (model prog w) A (forIn ifs true fun c r => if r = true then do let ok ← isTrue c env (eval c env); pure (ForInStep.yield ok) else pure (ForInStep.yield r)) (fun ok s₃ =>
            if ok = true then wpAny (model prog w) A (eval elt env) (fun x s₄ =>
              wpAny (model prog w) A (call (.builtin "list.append") [acc, x]) (fun _ s₅ => ∃ m, m < n ∧ I m s₅) (fun _ _ => False) s₄) (fun _ _ => False) s₃
            else ∃ m, m < n ∧ I m s₃) (notedBy (model prog w) A env fun x s' => R (.error x) s') s₂) (fun _ _ => False) s₁') (fun _ _ => False) s₁) (fun _ _ => False) s)
    (n : Nat) (h : I n s) :
    codeAny (model prog w) A (.compLoop (.ListComp elt [⟨target, iter, ifs, 0⟩] scope pos) 0 it acc env) R s := by
  refine codeAny_loop rfl I (fun n s hI => ?_) n h
  show wpAny _ A ((compTurn (.ListComp elt [⟨target, iter, ifs, 0⟩] scope pos) 0 it acc env).onRaise (fun x => do noteFrame x env; theTreesLotGoes x)) _ _ s
  refine wpAny_noted ?_
  rw [compTurn_list]
  refine wpAny_bind (wpAny_standAt (wpAny_bind (wpAny_mono (turn n s hI) (fun r s₁ h₁ => ?_) fun _ _ h' => h'.elim)))
  cases r with
  | none => exact wpAny_pure h₁
  | some v =>
    refine wpAny_bind (wpAny_mono h₁ (fun _ s₁' h₁' => ?_) fun _ _ h' => h'.elim)
    refine wpAny_bind (wpAny_mono h₁' (fun _ s₂ h₂ => wpAny_bind (wpAny_mono h₂ (fun ok s₃ h₃ => ?_) fun _ _ h' => h')) fun _ _ h' => h'.elim)
    cases ok with
    | false => exact wpAny_pure ⟨rfl, h₃⟩
    | true =>
      exact wpAny_bind (wpAny_bind (wpAny_mono h₃ (fun x s₄ h₄ => wpAny_bind (wpAny_mono h₄ (fun _ s₅ h₅ => wpAny_pure (wpAny_pure ⟨rfl, h₅⟩)) fun _ _ h' => h'.elim)) fun _ _ h' => h'.elim))
end
section
variable {X : Cx} {cl : Nat → Addr}
theorem comp_runR {elt iter tc : Expr} {Ns : List Str} {x : Str} {px pos pos' : Pos} {sc : Scope} {cs : List (Str × Addr)} {fa : FA} {t : FT} {f : FE} {n : Nat} {use : Option (Value → Sem Unit)} {Q : Value → Shared → Prop} {E : Value → Shared → Prop}
    {pins : List (Addr × Obj)} {s : Shared} {σ : SV} {Hf0 H0 Hf H : Hp} {ρ : MEnv} (W : Own X) (hc : X.calm = true) (c0 : X.Ok → Cap X Ns x sc cs) (hn : X.N.length = n) (hnd : (Ns ++ [x]).Nodup) (hi : MI X cl (.Name x px) iter fa)
    (ht : ∀ C s H fp, MTX (cxB X Ns x sc cs C s H fp) cl tc t) (hb : ∀ C s H fp, ME (cxB X Ns x sc cs C s H fp) cl elt f) (hfs : ∀ y, foldedSetIterable iter X.env y = pure y)
    (I : Inv X pins σ H s) (r : Rep X.K cl Hf0 H0 Hf H σ ρ) (hs : fCompR n fa t f ρ ≠ .stuck) (hEE : ∀ u s', ExP X cl pins σ Hf H (fCompR n fa t f ρ) u s' → E u s')
    (hQ : ∀ (rs : List PV) (s5 : Shared) (Hf5 H5 : Hp) (l C : Addr), fCompR n fa t f ρ = .ok (.lst rs) → Inv X pins σ H5 s5 → Ext Hf H Hf5 H5 → Rp X.K cl Hf5 (.ref l) (.lst rs) → FpOk X pins H5 C → (∃ m, s5.heap.Ns C m) → compPost (model X.prog X.w) X.A E use Q (.ref l) C (.ok .next) s5) :
    wpAny (model X.prog X.w) X.A (comprehension (.ListComp elt [⟨.Name x px, iter, [tc], 0⟩] sc pos) sc X.env pos' (newList []) false (eval iter X.env) use) Q E s := by
  have c := c0 I.ok
  have hfr : fa ρ ≠ .stuck := fun z => hs (by unfold fCompR; rw [z]; rfl)
  have hE : ∀ u s', ExP X cl pins σ Hf H (fa ρ) u s' → E u s' := fun u s' ⟨d, e1, y⟩ => hEE u s' ⟨d, by unfold fCompR; rw [e1]; rfl, y⟩
  refine comp_freeR (use := use) rfl hfs c.clos c.kind c.names (wpAny_mono (hi pins s σ Hf0 H0 Hf H ρ I r hfr) (fun xv s1 h1 => wpAny_mono h1 (fun itv s2 h2 => ?_) hE) hE)
  obtain ⟨ps, vs, Hf2, e1, it, fp, tn, J, H2, e, I2, T, st2, f2, x2, ov, rps⟩ := h2
  subst e
  have ef : fCompR n fa t f ρ = compKR n t f ρ ps := by unfold fCompR; rw [e1]; rfl
  have hs' : compKR n t f ρ ps ≠ .stuck := by rw [← ef]; exact hs
  have hz : ps.length ≤ 1000000 := by
    apply Decidable.byContradiction
    intro z
    unfold compKR at hs'
    rw [if_neg z] at hs'; exact absurd rfl hs'
  have ek : compKR n t f ρ ps = match compLR n t f ρ ps with
    | .ok vs => .ok (.lst vs)
    | .exc c => .exc c
    | .stuck => .stuck := by unfold compKR; rw [if_pos hz]
  have hL : compLR n t f ρ ps ≠ .stuck := fun z => hs' (by rw [ek, z])
  generalize hres : fCompR n fa t f ρ = res at *
  have nsm : H2 s2.heap.objs.size = none := I2.hok.fresh (Nat.le_refl _)
  have fpl : ∀ b ∈ fp, b < s2.heap.objs.size := fun b hb => by
    obtain ⟨o, ho, _⟩ := T.obj _ _ st2 b hb
    exact Heap.lt_size ho
  refine wpAny_newList ?_
  have k3 : ∀ b u, s2.heap.get? b = some u → (s2.heap.push { cls := .type "list", data := .seq ([] : List Value).toArray }).get? b = some u := fun b u q => Heap.get?_push_of_some _ q
  have I3 : Inv X pins σ (upd H2 s2.heap.objs.size (.lst [])) { s2 with heap := s2.heap.push { cls := .type "list", data := .seq ([] : List Value).toArray } } :=
    I2.laid (a := s2.heap.objs.size) (o := .lst []) (t' := s2.toks) k3 (Nat.le_refl _) ⟨Nat.zero_le _, [], 0, .nil, Heap.get?_push_size _ rfl⟩
  generalize hl : s2.heap.objs.size = l at *
  have hf3 : ∀ b ∈ fp, FpOk X pins (upd H2 l (.lst [])) b := fun b hb => ⟨by rw [upd_ne (Nat.ne_of_lt (fpl b hb))]; exact (f2 b hb).1, (f2 b hb).2⟩
  generalize hs3 : ({ s2 with heap := s2.heap.push { cls := .type "list", data := .seq ([] : List Value).toArray } } : Shared) = s3 at I3 ⊢
  have hl3 : ∀ b ∈ fp, b < s3.heap.objs.size := fun b hb => by
    rw [← hs3]
    show b < (s2.heap.push _).objs.size
    rw [Heap.size_push, hl]; exact Nat.lt_succ_of_lt (fpl b hb)
  have st3 : tn 0 s3.heap := T.keep _ _ _ st2 fun b _ o e => by rw [← hs3]; exact k3 b o e
  refine wpAny_newFunctionEnv c.nocell (by intro y hy; simp at hy) (fun h1 hn1 hsb => ?_) c.kind
  have kC : ∀ b o, s3.heap.get? b = some o → h1.get? b = some o := fun b o e => hsb.extBut b o (Nat.ne_of_lt (Heap.lt_size e)) (Heap.get?_push_of_some _ e)
  have IB := cxB_inv (tk := s3.toks + ([] : List (Str × Value)).length) I3 c hf3 hl3 hn1 kC
  have x3 : Ext Hf2 H2 Hf2 (upd H2 l (.lst [])) := Ext.newH x2.sub nsm (.lst [])
  have hf2l : Hf2 l = none := x2.sub.free nsm
  have stB : tn 0 h1 := T.keep _ _ _ st3 fun b _ o e => kC b o e
  have rk := r.keep x2
  have hsl : σ.length = n := by rw [I.len, hn]
  have hvp := rps.length
  have hNn : Ns.length = n := c.len.trans hn
  have hNi : (Ns ++ [x])[n]? = some x := by rw [List.getElem?_append_right (by omega), hNn]; simp
  have hLx : (relabel sc X.env).names.lookup x = some .local := lookup_relabel_local c.here
  have hCf : ∀ b ∈ fp, b ≠ s3.heap.objs.size := fun b hb => Nat.ne_of_lt (hl3 b hb)
  have stat : ∀ {H' : Hp}, (∀ b ∈ fp, H' b = none) → ∀ b ∈ fp, FpOk (cxB X Ns x sc cs s3.heap.objs.size s3 (upd H2 l (.lst [])) fp) [] H' b := fun hn' => cxB_fp c I3 hCf hf3 hn'
  have hbb := hb s3.heap.objs.size s3 (upd H2 l (.lst [])) fp
  have htt := ht s3.heap.objs.size s3 (upd H2 l (.lst [])) fp
  have loop : codeAny (model X.prog X.w) X.A (.compLoop (.ListComp elt [⟨.Name x px, iter, [tc], 0⟩] sc pos) 0 (.ref it) (.ref l) (compEnvC sc cs s3.heap.objs.size X.env))
      (postR (model X.prog X.w) X.A E use Q (.ref l) (compEnvC sc cs s3.heap.objs.size X.env)) { s3 with heap := h1, toks := s3.toks + ([] : List (Str × Value)).length } := by
    refine compLoop_letR (fun m s' => ∃ (k : Nat) (ys : List V) (qs : List PV) (Hf' H' : Hp) (v : Option V), Inv (cxB X Ns x sc cs s3.heap.objs.size s3 (upd H2 l (.lst [])) fp) [] (σ ++ [v]) H' s' ∧ tn k s'.heap ∧ (∀ b ∈ fp, H' b = none) ∧ Ext Hf2 H2 Hf' H' ∧ H' l = some (.lst ys) ∧ Hf' l = none ∧
      Rps X.K cl Hf' ys qs ∧ m = ps.length - k ∧ k ≤ ps.length ∧ qs.length ≤ k ∧ combX qs (compLR n t f ρ (ps.drop k)) = compLR n t f ρ ps) ?_ ps.length
      ⟨0, [], [], Hf2, upd H2 l (.lst []), none, IB, stB, fun b hb => (hf3 b hb).1, x3, upd_same, hf2l, .nil, by omega, Nat.zero_le _, Nat.zero_le _, combX_nil _⟩
    rintro m s4 ⟨k, ys, qs, Hf4, H4, v4, I4, st4, fr4, x4, hl4, hfl4, rq, rfl, hk, hqk, e4⟩
    have smH : Same Hf2 H4 := x4.frz.trans x4.sub
    by_cases hlt : k < ps.length
    · obtain ⟨go, yl⟩ := (ov H4 k smH).1 (by rw [hvp]; exact hlt)
      refine wpAny_mono (T.item (cxB X Ns x sc cs s3.heap.objs.size s3 (upd H2 l (.lst [])) fp) rfl rfl rfl hc k [] s4 (σ ++ [v4]) H4 (fun _ _ => False) I4 (stat fr4) st4 go) (fun rr s5 ⟨u, hr, h5⟩ => ?_) fun _ _ z => z
      subst hr
      refine thn h5 fun _ s6 ⟨x6, H6, I6, r6, y6, st6, fr6⟩ => ?_
      obtain ⟨eH, ex6⟩ := yl x6 H6 y6
      subst eH
      obtain ⟨p6, ep6, rp6⟩ := rps.get' ex6
      have rp6' := rp6.keep x4.frz
      have hdrop : ps.drop k = p6 :: ps.drop (k + 1) := by
        rw [List.drop_eq_getElem_cons hlt]
        rw [List.getElem?_eq_getElem hlt] at ep6
        rw [Option.some.inj ep6]
      rw [hdrop] at e4
      have hT4 : compLR n t f ρ (p6 :: ps.drop (k + 1)) ≠ .stuck := combX_ns (by rw [e4]; exact hL)
      have I6' := I6.pinned (stat fr6) (T.obj _ _ st6)
      refine wpAny_assign_Name (store_ok (X := cxB X Ns x sc cs s3.heap.objs.size s3 (upd H2 l (.lst [])) fp) I6' hnd hNi (.inl hLx) r6 (fun s7 I7 => ?_) (.inr hLx))
      have eσ : (σ ++ [v4]).set n (some x6) = σ ++ [some x6] := by rw [← hsl, List.set_append_right _ _ (Nat.le_refl _)]; simp
      rw [eσ] at I7
      have r7 := (rk.keep x4).snoc rp6'
      rw [hsl] at r7
      have again : ∀ {s9 : Shared} {Hf9 H9 : Hp} {ys9 : List V} {qs9 : List PV}, Inv (cxB X Ns x sc cs s3.heap.objs.size s3 (upd H2 l (.lst [])) fp) ([] ++ pinsAt fp s6.heap) (σ ++ [some x6]) H9 s9 → Ext Hf2 H2 Hf9 H9 → H9 l = some (.lst ys9) → Hf9 l = none → Rps X.K cl Hf9 ys9 qs9 → qs9.length ≤ k + 1 →
          combX qs9 (compLR n t f ρ (ps.drop (k + 1))) = compLR n t f ρ ps →
          ∃ m, m < ps.length - k ∧ ∃ (k : Nat) (ys : List V) (qs : List PV) (Hf' H' : Hp) (v : Option V), Inv (cxB X Ns x sc cs s3.heap.objs.size s3 (upd H2 l (.lst [])) fp) [] (σ ++ [v]) H' s9 ∧ tn k s9.heap ∧ (∀ b ∈ fp, H' b = none) ∧ Ext Hf2 H2 Hf' H' ∧ H' l = some (.lst ys) ∧ Hf' l = none ∧
            Rps X.K cl Hf' ys qs ∧ m = ps.length - k ∧ k ≤ ps.length ∧ qs.length ≤ k ∧ combX qs (compLR n t f ρ (ps.drop k)) = compLR n t f ρ ps := fun {s9 Hf9 H9 ys9 qs9} I9 x9 hl9 hfl9 rq9 hq9 ec9 => by
        refine ⟨ps.length - (k + 1), by omega, k + 1, ys9, qs9, Hf9, H9, some x6, I9.unpinned, T.keep _ _ _ st6 fun b hb o e => (I9.pin (b, o) (List.mem_append_right _ (List.mem_append_right _ (mem_pinsAt hb e)))).1, fun b hb => ?_, x9, hl9, hfl9, rq9, rfl, hlt, hq9, ec9⟩
        obtain ⟨o, e, d⟩ := T.obj _ _ st6 b hb
        exact (I9.pin (b, o) (List.mem_append_right _ (List.mem_append_right _ (mem_pinsAt hb e)))).2.1
      have nl4 : H6 l ≠ none := by rw [hl4]; intro z; cases z
      have hpn : ∀ b ∈ fp, ∃ p ∈ [] ++ pinsAt fp s6.heap, p.1 = b := fun b hb => by
        obtain ⟨o, e, d⟩ := T.obj _ _ st6 b hb
        exact ⟨(b, o), List.mem_append_right _ (mem_pinsAt hb e), rfl⟩
      have tests : ∀ {b : Bool}, t (padTo n ρ ++ [some p6]) = .ok b → ∀ {Q2 : Bool → Shared → Prop}, (∀ s' Hf' H', Inv (cxB X Ns x sc cs s3.heap.objs.size s3 (upd H2 l (.lst [])) fp) ([] ++ pinsAt fp s6.heap) (σ ++ [some x6]) H' s' → Ext Hf4 H6 Hf' H' → Q2 b s') → ∀ {E2 : Value → Shared → Prop}, wpAny (model X.prog X.w) X.A (forIn [tc] true fun c r => if r = true then do let ok ← isTrue c (cxB X Ns x sc cs s3.heap.objs.size s3 (upd H2 l (.lst [])) fp).env (eval c (cxB X Ns x sc cs s3.heap.objs.size s3 (upd H2 l (.lst [])) fp).env); pure (ForInStep.yield ok) else pure (ForInStep.yield r)) Q2 E2 s7 := fun {b} et {Q2} ok {E2} => by
        refine wpAny_tests_one (wpAny_mono (htt.run _ s7 _ Hf0 H0 Hf4 H6 _ I7 r7 (by rw [et]; intro z; cases z) hpn) (fun b' s' q => ?_) fun u s' q => ?_)
        · obtain ⟨Hf', H', e1, I', x⟩ := q
          rw [et] at e1; cases e1
          exact ok s' Hf' H' I' x
        · obtain ⟨c, _, _, _, _, _, e1, _⟩ := q
          rw [et] at e1; cases e1
      rcases compLR_cons hT4 with ⟨et, e5⟩ | ⟨et, v, ev, e5⟩ | ⟨d, et, e5⟩
      · refine tests et fun s8 Hf8 H8 I8 x8 => ?_
        rw [if_neg (by decide)]
        exact again I8 (x4.trans x8) (x8.all _ _ hl4) (by rw [x8.old l nl4]; exact hfl4) (rq.keep x8.frz) (by omega) (by rw [← e5]; exact e4)
      · refine tests et fun s8 Hf8 H8 I8 x8 => ?_
        rw [if_pos rfl]
        have r8 := r7.keep x8
        refine wpAny_mono (hbb.run' _ s8 _ Hf0 H0 Hf8 H8 _ I8 r8 (by rw [ev]; intro z; cases z)) (fun u s9 q9 => ?_) fun u s9 q9 => ?_
        · obtain ⟨p9, v9, Hf9, H9, e9, I9, rv9, x9, rp9⟩ := q9
          rw [ev] at e9; cases e9
          have hl8 : H8 l = some (.lst ys) := x8.all _ _ hl4
          have hl9 : H9 l = some (.lst ys) := x9.all _ _ hl8
          have hfl9 : Hf9 l = none := by rw [x9.old l (by rw [hl8]; intro z; cases z), x8.old l nl4]; exact hfl4
          refine thn (mt_append (X := cxB X Ns x sc cs s3.heap.objs.size s3 (upd H2 l (.lst [])) fp) _ s9 _ H9 (.ref l) [v9] (.ref l) [u] (fun w H' => H' = upd H9 l (.lst (ys ++ [v9]))) I9 rfl (.cons rv9 .nil) ⟨l, ys, v9, rfl, rfl, hl9, by rw [rq.length]; exact Nat.lt_of_le_of_lt (show qs.length ≤ 1000000 by omega) (by decide), rfl⟩) fun w s10 ⟨w', H10, I10, _, q10⟩ => ?_
          subst q10
          have x49 := (x4.trans x8).trans x9
          have x10 : Ext Hf2 H2 Hf9 (upd H9 l (.lst (ys ++ [v9]))) := by
            refine ⟨fun b o q => ?_, x49.frz, fun b o q => ?_, x49.old⟩
            · have e : b ≠ l := fun z => by rw [z, nsm] at q; cases q
              rw [upd_ne e]; exact x49.all b o q
            · have e : b ≠ l := fun z => by rw [z, hfl9] at q; cases q
              rw [upd_ne e]; exact x49.sub b o q
          exact again I10 x10 upd_same hfl9 (((rq.keep x8.frz).keep x9.frz).append (.cons rp9 .nil)) (by rw [List.length_append]; simp; omega) (by rw [← combX_app, ← e5]; exact e4)
        · obtain ⟨d, e9, _⟩ := q9
          rw [ev] at e9; cases e9
      · refine wpAny_tests_one (wpAny_mono (htt.run _ s7 _ Hf0 H0 Hf4 H6 _ I7 r7 (by rw [et]; intro z; cases z) hpn) (fun b' s' q => ?_) fun u s9 q9 => ?_)
        · obtain ⟨Hf', H', e1, I', x⟩ := q
          rw [et] at e1; cases e1
        obtain ⟨d', a, Hf9, H9, B, a0, e9, rfl, I9, x9, cov9, nd9, fl9⟩ := q9
        rw [et] at e9; cases e9
        rw [e5] at e4
        have eres : res = .exc d := by rw [ef, ek, ← e4]; rfl
        have IX : Inv X pins σ H9 s9 := I3.call' I9.os I9.base I9.hok I9.bare fun b hb => ⟨(hf3 b hb).2.2.2.1, (hf3 b hb).2.1, (hf3 b hb).2.2.2.2.1, (hf3 b hb).2.2.2.2.2⟩
        have there : ∀ b, Stands X pins H9 b → H9 b ≠ none ∨ ∃ o, s3.heap.get? b = some o := fun b hst => by
          rcases hst with h | ⟨p, hp, e⟩ | ⟨o, h⟩ | ⟨y, h⟩
          · exact .inl h
          · exact .inr ⟨_, by rw [← e]; exact (I3.pin p hp).1⟩
          · exact .inr (I3.base.there b o h (W.ex b))
          · obtain ⟨v, o', q, _⟩ := I3.cell y b h
            exact .inr ⟨o', q⟩
        have neC : ∀ b, Stands X pins H9 b → b ≠ s3.heap.objs.size := fun b hst z => by
          rcases there b hst with h | ⟨o, h⟩
          · rw [z] at h; exact h I9.free
          · exact absurd (Heap.lt_size h) (by rw [z]; exact Nat.lt_irrefl _)
        have covX : Cov X pins H9 (PySem.W.hideAll B [s3.heap.objs.size]) s9.heap := fun b o e hst hn => by
          refine PySem.W.hideAll_get _ (cov9 b o e ?_ hn) (fun z => neC b hst (List.mem_singleton.mp z))
          rcases there b hst with h | h
          · exact .inl h
          · exact .inr (.inr (.inl h))
        have hfC : FpOk X pins H9 s3.heap.objs.size := I3.fpOk (Nat.le_refl _) I9.free
        have hCs : s3.heap.objs.size ∉ frs X.stack := fun z => by
          obtain ⟨_, o, ho, _⟩ := I3.stack.mem z
          exact absurd (Heap.lt_size ho) (Nat.lt_irrefl _)
        obtain ⟨m9, hn9, _⟩ := I9.loc
        show wpAny _ X.A (noteFrame (.ref a) X.env) _ _ s9
        refine note_ok W I.ok.frames nd9 (.inr (.inr fl9)) fun h5 hh u5 nd5 => ?_
        have hh' := held_hide (C := s3.heap.objs.size) hh
        have I5 := Inv.upto W IX covX hh'.1 u5 (tk := s9.toks)
        have c5 := covX.upto W IX hh'.1
        have hn5 : h5.Ns s3.heap.objs.size m9 := u5.ns hn9
        refine ⟨m9, hn5, fun h6 hsC => ?_⟩
        have hh6 := held_go hh' (PySem.W.hideAll_none _ List.mem_cons_self) hCs hn5 hsC
        have I6 := inv_letgo I5 hfC hsC
        have c6 := Cov.upto (s := { s9 with heap := h5 }) W I5 c5 hh6.1
        have nd6 : NoD a h6 := by
          obtain ⟨o, ho, hd⟩ := nd5
          have na : a ≠ s3.heap.objs.size := fun z => by
            obtain ⟨oe, vs', _, _, _, he, _, hdd, _⟩ := hh.2.2.2
            obtain ⟨o', es, ep, ho', hd', _⟩ := hn5
            rw [z, ho'] at he; cases he
            rw [hd'] at hdd; cases hdd
          exact ⟨o, by rw [hsC.2 a na]; exact ho, hd⟩
        unfold PySem.passOn
        have hh6' := hh6
        obtain ⟨k1, k2, k3', oe, vs', T', oT, ts, he, hcls, hd, h1', _⟩ := hh6'
        refine wpAny_bind (wpAny_field he hd h1' ?_)
        rw [if_neg (show ¬ ((Value.ref T' == Value.none) = true) from by simp)]
        show wpAny _ X.A (do setFlight (.ref a) X.env.frame; throw (Value.ref a)) _ _ _
        rw [W.fr]
        refine wpAny_bind (flight_ok (s := { s9 with heap := h6 }) nd6 hh6 fun h7 hh7 u7 nd7 => wpAny_throw ?_)
        have I7 := Inv.upto (s := { s9 with heap := h6 }) W I6 c6 hh7.1 u7 (tk := s9.toks)
        exact hEE _ _ ⟨d, eres, a, Hf9, H9, rfl, I7, (x2.trans x4).trans x9, _, a0, Cov.upto (s := { s9 with heap := h6 }) W I6 c6 hh7.1, nd7, .inr (.inl hh7)⟩
    · have hke : k = ps.length := by omega
      subst hke
      refine wpAny_mono (T.done (cxB X Ns x sc cs s3.heap.objs.size s3 (upd H2 l (.lst [])) fp) rfl rfl rfl hc ps.length [] s4 (σ ++ [v4]) H4 (fun _ _ => False) I4 (stat fr4) st4 ((ov H4 ps.length smH).2 (by rw [hvp]; exact Nat.le_refl _))) (fun rr s5 ⟨hr, I5⟩ => ?_) fun _ _ z => z
      subst hr
      rw [List.drop_length] at e4
      have e4' : compLR n t f ρ ps = .ok qs := by rw [← e4]; show R.ok (qs ++ []) = _; rw [List.append_nil]
      have eres : res = .ok (.lst qs) := by rw [ef, ek, e4']
      obtain ⟨m5, hn5, _⟩ := I5.loc
      have xx := x2.trans x4
      have hHl : H l = none := by
        cases q : H l with
        | none => rfl
        | some o => have := x2.all l o q; rw [nsm] at this; cases this
      have IX : Inv X pins σ H4 s5 := I3.call' I5.os I5.base I5.hok I5.bare fun b hb => ⟨(hf3 b hb).2.2.2.1, (hf3 b hb).2.1, (hf3 b hb).2.2.2.2.1, (hf3 b hb).2.2.2.2.2⟩
      exact hQ qs s5 _ H4 l s3.heap.objs.size eres IX (xx.freeze hl4 hfl4 hHl) (.lst (SqL.of upd_same) (rq.keep (same_upd hfl4 _))) (I3.fpOk (Nat.le_refl _) I5.free) ⟨m5, hn5⟩
  exact codeAny_compStart_list loop (T.self _ 0 _ _ _ stB loop)
theorem ms_setCR {i : Nat} {y : Str} {py spos : Pos} {elt iter tc : Expr} {Ns : List Str} {x : Str} {px pos : Pos} {sc : Scope} {cs : List (Str × Addr)} {fa : FA} {t : FT} {f : FE} {n : Nat} (W : Own X) (hN : X.N.Nodup) (hy : X.N[i]? = some y) (hl : Loc X.env.scope y) (hc : X.calm = true) (c0 : X.Ok → Cap X Ns x sc cs) (hn : X.N.length = n) (hnd : (Ns ++ [x]).Nodup) (hi : MI X cl (.Name x px) iter fa)
    (ht : ∀ C s H fp, MTX (cxB X Ns x sc cs C s H fp) cl tc t) (hb : ∀ C s H fp, ME (cxB X Ns x sc cs C s H fp) cl elt f) (hfs : ∀ y, foldedSetIterable iter X.env y = pure y := by intro _; rfl)
    (hsw : swapsWith (.ListComp elt [⟨.Name x px, iter, [tc], 0⟩] sc pos) (some (.Name y py)) spos.line X.env = pure true := by rfl)
    (hf : X.fn y = true ∨ X.env.scope.names.lookup y = some .local := by first | exact .inl rfl | exact .inr rfl | assumption) :
    MS X cl (.Assign [.Name y py] (.ListComp elt [⟨.Name x px, iter, [tc], 0⟩] sc pos) spos) (sSet i (fCompR n fa t f)) := by
  refine ⟨?_⟩
  intro pins s σ Hf0 H0 Hf H ρ I r hs
  unfold sSet at hs ⊢
  have hs' : fCompR n fa t f ρ ≠ .stuck := fun z => hs (by rw [z]; rfl)
  rw [exec_Assign_Name_used _ _ _ _ hsw]
  refine wpAny_bind (wpAny_standAt (wpAny_bind ?_))
  show wpAny _ X.A (do let _ ← comprehension (.ListComp elt [⟨.Name x px, iter, [tc], 0⟩] sc pos) sc X.env _ (newList []) false (eval iter X.env) (some (assign (.Name y py) X.env))) _ _ s
  have hE : ∀ u s', ExP X cl pins σ Hf H (fCompR n fa t f ρ) u s' → ExS X cl pins Hf0 H0 Hf (ofR (fCompR n fa t f ρ) ρ fun v => .next (ρ.set i (some v))) u s' := fun u s' ⟨d, e1, z⟩ => by
    rw [e1]
    exact exs_of r z
  refine wpAny_bind (wpAny_mono (comp_runR (use := some (assign (.Name y py) X.env)) (Q := fun _ s' => OkS X cl pins Hf0 H0 Hf (ofR (fCompR n fa t f ρ) ρ fun v => .next (ρ.set i (some v))) .next s') W hc c0 hn hnd hi ht hb hfs I r hs' hE ?_) (fun _ s' hq => wpAny_pure (wpAny_pure hq)) fun _ _ e => e)
  intro rs s5 Hf5 H5 l C ek I5 x5 rp hfC hmm
  obtain ⟨m, hm⟩ := hmm
  show wpAny _ X.A (assign (.Name y py) X.env (.ref l)) _ _ s5
  have hil : i < σ.length := by rw [I.len]; exact (List.getElem?_eq_some_iff.mp hy).1
  refine wpAny_assign_Name (store_ok2 I5 hN hy hl (v := .ref l) rfl (fun s6 I6 h6 => ?_) hf)
  obtain ⟨a, hs6, ha⟩ := h6
  have neC : C ≠ a := by
    rcases ha with rfl | ha
    · exact hfC.2.1
    · exact fun z => hfC.2.2.2.2.1 y a ha z.symm
  refine ⟨m, hm.sameBut hs6 neC, fun h' hsC => ?_⟩
  rw [ek]
  exact ⟨_, _, Hf5, H5, rfl, inv_letgo I6 hfC hsC, (r.keep x5).set i rp hil, x5.frz⟩
end
section
variable {P : Program} {w : World} {K : PySem.W.Frag} {mg : Str → Option Value} {base : Heap} {cl : Nat → Addr}
theorem msCR {N : List Str} {qual : Str} {scope : Scope} {f : Addr} {cd : Value} {A : Around} {outer : List Env} {s : Shared} {H : Hp} {E : XK} {i : Nat} {y : Str} {py spos : Pos} {elt iter tc : Expr} {x : Str} {px pos : Pos} {sc : Scope} {fa : FA} {t : FT} {g : FE} {n : Nat}
    (hnd : N.Nodup) (hy : N[i]? = some y) (hl : Loc scope y) (hcap : capB N x sc scope = true) (hn : N.length = n) (hi : MI (cxM P w K mg base cl N qual scope f cd A outer s H E) cl (.Name x px) iter fa)
    (ht : ∀ C s' H' fp, MTX (cxB (cxM P w K mg base cl N qual scope f cd A outer s H E) N x sc (csOf sc (cxM P w K mg base cl N qual scope f cd A outer s H E).env) C s' H' fp) cl tc t)
    (hb : ∀ C s' H' fp, ME (cxB (cxM P w K mg base cl N qual scope f cd A outer s H E) N x sc (csOf sc (cxM P w K mg base cl N qual scope f cd A outer s H E).env) C s' H' fp) cl elt g)
    (hfs : ∀ y, foldedSetIterable iter (cxM P w K mg base cl N qual scope f cd A outer s H E).env y = pure y := by intro _; rfl)
    (hsw : swapsWith (.ListComp elt [⟨.Name x px, iter, [tc], 0⟩] sc pos) (some (.Name y py)) spos.line (cxM P w K mg base cl N qual scope f cd A outer s H E).env = pure true := by rfl) :
    MS (cxM P w K mg base cl N qual scope f cd A outer s H E) cl (.Assign [.Name y py] (.ListComp elt [⟨.Name x px, iter, [tc], 0⟩] sc pos) spos) (sSet i (fCompR n fa t g)) := by
  refine ms_setCR own_cx hnd hy hl rfl (fun ok => cap_of hcap rfl (fun _ _ h _ => h) ok) hn ?_ hi ht hb hfs hsw (.inl rfl)
  show (N ++ [x]).Nodup
  have hx : x ∉ N := fun z => by
    unfold capB at hcap
    have := (Bool.and_eq_true_iff.mp hcap).2
    rw [List.contains_iff_mem.mpr z] at this; cases this
  exact List.nodup_append.mpr ⟨hnd, List.nodup_cons.mpr ⟨List.not_mem_nil, List.nodup_nil⟩, fun a ha b hb e => hx (by
    rw [List.mem_singleton] at hb; rw [← hb, ← e]; exact ha)⟩
end
end Mi
set_option Elab.async false
set_option linter.all false
set_option autoImplicit false
set_option maxRecDepth 100000
set_option maxHeartbeats 4000000
namespace Mi
open PySem PySem.Spec PyProof.Rows L2 PySem.W
/-- what the base knows of a def's code c and its table P -/
structure TabB (mg : Str → Option Value) (base : Heap) (c P : Addr) : Prop where
  code : CodeHd base c P
  blt : base.BuiltinsAt mg P
section
variable {X : Cx} {cl : Nat → Addr} {pins : List (Addr × Obj)} {σ : SV} {H : Hp} {s : Shared} {scope : Scope} {params : Arguments} {body : Expr} {pos : Pos} {y : Str} {c P cy c' : Addr} {ps : Array Value} {Q : Value → Shared → Prop} {E : Value → Shared → Prop}
abbrev lamObj (X : Cx) (params : Arguments) (body : Expr) (scope : Scope) (y : Str) (cy c' : Addr) (ctv : Value) : Obj := kla_obj "<lambda>" (X.env.qual ++ "<lambda>") params body scope [(y, cy)] ((X.mg "__name__").getD .none) c' ctv
theorem blt_keep {h h' : Heap} {mg : Str → Option Value} (B : h.BuiltinsAt mg P) (k : ∀ b o, h.get? b = some o → h'.get? b = some o) : h'.BuiltinsAt mg P := by
  obtain ⟨bm, ob, b1, b2, b3, b4, b5, b6⟩ := B
  exact ⟨bm, ob, b1, b2, b3, b4, k _ _ b5, b6⟩
theorem lam_hit (I : Inv X pins σ H s) (T : TabB X.mg X.base c P) (hcode : X.env.code = .ref c) (hP : H P = some (.frz (tabObj ps) (.own P))) (ht : TriplesOk ps.toList) (hf : codeAmong pos ps.toList = some (.ref c')) (hcl : closureFor scope X.env = pure [(y, cy)]) (hdef : defaultsOf params X.env = ([], []))
    (h : ∀ f ctv s', H f = none → Inv X pins σ (upd H f (.frz (lamObj X params body scope y cy c' ctv) (.own f))) s' → Q (.ref f) s') :
    wpAny (model X.prog X.w) X.A (eval (.Lambda params body scope pos) X.env) Q E s := by
  refine kla_eval hdef ?_
  refine kla_makeFunctionHit (mg := X.mg) hcl I.ok.glob (I.mod.glob.keeps I.bk) hcode (T.code.keeps I.bk) (inv_frz I hP) ht hf (blt_keep T.blt I.bk) fun ctv h' tk hk hsz => ?_
  have hn : H h'.objs.size = none := I.hok.fresh hsz
  refine h _ ctv _ hn (I.laid (t' := tk) (a := h'.objs.size) (o := .frz (lamObj X params body scope y cy c' ctv) (.own h'.objs.size)) (fun b u e => Heap.get?_push_of_some _ (hk b u e)) hsz ⟨Heap.get?_push_size _ rfl, _, Heap.get?_push_size _ rfl⟩)
theorem lam_miss (I : Inv X pins σ H s) (T : TabB X.mg X.base c P) (hcode : X.env.code = .ref c) (hP : H P = some (.tbl ps)) (ht : TriplesOk ps.toList) (hf : codeAmong pos ps.toList = none) (hcl : closureFor scope X.env = pure [(y, cy)]) (hdef : defaultsOf params X.env = ([], []))
    (h : ∀ f c' oc vs t ctv s', H f = none → H c' = none → c' ≠ f → oc.data = .fields vs → vs[1]? = some (.str (X.env.qual ++ "<lambda>") t) →
      Inv X pins σ (upd (upd (upd H P (.tbl (ps ++ #[rawInt pos.line, rawInt pos.col, .ref c']))) c' (.frz oc (.own c'))) f (.frz (lamObj X params body scope y cy c' ctv) (.own f))) s' → Q (.ref f) s') :
    wpAny (model X.prog X.w) X.A (eval (.Lambda params body scope pos) X.env) Q E s := by
  refine kla_eval hdef ?_
  have oP : s.heap.get? P = some (tabObj ps) := I.hok P _ hP
  have gs := I.mod.glob.keeps I.bk
  have hgP : mainGlobals ≠ P := fun q => by
    obtain ⟨o, es, ep, e, hd, _⟩ := gs
    rw [q, oP] at e; cases e; cases hd
  refine kla_makeFunction (mg := X.mg) hcl I.ok.glob gs hcode (T.code.keeps I.bk) oP ht hf hgP (blt_keep T.blt I.bk) fun c' ctv h' tk hx hge hlt hrec htb => ?_
  obtain ⟨c₂, oc, vs, t, e2, hoc, hd, hv⟩ := hrec
  cases e2
  have hcn : H c' = none := I.hok.fresh hge
  have hsz : s.heap.objs.size ≤ h'.objs.size := Nat.le_trans hge (Nat.le_of_lt hlt)
  have hfn : H h'.objs.size = none := I.hok.fresh hsz
  have hne : c' ≠ h'.objs.size := Nat.ne_of_lt hlt
  have hPc : P ≠ c' := ne_of_none hP hcn
  have hPf : P ≠ h'.objs.size := ne_of_none hP hfn
  have get : ∀ b o, b ≠ P → s.heap.get? b = some o → (h'.push (lamObj X params body scope y cy c' ctv)).get? b = some o := fun b o hb e => Heap.get?_push_of_some _ (hx b o hb e)
  have getP : (h'.push (lamObj X params body scope y cy c' ctv)).get? P = some (tabObj (ps ++ #[rawInt pos.line, rawInt pos.col, .ref c'])) := Heap.get?_push_of_some _ htb
  have old : ∀ b o, s.heap.get? b = some o → b < s.heap.objs.size := fun b o e => Heap.lt_size e
  have at_ : ∀ b u, H b = some u → b ≠ P → (upd (upd (upd H P (.tbl (ps ++ #[rawInt pos.line, rawInt pos.col, .ref c']))) c' (.frz oc (.own c'))) h'.objs.size (.frz (lamObj X params body scope y cy c' ctv) (.own h'.objs.size))) b = some u := fun b u e hb => by
    rw [upd_ne (ne_of_none e hfn), upd_ne (ne_of_none e hcn), upd_ne hb]; exact e
  refine h _ c' oc vs t ctv _ hfn hcn hne hd hv ?_
  refine I.step (g' := s.gens) (d' := s.drawn) (t' := tk) (ch := []) (fun _ z => nomatch z) (fun b o _ _ _ e n => get b o (fun z => by rw [z, hP] at n; cases n) e) (fun b o _ _ _ e n => ⟨o.slots, get b o (fun z => by rw [z, hP] at n; cases n) e⟩) (fun b o _ e n => ?_) (fun b o _ e => ?_) (fun b xs e => at_ b _ e fun z => by rw [z, hP] at e; cases e) (fun b o u e => at_ b _ e fun z => by rw [z, hP] at e; cases e) (fun b ps' e => ?_) (fun m hm => ?_) (fun b u e => ?_) I.bare
  · have hb := old b o e
    rw [upd_ne (Nat.ne_of_lt (Nat.lt_of_lt_of_le hb hsz)), upd_ne (Nat.ne_of_lt (Nat.lt_of_lt_of_le hb hge)), upd_ne fun z => by rw [z, hP] at n; cases n]
    exact n
  · by_cases hb : b = P
    · rw [hb]; exact ⟨_, getP⟩
    · exact ⟨o, get b o hb e⟩
  · by_cases hb : b = P
    · subst hb
      rw [hP] at e; cases e
      exact ⟨#[rawInt pos.line, rawInt pos.col, .ref c'], by rw [upd_ne hPf, upd_ne hPc, upd_same]⟩
    · exact ⟨#[], by rw [at_ b _ e hb]; simp⟩
  · obtain ⟨o, es, ep, ho, r⟩ := hm
    exact ⟨o, es, ep, get _ _ (fun z => by have := I.free; rw [z, hP] at this; cases this) ho, r⟩
  · by_cases h1 : b = h'.objs.size
    · subst h1
      rw [upd_same] at e; cases e
      exact ⟨Heap.get?_push_size _ rfl, _, Heap.get?_push_size _ rfl⟩
    · rw [upd_ne h1] at e
      by_cases h2 : b = c'
      · subst h2
        rw [upd_same] at e; cases e
        exact ⟨Heap.get?_push_of_some _ hoc, _, Heap.get?_push_of_some _ hoc⟩
      · rw [upd_ne h2] at e
        by_cases h3 : b = P
        · subst h3
          rw [upd_same] at e; cases e
          exact getP
        · rw [upd_ne h3] at e
          refine (I.hok b u e).stay (fun b' v hb q => ?_) (fun b' q => at_ b' _ q fun z => by rw [z, hP] at q; cases q) fun b' xs q => at_ b' _ q fun z => by rw [z, hP] at q; cases q
          rcases hb with rfl | hb
          · exact get _ _ h3 q
          · exact get _ _ (fun z => by rw [z, hP] at hb; cases hb) q
end
end Mi
set_option Elab.async false
set_option linter.all false
set_option autoImplicit false
set_option maxRecDepth 100000
set_option maxHeartbeats 4000000
namespace Mi
open PySem PySem.Spec PyProof.Rows L2 PySem.W
def fSortK (g : FE) (iy : Nat) (a : FE) : FE := fun ρ => (a ρ).bind fun x => (getV ρ iy).bind fun py => srtK g py x
theorem srtK_ns {g : FE} {py p : PV} (h : srtK g py p ≠ .stuck) : ∃ l ns cs, p = .lst l ∧ intsP l = some ns ∧ ns.length < 64 ∧ codesOf g py ns = some cs ∧ srtK g py p = .ok (.lst ((sortL cs).map fun c => PV.int (dec c))) := by
  unfold srtK at h ⊢
  split at h
  · next l =>
    split at h
    · next ns e =>
      split at h
      · next h64 =>
        split at h
        · next cs ec => exact ⟨l, ns, cs, rfl, e, h64, ec, by simp only [e, h64, if_true, ec]⟩
        · exact absurd rfl h
      · exact absurd rfl h
    · exact absurd rfl h
  · exact absurd rfl h
section
variable {X : Cx} {cl : Nat → Addr} {x y : Str} {scope : Scope} {params : Arguments} {body a : Expr} {pos lpos p1 kp : Pos} {c P cy : Addr} {ps : Array Value} {k iy : Nat} {g fa : FE}
/-- what is asked of the lambda, and of the def around it -/
structure LamAt (X : Cx) (cl : Nat → Addr) (x y : Str) (scope : Scope) (params : Arguments) (body : Expr) (lpos : Pos) (c P cy : Addr) (k iy : Nat) (g : FE) : Prop where
  sc : LamSc x y scope
  room : Room (k + 3) X.A
  tab : TabB X.mg X.base c P
  code : X.env.code = .ref c
  clos : closureFor scope X.env = pure [(y, cy)]
  dflt : defaultsOf params X.env = ([], [])
  bind : ∀ pm c' ctv u, bindArgs (kla_fn "<lambda>" (X.env.qual ++ "<lambda>") params body scope [(y, cy)] pm (.ref c') ctv) ⟨[u], []⟩ = pure [(x, u)]
  at_ : X.N[iy]? = some y
  kind : X.env.kindOf y = some .cell
  cell : X.env.cells.lookup y = some cy
  me : ∀ f c' s H, ME (cxL X x y (X.env.qual ++ "<lambda>") scope f c' [(y, cy)] X.A.in1.in1 s H) cl body g
  gl : Gl X "sorted"
  mg : X.mg "sorted" = none
theorem me_sortK {c' : Addr} {oc : Obj} {vsc : Array Value} {t0 : Tok} (L : LamAt X cl x y scope params body lpos c P cy k iy g) (hP : X.H₀ P = some (.frz (tabObj ps) (.own P))) (ht : TriplesOk ps.toList) (hf : codeAmong lpos ps.toList = some (.ref c')) (hc : X.H₀ c' = some (.frz oc (.own c'))) (hd : oc.data = .fields vsc) (hq : vsc[1]? = some (.str (X.env.qual ++ "<lambda>") t0))
    (ha : ME X cl a fa) (he : backTo pos (starEach [a] X.env) = (false, eval a X.env) :: backTo pos (starEach [] X.env) := by rfl) (hpl : (backTo pos (starEach [a] X.env)).any (·.1) = false := by rfl) :
    ME X cl (.Call (.Name "sorted" p1) [a] [⟨some "key", .Lambda params body scope lpos, kp⟩] pos) (fSortK g iy fa) := by
  refine ⟨?_⟩
  intro pins s σ Hf0 H0 Hf H ρ I r hs
  unfold fSortK at hs ⊢
  refine wpAny_Call_Name_kw (ld_blt I L.gl L.mg boot_sorted ?_ (by decide) (by decide))
  refine callWith_kw ?_ he hpl rfl rfl
  rw [he]
  show wpAny _ _ (spliced ((false, eval a X.env) :: [])) _ _ s
  refine Calls.spliced_cons (ha.run I r (Ext.refl r.sub) hs fun p v u s1 Hf1 H1 e1 I1 rv x1 rp => Calls.spliced_nil ?_)
  rw [e1] at hs ⊢
  obtain ⟨py, ey⟩ : ∃ py, getV ρ iy = .ok py := by
    cases e : getV ρ iy with
    | stuck => rw [e] at hs; exact absurd rfl hs
    | exc c => exact absurd e getV_noexc
    | ok py => exact ⟨py, rfl⟩
  obtain ⟨vy, hσ, rpy⟩ := (r.keep x1).var ey
  rw [ey] at hs ⊢
  have hs : srtK g py p ≠ .stuck := hs
  show wpAny _ _ _ (fun kvs s₂ => wpAny _ _ _ (OkP X cl pins σ Hf H (srtK g py p)) (ExP X cl pins σ Hf H (srtK g py p)) s₂) (ExP X cl pins σ Hf H (srtK g py p)) s1
  obtain ⟨l, ns, cs, rfl, en, h64, ec, er⟩ := srtK_ns hs
  rw [er]
  refine kws_cons ?_
  refine lam_hit I1 L.tab L.code (I1.base.frzs _ _ _ hP) ht hf L.clos L.dflt fun f ctv s2 hfn I2 => kws_nil ?_
  cases rp with
  | lst h rr =>
    cases rv
    obtain ⟨its, wl, pl, z⟩ := I1.list (x1.sub.seq h)
    obtain ⟨its2, wl2, pl2, _⟩ := I2.list ((same_upd hfn (.frz (lamObj X params body scope y cy c' ctv) (.own f))).seq (x1.sub.seq h))
    have hi := ints_vals en rr wl2
    have hcc : H1 c' = some (.frz oc (.own c')) := I1.base.frzs _ _ _ hc
    have xn : Ext Hf1 H1 Hf1 (upd H1 f (.frz (lamObj X params body scope y cy c' ctv) (.own f))) := Ext.newH x1.sub hfn _
    show wpAny _ _ (call (.builtin "sorted") [.ref _] [(Str.ofString "key", .ref f)]) _ _ s2
    refine wpAny_mono (sorted_lam (cl := cl) (Hf := Hf1) L.sc L.room I2 xn.sub pl2.isList hi h64 ec upd_same (xn.all _ _ hcc) hd hq (L.bind _ _ _) L.at_ L.kind L.cell hσ rpy (L.me f c')) (fun _ _ q => q.from (e0 := x1.trans xn)) fun _ _ z => z
/-- the first time: the table grows -/
theorem srt_miss {pins : List (Addr × Obj)} {s : Shared} {σ : SV} {Hf0 H0 Hf H : Hp} {ρ : MEnv} (L : LamAt X cl x y scope params body lpos c P cy k iy g) (hP : H P = some (.tbl ps)) (hPf : Hf P = none) (ht : TriplesOk ps.toList) (hf : codeAmong lpos ps.toList = none)
    (ha : ME X cl a fa) (I : Inv X pins σ H s) (r : Rep X.K cl Hf0 H0 Hf H σ ρ) {p : PV} (e : fSortK g iy fa ρ = .ok p) {E : Value → Shared → Prop}
    (he : backTo pos (starEach [a] X.env) = (false, eval a X.env) :: backTo pos (starEach [] X.env) := by rfl) (hpl : (backTo pos (starEach [a] X.env)).any (·.1) = false := by rfl) :
    wpAny (model X.prog X.w) X.A (eval (.Call (.Name "sorted" p1) [a] [⟨some "key", .Lambda params body scope lpos, kp⟩] pos) X.env) (fun u s' => ∃ v Hf' H' c' oc vs t, Inv X pins σ H' s' ∧ RelV v u ∧ Rp X.K cl Hf' v p ∧ Ext Hf (upd H P (.tbl (ps ++ #[rawInt lpos.line, rawInt lpos.col, .ref c']))) Hf' H' ∧ H c' = none ∧ H' c' = some (.frz oc (.own c')) ∧ oc.data = .fields vs ∧ vs[1]? = some (.str (X.env.qual ++ "<lambda>") t)) E s := by
  unfold fSortK at e
  obtain ⟨q, eq⟩ : ∃ q, fa ρ = .ok q := by
    cases ef : fa ρ with
    | stuck => rw [ef] at e; cases e
    | exc c => rw [ef] at e; cases e
    | ok q => exact ⟨q, rfl⟩
  rw [eq] at e
  obtain ⟨py, ey⟩ : ∃ py, getV ρ iy = .ok py := by
    cases ev : getV ρ iy with
    | stuck => have e : ((getV ρ iy).bind fun py => srtK g py q) = .ok p := e; rw [ev] at e; cases e
    | exc c => exact absurd ev getV_noexc
    | ok py => exact ⟨py, rfl⟩
  have e : ((getV ρ iy).bind fun py => srtK g py q) = .ok p := e
  rw [ey] at e
  have e : srtK g py q = .ok p := e
  obtain ⟨l, ns, cs, rfl, en, h64, ec, er⟩ := srtK_ns (g := g) (py := py) (p := q) (by rw [e]; intro z; cases z)
  rw [er] at e
  cases e
  refine wpAny_Call_Name_kw (ld_blt I L.gl L.mg boot_sorted ?_ (by decide) (by decide))
  refine callWith_kw ?_ he hpl rfl rfl
  rw [he]
  show wpAny _ _ (spliced ((false, eval a X.env) :: [])) _ _ s
  refine Calls.spliced_cons (wpAny_mono (ha pins s σ Hf0 H0 Hf H ρ I r (by rw [eq]; intro z; cases z)) (fun u s1 q1 => Calls.spliced_nil ?_) fun u s1 q1 => ?_)
  rotate_left
  · obtain ⟨c, e1, _⟩ := q1
    rw [eq] at e1; cases e1
  obtain ⟨p', v, Hf1, H1, e1, I1, rv, x1, rp⟩ := q1
  rw [eq] at e1; cases e1
  obtain ⟨vy, hσ, rpy⟩ := (r.keep x1).var ey
  have hP1 : H1 P = some (.tbl ps) := x1.all _ _ hP
  have hPf1 : Hf1 P = none := by rw [x1.old P (by rw [hP]; intro z; cases z)]; exact hPf
  refine kws_cons ?_
  refine lam_miss I1 L.tab L.code hP1 ht hf L.clos L.dflt fun f c' oc vs t ctv s2 hfn hcn hcf hd hv I2 => kws_nil ?_
  cases rp with
  | lst h rr =>
    cases rv
    have hPc : P ≠ c' := ne_of_none hP1 hcn
    have hPF : P ≠ f := ne_of_none hP1 hfn
    have sm2 : Same Hf1 (upd (upd (upd H1 P (.tbl (ps ++ #[rawInt lpos.line, rawInt lpos.col, .ref c']))) c' (.frz oc (.own c'))) f (.frz (lamObj X params body scope y cy c' ctv) (.own f))) := fun b o q => by
      have hb := x1.sub b o q
      rw [upd_ne (ne_of_none hb hfn), upd_ne (ne_of_none hb hcn), upd_ne (fun z => by rw [z, hPf1] at q; cases q)]
      exact hb
    obtain ⟨its2, wl2, pl2, _⟩ := I2.list (sm2.seq h)
    have hi := ints_vals en rr wl2
    show wpAny _ _ (call (.builtin "sorted") [.ref _] [(Str.ofString "key", .ref f)]) _ _ s2
    refine wpAny_mono (sorted_lam (cl := cl) (Hf := Hf1) (E := E) L.sc L.room I2 sm2 pl2.isList hi h64 ec upd_same (by rw [upd_ne hcf, upd_same]) hd hv (L.bind _ _ _) L.at_ L.kind L.cell hσ rpy (L.me f c')) (fun u2 s3 q => ?_) fun _ _ z => z
    obtain ⟨p3, v3, Hf3, H3, e3, I3, rv3, x3, rp3⟩ := q
    cases e3
    have hHc : H c' = none := by
      cases q : H c' with
      | none => rfl
      | some o => have := x1.all c' o q; rw [hcn] at this; cases this
    refine ⟨v3, Hf3, H3, c', oc, vs, t, I3, rv3, rp3, ⟨fun b o q => ?_, x1.frz.trans x3.frz, x3.sub, fun b n => ?_⟩, hHc, x3.all _ _ (by rw [upd_ne hcf, upd_same]), hd, hv⟩
    · by_cases hb : b = P
      · subst hb
        rw [upd_same] at q
        exact x3.all _ _ (by rw [upd_ne hPF, upd_ne hPc, upd_same]; exact q)
      · rw [upd_ne hb] at q
        have q1 := x1.all _ _ q
        exact x3.all _ _ (by rw [upd_ne (ne_of_none q1 hfn), upd_ne (ne_of_none q1 hcn), upd_ne hb]; exact q1)
    · have n1 : H b ≠ none := fun z => by
        by_cases hb : b = P
        · rw [hb, hP] at z; cases z
        · rw [upd_ne hb] at n; exact n z
      obtain ⟨o, ho⟩ : ∃ o, H b = some o := by
        cases q : H b with
        | none => exact absurd q n1
        | some o => exact ⟨o, rfl⟩
      have q1 := x1.all _ _ ho
      rw [x3.old b (fun z => by
        rw [upd_ne (ne_of_none q1 hfn), upd_ne (ne_of_none q1 hcn)] at z
        by_cases hb : b = P
        · rw [hb, upd_same] at z; cases z
        · rw [upd_ne hb, q1] at z; cases z), x1.old b n1]
end
end Mi
set_option Elab.async false
set_option linter.all false
set_option autoImplicit false
set_option maxRecDepth 100000
set_option maxHeartbeats 4000000
namespace Mi
open PySem PySem.Spec PyProof.Rows L2 PySem.W
section
variable {P : Program} {w : World} {K : PySem.W.Frag} {mg : Str → Option Value} {base : Heap} {cl : Nat → Addr}
/-- a def by its mirror, where something is known of the abstract heap and of its code -/
theorem fn_mirrorT {x qual : Str} {st : Stmt} {f : Addr} {fd : FuncData} {N ps : List Str} {k n : Nat} {b : FS} {G : Hp → Prop} {cv : Value} (F : Fun K x qual st f fd) (hcv : fd.code = cv) (S : FnScope N ps (defScope st)) (hn : ps.length = n)
    (hbody : ∀ (A : Around) (outer : List Env) (s : Shared) (H : Hp) (E : XK), Room k (A.deeper (envOfC qual (defScope st) s.heap.objs.size f cv)) → G H →
      MSs (cxM P w K mg base cl N qual (defScope st) f cv A outer s H E) cl (defBody st) b) : FnOk P w K mg base (CXm cl P w) (k + 1) f fd ps (fun vs H Q E => spF K cl n (runF N.length b) vs H Q E ∧ G H) := by
  obtain ⟨oc, od, kV, doc, pm, an, cdv, ct, osl, rfl, lk, hcd⟩ := F.ex
  have hcv : cdv = cv := hcv
  subst hcv
  refine fn_of lk hcd S (fun vs H Q E h => by rw [h.1.1, hn]) fun A outer s H vs Q E hr hsp => ?_
  obtain ⟨⟨hl, Hf, qs, sm, rps, hs, hok, hex⟩, hG⟩ := hsp
  have hb := hbody A outer s H E hr hG
  have hs' : b (Mi.start N.length qs) ≠ .stuck := fun z => hs (by unfold runF; rw [z])
  refine ⟨fun D σ H1 => σ = L2.start N vs ∧ H1 = H ∧ D = { nx := fun _ H' => Q .non H', rt := Q }, fun pins s1 σ H1 D I h => ?_, rfl, rfl, rfl⟩
  obtain ⟨rfl, rfl, rfl⟩ := h
  refine wpAny_mono (hb pins s1 _ Hf H1 Hf H1 _ I (rep_start rfl sm rps) hs') (fun fl s2 q => ?_) fun u s2 q => ?_
  · cases fl with
    | next =>
      obtain ⟨ρ', σ', Hf', H', e1, I', r', _⟩ := q
      exact ⟨σ', H', I', hok .non .non Hf' H' (by unfold runF; rw [e1]) r'.ext .non⟩
    | ret u =>
      obtain ⟨p, v, σ', Hf', H', e1, I', ex, rv, rp⟩ := q
      exact ⟨v, σ', H', I', rv, hok p v Hf' H' (by unfold runF; rw [e1]) ex rp⟩
    | brk =>
      obtain ⟨ρ', σ', Hf', H', e1, I', r', _⟩ := q
      exact absurd (by unfold runF; rw [e1]) hs
    | cont =>
      obtain ⟨ρ', σ', Hf', H', e1, I', r', _⟩ := q
      exact absurd (by unfold runF; rw [e1]) hs
  · obtain ⟨c, ρ', σ', Hf', H', e, e1, rfl, I', r', _, x⟩ := q
    exact leaves_ok I' x (hex c Hf' H' (by unfold runF; rw [e1]) r'.ext)
/-- such a def, wherever it is called from -/
structure FGT (P : Program) (w : World) (K : PySem.W.Frag) (mg : Str → Option Value) (base : Heap) (cl : Nat → Addr) (k : Nat) (x : Str) (n : Nat) (F : List PV → R PV) (G : Hp → Prop) : Prop where
  ex : ∃ (f : Addr) (fd : FuncData) (ps : List Str), mg x = some (.ref f) ∧ PySem.W.keepIn K (.ref f) = true ∧ ps.length = n ∧ FnOk P w K mg base (CXm cl P w) k f fd ps (fun vs H Q E => spF K cl n F vs H Q E ∧ G H) ∧ Binds K fd ps []
end
section
variable {X : Cx} {cl : Nat → Addr} {pins : List (Addr × Obj)} {s : Shared} {σ : SV} {Hf0 H0 Hf H : Hp} {ρ : MEnv}
theorem me_callT {e : Expr} {es : List Expr} {g : FA} {x : Str} {p pos : Pos} {k n : Nat} {F : List PV → R PV} {G : Hp → Prop} (hF : FGT X.prog X.w X.K X.mg X.base cl k x n F G) (hG : ∀ (pins : List (Addr × Obj)) (s : Shared) (σ : SV) (H : Hp), Inv X pins σ H s → G H) (hr : Room k X.A) (hg : Gl X x) (hst : X.stack = X.env :: X.outer) (inj : ∀ c d, cl c = cl d → c = d) (hex : ∀ b, b ∉ X.ex)
    (ha : MA X cl (e :: es) g) (hl : (e :: es).length = n) (hdb : (x == ("__debug__" : Str)) = false := by decide) (he : starEach (e :: es) X.env = (false, eval e X.env) :: starEach es X.env := by rfl) (hpl : (backTo pos (starEach es X.env)).any (·.1) = false := by rfl) :
    ME X cl (.Call (.Name x p) (e :: es) [] pos) (fCall F g) := by
  obtain ⟨f, fd, ps, hm, hk, hn, hf, hb⟩ := hF.ex
  refine ⟨?_⟩
  intro pins s σ Hf0 H0 Hf H ρ I r hs
  unfold fCall at hs ⊢
  refine wpAny_Call_Name_kw (ld_glob I hg hm ?_ hdb)
  refine PySem.W.callWith_K (h₀ := X.base) I.ok.mod.kin hk (ha.run pos I r (Ext.refl r.sub) hs fun qs vs us s1 Hf1 H1 hq e1 I1 rv x1 rps => ⟨I1.kIn, ?_⟩) he hpl
  rw [e1] at hs ⊢
  have hv : vs.length = n := by rw [rps.length, hq, hl]
  have hsp : spF X.K cl n F vs H1 (fun v H' => ∃ p Hf', F qs = .ok p ∧ Ext Hf1 H1 Hf' H' ∧ Rp X.K cl Hf' v p) (fun u o H' => ∃ c Hf', F qs = .exc c ∧ Ext Hf1 H1 Hf' H' ∧ u = .ref (cl c)) :=
    ⟨hv, Hf1, qs, x1.sub, rps, hs, fun p v Hf' H' a b c => ⟨p, Hf', a, b, c⟩, fun c Hf' H' a b => ⟨c, Hf', a, b, rfl⟩⟩
  have hlu : (us ++ []).length = ps.length := by rw [List.append_nil, ← rv.length, hv, hn]
  have hbb := hb s1 us I1.kIn hlu
  rw [List.append_nil] at hbb
  refine wpAny_call (codeAny_mono (hf.run X.A X.stack s1 H1 ⟨us, []⟩ us vs _ _ hr I1.env0 hbb rv ⟨hsp, hG _ _ _ _ I1⟩) fun r s' hq' => ?_)
  cases r with
  | error e => exact ExP.from (e0 := x1) (xat_of I1 x1.sub hst hq' inj hex)
  | ok fl =>
    cases fl with
    | ret u =>
      obtain ⟨v, H', I', rv', p, Hf', e2, ex, rp⟩ := I1.after hq'
      exact ⟨p, v, Hf', H', e2, I', rv', x1.trans ex, rp⟩
    | next => exact False.elim hq'
    | brk => exact False.elim hq'
    | cont => exact False.elim hq'
/-- a statement that goes on -/
theorem ms_then {st : Stmt} {rest : List Stmt} {f : FS} {ρ' : MEnv} {Q : Flow → Shared → Prop} {E : Value → Shared → Prop} (h1 : MS X cl st f) (I : Inv X pins σ H s) (r : Rep X.K cl Hf0 H0 Hf H σ ρ) (e : f ρ = .next ρ')
    (k : ∀ (s' : Shared) (σ' : SV) (Hf' H' : Hp), Inv X pins σ' H' s' → Rep X.K cl Hf0 H0 Hf' H' σ' ρ' → wpAny (model X.prog X.w) X.A (execs rest X.env) Q E s') : wpAny (model X.prog X.w) X.A (execs (st :: rest) X.env) Q E s := by
  refine wpAny_execs_cons (wpAny_mono (h1 pins s σ Hf0 H0 Hf H ρ I r (by rw [e]; intro z; cases z)) (fun fl s1 q => ?_) fun u s1 q => ?_)
  · cases fl with
    | next =>
      obtain ⟨ρ1, σ', Hf', H', e1, I', r', sm⟩ := q
      rw [e] at e1; cases e1
      exact k s1 σ' Hf' H' I' r'
    | brk => obtain ⟨_, _, _, _, e1, _⟩ := q; rw [e] at e1; cases e1
    | cont => obtain ⟨_, _, _, _, e1, _⟩ := q; rw [e] at e1; cases e1
    | ret u => obtain ⟨_, _, _, _, _, e1, _⟩ := q; rw [e] at e1; cases e1
  · obtain ⟨_, _, _, _, _, _, e1, _⟩ := q
    rw [e] at e1; cases e1
/-- two lists joined: a new list -/
theorem cat_new {a1 a2 : Addr} {xs ys : List V} (I : Inv X pins σ H s) (sm : Same Hf H) (h1 : SqL X.K Hf a1 xs) (h2 : SqL X.K Hf a2 ys) (hz : xs.length + ys.length ≤ sizeLine) {Q : Value → Shared → Prop} {E : Value → Shared → Prop}
    (hQ : ∀ a s', H a = none → Inv X pins σ (upd H a (.lst (xs ++ ys))) s' → Q (.ref a) s') : wpAny (model X.prog X.w) X.A (binaryOp .Add (.ref a1) (.ref a2)) Q E s := by
  obtain ⟨its, w1, p1, z1⟩ := I.list (sm.seq h1)
  obtain ⟨its2, w2, p2, z2⟩ := I.list (sm.seq h2)
  have l1 := w1.length
  have l2 := w2.length
  have e0 : its.toArray ++ its2.toArray = (its ++ its2).toArray := by simp
  obtain ⟨⟨cls, dd, data, sl⟩, ho, hc, n, hd⟩ := id p1.isList
  obtain ⟨⟨cls2, dd2, data2, sl2⟩, ho2, hc2, n2, hd2⟩ := id p2.isList
  simp only at hc hd hc2 hd2
  subst hc hd hc2 hd2
  refine concat_meets ⟨_, ho, rfl⟩ ⟨_, ho2, rfl⟩ noFill_list_add seq_list_add PySem.F.slot_list_add PySem.F.entry_list_add (PySem.F.args_list_add_2 _ _) (list_addW _ _ its.toArray its2.toArray n n2 dd dd2 sl sl2 (by simp only [List.size_toArray]; omega)) ⟨ho, ho2, ?_⟩
  rw [e0]
  exact hQ _ _ I.fresh (I.lnew (t' := s.toks) (w1.append w2) (by rw [List.length_append]; omega))
end
/-- the table with its one lambda -/
abbrev tabOf (pos : Pos) (c' : Addr) : Array Value := (#[] : Array Value) ++ #[rawInt pos.line, rawInt pos.col, .ref c']
/-- the promise of a def that sorts by a lambda, at its first call -/
def spMs (K : PySem.W.Frag) (cl : Nat → Addr) (n : Nat) (P : Addr) (pos : Pos) (qual : Str) (ok : List PV → List PV → Prop) : Sp := fun vs H Q E => vs.length = n ∧ ∃ Hf qs l, Same Hf H ∧ Rps K cl Hf vs qs ∧ ok qs l ∧ H P = some (.tbl #[]) ∧ Hf P = none ∧
  ∀ a xs Hf' H' c' oc vs' t, Ext Hf (upd H P (.tbl (tabOf pos c'))) Hf' H' → H' a = some (.lst xs) → Hf' a = none → upd H P (.tbl (tabOf pos c')) a = none → Rps K cl Hf' xs l → H c' = none → H' c' = some (.frz oc (.own c')) → oc.data = .fields vs' → vs'[1]? = some (.str qual t) → Q (.ref a) H'
section
variable {P : Program} {w : World} {K : PySem.W.Frag} {mg : Str → Option Value} {base : Heap} {cl : Nat → Addr}
theorem fn_miss {x qual : Str} {st : Stmt} {f : Addr} {fd : FuncData} {N ps : List Str} {k n : Nat} {c Pt : Addr} {st1 st2 st3 : Stmt} {b1 b2 b3 : FS} {lx ly y2 : Str} {lscope : Scope} {params : Arguments} {lbody a : Expr} {lpos p1 kp pos np bpos rpos : Pos} {iy j kr : Nat} {g fa : FE}
    (F : Fun K x qual st f fd) (hcv : fd.code = .ref c) (S : FnScope N ps (defScope st)) (hn : ps.length = n)
    (hst : defBody st = [st1, st2, st3, .Return (some (.BinOp (.Call (.Name "sorted" p1) [a] [⟨some "key", .Lambda params lbody lscope lpos, kp⟩] pos) .Add (.Name y2 np) bpos)) rpos])
    (h1 : ∀ (A : Around) (outer : List Env) (s : Shared) (H : Hp) (E : XK), Room k (A.deeper (envOfC qual (defScope st) s.heap.objs.size f (.ref c))) → MS (cxM P w K mg base cl N qual (defScope st) f (.ref c) A outer s H E) cl st1 b1)
    (h2 : ∀ (A : Around) (outer : List Env) (s : Shared) (H : Hp) (E : XK), Room k (A.deeper (envOfC qual (defScope st) s.heap.objs.size f (.ref c))) → MS (cxM P w K mg base cl N qual (defScope st) f (.ref c) A outer s H E) cl st2 b2)
    (h3 : ∀ (A : Around) (outer : List Env) (s : Shared) (H : Hp) (E : XK), Room k (A.deeper (envOfC qual (defScope st) s.heap.objs.size f (.ref c))) → MS (cxM P w K mg base cl N qual (defScope st) f (.ref c) A outer s H E) cl st3 b3)
    (hL : ∀ (A : Around) (outer : List Env) (s : Shared) (H : Hp) (E : XK), Room k (A.deeper (envOfC qual (defScope st) s.heap.objs.size f (.ref c))) → LamAt (cxM P w K mg base cl N qual (defScope st) f (.ref c) A outer s H E) cl lx ly lscope params lbody lpos c Pt (s.heap.objs.size + 1) kr iy g)
    (ha : ∀ (A : Around) (outer : List Env) (s : Shared) (H : Hp) (E : XK), ME (cxM P w K mg base cl N qual (defScope st) f (.ref c) A outer s H E) cl a fa)
    (hj : N[j]? = some y2) (hv : Vis (defScope st) y2) (hyd : (y2 == ("__debug__" : Str)) = false := by decide) (hyc : (y2 == ("__classdict__" : Str)) = false := by decide)
    (he : ∀ (A : Around) (outer : List Env) (s : Shared) (H : Hp) (E : XK), backTo pos (starEach [a] (cxM P w K mg base cl N qual (defScope st) f (.ref c) A outer s H E).env) = (false, eval a (cxM P w K mg base cl N qual (defScope st) f (.ref c) A outer s H E).env) :: backTo pos (starEach [] (cxM P w K mg base cl N qual (defScope st) f (.ref c) A outer s H E).env) := by intros; rfl)
    (hpl : ∀ (A : Around) (outer : List Env) (s : Shared) (H : Hp) (E : XK), (backTo pos (starEach [a] (cxM P w K mg base cl N qual (defScope st) f (.ref c) A outer s H E).env)).any (·.1) = false := by intros; rfl) :
    FnOk P w K mg base (CXm cl P w) (k + 1) f fd ps (spMs K cl n Pt lpos (qual ++ ".<locals>." ++ "<lambda>") fun qs l => ∃ ρ1 ρ2 ρ3 l1 l2, b1 (Mi.start N.length qs) = .next ρ1 ∧ b2 ρ1 = .next ρ2 ∧ b3 ρ2 = .next ρ3 ∧ fSortK g iy fa ρ3 = .ok (.lst l1) ∧ getV ρ3 j = .ok (.lst l2) ∧ l = l1 ++ l2 ∧ l1.length + l2.length ≤ sizeLine) := by
  obtain ⟨oc, od, kV, doc, pm, an, cdv, ct, osl, rfl, lk, hcd⟩ := F.ex
  have hcv : cdv = .ref c := hcv
  subst hcv
  refine fn_of lk hcd S (fun vs H Q E h => by rw [h.1, hn]) fun A outer s H vs Q E hr hsp => ?_
  obtain ⟨hl, Hf, qs, l, sm, rps, ⟨ρ1, ρ2, ρ3, l1, l2, e1, e2, e3, e4, e5, rfl, hz⟩, hP, hPf, hok⟩ := hsp
  refine ⟨fun D σ H1 => σ = L2.start N vs ∧ H1 = H ∧ D = { nx := fun _ H' => Q .non H', rt := Q }, fun pins s1 σ H1 D I h => ?_, rfl, rfl, rfl⟩
  obtain ⟨rfl, rfl, rfl⟩ := h
  rw [hst]
  refine ms_then (h1 A outer s H1 E hr) I (rep_start rfl sm rps) e1 fun s2 σ2 Hf2 H2 I2 r2 => ?_
  refine ms_then (h2 A outer s H1 E hr) I2 r2 e2 fun s3 σ3 Hf3 H3 I3 r3 => ?_
  refine ms_then (h3 A outer s H1 E hr) I3 r3 e3 fun s4 σ4 Hf4 H4 I4 r4 => ?_
  have hP4 : H4 Pt = some (.tbl #[]) := r4.ext.all _ _ hP
  have hPf4 : Hf4 Pt = none := by rw [r4.ext.old Pt (by rw [hP]; intro z; cases z)]; exact hPf
  refine wpAny_execs_cons (wpAny_Return_some (wpAny_BinOp ?_))
  refine wpAny_mono (srt_miss (hL A outer s H1 E hr) hP4 hPf4 trivial rfl (ha A outer s H1 E) I4 r4 e4 (he A outer s H1 E) (hpl A outer s H1 E)) (fun u s5 q => ?_) fun _ _ z => z
  obtain ⟨v, Hf5, H5, c', oc', vs', t, I5, rv5, rp5, ex5, hc4, hc5, hd, hq⟩ := q
  obtain ⟨v2, hσ2, rp2⟩ := r4.var e5
  refine var_at (i := j) hj hv I5 hσ2 (fun u2 ru2 => ?_) hyd hyc
  have rp2' := rp2.keep ex5.frz
  cases rp5 with
  | lst g1 rr1 =>
    cases rp2' with
    | lst g2 rr2 =>
      cases rv5
      cases ru2
      refine cat_new I5 ex5.sub g1 g2 (by rw [rr1.length, rr2.length]; exact hz) fun a' s6 hn' I6 => ?_
      have hupd : ∀ b, H1 b ≠ none → H5 b ≠ none := fun b nb z => by
        cases q : H1 b with
        | none => exact nb q
        | some o =>
          have q4 := r4.ext.all _ _ q
          by_cases hb : b = Pt
          · have := ex5.all Pt _ upd_same
            rw [hb, this] at z; cases z
          · have := ex5.all b o (by rw [upd_ne hb]; exact q4)
            rw [this] at z; cases z
      have exN : ∀ o, Ext Hf5 H5 Hf5 (upd H5 a' o) := fun o => Ext.newH ex5.sub hn' o
      have ex : Ext Hf (upd H1 Pt (.tbl (tabOf lpos c'))) Hf5 H5 := by
        refine ⟨fun b o q => ?_, r4.ext.frz.trans ex5.frz, ex5.sub, fun b n => ?_⟩
        · by_cases hb : b = Pt
          · rw [hb] at q ⊢
            rw [upd_same] at q
            exact ex5.all Pt _ (by rw [upd_same]; exact q)
          · rw [upd_ne hb] at q
            exact ex5.all b o (by rw [upd_ne hb]; exact r4.ext.all _ _ q)
        · have n1 : H1 b ≠ none := fun z => by
            by_cases hb : b = Pt
            · rw [hb, hP] at z; cases z
            · rw [upd_ne hb] at n; exact n z
          have n4 : upd H4 Pt (.tbl (tabOf lpos c')) b ≠ none := fun z => by
            by_cases hb : b = Pt
            · rw [hb, upd_same] at z; cases z
            · rw [upd_ne hb] at z
              cases q : H1 b with
              | none => exact n1 q
              | some o => rw [r4.ext.all _ _ q] at z; cases z
          rw [ex5.old b n4, r4.ext.old b n1]
      have hua : upd H1 Pt (.tbl (tabOf lpos c')) a' = none := by
        cases q : upd H1 Pt (.tbl (tabOf lpos c')) a' with
        | none => rfl
        | some o => have := ex.all _ _ q; rw [hn'] at this; cases this
      refine ⟨.ref a', _, _, I6, rfl, hok a' _ Hf5 _ c' oc' vs' t (ex.trans (exN _)) upd_same (ex.sub.free hn') hua (rr1.append rr2) ?_ ?_ hd hq⟩
      · cases q : H1 c' with
        | none => rfl
        | some o => have := r4.ext.all _ _ q; rw [hc4] at this; cases this
      · exact (exN _).all _ _ hc5
end
end Mi
set_option Elab.async false
set_option linter.all false
set_option autoImplicit false
set_option maxRecDepth 100000
set_option maxHeartbeats 4000000
namespace Mi
open PySem PySem.Spec PyProof.Rows L2 PySem.W
section
variable {P : Program} {w : World} {K : PySem.W.Frag} {mg : Str → Option Value} {base : Heap} {cl : Nat → Addr} {N : List Str} {qual : Str} {scope : Scope} {f : Addr} {cd : Value} {A : Around} {outer : List Env} {s s' : Shared} {H0 H H' H2 : Hp} {E E2 : XK} {pins : List (Addr × Obj)} {σ : SV}
theorem inv_sw (I : Inv (cxM P w K mg base cl N qual scope f cd A outer s H0 E) pins σ H s') (hb : ∀ b o, base.get? b = some o → H2 b = none) (hf : ∀ b ∈ frs outer, H2 b = none) (hu : Un (frs outer) [] H2 H' s.heap s'.heap) (hn : ∀ b, H b = none → H' b = none) (hok : HOk P w H' s'.heap) :
    Inv (cxM P w K mg base cl N qual scope f cd A outer s H2 E2) pins σ H' s' where
  ok := { mod := I.ok.mod, kind := I.ok.kind, glob := I.ok.glob, blt := I.ok.blt, above := I.ok.above, inj := I.ok.inj, has := I.ok.has, cab := I.ok.cab, hd := I.ok.hd, frames := I.ok.frames, stk := I.ok.stk, exf := I.ok.exf, bs := fun b o e => ⟨(I.ok.bs b o e).1, hb b o e⟩, bsz := I.ok.bsz, noex := I.ok.noex, exfs := I.ok.exfs, funs := I.ok.funs, frf := hf }
  os := I.os
  bare := I.bare
  base := hu
  loc := I.loc
  cell := I.cell
  free := hn _ I.free
  freeC := fun x c e => hn _ (I.freeC x c e)
  pin := fun p hp => ⟨(I.pin p hp).1, hn _ (I.pin p hp).2.1, (I.pin p hp).2.2⟩
  hok := hok
  len := I.len
end
section
variable {P : Program} {w : World} {fs : List Addr} {h h' : Heap} {H0 H H' : Hp} {Pt c' : Addr} {ps : Array Value} {oc : Obj}
theorem hok_frz (hok : HOk P w H h) (hP : H Pt = some (.tbl ps)) : HOk P w (upd H Pt (.frz (tabObj ps) (.own Pt))) h := fun a o e => by
  by_cases ha : a = Pt
  · subst ha
    rw [upd_same] at e; cases e
    have := hok a _ hP
    exact ⟨this, _, this⟩
  · rw [upd_ne ha] at e
    refine (hok a o e).stay (fun b u _ q => q) (fun b q => ?_) fun b xs q => ?_
    · rw [upd_ne fun z => by rw [z, hP] at q; cases q]; exact q
    · rw [upd_ne fun z => by rw [z, hP] at q; cases q]; exact q
theorem hok_tbl (hok : HOk P w H h) (hP : H Pt = some (.frz (tabObj ps) (.own Pt))) : HOk P w (upd H Pt (.tbl ps)) h := fun a o e => by
  by_cases ha : a = Pt
  · subst ha
    rw [upd_same] at e; cases e
    exact (hok a _ hP).1
  · rw [upd_ne ha] at e
    refine (hok a o e).stay (fun b u _ q => q) (fun b q => ?_) fun b xs q => ?_
    · rw [upd_ne fun z => by rw [z, hP] at q; cases q]; exact q
    · rw [upd_ne fun z => by rw [z, hP] at q; cases q]; exact q
theorem un_to {ps0 : Array Value} (u : Un fs [] H0 H h h') (h0 : H0 Pt = some (.tbl ps0)) (hP : H Pt = some (.tbl ps)) (hc : H c' = some (.frz oc (.own c'))) (hne : c' ≠ Pt) :
    Un fs [] (upd (upd H0 Pt (.frz (tabObj ps) (.own Pt))) c' (.frz oc (.own c'))) (upd H Pt (.frz (tabObj ps) (.own Pt))) h h' := by
  have un : ∀ b, upd (upd H0 Pt (.frz (tabObj ps) (.own Pt))) c' (.frz oc (.own c')) b = none → b ≠ Pt ∧ H0 b = none := fun b n => by
    by_cases h1 : b = c'
    · rw [h1, upd_same] at n; cases n
    · rw [upd_ne h1] at n
      by_cases h2 : b = Pt
      · rw [h2, upd_same] at n; cases n
      · rw [upd_ne h2] at n; exact ⟨h2, n⟩
  have some_ : ∀ {b o}, upd (upd H0 Pt (.frz (tabObj ps) (.own Pt))) c' (.frz oc (.own c')) b = some o → (b = c' ∧ o = .frz oc (.own c')) ∨ (b = Pt ∧ o = .frz (tabObj ps) (.own Pt)) ∨ (b ≠ Pt ∧ H0 b = some o) := fun {b o} n => by
    by_cases h1 : b = c'
    · rw [h1, upd_same] at n; cases n; exact .inl ⟨h1, rfl⟩
    · rw [upd_ne h1] at n
      by_cases h2 : b = Pt
      · rw [h2, upd_same] at n; cases n; exact .inr (.inl ⟨h2, rfl⟩)
      · rw [upd_ne h2] at n; exact .inr (.inr ⟨h2, n⟩)
  refine ⟨fun b o e n => u.keep b o e (un b n).2, fun b o e n => u.slot b o e (un b n).2, fun b o e n x => ?_, u.there, fun b xs n => ?_, fun b o v n => ?_, fun b q n => ?_⟩
  · rw [upd_ne (un b n).1]; exact u.free b o e (un b n).2 x
  · rcases some_ n with ⟨_, z⟩ | ⟨_, z⟩ | ⟨h2, z⟩
    · cases z
    · cases z
    · rw [upd_ne h2]; exact u.tups b xs z
  · rcases some_ n with ⟨h1, z⟩ | ⟨h1, z⟩ | ⟨h2, z⟩
    · rw [h1, z, upd_ne hne]; exact hc
    · rw [h1, z, upd_same]
    · rw [upd_ne h2]; exact u.frzs b o v z
  · rcases some_ n with ⟨_, z⟩ | ⟨_, z⟩ | ⟨h2, z⟩
    · cases z
    · cases z
    · rw [upd_ne h2]; exact u.tbls b q z
theorem un_back (u : Un fs [] (upd (upd H0 Pt (.frz (tabObj ps) (.own Pt))) c' (.frz oc (.own c'))) H h h') (h0 : H0 Pt = some (.tbl #[])) (hc0 : H0 c' = none) (hcn : h.get? c' = none) :
    Un fs [] H0 (upd H Pt (.tbl ps)) h h' := by
  have no : ∀ b o, h.get? b = some o → H0 b = none → b ≠ Pt ∧ upd (upd H0 Pt (.frz (tabObj ps) (.own Pt))) c' (.frz oc (.own c')) b = none := fun b o e n => by
    have h1 : b ≠ Pt := fun z => by rw [z, h0] at n; cases n
    have h2 : b ≠ c' := fun z => by rw [z, hcn] at e; cases e
    exact ⟨h1, by rw [upd_ne h2, upd_ne h1]; exact n⟩
  have yes : ∀ b o, H0 b = some o → b ≠ Pt → upd (upd H0 Pt (.frz (tabObj ps) (.own Pt))) c' (.frz oc (.own c')) b = some o := fun b o n h1 => by
    have h2 : b ≠ c' := fun z => by rw [z, hc0] at n; cases n
    rw [upd_ne h2, upd_ne h1]; exact n
  refine ⟨fun b o e n => u.keep b o e (no b o e n).2, fun b o e n => u.slot b o e (no b o e n).2, fun b o e n x => ?_, u.there, fun b xs n => ?_, fun b o v n => ?_, fun b q n => ?_⟩
  · rw [upd_ne (no b o e n).1]; exact u.free b o e (no b o e n).2 x
  · have h1 : b ≠ Pt := fun z => by rw [z, h0] at n; cases n
    rw [upd_ne h1]; exact u.tups b xs (yes b _ n h1)
  · have h1 : b ≠ Pt := fun z => by rw [z, h0] at n; cases n
    rw [upd_ne h1]; exact u.frzs b o v (yes b _ n h1)
  · by_cases h1 : b = Pt
    · subst h1
      rw [h0] at n; cases n
      exact ⟨ps, by rw [upd_same]; simp⟩
    · rw [upd_ne h1]; exact u.tbls b q (yes b _ n h1)
end
/-- the law's promise -/
def spL (K : PySem.W.Frag) (cl : Nat → Addr) (n : Nat) (Pt : Addr) (ok : List PV → Prop) : Sp := fun vs H Q E => vs.length = n ∧ ∃ Hf qs, Same Hf H ∧ Rps K cl Hf vs qs ∧ ok qs ∧ H Pt = some (.tbl #[]) ∧ Hf Pt = none ∧ ∀ H', Q (.bl true) H'
section
variable {P : Program} {w : World} {K : PySem.W.Frag} {mg : Str → Option Value} {base : Heap} {cl : Nat → Addr}
/-- a def at its first call, wherever it is called from -/
structure FGM (P : Program) (w : World) (K : PySem.W.Frag) (mg : Str → Option Value) (base : Heap) (cl : Nat → Addr) (k : Nat) (x : Str) (n : Nat) (Pt : Addr) (pos : Pos) (qual : Str) (ok : List PV → List PV → Prop) : Prop where
  ex : ∃ (f : Addr) (fd : FuncData) (ps : List Str), mg x = some (.ref f) ∧ PySem.W.keepIn K (.ref f) = true ∧ ps.length = n ∧ FnOk P w K mg base (CXm cl P w) k f fd ps (spMs K cl n Pt pos qual ok) ∧ Binds K fd ps []
theorem fn_law {x qual : Str} {st : Stmt} {f : Addr} {fd : FuncData} {N ps : List Str} {k kk n m : Nat} {Pt : Addr} {st1 st2 st3 st4 : Stmt} {b1 b2 b3 b4 : FS} {rest : List Stmt} {bB : FS} {y fx : Str} {yp cp apos fp : Pos} {e : Expr} {es : List Expr} {g : FA} {i : Nat} {lpos : Pos} {lq : Str} {ok : List PV → List PV → Prop}
    (F : Fun K x qual st f fd) (S : FnScope N ps (defScope st)) (hn : ps.length = n)
    (hst : defBody st = st1 :: st2 :: st3 :: st4 :: .Assign [.Name y yp] (.Call (.Name fx fp) (e :: es) [] cp) apos :: rest)
    (h1 : ∀ (cdv : Value) (A : Around) (outer : List Env) (s : Shared) (H : Hp) (E : XK), Room k (A.deeper (envOfC qual (defScope st) s.heap.objs.size f cdv)) → MS (cxM P w K mg base cl N qual (defScope st) f cdv A outer s H E) cl st1 b1)
    (h2 : ∀ (cdv : Value) (A : Around) (outer : List Env) (s : Shared) (H : Hp) (E : XK), Room k (A.deeper (envOfC qual (defScope st) s.heap.objs.size f cdv)) → MS (cxM P w K mg base cl N qual (defScope st) f cdv A outer s H E) cl st2 b2)
    (h3 : ∀ (cdv : Value) (A : Around) (outer : List Env) (s : Shared) (H : Hp) (E : XK), Room k (A.deeper (envOfC qual (defScope st) s.heap.objs.size f cdv)) → MS (cxM P w K mg base cl N qual (defScope st) f cdv A outer s H E) cl st3 b3)
    (h4 : ∀ (cdv : Value) (A : Around) (outer : List Env) (s : Shared) (H : Hp) (E : XK), Room k (A.deeper (envOfC qual (defScope st) s.heap.objs.size f cdv)) → MS (cxM P w K mg base cl N qual (defScope st) f cdv A outer s H E) cl st4 b4)
    (ha : ∀ (cdv : Value) (A : Around) (outer : List Env) (s : Shared) (H : Hp) (E : XK), MA (cxM P w K mg base cl N qual (defScope st) f cdv A outer s H E) cl (e :: es) g) (hF : FGM P w K mg base cl kk fx m Pt lpos lq ok) (hkk : kk ≤ k) (hm : (e :: es).length = m)
    (hB : ∀ (cdv : Value) (A : Around) (outer : List Env) (s : Shared) (H : Hp) (E : XK) (c' : Addr) (oc : Obj) (vs' : Array Value) (t : Tok), Room k (A.deeper (envOfC qual (defScope st) s.heap.objs.size f cdv)) → H Pt = some (.frz (tabObj (tabOf lpos c')) (.own Pt)) → H c' = some (.frz oc (.own c')) → oc.data = .fields vs' → vs'[1]? = some (.str lq t) →
      MSs (cxM P w K mg base cl N qual (defScope st) f cdv A outer s H E) cl rest bB)
    (hi : N[i]? = some y) (hx : Loc (defScope st) y)
    (hg : ∀ (cdv : Value) (A : Around) (outer : List Env) (s : Shared) (H : Hp) (E : XK), Gl (cxM P w K mg base cl N qual (defScope st) f cdv A outer s H E) fx)
    (hdb : (fx == ("__debug__" : Str)) = false)
    (he : ∀ (cdv : Value) (A : Around) (outer : List Env) (s : Shared) (H : Hp) (E : XK), starEach (e :: es) (cxM P w K mg base cl N qual (defScope st) f cdv A outer s H E).env = (false, eval e (cxM P w K mg base cl N qual (defScope st) f cdv A outer s H E).env) :: starEach es (cxM P w K mg base cl N qual (defScope st) f cdv A outer s H E).env)
    (hpl : ∀ (cdv : Value) (A : Around) (outer : List Env) (s : Shared) (H : Hp) (E : XK), (backTo cp (starEach es (cxM P w K mg base cl N qual (defScope st) f cdv A outer s H E).env)).any (·.1) = false)
    (hsw : ∀ (cdv : Value) (A : Around) (outer : List Env) (s : Shared) (H : Hp) (E : XK), swapsWith (.Call (.Name fx fp) (e :: es) [] cp) (some (.Name y yp)) apos.line (cxM P w K mg base cl N qual (defScope st) f cdv A outer s H E).env = pure false) :
    FnOk P w K mg base (CXm cl P w) (k + 1) f fd ps (spL K cl n Pt fun qs => ∃ ρ1 ρ2 ρ3 ρ4 qa l, b1 (Mi.start N.length qs) = .next ρ1 ∧ b2 ρ1 = .next ρ2 ∧ b3 ρ2 = .next ρ3 ∧ b4 ρ3 = .next ρ4 ∧ g ρ4 = .ok qa ∧ ok qa l ∧ (∀ (j : Nat) (z : List PV), ρ4[j]? ≠ some (some (.own z))) ∧ bB (ρ4.set i (some (.own l))) = .ret (.bl true)) := by
  obtain ⟨oc, od, kV, doc, pm, an, cdv, ct, osl, rfl, lk, hcd⟩ := F.ex
  refine fn_of lk hcd S (fun vs H Q E h => by rw [h.1, hn]) fun A outer s H vs Q E hr hsp => ?_
  obtain ⟨hl, Hf, qs, sm, rps, ⟨ρ1, ρ2, ρ3, ρ4, qa, l, e1, e2, e3, e4, ea, hok, noown, eB⟩, hP, hPf, hQ⟩ := hsp
  refine ⟨fun D σ H1 => σ = L2.start N vs ∧ H1 = H ∧ D = { nx := fun _ H' => Q .non H', rt := Q }, fun pins s1 σ H1 D I h => ?_, rfl, rfl, rfl⟩
  obtain ⟨rfl, rfl, rfl⟩ := h
  rw [hst]
  refine ms_then (h1 cdv A outer s H1 E hr) I (rep_start rfl sm rps) e1 fun s2 σ2 Hf2 H2 I2 r2 => ?_
  refine ms_then (h2 cdv A outer s H1 E hr) I2 r2 e2 fun s3 σ3 Hf3 H3 I3 r3 => ?_
  refine ms_then (h3 cdv A outer s H1 E hr) I3 r3 e3 fun s4 σ4 Hf4 H4 I4 r4 => ?_
  refine ms_then (h4 cdv A outer s H1 E hr) I4 r4 e4 fun s5 σ5 Hf5 H5 I5 r5 => ?_
  obtain ⟨fi, fdi, psi, hmi, hki, hni, hfi, hbi⟩ := hF.ex
  refine wpAny_execs_cons (wpAny_Assign_Name ?_ (hsw cdv A outer s H1 E))
  refine wpAny_Call_Name_kw (ld_glob I5 (hg cdv A outer s H1 E) hmi ?_ hdb)
  refine PySem.W.callWith_K (h₀ := base) I5.ok.mod.kin hki (wpAny_mono ((ha cdv A outer s H1 E).run' cp pins s5 σ5 Hf H1 Hf5 H5 ρ4 I5 r5 (by rw [ea]; intro z; cases z)) (fun us s6 q6 => ?_) fun u s6 q6 => ?_) (he cdv A outer s H1 E) (hpl cdv A outer s H1 E)
  rotate_left
  · obtain ⟨c, e6, _⟩ := q6
    rw [ea] at e6; cases e6
  obtain ⟨qa', va, Hf6, H6, e6, I6, rva, x6, rpa⟩ := q6
  rw [ea] at e6; cases e6
  refine ⟨I6.kIn, ?_⟩
  have hP6 : H6 Pt = some (.tbl #[]) := x6.all _ _ (r5.ext.all _ _ hP)
  have hPf6 : Hf6 Pt = none := by rw [x6.old Pt (by rw [r5.ext.all _ _ hP]; intro z; cases z), r5.ext.old Pt (by rw [hP]; intro z; cases z)]; exact hPf
  have hv : va.length = m := by rw [rpa.length, (ha cdv A outer s H1 E).len ρ4 _ ea, hm]
  have hsp : spMs K cl m Pt lpos lq ok va H6 (fun v H' => ∃ a xs Hf' c' oc vs' t, v = .ref a ∧ Ext Hf6 (upd H6 Pt (.tbl (tabOf lpos c'))) Hf' H' ∧ H' a = some (.lst xs) ∧ Hf' a = none ∧ upd H6 Pt (.tbl (tabOf lpos c')) a = none ∧ Rps K cl Hf' xs l ∧ H6 c' = none ∧ H' c' = some (.frz oc (.own c')) ∧ oc.data = .fields vs' ∧ vs'[1]? = some (.str lq t)) (fun _ _ _ => False) :=
    ⟨hv, Hf6, qa, l, x6.sub, rpa, hok, hP6, hPf6, fun a xs Hf' H' c' oc vs' t a1 a2 a3 a4 a5 a6 a7 a8 a9 => ⟨a, xs, Hf', c', oc, vs', t, rfl, a1, a2, a3, a4, a5, a6, a7, a8, a9⟩⟩
  have hlu : (us ++ []).length = psi.length := by rw [List.append_nil, ← rva.length, hv, hni]
  have hbb := hbi s6 us I6.kIn hlu
  rw [List.append_nil] at hbb
  refine wpAny_call (codeAny_mono (hfi.run _ _ s6 H6 ⟨us, []⟩ us va _ _ (hr.mono hkk) I6.env0 hbb rva hsp) fun r s7 hq7 => ?_)
  cases r with
  | error e7 =>
    obtain ⟨_, _, _, _, _, _, _, _, _, _, _, _, _, z⟩ := hq7
    exact z.elim
  | ok fl =>
    cases fl with
    | next => exact False.elim hq7
    | brk => exact False.elim hq7
    | cont => exact False.elim hq7
    | ret u =>
      obtain ⟨v, H7, I7, rv7, a, xs, Hf7, c', oc', vs', t, rfl, x7, ga, gf, gn, rpl, hc6, hc7, hd, hq⟩ := I6.after hq7
      cases rv7
      have hP7 : H7 Pt = some (.tbl (tabOf lpos c')) := x7.all _ _ upd_same
      have hcp : c' ≠ Pt := fun z => by rw [z, hP6] at hc6; cases hc6
      refine store_ok (v := .ref a) I7 S.nd hi hx rfl (fun s8 I8 => ?_) (.inl rfl)
      -- the second context
      have hc0 : H1 c' = none := by
        cases q : H1 c' with
        | none => rfl
        | some o => have := x6.all _ _ (r5.ext.all _ _ q); rw [hc6] at this; cases this
      have hnb : base.get? Pt = none := by
        cases q : base.get? Pt with
        | none => rfl
        | some o => have := (I.ok.bs Pt o q).2; rw [show (cxM P w K mg base cl N qual (defScope st) f cdv A outer s H1 E).H₀ = H1 from rfl, hP] at this; cases this
      have hcb : base.get? c' = none := by
        cases q : base.get? c' with
        | none => rfl
        | some o => have := (I8.bs c' o q).2; rw [hc7] at this; cases this
      have hcn : s.heap.get? c' = none := by
        cases q : s.heap.get? c' with
        | none => rfl
        | some o => have := I8.base.free c' o q hc0 (by intro z; cases z); rw [hc7] at this; cases this
      have bs2 : ∀ b o, base.get? b = some o → upd (upd H1 Pt (.frz (tabObj (tabOf lpos c')) (.own Pt))) c' (.frz oc' (.own c')) b = none := fun b o q => by
        rw [upd_ne (fun z => (by rw [z, hcb] at q; cases q)), upd_ne (fun z => (by rw [z, hnb] at q; cases q))]
        exact (I.ok.bs b o q).2
      have fs2 : ∀ b ∈ frs outer, upd (upd H1 Pt (.frz (tabObj (tabOf lpos c')) (.own Pt))) c' (.frz oc' (.own c')) b = none := fun b hb => by
        have n8 : H7 b = none := I8.stkFree b (by show b ∈ frs (_ :: outer); unfold frs at hb ⊢; rw [List.filterMap_cons]; exact List.mem_cons_of_mem _ hb)
        rw [upd_ne (fun z => (by rw [z, hc7] at n8; cases n8)), upd_ne (fun z => (by rw [z, hP7] at n8; cases n8))]
        exact I.ok.frf b hb
      have un2 := un_to I8.base (h0 := hP) hP7 hc7 hcp
      have J8 : Inv (cxM P w K mg base cl N qual (defScope st) f cdv A outer s (upd (upd H1 Pt (.frz (tabObj (tabOf lpos c')) (.own Pt))) c' (.frz oc' (.own c'))) E) pins (σ5.set i (some (.ref a))) (upd H7 Pt (.frz (tabObj (tabOf lpos c')) (.own Pt))) s8 :=
        inv_sw I8 bs2 fs2 un2 (fun b n => by rw [upd_ne fun z => by rw [z, hP7] at n; cases n]; exact n) (hok_frz I8.hok hP7)
      have hap : a ≠ Pt := fun z => by rw [z, upd_same] at gn; cases gn
      have r8 : Rep K cl Hf (upd H1 Pt (.frz (tabObj (tabOf lpos c')) (.own Pt))) Hf7 (upd H7 Pt (.frz (tabObj (tabOf lpos c')) (.own Pt))) σ5 ρ4 := by
        have hold : ∀ b o, H1 b = some o → b ≠ Pt → H7 b = some o := fun b o q hb => x7.all b o (by rw [upd_ne hb]; exact x6.all _ _ (r5.ext.all _ _ q))
        refine ⟨⟨fun b o q => ?_, (r5.ext.frz.trans x6.frz).trans x7.frz, fun b o q => ?_, fun b n => ?_⟩, fun j p hp => ?_, fun j jj zs ws b a1 _ _ _ => absurd a1 (noown j zs)⟩
        · by_cases hb : b = Pt
          · rw [hb, upd_same] at q ⊢; exact q
          · rw [upd_ne hb] at q ⊢; exact hold b o q hb
        · have hb : b ≠ Pt := fun z => by
            have : Hf7 Pt = none := by rw [x7.old Pt (by rw [upd_same]; intro z; cases z)]; exact hPf6
            rw [z, this] at q; cases q
          rw [upd_ne hb]; exact x7.sub b o q
        · have n1 : H1 b ≠ none := fun z => by
            by_cases hb : b = Pt
            · rw [hb, hP] at z; cases z
            · rw [upd_ne hb] at n; exact n z
          have n5 : H5 b ≠ none := fun z => by
            cases q : H1 b with
            | none => exact n1 q
            | some o => rw [r5.ext.all _ _ q] at z; cases z
          have n6 : upd H6 Pt (.tbl (tabOf lpos c')) b ≠ none := fun z => by
            by_cases hb : b = Pt
            · rw [hb, upd_same] at z; cases z
            · rw [upd_ne hb] at z
              cases q : H5 b with
              | none => exact n5 q
              | some o => rw [x6.all _ _ q] at z; cases z
          rw [x7.old b n6, x6.old b n5, r5.ext.old b n1]
        · obtain ⟨vv, hv1, hv2⟩ := r5.slot j p hp
          refine ⟨vv, hv1, ?_⟩
          cases p with
          | own z => exact absurd hp (noown j z)
          | _ => exact Rp.keep x7.frz (Rp.keep x6.frz hv2)
      have h0a : upd H1 Pt (.frz (tabObj (tabOf lpos c')) (.own Pt)) a = none := by
        rw [upd_ne hap]
        cases q : H1 a with
        | none => rfl
        | some o =>
          rw [upd_ne hap] at gn
          have := x6.all _ _ (r5.ext.all _ _ q); rw [gn] at this; cases this
      have hil : i < σ5.length := by rw [I5.len]; exact (List.getElem?_eq_some_iff.mp hi).1
      have r9 := r8.own i (a := a) (xs := xs) (l := l) (by rw [upd_ne hap]; exact ga) gf h0a rpl hil (fun j zs a1 => absurd a1 (noown j zs))
      have B := hB cdv A outer s (upd (upd H1 Pt (.frz (tabObj (tabOf lpos c')) (.own Pt))) c' (.frz oc' (.own c'))) E c' oc' vs' t hr (by rw [upd_ne (Ne.symm hcp), upd_same]) upd_same hd hq
      refine wpAny_mono (B.run' pins s8 _ _ _ _ _ _ J8 r9 (by rw [eB]; intro z; cases z)) (fun fl2 s9 q9 => ?_) fun u9 s9 q9 => ?_
      · cases fl2 with
        | next => obtain ⟨_, _, _, _, z, _⟩ := q9; rw [eB] at z; cases z
        | brk => obtain ⟨_, _, _, _, z, _⟩ := q9; rw [eB] at z; cases z
        | cont => obtain ⟨_, _, _, _, z, _⟩ := q9; rw [eB] at z; cases z
        | ret u9 =>
          obtain ⟨p9, v9, σ9, Hf9, H9, z, I9, x9, rv9, rp9⟩ := q9
          rw [eB] at z; cases z
          cases rp9
          have hP9 : H9 Pt = some (.frz (tabObj (tabOf lpos c')) (.own Pt)) := x9.all _ _ upd_same
          have I10 : Inv (cxM P w K mg base cl N qual (defScope st) f cdv A outer s H1 E) pins σ9 (upd H9 Pt (.tbl (tabOf lpos c'))) s9 :=
            inv_sw I9 (fun b o q => (I.ok.bs b o q).2) I.ok.frf (un_back I9.base hP hc0 hcn) (fun b n => by rw [upd_ne fun z => by rw [z, hP9] at n; cases n]; exact n) (hok_tbl I9.hok hP9)
          exact ⟨.bl true, σ9, _, I10, rv9, hQ _⟩
      · obtain ⟨_, _, _, _, _, _, z, _⟩ := q9
        rw [eB] at z; cases z
end
end Mi
set_option Elab.async false
set_option linter.all false
set_option autoImplicit false
set_option maxRecDepth 100000
set_option maxHeartbeats 4000000
namespace Mi
open PySem PySem.Spec PyProof.Rows L2 PySem.W
def Gz (Pt : Addr) (lpos : Pos) (c' : Addr) (oc : Obj) (H : Hp) : Prop := H Pt = some (.frz (tabObj (tabOf lpos c')) (.own Pt)) ∧ H c' = some (.frz oc (.own c'))
theorem triples_tab (pos : Pos) (c' : Addr) : TriplesOk (tabOf pos c').toList := by simp [TriplesOk, rawInt, tabOf]
theorem among_tab (pos : Pos) (c' : Addr) : codeAmong pos (tabOf pos c').toList = some (.ref c') := by simp [codeAmong, rawInt, tabOf]
section
variable {P : Program} {w : World} {K : PySem.W.Frag} {mg : Str → Option Value} {base : Heap} {cl : Nat → Addr}
theorem mcT {N : List Str} {qual : Str} {scope : Scope} {f : Addr} {cd : Value} {A : Around} {outer : List Env} {s : Shared} {H : Hp} {E : XK} {k k' n : Nat} {x : Str} {F : List PV → R PV} {e : Expr} {es : List Expr} {g : FA} {p pos : Pos} {Pt c' : Addr} {lpos : Pos} {oc : Obj}
    (h : FGT P w K mg base cl k x n F (Gz Pt lpos c' oc)) (hH : Gz Pt lpos c' oc H) (hr : Room k' (A.deeper (envOfC qual scope s.heap.objs.size f cd))) (inj : ∀ c d, cl c = cl d → c = d) (ha : MA (cxM P w K mg base cl N qual scope f cd A outer s H E) cl (e :: es) g) (hk : k ≤ k' := by decide)
    (hl : (e :: es).length = n := by rfl) (hg : Gl (cxM P w K mg base cl N qual scope f cd A outer s H E) x := by rfl) (hdb : (x == ("__debug__" : Str)) = false := by decide)
    (he : starEach (e :: es) (cxM P w K mg base cl N qual scope f cd A outer s H E).env = (false, eval e (cxM P w K mg base cl N qual scope f cd A outer s H E).env) :: starEach es (cxM P w K mg base cl N qual scope f cd A outer s H E).env := by rfl)
    (hpl : (backTo pos (starEach es (cxM P w K mg base cl N qual scope f cd A outer s H E).env)).any (·.1) = false := by rfl) :
    ME (cxM P w K mg base cl N qual scope f cd A outer s H E) cl (.Call (.Name x p) (e :: es) [] pos) (fCall F g) :=
  me_callT h (fun _ _ _ _ I => ⟨I.base.frzs _ _ _ hH.1, I.base.frzs _ _ _ hH.2⟩) (hr.mono hk) hg rfl inj (fun b z => absurd (show b ∈ ([] : List Addr) from z) (by simp)) ha hl hdb he hpl
theorem tabIn_mk {x : Str} {f c Pt : Addr} {oc : Value} {od : Option Addr} {osl : Array (Option Value)} {fd : FuncData} {oc2 : Value} {od2 : Option Addr} {osl2 : Array (Option Value)} {vs : Array Value} (a : nsIn K mainGlobals x = some (some (.ref f))) (l : K.lookup f = some ⟨oc, od, .func fd, osl⟩) (cc : fd.code = .ref c) (lc : K.lookup c = some ⟨oc2, od2, .fields vs, osl2⟩) (v : vs[11]? = some (.ref Pt)) : tabIn K x = some (c, Pt) := by
  unfold tabIn
  simp only [a, l, cc, lc, v]
theorem def_mkT {h : Heap} {x : Str} {st : Stmt} {f c Pt : Addr} {oc : Value} {od an : Option Addr} {osl : Array (Option Value)} {kV doc pm ct : Value} {oc2 : Value} {od2 : Option Addr} {osl2 : Array (Option Value)} {vs : Array Value} (X : K.In h) (G : h.Ns mainGlobals mg) (a : PySem.W.nsIn K mainGlobals x = some (some (.ref f)))
    (l : K.lookup f = some ⟨oc, od, .func (PySem.W.fnOf x x (defArgs st) (defBody st) (defScope st) .none kV doc pm an (.ref c) ct), osl⟩) (cc : PySem.W.codeIn K (.ref c) x = true) (k : PySem.W.keepIn K (.ref f) = true) (lc : K.lookup c = some ⟨oc2, od2, .fields vs, osl2⟩) (v : vs[11]? = some (.ref Pt)) :
    ∃ f fd c Pt, DefAt K mg x st f fd ∧ fd.code = .ref c ∧ tabIn K x = some (c, Pt) := ⟨f, _, c, Pt, ⟨fun_mk l cc k, PySem.W.mg_of X G a⟩, rfl, tabIn_mk a l rfl lc v⟩
end
theorem law_callT {P : Program} {w : World} {K : PySem.W.Frag} {mg mb : Str → Option Value} {CX : CXT} {k : Nat} {fa a c Pt : Addr} {fd : FuncData} {x : Str} {sp : Sp} {s₁ : Shared} {vs : List Value} {ns : List Int}
    (KX : K.In s₁.heap) (hns : s₁.heap.Ns mainGlobals mg) (hb : s₁.heap.Ns builtinsNs mb) (hbb : ∀ x : Str, x ≠ "__name__" → mb x = bootBuiltins x) (hlim : s₁.heap.NoLimit) (hg : s₁.gens = #[])
    (ha : s₁.heap.get? a = some { cls := .type "list", data := .seq vs.toArray }) (hi : IntsAre vs ns) (hl : ns.length ≤ sizeLine) (hr : Room k callerA)
    (hC : CodeHd s₁.heap c Pt) (hPt : s₁.heap.get? Pt = some (tabObj #[])) (hbm : s₁.heap.BuiltinsAt mg Pt) (hnt : noTabs K = true)
    (F : ∀ base : Heap, K.In base → base.Ns mainGlobals mg → TabB mg base c Pt → FnOk P w K mg base CX k fa fd [x] sp) (hbind : ∀ (s : Shared) (u : Value), BindsTo s fd ⟨[u], []⟩ [(x, u)])
    (hsp : ∀ Hf : Hp, Only Hf → SqL K Hf a (ns.map V.int) → Hf Pt = none → sp [.ref a] (upd Hf Pt (.tbl #[])) (fun v _ => v = .bl true) fun _ _ _ => False)
    (hCX : ∀ H e s', CX [] H s₁ (fun _ _ _ => False) e s' → False) :
    codeAny (model P w) callerA (.call (.ref fa) ⟨[.ref a], []⟩) (fun r s' => r = .ok (.ret (.bool true)) ∧ OldK s₁.heap s'.heap ∧ s'.os = s₁.os ∧ AllBare s'.gens) s₁ := by
  have rv := vals_ints hi
  have lenV := hi.length
  have haP : a ≠ Pt := fun z => by rw [z, hPt] at ha; cases ha
  have hKP : K.lookup Pt = none := by
    cases q : K.lookup Pt with
    | none => rfl
    | some o =>
      have e1 := KX Pt o q
      rw [hPt] at e1
      cases e1
      have := List.all_eq_true.mp hnt _ (mem_of_lookupK q)
      cases this
  have core : ∀ Hf : Hp, Only Hf → SqL K Hf a (ns.map V.int) → HOk P w Hf s₁.heap → (∀ b, Hf b ≠ none → b = a) → (Hf a ≠ none → K.lookup a = none) →
      codeAny (model P w) callerA (.call (.ref fa) ⟨[.ref a], []⟩) (fun r s' => r = .ok (.ret (.bool true)) ∧ OldK s₁.heap s'.heap ∧ s'.os = s₁.os ∧ AllBare s'.gens) s₁ := by
    intro Hf hO hS hok hA hK
    have hfP : Hf Pt = none := by
      cases q : Hf Pt with
      | none => rfl
      | some o => exact absurd (hA Pt (by rw [q]; intro z; cases z)).symm haP
    have untr : ∀ b, b ≠ a → b ≠ Pt → upd Hf Pt (.tbl #[]) b = none := fun b n1 n2 => by
      rw [upd_ne n2]
      cases q : Hf b with
      | none => rfl
      | some o => exact absurd (hA b (by rw [q]; intro z; cases z)) n1
    have hok2 : HOk P w (upd Hf Pt (.tbl #[])) s₁.heap := fun b o e => by
      by_cases hbP : b = Pt
      · subst hbP
        rw [upd_same] at e; cases e
        exact hPt
      · rw [upd_ne hbP] at e
        refine (hok b o e).stay (fun b u _ q => q) (fun b' q => ?_) fun b' xs q => ?_
        · rw [upd_ne fun z => by rw [z, hfP] at q; cases q]; exact q
        · rw [upd_ne fun z => by rw [z, hfP] at q; cases q]; exact q
    have base_of : ∀ {b : Addr} {o : Obj}, s₁.heap.get? b = some o → b ≠ a → b ≠ Pt → (hidT s₁.heap (upd Hf Pt (.tbl #[]))).get? b = some o := fun e n1 n2 => hidT_get e (untr _ n1 n2)
    have neD : ∀ {b : Addr} {o : Obj} {es : Array DictEntry} {ep : Nat}, s₁.heap.get? b = some o → o.data = .dict es ep → b ≠ a ∧ b ≠ Pt := fun {b o es ep} e d => by
      refine ⟨fun z => ?_, fun z => ?_⟩
      · rw [z, ha] at e; cases e
        have d' : Data.seq vs.toArray _ = Data.dict es ep := d
        cases d'
      · rw [z, hPt] at e; cases e; cases d
    have nsK : ∀ {b : Addr} {m : Str → Option Value}, s₁.heap.Ns b m → (hidT s₁.heap (upd Hf Pt (.tbl #[]))).Ns b m := fun {b m} ⟨o, es, ep, e, d, r⟩ => ⟨o, es, ep, base_of e (neD e d).1 (neD e d).2, d, r⟩
    have hKb : K.In (hidT s₁.heap (upd Hf Pt (.tbl #[]))) := fun b o e => by
      have hbP : b ≠ Pt := fun z => by rw [z, hKP] at e; cases e
      by_cases hba : b = a
      · refine hidT_get (KX b o e) ?_
        rw [upd_ne hbP]
        cases q : Hf b with
        | none => rfl
        | some u =>
          rw [hba] at q e
          rw [hK (by rw [q]; intro z; cases z)] at e; cases e
      · exact base_of (KX b o e) hba hbP
    have hM : Mod K mg (hidT s₁.heap (upd Hf Pt (.tbl #[]))) := ⟨hKb, nsK hns, ⟨mb, nsK hb, hbb⟩, let ⟨mc, h1, h2⟩ := hlim; ⟨mc, nsK h1, h2⟩⟩
    have e0 : Env0 P w K mg (hidT s₁.heap (upd Hf Pt (.tbl #[]))) callerA [] s₁ (upd Hf Pt (.tbl #[])) := ⟨rfl, hM, fun b o e => of_hidT e, Nat.le_of_eq (hidT_size _ _), trivial, fun b hb => absurd (show b ∈ ([] : List Addr) from hb) (by simp), hok2, .of_eq hg⟩
    have tb : TabB mg (hidT s₁.heap (upd Hf Pt (.tbl #[]))) c Pt := by
      refine ⟨?_, ?_⟩
      · obtain ⟨o, vs', file, tf, flags, tg, inF, text, tt, g1, g2, g3⟩ := hC
        refine ⟨o, vs', file, tf, flags, tg, inF, text, tt, base_of g1 (fun z => ?_) (fun z => ?_), g2, g3⟩
        · rw [z, ha] at g1; cases g1; injection g2 with g2; exact absurd g2 (by decide)
        · rw [z, hPt] at g1; cases g1; cases g2
      · obtain ⟨bm, ob, b1, b2, b3, b4, b5, b6, b7⟩ := hbm
        exact ⟨bm, ob, b1, b2, b3, b4, base_of b5 (fun z => by rw [z, ha] at b5; cases b5; injection b6 with b6; exact absurd b6 (by decide)) b4, b6, b7⟩
    refine codeAny_mono ((F _ hKb (nsK hns) tb).run callerA [] s₁ _ ⟨[.ref a], []⟩ [.ref a] [.ref a] _ _ hr e0 (hbind s₁ (.ref a)) (.cons rfl .nil) (hsp Hf hO hS hfP)) fun r s' h => ?_
    cases r with
    | error e => exact (hCX _ e s' h).elim
    | ok fl =>
      cases fl with
      | next => exact False.elim h
      | brk => exact False.elim h
      | cont => exact False.elim h
      | ret u =>
        obtain ⟨v, H', os, bare, un, hok', r', q⟩ := h
        have q' : v = .bl true := q
        subst q'
        obtain rfl : u = Value.bool true := r'
        have kept : ∀ b o, s₁.heap.get? b = some o → b ≠ Pt → s'.heap.get? b = some o := fun b o e hbP => by
          cases q : Hf b with
          | none => exact un.keep b o e (by rw [upd_ne hbP]; exact q) (by intro z; exact absurd (show b ∈ ([] : List Addr) from z) (by simp)) (by simp)
          | some u =>
            rcases hO b with z | ⟨ob, xs, z⟩
            · rw [q] at z; cases z
            · have z1 : upd Hf Pt (.tbl #[]) b = some (.frz ob (.lst xs)) := by rw [upd_ne hbP]; exact z
              have z2 := un.frzs b ob _ z1
              obtain ⟨e1, _⟩ := hok2 b _ z1
              obtain ⟨e2, _⟩ := hok' b _ z2
              rw [e] at e1; cases e1
              exact e2
        obtain ⟨more, zP⟩ := un.tbls Pt #[] upd_same
        have gP : s'.heap.get? Pt = some (tabObj (#[] ++ more)) := hok' Pt _ zP
        refine ⟨rfl, ⟨fun b o e => ?_, fun b o e => ?_⟩, os, bare⟩
        · by_cases hbP : b = Pt
          · subst hbP
            rw [hPt] at e; cases e
            exact .inr (.inl ⟨(hC.tab hPt).isCodeTable, rfl, #[], more, rfl, gP⟩)
          · exact .inl (kept b o e hbP)
        · by_cases hbP : b = Pt
          · rw [hbP]; exact ⟨_, gP⟩
          · exact ⟨o, kept b o e hbP⟩
  cases hk : K.lookup a with
  | some o =>
    have e := KX a o hk
    rw [ha] at e
    cases e
    refine core (fun _ => none) (fun _ => .inl rfl) (.inr ⟨_, vs.toArray, _, hk, rfl, rfl, rfl, by rw [List.size_toArray, lenV]; exact hl, by simpa using rv⟩) (fun b u z => by have z' : (none : Option HO) = some u := z; cases z') (fun b z => absurd rfl z) fun z => absurd rfl z
  | none =>
    refine core (fun b => if b = a then some (.frz { cls := .type "list", data := .seq vs.toArray } (.lst (ns.map V.int))) else none) (fun b => ?_) (.inl (.inr ⟨{ cls := .type "list", data := .seq vs.toArray }, if_pos rfl⟩)) (fun b u z => ?_) (fun b z => ?_) fun _ => hk
    · by_cases hb : b = a
      · exact .inr ⟨_, _, if_pos hb⟩
      · exact .inl (if_neg hb)
    · by_cases hb : b = a
      · have z' := (if_pos hb).symm.trans z
        cases z'
        subst hb
        exact ⟨ha, by rw [List.length_map]; exact hl, vs, _, rv, ha⟩
      · have z' := (if_neg hb).symm.trans z
        cases z'
    · by_cases hb : b = a
      · exact hb
      · exact absurd (if_neg hb) z
theorem law_ofT {l : PySem.W.OpenLaw} {k : Nat} {q : Program} {loose : List Str} {XP : (Str → Option Value) → Heap → Prop} {YP : World → Heap → Prop} {d : DefRec} {K : Params → PySem.W.Frag} {x y : Str} {names : List (Nat × Str)} {ok : List PV → Prop}
    (hn : l.most = some 63) (hdf : d.params.defaults = []) (hr : Room k callerA)
    (hY : ∀ (w : World) (h : Heap), YP w h → (K w.params).In h) (hnt : ∀ w : World, noTabs (K w.params) = true) (hrec : ∃ d', (recsOf q).find? (fun e => e.name == y) = some d')
    (hF : ∀ (w : World) (mg : Str → Option Value) (fa : Addr) (h : Heap), (K w.params).In h → h.Ns mainGlobals mg → mg d.name = some (.ref fa) →
      ∃ (fd : FuncData) (c Pt : Addr), tabIn (K w.params) y = some (c, Pt) ∧ (∀ (s : Shared) (u : Value), BindsTo s fd ⟨[u], []⟩ [(x, u)]) ∧
        ∀ base : Heap, (K w.params).In base → base.Ns mainGlobals mg → TabB mg base c Pt → FnOk l.prog w (K w.params) mg base (CXm (clOf (K w.params) names) l.prog w) k fa fd [x] (spL (K w.params) (clOf (K w.params) names) 1 Pt ok))
    (hlaw : ∀ ns : List Int, ns.length ≤ 63 → (∀ x ∈ ns, nb x ≤ 1048576) → ok [.lst (ns.map PV.int)]) :
    PySem.W.WalkO q loose XP YP l.row.toRowW d [] (fun f vs => PySem.call f vs) := by
  intro w s₀ s₁ mg mb G Y fa o pm cd doc dV kV ho hd hcd hD hmg hg args vals as hpre hlay hrd hwl hlo
  obtain rfl : dV = .none := PySem.W.Dflts.none hD hdf
  obtain rfl : kV = .none := PySem.W.Dflts.noKw hD
  obtain ⟨a, vs, ns, rfl, rfl, hobj, hints, hlen⟩ := Att.script_of hn hpre hwl
  have KX := hY w _ Y
  obtain ⟨fd, c, Pt, ht, hb, hF'⟩ := hF w mg fa _ KX G.T.g hmg
  obtain ⟨d', hr'⟩ := hrec
  obtain ⟨hC, hPt⟩ := tab_of G.T KX hr' ht
  have hbm : s₁.heap.BuiltinsAt mg Pt := by
    obtain ⟨bm, ob, b1, b2, b3, b4, b5, b6⟩ := G.T.bmain
    refine ⟨bm, ob, b1, b2, fun z => ?_, fun z => ?_, b3, b4, b5, b6⟩
    · obtain ⟨o, es, ep, e, hd, _⟩ := G.T.g
      rw [z, e] at b3; cases b3; rw [hd] at b6; cases b6
    · rw [z, hPt] at b3; cases b3; cases b4
  have e := hlaw ns hlen (bits_of_lay hlay)
  refine PySem.W.enter_call (codeAny_mono (law_callT KX G.T.g G.T.b G.T.builtins G.T.nolimit hg hobj hints (Nat.le_trans hlen (by decide)) hr hC hPt hbm (hnt w) hF' hb (fun Hf hO hS hP => ?_) fun H e s' h => ?_) fun r s' hq => ?_)
  · exact ⟨rfl, Hf, [.lst (ns.map PV.int)], same_upd hP _, .cons (.lst hS (Rps.ints ns)) .nil, e, upd_same, hP, fun _ => rfl⟩
  · obtain ⟨a, c, H', B, a0, _, _, _, _, _, _, _, _, z⟩ := h
    exact z
  · obtain ⟨rfl, h2, h3, h4⟩ := hq
    exact ⟨.inl ⟨.bool true, .bool true, [], rfl, fun _ => rfl, .bool true, Att.post_true l _, fun _ => ⟨List.Pairwise.nil, fun _ hm => (nomatch hm)⟩⟩, h2, h3, h4⟩
end Mi
set_option Elab.async false
set_option linter.all false
set_option autoImplicit false
set_option maxRecDepth 100000
set_option maxHeartbeats 4000000
namespace Mi
open PySem
theorem fVar_e (i : Nat) (x0 : Option PV) (ρ0 : MEnv) : fVar i (x0 :: ρ0) = getV (x0 :: ρ0) i := rfl
theorem getV_0 (o : Option PV) (r : MEnv) : getV (o :: r) 0 = asVal o := rfl
theorem getV_s (o : Option PV) (r : MEnv) (n : Nat) : getV (o :: r) (n + 1) = getV r n := rfl
theorem asVal_int (i : Int) : asVal (some (.int i)) = .ok (.int i) := rfl
theorem asVal_bl (i : Bool) : asVal (some (.bl i)) = .ok (.bl i) := rfl
theorem asVal_str (i : Str) : asVal (some (.str i)) = .ok (.str i) := rfl
theorem asVal_non : asVal (some .non) = .ok .non := rfl
theorem asVal_tup (l : List PV) : asVal (some (.tup l)) = .ok (.tup l) := rfl
theorem asVal_lst (l : List PV) : asVal (some (.lst l)) = .ok (.lst l) := rfl
theorem asVal_exc (c : Nat) : asVal (some (.exc c)) = .ok (.exc c) := rfl
theorem asVal_dic0 : asVal (some .dic0) = .ok .dic0 := rfl
theorem fC_e (v : PV) (x0 : Option PV) (ρ0 : MEnv) : fC v (x0 :: ρ0) = .ok v := rfl
theorem fBin_e (o : PV → PV → R PV) (a b : FE) (x0 : Option PV) (ρ0 : MEnv) : fBin o a b (x0 :: ρ0) = (a (x0 :: ρ0)).bind fun x => (b (x0 :: ρ0)).bind fun y => o x y := rfl
theorem fUn_e (o : PV → R PV) (a : FE) (x0 : Option PV) (ρ0 : MEnv) : fUn o a (x0 :: ρ0) = (a (x0 :: ρ0)).bind o := rfl
theorem oBool_e (b : Bool) : oBool (.bl b) = .ok b := rfl
theorem fAnd_e (a b : FE) (x0 : Option PV) (ρ0 : MEnv) : fAnd a b (x0 :: ρ0) = (a (x0 :: ρ0)).bind fun x => (oBool x).bind fun c => if c then b (x0 :: ρ0) else .ok (.bl false) := rfl
theorem fOr_e (a b : FE) (x0 : Option PV) (ρ0 : MEnv) : fOr a b (x0 :: ρ0) = (a (x0 :: ρ0)).bind fun x => (oBool x).bind fun c => if c then .ok (.bl true) else b (x0 :: ρ0) := rfl
theorem fNot_e (a : FE) (x0 : Option PV) (ρ0 : MEnv) : fNot a (x0 :: ρ0) = (a (x0 :: ρ0)).bind fun x => (oBool x).bind fun c => .ok (.bl (!c)) := rfl
theorem fChain_e (o o' : PV → PV → R PV) (a b c : FE) (x0 : Option PV) (ρ0 : MEnv) : fChain o o' a b c (x0 :: ρ0) = (a (x0 :: ρ0)).bind fun x => (b (x0 :: ρ0)).bind fun y => (o x y).bind fun r => (oBool r).bind fun k =>
  if k then (c (x0 :: ρ0)).bind fun z => o' y z else .ok (.bl false) := rfl
theorem fIf_e (t : FT) (a b : FE) (x0 : Option PV) (ρ0 : MEnv) : fIf t a b (x0 :: ρ0) = (t (x0 :: ρ0)).bind fun c => if c then a (x0 :: ρ0) else b (x0 :: ρ0) := rfl
theorem aNil_e (x0 : Option PV) (ρ0 : MEnv) : aNil (x0 :: ρ0) = .ok [] := rfl
theorem aCons_e (a : FE) (r : FA) (x0 : Option PV) (ρ0 : MEnv) : aCons a r (x0 :: ρ0) = (a (x0 :: ρ0)).bind fun x => (r (x0 :: ρ0)).bind fun xs => .ok (x :: xs) := rfl
def mkTup (xs : List PV) : R PV := if xs.length ≤ sizeLine then .ok (.tup xs) else .stuck
def mkLst (xs : List PV) : R PV := if xs.length ≤ sizeLine then .ok (.lst xs) else .stuck
theorem sizeLine_ge : 1000 ≤ sizeLine := by decide
theorem fTup_e (a : FA) (x0 : Option PV) (ρ0 : MEnv) : fTup a (x0 :: ρ0) = (a (x0 :: ρ0)).bind mkTup := rfl
theorem fLst_e (a : FA) (x0 : Option PV) (ρ0 : MEnv) : fLst a (x0 :: ρ0) = (a (x0 :: ρ0)).bind mkLst := rfl
theorem small_le (n : Nat) (h : n ≤ 1000) : n ≤ sizeLine := Nat.le_trans h sizeLine_ge
theorem fCall_e (F : List PV → R PV) (a : FA) (x0 : Option PV) (ρ0 : MEnv) : fCall F a (x0 :: ρ0) = (a (x0 :: ρ0)).bind F := rfl
theorem fIsinst_e (t : Ty) (a : FE) (x0 : Option PV) (ρ0 : MEnv) : fIsinst t a (x0 :: ρ0) = (a (x0 :: ρ0)).bind fun x => match isTy x t with | some b => .ok (.bl b) | none => .stuck := rfl
theorem tVal_e (a : FE) (x0 : Option PV) (ρ0 : MEnv) : tVal a (x0 :: ρ0) = (a (x0 :: ρ0)).bind truthP := rfl
theorem truth_bl (b : Bool) : truthP (.bl b) = .ok b := rfl
theorem truth_int (i : Int) : truthP (.int i) = .ok (i != 0) := rfl
theorem truth_non : truthP .non = .ok false := rfl
theorem tAnd_e (a b : FT) (x0 : Option PV) (ρ0 : MEnv) : tAnd a b (x0 :: ρ0) = (a (x0 :: ρ0)).bind fun c => if c then b (x0 :: ρ0) else .ok false := rfl
theorem tOr_e (a b : FT) (x0 : Option PV) (ρ0 : MEnv) : tOr a b (x0 :: ρ0) = (a (x0 :: ρ0)).bind fun c => if c then .ok true else b (x0 :: ρ0) := rfl
theorem tNot_e (a : FT) (x0 : Option PV) (ρ0 : MEnv) : tNot a (x0 :: ρ0) = (a (x0 :: ρ0)).bind fun c => .ok (!c) := rfl
theorem mkTup_s (xs : List PV) (h : xs.length ≤ 1000) : mkTup xs = .ok (.tup xs) := if_pos (small_le _ h)
theorem mkLst_s (xs : List PV) (h : xs.length ≤ 1000) : mkLst xs = .ok (.lst xs) := if_pos (small_le _ h)
theorem mkTup_1 (a : PV) : mkTup [a] = .ok (.tup [a]) := mkTup_s _ (by simp)
theorem mkTup_2 (a b : PV) : mkTup [a, b] = .ok (.tup [a, b]) := mkTup_s _ (by simp)
theorem mkTup_3 (a b c : PV) : mkTup [a, b, c] = .ok (.tup [a, b, c]) := mkTup_s _ (by simp)
theorem mkTup_4 (a b c d : PV) : mkTup [a, b, c, d] = .ok (.tup [a, b, c, d]) := mkTup_s _ (by simp)
theorem mkLst_0 : mkLst [] = .ok (.lst []) := mkLst_s _ (by simp)
theorem mkLst_1 (a : PV) : mkLst [a] = .ok (.lst [a]) := mkLst_s _ (by simp)
theorem mkLst_2 (a b : PV) : mkLst [a, b] = .ok (.lst [a, b]) := mkLst_s _ (by simp)
theorem mkLst_3 (a b c : PV) : mkLst [a, b, c] = .ok (.lst [a, b, c]) := mkLst_s _ (by simp)
theorem mkLst_4 (a b c d : PV) : mkLst [a, b, c, d] = .ok (.lst [a, b, c, d]) := mkLst_s _ (by simp)
theorem mkLst_5 (a b c d e : PV) : mkLst [a, b, c, d, e] = .ok (.lst [a, b, c, d, e]) := mkLst_s _ (by simp)
theorem mkLst_6 (a b c d e f : PV) : mkLst [a, b, c, d, e, f] = .ok (.lst [a, b, c, d, e, f]) := mkLst_s _ (by simp)
theorem mkLst_7 (a b c d e f g : PV) : mkLst [a, b, c, d, e, f, g] = .ok (.lst [a, b, c, d, e, f, g]) := mkLst_s _ (by simp)
theorem mkLst_8 (a b c d e f g h : PV) : mkLst [a, b, c, d, e, f, g, h] = .ok (.lst [a, b, c, d, e, f, g, h]) := mkLst_s _ (by simp)
theorem asVal_none : asVal none = .stuck := rfl
/-- what range hands on -/
def rgF : List PV → R (List PV)
  | [.int hi] => if smallI hi then .ok (rangeP 0 hi 1) else .stuck
  | [.int lo, .int hi] => if smallI lo ∧ smallI hi then .ok (rangeP lo hi 1) else .stuck
  | [.int lo, .int hi, .int st] => if smallI lo ∧ smallI hi ∧ smallI st ∧ st ≠ 0 then .ok (rangeP lo hi st) else .stuck
  | _ => .stuck
def okI (i : Int) : Prop := smallI i
theorem iRange_e (a : FA) (x0 : Option PV) (ρ0 : MEnv) : iRange a (x0 :: ρ0) = (a (x0 :: ρ0)).bind rgF := by
  show R.bind _ _ = R.bind _ _
  congr 1
theorem rg_1 (hi : Int) (h : okI hi) : rgF [.int hi] = .ok (rangeP 0 hi 1) := if_pos h
theorem rg_2 (lo hi : Int) (h : okI lo) (h2 : okI hi) : rgF [.int lo, .int hi] = .ok (rangeP lo hi 1) := if_pos ⟨h, h2⟩
theorem rg_3 (lo hi st : Int) (h : okI lo) (h2 : okI hi) (h3 : okI st) (h0 : st ≠ 0) : rgF [.int lo, .int hi, .int st] = .ok (rangeP lo hi st) := if_pos ⟨h, h2, h3, h0⟩
theorem bind_ok (p : PV) (f : PV → R PV) : (R.ok p).bind f = f p := rfl
theorem bind_okl (p : PV) (f : PV → R (List PV)) : (R.ok p).bind f = f p := rfl
theorem bind_okb (p : PV) (f : PV → R Bool) : (R.ok p).bind f = f p := rfl
theorem bind_oko (p : PV) (f : PV → R (Option Int)) : (R.ok p).bind f = f p := rfl
theorem bindl_ok (p : List PV) (f : List PV → R PV) : (R.ok p).bind f = f p := rfl
theorem bindl_okl (p : List PV) (f : List PV → R (List PV)) : (R.ok p).bind f = f p := rfl
theorem bindb_ok (p : Bool) (f : Bool → R PV) : (R.ok p).bind f = f p := rfl
theorem bindb_okb (p : Bool) (f : Bool → R Bool) : (R.ok p).bind f = f p := rfl
theorem bindo_ok (p : Option Int) (f : Option Int → R PV) : (R.ok p).bind f = f p := rfl
theorem bind_exc (c : Nat) (f : PV → R PV) : (R.exc c : R PV).bind f = .exc c := rfl
theorem bind_excl (c : Nat) (f : PV → R (List PV)) : (R.exc c : R PV).bind f = .exc c := rfl
theorem bind_excb (c : Nat) (f : PV → R Bool) : (R.exc c : R PV).bind f = .exc c := rfl
theorem bindl_exc (c : Nat) (f : List PV → R PV) : (R.exc c : R (List PV)).bind f = .exc c := rfl
theorem bindl_excl (c : Nat) (f : List PV → R (List PV)) : (R.exc c : R (List PV)).bind f = .exc c := rfl
theorem bindb_exc (c : Nat) (f : Bool → R PV) : (R.exc c : R Bool).bind f = .exc c := rfl
theorem bindb_excb (c : Nat) (f : Bool → R Bool) : (R.exc c : R Bool).bind f = .exc c := rfl
/-- what a def hands back -/
def fin : SR → R PV
  | .next _ => .ok .non
  | .ret v => .ok v
  | .exc c _ => .exc c
  | _ => .stuck
theorem fin_next (ρ : MEnv) : fin (.next ρ) = .ok .non := rfl
theorem fin_ret (v : PV) : fin (.ret v) = .ok v := rfl
theorem fin_exc (c : Nat) (ρ : MEnv) : fin (.exc c ρ) = .exc c := rfl
theorem runF_fin (n : Nat) (b : FS) (vs : List PV) : runF n b vs = fin (b (vs.map some ++ List.replicate (n - vs.length) none)) := by
  show (match b _ with | .next _ => _ | .ret v => _ | .exc c _ => _ | _ => _) = fin (b _)
  rfl
theorem run_1 (n : Nat) (b : FS) (a1 : PV) : runF (n + 1) b [a1] = fin (b (some a1 :: List.replicate n none)) := by
  rw [runF_fin, List.length_cons]; simp
theorem run_2 (n : Nat) (b : FS) (a1 a2 : PV) : runF (n + 2) b [a1, a2] = fin (b (some a1 :: some a2 :: List.replicate n none)) := by
  rw [runF_fin, List.length_cons]; simp
theorem run_3 (n : Nat) (b : FS) (a1 a2 a3 : PV) : runF (n + 3) b [a1, a2, a3] = fin (b (some a1 :: some a2 :: some a3 :: List.replicate n none)) := by
  rw [runF_fin, List.length_cons]; simp
theorem run_4 (n : Nat) (b : FS) (a1 a2 a3 a4 : PV) : runF (n + 4) b [a1, a2, a3, a4] = fin (b (some a1 :: some a2 :: some a3 :: some a4 :: List.replicate n none)) := by
  rw [runF_fin, List.length_cons]; simp
theorem run_5 (n : Nat) (b : FS) (a1 a2 a3 a4 a5 : PV) : runF (n + 5) b [a1, a2, a3, a4, a5] = fin (b (some a1 :: some a2 :: some a3 :: some a4 :: some a5 :: List.replicate n none)) := by
  rw [runF_fin, List.length_cons]; simp
theorem run_6 (n : Nat) (b : FS) (a1 a2 a3 a4 a5 a6 : PV) : runF (n + 6) b [a1, a2, a3, a4, a5, a6] = fin (b (some a1 :: some a2 :: some a3 :: some a4 :: some a5 :: some a6 :: List.replicate n none)) := by
  rw [runF_fin, List.length_cons]; simp
/-- 2 to a power, as a whole number -/
def p2 (b : Int) : Int := 2 ^ b.toNat
def okMul (a b : Int) : Prop := nb a ≤ 64 ∨ nb b ≤ 64 ∨ nb a + nb b ≤ bitsMax
def okDiv (b : Int) : Prop := 0 < b ∧ nb b ≤ 9000
def okMod (b : Int) : Prop := 0 < b
def okPow (a b : Int) : Prop := 0 ≤ b ∧ b ≤ 1000000 ∧ nb a ≤ 64
def okShl (a b : Int) : Prop := 0 ≤ b ∧ nb a + b ≤ 134217728
def okShr (b : Int) : Prop := 0 ≤ b
def powI (a b : Int) : Int := a ^ b.toNat
theorem oMul_i (a b : Int) (h : okMul a b) : oMul (.int a) (.int b) = .ok (.int (a * b)) := if_pos h
theorem oDiv_i (a b : Int) (h : okDiv b) : oDiv (.int a) (.int b) = .ok (.int (a / b)) := if_pos h
theorem oMod_i (a b : Int) (h : okMod b) : oMod (.int a) (.int b) = .ok (.int (a % b)) := if_pos h
theorem oPow_i (a b : Int) (h : okPow a b) : oPow (.int a) (.int b) = .ok (.int (powI a b)) := if_pos h
theorem oShl_i (a b : Int) (h : okShl a b) : oShl (.int a) (.int b) = .ok (.int (a * p2 b)) := if_pos h
theorem oShr_i (a b : Int) (h : okShr b) : oShr (.int a) (.int b) = .ok (.int (a / p2 b)) := if_pos h
theorem oAdd_i (a b : Int) : oAdd (.int a) (.int b) = .ok (.int (a + b)) := rfl
theorem oSub_i (a b : Int) : oSub (.int a) (.int b) = .ok (.int (a - b)) := rfl
theorem oNeg_i (a : Int) : oNeg (.int a) = .ok (.int (-a)) := rfl
theorem oAnd_i (a b : Int) : oAnd (.int a) (.int b) = .ok (.int (Builtin.bitAnd a b)) := rfl
theorem oOr_i (a b : Int) : oOr (.int a) (.int b) = .ok (.int (Builtin.bitOr a b)) := rfl
theorem oXor_i (a b : Int) : oXor (.int a) (.int b) = .ok (.int (Builtin.bitXor a b)) := rfl
theorem cLt_i (a b : Int) : cLt (.int a) (.int b) = .ok (.bl (decide (a < b))) := rfl
theorem cLe_i (a b : Int) : cLe (.int a) (.int b) = .ok (.bl (decide (a ≤ b))) := rfl
theorem cGt_i (a b : Int) : cGt (.int a) (.int b) = .ok (.bl (decide (b < a))) := rfl
theorem cGe_i (a b : Int) : cGe (.int a) (.int b) = .ok (.bl (decide (b ≤ a))) := rfl
theorem cEq_i (a b : Int) : cEq (.int a) (.int b) = .ok (.bl (decide (a = b))) := rfl
theorem cNe_i (a b : Int) : cNe (.int a) (.int b) = .ok (.bl (!decide (a = b))) := rfl
theorem cEq_b (a b : Bool) : cEq (.bl a) (.bl b) = .ok (.bl (a == b)) := rfl
theorem cNe_b (a b : Bool) : cNe (.bl a) (.bl b) = .ok (.bl (!(a == b))) := rfl
theorem cEq_s (a b : Str) : cEq (.str a) (.str b) = .ok (.bl (a == b)) := rfl
theorem cNe_s (a b : Str) : cNe (.str a) (.str b) = .ok (.bl (!(a == b))) := rfl
theorem cEq_tup (a b : List PV) : cEq (.tup a) (.tup b) = if (a.all (cmpOkN 5) && b.all (cmpOkN 5)) then .ok (.bl (eqPVs a b)) else .stuck := rfl
theorem cNe_tup (a b : List PV) : cNe (.tup a) (.tup b) = if (a.all (cmpOkN 5) && b.all (cmpOkN 5)) then .ok (.bl (!eqPVs a b)) else .stuck := rfl
theorem cEq_lst (a b : List PV) : cEq (.lst a) (.lst b) = if (a.all (cmpOkN 5) && b.all (cmpOkN 5)) then .ok (.bl (eqPVs a b)) else .stuck := rfl
theorem cNe_lst (a b : List PV) : cNe (.lst a) (.lst b) = if (a.all (cmpOkN 5) && b.all (cmpOkN 5)) then .ok (.bl (!eqPVs a b)) else .stuck := rfl
theorem cmpOkN_int (n : Nat) (i : Int) : cmpOkN n (.int i) = true := by cases n <;> rfl
theorem cmpOkN_bl (n : Nat) (i : Bool) : cmpOkN n (.bl i) = true := by cases n <;> rfl
theorem cmpOkN_str (n : Nat) (i : Str) : cmpOkN n (.str i) = true := by cases n <;> rfl
theorem cmpOkN_non (n : Nat) : cmpOkN n .non = true := by cases n <;> rfl
theorem cmpOkN_tup (n : Nat) (l : List PV) : cmpOkN (n + 1) (.tup l) = l.all (cmpOkN n) := rfl
theorem cmpOkN_lst (n : Nat) (l : List PV) : cmpOkN (n + 1) (.lst l) = l.all (cmpOkN n) := rfl
theorem eqPVs_nil : eqPVs [] [] = true := rfl
theorem eqPVs_cons (x y : PV) (xs ys : List PV) : eqPVs (x :: xs) (y :: ys) = (eqPV x y && eqPVs xs ys) := rfl
theorem eqPVs_cn (x : PV) (xs : List PV) : eqPVs (x :: xs) [] = false := rfl
theorem eqPVs_nc (x : PV) (xs : List PV) : eqPVs [] (x :: xs) = false := rfl
theorem eqPV_i (a b : Int) : eqPV (.int a) (.int b) = decide (a = b) := rfl
theorem eqPV_b (a b : Bool) : eqPV (.bl a) (.bl b) = (a == b) := rfl
theorem eqPV_s (a b : Str) : eqPV (.str a) (.str b) = (a == b) := rfl
theorem eqPV_t (a b : List PV) : eqPV (.tup a) (.tup b) = eqPVs a b := rfl
theorem eqPV_l (a b : List PV) : eqPV (.lst a) (.lst b) = eqPVs a b := rfl
theorem eqPV_n : eqPV .non .non = true := rfl
theorem bLen_tup (l : List PV) : bLen [.tup l] = .ok (.int l.length) := rfl
theorem bLen_lst (l : List PV) : bLen [.lst l] = .ok (.int l.length) := rfl
theorem bAbs_i (i : Int) : bAbs [.int i] = .ok (.int (if i < 0 then -i else i)) := rfl
theorem bMin_i (i j : Int) : bMin [.int i, .int j] = .ok (.int (if j < i then j else i)) := rfl
theorem bMax_i (i j : Int) : bMax [.int i, .int j] = .ok (.int (if j > i then j else i)) := rfl
theorem bInt_i (i : Int) : bInt [.int i] = .ok (.int i) := rfl
theorem bInt_b (b : Bool) : bInt [.bl b] = .ok (.int (if b then 1 else 0)) := rfl
theorem bBitLength_i (i : Int) : bBitLength (.int i) = .ok (.int (nb i)) := rfl
theorem bList_l (l : List PV) : bList [.lst l] = .ok (.lst l) := rfl
theorem bList_t (l : List PV) : bList [.tup l] = .ok (.lst l) := rfl
theorem bTuple_l (l : List PV) : bTuple [.lst l] = .ok (.tup l) := rfl
theorem bTuple_t (l : List PV) : bTuple [.tup l] = .ok (.tup l) := rfl
theorem isTy_int_i (i : Int) : isTy (.int i) .int = some true := rfl
theorem isTy_int_b (i : Int) : isTy (.int i) .bool = some false := rfl
theorem isTy_int_s (i : Int) : isTy (.int i) .str = some false := rfl
theorem isTy_int_t (i : Int) : isTy (.int i) .tuple = some false := rfl
theorem isTy_bl_i (i : Bool) : isTy (.bl i) .int = some true := rfl
theorem isTy_bl_b (i : Bool) : isTy (.bl i) .bool = some true := rfl
theorem isTy_bl_t (i : Bool) : isTy (.bl i) .tuple = some false := rfl
theorem isTy_bl_s (i : Bool) : isTy (.bl i) .str = some false := rfl
theorem isTy_tup_t (l : List PV) : isTy (.tup l) .tuple = some true := rfl
theorem isTy_tup_i (l : List PV) : isTy (.tup l) .int = some false := rfl
theorem isTy_tup_s (l : List PV) : isTy (.tup l) .str = some false := rfl
theorem isTy_lst_i (l : List PV) : isTy (.lst l) .int = some false := rfl
theorem isTy_lst_l (l : List PV) : isTy (.lst l) .list = some true := rfl
theorem isTy_lst_t (l : List PV) : isTy (.lst l) .tuple = some false := rfl
theorem isTy_lst_s (l : List PV) : isTy (.lst l) .str = some false := rfl
theorem isTy_str_i (x : Str) : isTy (.str x) .int = some false := rfl
theorem isTy_str_s (x : Str) : isTy (.str x) .str = some true := rfl
theorem isTy_str_t (x : Str) : isTy (.str x) .tuple = some false := rfl
theorem isTy_non (t : Ty) : isTy .non t = some false := by cases t <;> rfl
theorem isTy_dic_i : isTy .dic0 .int = some false := rfl
theorem isTy_dic_s : isTy .dic0 .str = some false := rfl
theorem oItem_at {l : List PV} {i : Int} {v : PV} (h0 : 0 ≤ i) (h : l[i.toNat]? = some v) : oItem (.lst l) (.int i) = .ok v := by
  have hl : i.toNat < l.length := (List.getElem?_eq_some_iff.mp h).1
  show itemP l i = _
  unfold itemP ixP
  rw [if_pos h0, if_pos (by omega)]
  simp [h]
theorem oItem_atT {l : List PV} {i : Int} {v : PV} (h0 : 0 ≤ i) (h : l[i.toNat]? = some v) : oItem (.tup l) (.int i) = .ok v := oItem_at h0 h
theorem oItem_t0 (x : PV) (l : List PV) : oItem (.tup (x :: l)) (.int 0) = .ok x := oItem_atT (by decide) rfl
theorem oItem_t1 (x y : PV) (l : List PV) : oItem (.tup (x :: y :: l)) (.int 1) = .ok y := oItem_atT (by decide) rfl
theorem oItem_t2 (x y z : PV) (l : List PV) : oItem (.tup (x :: y :: z :: l)) (.int 2) = .ok z := oItem_atT (by decide) rfl
theorem oItem_l0 (x : PV) (l : List PV) : oItem (.lst (x :: l)) (.int 0) = .ok x := oItem_at (by decide) rfl
theorem oItem_l1 (x y : PV) (l : List PV) : oItem (.lst (x :: y :: l)) (.int 1) = .ok y := oItem_at (by decide) rfl
theorem oItem_l2 (x y z : PV) (l : List PV) : oItem (.lst (x :: y :: z :: l)) (.int 2) = .ok z := oItem_at (by decide) rfl
theorem sNext_e (x0 : Option PV) (ρ0 : MEnv) : sNext (x0 :: ρ0) = .next (x0 :: ρ0) := rfl
theorem sSeq_e (f g : FS) (x0 : Option PV) (ρ0 : MEnv) : sSeq f g (x0 :: ρ0) = match f (x0 :: ρ0) with | .next ρ' => g ρ' | o => o := rfl
theorem ofR_ok (v : PV) (ρ : MEnv) (k : PV → SR) : ofR (.ok v) ρ k = k v := rfl
theorem ofR_exc (c : Nat) (ρ : MEnv) (k : PV → SR) : ofR (.exc c) ρ k = .exc c ρ := rfl
theorem sRet_e (a : FE) (x0 : Option PV) (ρ0 : MEnv) : sRet a (x0 :: ρ0) = ofR (a (x0 :: ρ0)) (x0 :: ρ0) fun v => .ret v := rfl
theorem sExpr_e (a : FE) (x0 : Option PV) (ρ0 : MEnv) : sExpr a (x0 :: ρ0) = ofR (a (x0 :: ρ0)) (x0 :: ρ0) fun _ => .next (x0 :: ρ0) := rfl
theorem sSet_e (i : Nat) (a : FE) (x0 : Option PV) (ρ0 : MEnv) : sSet i a (x0 :: ρ0) = ofR (a (x0 :: ρ0)) (x0 :: ρ0) fun v => .next ((x0 :: ρ0).set i (some v)) := rfl
theorem sIf_e (t : FT) (f g : FS) (x0 : Option PV) (ρ0 : MEnv) : sIf t f g (x0 :: ρ0) = match t (x0 :: ρ0) with | .ok c => if c then f (x0 :: ρ0) else g (x0 :: ρ0) | .exc c => .exc c (x0 :: ρ0) | .stuck => .stuck := rfl
theorem sFor_e (i : Nat) (it : FA) (body : FS) (x0 : Option PV) (ρ0 : MEnv) : sFor i it body (x0 :: ρ0) = match it (x0 :: ρ0) with | .ok l => forL i body l (x0 :: ρ0) | .exc c => .exc c (x0 :: ρ0) | .stuck => .stuck := rfl
theorem sBreak_e (x0 : Option PV) (ρ0 : MEnv) : sBreak (x0 :: ρ0) = .brk (x0 :: ρ0) := rfl
theorem sCont_e (x0 : Option PV) (ρ0 : MEnv) : sCont (x0 :: ρ0) = .cont (x0 :: ρ0) := rfl
theorem sRetN_e (x0 : Option PV) (ρ0 : MEnv) : sRetN (x0 :: ρ0) = .ret .non := rfl
theorem sRaise_e (c : Nat) (x0 : Option PV) (ρ0 : MEnv) : sRaise c (x0 :: ρ0) = .exc c (x0 :: ρ0) := rfl
theorem iSeq_e (a : FE) (x0 : Option PV) (ρ0 : MEnv) : iSeq a (x0 :: ρ0) = (a (x0 :: ρ0)).bind fun x => match x with | .lst l => .ok l | .tup l => .ok l | _ => .stuck := rfl
theorem forL_nil (i : Nat) (body : FS) (ρ : MEnv) : forL i body [] ρ = .next ρ := rfl
theorem forL_cons (i : Nat) (body : FS) (x : PV) (l : List PV) (ρ : MEnv) : forL i body (x :: l) ρ = match body (ρ.set i (some x)) with
    | .next ρ' => forL i body l ρ'
    | .cont ρ' => forL i body l ρ'
    | .brk ρ' => .next ρ'
    | o => o := rfl
theorem oNone_e (x0 : Option PV) (ρ0 : MEnv) : oNone (x0 :: ρ0) = .ok none := rfl
theorem oSome_e (a : FE) (x0 : Option PV) (ρ0 : MEnv) : oSome a (x0 :: ρ0) = (a (x0 :: ρ0)).bind fun x => match x with | .int i => .ok (some i) | _ => .stuck := rfl
theorem fCut_e (a : FE) (l h : FO) (x0 : Option PV) (ρ0 : MEnv) : fCut a l h (x0 :: ρ0) = (a (x0 :: ρ0)).bind fun x => (l (x0 :: ρ0)).bind fun lo => (h (x0 :: ρ0)).bind fun hi => oCut x lo hi := rfl
theorem oCut_lst (l : List PV) (lo hi : Option Int) : oCut (.lst l) lo hi = .ok (.lst (cutP l lo hi)) := rfl
theorem isSmallI_i (i : Int) : isSmallI (.ok (.int i)) = decide (i.natAbs < 18446744073709551616) := rfl
theorem sRaiseT_e (k : MEnv → Bool) (c : Nat) (x0 : Option PV) (ρ0 : MEnv) : sRaiseT k c (x0 :: ρ0) = if k (x0 :: ρ0) then .exc c (x0 :: ρ0) else .stuck := rfl
theorem sTryAs_e (f : FS) (ks : List Nat) (d n x : Nat) (x0 : Option PV) (ρ0 : MEnv) : sTryAs f ks d n x (x0 :: ρ0) = match f (x0 :: ρ0) with
  | .exc c ρ' => if ks.contains c && under c d then .next (((ρ'.set n (some (.exc c))).set x (some (.exc c))).set n none) else .stuck
  | o => o := rfl
theorem fIsExc_e (ks : List Nat) (d : Nat) (a : FE) (x0 : Option PV) (ρ0 : MEnv) : fIsExc ks d a (x0 :: ρ0) = (a (x0 :: ρ0)).bind fun x => match x with
  | .exc c => if ks.contains c then .ok (.bl (under c d)) else .stuck
  | .non => .ok (.bl false)
  | _ => .stuck := rfl
theorem fIsVal_e (ks : List Nat) (a : FE) (x0 : Option PV) (ρ0 : MEnv) : fIsVal ks a (x0 :: ρ0) = (a (x0 :: ρ0)).bind fun x => match x with
  | .exc c => if ks.contains c then .ok (.bl true) else .stuck
  | .non => .ok (.bl false)
  | _ => .stuck := rfl
/-- what is left over of tests and lists -/
theorem evl : (∀ (α : Type) (a b : α), (if (true : Bool) = true then a else b) = a) ∧ (∀ (α : Type) (a b : α), (if (false : Bool) = true then a else b) = b) ∧ (∀ (α : Type) (a b : α), (if True then a else b) = a) ∧ (∀ (α : Type) (a b : α), (if False then a else b) = b) ∧
    (decide True = true) ∧ (decide False = false) ∧ ((!true) = false) ∧ ((!false) = true) ∧ (∀ b, (true && b) = b) ∧ (∀ b, (false && b) = false) ∧ (∀ b, (b && true) = b) ∧ (∀ b, (b && false) = false) ∧ (∀ b, (true || b) = true) ∧ (∀ b, (false || b) = b) ∧ (∀ b : Bool, (b == b) = true) ∧
    (∀ (x y : Option PV) (l : MEnv), (x :: l).set 0 y = y :: l) ∧ (∀ (x y : Option PV) (l : MEnv) (n : Nat), (x :: l).set (n + 1) y = x :: l.set n y) ∧
    ((List.replicate 0 (none : Option PV)) = []) ∧ (∀ (n : Nat), (List.replicate (n + 1) (none : Option PV)) = none :: List.replicate n none) ∧
    (∀ (x : PV) (l : List PV), (x :: l).map some = some x :: l.map some) ∧ (([] : List PV).map some = []) ∧ (∀ (x : Option PV) (l m : MEnv), (x :: l) ++ m = x :: (l ++ m)) ∧ (∀ (l : MEnv), [] ++ l = l) ∧
    (∀ (x : PV) (l : List PV), (x :: l).length = l.length + 1) ∧ (([] : List PV).length = 0) ∧
    (∀ (p : PV → Bool) (x : PV) (l : List PV), (x :: l).all p = (p x && l.all p)) ∧ (∀ (p : PV → Bool), ([] : List PV).all p = true) ∧
    (∀ (p : PV → Bool) (x : PV) (l : List PV), (x :: l).any p = (p x || l.any p)) ∧ (∀ (p : PV → Bool), ([] : List PV).any p = false) := by
  refine ⟨fun _ _ _ => rfl, fun _ _ _ => rfl, fun _ _ _ => if_pos trivial, fun _ _ _ => if_neg id, by decide, by decide, rfl, rfl, fun b => by cases b <;> rfl, fun b => by cases b <;> rfl, fun b => by cases b <;> rfl, fun b => by cases b <;> rfl, fun b => by cases b <;> rfl, fun b => by cases b <;> rfl, fun b => by cases b <;> rfl, fun _ _ _ => rfl, fun _ _ _ _ => rfl, rfl, fun _ => rfl, fun _ _ => rfl, rfl, fun _ _ _ => rfl, fun _ => rfl, fun _ _ => rfl, rfl, fun _ _ _ => rfl, fun _ => rfl, fun _ _ _ => rfl, fun _ => rfl⟩
/-- the statement goes on, to a frame of this make -/
def Goes (I : MEnv → Prop) (r : SR) : Prop := ∃ ρ, r = .next ρ ∧ I ρ
/-- a loop by what holds behind its k-th turn -/
theorem forL_ix {I : Nat → MEnv → Prop} {i : Nat} {body : FS} : ∀ {l : List PV} {k : Nat} {ρ : MEnv}, I k ρ → (∀ (j : Nat) (x : PV) ρ, l[j]? = some x → I (k + j) ρ → Goes (I (k + j + 1)) (body (ρ.set i (some x)))) → Goes (I (k + l.length)) (forL i body l ρ)
  | [], k, ρ, h, _ => ⟨ρ, rfl, h⟩
  | x :: l, k, ρ, h, s => by
    obtain ⟨ρ1, e1, h1⟩ := s 0 x ρ rfl h
    obtain ⟨ρ2, e2, h2⟩ := forL_ix (I := I) (i := i) (body := body) (l := l) (k := k + 1) h1 fun j y ρ hj hI => by
      have := s (j + 1) y ρ hj (by rw [show k + (j + 1) = k + 1 + j from by omega]; exact hI)
      rw [show k + (j + 1) + 1 = k + 1 + j + 1 from by omega] at this; exact this
    exact ⟨ρ2, by rw [forL_cons, e1]; exact e2, by rw [List.length_cons, show k + (l.length + 1) = k + 1 + l.length from by omega]; exact h2⟩
theorem goes_next {I : MEnv → Prop} {ρ : MEnv} (h : I ρ) : Goes I (.next ρ) := ⟨ρ, rfl, h⟩
theorem nb_le_iff {a : Int} {k : Nat} : nb a ≤ k ↔ a.natAbs < 2 ^ k := by
  show (if a == 0 then 0 else a.natAbs.log2 + 1) ≤ k ↔ _
  by_cases h : a = 0
  · subst h; simp; exact Nat.two_pow_pos k
  · have h0 : a.natAbs ≠ 0 := by omega
    rw [if_neg (by simpa using h)]
    rw [← Nat.log2_lt h0]
    omega
theorem nb_le {a : Int} {k : Nat} (h : a.natAbs < 2 ^ k) : nb a ≤ k := nb_le_iff.mpr h
/-- the words of the operators, for written numbers -/
theorem okMul_r {a b : Int} (h1 : -18446744073709551616 < b) (h2 : b < 18446744073709551616) : okMul a b := .inr (.inl (nb_le (k := 64) (by omega)))
theorem okMul_l {a b : Int} (h1 : -18446744073709551616 < a) (h2 : a < 18446744073709551616) : okMul a b := .inl (nb_le (k := 64) (by omega))
theorem okMul_of {a b : Int} {m n : Nat} (ha : nb a ≤ m) (hb : nb b ≤ n) (h : m + n ≤ 134217728) : okMul a b := .inr (.inr (by show _ ≤ 134217728; omega))
theorem okDiv_s {b : Int} (h0 : 0 < b) (h : b < 18446744073709551616) : okDiv b := ⟨h0, Nat.le_trans (nb_le (k := 64) (by omega)) (by decide)⟩
theorem okDiv_of {b : Int} {n : Nat} (h0 : 0 < b) (h : nb b ≤ n) (hn : n ≤ 9000) : okDiv b := ⟨h0, Nat.le_trans h hn⟩
theorem okShl_of {a b : Int} {n : Nat} (h0 : 0 ≤ b) (ha : nb a ≤ n) (h : n + b ≤ 134217728) : okShl a b := ⟨h0, by omega⟩
theorem okPow_s {a b : Int} (h0 : 0 ≤ b) (h1 : b ≤ 1000000) (h : -18446744073709551616 < a) (h2 : a < 18446744073709551616) : okPow a b := ⟨h0, h1, nb_le (k := 64) (by omega)⟩
theorem okMod_s {b : Int} (h : 0 < b) : okMod b := h
theorem okShr_s {b : Int} (h : 0 ≤ b) : okShr b := h
theorem okI_of {b : Int} (h0 : -1152921504606846976 ≤ b) (h : b < 1152921504606846976) : okI b := by
  have e : (2 : Int) ^ 60 = 1152921504606846976 := by decide
  show -(2 ^ 60) ≤ b ∧ b < 2 ^ 60
  rw [e]; exact ⟨h0, h⟩
/-- of written numbers -/
theorem okw : (∀ (a b : Int) (h1 : -18446744073709551616 < b) (h2 : b < 18446744073709551616), okMul a b) ∧ (∀ (a b : Int) (h1 : -18446744073709551616 < a) (h2 : a < 18446744073709551616), okMul a b) ∧ (∀ (b : Int) (h0 : 0 < b) (h : b < 18446744073709551616), okDiv b) ∧
    (∀ (a b : Int) (h0 : 0 ≤ b) (h1 : b ≤ 1000000) (h : -18446744073709551616 < a) (h2 : a < 18446744073709551616), okPow a b) ∧ (∀ (b : Int) (h : 0 < b), okMod b) ∧ (∀ (b : Int) (h : 0 ≤ b), okShr b) ∧ (∀ (b : Int) (h0 : -1152921504606846976 ≤ b) (h : b < 1152921504606846976), okI b) :=
  ⟨fun _ _ => okMul_r, fun _ _ => okMul_l, fun _ => okDiv_s, fun _ _ => okPow_s, fun _ => okMod_s, fun _ => okShr_s, fun _ => okI_of⟩
/-- the equations by which a mirror is reckoned, as one word for simp -/
theorem ev : (∀ (i : Nat) (x0 : Option PV) (ρ0 : MEnv), fVar i (x0 :: ρ0) = getV (x0 :: ρ0) i) ∧
  (∀ (o : Option PV) (r : MEnv), getV (o :: r) 0 = asVal o) ∧
  (∀ (o : Option PV) (r : MEnv) (n : Nat), getV (o :: r) (n + 1) = getV r n) ∧
  (∀ (i : Int), asVal (some (.int i)) = .ok (.int i)) ∧
  (∀ (i : Bool), asVal (some (.bl i)) = .ok (.bl i)) ∧
  (∀ (i : Str), asVal (some (.str i)) = .ok (.str i)) ∧
  (asVal (some .non) = .ok .non) ∧
  (∀ (l : List PV), asVal (some (.tup l)) = .ok (.tup l)) ∧
  (∀ (l : List PV), asVal (some (.lst l)) = .ok (.lst l)) ∧
  (∀ (c : Nat), asVal (some (.exc c)) = .ok (.exc c)) ∧
  (asVal (some .dic0) = .ok .dic0) ∧
  (∀ (v : PV) (x0 : Option PV) (ρ0 : MEnv), fC v (x0 :: ρ0) = .ok v) ∧
  (∀ (o : PV → PV → R PV) (a b : FE) (x0 : Option PV) (ρ0 : MEnv), fBin o a b (x0 :: ρ0) = (a (x0 :: ρ0)).bind fun x => (b (x0 :: ρ0)).bind fun y => o x y) ∧
  (∀ (o : PV → R PV) (a : FE) (x0 : Option PV) (ρ0 : MEnv), fUn o a (x0 :: ρ0) = (a (x0 :: ρ0)).bind o) ∧
  (∀ (b : Bool), oBool (.bl b) = .ok b) ∧
  (∀ (a b : FE) (x0 : Option PV) (ρ0 : MEnv), fAnd a b (x0 :: ρ0) = (a (x0 :: ρ0)).bind fun x => (oBool x).bind fun c => if c then b (x0 :: ρ0) else .ok (.bl false)) ∧
  (∀ (a b : FE) (x0 : Option PV) (ρ0 : MEnv), fOr a b (x0 :: ρ0) = (a (x0 :: ρ0)).bind fun x => (oBool x).bind fun c => if c then .ok (.bl true) else b (x0 :: ρ0)) ∧
  (∀ (a : FE) (x0 : Option PV) (ρ0 : MEnv), fNot a (x0 :: ρ0) = (a (x0 :: ρ0)).bind fun x => (oBool x).bind fun c => .ok (.bl (!c))) ∧
  (∀ (o o' : PV → PV → R PV) (a b c : FE) (x0 : Option PV) (ρ0 : MEnv), fChain o o' a b c (x0 :: ρ0) = (a (x0 :: ρ0)).bind fun x => (b (x0 :: ρ0)).bind fun y => (o x y).bind fun r => (oBool r).bind fun k =>
  if k then (c (x0 :: ρ0)).bind fun z => o' y z else .ok (.bl false)) ∧
  (∀ (t : FT) (a b : FE) (x0 : Option PV) (ρ0 : MEnv), fIf t a b (x0 :: ρ0) = (t (x0 :: ρ0)).bind fun c => if c then a (x0 :: ρ0) else b (x0 :: ρ0)) ∧
  (∀ (x0 : Option PV) (ρ0 : MEnv), aNil (x0 :: ρ0) = .ok []) ∧
  (∀ (a : FE) (r : FA) (x0 : Option PV) (ρ0 : MEnv), aCons a r (x0 :: ρ0) = (a (x0 :: ρ0)).bind fun x => (r (x0 :: ρ0)).bind fun xs => .ok (x :: xs)) ∧
  (∀ (a : FA) (x0 : Option PV) (ρ0 : MEnv), fTup a (x0 :: ρ0) = (a (x0 :: ρ0)).bind mkTup) ∧
  (∀ (a : FA) (x0 : Option PV) (ρ0 : MEnv), fLst a (x0 :: ρ0) = (a (x0 :: ρ0)).bind mkLst) ∧
  (∀ (F : List PV → R PV) (a : FA) (x0 : Option PV) (ρ0 : MEnv), fCall F a (x0 :: ρ0) = (a (x0 :: ρ0)).bind F) ∧
  (∀ (t : Ty) (a : FE) (x0 : Option PV) (ρ0 : MEnv), fIsinst t a (x0 :: ρ0) = (a (x0 :: ρ0)).bind fun x => match isTy x t with | some b => .ok (.bl b) | none => .stuck) ∧
  (∀ (a : FE) (x0 : Option PV) (ρ0 : MEnv), tVal a (x0 :: ρ0) = (a (x0 :: ρ0)).bind truthP) ∧
  (∀ (b : Bool), truthP (.bl b) = .ok b) ∧
  (∀ (i : Int), truthP (.int i) = .ok (i != 0)) ∧
  (truthP .non = .ok false) ∧
  (∀ (a b : FT) (x0 : Option PV) (ρ0 : MEnv), tAnd a b (x0 :: ρ0) = (a (x0 :: ρ0)).bind fun c => if c then b (x0 :: ρ0) else .ok false) ∧
  (∀ (a b : FT) (x0 : Option PV) (ρ0 : MEnv), tOr a b (x0 :: ρ0) = (a (x0 :: ρ0)).bind fun c => if c then .ok true else b (x0 :: ρ0)) ∧
  (∀ (a : FT) (x0 : Option PV) (ρ0 : MEnv), tNot a (x0 :: ρ0) = (a (x0 :: ρ0)).bind fun c => .ok (!c)) ∧
  (∀ (a : PV), mkTup [a] = .ok (.tup [a])) ∧
  (∀ (a b : PV), mkTup [a, b] = .ok (.tup [a, b])) ∧
  (∀ (a b c : PV), mkTup [a, b, c] = .ok (.tup [a, b, c])) ∧
  (∀ (a b c d : PV), mkTup [a, b, c, d] = .ok (.tup [a, b, c, d])) ∧
  (mkLst [] = .ok (.lst [])) ∧
  (∀ (a : PV), mkLst [a] = .ok (.lst [a])) ∧
  (∀ (a b : PV), mkLst [a, b] = .ok (.lst [a, b])) ∧
  (∀ (a b c : PV), mkLst [a, b, c] = .ok (.lst [a, b, c])) ∧
  (∀ (a b c d : PV), mkLst [a, b, c, d] = .ok (.lst [a, b, c, d])) ∧
  (∀ (a b c d e : PV), mkLst [a, b, c, d, e] = .ok (.lst [a, b, c, d, e])) ∧
  (∀ (a b c d e f : PV), mkLst [a, b, c, d, e, f] = .ok (.lst [a, b, c, d, e, f])) ∧
  (∀ (a b c d e f g : PV), mkLst [a, b, c, d, e, f, g] = .ok (.lst [a, b, c, d, e, f, g])) ∧
  (∀ (a b c d e f g h : PV), mkLst [a, b, c, d, e, f, g, h] = .ok (.lst [a, b, c, d, e, f, g, h])) ∧
  (asVal none = .stuck) ∧
  (∀ (a : FA) (x0 : Option PV) (ρ0 : MEnv), iRange a (x0 :: ρ0) = (a (x0 :: ρ0)).bind rgF) ∧
  (∀ (hi : Int) (h : okI hi), rgF [.int hi] = .ok (rangeP 0 hi 1)) ∧
  (∀ (lo hi : Int) (h : okI lo) (h2 : okI hi), rgF [.int lo, .int hi] = .ok (rangeP lo hi 1)) ∧
  (∀ (lo hi st : Int) (h : okI lo) (h2 : okI hi) (h3 : okI st) (h0 : st ≠ 0), rgF [.int lo, .int hi, .int st] = .ok (rangeP lo hi st)) ∧
  (∀ (p : PV) (f : PV → R PV), (R.ok p).bind f = f p) ∧
  (∀ (p : PV) (f : PV → R (List PV)), (R.ok p).bind f = f p) ∧
  (∀ (p : PV) (f : PV → R Bool), (R.ok p).bind f = f p) ∧
  (∀ (p : PV) (f : PV → R (Option Int)), (R.ok p).bind f = f p) ∧
  (∀ (p : List PV) (f : List PV → R PV), (R.ok p).bind f = f p) ∧
  (∀ (p : List PV) (f : List PV → R (List PV)), (R.ok p).bind f = f p) ∧
  (∀ (p : Bool) (f : Bool → R PV), (R.ok p).bind f = f p) ∧
  (∀ (p : Bool) (f : Bool → R Bool), (R.ok p).bind f = f p) ∧
  (∀ (p : Option Int) (f : Option Int → R PV), (R.ok p).bind f = f p) ∧
  (∀ (c : Nat) (f : PV → R PV), (R.exc c : R PV).bind f = .exc c) ∧
  (∀ (c : Nat) (f : PV → R (List PV)), (R.exc c : R PV).bind f = .exc c) ∧
  (∀ (c : Nat) (f : PV → R Bool), (R.exc c : R PV).bind f = .exc c) ∧
  (∀ (c : Nat) (f : List PV → R PV), (R.exc c : R (List PV)).bind f = .exc c) ∧
  (∀ (c : Nat) (f : List PV → R (List PV)), (R.exc c : R (List PV)).bind f = .exc c) ∧
  (∀ (c : Nat) (f : Bool → R PV), (R.exc c : R Bool).bind f = .exc c) ∧
  (∀ (c : Nat) (f : Bool → R Bool), (R.exc c : R Bool).bind f = .exc c) ∧
  (∀ (ρ : MEnv), fin (.next ρ) = .ok .non) ∧
  (∀ (v : PV), fin (.ret v) = .ok v) ∧
  (∀ (c : Nat) (ρ : MEnv), fin (.exc c ρ) = .exc c) ∧
  (∀ (n : Nat) (b : FS) (a1 : PV), runF (n + 1) b [a1] = fin (b (some a1 :: List.replicate n none))) ∧
  (∀ (n : Nat) (b : FS) (a1 a2 : PV), runF (n + 2) b [a1, a2] = fin (b (some a1 :: some a2 :: List.replicate n none))) ∧
  (∀ (n : Nat) (b : FS) (a1 a2 a3 : PV), runF (n + 3) b [a1, a2, a3] = fin (b (some a1 :: some a2 :: some a3 :: List.replicate n none))) ∧
  (∀ (n : Nat) (b : FS) (a1 a2 a3 a4 : PV), runF (n + 4) b [a1, a2, a3, a4] = fin (b (some a1 :: some a2 :: some a3 :: some a4 :: List.replicate n none))) ∧
  (∀ (n : Nat) (b : FS) (a1 a2 a3 a4 a5 : PV), runF (n + 5) b [a1, a2, a3, a4, a5] = fin (b (some a1 :: some a2 :: some a3 :: some a4 :: some a5 :: List.replicate n none))) ∧
  (∀ (n : Nat) (b : FS) (a1 a2 a3 a4 a5 a6 : PV), runF (n + 6) b [a1, a2, a3, a4, a5, a6] = fin (b (some a1 :: some a2 :: some a3 :: some a4 :: some a5 :: some a6 :: List.replicate n none))) ∧
  (∀ (a b : Int) (h : okMul a b), oMul (.int a) (.int b) = .ok (.int (a * b))) ∧
  (∀ (a b : Int) (h : okDiv b), oDiv (.int a) (.int b) = .ok (.int (a / b))) ∧
  (∀ (a b : Int) (h : okMod b), oMod (.int a) (.int b) = .ok (.int (a % b))) ∧
  (∀ (a b : Int) (h : okPow a b), oPow (.int a) (.int b) = .ok (.int (powI a b))) ∧
  (∀ (a b : Int) (h : okShl a b), oShl (.int a) (.int b) = .ok (.int (a * p2 b))) ∧
  (∀ (a b : Int) (h : okShr b), oShr (.int a) (.int b) = .ok (.int (a / p2 b))) ∧
  (∀ (a b : Int), oAdd (.int a) (.int b) = .ok (.int (a + b))) ∧
  (∀ (a b : Int), oSub (.int a) (.int b) = .ok (.int (a - b))) ∧
  (∀ (a : Int), oNeg (.int a) = .ok (.int (-a))) ∧
  (∀ (a b : Int), oAnd (.int a) (.int b) = .ok (.int (Builtin.bitAnd a b))) ∧
  (∀ (a b : Int), oOr (.int a) (.int b) = .ok (.int (Builtin.bitOr a b))) ∧
  (∀ (a b : Int), oXor (.int a) (.int b) = .ok (.int (Builtin.bitXor a b))) ∧
  (∀ (a b : Int), cLt (.int a) (.int b) = .ok (.bl (decide (a < b)))) ∧
  (∀ (a b : Int), cLe (.int a) (.int b) = .ok (.bl (decide (a ≤ b)))) ∧
  (∀ (a b : Int), cGt (.int a) (.int b) = .ok (.bl (decide (b < a)))) ∧
  (∀ (a b : Int), cGe (.int a) (.int b) = .ok (.bl (decide (b ≤ a)))) ∧
  (∀ (a b : Int), cEq (.int a) (.int b) = .ok (.bl (decide (a = b)))) ∧
  (∀ (a b : Int), cNe (.int a) (.int b) = .ok (.bl (!decide (a = b)))) ∧
  (∀ (a b : Bool), cEq (.bl a) (.bl b) = .ok (.bl (a == b))) ∧
  (∀ (a b : Bool), cNe (.bl a) (.bl b) = .ok (.bl (!(a == b)))) ∧
  (∀ (a b : Str), cEq (.str a) (.str b) = .ok (.bl (a == b))) ∧
  (∀ (a b : Str), cNe (.str a) (.str b) = .ok (.bl (!(a == b)))) ∧
  (∀ (a b : List PV), cEq (.tup a) (.tup b) = if (a.all (cmpOkN 5) && b.all (cmpOkN 5)) then .ok (.bl (eqPVs a b)) else .stuck) ∧
  (∀ (a b : List PV), cNe (.tup a) (.tup b) = if (a.all (cmpOkN 5) && b.all (cmpOkN 5)) then .ok (.bl (!eqPVs a b)) else .stuck) ∧
  (∀ (a b : List PV), cEq (.lst a) (.lst b) = if (a.all (cmpOkN 5) && b.all (cmpOkN 5)) then .ok (.bl (eqPVs a b)) else .stuck) ∧
  (∀ (a b : List PV), cNe (.lst a) (.lst b) = if (a.all (cmpOkN 5) && b.all (cmpOkN 5)) then .ok (.bl (!eqPVs a b)) else .stuck) ∧
  (∀ (n : Nat) (i : Int), cmpOkN n (.int i) = true) ∧
  (∀ (n : Nat) (i : Bool), cmpOkN n (.bl i) = true) ∧
  (∀ (n : Nat) (i : Str), cmpOkN n (.str i) = true) ∧
  (∀ (n : Nat), cmpOkN n .non = true) ∧
  (∀ (n : Nat) (l : List PV), cmpOkN (n + 1) (.tup l) = l.all (cmpOkN n)) ∧
  (∀ (n : Nat) (l : List PV), cmpOkN (n + 1) (.lst l) = l.all (cmpOkN n)) ∧
  (eqPVs [] [] = true) ∧
  (∀ (x y : PV) (xs ys : List PV), eqPVs (x :: xs) (y :: ys) = (eqPV x y && eqPVs xs ys)) ∧
  (∀ (x : PV) (xs : List PV), eqPVs (x :: xs) [] = false) ∧
  (∀ (x : PV) (xs : List PV), eqPVs [] (x :: xs) = false) ∧
  (∀ (a b : Int), eqPV (.int a) (.int b) = decide (a = b)) ∧
  (∀ (a b : Bool), eqPV (.bl a) (.bl b) = (a == b)) ∧
  (∀ (a b : Str), eqPV (.str a) (.str b) = (a == b)) ∧
  (∀ (a b : List PV), eqPV (.tup a) (.tup b) = eqPVs a b) ∧
  (∀ (a b : List PV), eqPV (.lst a) (.lst b) = eqPVs a b) ∧
  (eqPV .non .non = true) ∧
  (∀ (l : List PV), bLen [.tup l] = .ok (.int l.length)) ∧
  (∀ (l : List PV), bLen [.lst l] = .ok (.int l.length)) ∧
  (∀ (i : Int), bAbs [.int i] = .ok (.int (if i < 0 then -i else i))) ∧
  (∀ (i j : Int), bMin [.int i, .int j] = .ok (.int (if j < i then j else i))) ∧
  (∀ (i j : Int), bMax [.int i, .int j] = .ok (.int (if j > i then j else i))) ∧
  (∀ (i : Int), bInt [.int i] = .ok (.int i)) ∧
  (∀ (b : Bool), bInt [.bl b] = .ok (.int (if b then 1 else 0))) ∧
  (∀ (i : Int), bBitLength (.int i) = .ok (.int (nb i))) ∧
  (∀ (l : List PV), bList [.lst l] = .ok (.lst l)) ∧
  (∀ (l : List PV), bList [.tup l] = .ok (.lst l)) ∧
  (∀ (l : List PV), bTuple [.lst l] = .ok (.tup l)) ∧
  (∀ (l : List PV), bTuple [.tup l] = .ok (.tup l)) ∧
  (∀ (i : Int), isTy (.int i) .int = some true) ∧
  (∀ (i : Int), isTy (.int i) .bool = some false) ∧
  (∀ (i : Int), isTy (.int i) .str = some false) ∧
  (∀ (i : Int), isTy (.int i) .tuple = some false) ∧
  (∀ (i : Bool), isTy (.bl i) .int = some true) ∧
  (∀ (i : Bool), isTy (.bl i) .bool = some true) ∧
  (∀ (i : Bool), isTy (.bl i) .tuple = some false) ∧
  (∀ (i : Bool), isTy (.bl i) .str = some false) ∧
  (∀ (l : List PV), isTy (.tup l) .tuple = some true) ∧
  (∀ (l : List PV), isTy (.tup l) .int = some false) ∧
  (∀ (l : List PV), isTy (.tup l) .str = some false) ∧
  (∀ (l : List PV), isTy (.lst l) .int = some false) ∧
  (∀ (l : List PV), isTy (.lst l) .list = some true) ∧
  (∀ (l : List PV), isTy (.lst l) .tuple = some false) ∧
  (∀ (l : List PV), isTy (.lst l) .str = some false) ∧
  (∀ (x : Str), isTy (.str x) .int = some false) ∧
  (∀ (x : Str), isTy (.str x) .str = some true) ∧
  (∀ (x : Str), isTy (.str x) .tuple = some false) ∧
  (∀ (t : Ty), isTy .non t = some false) ∧
  (isTy .dic0 .int = some false) ∧
  (isTy .dic0 .str = some false) ∧
  (∀ (x : PV) (l : List PV), oItem (.tup (x :: l)) (.int 0) = .ok x) ∧
  (∀ (x y : PV) (l : List PV), oItem (.tup (x :: y :: l)) (.int 1) = .ok y) ∧
  (∀ (x y z : PV) (l : List PV), oItem (.tup (x :: y :: z :: l)) (.int 2) = .ok z) ∧
  (∀ (x : PV) (l : List PV), oItem (.lst (x :: l)) (.int 0) = .ok x) ∧
  (∀ (x y : PV) (l : List PV), oItem (.lst (x :: y :: l)) (.int 1) = .ok y) ∧
  (∀ (x y z : PV) (l : List PV), oItem (.lst (x :: y :: z :: l)) (.int 2) = .ok z) ∧
  (∀ (x0 : Option PV) (ρ0 : MEnv), sNext (x0 :: ρ0) = .next (x0 :: ρ0)) ∧
  (∀ (f g : FS) (x0 : Option PV) (ρ0 : MEnv), sSeq f g (x0 :: ρ0) = match f (x0 :: ρ0) with | .next ρ' => g ρ' | o => o) ∧
  (∀ (v : PV) (ρ : MEnv) (k : PV → SR), ofR (.ok v) ρ k = k v) ∧
  (∀ (c : Nat) (ρ : MEnv) (k : PV → SR), ofR (.exc c) ρ k = .exc c ρ) ∧
  (∀ (a : FE) (x0 : Option PV) (ρ0 : MEnv), sRet a (x0 :: ρ0) = ofR (a (x0 :: ρ0)) (x0 :: ρ0) fun v => .ret v) ∧
  (∀ (a : FE) (x0 : Option PV) (ρ0 : MEnv), sExpr a (x0 :: ρ0) = ofR (a (x0 :: ρ0)) (x0 :: ρ0) fun _ => .next (x0 :: ρ0)) ∧
  (∀ (i : Nat) (a : FE) (x0 : Option PV) (ρ0 : MEnv), sSet i a (x0 :: ρ0) = ofR (a (x0 :: ρ0)) (x0 :: ρ0) fun v => .next ((x0 :: ρ0).set i (some v))) ∧
  (∀ (t : FT) (f g : FS) (x0 : Option PV) (ρ0 : MEnv), sIf t f g (x0 :: ρ0) = match t (x0 :: ρ0) with | .ok c => if c then f (x0 :: ρ0) else g (x0 :: ρ0) | .exc c => .exc c (x0 :: ρ0) | .stuck => .stuck) ∧
  (∀ (i : Nat) (it : FA) (body : FS) (x0 : Option PV) (ρ0 : MEnv), sFor i it body (x0 :: ρ0) = match it (x0 :: ρ0) with | .ok l => forL i body l (x0 :: ρ0) | .exc c => .exc c (x0 :: ρ0) | .stuck => .stuck) ∧
  (∀ (x0 : Option PV) (ρ0 : MEnv), sBreak (x0 :: ρ0) = .brk (x0 :: ρ0)) ∧
  (∀ (x0 : Option PV) (ρ0 : MEnv), sCont (x0 :: ρ0) = .cont (x0 :: ρ0)) ∧
  (∀ (x0 : Option PV) (ρ0 : MEnv), sRetN (x0 :: ρ0) = .ret .non) ∧
  (∀ (c : Nat) (x0 : Option PV) (ρ0 : MEnv), sRaise c (x0 :: ρ0) = .exc c (x0 :: ρ0)) ∧
  (∀ (a : FE) (x0 : Option PV) (ρ0 : MEnv), iSeq a (x0 :: ρ0) = (a (x0 :: ρ0)).bind fun x => match x with | .lst l => .ok l | .tup l => .ok l | _ => .stuck) ∧
  (∀ (i : Nat) (body : FS) (ρ : MEnv), forL i body [] ρ = .next ρ) ∧
  (∀ (i : Nat) (body : FS) (x : PV) (l : List PV) (ρ : MEnv), forL i body (x :: l) ρ = match body (ρ.set i (some x)) with
    | .next ρ' => forL i body l ρ'
    | .cont ρ' => forL i body l ρ'
    | .brk ρ' => .next ρ'
    | o => o) ∧
  (∀ (x0 : Option PV) (ρ0 : MEnv), oNone (x0 :: ρ0) = .ok none) ∧
  (∀ (a : FE) (x0 : Option PV) (ρ0 : MEnv), oSome a (x0 :: ρ0) = (a (x0 :: ρ0)).bind fun x => match x with | .int i => .ok (some i) | _ => .stuck) ∧
  (∀ (a : FE) (l h : FO) (x0 : Option PV) (ρ0 : MEnv), fCut a l h (x0 :: ρ0) = (a (x0 :: ρ0)).bind fun x => (l (x0 :: ρ0)).bind fun lo => (h (x0 :: ρ0)).bind fun hi => oCut x lo hi) ∧
  (∀ (l : List PV) (lo hi : Option Int), oCut (.lst l) lo hi = .ok (.lst (cutP l lo hi))) ∧
  (∀ (i : Int), isSmallI (.ok (.int i)) = decide (i.natAbs < 18446744073709551616)) ∧
  (∀ (k : MEnv → Bool) (c : Nat) (x0 : Option PV) (ρ0 : MEnv), sRaiseT k c (x0 :: ρ0) = if k (x0 :: ρ0) then .exc c (x0 :: ρ0) else .stuck) ∧
  (∀ (f : FS) (ks : List Nat) (d n x : Nat) (x0 : Option PV) (ρ0 : MEnv), sTryAs f ks d n x (x0 :: ρ0) = match f (x0 :: ρ0) with
  | .exc c ρ' => if ks.contains c && under c d then .next (((ρ'.set n (some (.exc c))).set x (some (.exc c))).set n none) else .stuck
  | o => o) ∧
  (∀ (ks : List Nat) (d : Nat) (a : FE) (x0 : Option PV) (ρ0 : MEnv), fIsExc ks d a (x0 :: ρ0) = (a (x0 :: ρ0)).bind fun x => match x with
  | .exc c => if ks.contains c then .ok (.bl (under c d)) else .stuck
  | .non => .ok (.bl false)
  | _ => .stuck) ∧
  (∀ (ks : List Nat) (a : FE) (x0 : Option PV) (ρ0 : MEnv), fIsVal ks a (x0 :: ρ0) = (a (x0 :: ρ0)).bind fun x => match x with
  | .exc c => if ks.contains c then .ok (.bl true) else .stuck
  | .non => .ok (.bl false)
  | _ => .stuck) :=
  ⟨@fVar_e, @getV_0, @getV_s, @asVal_int, @asVal_bl, @asVal_str, @asVal_non, @asVal_tup, @asVal_lst, @asVal_exc, @asVal_dic0, @fC_e, @fBin_e, @fUn_e, @oBool_e, @fAnd_e, @fOr_e, @fNot_e, @fChain_e, @fIf_e, @aNil_e, @aCons_e, @fTup_e, @fLst_e, @fCall_e, @fIsinst_e, @tVal_e, @truth_bl, @truth_int, @truth_non, @tAnd_e, @tOr_e, @tNot_e, @mkTup_1, @mkTup_2, @mkTup_3, @mkTup_4, @mkLst_0, @mkLst_1, @mkLst_2, @mkLst_3, @mkLst_4, @mkLst_5, @mkLst_6, @mkLst_7, @mkLst_8, @asVal_none, @iRange_e, @rg_1, @rg_2, @rg_3, @bind_ok, @bind_okl, @bind_okb, @bind_oko, @bindl_ok, @bindl_okl, @bindb_ok, @bindb_okb, @bindo_ok, @bind_exc, @bind_excl, @bind_excb, @bindl_exc, @bindl_excl, @bindb_exc, @bindb_excb, @fin_next, @fin_ret, @fin_exc, @run_1, @run_2, @run_3, @run_4, @run_5, @run_6, @oMul_i, @oDiv_i, @oMod_i, @oPow_i, @oShl_i, @oShr_i, @oAdd_i, @oSub_i, @oNeg_i, @oAnd_i, @oOr_i, @oXor_i, @cLt_i, @cLe_i, @cGt_i, @cGe_i, @cEq_i, @cNe_i, @cEq_b, @cNe_b, @cEq_s, @cNe_s, @cEq_tup, @cNe_tup, @cEq_lst, @cNe_lst, @cmpOkN_int, @cmpOkN_bl, @cmpOkN_str, @cmpOkN_non, @cmpOkN_tup, @cmpOkN_lst, @eqPVs_nil, @eqPVs_cons, @eqPVs_cn, @eqPVs_nc, @eqPV_i, @eqPV_b, @eqPV_s, @eqPV_t, @eqPV_l, @eqPV_n, @bLen_tup, @bLen_lst, @bAbs_i, @bMin_i, @bMax_i, @bInt_i, @bInt_b, @bBitLength_i, @bList_l, @bList_t, @bTuple_l, @bTuple_t, @isTy_int_i, @isTy_int_b, @isTy_int_s, @isTy_int_t, @isTy_bl_i, @isTy_bl_b, @isTy_bl_t, @isTy_bl_s, @isTy_tup_t, @isTy_tup_i, @isTy_tup_s, @isTy_lst_i, @isTy_lst_l, @isTy_lst_t, @isTy_lst_s, @isTy_str_i, @isTy_str_s, @isTy_str_t, @isTy_non, @isTy_dic_i, @isTy_dic_s, @oItem_t0, @oItem_t1, @oItem_t2, @oItem_l0, @oItem_l1, @oItem_l2, @sNext_e, @sSeq_e, @ofR_ok, @ofR_exc, @sRet_e, @sExpr_e, @sSet_e, @sIf_e, @sFor_e, @sBreak_e, @sCont_e, @sRetN_e, @sRaise_e, @iSeq_e, @forL_nil, @forL_cons, @oNone_e, @oSome_e, @fCut_e, @oCut_lst, @isSmallI_i, @sRaiseT_e, @sTryAs_e, @fIsExc_e, @fIsVal_e⟩
end Mi
set_option Elab.async false
set_option linter.all false
set_option autoImplicit false
set_option maxRecDepth 100000
set_option maxHeartbeats 4000000
namespace Mi
open PySem
theorem p2_nat (n : Nat) : p2 (n : Int) = 2 ^ n := rfl
theorem p2_pos (b : Int) : 0 < p2 b := Int.pow_pos (by decide)
theorem p2_1 : p2 1 = 2 := rfl
theorem p2_add {a b : Int} (ha : 0 ≤ a) (hb : 0 ≤ b) : p2 (a + b) = p2 a * p2 b := by
  obtain ⟨m, rfl⟩ := Int.eq_ofNat_of_zero_le ha
  obtain ⟨n, rfl⟩ := Int.eq_ofNat_of_zero_le hb
  have e : ((m : Int) + (n : Int)) = ((m + n : Nat) : Int) := by omega
  rw [e, p2_nat, p2_nat, p2_nat, Int.pow_add]
theorem p2_succ {a : Int} (ha : 0 ≤ a) : p2 (a + 1) = 2 * p2 a := by rw [p2_add ha (by decide), p2_1, Int.mul_comm]
theorem p2_le {a b : Int} (ha : 0 ≤ a) (h : a ≤ b) : p2 a ≤ p2 b := by
  have e : b = a + (b - a) := by omega
  rw [e, p2_add ha (by omega)]
  have h1 := p2_pos a
  have h2 := p2_pos (b - a)
  have : p2 a * 1 ≤ p2 a * p2 (b - a) := Int.mul_le_mul_of_nonneg_left (by omega) (by omega)
  omega
theorem p2_natAbs {b : Int} (hb : 0 ≤ b) : (p2 b).natAbs = 2 ^ b.toNat := by
  show ((2 : Int) ^ b.toNat).natAbs = _
  rw [Int.natAbs_pow]; rfl
theorem nb_p2 {b : Int} (hb : 0 ≤ b) : nb (p2 b) = b.toNat + 1 := by
  have h0 : p2 b ≠ 0 := by have := p2_pos b; omega
  show (if p2 b == 0 then 0 else (p2 b).natAbs.log2 + 1) = _
  rw [if_neg (by simpa using h0), p2_natAbs hb, Nat.log2_two_pow]
end Mi
set_option Elab.async false
set_option linter.all false
set_option maxRecDepth 100000
namespace Cm
open PySem Mi
noncomputable def b_is_whole : FS := sRet (fAnd (fIsinst .int (fVar 0)) (fNot (fIsinst .bool (fVar 0))))
noncomputable def q_is_whole : List PV → R PV := runF 1 b_is_whole
noncomputable def b_Lcell_at : FS := sSeq (sIf (tVal (fBin cLt (fVar 1) (fCall bLen (aCons (fVar 0) (aNil))))) (sRet (fBin oItem (fVar 0) (fVar 1))) (sNext)) (sRet (fC (.int 0)))
noncomputable def q_Lcell_at : List PV → R PV := runF 2 b_Lcell_at
noncomputable def b_Lwhole : FS := sRet (fAnd (fIsinst .int (fVar 0)) (fNot (fIsinst .bool (fVar 0))))
noncomputable def q_Lwhole : List PV → R PV := runF 1 b_Lwhole
noncomputable def b_is_within : FS := sRet (fAnd (fCall q_is_whole (aCons (fVar 0) (aNil))) (fChain cLe cLe (fVar 1) (fVar 0) (fVar 2)))
noncomputable def q_is_within : List PV → R PV := runF 3 b_is_within
noncomputable def b_width_of : FS := sSeq (sIf (tNot (tVal (fCall q_is_within (aCons (fVar 0) (aCons (fC (.int 2)) (aCons (fC (.int 11)) (aNil))))))) (sRaiseT (fun ρ => (fun _ => true) ρ && (fun ρ => (fun ρ => isSmallI ((fC (.int 2)) ρ)) ρ && (fun ρ => (fun _ => true) ρ && (fun ρ => (fun ρ => isSmallI ((fC (.int 11)) ρ)) ρ && (fun _ => true) ρ) ρ) ρ) ρ) 1) (sNext)) (sSeq (sIf (tNot (tVal (fCall q_is_within (aCons (fVar 1) (aCons (fC (.int 1)) (aCons (fC (.int 60)) (aNil))))))) (sRaiseT (fun ρ => (fun _ => true) ρ && (fun ρ => (fun ρ => isSmallI ((fC (.int 1)) ρ)) ρ && (fun ρ => (fun _ => true) ρ && (fun ρ => (fun ρ => isSmallI ((fC (.int 60)) ρ)) ρ && (fun _ => true) ρ) ρ) ρ) ρ) 1) (sNext)) (sRet (fTup (aCons (fVar 0) (aCons (fVar 1) (aNil))))))
noncomputable def q_width_of : List PV → R PV := runF 2 b_width_of
noncomputable def b_check_width : FS := sSeq (sIf (tOr (tNot (tVal (fIsinst .tuple (fVar 0)))) (tVal (fBin cNe (fCall bLen (aCons (fVar 0) (aNil))) (fC (.int 2))))) (sRaiseT (fun _ => true) 1) (sNext)) (sExpr (fCall q_width_of (aCons (fBin oItem (fVar 0) (fC (.int 0))) (aCons (fBin oItem (fVar 0) (fC (.int 1))) (aNil)))))
noncomputable def q_check_width : List PV → R PV := runF 1 b_check_width
noncomputable def b_many_words : FS := sSeq (sExpr (fCall q_check_width (aCons (fVar 0) (aNil)))) (sRet (fBin oShl (fC (.int 1)) (fBin oAdd (fBin oAdd (fC (.int 1)) (fBin oItem (fVar 0) (fC (.int 0)))) (fBin oItem (fVar 0) (fC (.int 1))))))
noncomputable def q_many_words : List PV → R PV := runF 1 b_many_words
noncomputable def b_all_ones : FS := sRet (fBin oSub (fBin oShl (fC (.int 1)) (fVar 0)) (fC (.int 1)))
noncomputable def q_all_ones : List PV → R PV := runF 1 b_all_ones
noncomputable def b_check_word : FS := sIf (tNot (tVal (fCall q_is_within (aCons (fVar 1) (aCons (fC (.int 0)) (aCons (fBin oSub (fCall q_many_words (aCons (fVar 0) (aNil))) (fC (.int 1))) (aNil))))))) (sRaiseT (fun _ => true) 2) (sNext)
noncomputable def q_check_word : List PV → R PV := runF 2 b_check_word
noncomputable def b_cut : FS := sSeq (sExpr (fCall q_check_word (aCons (fVar 0) (aCons (fVar 1) (aNil))))) (sSeq (sSet 2 (fBin oShr (fVar 1) (fBin oAdd (fBin oItem (fVar 0) (fC (.int 0))) (fBin oItem (fVar 0) (fC (.int 1)))))) (sSeq (sSet 3 (fBin oAnd (fBin oShr (fVar 1) (fBin oItem (fVar 0) (fC (.int 1)))) (fCall q_all_ones (aCons (fBin oItem (fVar 0) (fC (.int 0))) (aNil))))) (sSeq (sSet 4 (fBin oAnd (fVar 1) (fCall q_all_ones (aCons (fBin oItem (fVar 0) (fC (.int 1))) (aNil))))) (sRet (fTup (aCons (fVar 2) (aCons (fVar 3) (aCons (fVar 4) (aNil)))))))))
noncomputable def q_cut : List PV → R PV := runF 5 b_cut
noncomputable def b_highest_of_fraction : FS := sRet (fBin oShl (fC (.int 1)) (fBin oSub (fBin oItem (fVar 0) (fC (.int 1))) (fC (.int 1))))
noncomputable def q_highest_of_fraction : List PV → R PV := runF 1 b_highest_of_fraction
noncomputable def b_kind_of : FS := sSeq (sSet 2 (fCall q_cut (aCons (fVar 0) (aCons (fVar 1) (aNil))))) (sSeq (sSet 3 (fBin oItem (fVar 2) (fC (.int 1)))) (sSeq (sSet 4 (fBin oItem (fVar 2) (fC (.int 2)))) (sSeq (sIf (tVal (fBin cEq (fVar 3) (fC (.int 0)))) (sRet (fIf (tVal (fBin cEq (fVar 4) (fC (.int 0)))) (fC (.str "nought")) (fC (.str "small")))) (sNext)) (sSeq (sIf (tVal (fBin cLt (fVar 3) (fCall q_all_ones (aCons (fBin oItem (fVar 0) (fC (.int 0))) (aNil))))) (sRet (fC (.str "plain"))) (sNext)) (sSeq (sIf (tVal (fBin cEq (fVar 4) (fC (.int 0)))) (sRet (fC (.str "endless"))) (sNext)) (sRet (fIf (tVal (fBin cGe (fVar 4) (fCall q_highest_of_fraction (aCons (fVar 0) (aNil))))) (fC (.str "still")) (fC (.str "loud")))))))))
noncomputable def q_kind_of : List PV → R PV := runF 5 b_kind_of
noncomputable def b_sign_bit : FS := sRet (fBin oShl (fC (.int 1)) (fBin oAdd (fBin oItem (fVar 0) (fC (.int 0))) (fBin oItem (fVar 0) (fC (.int 1)))))
noncomputable def q_sign_bit : List PV → R PV := runF 1 b_sign_bit
noncomputable def b_unsigned : FS := sSeq (sExpr (fCall q_check_word (aCons (fVar 0) (aCons (fVar 1) (aNil))))) (sRet (fBin oAnd (fVar 1) (fBin oSub (fCall q_sign_bit (aCons (fVar 0) (aNil))) (fC (.int 1)))))
noncomputable def q_unsigned : List PV → R PV := runF 2 b_unsigned
noncomputable def b_Lwide_2 : FS := sSeq (sSet 1 (fBin oMod (fBin oMul (fVar 0) (fC (.int 48271))) (fC (.int 999983)))) (sSeq (sIf (tVal (fBin cEq (fBin oMod (fVar 1) (fC (.int 2))) (fC (.int 1)))) (sRet (fTup (aCons (fBin oAdd (fC (.int 2)) (fBin oMod (fBin oDiv (fVar 1) (fC (.int 2))) (fC (.int 3)))) (aCons (fBin oAdd (fC (.int 1)) (fBin oMod (fBin oDiv (fVar 1) (fC (.int 6))) (fC (.int 4)))) (aNil))))) (sNext)) (sRet (fTup (aCons (fBin oAdd (fC (.int 2)) (fBin oMod (fBin oDiv (fVar 1) (fC (.int 2))) (fC (.int 10)))) (aCons (fBin oAdd (fC (.int 1)) (fBin oMod (fBin oDiv (fVar 1) (fC (.int 20))) (fC (.int 60)))) (aNil))))))
noncomputable def q_Lwide_2 : List PV → R PV := runF 2 b_Lwide_2
noncomputable def b_rank_of : FS := sSeq (sIf (tVal (fBin cIn (fCall q_kind_of (aCons (fVar 0) (aCons (fVar 1) (aNil)))) (fTup (aCons (fC (.str "still")) (aCons (fC (.str "loud")) (aNil)))))) (sRet (fC .non)) (sNext)) (sSeq (sSet 2 (fCall q_unsigned (aCons (fVar 0) (aCons (fVar 1) (aNil))))) (sRet (fIf (tVal (fBin cEq (fBin oItem (fCall q_cut (aCons (fVar 0) (aCons (fVar 1) (aNil)))) (fC (.int 0))) (fC (.int 1)))) (fUn oNeg (fVar 2)) (fVar 2))))
noncomputable def q_rank_of : List PV → R PV := runF 3 b_rank_of
noncomputable def b_Lword_v2 : FS := sSeq (sSet 2 (fBin oShl (fC (.int 1)) (fBin oAdd (fBin oItem (fVar 0) (fC (.int 0))) (fBin oItem (fVar 0) (fC (.int 1)))))) (sSeq (sSet 3 (fBin oMod (fBin oMul (fVar 1) (fC (.int 618033988749894848204587))) (fBin oAdd (fBin oPow (fC (.int 10)) (fC (.int 24))) (fC (.int 7))))) (sSeq (sSet 4 (fBin oShl (fBin oSub (fBin oShl (fC (.int 1)) (fBin oItem (fVar 0) (fC (.int 0)))) (fC (.int 1))) (fBin oItem (fVar 0) (fC (.int 1))))) (sSeq (sSet 5 (fLst (aCons (fC (.int 0)) (aCons (fC (.int 1)) (aCons (fBin oSub (fBin oShl (fC (.int 1)) (fBin oItem (fVar 0) (fC (.int 1)))) (fC (.int 1))) (aCons (fBin oShl (fC (.int 1)) (fBin oItem (fVar 0) (fC (.int 1)))) (aCons (fBin oSub (fVar 4) (fC (.int 1))) (aCons (fVar 4) (aCons (fBin oAdd (fVar 4) (fC (.int 1))) (aCons (fBin oAdd (fVar 4) (fBin oShl (fC (.int 1)) (fBin oSub (fBin oItem (fVar 0) (fC (.int 1))) (fC (.int 1))))) (aNil))))))))))) (sSeq (sSet 6 (fBin oMod (fBin oDiv (fVar 3) (fBin oMul (fC (.int 2)) (fVar 2))) (fC (.int 16)))) (sSeq (sIf (tVal (fBin cLt (fVar 6) (fC (.int 8)))) (sRet (fBin oAdd (fBin oItem (fVar 5) (fVar 6)) (fBin oMul (fBin oMod (fVar 3) (fC (.int 2))) (fVar 2)))) (sNext)) (sRet (fBin oMod (fVar 3) (fBin oMul (fC (.int 2)) (fVar 2)))))))))
noncomputable def q_Lword_v2 : List PV → R PV := runF 7 b_Lword_v2
noncomputable def b_Lkey : FS := sSeq (sSet 2 (fBin oShl (fC (.int 1)) (fBin oAdd (fBin oItem (fVar 0) (fC (.int 0))) (fBin oItem (fVar 0) (fC (.int 1)))))) (sSeq (sSet 3 (fBin oMod (fVar 1) (fVar 2))) (sSeq (sIf (tVal (fBin cGe (fVar 3) (fBin oShl (fC (.int 1)) (fBin oItem (fVar 0) (fC (.int 1)))))) (sSet 3 (fBin oShl (fBin oAdd (fBin oMod (fVar 3) (fBin oShl (fC (.int 1)) (fBin oItem (fVar 0) (fC (.int 1))))) (fBin oShl (fC (.int 1)) (fBin oItem (fVar 0) (fC (.int 1))))) (fBin oSub (fBin oShr (fVar 3) (fBin oItem (fVar 0) (fC (.int 1)))) (fC (.int 1))))) (sNext)) (sSeq (sIf (tVal (fBin cGe (fVar 1) (fVar 2))) (sRet (fBin oSub (fC (.int 0)) (fBin oMul (fC (.int 2)) (fVar 3)))) (sNext)) (sRet (fBin oAdd (fBin oMul (fC (.int 2)) (fVar 3)) (fC (.int 1)))))))
noncomputable def q_Lkey : List PV → R PV := runF 4 b_Lkey
noncomputable def b_Lwords_v3_1 : FS := sSeq (sSet 5 (fCall q_Lword_v2 (aCons (fVar 0) (aCons (fVar 4) (aNil))))) (sSeq (sIf (tLend 3 (tAnd (tVal (fBin cEq (fBin oMod (fBin oMod (fBin oMul (fVar 4) (fC (.int 16807))) (fC (.int 999979))) (fC (.int 5))) (fC (.int 2)))) (tVal (fBin cNe (fVar 3) (fLst (aNil)))))) (sSet 5 (fLend 3 (fBin oMod (fBin oAdd (fBin oItem (fVar 3) (fUn oNeg (fC (.int 1)))) (fBin oMul (fBin oMod (fVar 4) (fC (.int 2))) (fVar 2))) (fBin oMul (fC (.int 2)) (fVar 2))))) (sNext)) (sAppend 3 (aCons (fVar 5) (aNil))))
noncomputable def b_Lwords_v3 : FS := sSeq (sSet 2 (fBin oShl (fC (.int 1)) (fBin oAdd (fBin oItem (fVar 0) (fC (.int 0))) (fBin oItem (fVar 0) (fC (.int 1)))))) (sSeq (sOwn 3 (fLst (aNil))) (sSeq (sFor 4 (iSeq (fVar 1)) (b_Lwords_v3_1)) (sFreeze 3 (sRet (fVar 3)))))
noncomputable def q_Lwords_v3 : List PV → R PV := runF 6 b_Lwords_v3
noncomputable def b_Lright_v16_1 : FS := sIf (tNot (tVal (fCall q_Lwhole (aCons (fVar 3) (aNil))))) (sRet (fC (.bl false))) (sNext)
noncomputable def b_Lright_v16 : FS := sSeq (sIf (tOr (tNot (tVal (fIsinst .list (fVar 1)))) (tVal (fBin cNe (fCall bLen (aCons (fVar 1) (aNil))) (fCall bLen (aCons (fVar 2) (aNil)))))) (sRet (fC (.bl false))) (sNext)) (sSeq (sFor 3 (iSeq (fVar 1)) (b_Lright_v16_1)) (sSeq (sSet 4 (fBin oShl (fC (.int 1)) (fBin oAdd (fBin oItem (fVar 0) (fC (.int 0))) (fBin oItem (fVar 0) (fC (.int 1)))))) (sSeq (sSet 5 (fBin oShl (fBin oSub (fBin oShl (fC (.int 1)) (fBin oItem (fVar 0) (fC (.int 0)))) (fC (.int 1))) (fBin oItem (fVar 0) (fC (.int 1))))) (sSeq (sSet 6 (fComp 9 (iSeq (fVar 2)) (tVal (fBin cGt (fBin oMod (fVar 9) (fVar 4)) (fVar 5))) (fVar 9))) (sSeq (sSet 7 (fBin oSub (fCall bLen (aCons (fVar 2) (aNil))) (fCall bLen (aCons (fVar 6) (aNil))))) (sSeq (sIf (tOr (tVal (fBin cNe (fCut (fVar 1) (oSome (fVar 7)) (oNone)) (fVar 6))) (tVal (fBin cNe (fCall bSorted (aCons (fVar 1) (aNil))) (fCall bSorted (aCons (fVar 2) (aNil)))))) (sRet (fC (.bl false))) (sNext)) (sSeq (sSet 8 (fComp 9 (iSeq (fCut (fVar 1) (oNone) (oSome (fVar 7)))) (tTrue) (fCall (noX q_Lkey) (aCons (fVar 0) (aCons (fVar 9) (aNil)))))) (sRet (fBin cEq (fVar 8) (fCall bSorted (aCons (fVar 8) (aNil))))))))))))
noncomputable def q_Lright_v16 : List PV → R PV := runF 9 b_Lright_v16
noncomputable def b_in_order_v2 : FS := sSeq (sExpr (fCall q_check_width (aCons (fVar 0) (aNil)))) (sSeq (sSet 2 (fCompR 4 (iSeq (fVar 1)) (tVal (fUn cIsN (fCallX q_rank_of (aCons (fVar 0) (aCons (fVar 4) (aNil)))))) (fVar 4))) (sSeq (sSet 3 (fComp 4 (iSeq (fVar 1)) (tVal (fUn cNotN (fCall (noX q_rank_of) (aCons (fVar 0) (aCons (fVar 4) (aNil)))))) (fVar 4))) (sRet (fBin oAdd (fSortK (fTup (aCons (fCall (noX q_rank_of) (aCons (fVar 1) (aCons (fVar 0) (aNil)))) (aCons (fUn oNeg (fVar 0)) (aNil)))) 0 (fVar 3)) (fVar 2)))))
noncomputable def q_in_order_v2 : List PV → R PV := runF 4 b_in_order_v2
noncomputable def b_Lrefused_v26 : FS := sSeq (sSet 2 (fC .non)) (sSeq (sTryAs (sExpr (fCall q_in_order_v2 (aCons (fVar 0) (aCons (fVar 1) (aNil))))) [0, 1, 2, 4] 0 3 2) (sRet (fAnd (fIsExc [0, 1, 2, 4] 2 (fVar 2)) (fAnd (fIsVal [0, 1, 2, 4] (fVar 2)) (fNot (fIsExc [0, 1, 2, 4] 4 (fVar 2)))))))
noncomputable def q_Lrefused_v26 : List PV → R PV := runF 4 b_Lrefused_v26
end Cm
set_option Elab.async false
set_option linter.all false
set_option autoImplicit false
set_option maxRecDepth 100000
set_option maxHeartbeats 4000000
namespace Cm
open PySem Mi
theorem oItem_ints {ns : List Int} {i : Int} (h0 : 0 ≤ i) (h : i < ns.length) : oItem (.lst (ns.map PV.int)) (.int i) = .ok (.int (ns.getD i.toNat 0)) := by
  refine oItem_at h0 ?_
  have hl : i.toNat < ns.length := by omega
  rw [List.getElem?_map, List.getD_eq_getElem?_getD, List.getElem?_eq_getElem hl]
  rfl
theorem q_cell (ns : List Int) (k : Int) (hk : 0 ≤ k) : q_Lcell_at [.lst (ns.map PV.int), .int k] = .ok (.int (ns.getD k.toNat 0)) := by
  by_cases h : k < (ns.length : Int)
  · simp only [q_Lcell_at, b_Lcell_at, ev, evl, okw, powI, Int.reduceLT, Int.reduceLE, Int.reduceNeg, Int.reduceAdd, Int.reduceSub, Int.reduceMul, Int.reducePow, Int.reduceToNat, Nat.reduceAdd, Nat.reduceSub, ne_eq, not_false_eq_true, not_true_eq_false, Int.reduceEq, reduceCtorEq, List.length_map, h, oItem_ints hk h]
  · have e : ns.getD k.toNat 0 = 0 := by
      rw [List.getD_eq_getElem?_getD, List.getElem?_eq_none (by omega)]; rfl
    simp only [q_Lcell_at, b_Lcell_at, ev, evl, okw, powI, Int.reduceLT, Int.reduceLE, Int.reduceNeg, Int.reduceAdd, Int.reduceSub, Int.reduceMul, Int.reducePow, Int.reduceToNat, Nat.reduceAdd, Nat.reduceSub, ne_eq, not_false_eq_true, not_true_eq_false, Int.reduceEq, reduceCtorEq, List.length_map, h, e]
theorem mem_range {x : PV} {lo hi st : Int} (hs : 0 < st) (h : x ∈ rangeP lo hi st) : ∃ i, x = .int i ∧ lo ≤ i ∧ i < hi := by
  unfold rangeP at h
  rw [List.mem_map] at h
  obtain ⟨k, hk, rfl⟩ := h
  rw [List.mem_range] at hk
  unfold rangeN at hk
  rw [if_pos hs] at hk
  refine ⟨_, rfl, ?_, ?_⟩
  · have := Int.mul_nonneg (Int.natCast_nonneg k) (Int.le_of_lt hs); omega
  · by_cases hl : lo < hi
    · rw [if_pos hl] at hk
      have h1 : (k : Int) ≤ (hi - lo - 1) / st := by
        have : 0 ≤ (hi - lo - 1) / st := Int.ediv_nonneg (by omega) (by omega)
        omega
      have h2 := Int.mul_le_mul_of_nonneg_right h1 (Int.le_of_lt hs)
      have h3 : (hi - lo - 1) / st * st ≤ hi - lo - 1 := Int.ediv_mul_le _ (by omega)
      omega
    · rw [if_neg hl] at hk; omega
end Cm
set_option Elab.async false
set_option linter.all false
set_option autoImplicit false
set_option maxRecDepth 100000
set_option maxHeartbeats 4000000
namespace Cm
open PySem Mi
def Wd (e f : Int) : Prop := 2 ≤ e ∧ e ≤ 11 ∧ 1 ≤ f ∧ f ≤ 60
theorem okShl_1 {b : Int} (h0 : 0 ≤ b) (h : b ≤ 1000) : okShl 1 b := okShl_of (n := 1) h0 (by decide) (by omega)
theorem q_isw {x lo hi : Int} (h0 : lo ≤ x) (h1 : x ≤ hi) : q_is_within [.int x, .int lo, .int hi] = .ok (.bl true) := by
  simp only [q_is_within, b_is_within, q_is_whole, b_is_whole, ev, evl, okw, powI, Int.reduceLT, Int.reduceLE, Int.reduceNeg, Int.reduceAdd, Int.reduceSub, Int.reduceMul, Int.reducePow, Int.reduceToNat, Nat.reduceAdd, Nat.reduceSub, ne_eq, not_false_eq_true, not_true_eq_false, Int.reduceEq, reduceCtorEq, h0, h1]
theorem q_wof {e f : Int} (h : Wd e f) : q_width_of [.int e, .int f] = .ok (.tup [.int e, .int f]) := by
  obtain ⟨h1, h2, h3, h4⟩ := h
  simp only [q_width_of, b_width_of, ev, evl, okw, powI, Int.reduceLT, Int.reduceLE, Int.reduceNeg, Int.reduceAdd, Int.reduceSub, Int.reduceMul, Int.reducePow, Int.reduceToNat, Nat.reduceAdd, Nat.reduceSub, ne_eq, not_false_eq_true, not_true_eq_false, Int.reduceEq, reduceCtorEq, q_isw h1 h2, q_isw h3 h4]
theorem cast2 : ((2 : Nat) : Int) = 2 := rfl
theorem q_chw {e f : Int} (h : Wd e f) : q_check_width [.tup [.int e, .int f]] = .ok .non := by
  simp only [q_check_width, b_check_width, ev, evl, okw, powI, Int.reduceLT, Int.reduceLE, Int.reduceNeg, Int.reduceAdd, Int.reduceSub, Int.reduceMul, Int.reducePow, Int.reduceToNat, Nat.reduceAdd, Nat.reduceSub, ne_eq, not_false_eq_true, not_true_eq_false, Int.reduceEq, reduceCtorEq, cast2, q_wof h, decide_true, Bool.not_true, Bool.false_eq_true, if_false]
theorem q_many {e f : Int} (h : Wd e f) : q_many_words [.tup [.int e, .int f]] = .ok (.int (p2 (1 + e + f))) := by
  have := q_chw h
  obtain ⟨h1, h2, h3, h4⟩ := h
  simp only [q_many_words, b_many_words, ev, evl, okw, powI, Int.reduceLT, Int.reduceLE, Int.reduceNeg, Int.reduceAdd, Int.reduceSub, Int.reduceMul, Int.reducePow, Int.reduceToNat, Nat.reduceAdd, Nat.reduceSub, ne_eq, not_false_eq_true, not_true_eq_false, Int.reduceEq, reduceCtorEq, this, okShl_1 (b := 1 + e + f) (by omega) (by omega), Int.one_mul]
theorem q_ones {c : Int} (h0 : 0 ≤ c) (h : c ≤ 1000) : q_all_ones [.int c] = .ok (.int (p2 c - 1)) := by
  simp only [q_all_ones, b_all_ones, ev, evl, okw, powI, Int.reduceLT, Int.reduceLE, Int.reduceNeg, Int.reduceAdd, Int.reduceSub, Int.reduceMul, Int.reducePow, Int.reduceToNat, Nat.reduceAdd, Nat.reduceSub, ne_eq, not_false_eq_true, not_true_eq_false, Int.reduceEq, reduceCtorEq, okShl_1 h0 h, Int.one_mul]
theorem q_chword {e f w : Int} (h : Wd e f) (h0 : 0 ≤ w) (h1 : w < p2 (1 + e + f)) : q_check_word [.tup [.int e, .int f], .int w] = .ok .non := by
  simp only [q_check_word, b_check_word, ev, evl, okw, powI, Int.reduceLT, Int.reduceLE, Int.reduceNeg, Int.reduceAdd, Int.reduceSub, Int.reduceMul, Int.reducePow, Int.reduceToNat, Nat.reduceAdd, Nat.reduceSub, ne_eq, not_false_eq_true, not_true_eq_false, Int.reduceEq, reduceCtorEq, q_many h, q_isw h0 (show w ≤ p2 (1 + e + f) - 1 by omega)]
theorem and_ones {x c : Int} (h0 : 0 ≤ x) (hc : 0 ≤ c) : Builtin.bitAnd x (p2 c - 1) = x % p2 c := by
  have hp := p2_pos c
  unfold Builtin.bitAnd
  rw [decide_eq_true h0, decide_eq_true (show 0 ≤ p2 c - 1 by omega)]
  show (((x.toNat &&& (p2 c - 1).toNat : Nat)) : Int) = _
  have e : (p2 c - 1).toNat = 2 ^ c.toNat - 1 := by
    have e1 : p2 c = ((2 ^ c.toNat : Nat) : Int) := by show (2 : Int) ^ c.toNat = _; push_cast; rfl
    rw [e1]; omega
  rw [e, Nat.and_two_pow_sub_one_eq_mod]
  have e1 : p2 c = ((2 ^ c.toNat : Nat) : Int) := by show (2 : Int) ^ c.toNat = _; push_cast; rfl
  rw [e1]
  push_cast
  rw [Int.toNat_of_nonneg h0]
theorem q_cutw {e f w : Int} (h : Wd e f) (h0 : 0 ≤ w) (h1 : w < p2 (1 + e + f)) :
    q_cut [.tup [.int e, .int f], .int w] = .ok (.tup [.int (w / p2 (e + f)), .int (w / p2 f % p2 e), .int (w % p2 f)]) := by
  have a := q_chword h h0 h1
  obtain ⟨g1, g2, g3, g4⟩ := h
  have o1 : okShr (e + f) := by show 0 ≤ e + f; omega
  have o2 : okShr f := by show 0 ≤ f; omega
  have hp := p2_pos f
  have z : 0 ≤ w / p2 f := Int.ediv_nonneg h0 (by omega)
  simp only [q_cut, b_cut, ev, evl, okw, powI, Int.reduceLT, Int.reduceLE, Int.reduceNeg, Int.reduceAdd, Int.reduceSub, Int.reduceMul, Int.reducePow, Int.reduceToNat, Nat.reduceAdd, Nat.reduceSub, ne_eq, not_false_eq_true, not_true_eq_false, Int.reduceEq, reduceCtorEq, a, o1, o2, q_ones (show 0 ≤ e by omega) (by omega), q_ones (show 0 ≤ f by omega) (by omega), and_ones z (show 0 ≤ e by omega), and_ones h0 (show 0 ≤ f by omega)]
/-- the parts of a word -/
theorem parts {e f w : Int} (h : Wd e f) (h0 : 0 ≤ w) (h1 : w < p2 (1 + e + f)) : ∃ s x y, 0 ≤ s ∧ s < 2 ∧ 0 ≤ x ∧ x < p2 e ∧ 0 ≤ y ∧ y < p2 f ∧ w = (s * p2 e + x) * p2 f + y ∧ w / p2 (e + f) = s ∧ w / p2 f = s * p2 e + x ∧ w / p2 f % p2 e = x ∧ w % p2 f = y := by
  obtain ⟨g1, g2, g3, g4⟩ := h
  have pf := p2_pos f
  have pe := p2_pos e
  have e1 : p2 (e + f) = p2 f * p2 e := by rw [Int.add_comm, p2_add (by omega) (by omega)]
  have e2 : p2 (1 + e + f) = 2 * (p2 f * p2 e) := by rw [← e1, ← p2_succ (by omega)]; congr 1; omega
  have d1 := Int.mul_ediv_add_emod w (p2 f)
  have d2 := Int.mul_ediv_add_emod (w / p2 f) (p2 e)
  have d3 : w / p2 (e + f) = w / p2 f / p2 e := by rw [e1, Int.ediv_ediv_of_nonneg (by omega)]
  have z : 0 ≤ w / p2 f := Int.ediv_nonneg h0 (by omega)
  refine ⟨w / p2 f / p2 e, w / p2 f % p2 e, w % p2 f, Int.ediv_nonneg z (by omega), ?_, Int.emod_nonneg _ (by omega), Int.emod_lt_of_pos _ pe, Int.emod_nonneg _ (by omega), Int.emod_lt_of_pos _ pf, ?_, d3, ?_, rfl, rfl⟩
  · rw [← d3, e1]
    refine Int.ediv_lt_of_lt_mul (Int.mul_pos pf pe) (by rw [← e2]; exact h1)
  · rw [Int.mul_comm (_ / p2 e), d2, Int.mul_comm (w / p2 f)]; omega
  · rw [Int.mul_comm (_ / p2 e), d2]
end Cm
set_option Elab.async false
set_option linter.all false
set_option autoImplicit false
set_option maxRecDepth 100000
set_option maxHeartbeats 4000000
namespace Cm
open PySem Mi
theorem pick {l : List Int} {i b : Int} (h0 : 0 ≤ i) (h1 : i < l.length) (hb : ∀ x ∈ l, 0 ≤ x ∧ x < b) : ∃ x, oItem (.lst (l.map PV.int)) (.int i) = .ok (.int x) ∧ 0 ≤ x ∧ x < b := by
  refine ⟨_, oItem_ints h0 h1, ?_⟩
  rw [List.getD_eq_getElem?_getD, List.getElem?_eq_getElem (by omega)]
  exact hb _ (List.getElem_mem _)
/-- the words that the laws name -/
theorem p2_wd {e f : Int} (h : Wd e f) : 4 ≤ p2 e ∧ 2 ≤ p2 f ∧ p2 f = 2 * p2 (f - 1) ∧ p2 (e + f) = p2 e * p2 f ∧ p2 (1 + e + f) = 2 * p2 (e + f) ∧ nb (p2 e) ≤ 12 ∧ nb (p2 f) ≤ 61 ∧ nb (p2 (e + f)) ≤ 72 ∧ nb (p2 (1 + e + f)) ≤ 73 ∧ 1 ≤ p2 (f - 1) ∧ p2 e ≤ 2048 := by
  obtain ⟨g1, g2, g3, g4⟩ := h
  have e4 : p2 2 = 4 := by decide
  have a := p2_le (a := 2) (b := e) (by decide) g1
  have b := p2_le (a := 1) (b := f) (by decide) g3
  have e11 : p2 11 = 2048 := by decide
  have c := p2_le (a := e) (b := 11) (by omega) g2
  rw [p2_1] at b
  refine ⟨by omega, b, ?_, p2_add (by omega) (by omega), ?_, ?_, ?_, ?_, ?_, p2_pos _, by omega⟩
  · rw [← p2_succ (by omega)]; congr 1; omega
  · rw [← p2_succ (by omega)]; congr 1; omega
  all_goals rw [nb_p2 (by omega)]; omega
theorem named {P F H S T : Int} (p3 : 2 ≤ F) (p4 : F = 2 * H) (p7 : 1 ≤ H) (m1 : T = S + F) (m3 : 3 * F ≤ S) : ∀ x ∈ [0, 1, F - 1, F, S - 1, S, S + 1, S + H], 0 ≤ x ∧ x < T := by
  simp only [List.forall_mem_cons]
  exact ⟨⟨by omega, by omega⟩, ⟨by omega, by omega⟩, ⟨by omega, by omega⟩, ⟨by omega, by omega⟩, ⟨by omega, by omega⟩, ⟨by omega, by omega⟩, ⟨by omega, by omega⟩, ⟨by omega, by omega⟩, fun x h => absurd h List.not_mem_nil⟩
theorem top_word {e f : Int} (h : Wd e f) : p2 (e + f) = (p2 e - 1) * p2 f + p2 f ∧ 3 * p2 f ≤ (p2 e - 1) * p2 f := by
  obtain ⟨p1, p3, p4, p5, p6, b1, b2, b3, b4, p7, p8⟩ := p2_wd h
  rw [p5]
  exact ⟨by rw [Int.sub_mul]; omega, Int.mul_le_mul_of_nonneg_right (by omega) (by omega)⟩
theorem mulc {c : Int} (hc : nb c ≤ 1048576) : okMul c 618033988749894848204587 := okMul_of (n := 200) hc (nb_le (by decide)) (by decide)
end Cm
set_option Elab.async false
set_option linter.all false
set_option autoImplicit false
set_option maxRecDepth 100000
set_option maxHeartbeats 4000000
namespace Cm
open PySem Mi
def kindP (e f x y : Int) : String := if x = 0 then (if y = 0 then "nought" else "small") else if x < p2 e - 1 then "plain" else if y = 0 then "endless" else if p2 (f - 1) ≤ y then "still" else "loud"
theorem q_hof {e f : Int} (h : Wd e f) : q_highest_of_fraction [.tup [.int e, .int f]] = .ok (.int (p2 (f - 1))) := by
  obtain ⟨g1, g2, g3, g4⟩ := h
  simp only [q_highest_of_fraction, b_highest_of_fraction, ev, evl, okw, powI, Int.reduceLT, Int.reduceLE, Int.reduceNeg, Int.reduceAdd, Int.reduceSub, Int.reduceMul, Int.reducePow, Int.reduceToNat, Nat.reduceAdd, Nat.reduceSub, ne_eq, not_false_eq_true, not_true_eq_false, Int.reduceEq, reduceCtorEq, Int.one_mul, okShl_1 (b := f - 1) (by omega) (by omega)]
theorem q_kind {e f w : Int} (h : Wd e f) (h0 : 0 ≤ w) (h1 : w < p2 (1 + e + f)) : q_kind_of [.tup [.int e, .int f], .int w] = .ok (.str (kindP e f (w / p2 f % p2 e) (w % p2 f))) := by
  have a := q_cutw h h0 h1
  have b := q_hof h
  have c := q_ones (c := e) (by have := h.1; omega) (by have := h.2.1; omega)
  generalize w / p2 f % p2 e = x at *
  generalize w % p2 f = y at *
  by_cases k1 : x = 0
  · by_cases k2 : y = 0 <;> simp only [q_kind_of, b_kind_of, kindP, ev, evl, okw, powI, Int.reduceLT, Int.reduceLE, Int.reduceNeg, Int.reduceAdd, Int.reduceSub, Int.reduceMul, Int.reducePow, Int.reduceToNat, Nat.reduceAdd, Nat.reduceSub, ne_eq, not_false_eq_true, not_true_eq_false, Int.reduceEq, reduceCtorEq, a, b, c, k1, k2, if_true, if_false]
  · by_cases k3 : x < p2 e - 1
    · simp only [q_kind_of, b_kind_of, kindP, ev, evl, okw, powI, Int.reduceLT, Int.reduceLE, Int.reduceNeg, Int.reduceAdd, Int.reduceSub, Int.reduceMul, Int.reducePow, Int.reduceToNat, Nat.reduceAdd, Nat.reduceSub, ne_eq, not_false_eq_true, not_true_eq_false, Int.reduceEq, reduceCtorEq, a, b, c, k1, k3, if_true, if_false]
    · by_cases k2 : y = 0
      · simp only [q_kind_of, b_kind_of, kindP, ev, evl, okw, powI, Int.reduceLT, Int.reduceLE, Int.reduceNeg, Int.reduceAdd, Int.reduceSub, Int.reduceMul, Int.reducePow, Int.reduceToNat, Nat.reduceAdd, Nat.reduceSub, ne_eq, not_false_eq_true, not_true_eq_false, Int.reduceEq, reduceCtorEq, a, b, c, k1, k2, k3, if_true, if_false]
      · by_cases k4 : p2 (f - 1) ≤ y <;> simp only [q_kind_of, b_kind_of, kindP, ev, evl, okw, powI, Int.reduceLT, Int.reduceLE, Int.reduceNeg, Int.reduceAdd, Int.reduceSub, Int.reduceMul, Int.reducePow, Int.reduceToNat, Nat.reduceAdd, Nat.reduceSub, ne_eq, not_false_eq_true, not_true_eq_false, Int.reduceEq, reduceCtorEq, a, b, c, k1, k2, k3, k4, if_true, if_false]
end Cm
set_option Elab.async false
set_option linter.all false
set_option autoImplicit false
set_option maxRecDepth 100000
set_option maxHeartbeats 4000000
namespace Cm
open PySem Mi
theorem q_sbit {e f : Int} (h : Wd e f) : q_sign_bit [.tup [.int e, .int f]] = .ok (.int (p2 (e + f))) := by
  obtain ⟨g1, g2, g3, g4⟩ := h
  simp only [q_sign_bit, b_sign_bit, ev, evl, okw, powI, Int.reduceLT, Int.reduceLE, Int.reduceNeg, Int.reduceAdd, Int.reduceSub, Int.reduceMul, Int.reducePow, Int.reduceToNat, Nat.reduceAdd, Nat.reduceSub, ne_eq, not_false_eq_true, not_true_eq_false, Int.reduceEq, reduceCtorEq, Int.one_mul, okShl_1 (b := e + f) (by omega) (by omega)]
theorem q_uns {e f w : Int} (h : Wd e f) (h0 : 0 ≤ w) (h1 : w < p2 (1 + e + f)) : q_unsigned [.tup [.int e, .int f], .int w] = .ok (.int (w % p2 (e + f))) := by
  have a := q_chword h h0 h1
  have b := q_sbit h
  simp only [q_unsigned, b_unsigned, ev, evl, okw, powI, Int.reduceLT, Int.reduceLE, Int.reduceNeg, Int.reduceAdd, Int.reduceSub, Int.reduceMul, Int.reducePow, Int.reduceToNat, Nat.reduceAdd, Nat.reduceSub, ne_eq, not_false_eq_true, not_true_eq_false, Int.reduceEq, reduceCtorEq, a, b, and_ones h0 (show 0 ≤ e + f by have := h.1; have := h.2.2.1; omega)]
end Cm
set_option Elab.async false
set_option linter.all false
set_option autoImplicit false
set_option maxRecDepth 100000
set_option maxHeartbeats 4000000
namespace Cm
open PySem Mi
theorem q_chx {e f : Int} {v : PV} (h : Wd e f) (av : asVal (some v) = .ok v) (hv : q_is_within [v, .int 0, .int (p2 (1 + e + f) - 1)] = .ok (.bl false)) : q_check_word [.tup [.int e, .int f], v] = .exc 2 := by
  simp only [q_check_word, b_check_word, ev, evl, okw, powI, Int.reduceLT, Int.reduceLE, Int.reduceNeg, Int.reduceAdd, Int.reduceSub, Int.reduceMul, Int.reducePow, Int.reduceToNat, Nat.reduceAdd, Nat.reduceSub, ne_eq, not_false_eq_true, not_true_eq_false, Int.reduceEq, reduceCtorEq, q_many h, av, hv]
end Cm
set_option Elab.async false
set_option linter.all false
set_option autoImplicit false
set_option maxRecDepth 100000
set_option maxHeartbeats 4000000
namespace Cm
open PySem Mi
theorem wd_a (r : Int) : Wd (2 + r / 2 % 3) (1 + r / 6 % 4) := by
  have a0 := Int.emod_nonneg (r / 2) (show (3 : Int) ≠ 0 by decide)
  have a1 := Int.emod_lt_of_pos (r / 2) (show (0 : Int) < 3 by decide)
  have b0 := Int.emod_nonneg (r / 6) (show (4 : Int) ≠ 0 by decide)
  have b1 := Int.emod_lt_of_pos (r / 6) (show (0 : Int) < 4 by decide)
  generalize r / 2 % 3 = x at *
  generalize r / 6 % 4 = y at *
  unfold Wd; omega
theorem wd_b (r : Int) : Wd (2 + r / 2 % 10) (1 + r / 20 % 60) := by
  have a0 := Int.emod_nonneg (r / 2) (show (10 : Int) ≠ 0 by decide)
  have a1 := Int.emod_lt_of_pos (r / 2) (show (0 : Int) < 10 by decide)
  have b0 := Int.emod_nonneg (r / 20) (show (60 : Int) ≠ 0 by decide)
  have b1 := Int.emod_lt_of_pos (r / 20) (show (0 : Int) < 60 by decide)
  generalize r / 2 % 10 = x at *
  generalize r / 20 % 60 = y at *
  unfold Wd; omega
theorem q_Lwd2 (c : Int) : ∃ e f, q_Lwide_2 [.int c] = .ok (.tup [.int e, .int f]) ∧ Wd e f := by
  by_cases h : c * 48271 % 999983 % 2 = 1
  · refine ⟨2 + c * 48271 % 999983 / 2 % 3, 1 + c * 48271 % 999983 / 6 % 4, ?_, wd_a _⟩
    simp only [q_Lwide_2, b_Lwide_2, ev, evl, okw, powI, Int.reduceLT, Int.reduceLE, Int.reduceNeg, Int.reduceAdd, Int.reduceSub, Int.reduceMul, Int.reducePow, Int.reduceToNat, Nat.reduceAdd, Nat.reduceSub, ne_eq, not_false_eq_true, not_true_eq_false, Int.reduceEq, reduceCtorEq, h]
  · refine ⟨2 + c * 48271 % 999983 / 2 % 10, 1 + c * 48271 % 999983 / 20 % 60, ?_, wd_b _⟩
    simp only [q_Lwide_2, b_Lwide_2, ev, evl, okw, powI, Int.reduceLT, Int.reduceLE, Int.reduceNeg, Int.reduceAdd, Int.reduceSub, Int.reduceMul, Int.reducePow, Int.reduceToNat, Nat.reduceAdd, Nat.reduceSub, ne_eq, not_false_eq_true, not_true_eq_false, Int.reduceEq, reduceCtorEq, h]
theorem clip {q d T : Int} (h0 : 0 ≤ T) (h1 : q + d < T) (h2 : 0 < T) : 0 ≤ (if 0 > q + d then (0 : Int) else q + d) ∧ (if 0 > q + d then (0 : Int) else q + d) < T := by split <;> omega
end Cm
set_option Elab.async false
set_option linter.all false
set_option autoImplicit false
set_option maxRecDepth 100000
set_option maxHeartbeats 4000000
namespace Cm
open PySem Mi
/-- a pair of no great size -/
def Sp (v : PV) : Prop := ∃ n k : Int, v = .tup [.int n, .int k] ∧ nb n ≤ 1000 ∧ -4000 ≤ k ∧ k ≤ 4000
end Cm
set_option Elab.async false
set_option linter.all false
set_option autoImplicit false
set_option maxRecDepth 100000
set_option maxHeartbeats 4000000
namespace Cm
open PySem Mi
/-- the size of a number -/
def ab (n : Int) : Int := if n < 0 then -n else n
end Cm
set_option Elab.async false
set_option linter.all false
set_option autoImplicit false
set_option maxRecDepth 100000
set_option maxHeartbeats 4000000
namespace Cm
open PySem Mi
/-- a sign and a size: the word u + s * 2^(e+f) -/
def Wu (e f s u : Int) : Prop := Wd e f ∧ (s = 0 ∨ s = 1) ∧ 0 ≤ u ∧ u < p2 (e + f)
/-- endless -/
abbrev eS (e f : Int) : Int := (p2 e - 1) * p2 f
theorem wu_word {e f s u : Int} (h : Wu e f s u) : 0 ≤ u + s * p2 (e + f) ∧ u + s * p2 (e + f) < p2 (1 + e + f) ∧ (u + s * p2 (e + f)) / p2 (e + f) = s ∧ (u + s * p2 (e + f)) % p2 (e + f) = u ∧ (u + s * p2 (e + f)) / p2 f % p2 e = u / p2 f ∧ (u + s * p2 (e + f)) % p2 f = u % p2 f := by
  obtain ⟨hw, hs, u0, u1⟩ := h
  obtain ⟨p1, p3, p4, p5, p6, _⟩ := p2_wd hw
  have st : s * p2 (e + f) = 0 ∨ s * p2 (e + f) = p2 (e + f) := by rcases hs with rfl | rfl <;> omega
  have hT := p2_pos (e + f)
  refine ⟨by omega, by omega, ?_, ?_, ?_, ?_⟩
  · rw [Int.add_mul_ediv_right _ _ (by omega), Int.ediv_eq_zero_of_lt u0 u1, Int.zero_add]
  · rw [Int.add_mul_emod_self_right, Int.emod_eq_of_lt u0 u1]
  · rw [p5, ← Int.mul_assoc, Int.add_mul_ediv_right _ _ (by omega), Int.add_mul_emod_self_right]
    exact Int.emod_eq_of_lt (Int.ediv_nonneg u0 (by omega)) (Int.ediv_lt_of_lt_mul (by omega) (by rw [← p5]; exact u1))
  · rw [p5, ← Int.mul_assoc, Int.add_mul_emod_self_right]
theorem wu_of {e f w : Int} (h : Wd e f) (h0 : 0 ≤ w) (h1 : w < p2 (1 + e + f)) : ∃ s u, Wu e f s u ∧ w = u + s * p2 (e + f) := by
  obtain ⟨p1, p3, p4, p5, p6, _⟩ := p2_wd h
  by_cases c : w < p2 (e + f)
  · exact ⟨0, w, ⟨h, .inl rfl, h0, c⟩, by omega⟩
  · exact ⟨1, w - p2 (e + f), ⟨h, .inr rfl, by omega, by omega⟩, by omega⟩
def kindU (e f u : Int) : String := if u = 0 then "nought" else if u < p2 f then "small" else if u < eS e f then "plain" else if u = eS e f then "endless" else if u < eS e f + p2 (f - 1) then "loud" else "still"
theorem kind_u {e f u : Int} (h : Wd e f) (u0 : 0 ≤ u) (u1 : u < p2 (e + f)) : kindP e f (u / p2 f) (u % p2 f) = kindU e f u := by
  obtain ⟨p1, p3, p4, p5, p6, b1, b2, b3, b4, p7, p8⟩ := p2_wd h
  obtain ⟨m1, m3⟩ := top_word h
  have d := Int.mul_ediv_add_emod u (p2 f)
  have y0 := Int.emod_nonneg u (show p2 f ≠ 0 by omega)
  have y1 := Int.emod_lt_of_pos u (show 0 < p2 f by omega)
  have x0 : 0 ≤ u / p2 f := Int.ediv_nonneg u0 (by omega)
  have xl : u / p2 f < p2 e := Int.ediv_lt_of_lt_mul (by omega) (by rw [← p5]; exact u1)
  have z1 : u / p2 f = 0 ↔ u < p2 f := by
    constructor
    · intro z; rw [z] at d; omega
    · intro z; exact Int.ediv_eq_zero_of_lt u0 z
  have z2 : u / p2 f < p2 e - 1 ↔ u < eS e f := Int.ediv_lt_iff_lt_mul (by omega)
  have z3 : ¬ u / p2 f < p2 e - 1 → u % p2 f = u - eS e f := by
    intro z
    have : u / p2 f = p2 e - 1 := by omega
    rw [this, Int.mul_comm] at d
    show _ = u - (p2 e - 1) * p2 f
    omega
  unfold kindP kindU
  by_cases c1 : u / p2 f = 0
  · have c1' := z1.mp c1
    have e1 : u % p2 f = u := Int.emod_eq_of_lt u0 c1'
    rw [if_pos c1, e1]
    by_cases c2 : u = 0
    · rw [if_pos c2, if_pos c2]
    · rw [if_neg c2, if_neg c2, if_pos c1']
  · have c1' : ¬ u < p2 f := fun z => c1 (z1.mpr z)
    have c2 : ¬ u = 0 := by omega
    rw [if_neg c1, if_neg c2, if_neg c1']
    by_cases c3 : u / p2 f < p2 e - 1
    · rw [if_pos c3, if_pos (z2.mp c3)]
    · have c3' : ¬ u < eS e f := fun z => c3 (z2.mpr z)
      rw [if_neg c3, if_neg c3', z3 c3]
      by_cases c4 : u = eS e f
      · rw [if_pos (by omega), if_pos c4]
      · rw [if_neg (by omega), if_neg c4]
        by_cases c5 : u < eS e f + p2 (f - 1)
        · rw [if_neg (by omega), if_pos c5]
        · rw [if_pos (by omega), if_neg c5]
theorem q_kindu {e f s u : Int} (h : Wu e f s u) : q_kind_of [.tup [.int e, .int f], .int (u + s * p2 (e + f))] = .ok (.str (kindU e f u)) := by
  obtain ⟨a, b, _, _, c, d⟩ := wu_word h
  have k := q_kind h.1 a b
  rw [c, d, kind_u h.1 h.2.2.1 h.2.2.2] at k
  exact k
theorem q_cutu {e f s u : Int} (h : Wu e f s u) : q_cut [.tup [.int e, .int f], .int (u + s * p2 (e + f))] = .ok (.tup [.int s, .int (u / p2 f), .int (u % p2 f)]) := by
  obtain ⟨a, b, c1, _, c, d⟩ := wu_word h
  have k := q_cutw h.1 a b
  rw [c, d, c1] at k
  exact k
theorem q_unsu {e f s u : Int} (h : Wu e f s u) : q_unsigned [.tup [.int e, .int f], .int (u + s * p2 (e + f))] = .ok (.int u) := by
  obtain ⟨a, b, c1, c2, c, d⟩ := wu_word h
  have k := q_uns h.1 a b
  rw [c2] at k
  exact k
theorem eS_facts {e f : Int} (h : Wd e f) : p2 (e + f) = eS e f + p2 f ∧ 3 * p2 f ≤ eS e f ∧ 2 ≤ p2 f ∧ p2 f = 2 * p2 (f - 1) ∧ 1 ≤ p2 (f - 1) := by
  obtain ⟨p1, p3, p4, p5, p6, b1, b2, b3, b4, p7, p8⟩ := p2_wd h
  obtain ⟨m1, m3⟩ := top_word h
  exact ⟨m1, m3, p3, p4, p7⟩
/-- the rank of a sign and a size -/
def rk (s u : Int) : Int := if s = 1 then -u else u
theorem in_still : cIn (.str "still") (.tup [.str "still", .str "loud"]) = .ok (.bl true) := rfl
theorem in_loud : cIn (.str "loud") (.tup [.str "still", .str "loud"]) = .ok (.bl true) := rfl
theorem in_nought : cIn (.str "nought") (.tup [.str "still", .str "loud"]) = .ok (.bl false) := rfl
theorem in_small : cIn (.str "small") (.tup [.str "still", .str "loud"]) = .ok (.bl false) := rfl
theorem in_plain : cIn (.str "plain") (.tup [.str "still", .str "loud"]) = .ok (.bl false) := rfl
theorem in_endless : cIn (.str "endless") (.tup [.str "still", .str "loud"]) = .ok (.bl false) := rfl
theorem isnone {e f u : Int} (h : Wd e f) : cIn (.str (kindU e f u)) (.tup [.str "still", .str "loud"]) = .ok (.bl (decide (eS e f < u))) := by
  obtain ⟨m1, m3, p3, p4, p7⟩ := eS_facts h
  unfold kindU
  by_cases c1 : u = 0
  · rw [if_pos c1, decide_eq_false (by omega)]; exact in_nought
  · by_cases c2 : u < p2 f
    · rw [if_neg c1, if_pos c2, decide_eq_false (by omega)]; exact in_small
    · by_cases c3 : u < eS e f
      · rw [if_neg c1, if_neg c2, if_pos c3, decide_eq_false (by omega)]; exact in_plain
      · by_cases c4 : u = eS e f
        · rw [if_neg c1, if_neg c2, if_neg c3, if_pos c4, decide_eq_false (by omega)]; exact in_endless
        · by_cases c5 : u < eS e f + p2 (f - 1)
          · rw [if_neg c1, if_neg c2, if_neg c3, if_neg c4, if_pos c5, decide_eq_true (by omega)]; exact in_loud
          · rw [if_neg c1, if_neg c2, if_neg c3, if_neg c4, if_neg c5, decide_eq_true (by omega)]; exact in_still
theorem q_rankN {e f s u : Int} (h : Wu e f s u) (hu : eS e f < u) : q_rank_of [.tup [.int e, .int f], .int (u + s * p2 (e + f))] = .ok .non := by
  have k := q_kindu h
  have i := isnone (u := u) h.1
  rw [decide_eq_true hu] at i
  simp only [q_rank_of, b_rank_of, ev, evl, okw, powI, Int.reduceLT, Int.reduceLE, Int.reduceNeg, Int.reduceAdd, Int.reduceSub, Int.reduceMul, Int.reducePow, Int.reduceToNat, Nat.reduceAdd, Nat.reduceSub, ne_eq, not_false_eq_true, not_true_eq_false, Int.reduceEq, reduceCtorEq, k, i]
theorem q_rank {e f s u : Int} (h : Wu e f s u) (hu : u ≤ eS e f) : q_rank_of [.tup [.int e, .int f], .int (u + s * p2 (e + f))] = .ok (.int (rk s u)) := by
  have k := q_kindu h
  have i := isnone (u := u) h.1
  rw [decide_eq_false (by omega)] at i
  have a := q_unsu h
  have b := q_cutu h
  unfold rk
  rcases h.2.1 with rfl | rfl
  · simp only [q_rank_of, b_rank_of, ev, evl, okw, powI, Int.reduceLT, Int.reduceLE, Int.reduceNeg, Int.reduceAdd, Int.reduceSub, Int.reduceMul, Int.reducePow, Int.reduceToNat, Nat.reduceAdd, Nat.reduceSub, ne_eq, not_false_eq_true, not_true_eq_false, Int.reduceEq, reduceCtorEq, k, i, a, b, if_false, Int.zero_ne_one]
  · simp only [q_rank_of, b_rank_of, ev, evl, okw, powI, Int.reduceLT, Int.reduceLE, Int.reduceNeg, Int.reduceAdd, Int.reduceSub, Int.reduceMul, Int.reducePow, Int.reduceToNat, Nat.reduceAdd, Nat.reduceSub, ne_eq, not_false_eq_true, not_true_eq_false, Int.reduceEq, reduceCtorEq, k, i, a, b, if_true]
/-- how many least steps a size is -/
def stU (f u : Int) : Int := if u < p2 f then u else (u % p2 f + p2 f) * p2 (u / p2 f - 1)
theorem stU_lo {f u : Int} (h : u < p2 f) : stU f u = u := if_pos h
theorem stU_bounds {f u : Int} (h : p2 f ≤ u) : p2 f * p2 (u / p2 f - 1) ≤ stU f u ∧ stU f u < p2 f * p2 (u / p2 f) := by
  have pf := p2_pos f
  have y0 := Int.emod_nonneg u (show p2 f ≠ 0 by omega)
  have y1 := Int.emod_lt_of_pos u (show 0 < p2 f by omega)
  have x1 : 1 ≤ u / p2 f := (Int.le_ediv_iff_mul_le pf).mpr (by omega)
  have pp := p2_pos (u / p2 f - 1)
  have e : p2 (u / p2 f) = 2 * p2 (u / p2 f - 1) := by rw [← p2_succ (by omega)]; congr 1; omega
  unfold stU
  rw [if_neg (by omega)]
  constructor
  · exact Int.mul_le_mul_of_nonneg_right (by omega) (by omega)
  · rw [e, ← Int.mul_assoc]
    exact Int.mul_lt_mul_of_pos_right (by omega) pp
theorem stU_lt {f u v : Int} (u0 : 0 ≤ u) (h : u < v) : stU f u < stU f v := by
  have pf := p2_pos f
  by_cases c1 : v < p2 f
  · rw [stU_lo c1, stU_lo (by omega)]; exact h
  · obtain ⟨v1, v2⟩ := stU_bounds (f := f) (u := v) (by omega)
    have x1 : 1 ≤ v / p2 f := (Int.le_ediv_iff_mul_le pf).mpr (by omega)
    by_cases c2 : u < p2 f
    · rw [stU_lo c2]
      have : p2 f * 1 ≤ p2 f * p2 (v / p2 f - 1) := Int.mul_le_mul_of_nonneg_left (by have := p2_pos (v / p2 f - 1); omega) (by omega)
      omega
    · obtain ⟨u1, u2⟩ := stU_bounds (f := f) (u := u) (by omega)
      have x2 : 1 ≤ u / p2 f := (Int.le_ediv_iff_mul_le pf).mpr (by omega)
      have le : u / p2 f ≤ v / p2 f := Int.ediv_le_ediv pf (by omega)
      by_cases c3 : u / p2 f = v / p2 f
      · have d1 := Int.mul_ediv_add_emod u (p2 f)
        have d2 := Int.mul_ediv_add_emod v (p2 f)
        unfold stU
        rw [if_neg c2, if_neg c1]
        rw [c3] at d1 ⊢
        exact Int.mul_lt_mul_of_pos_right (by omega) (p2_pos _)
      · have : p2 (u / p2 f) ≤ p2 (v / p2 f - 1) := p2_le (by omega) (by omega)
        have := Int.mul_le_mul_of_nonneg_left this (Int.le_of_lt pf)
        omega
theorem stU_nn {f u : Int} (u0 : 0 ≤ u) : 0 ≤ stU f u := by
  have := p2_pos f
  by_cases c : u = 0
  · rw [c, stU_lo (by omega)]; decide
  · have := stU_lt (f := f) (u := 0) (v := u) (by decide) (by omega)
    rw [stU_lo (u := 0) (by omega)] at this
    omega
/-- the steps at a rank -/
def sv (f r : Int) : Int := if r < 0 then -(stU f (-r)) else stU f r
end Cm
set_option Elab.async false
set_option linter.all false
set_option autoImplicit false
set_option maxRecDepth 100000
set_option maxHeartbeats 4000000
namespace Cm
open PySem Mi
theorem q_Lwv2 {e f c : Int} (h : Wd e f) (hc : nb c ≤ 1048576) : ∃ s u, q_Lword_v2 [.tup [.int e, .int f], .int c] = .ok (.int (u + s * p2 (e + f))) ∧ Wu e f s u := by
  have hw := h
  obtain ⟨p1, p3, p4, p5, p6, b1, b2, b3, b4, p7, p8⟩ := p2_wd h
  obtain ⟨m1, m3⟩ := top_word h
  obtain ⟨g1, g2, g3, g4⟩ := h
  have hm := mulc hc
  have o1 := okShl_1 (b := e + f) (by omega) (by omega)
  have o2 := okShl_1 (b := e) (by omega) (by omega)
  have o3 := okShl_1 (b := f) (by omega) (by omega)
  have o4 := okShl_1 (b := f - 1) (by omega) (by omega)
  have o5 : okShl (p2 e - 1) f := okShl_of (n := 12) (by omega) (nb_le (by omega)) (by omega)
  have hT := p2_pos (e + f)
  have o6 : okDiv (2 * p2 (e + f)) := by rw [← p6]; exact okDiv_of (p2_pos _) b4 (by decide)
  have o7 : okMod (2 * p2 (e + f)) := by show 0 < 2 * p2 (e + f); omega
  have oa : okMul 2 (p2 (e + f)) := okMul_l (by decide) (by decide)
  have hr0 : 0 ≤ c * 618033988749894848204587 % 1000000000000000000000007 := Int.emod_nonneg _ (by decide)
  generalize hr' : c * 618033988749894848204587 % 1000000000000000000000007 = r at hr0
  have hr : PV.int (c * 618033988749894848204587 % 1000000000000000000000007) = PV.int r := by rw [hr']
  clear hr'
  have r2 : 0 ≤ r % 2 := Int.emod_nonneg _ (by decide)
  have r3 : r % 2 < 2 := Int.emod_lt_of_pos _ (by decide)
  have o8 : okMul (r % 2) (p2 (e + f)) := okMul_l (Int.lt_of_lt_of_le (by decide) r2) (Int.lt_trans r3 (by decide))
  have w0 : 0 ≤ r % (2 * p2 (e + f)) := Int.emod_nonneg _ (by omega)
  have w1 : r % (2 * p2 (e + f)) < 2 * p2 (e + f) := Int.emod_lt_of_pos _ (by omega)
  generalize hS : (p2 e - 1) * p2 f = S at m1 m3
  have k0 : 0 ≤ r / (2 * p2 (e + f)) % 16 := Int.emod_nonneg _ (by decide)
  generalize hk : r / (2 * p2 (e + f)) % 16 = k at k0
  by_cases h8 : k < 8
  · obtain ⟨x, ex, x0, x1⟩ := pick (l := [0, 1, p2 f - 1, p2 f, S - 1, S, S + 1, S + p2 (f - 1)]) (i := k) k0 h8 (named (P := 0) p3 p4 p7 m1 m3)
    simp only [List.map_cons, List.map_nil] at ex
    refine ⟨r % 2, x, ?_, hw, by omega, x0, x1⟩
    simp only [q_Lword_v2, b_Lword_v2, ev, evl, okw, powI, Int.reduceLT, Int.reduceLE, Int.reduceNeg, Int.reduceAdd, Int.reduceSub, Int.reduceMul, Int.reducePow, Int.reduceToNat, Nat.reduceAdd, Nat.reduceSub, ne_eq, not_false_eq_true, not_true_eq_false, Int.reduceEq, reduceCtorEq, Int.one_mul, o1, o2, o3, o4, o5, o6, o7, o8, oa, hm, hr, hk, h8, hS, ex]
  · rw [← p6] at w0 w1
    obtain ⟨s, u, a, b⟩ := wu_of hw w0 w1
    refine ⟨s, u, ?_, a⟩
    rw [← b, p6]
    simp only [q_Lword_v2, b_Lword_v2, ev, evl, okw, powI, Int.reduceLT, Int.reduceLE, Int.reduceNeg, Int.reduceAdd, Int.reduceSub, Int.reduceMul, Int.reducePow, Int.reduceToNat, Nat.reduceAdd, Nat.reduceSub, ne_eq, not_false_eq_true, not_true_eq_false, Int.reduceEq, reduceCtorEq, Int.one_mul, o1, o2, o3, o4, o5, o6, o7, o8, oa, hm, hr, hk, h8, hS]
/-- what is not from lo to hi -/
noncomputable def NoIn (lo hi : Int) (v : PV) : Prop := asVal (some v) = .ok v ∧ q_is_within [v, .int lo, .int hi] = .ok (.bl false)
theorem isnt {x lo hi : Int} (h : ¬ (lo ≤ x ∧ x ≤ hi)) : NoIn lo hi (.int x) := by
  refine ⟨rfl, ?_⟩
  by_cases h0 : lo ≤ x
  · have h1 : ¬ x ≤ hi := fun h1 => h ⟨h0, h1⟩
    simp only [q_is_within, b_is_within, q_is_whole, b_is_whole, ev, evl, okw, powI, Int.reduceLT, Int.reduceLE, Int.reduceNeg, Int.reduceAdd, Int.reduceSub, Int.reduceMul, Int.reducePow, Int.reduceToNat, Nat.reduceAdd, Nat.reduceSub, ne_eq, not_false_eq_true, not_true_eq_false, Int.reduceEq, reduceCtorEq, h0, h1]
  · simp only [q_is_within, b_is_within, q_is_whole, b_is_whole, ev, evl, okw, powI, Int.reduceLT, Int.reduceLE, Int.reduceNeg, Int.reduceAdd, Int.reduceSub, Int.reduceMul, Int.reducePow, Int.reduceToNat, Nat.reduceAdd, Nat.reduceSub, ne_eq, not_false_eq_true, not_true_eq_false, Int.reduceEq, reduceCtorEq, h0]
theorem noin_non (lo hi : Int) : NoIn lo hi .non := ⟨rfl, by simp only [q_is_within, b_is_within, q_is_whole, b_is_whole, ev, evl, okw, powI, Int.reduceLT, Int.reduceLE, Int.reduceNeg, Int.reduceAdd, Int.reduceSub, Int.reduceMul, Int.reducePow, Int.reduceToNat, Nat.reduceAdd, Nat.reduceSub, ne_eq, not_false_eq_true, not_true_eq_false, Int.reduceEq, reduceCtorEq]⟩
theorem noin_bl (lo hi : Int) (b : Bool) : NoIn lo hi (.bl b) := ⟨rfl, by simp only [q_is_within, b_is_within, q_is_whole, b_is_whole, ev, evl, okw, powI, Int.reduceLT, Int.reduceLE, Int.reduceNeg, Int.reduceAdd, Int.reduceSub, Int.reduceMul, Int.reducePow, Int.reduceToNat, Nat.reduceAdd, Nat.reduceSub, ne_eq, not_false_eq_true, not_true_eq_false, Int.reduceEq, reduceCtorEq]⟩
theorem q_rankx {e f : Int} {v : PV} (h : Wd e f) (hv : NoIn 0 (p2 (1 + e + f) - 1) v) : q_rank_of [.tup [.int e, .int f], v] = .exc 2 := by
  simp only [q_rank_of, b_rank_of, q_kind_of, b_kind_of, q_cut, b_cut, ev, evl, okw, powI, Int.reduceLT, Int.reduceLE, Int.reduceNeg, Int.reduceAdd, Int.reduceSub, Int.reduceMul, Int.reducePow, Int.reduceToNat, Nat.reduceAdd, Nat.reduceSub, ne_eq, not_false_eq_true, not_true_eq_false, Int.reduceEq, reduceCtorEq, hv.1, q_chx h hv.1 hv.2]
end Cm
set_option Elab.async false
set_option linter.all false
set_option autoImplicit false
set_option maxRecDepth 100000
set_option maxHeartbeats 4000000
namespace Cm
open PySem Mi
theorem fComp_e (n : Nat) (it : FA) (t : FT) (f : FE) (x0 : Option PV) (ρ0 : MEnv) : fComp n it t f (x0 :: ρ0) = (it (x0 :: ρ0)).bind (compK n t f (x0 :: ρ0)) := rfl
theorem compK_ok {n : Nat} {t : FT} {f : FE} {ρ : MEnv} {l vs : List PV} (h : l.length ≤ 1000000) (e : compL n t f ρ l = .ok vs) : compK n t f ρ l = .ok (.lst vs) := by
  unfold compK; rw [if_pos h, e]
theorem noX_ok {F : List PV → R PV} {vs : List PV} {v : PV} (h : F vs = .ok v) : noX F vs = .ok v := by unfold noX; rw [h]
end Cm
set_option Elab.async false
set_option linter.all false
set_option autoImplicit false
set_option maxRecDepth 100000
set_option maxHeartbeats 4000000
namespace Cm
open PySem Mi
/-- a word of the width -/
def Wo (e f w : Int) : Prop := 0 ≤ w ∧ w < p2 (1 + e + f)
def uw (e f w : Int) : Int := w % p2 (e + f)
def sw (e f w : Int) : Int := w / p2 (e + f)
def isN (e f w : Int) : Bool := decide (eS e f < uw e f w)
theorem wo_wu {e f w : Int} (h : Wd e f) (hw : Wo e f w) : Wu e f (sw e f w) (uw e f w) ∧ w = uw e f w + sw e f w * p2 (e + f) := by
  obtain ⟨s, u, g, rfl⟩ := wu_of h hw.1 hw.2
  obtain ⟨_, _, a, b, _, _⟩ := wu_word g
  unfold sw uw
  rw [a, b]
  exact ⟨g, rfl⟩
def rkw (e f w : Int) : Int := rk (sw e f w) (uw e f w)
theorem q_rkN {e f w : Int} (h : Wd e f) (hw : Wo e f w) (n : isN e f w = true) : q_rank_of [.tup [.int e, .int f], .int w] = .ok .non := by
  obtain ⟨g, ew⟩ := wo_wu h hw
  have := q_rankN g (by simpa [isN] using n)
  rw [← ew] at this; exact this
theorem q_rkw {e f w : Int} (h : Wd e f) (hw : Wo e f w) (n : isN e f w = false) : q_rank_of [.tup [.int e, .int f], .int w] = .ok (.int (rkw e f w)) := by
  obtain ⟨g, ew⟩ := wo_wu h hw
  have := q_rank g (by have : ¬ eS e f < uw e f w := by simpa [isN] using n
                       omega)
  rw [← ew] at this; exact this
/-- the law's key -/
def kyw (e f w : Int) : Int := if p2 (e + f) ≤ w then 0 - 2 * stU f (uw e f w) else 2 * stU f (uw e f w) + 1
theorem q_ky {e f w : Int} (h : Wd e f) (hw : Wo e f w) : q_Lkey [.tup [.int e, .int f], .int w] = .ok (.int (kyw e f w)) := by
  obtain ⟨g, ew⟩ := wo_wu h hw
  obtain ⟨p1, p3, p4, p5, p6, b1, b2, b3, b4, p7, p8⟩ := p2_wd h
  obtain ⟨_, _, u0, u1⟩ := g
  have hp := p2_pos (e + f)
  have hf := p2_pos f
  obtain ⟨g1, g2, g3, g4⟩ := h
  have o1 := okShl_1 (b := e + f) (by omega) (by omega)
  have o2 := okShl_1 (b := f) (by omega) (by omega)
  have m1 : okMod (p2 (e + f)) := hp
  have m2 : okMod (p2 f) := hf
  have o3 : okShr f := by show 0 ≤ f; omega
  have eu : w % p2 (e + f) = uw e f w := rfl
  have n2 : okMul 2 (stU f (uw e f w)) := Or.inl (by decide)
  by_cases c : p2 f ≤ uw e f w
  · have d1 : 1 ≤ uw e f w / p2 f := by
      have := Int.ediv_le_ediv (c := p2 f) hf c
      rw [Int.ediv_self (by omega)] at this; exact this
    have d2 : uw e f w / p2 f < p2 e := Int.ediv_lt_of_lt_mul hf (by rw [← p5]; exact u1)
    have r0 := Int.emod_nonneg (uw e f w) (show p2 f ≠ 0 by omega)
    have r1 := Int.emod_lt_of_pos (uw e f w) hf
    have st : stU f (uw e f w) = (uw e f w % p2 f + p2 f) * p2 (uw e f w / p2 f - 1) := if_neg (by omega)
    have nbs : nb (uw e f w % p2 f + p2 f) ≤ 62 := nb_le (by
      have := p2_le (a := f) (b := 60) (by omega) (by omega)
      have e60 : p2 60 = 1152921504606846976 := by decide
      omega)
    have o4 : okShl (uw e f w % p2 f + p2 f) (uw e f w / p2 f - 1) := okShl_of (n := 62) (by omega) nbs (by omega)
    unfold kyw
    by_cases k : p2 (e + f) ≤ w
    · rw [if_pos k]
      simp only [q_Lkey, b_Lkey, ev, evl, okw, powI, Int.reduceLT, Int.reduceLE, Int.reduceNeg, Int.reduceAdd, Int.reduceSub, Int.reduceMul, Int.reducePow, Int.reduceToNat, Nat.reduceAdd, Nat.reduceSub, ne_eq, not_false_eq_true, not_true_eq_false, Int.reduceEq, reduceCtorEq, Int.one_mul, o1, o2, m1, m2, o3, eu, c, o4, ← st, k, n2]
    · rw [if_neg k]
      simp only [q_Lkey, b_Lkey, ev, evl, okw, powI, Int.reduceLT, Int.reduceLE, Int.reduceNeg, Int.reduceAdd, Int.reduceSub, Int.reduceMul, Int.reducePow, Int.reduceToNat, Nat.reduceAdd, Nat.reduceSub, ne_eq, not_false_eq_true, not_true_eq_false, Int.reduceEq, reduceCtorEq, Int.one_mul, o1, o2, m1, m2, o3, eu, c, o4, ← st, k, n2, decide_false]
  · have st : stU f (uw e f w) = uw e f w := if_pos (by omega)
    rw [st] at n2
    unfold kyw
    rw [st]
    by_cases k : p2 (e + f) ≤ w
    · rw [if_pos k]
      simp only [q_Lkey, b_Lkey, ev, evl, okw, powI, Int.reduceLT, Int.reduceLE, Int.reduceNeg, Int.reduceAdd, Int.reduceSub, Int.reduceMul, Int.reducePow, Int.reduceToNat, Nat.reduceAdd, Nat.reduceSub, ne_eq, not_false_eq_true, not_true_eq_false, Int.reduceEq, reduceCtorEq, Int.one_mul, o1, o2, m1, m2, o3, eu, c, k, n2, decide_false]
    · rw [if_neg k]
      simp only [q_Lkey, b_Lkey, ev, evl, okw, powI, Int.reduceLT, Int.reduceLE, Int.reduceNeg, Int.reduceAdd, Int.reduceSub, Int.reduceMul, Int.reducePow, Int.reduceToNat, Nat.reduceAdd, Nat.reduceSub, ne_eq, not_false_eq_true, not_true_eq_false, Int.reduceEq, reduceCtorEq, Int.one_mul, o1, o2, m1, m2, o3, eu, c, k, n2, decide_false]
/-- the code by which the program sorts, and the law's key: one order -/
def cdw (e f w : Int) : Int := rkw e f w * big - w
theorem wo_small {e f w : Int} (h : Wd e f) (hw : Wo e f w) : -hbig < w ∧ w < hbig := by
  obtain ⟨g1, g2, g3, g4⟩ := h
  have := p2_le (a := 1 + e + f) (b := 72) (by omega) (by omega)
  have e72 : p2 72 = 4722366482869645213696 := by decide
  have hb : (4722366482869645213696 : Int) < hbig := by decide
  have := hw.1
  have := hw.2
  omega
theorem ky_mono {e f v w : Int} (h : Wd e f) (hv : Wo e f v) (hw : Wo e f w) (le : cdw e f v ≤ cdw e f w) : kyw e f v ≤ kyw e f w := by
  obtain ⟨⟨_, sv, v0, v1⟩, ev⟩ := wo_wu h hv
  obtain ⟨⟨_, sw', w0, w1⟩, ew⟩ := wo_wu h hw
  have hp := p2_pos (e + f)
  have nv := stU_nn (f := f) v0
  have nw := stU_nn (f := f) w0
  obtain ⟨bv1, bv2⟩ := wo_small h hv
  obtain ⟨bw1, bw2⟩ := wo_small h hw
  have lex : rkw e f v < rkw e f w ∨ (rkw e f v = rkw e f w ∧ w ≤ v) := by
    unfold cdw at le
    rw [big_e] at le
    by_cases c : rkw e f v < rkw e f w
    · exact .inl c
    · by_cases d : rkw e f v = rkw e f w
      · rw [d] at le; exact .inr ⟨d, by omega⟩
      · exfalso
        have : rkw e f w + 1 ≤ rkw e f v := by omega
        have := Int.mul_le_mul_of_nonneg_right this (show 0 ≤ 2 * hbig by have := hbig_pos; omega)
        rw [Int.add_mul, Int.one_mul] at this; omega
  have mono : ∀ a b : Int, 0 ≤ a → a ≤ b → stU f a ≤ stU f b := fun a b a0 ab => by
    by_cases q : a = b
    · rw [q]; exact Int.le_refl _
    · exact Int.le_of_lt (stU_lt a0 (by omega))
  have eq : ∀ x, x = uw e f x + sw e f x * p2 (e + f) → (sw e f x = 0 → ¬ p2 (e + f) ≤ x ∨ uw e f x ≥ p2 (e + f)) := fun x ex s0 => by rw [s0] at ex; omega
  unfold rkw rk at lex
  unfold kyw
  generalize uw e f v = a at *
  generalize uw e f w = b at *
  generalize sw e f v = s at *
  generalize sw e f w = t at *
  generalize p2 (e + f) = T at *
  rcases sv with rfl | rfl <;> rcases sw' with rfl | rfl
  · have q1 : ¬ T ≤ v := by omega
    have q2 : ¬ T ≤ w := by omega
    rw [if_neg q1, if_neg q2]
    have : a ≤ b := by
      simp only [show ¬ ((0 : Int) = 1) by decide, if_false] at lex
      omega
    have := mono a b v0 this
    omega
  · have q1 : ¬ T ≤ v := by omega
    have q2 : T ≤ w := by omega
    exfalso
    simp only [show ¬ ((0 : Int) = 1) by decide, if_false, if_true] at lex
    omega
  · have q1 : T ≤ v := by omega
    have q2 : ¬ T ≤ w := by omega
    rw [if_pos q1, if_neg q2]; omega
  · have q1 : T ≤ v := by omega
    have q2 : T ≤ w := by omega
    rw [if_pos q1, if_pos q2]
    have : b ≤ a := by
      simp only [if_true] at lex
      omega
    have := mono b a w0 this
    omega
end Cm
set_option Elab.async false
set_option linter.all false
set_option autoImplicit false
set_option maxRecDepth 100000
set_option maxHeartbeats 4000000
namespace Mi
theorem ln1 {P:List PySem.Value→Prop} (h:∀ a,P [a]):∀ us:List PySem.Value,us.length=1→P us
  | [a],_=>h a
theorem ln2 {P:List PySem.Value→Prop} (h:∀ a b,P [a,b]):∀ us:List PySem.Value,us.length=2→P us
  | [a,b],_=>h a b
theorem ln3 {P:List PySem.Value→Prop} (h:∀ a b c,P [a,b,c]):∀ us:List PySem.Value,us.length=3→P us
  | [a,b,c],_=>h a b c
end Mi
namespace K25
open PySem Mi Cm
theorem fLend_e (i : Nat) (fe : FE) (x0 : Option PV) (ρ0 : MEnv) : fLend i fe (x0 :: ρ0) = match (x0 :: ρ0)[i]? with
  | some (some (.own ps)) => (match fe ((x0 :: ρ0).set i (some (.lst ps))) with
    | .ok p => if chk ps.length p then .ok p else .stuck
    | _ => .stuck)
  | _ => fe (x0 :: ρ0) := rfl
theorem tLend_e (i : Nat) (ft : FT) (x0 : Option PV) (ρ0 : MEnv) : tLend i ft (x0 :: ρ0) = match (x0 :: ρ0)[i]? with
  | some (some (.own ps)) => (match ft ((x0 :: ρ0).set i (some (.lst ps))) with
    | .ok b => .ok b
    | _ => .stuck)
  | _ => ft (x0 :: ρ0) := rfl
theorem sApp (i : Nat) (g : FA) (x0 : Option PV) (ρ0 : MEnv) : sAppend i g (x0 :: ρ0) = match (x0 :: ρ0)[i]? with
  | some (some (.own l)) => (match g (x0 :: ρ0) with
    | .ok [v] => if l.length < sizeLine then .next ((x0 :: ρ0).set i (some (.own (l ++ [v])))) else .stuck
    | .ok _ => .stuck
    | .exc c => .exc c (x0 :: ρ0)
    | .stuck => .stuck)
  | _ => .stuck := rfl
theorem sOwn_e (i : Nat) (a : FE) (x0 : Option PV) (ρ0 : MEnv) : sOwn i a (x0 :: ρ0) = ofR (a (x0 :: ρ0)) (x0 :: ρ0) (fun v => match v with
  | .lst l => .next ((x0 :: ρ0).set i (some (.own l)))
  | _ => .stuck) := rfl
theorem sFreeze_e (i : Nat) (g : FS) (x0 : Option PV) (ρ0 : MEnv) : sFreeze i g (x0 :: ρ0) = match (x0 :: ρ0)[i]? with
  | some (some (.own l)) => g ((x0 :: ρ0).set i (some (.lst l)))
  | _ => g (x0 :: ρ0) := rfl
theorem line_4 (n : Nat) (h : n < 1000) : n < sizeLine := Nat.lt_of_lt_of_le h sizeLine_ge
theorem chk_i (n : Nat) (i : Int) : chk n (.int i) = true := rfl
theorem all_i : ∀ (n : Nat) (l : List Int), (l.map PV.int).all (cmpOkN n) = true
  | _, [] => rfl
  | n, x :: r => by
    rw [List.map_cons, List.all_cons, all_i n r]
    cases n <;> rfl
theorem eq_is : ∀ a b : List Int, eqPVs (a.map PV.int) (b.map PV.int) = decide (a = b)
  | [], [] => rfl
  | [], _ :: _ => rfl
  | _ :: _, [] => rfl
  | x :: a, y :: b => by
    show (eqPV (.int x) (.int y) && eqPVs (a.map PV.int) (b.map PV.int)) = _
    rw [eq_is a b]
    show (decide (x = y) && decide (a = b)) = _
    simp [Bool.decide_and]
theorem ne_is (a b : List Int) : cNe (.lst (a.map PV.int)) (.lst (b.map PV.int)) = .ok (.bl (!decide (a = b))) := by
  rw [cNe_lst, all_i, all_i, eq_is]; rfl
theorem eq_is' (a b : List Int) : cEq (.lst (a.map PV.int)) (.lst (b.map PV.int)) = .ok (.bl (decide (a = b))) := by
  rw [cEq_lst, all_i, all_i, eq_is]; rfl
theorem at_last {l : List Int} (h : l ≠ []) : ∃ x, oItem (.lst (l.map PV.int)) (.int (-1)) = .ok (.int x) ∧ x ∈ l := by
  have hl : 0 < l.length := List.length_pos_iff.mpr h
  refine ⟨l[l.length - 1], ?_, List.getElem_mem _⟩
  show itemP (l.map PV.int) (-1) = _
  unfold itemP ixP
  rw [List.length_map, if_neg (by decide), if_pos (by omega)]
  have e1 : (-1 + (l.length : Int)).toNat = l.length - 1 := by omega
  simp only [e1]
  rw [List.getElem?_map, List.getElem?_eq_getElem (by omega)]
  rfl
def FrW (e f : Int) (cs : PV) (k : Nat) (ρ : MEnv) : Prop := ∃ (ws : List Int) (v4 v5 : Option PV), ws.length = k ∧ (∀ w ∈ ws, Wo e f w) ∧ ρ = [some (.tup [.int e, .int f]), some cs, some (.int (p2 (e + f))), some (.own (ws.map PV.int)), v4, v5]
theorem wturn {e f c : Int} {cs : PV} {ws : List Int} {k : Nat} (h : Wd e f) (hc : nb c ≤ 1048576) (hk : k < 100) (l1 : ws.length = k) (bw : ∀ w ∈ ws, Wo e f w) (v5 : Option PV) :
    Goes (FrW e f cs (k + 1)) (b_Lwords_v3_1 [some (.tup [.int e, .int f]), some cs, some (.int (p2 (e + f))), some (.own (ws.map PV.int)), some (.int c), v5]) := by
  obtain ⟨s, u, eu, g⟩ := q_Lwv2 h hc
  obtain ⟨p1, p3, p4, p5, p6, b1, b2, b3, b4, p7, p8⟩ := p2_wd h
  have hp := p2_pos (e + f)
  have wo : Wo e f (u + s * p2 (e + f)) := by
    obtain ⟨_, gs, g0, g1⟩ := g
    unfold Wo
    rw [p6]
    rcases gs with rfl | rfl <;> omega
  generalize u + s * p2 (e + f) = W at *
  have ln : (ws.map PV.int).length < sizeLine := by rw [List.length_map]; exact line_4 _ (by omega)
  have F : ∀ (t : Int) (v4 v5 : Option PV), Wo e f t → FrW e f cs (k + 1) [some (.tup [.int e, .int f]), some cs, some (.int (p2 (e + f))), some (.own (ws.map PV.int ++ [.int t])), v4, v5] := fun t v4 v5 ht => by
    refine ⟨ws ++ [t], v4, v5, by rw [List.length_append, l1]; rfl, fun x hx => ?_, by rw [List.map_append]; rfl⟩
    rcases List.mem_append.mp hx with z | z
    · exact bw x z
    · rw [List.mem_singleton.mp z]; exact ht
  have ne := ne_is ws []
  have o7 : okMod (2 * p2 (e + f)) := by show 0 < 2 * p2 (e + f); omega
  have oa : okMul 2 (p2 (e + f)) := okMul_l (by decide) (by decide)
  have r2 : 0 ≤ c % 2 := Int.emod_nonneg _ (by decide)
  have r3 : c % 2 < 2 := Int.emod_lt_of_pos _ (by decide)
  have o8 : okMul (c % 2) (p2 (e + f)) := okMul_l (Int.lt_of_lt_of_le (by decide) r2) (Int.lt_trans r3 (by decide))
  by_cases em : ws = []
  · subst em
    have ne' : cNe (.lst []) (.lst []) = .ok (.bl false) := rfl
    simp only [List.map_nil] at ln F ⊢
    by_cases c5 : c * 16807 % 999979 % 5 = 2 <;> simp only [b_Lwords_v3_1, ev, evl, okw, powI, Int.reduceLT, Int.reduceLE, Int.reduceNeg, Int.reduceAdd, Int.reduceSub, Int.reduceMul, Int.reducePow, Int.reduceToNat, Nat.reduceAdd, Nat.reduceSub, ne_eq, not_false_eq_true, not_true_eq_false, Int.reduceEq, reduceCtorEq, List.set, eu, c5, tLend_e, fLend_e, List.getElem?_cons_zero, List.getElem?_cons_succ, ne', sApp, ln, if_true]
    all_goals exact goes_next (F _ _ _ wo)
  · obtain ⟨x, ex, xm⟩ := at_last em
    rw [decide_eq_false em] at ne
    have ne' : cNe (.lst (ws.map PV.int)) (.lst []) = .ok (.bl true) := ne
    have wo2 : Wo e f ((x + c % 2 * p2 (e + f)) % (2 * p2 (e + f))) := by
      unfold Wo
      rw [p6]
      exact ⟨Int.emod_nonneg _ (by omega), Int.emod_lt_of_pos _ (by omega)⟩
    generalize ws.map PV.int = L at *
    by_cases c5 : c * 16807 % 999979 % 5 = 2 <;> simp only [b_Lwords_v3_1, ev, evl, okw, powI, Int.reduceLT, Int.reduceLE, Int.reduceNeg, Int.reduceAdd, Int.reduceSub, Int.reduceMul, Int.reducePow, Int.reduceToNat, Nat.reduceAdd, Nat.reduceSub, ne_eq, not_false_eq_true, not_true_eq_false, Int.reduceEq, reduceCtorEq, List.set, eu, c5, tLend_e, fLend_e, List.getElem?_cons_zero, List.getElem?_cons_succ, ne', ex, chk_i, o7, oa, o8, sApp, ln, if_true]
    · exact goes_next (F _ _ _ wo2)
    · exact goes_next (F _ _ _ wo)
theorem q_words {e f : Int} {ns : List Int} (h : Wd e f) (hl : ns.length ≤ 63) (hb : ∀ x ∈ ns, nb x ≤ 1048576) :
    ∃ ws : List Int, q_Lwords_v3 [.tup [.int e, .int f], .lst (ns.map PV.int)] = .ok (.lst (ws.map PV.int)) ∧ ws.length = ns.length ∧ ∀ w ∈ ws, Wo e f w := by
  obtain ⟨p1, p3, p4, p5, p6, b1, b2, b3, b4, p7, p8⟩ := p2_wd h
  obtain ⟨g1, g2, g3, g4⟩ := id h
  have o2 := okShl_1 (b := e + f) (by omega) (by omega)
  obtain ⟨ρ, ef, ws, v4, v5, l1, bt, rfl⟩ := forL_ix (I := FrW e f (.lst (ns.map PV.int))) (i := 4) (body := b_Lwords_v3_1) (l := ns.map PV.int) (k := 0)
    (ρ := [some (.tup [.int e, .int f]), some (.lst (ns.map PV.int)), some (.int (p2 (e + f))), some (.own []), none, none])
    ⟨[], none, none, rfl, fun _ h => absurd h List.not_mem_nil, rfl⟩ (fun j x ρ hx ⟨ws, v4, v5, a1, a2, hρ⟩ => by
      subst hρ
      have hj : j < ns.length := by
        have := (List.getElem?_eq_some_iff.mp hx).1
        rwa [List.length_map] at this
      obtain ⟨c, hc, rfl⟩ := List.mem_map.mp (List.mem_of_getElem? hx)
      exact wturn (k := 0 + j) h (hb c hc) (by omega) a1 a2 v5)
  rw [List.length_map, Nat.zero_add] at l1
  refine ⟨ws, ?_, l1, bt⟩
  generalize ws.map PV.int = L1 at *
  generalize ns.map PV.int = N at *
  simp only [q_Lwords_v3, b_Lwords_v3, ev, evl, okw, powI, Int.reduceLT, Int.reduceLE, Int.reduceNeg, Int.reduceAdd, Int.reduceSub, Int.reduceMul, Int.reducePow, Int.reduceToNat, Nat.reduceAdd, Nat.reduceSub, ne_eq, not_false_eq_true, not_true_eq_false, Int.reduceEq, reduceCtorEq, List.replicate, List.set, Int.one_mul, o2, sOwn_e, ef, sFreeze_e, List.getElem?_cons_zero, List.getElem?_cons_succ]
end K25
set_option Elab.async false
set_option linter.all false
set_option autoImplicit false
set_option maxRecDepth 100000
set_option maxHeartbeats 4000000
namespace K25
open PySem Mi Cm
theorem compL_w {n : Nat} {t : FT} {f : FE} {ρ : MEnv} (q : Int → Bool) (g : Int → Int) : ∀ {l : List Int}, (∀ w ∈ l, t (padTo n ρ ++ [some (.int w)]) = .ok (q w)) → (∀ w ∈ l, f (padTo n ρ ++ [some (.int w)]) = .ok (.int (g w))) → compL n t f ρ (l.map PV.int) = .ok (((l.filter q).map g).map PV.int)
  | [], _, _ => rfl
  | p :: r, h, h2 => by
    have ih := compL_w q g (l := r) (fun z hz => h z (List.mem_cons_of_mem _ hz)) (fun z hz => h2 z (List.mem_cons_of_mem _ hz))
    have e := h p List.mem_cons_self
    rw [List.map_cons]
    unfold compL
    rw [e]
    by_cases hq : q p = true
    · have e2 := h2 p List.mem_cons_self
      rw [hq]
      dsimp only
      rw [e2, ih, List.filter_cons, if_pos hq]; rfl
    · have hq' : q p = false := by simpa using hq
      rw [hq']
      dsimp only
      rw [ih, List.filter_cons, if_neg hq]
theorem compLR_w {n : Nat} {t : FT} {f : FE} {ρ : MEnv} (q : Int → Bool) : ∀ {l : List Int}, (∀ w ∈ l, t (padTo n ρ ++ [some (.int w)]) = .ok (q w)) → (∀ w ∈ l, f (padTo n ρ ++ [some (.int w)]) = .ok (.int w)) → compLR n t f ρ (l.map PV.int) = .ok ((l.filter q).map PV.int)
  | [], _, _ => rfl
  | p :: r, h, h2 => by
    have ih := compLR_w q (l := r) (fun z hz => h z (List.mem_cons_of_mem _ hz)) (fun z hz => h2 z (List.mem_cons_of_mem _ hz))
    have e := h p List.mem_cons_self
    rw [List.map_cons]
    unfold compLR
    rw [e]
    by_cases hq : q p = true
    · have e2 := h2 p List.mem_cons_self
      rw [hq]
      dsimp only
      rw [e2, ih, List.filter_cons, if_pos hq]; rfl
    · have hq' : q p = false := by simpa using hq
      rw [hq']
      dsimp only
      rw [ih, List.filter_cons, if_neg hq]
theorem compLR_x {n c : Nat} {t : FT} {f : FE} {ρ : MEnv} {v : PV} {b : List PV} (q : Int → Bool) (hv : t (padTo n ρ ++ [some v]) = .exc c) : ∀ {l : List Int}, (∀ w ∈ l, t (padTo n ρ ++ [some (.int w)]) = .ok (q w)) → (∀ w ∈ l, f (padTo n ρ ++ [some (.int w)]) = .ok (.int w)) → compLR n t f ρ (l.map PV.int ++ v :: b) = .exc c
  | [], _, _ => by
    rw [List.map_nil, List.nil_append]
    unfold compLR
    rw [hv]
  | p :: r, h, h2 => by
    have ih := compLR_x (l := r) (b := b) q hv (fun z hz => h z (List.mem_cons_of_mem _ hz)) (fun z hz => h2 z (List.mem_cons_of_mem _ hz))
    have e := h p List.mem_cons_self
    rw [List.map_cons, List.cons_append]
    unfold compLR
    rw [e]
    by_cases hq : q p = true
    · have e2 := h2 p List.mem_cons_self
      rw [hq]
      dsimp only
      rw [e2, ih]
    · have hq' : q p = false := by simpa using hq
      rw [hq']
      dsimp only
      rw [ih]
theorem fCompR_e (n : Nat) (it : FA) (t : FT) (f : FE) (x0 : Option PV) (ρ0 : MEnv) : fCompR n it t f (x0 :: ρ0) = (it (x0 :: ρ0)).bind (compKR n t f (x0 :: ρ0)) := rfl
theorem compKR_ok {n : Nat} {t : FT} {f : FE} {ρ : MEnv} {l vs : List PV} (h : l.length ≤ 1000000) (e : compLR n t f ρ l = .ok vs) : compKR n t f ρ l = .ok (.lst vs) := by
  unfold compKR; rw [if_pos h, e]
theorem compKR_x {n c : Nat} {t : FT} {f : FE} {ρ : MEnv} {l : List PV} (h : l.length ≤ 1000000) (e : compLR n t f ρ l = .exc c) : compKR n t f ρ l = .exc c := by
  unfold compKR; rw [if_pos h, e]
theorem fCallX_e (F : List PV → R PV) (g : FA) (x0 : Option PV) (ρ0 : MEnv) : fCallX F g (x0 :: ρ0) = match g (x0 :: ρ0) with
  | .ok qs => F qs
  | _ => .stuck := rfl
theorem cIsN_non : cIsN .non = .ok (.bl true) := rfl
theorem cIsN_int (i : Int) : cIsN (.int i) = .ok (.bl false) := rfl
theorem cNotN_non : cNotN .non = .ok (.bl false) := rfl
theorem cNotN_int (i : Int) : cNotN (.int i) = .ok (.bl true) := rfl
def noW (e f : Int) (ws : List Int) : List Int := ws.filter (isN e f)
def otW (e f : Int) (ws : List Int) : List Int := ws.filter fun w => !isN e f w
/-- the numbers in their order -/
def soW (e f : Int) (ws : List Int) : List Int := (sortL ((otW e f ws).map (cdw e f))).map dec
def reW (e f : Int) (ws : List Int) : List Int := soW e f ws ++ noW e f ws
section
variable {e f : Int} {ws : List Int}
theorem intsP_of : ∀ l : List Int, intsP (l.map PV.int) = some l
  | [] => rfl
  | x :: r => by show (intsP (r.map PV.int)).map (x :: ·) = _; rw [intsP_of r]; rfl
theorem g_at {w : Int} (h : Wd e f) (hw : Wo e f w) (n : isN e f w = false) : (fTup (aCons (fCall (noX q_rank_of) (aCons (fVar 1) (aCons (fVar 0) (aNil)))) (aCons (fUn oNeg (fVar 0)) (aNil)))) [some (.int w), some (.tup [.int e, .int f])] = .ok (.tup [.int (rkw e f w), .int (-w)]) := by
  have := noX_ok (q_rkw h hw n)
  simp only [ev, evl, okw, powI, Int.reduceLT, Int.reduceLE, Int.reduceNeg, Int.reduceAdd, Int.reduceSub, Int.reduceMul, Int.reducePow, Int.reduceToNat, Nat.reduceAdd, Nat.reduceSub, ne_eq, not_false_eq_true, not_true_eq_false, Int.reduceEq, reduceCtorEq, this]
theorem rk_at {w : Int} (h : Wd e f) (hw : Wo e f w) (n : isN e f w = false) : rkOf (fTup (aCons (fCall (noX q_rank_of) (aCons (fVar 1) (aCons (fVar 0) (aNil)))) (aCons (fUn oNeg (fVar 0)) (aNil)))) (.tup [.int e, .int f]) w = some (rkw e f w) := by
  unfold rkOf
  rw [g_at h hw n]
  exact if_pos ⟨rfl, wo_small h hw⟩
theorem codes_w (h : Wd e f) : ∀ {l : List Int}, (∀ w ∈ l, Wo e f w ∧ isN e f w = false) → codesOf (fTup (aCons (fCall (noX q_rank_of) (aCons (fVar 1) (aCons (fVar 0) (aNil)))) (aCons (fUn oNeg (fVar 0)) (aNil)))) (.tup [.int e, .int f]) l = some (l.map (cdw e f))
  | [], _ => rfl
  | w :: r, hh => by
    have ih := codes_w h (l := r) fun z hz => hh z (List.mem_cons_of_mem _ hz)
    obtain ⟨a, b⟩ := hh w List.mem_cons_self
    unfold codesOf
    rw [rk_at h a b, ih]
    rfl
theorem ot_mem {w : Int} (hw : ∀ w ∈ ws, Wo e f w) (m : w ∈ otW e f ws) : Wo e f w ∧ isN e f w = false := by
  obtain ⟨a, b⟩ := List.mem_filter.mp m
  exact ⟨hw w a, by simpa using b⟩
theorem so_len : (soW e f ws).length = (otW e f ws).length := by
  unfold soW
  rw [List.length_map, (sortL_perm _).length_eq, List.length_map]
theorem two_len : (otW e f ws).length + (noW e f ws).length = ws.length := by
  unfold otW noW
  induction ws with
  | nil => rfl
  | cons w r ih =>
    rw [List.filter_cons, List.filter_cons, List.length_cons]
    cases isN e f w <;> simp <;> omega
theorem sort_w (h : Wd e f) (hw : ∀ w ∈ ws, Wo e f w) (hl : ws.length < 64) (x y : Option PV) :
    fSortK (fTup (aCons (fCall (noX q_rank_of) (aCons (fVar 1) (aCons (fVar 0) (aNil)))) (aCons (fUn oNeg (fVar 0)) (aNil)))) 0 (fVar 3) [some (.tup [.int e, .int f]), x, y, some (.lst ((otW e f ws).map PV.int))] = .ok (.lst ((soW e f ws).map PV.int)) := by
  have e1 : srtK (fTup (aCons (fCall (noX q_rank_of) (aCons (fVar 1) (aCons (fVar 0) (aNil)))) (aCons (fUn oNeg (fVar 0)) (aNil)))) (.tup [.int e, .int f]) (.lst ((otW e f ws).map PV.int)) = .ok (.lst ((soW e f ws).map PV.int)) := by
    have t := two_len (e := e) (f := f) (ws := ws)
    unfold srtK
    simp only [intsP_of]
    rw [if_pos (by omega), codes_w h fun w m => ot_mem hw m]
    unfold soW
    rw [List.map_map]
    rfl
  exact e1
/-- the tests of the two filters -/
theorem t_is {w : Int} (h : Wd e f) (hw : Wo e f w) (x y z : Option PV) : (tVal (fUn cIsN (fCallX q_rank_of (aCons (fVar 0) (aCons (fVar 4) (aNil)))))) (padTo 4 [some (.tup [.int e, .int f]), x, y, z] ++ [some (.int w)]) = .ok (isN e f w) := by
  show (tVal (fUn cIsN (fCallX q_rank_of (aCons (fVar 0) (aCons (fVar 4) (aNil)))))) [some (.tup [.int e, .int f]), x, y, z, some (.int w)] = _
  cases n : isN e f w with
  | true => simp only [ev, evl, okw, powI, Int.reduceLT, Int.reduceLE, Int.reduceNeg, Int.reduceAdd, Int.reduceSub, Int.reduceMul, Int.reducePow, Int.reduceToNat, Nat.reduceAdd, Nat.reduceSub, ne_eq, not_false_eq_true, not_true_eq_false, Int.reduceEq, reduceCtorEq, fCallX_e, q_rkN h hw n, cIsN_non]
  | false => simp only [ev, evl, okw, powI, Int.reduceLT, Int.reduceLE, Int.reduceNeg, Int.reduceAdd, Int.reduceSub, Int.reduceMul, Int.reducePow, Int.reduceToNat, Nat.reduceAdd, Nat.reduceSub, ne_eq, not_false_eq_true, not_true_eq_false, Int.reduceEq, reduceCtorEq, fCallX_e, q_rkw h hw n, cIsN_int]
theorem t_not {w : Int} (h : Wd e f) (hw : Wo e f w) (x y z : Option PV) : (tVal (fUn cNotN (fCall (noX q_rank_of) (aCons (fVar 0) (aCons (fVar 4) (aNil)))))) (padTo 4 [some (.tup [.int e, .int f]), x, y, z] ++ [some (.int w)]) = .ok (!isN e f w) := by
  show (tVal (fUn cNotN (fCall (noX q_rank_of) (aCons (fVar 0) (aCons (fVar 4) (aNil)))))) [some (.tup [.int e, .int f]), x, y, z, some (.int w)] = _
  cases n : isN e f w with
  | true => have := noX_ok (q_rkN h hw n); simp only [ev, evl, okw, powI, Int.reduceLT, Int.reduceLE, Int.reduceNeg, Int.reduceAdd, Int.reduceSub, Int.reduceMul, Int.reducePow, Int.reduceToNat, Nat.reduceAdd, Nat.reduceSub, ne_eq, not_false_eq_true, not_true_eq_false, Int.reduceEq, reduceCtorEq, this, cNotN_non]
  | false => have := noX_ok (q_rkw h hw n); simp only [ev, evl, okw, powI, Int.reduceLT, Int.reduceLE, Int.reduceNeg, Int.reduceAdd, Int.reduceSub, Int.reduceMul, Int.reducePow, Int.reduceToNat, Nat.reduceAdd, Nat.reduceSub, ne_eq, not_false_eq_true, not_true_eq_false, Int.reduceEq, reduceCtorEq, this, cNotN_int]
theorem t_x {v : PV} (h : Wd e f) (hv : NoIn 0 (p2 (1 + e + f) - 1) v) (x y z : Option PV) : (tVal (fUn cIsN (fCallX q_rank_of (aCons (fVar 0) (aCons (fVar 4) (aNil)))))) (padTo 4 [some (.tup [.int e, .int f]), x, y, z] ++ [some v]) = .exc 2 := by
  show (tVal (fUn cIsN (fCallX q_rank_of (aCons (fVar 0) (aCons (fVar 4) (aNil)))))) [some (.tup [.int e, .int f]), x, y, z, some v] = _
  simp only [ev, evl, okw, powI, Int.reduceLT, Int.reduceLE, Int.reduceNeg, Int.reduceAdd, Int.reduceSub, Int.reduceMul, Int.reducePow, Int.reduceToNat, Nat.reduceAdd, Nat.reduceSub, ne_eq, not_false_eq_true, not_true_eq_false, Int.reduceEq, reduceCtorEq, fCallX_e, hv.1, q_rankx h hv]
theorem c_is (h : Wd e f) (hw : ∀ w ∈ ws, Wo e f w) (hl : ws.length < 1000) (x y z : Option PV) : compKR 4 (tVal (fUn cIsN (fCallX q_rank_of (aCons (fVar 0) (aCons (fVar 4) (aNil)))))) (fVar 4) [some (.tup [.int e, .int f]), x, y, z] (ws.map PV.int) = .ok (.lst ((noW e f ws).map PV.int)) :=
  compKR_ok (by rw [List.length_map]; omega) (compLR_w (isN e f) (fun w m => t_is h (hw w m) x y z) fun w _ => rfl)
theorem c_x {v : PV} {b : List PV} (h : Wd e f) (hw : ∀ w ∈ ws, Wo e f w) (hv : NoIn 0 (p2 (1 + e + f) - 1) v) (hl : (ws.map PV.int ++ v :: b).length < 1000) (x y z : Option PV) : compKR 4 (tVal (fUn cIsN (fCallX q_rank_of (aCons (fVar 0) (aCons (fVar 4) (aNil)))))) (fVar 4) [some (.tup [.int e, .int f]), x, y, z] (ws.map PV.int ++ v :: b) = .exc 2 :=
  compKR_x (by omega) (compLR_x (isN e f) (t_x h hv x y z) (fun w m => t_is h (hw w m) x y z) fun w _ => rfl)
theorem c_not (h : Wd e f) (hw : ∀ w ∈ ws, Wo e f w) (hl : ws.length < 1000) (x y z : Option PV) : compK 4 (tVal (fUn cNotN (fCall (noX q_rank_of) (aCons (fVar 0) (aCons (fVar 4) (aNil)))))) (fVar 4) [some (.tup [.int e, .int f]), x, y, z] (ws.map PV.int) = .ok (.lst ((otW e f ws).map PV.int)) := by
  have := compL_w (n := 4) (t := tVal (fUn cNotN (fCall (noX q_rank_of) (aCons (fVar 0) (aCons (fVar 4) (aNil)))))) (f := fVar 4) (ρ := [some (.tup [.int e, .int f]), x, y, z]) (fun w => !isN e f w) id (l := ws) (fun w m => t_not h (hw w m) x y z) fun w _ => rfl
  rw [List.map_id] at this
  exact compK_ok (by rw [List.length_map]; omega) this
theorem s1 (h : Wd e f) (L : PV) : (sExpr (fCall q_check_width (aCons (fVar 0) (aNil)))) [some (.tup [.int e, .int f]), some L, none, none] = .next [some (.tup [.int e, .int f]), some L, none, none] := by
  simp only [ev, evl, okw, powI, Int.reduceLT, Int.reduceLE, Int.reduceNeg, Int.reduceAdd, Int.reduceSub, Int.reduceMul, Int.reducePow, Int.reduceToNat, Nat.reduceAdd, Nat.reduceSub, ne_eq, not_false_eq_true, not_true_eq_false, Int.reduceEq, reduceCtorEq, q_chw h]
theorem s2 (h : Wd e f) (hw : ∀ w ∈ ws, Wo e f w) (hl : ws.length < 64) : (sSet 2 (fCompR 4 (iSeq (fVar 1)) (tVal (fUn cIsN (fCallX q_rank_of (aCons (fVar 0) (aCons (fVar 4) (aNil)))))) (fVar 4))) [some (.tup [.int e, .int f]), some (.lst (ws.map PV.int)), none, none] = .next [some (.tup [.int e, .int f]), some (.lst (ws.map PV.int)), some (.lst ((noW e f ws).map PV.int)), none] := by
  have := c_is h hw (by omega) (some (.lst (ws.map PV.int))) none none
  generalize ws.map PV.int = L at *
  simp only [ev, evl, okw, powI, Int.reduceLT, Int.reduceLE, Int.reduceNeg, Int.reduceAdd, Int.reduceSub, Int.reduceMul, Int.reducePow, Int.reduceToNat, Nat.reduceAdd, Nat.reduceSub, ne_eq, not_false_eq_true, not_true_eq_false, Int.reduceEq, reduceCtorEq, fCompR_e, this, List.set]
theorem s3 (h : Wd e f) (hw : ∀ w ∈ ws, Wo e f w) (hl : ws.length < 64) (N : Option PV) : (sSet 3 (fComp 4 (iSeq (fVar 1)) (tVal (fUn cNotN (fCall (noX q_rank_of) (aCons (fVar 0) (aCons (fVar 4) (aNil)))))) (fVar 4))) [some (.tup [.int e, .int f]), some (.lst (ws.map PV.int)), N, none] = .next [some (.tup [.int e, .int f]), some (.lst (ws.map PV.int)), N, some (.lst ((otW e f ws).map PV.int))] := by
  have := c_not h hw (by omega) (some (.lst (ws.map PV.int))) N none
  generalize ws.map PV.int = L at *
  simp only [ev, evl, okw, powI, Int.reduceLT, Int.reduceLE, Int.reduceNeg, Int.reduceAdd, Int.reduceSub, Int.reduceMul, Int.reducePow, Int.reduceToNat, Nat.reduceAdd, Nat.reduceSub, ne_eq, not_false_eq_true, not_true_eq_false, Int.reduceEq, reduceCtorEq, fComp_e, this, List.set]
theorem addw (a b : List Int) (h : a.length + b.length < 1000) : oAdd (.lst (a.map PV.int)) (.lst (b.map PV.int)) = .ok (.lst ((a ++ b).map PV.int)) := by
  rw [List.map_append]
  exact if_pos (Nat.le_of_lt (line_4 _ (by rw [List.length_map, List.length_map]; exact h)))
theorem q_in (h : Wd e f) (hw : ∀ w ∈ ws, Wo e f w) (hl : ws.length < 64) : q_in_order_v2 [.tup [.int e, .int f], .lst (ws.map PV.int)] = .ok (.lst ((reW e f ws).map PV.int)) := by
  have a1 := s1 h (.lst (ws.map PV.int))
  have a2 := s2 h hw hl
  have a3 := s3 h hw hl (some (.lst ((noW e f ws).map PV.int)))
  have a4 := sort_w h hw hl (some (.lst (ws.map PV.int))) (some (.lst ((noW e f ws).map PV.int)))
  have t := two_len (e := e) (f := f) (ws := ws)
  have a5 := addw (soW e f ws) (noW e f ws) (by rw [so_len]; omega)
  unfold reW
  generalize (soW e f ws ++ noW e f ws).map PV.int = RR at *
  generalize (soW e f ws).map PV.int = SS at *
  generalize (noW e f ws).map PV.int = NN at *
  generalize (otW e f ws).map PV.int = OO at *
  generalize ws.map PV.int = L at *
  rw [show q_in_order_v2 = runF 4 b_in_order_v2 from rfl, run_2 2]
  unfold b_in_order_v2
  rw [show List.replicate 2 (none : Option PV) = [none, none] from rfl, sSeq_e, a1]
  dsimp only
  rw [sSeq_e, a2]
  dsimp only
  rw [sSeq_e, a3]
  simp only [ev, evl, okw, powI, Int.reduceLT, Int.reduceLE, Int.reduceNeg, Int.reduceAdd, Int.reduceSub, Int.reduceMul, Int.reducePow, Int.reduceToNat, Nat.reduceAdd, Nat.reduceSub, ne_eq, not_false_eq_true, not_true_eq_false, Int.reduceEq, reduceCtorEq, a4, a5]
theorem q_inx {v : PV} {b : List PV} (h : Wd e f) (hw : ∀ w ∈ ws, Wo e f w) (hv : NoIn 0 (p2 (1 + e + f) - 1) v) (hl : (ws.map PV.int ++ v :: b).length < 1000) : q_in_order_v2 [.tup [.int e, .int f], .lst (ws.map PV.int ++ v :: b)] = .exc 2 := by
  have a1 := s1 h (.lst (ws.map PV.int ++ v :: b))
  have a2 := c_x h hw hv hl (some (.lst (ws.map PV.int ++ v :: b))) none none
  generalize ws.map PV.int ++ v :: b = L at *
  rw [show q_in_order_v2 = runF 4 b_in_order_v2 from rfl, run_2 2]
  unfold b_in_order_v2
  simp only [ev, evl, okw, powI, Int.reduceLT, Int.reduceLE, Int.reduceNeg, Int.reduceAdd, Int.reduceSub, Int.reduceMul, Int.reducePow, Int.reduceToNat, Nat.reduceAdd, Nat.reduceSub, ne_eq, not_false_eq_true, not_true_eq_false, Int.reduceEq, reduceCtorEq, a1, fCompR_e, a2]
theorem q_ref {v : PV} {b : List PV} (h : Wd e f) (hw : ∀ w ∈ ws, Wo e f w) (hv : NoIn 0 (p2 (1 + e + f) - 1) v) (hl : (ws.map PV.int ++ v :: b).length < 1000) : q_Lrefused_v26 [.tup [.int e, .int f], .lst (ws.map PV.int ++ v :: b)] = .ok (.bl true) := by
  have a := q_inx h hw hv hl
  generalize ws.map PV.int ++ v :: b = L at *
  simp only [q_Lrefused_v26, b_Lrefused_v26, ev, evl, okw, powI, Int.reduceLT, Int.reduceLE, Int.reduceNeg, Int.reduceAdd, Int.reduceSub, Int.reduceMul, Int.reducePow, Int.reduceToNat, Nat.reduceAdd, Nat.reduceSub, ne_eq, not_false_eq_true, not_true_eq_false, Int.reduceEq, reduceCtorEq, a]
  rfl
end
end K25
set_option Elab.async false
set_option linter.all false
set_option autoImplicit false
set_option maxRecDepth 100000
set_option maxHeartbeats 4000000
namespace K25
open PySem Mi Cm
section
variable {e f : Int} {ws : List Int}
theorem dec_cd {w : Int} (h : Wd e f) (hw : Wo e f w) : dec (cdw e f w) = w := by
  obtain ⟨a, b⟩ := wo_small h hw
  exact dec_code a b
theorem so_perm (h : Wd e f) (hw : ∀ w ∈ ws, Wo e f w) : (soW e f ws).Perm (otW e f ws) := by
  unfold soW
  refine ((sortL_perm _).map dec).trans ?_
  rw [List.map_map]
  have : ∀ l : List Int, (∀ w ∈ l, Wo e f w) → l.map (dec ∘ cdw e f) = l := fun l => by
    induction l with
    | nil => exact fun _ => rfl
    | cons w r ih =>
      intro hh
      rw [List.map_cons, ih fun z hz => hh z (List.mem_cons_of_mem _ hz)]
      show dec (cdw e f w) :: r = _
      rw [dec_cd h (hh w List.mem_cons_self)]
  rw [this _ fun w m => (ot_mem hw m).1]
theorem ot_no (e f : Int) : ∀ ws : List Int, (otW e f ws ++ noW e f ws).Perm ws
  | [] => .refl _
  | w :: r => by
    have ih := ot_no e f r
    unfold otW noW at *
    rw [List.filter_cons, List.filter_cons]
    cases isN e f w with
    | true => exact List.perm_middle.trans (ih.cons w)
    | false => exact ih.cons w
theorem re_perm (h : Wd e f) (hw : ∀ w ∈ ws, Wo e f w) : (reW e f ws).Perm ws := ((so_perm h hw).append_right _).trans (ot_no e f ws)
theorem re_len : (reW e f ws).length = ws.length := by
  unfold reW
  rw [List.length_append, so_len]
  exact two_len
theorem so_wo {w : Int} (h : Wd e f) (hw : ∀ w ∈ ws, Wo e f w) (m : w ∈ soW e f ws) : Wo e f w := (ot_mem hw ((so_perm h hw).mem_iff.mp m)).1
theorem ky_pw (h : Wd e f) (hw : ∀ w ∈ ws, Wo e f w) : ((soW e f ws).map (kyw e f)).Pairwise (· ≤ ·) := by
  unfold soW
  rw [List.map_map, List.pairwise_map]
  refine List.Pairwise.imp_of_mem (fun {a b} ha hb le => ?_) (sortL_pw _)
  obtain ⟨v, mv, rfl⟩ := List.mem_map.mp ((sortL_perm _).mem_iff.mp ha)
  obtain ⟨w, mw, rfl⟩ := List.mem_map.mp ((sortL_perm _).mem_iff.mp hb)
  obtain ⟨hv, _⟩ := ot_mem hw mv
  obtain ⟨hw', _⟩ := ot_mem hw mw
  show kyw e f (dec (cdw e f v)) ≤ kyw e f (dec (cdw e f w))
  rw [dec_cd h hv, dec_cd h hw']
  exact ky_mono h hv hw' le
theorem sorted_w {l : List Int} (h : l.length < 64) : bSorted [.lst (l.map PV.int)] = .ok (.lst ((sortL l).map PV.int)) := by
  unfold bSorted
  simp only [intsP_of]
  rw [if_pos h]
theorem cut_dr (l : List PV) (k : Nat) (h : k ≤ l.length) : cutP l (some (k : Int)) none = l.drop k := by
  unfold cutP
  have e1 : slP l.length 0 (some (k : Int)) = k := by
    show (if (k : Int) < 0 then ((k : Int) + (l.length : Int)).toNat else min (k : Int).toNat l.length) = k
    rw [if_neg (by omega)]
    omega
  have e2 : slP l.length l.length none = l.length := rfl
  rw [e1, e2, List.take_of_length_le (by rw [List.length_drop]; omega)]
theorem cut_tk (l : List PV) (k : Nat) (h : k ≤ l.length) : cutP l none (some (k : Int)) = l.take k := by
  unfold cutP
  have e1 : slP l.length l.length (some (k : Int)) = k := by
    show (if (k : Int) < 0 then ((k : Int) + (l.length : Int)).toNat else min (k : Int).toNat l.length) = k
    rw [if_neg (by omega)]
    omega
  have e2 : slP l.length 0 none = 0 := rfl
  rw [e1, e2, List.drop_zero, Nat.sub_zero]
theorem whole_loop (W A B : PV) (a b c d g : Option PV) : ∀ (l : List Int) (x : Option PV), ∃ x', forL 3 b_Lright_v16_1 (l.map PV.int) [some W, some A, some B, x, a, b, c, d, g] = .next [some W, some A, some B, x', a, b, c, d, g]
  | [], x => ⟨x, rfl⟩
  | w :: r, x => by
    obtain ⟨x', ih⟩ := whole_loop W A B a b c d g r (some (.int w))
    refine ⟨x', ?_⟩
    have e : b_Lright_v16_1 ([some W, some A, some B, x, a, b, c, d, g].set 3 (some (.int w))) = .next [some W, some A, some B, some (.int w), a, b, c, d, g] := by
      simp only [List.set, b_Lright_v16_1, q_Lwhole, b_Lwhole, ev, evl, okw, powI, Int.reduceLT, Int.reduceLE, Int.reduceNeg, Int.reduceAdd, Int.reduceSub, Int.reduceMul, Int.reducePow, Int.reduceToNat, Nat.reduceAdd, Nat.reduceSub, ne_eq, not_false_eq_true, not_true_eq_false, Int.reduceEq, reduceCtorEq]
    rw [List.map_cons, forL_cons, e]
    exact ih
theorem q_right (h : Wd e f) (hw : ∀ w ∈ ws, Wo e f w) (hl : ws.length < 64) : q_Lright_v16 [.tup [.int e, .int f], .lst ((reW e f ws).map PV.int), .lst (ws.map PV.int)] = .ok (.bl true) := by
  obtain ⟨p1, p3, p4, p5, p6, b1, b2, b3, b4, p7, p8⟩ := p2_wd h
  obtain ⟨g1, g2, g3, g4⟩ := id h
  have o1 := okShl_1 (b := e + f) (by omega) (by omega)
  have o2 := okShl_1 (b := e) (by omega) (by omega)
  have o5 : okShl (p2 e - 1) f := okShl_of (n := 12) (by omega) (nb_le (by omega)) (by omega)
  have hS : (p2 e - 1) * p2 f = eS e f := rfl
  have om : okMod (p2 (e + f)) := p2_pos _
  have rl := re_len (e := e) (f := f) (ws := ws)
  have tl := two_len (e := e) (f := f) (ws := ws)
  have sl := so_len (e := e) (f := f) (ws := ws)
  have r1 : ((reW e f ws).map PV.int).length = ws.length := by rw [List.length_map, rl]
  have r2 : (ws.map PV.int).length = ws.length := List.length_map _
  have r3 : ((noW e f ws).map PV.int).length = (noW e f ws).length := List.length_map _
  have k7 : (ws.length : Int) - ((noW e f ws).length : Int) = ((soW e f ws).length : Int) := by omega
  have c1 : cutP ((reW e f ws).map PV.int) (some ((soW e f ws).length : Int)) none = (noW e f ws).map PV.int := by
    rw [cut_dr _ _ (by omega), ← List.map_drop]
    unfold reW
    rw [List.drop_left]
  have c2 : cutP ((reW e f ws).map PV.int) none (some ((soW e f ws).length : Int)) = (soW e f ws).map PV.int := by
    rw [cut_tk _ _ (by omega), ← List.map_take]
    unfold reW
    rw [List.take_left]
  have n1 := ne_is (noW e f ws) (noW e f ws)
  have q1 := sorted_w (l := reW e f ws) (by omega)
  have q2 := sorted_w (l := ws) hl
  rw [pw_unique (((sortL_perm (reW e f ws)).trans (re_perm h hw)).trans (sortL_perm ws).symm) (sortL_pw _) (sortL_pw _)] at q1
  have n2 := ne_is (sortL ws) (sortL ws)
  have q3 := sorted_w (l := (soW e f ws).map (kyw e f)) (by rw [List.length_map]; omega)
  rw [pw_unique (sortL_perm _) (sortL_pw _) (ky_pw h hw)] at q3
  have n3 := eq_is' ((soW e f ws).map (kyw e f)) ((soW e f ws).map (kyw e f))
  rw [decide_eq_true rfl] at n1 n2 n3
  have n1 : cNe (.lst ((noW e f ws).map PV.int)) (.lst ((noW e f ws).map PV.int)) = .ok (.bl false) := n1
  have n2 : cNe (.lst ((sortL ws).map PV.int)) (.lst ((sortL ws).map PV.int)) = .ok (.bl false) := n2
  obtain ⟨x', lp⟩ := whole_loop (.tup [.int e, .int f]) (.lst ((reW e f ws).map PV.int)) (.lst (ws.map PV.int)) none none none none none (reW e f ws) none
  have f6 : compK 9 (tVal (fBin cGt (fBin oMod (fVar 9) (fVar 4)) (fVar 5))) (fVar 9) [some (.tup [.int e, .int f]), some (.lst ((reW e f ws).map PV.int)), some (.lst (ws.map PV.int)), x', some (.int (p2 (e + f))), some (.int (eS e f)), none, none, none] (ws.map PV.int) = .ok (.lst ((noW e f ws).map PV.int)) := by
    have := compL_w (n := 9) (t := tVal (fBin cGt (fBin oMod (fVar 9) (fVar 4)) (fVar 5))) (f := fVar 9) (ρ := [some (.tup [.int e, .int f]), some (.lst ((reW e f ws).map PV.int)), some (.lst (ws.map PV.int)), x', some (.int (p2 (e + f))), some (.int (eS e f)), none, none, none]) (isN e f) id (l := ws) (fun w m => by
      generalize (reW e f ws).map PV.int = A
      generalize ws.map PV.int = B
      show (tVal (fBin cGt (fBin oMod (fVar 9) (fVar 4)) (fVar 5))) [some (.tup [.int e, .int f]), some (.lst A), some (.lst B), x', some (.int (p2 (e + f))), some (.int (eS e f)), none, none, none, some (.int w)] = _
      simp only [ev, evl, okw, powI, Int.reduceLT, Int.reduceLE, Int.reduceNeg, Int.reduceAdd, Int.reduceSub, Int.reduceMul, Int.reducePow, Int.reduceToNat, Nat.reduceAdd, Nat.reduceSub, ne_eq, not_false_eq_true, not_true_eq_false, Int.reduceEq, reduceCtorEq, om]
      rfl) fun w _ => rfl
    rw [List.map_id] at this
    exact compK_ok (by omega) this
  have f8 : ∀ v6 v7 : Option PV, compK 9 tTrue (fCall (noX q_Lkey) (aCons (fVar 0) (aCons (fVar 9) (aNil)))) [some (.tup [.int e, .int f]), some (.lst ((reW e f ws).map PV.int)), some (.lst (ws.map PV.int)), x', some (.int (p2 (e + f))), some (.int (eS e f)), v6, v7, none] ((soW e f ws).map PV.int) = .ok (.lst (((soW e f ws).map (kyw e f)).map PV.int)) := fun v6 v7 => by
    have := compL_w (n := 9) (t := tTrue) (f := fCall (noX q_Lkey) (aCons (fVar 0) (aCons (fVar 9) (aNil)))) (ρ := [some (.tup [.int e, .int f]), some (.lst ((reW e f ws).map PV.int)), some (.lst (ws.map PV.int)), x', some (.int (p2 (e + f))), some (.int (eS e f)), v6, v7, none]) (fun _ => true) (kyw e f) (l := soW e f ws) (fun w m => rfl) fun w m => by
      have hk := noX_ok (q_ky h (so_wo h hw m))
      generalize (reW e f ws).map PV.int = A
      generalize ws.map PV.int = B
      show (fCall (noX q_Lkey) (aCons (fVar 0) (aCons (fVar 9) (aNil)))) [some (.tup [.int e, .int f]), some (.lst A), some (.lst B), x', some (.int (p2 (e + f))), some (.int (eS e f)), v6, v7, none, some (.int w)] = _
      simp only [ev, evl, okw, powI, Int.reduceLT, Int.reduceLE, Int.reduceNeg, Int.reduceAdd, Int.reduceSub, Int.reduceMul, Int.reducePow, Int.reduceToNat, Nat.reduceAdd, Nat.reduceSub, ne_eq, not_false_eq_true, not_true_eq_false, Int.reduceEq, reduceCtorEq, hk]
    rw [show (soW e f ws).filter (fun _ => true) = soW e f ws from List.filter_eq_self.mpr fun _ _ => rfl] at this
    exact compK_ok (by rw [List.length_map]; omega) this
  generalize ((soW e f ws).map (kyw e f)).map PV.int = KK at *
  generalize (sortL ws).map PV.int = ST at *
  generalize (reW e f ws).map PV.int = A at *
  generalize (soW e f ws).map PV.int = SO at *
  generalize (noW e f ws).map PV.int = NO at *
  generalize ws.map PV.int = B at *
  generalize ((soW e f ws).length : Int) = m at *
  simp only [q_Lright_v16, b_Lright_v16, ev, evl, okw, powI, Int.reduceLT, Int.reduceLE, Int.reduceNeg, Int.reduceAdd, Int.reduceSub, Int.reduceMul, Int.reducePow, Int.reduceToNat, Nat.reduceAdd, Nat.reduceSub, ne_eq, not_false_eq_true, not_true_eq_false, Int.reduceEq, reduceCtorEq, List.replicate, List.set, Int.one_mul, r1, r2, lp, o1, o2, o5, hS, fComp_e, f6, r3, k7, c1, c2, n1, q1, q2, n2, f8, q3, n3, decide_true, Bool.not_true]
end
end K25
set_option Elab.async false
set_option linter.all false
set_option autoImplicit false
set_option maxRecDepth 100000
set_option maxHeartbeats 4000000
namespace K25
open PySem PySem.Spec PyProof.Rows L2 Mi Cm
def names : List (Nat × Str) := [(0, "FloatError"), (1, "NoWidth"), (2, "NoWord"), (4, "NoNumber")]
def wnames : List (Nat × Str) := []
def anames : List (Nat × Str) := names ++ wnames
def top (i : Nat) : Stmt := PySem.Challenge.pw_floatforge_k25_whole_in_order.main.body.getD i (.Pass ⟨0, 0, 0, 0⟩)
/-- what the walk asks of the names of the text -/
structure Tx (K : PySem.W.Frag) (mg : Str → Option Value) (cl : Nat → Addr) : Prop where
  inj : ∀ c d, cl c = cl d → c = d
  cls : Cls K mg cl names
  ways : Ways K mg cl wnames
  b_ValueError : mg "ValueError" = none
  b_bool : mg "bool" = none
  b_int : mg "int" = none
  b_isinstance : mg "isinstance" = none
  b_len : mg "len" = none
  b_list : mg "list" = none
  b_reversed : mg "reversed" = none
  b_sorted : mg "sorted" = none
  b_tuple : mg "tuple" = none
  c_LEAST_E : ∃ t, mg "LEAST_E" = some (.int 2 t)
  c_MOST_E : ∃ t, mg "MOST_E" = some (.int 11 t)
  c_LEAST_F : ∃ t, mg "LEAST_F" = some (.int 1 t)
  c_MOST_F : ∃ t, mg "MOST_F" = some (.int 60 t)
section
variable {P : Program} {w : World} {K : PySem.W.Frag} {mg : Str → Option Value} {base : Heap} {cl : Nat → Addr}
theorem sc_is_whole : FnScope ["value"] ["value"] (defScope (top 10)) := ⟨rfl, rfl, rfl, by decide +kernel, rfl, by decide +kernel, by decide +kernel⟩
theorem g_is_whole {f : Addr} {fd : FuncData} (T : Tx K mg cl) (D : DefAt K mg "is_whole" (top 10) f fd) : FG P w K mg base cl 1 "is_whole" 1 q_is_whole :=
  D.fg (N := ["value"]) (k := 0) sc_is_whole rfl (fun _ _ _ _ _ _=>Mi.ln1 fun _=>rfl) fun cdv A outer s H E hr =>
    mss_one (ms_ret (me_and (me_isinst .int (mv 0) (by rfl) T.b_isinstance (by rfl) T.b_int) (me_one (me_not (me_isinst .bool (mv 0) (by rfl) T.b_isinstance (by rfl) T.b_bool)))))
theorem sc_all_ones : FnScope ["count"] ["count"] (defScope (top 16)) := ⟨rfl, rfl, rfl, by decide +kernel, rfl, by decide +kernel, by decide +kernel⟩
theorem g_all_ones {f : Addr} {fd : FuncData} (T : Tx K mg cl) (D : DefAt K mg "all_ones" (top 16) f fd) : FG P w K mg base cl 1 "all_ones" 1 q_all_ones :=
  D.fg (N := ["count"]) (k := 0) sc_all_ones rfl (fun _ _ _ _ _ _=>Mi.ln1 fun _=>rfl) fun cdv A outer s H E hr =>
    mss_one (ms_ret (me_bin r_sub (me_bin r_shl (me_int) (mv 0)) (me_int)))
theorem sc_highest_of_fraction : FnScope ["width"] ["width"] (defScope (top 20)) := ⟨rfl, rfl, rfl, by decide +kernel, rfl, by decide +kernel, by decide +kernel⟩
theorem g_highest_of_fraction {f : Addr} {fd : FuncData} (T : Tx K mg cl) (D : DefAt K mg "highest_of_fraction" (top 20) f fd) : FG P w K mg base cl 1 "highest_of_fraction" 1 q_highest_of_fraction :=
  D.fg (N := ["width"]) (k := 0) sc_highest_of_fraction rfl (fun _ _ _ _ _ _=>Mi.ln1 fun _=>rfl) fun cdv A outer s H E hr =>
    mss_one (ms_ret (me_bin r_shl (me_int) (me_bin r_sub (me_item (mv 0) (me_int)) (me_int))))
theorem sc_sign_bit : FnScope ["width"] ["width"] (defScope (top 21)) := ⟨rfl, rfl, rfl, by decide +kernel, rfl, by decide +kernel, by decide +kernel⟩
theorem g_sign_bit {f : Addr} {fd : FuncData} (T : Tx K mg cl) (D : DefAt K mg "sign_bit" (top 21) f fd) : FG P w K mg base cl 1 "sign_bit" 1 q_sign_bit :=
  D.fg (N := ["width"]) (k := 0) sc_sign_bit rfl (fun _ _ _ _ _ _=>Mi.ln1 fun _=>rfl) fun cdv A outer s H E hr =>
    mss_one (ms_ret (me_bin r_shl (me_int) (me_bin r_add (me_item (mv 0) (me_int)) (me_item (mv 0) (me_int)))))
theorem sc_Lcell_at : FnScope ["_law_script", "_law_k"] ["_law_script", "_law_k"] (defScope (top 27)) := ⟨rfl, rfl, rfl, by decide +kernel, rfl, by decide +kernel, by decide +kernel⟩
theorem g_Lcell_at {f : Addr} {fd : FuncData} (T : Tx K mg cl) (D : DefAt K mg "_law_cell_at" (top 27) f fd) : FG P w K mg base cl 1 "_law_cell_at" 2 q_Lcell_at :=
  D.fg (N := ["_law_script", "_law_k"]) (k := 0) sc_Lcell_at rfl (fun _ _ _ _ _ _=>Mi.ln2 fun _ _=>rfl) fun cdv A outer s H E hr =>
    mss_cons (ms_if (mt_cmp r_lt (mv 1) (me_callB c_len (by rfl) T.b_len PySem.boot_len (ma_cons (mv 0) (ma_nil))) (nomark _)) (mss_one (ms_ret (me_item (mv 0) (mv 1)))) (mss_nil)) (mss_one (ms_ret (me_int)))
theorem sc_Lwhole : FnScope ["_law_found"] ["_law_found"] (defScope (top 28)) := ⟨rfl, rfl, rfl, by decide +kernel, rfl, by decide +kernel, by decide +kernel⟩
theorem g_Lwhole {f : Addr} {fd : FuncData} (T : Tx K mg cl) (D : DefAt K mg "_law_whole" (top 28) f fd) : FG P w K mg base cl 1 "_law_whole" 1 q_Lwhole :=
  D.fg (N := ["_law_found"]) (k := 0) sc_Lwhole rfl (fun _ _ _ _ _ _=>Mi.ln1 fun _=>rfl) fun cdv A outer s H E hr =>
    mss_one (ms_ret (me_and (me_isinst .int (mv 0) (by rfl) T.b_isinstance (by rfl) T.b_int) (me_one (me_not (me_isinst .bool (mv 0) (by rfl) T.b_isinstance (by rfl) T.b_bool)))))
theorem sc_Lwide_2 : FnScope ["_law_cell", "_law_mixed"] ["_law_cell"] (defScope (top 29)) := ⟨rfl, rfl, rfl, by decide +kernel, rfl, by decide +kernel, by decide +kernel⟩
theorem g_Lwide_2 {f : Addr} {fd : FuncData} (T : Tx K mg cl) (D : DefAt K mg "_law_wide" (top 29) f fd) : FG P w K mg base cl 1 "_law_wide" 1 q_Lwide_2 :=
  D.fg (N := ["_law_cell", "_law_mixed"]) (k := 0) sc_Lwide_2 rfl (fun _ _ _ _ _ _=>Mi.ln1 fun _=>rfl) fun cdv A outer s H E hr =>
    mss_cons (ms_set (i := 1) sc_Lwide_2.nd rfl (Or.inl rfl) (me_bin r_mod (me_bin r_mul (mv 0) (me_int)) (me_int))) (mss_cons (ms_if (mt_cmp (r_eq (hu64 hr)) (me_bin r_mod (mv 1) (me_int)) (me_int) (nomark _)) (mss_one (ms_ret (me_tup (ma_cons (me_bin r_add (me_int) (me_bin r_mod (me_bin r_div (mv 1) (me_int)) (me_int))) (ma_cons (me_bin r_add (me_int) (me_bin r_mod (me_bin r_div (mv 1) (me_int)) (me_int))) (ma_nil)))))) (mss_nil)) (mss_one (ms_ret (me_tup (ma_cons (me_bin r_add (me_int) (me_bin r_mod (me_bin r_div (mv 1) (me_int)) (me_int))) (ma_cons (me_bin r_add (me_int) (me_bin r_mod (me_bin r_div (mv 1) (me_int)) (me_int))) (ma_nil)))))))
theorem sc_Lword_v2 : FnScope ["_law_wide_here", "_law_cell", "_law_half", "_law_mixed", "_law_last", "_law_some", "_law_pick"] ["_law_wide_here", "_law_cell"] (defScope (top 30)) := ⟨rfl, rfl, rfl, by decide +kernel, rfl, by decide +kernel, by decide +kernel⟩
theorem g_Lword_v2 {f : Addr} {fd : FuncData} (T : Tx K mg cl) (D : DefAt K mg "_law_word" (top 30) f fd) : FG P w K mg base cl 1 "_law_word" 2 q_Lword_v2 :=
  D.fg (N := ["_law_wide_here", "_law_cell", "_law_half", "_law_mixed", "_law_last", "_law_some", "_law_pick"]) (k := 0) sc_Lword_v2 rfl (fun _ _ _ _ _ _=>Mi.ln2 fun _ _=>rfl) fun cdv A outer s H E hr =>
    mss_cons (ms_set (i := 2) sc_Lword_v2.nd rfl (Or.inl rfl) (me_bin r_shl (me_int) (me_bin r_add (me_item (mv 0) (me_int)) (me_item (mv 0) (me_int))))) (mss_cons (ms_set (i := 3) sc_Lword_v2.nd rfl (Or.inl rfl) (me_bin r_mod (me_bin r_mul (mv 1) (me_int)) (me_bin r_add (me_bin r_pow (me_int) (me_int)) (me_int)))) (mss_cons (ms_set (i := 4) sc_Lword_v2.nd rfl (Or.inl rfl) (me_bin r_shl (me_bin r_sub (me_bin r_shl (me_int) (me_item (mv 0) (me_int))) (me_int)) (me_item (mv 0) (me_int)))) (mss_cons (ms_set (i := 5) sc_Lword_v2.nd rfl (Or.inl rfl) (me_lst (ma_cons (me_int) (ma_cons (me_int) (ma_cons (me_bin r_sub (me_bin r_shl (me_int) (me_item (mv 0) (me_int))) (me_int)) (ma_cons (me_bin r_shl (me_int) (me_item (mv 0) (me_int))) (ma_cons (me_bin r_sub (mv 4) (me_int)) (ma_cons (mv 4) (ma_cons (me_bin r_add (mv 4) (me_int)) (ma_cons (me_bin r_add (mv 4) (me_bin r_shl (me_int) (me_bin r_sub (me_item (mv 0) (me_int)) (me_int)))) (ma_nil))))))))))) (mss_cons (ms_set (i := 6) sc_Lword_v2.nd rfl (Or.inl rfl) (me_bin r_mod (me_bin r_div (mv 3) (me_bin r_mul (me_int) (mv 2))) (me_int))) (mss_cons (ms_if (mt_cmp r_lt (mv 6) (me_int) (nomark _)) (mss_one (ms_ret (me_bin r_add (me_item (mv 5) (mv 6)) (me_bin r_mul (me_bin r_mod (mv 3) (me_int)) (mv 2))))) (mss_nil)) (mss_one (ms_ret (me_bin r_mod (mv 3) (me_bin r_mul (me_int) (mv 2))))))))))
theorem sc_Lkey : FnScope ["_law_wide_here", "_law_word_here", "_law_half", "_law_size"] ["_law_wide_here", "_law_word_here"] (defScope (top 32)) := ⟨rfl, rfl, rfl, by decide +kernel, rfl, by decide +kernel, by decide +kernel⟩
theorem g_Lkey {f : Addr} {fd : FuncData} (T : Tx K mg cl) (D : DefAt K mg "_law_key" (top 32) f fd) : FG P w K mg base cl 1 "_law_key" 2 q_Lkey :=
  D.fg (N := ["_law_wide_here", "_law_word_here", "_law_half", "_law_size"]) (k := 0) sc_Lkey rfl (fun _ _ _ _ _ _=>Mi.ln2 fun _ _=>rfl) fun cdv A outer s H E hr =>
    mss_cons (ms_set (i := 2) sc_Lkey.nd rfl (Or.inl rfl) (me_bin r_shl (me_int) (me_bin r_add (me_item (mv 0) (me_int)) (me_item (mv 0) (me_int))))) (mss_cons (ms_set (i := 3) sc_Lkey.nd rfl (Or.inl rfl) (me_bin r_mod (mv 1) (mv 2))) (mss_cons (ms_if (mt_cmp r_ge (mv 3) (me_bin r_shl (me_int) (me_item (mv 0) (me_int))) (nomark _)) (mss_one (ms_set (i := 3) sc_Lkey.nd rfl (Or.inl rfl) (me_bin r_shl (me_bin r_add (me_bin r_mod (mv 3) (me_bin r_shl (me_int) (me_item (mv 0) (me_int)))) (me_bin r_shl (me_int) (me_item (mv 0) (me_int)))) (me_bin r_sub (me_bin r_shr (mv 3) (me_item (mv 0) (me_int))) (me_int))))) (mss_nil)) (mss_cons (ms_if (mt_cmp r_ge (mv 1) (mv 2) (nomark _)) (mss_one (ms_ret (me_bin r_sub (me_int) (me_bin r_mul (me_int) (mv 3))))) (mss_nil)) (mss_one (ms_ret (me_bin r_add (me_bin r_mul (me_int) (mv 3)) (me_int)))))))
theorem sc_is_within : FnScope ["value", "low", "high"] ["value", "low", "high"] (defScope (top 11)) := ⟨rfl, rfl, rfl, by decide +kernel, rfl, by decide +kernel, by decide +kernel⟩
theorem g_is_within {f : Addr} {fd : FuncData} (T : Tx K mg cl) (D : DefAt K mg "is_within" (top 11) f fd) (g_is_whole : FG P w K mg base cl 1 "is_whole" 1 q_is_whole) : FG P w K mg base cl 2 "is_within" 3 q_is_within :=
  D.fg (N := ["value", "low", "high"]) (k := 1) sc_is_within rfl (fun _ _ _ _ _ _=>Mi.ln3 fun _ _ _=>rfl) fun cdv A outer s H E hr =>
    mss_one (ms_ret (me_and (mc g_is_whole hr T.inj (ma_cons (mv 0) (ma_nil))) (me_one (me_chain r_le r_le (mv 1) (mv 0) (mv 2)))))
theorem sc_Lwords_v3 : FnScope ["_law_wide_here", "_law_cells", "_law_half", "_law_some", "_law_cell", "_law_word_here"] ["_law_wide_here", "_law_cells"] (defScope (top 31)) := ⟨rfl, rfl, rfl, by decide +kernel, rfl, by decide +kernel, by decide +kernel⟩
theorem g_Lwords_v3 {f : Addr} {fd : FuncData} (T : Tx K mg cl) (D : DefAt K mg "_law_words" (top 31) f fd) (g_Lword_v2 : FG P w K mg base cl 1 "_law_word" 2 q_Lword_v2) : FG P w K mg base cl 2 "_law_words" 2 q_Lwords_v3 :=
  D.fg (N := ["_law_wide_here", "_law_cells", "_law_half", "_law_some", "_law_cell", "_law_word_here"]) (k := 1) sc_Lwords_v3 rfl (fun _ _ _ _ _ _=>Mi.ln2 fun _ _=>rfl) fun cdv A outer s H E hr =>
    mss_cons (ms_set (i := 2) sc_Lwords_v3.nd rfl (Or.inl rfl) (me_bin r_shl (me_int) (me_bin r_add (me_item (mv 0) (me_int)) (me_item (mv 0) (me_int))))) (mss_cons (ms_own (i := 3) sc_Lwords_v3.nd rfl (Or.inl rfl) (mf_lst (ma_nil))) (mss_cons (ms_for (i := 4) own_cx rfl sc_Lwords_v3.nd rfl (Or.inl rfl) (mi_seq (mv 1)) (mss_cons (ms_set (i := 5) sc_Lwords_v3.nd rfl (Or.inl rfl) (mc g_Lword_v2 hr T.inj (ma_cons (mv 0) (ma_cons (mv 4) (ma_nil))))) (mss_cons (ms_if (mt_lend (i := 3) ((mw_and (mt_cmp (r_eq (hu64 hr)) (me_bin r_mod (me_bin r_mod (me_bin r_mul (mv 4) (me_int)) (me_int)) (me_int)) (me_int) (nomark _)) (mw_and1 (mt_cmp (r_ne (hu64 hr)) (mv 3) (me_lst (ma_nil)) (nomark _)))).mt)) (mss_one (ms_set (i := 5) sc_Lwords_v3.nd rfl (Or.inl rfl) (me_lend (i := 3) (me_bin r_mod (me_bin r_add (me_item (mv 3) (me_una r_neg (me_int))) (me_bin r_mul (me_bin r_mod (mv 4) (me_int)) (mv 2))) (me_bin r_mul (me_int) (mv 2)))))) (mss_nil)) (mss_one (ms_append (i := 3) rfl (by first | exact Or.inl rfl | exact Or.inr (Or.inl rfl) | exact Or.inr (Or.inr rfl)) (ma_cons (mv 5) (ma_nil))))))) (mss_freeze 3 (mss_one (ms_ret (mv 3))))))
theorem sc_Lright_v16 : FnScope ["_law_wide_here", "_law_found", "_law_words_here", "_law_word_here", "_law_half", "_law_last", "_law_nones", "_law_many", "_law_keys"] ["_law_wide_here", "_law_found", "_law_words_here"] (defScope (top 33)) := ⟨rfl, rfl, rfl, by decide +kernel, rfl, by decide +kernel, by decide +kernel⟩
theorem g_Lright_v16 {f : Addr} {fd : FuncData} (T : Tx K mg cl) (D : DefAt K mg "_law_right" (top 33) f fd) (g_Lkey : FG P w K mg base cl 1 "_law_key" 2 q_Lkey) (g_Lwhole : FG P w K mg base cl 1 "_law_whole" 1 q_Lwhole) : FG P w K mg base cl 2 "_law_right" 3 q_Lright_v16 :=
  D.fg (N := ["_law_wide_here", "_law_found", "_law_words_here", "_law_word_here", "_law_half", "_law_last", "_law_nones", "_law_many", "_law_keys"]) (k := 1) sc_Lright_v16 rfl (fun _ _ _ _ _ _=>Mi.ln3 fun _ _ _=>rfl) fun cdv A outer s H E hr =>
    mss_cons (ms_if ((mw_or (mt_not (mt_val (me_isinst .list (mv 1) (by rfl) T.b_isinstance (by rfl) T.b_list))) (mw_or1 (mt_cmp (r_ne (hu64 hr)) (me_callB c_len (by rfl) T.b_len PySem.boot_len (ma_cons (mv 1) (ma_nil))) (me_callB c_len (by rfl) T.b_len PySem.boot_len (ma_cons (mv 2) (ma_nil))) (nomark _)))).mt) (mss_one (ms_ret (me_bl))) (mss_nil)) (mss_cons (ms_for (i := 3) own_cx rfl sc_Lright_v16.nd rfl (Or.inl rfl) (mi_seq (mv 1)) (mss_one (ms_if (mt_not (mt_val (mc g_Lwhole hr T.inj (ma_cons (mv 3) (ma_nil))))) (mss_one (ms_ret (me_bl))) (mss_nil)))) (mss_cons (ms_set (i := 4) sc_Lright_v16.nd rfl (Or.inr rfl) (me_bin r_shl (me_int) (me_bin r_add (me_item (mv 0) (me_int)) (me_item (mv 0) (me_int))))) (mss_cons (ms_set (i := 5) sc_Lright_v16.nd rfl (Or.inr rfl) (me_bin r_shl (me_bin r_sub (me_bin r_shl (me_int) (me_item (mv 0) (me_int))) (me_int)) (me_item (mv 0) (me_int)))) (mss_cons (msCS (i := 6) (Ns := ["_law_wide_here", "_law_found", "_law_words_here", "'_law_word_here", "_law_half", "_law_last", "_law_nones", "_law_many", "_law_keys"]) sc_Lright_v16.nd rfl (Or.inl rfl) (by decide +kernel) (by decide +kernel) rfl (mi_seq (mv 2)) (fun _ _ _ _ => MC.one (mt_cmp r_gt (me_bin r_mod (mv 9) (mv 4)) (mv 5) (nomark _))) (fun _ _ _ _ => mv 9)) (mss_cons (ms_set (i := 7) sc_Lright_v16.nd rfl (Or.inl rfl) (me_bin r_sub (me_callB c_len (by rfl) T.b_len PySem.boot_len (ma_cons (mv 2) (ma_nil))) (me_callB c_len (by rfl) T.b_len PySem.boot_len (ma_cons (mv 6) (ma_nil))))) (mss_cons (ms_if ((mw_or (mt_cmp (r_ne (hu64 hr)) (me_cut (mv 1) (mo_some (mv 7)) (mo_none)) (mv 6) (nomark _)) (mw_or1 (mt_cmp (r_ne (hu64 hr)) (me_callB c_sorted (by rfl) T.b_sorted boot_sorted (ma_cons (mv 1) (ma_nil))) (me_callB c_sorted (by rfl) T.b_sorted boot_sorted (ma_cons (mv 2) (ma_nil))) (nomark _)))).mt) (mss_one (ms_ret (me_bl))) (mss_nil)) (mss_cons (msCS (i := 8) (Ns := ["_law_wide_here", "_law_found", "_law_words_here", "'_law_word_here", "_law_half", "_law_last", "_law_nones", "_law_many", "_law_keys"]) sc_Lright_v16.nd rfl (Or.inl rfl) (by decide +kernel) (by decide +kernel) rfl (mi_seq (me_cut (mv 1) (mo_none) (mo_some (mv 7)))) (fun _ _ _ _ => MC.nil) (fun _ _ _ _ => mcN g_Lkey hr (ma_cons (mv 0) (ma_cons (mv 9) (ma_nil))))) (mss_one (ms_ret (me_cmp (r_eq (hu64 hr)) (mv 8) (me_callB c_sorted (by rfl) T.b_sorted boot_sorted (ma_cons (mv 8) (ma_nil))) (nomark _)))))))))))
theorem sc_width_of : FnScope ["e", "f"] ["e", "f"] (defScope (top 12)) := ⟨rfl, rfl, rfl, by decide +kernel, rfl, by decide +kernel, by decide +kernel⟩
theorem g_width_of {f : Addr} {fd : FuncData} (T : Tx K mg cl) (D : DefAt K mg "width_of" (top 12) f fd) (g_is_within : FG P w K mg base cl 2 "is_within" 3 q_is_within) : FG P w K mg base cl 3 "width_of" 2 q_width_of :=
  D.fg (N := ["e", "f"]) (k := 2) sc_width_of rfl (fun _ _ _ _ _ _=>Mi.ln2 fun _ _=>rfl) fun cdv A outer s H E hr =>
    mss_cons (ms_if (mt_not (mt_val (mc g_is_within hr T.inj (ma_cons (mv 0) (ma_cons (me_globI (by rfl) T.c_LEAST_E) (ma_cons (me_globI (by rfl) T.c_MOST_E) (ma_nil))))))) (mss_one (ms_raise (c := 1) (T.cls.cls 1 "NoWidth" (at_mem 1 rfl)) own_cx (by rfl) hr.hd (mv_join (mvs_cons (mv_str 44) (mvs_cons (mv_fmt (me_globI (by rfl) T.c_LEAST_E)) (mvs_cons (mv_str 4) (mvs_cons (mv_fmt (me_globI (by rfl) T.c_MOST_E)) (mvs_nil)))))))) (mss_nil)) (mss_cons (ms_if (mt_not (mt_val (mc g_is_within hr T.inj (ma_cons (mv 1) (ma_cons (me_globI (by rfl) T.c_LEAST_F) (ma_cons (me_globI (by rfl) T.c_MOST_F) (ma_nil))))))) (mss_one (ms_raise (c := 1) (T.cls.cls 1 "NoWidth" (at_mem 1 rfl)) own_cx (by rfl) hr.hd (mv_join (mvs_cons (mv_str 44) (mvs_cons (mv_fmt (me_globI (by rfl) T.c_LEAST_F)) (mvs_cons (mv_str 4) (mvs_cons (mv_fmt (me_globI (by rfl) T.c_MOST_F)) (mvs_nil)))))))) (mss_nil)) (mss_one (ms_ret (me_tup (ma_cons (mv 0) (ma_cons (mv 1) (ma_nil)))))))
theorem sc_check_width : FnScope ["width"] ["width"] (defScope (top 13)) := ⟨rfl, rfl, rfl, by decide +kernel, rfl, by decide +kernel, by decide +kernel⟩
theorem g_check_width {f : Addr} {fd : FuncData} (T : Tx K mg cl) (D : DefAt K mg "check_width" (top 13) f fd) (g_width_of : FG P w K mg base cl 3 "width_of" 2 q_width_of) : FG P w K mg base cl 4 "check_width" 1 q_check_width :=
  D.fg (N := ["width"]) (k := 3) sc_check_width rfl (fun _ _ _ _ _ _=>Mi.ln1 fun _=>rfl) fun cdv A outer s H E hr =>
    mss_cons (ms_if ((mw_or (mt_not (mt_val (me_isinst .tuple (mv 0) (by rfl) T.b_isinstance (by rfl) T.b_tuple))) (mw_or1 (mt_cmp (r_ne (hu64 hr)) (me_callB c_len (by rfl) T.b_len PySem.boot_len (ma_cons (mv 0) (ma_nil))) (me_int) (nomark _)))).mt) (mss_one (ms_raise (c := 1) (T.cls.cls 1 "NoWidth" (at_mem 1 rfl)) own_cx (by rfl) hr.hd (mv_str 39))) (mss_nil)) (mss_one (ms_expr (mc g_width_of hr T.inj (ma_cons (me_item (mv 0) (me_int)) (ma_cons (me_item (mv 0) (me_int)) (ma_nil))))))
theorem sc_many_words : FnScope ["width"] ["width"] (defScope (top 14)) := ⟨rfl, rfl, rfl, by decide +kernel, rfl, by decide +kernel, by decide +kernel⟩
theorem g_many_words {f : Addr} {fd : FuncData} (T : Tx K mg cl) (D : DefAt K mg "many_words" (top 14) f fd) (g_check_width : FG P w K mg base cl 4 "check_width" 1 q_check_width) : FG P w K mg base cl 5 "many_words" 1 q_many_words :=
  D.fg (N := ["width"]) (k := 4) sc_many_words rfl (fun _ _ _ _ _ _=>Mi.ln1 fun _=>rfl) fun cdv A outer s H E hr =>
    mss_cons (ms_expr (mc g_check_width hr T.inj (ma_cons (mv 0) (ma_nil)))) (mss_one (ms_ret (me_bin r_shl (me_int) (me_bin r_add (me_bin r_add (me_int) (me_item (mv 0) (me_int))) (me_item (mv 0) (me_int))))))
theorem sc_check_word : FnScope ["width", "word"] ["width", "word"] (defScope (top 17)) := ⟨rfl, rfl, rfl, by decide +kernel, rfl, by decide +kernel, by decide +kernel⟩
theorem g_check_word {f : Addr} {fd : FuncData} (T : Tx K mg cl) (D : DefAt K mg "check_word" (top 17) f fd) (g_is_within : FG P w K mg base cl 2 "is_within" 3 q_is_within) (g_many_words : FG P w K mg base cl 5 "many_words" 1 q_many_words) : FG P w K mg base cl 6 "check_word" 2 q_check_word :=
  D.fg (N := ["width", "word"]) (k := 5) sc_check_word rfl (fun _ _ _ _ _ _=>Mi.ln2 fun _ _=>rfl) fun cdv A outer s H E hr =>
    mss_one (ms_if (mt_not (mt_val (mc g_is_within hr T.inj (ma_cons (mv 1) (ma_cons (me_int) (ma_cons (me_bin r_sub (mc g_many_words hr T.inj (ma_cons (mv 0) (ma_nil))) (me_int)) (ma_nil))))))) (mss_one (ms_raise (c := 2) (T.cls.cls 2 "NoWord" (at_mem 2 rfl)) own_cx (by rfl) hr.hd (mv_str 71))) (mss_nil))
theorem sc_cut : FnScope ["width", "word", "sign", "exponent", "fraction"] ["width", "word"] (defScope (top 18)) := ⟨rfl, rfl, rfl, by decide +kernel, rfl, by decide +kernel, by decide +kernel⟩
theorem g_cut {f : Addr} {fd : FuncData} (T : Tx K mg cl) (D : DefAt K mg "cut" (top 18) f fd) (g_check_word : FG P w K mg base cl 6 "check_word" 2 q_check_word) (g_all_ones : FG P w K mg base cl 1 "all_ones" 1 q_all_ones) : FG P w K mg base cl 7 "cut" 2 q_cut :=
  D.fg (N := ["width", "word", "sign", "exponent", "fraction"]) (k := 6) sc_cut rfl (fun _ _ _ _ _ _=>Mi.ln2 fun _ _=>rfl) fun cdv A outer s H E hr =>
    mss_cons (ms_expr (mc g_check_word hr T.inj (ma_cons (mv 0) (ma_cons (mv 1) (ma_nil))))) (mss_cons (ms_set (i := 2) sc_cut.nd rfl (Or.inl rfl) (me_bin r_shr (mv 1) (me_bin r_add (me_item (mv 0) (me_int)) (me_item (mv 0) (me_int))))) (mss_cons (ms_set (i := 3) sc_cut.nd rfl (Or.inl rfl) (me_bin r_and (me_bin r_shr (mv 1) (me_item (mv 0) (me_int))) (mc g_all_ones hr T.inj (ma_cons (me_item (mv 0) (me_int)) (ma_nil))))) (mss_cons (ms_set (i := 4) sc_cut.nd rfl (Or.inl rfl) (me_bin r_and (mv 1) (mc g_all_ones hr T.inj (ma_cons (me_item (mv 0) (me_int)) (ma_nil))))) (mss_one (ms_ret (me_tup (ma_cons (mv 2) (ma_cons (mv 3) (ma_cons (mv 4) (ma_nil))))))))))
theorem sc_unsigned : FnScope ["width", "word"] ["width", "word"] (defScope (top 22)) := ⟨rfl, rfl, rfl, by decide +kernel, rfl, by decide +kernel, by decide +kernel⟩
theorem g_unsigned {f : Addr} {fd : FuncData} (T : Tx K mg cl) (D : DefAt K mg "unsigned" (top 22) f fd) (g_check_word : FG P w K mg base cl 6 "check_word" 2 q_check_word) (g_sign_bit : FG P w K mg base cl 1 "sign_bit" 1 q_sign_bit) : FG P w K mg base cl 7 "unsigned" 2 q_unsigned :=
  D.fg (N := ["width", "word"]) (k := 6) sc_unsigned rfl (fun _ _ _ _ _ _=>Mi.ln2 fun _ _=>rfl) fun cdv A outer s H E hr =>
    mss_cons (ms_expr (mc g_check_word hr T.inj (ma_cons (mv 0) (ma_cons (mv 1) (ma_nil))))) (mss_one (ms_ret (me_bin r_and (mv 1) (me_bin r_sub (mc g_sign_bit hr T.inj (ma_cons (mv 0) (ma_nil))) (me_int)))))
theorem sc_kind_of : FnScope ["width", "word", "parts", "exponent", "fraction"] ["width", "word"] (defScope (top 19)) := ⟨rfl, rfl, rfl, by decide +kernel, rfl, by decide +kernel, by decide +kernel⟩
theorem g_kind_of {f : Addr} {fd : FuncData} (T : Tx K mg cl) (D : DefAt K mg "kind_of" (top 19) f fd) (g_cut : FG P w K mg base cl 7 "cut" 2 q_cut) (g_all_ones : FG P w K mg base cl 1 "all_ones" 1 q_all_ones) (g_highest_of_fraction : FG P w K mg base cl 1 "highest_of_fraction" 1 q_highest_of_fraction) : FG P w K mg base cl 8 "kind_of" 2 q_kind_of :=
  D.fg (N := ["width", "word", "parts", "exponent", "fraction"]) (k := 7) sc_kind_of rfl (fun _ _ _ _ _ _=>Mi.ln2 fun _ _=>rfl) fun cdv A outer s H E hr =>
    mss_cons (ms_set (i := 2) sc_kind_of.nd rfl (Or.inl rfl) (mc g_cut hr T.inj (ma_cons (mv 0) (ma_cons (mv 1) (ma_nil))))) (mss_cons (ms_set (i := 3) sc_kind_of.nd rfl (Or.inl rfl) (me_item (mv 2) (me_int))) (mss_cons (ms_set (i := 4) sc_kind_of.nd rfl (Or.inl rfl) (me_item (mv 2) (me_int))) (mss_cons (ms_if (mt_cmp (r_eq (hu64 hr)) (mv 3) (me_int) (nomark _)) (mss_one (ms_ret (me_if (mt_cmp (r_eq (hu64 hr)) (mv 4) (me_int) (nomark _)) (me_str) (me_str)))) (mss_nil)) (mss_cons (ms_if (mt_cmp r_lt (mv 3) (mc g_all_ones hr T.inj (ma_cons (me_item (mv 0) (me_int)) (ma_nil))) (nomark _)) (mss_one (ms_ret (me_str))) (mss_nil)) (mss_cons (ms_if (mt_cmp (r_eq (hu64 hr)) (mv 4) (me_int) (nomark _)) (mss_one (ms_ret (me_str))) (mss_nil)) (mss_one (ms_ret (me_if (mt_cmp r_ge (mv 4) (mc g_highest_of_fraction hr T.inj (ma_cons (mv 0) (ma_nil))) (nomark _)) (me_str) (me_str)))))))))
theorem sc_rank_of : FnScope ["width", "word", "rank"] ["width", "word"] (defScope (top 24)) := ⟨rfl, rfl, rfl, by decide +kernel, rfl, by decide +kernel, by decide +kernel⟩
theorem g_rank_of {f : Addr} {fd : FuncData} (T : Tx K mg cl) (D : DefAt K mg "rank_of" (top 24) f fd) (g_unsigned : FG P w K mg base cl 7 "unsigned" 2 q_unsigned) (g_kind_of : FG P w K mg base cl 8 "kind_of" 2 q_kind_of) (g_cut : FG P w K mg base cl 7 "cut" 2 q_cut) : FG P w K mg base cl 9 "rank_of" 2 q_rank_of :=
  D.fg (N := ["width", "word", "rank"]) (k := 8) sc_rank_of rfl (fun _ _ _ _ _ _=>Mi.ln2 fun _ _=>rfl) fun cdv A outer s H E hr =>
    mss_cons (ms_if (mt_cmp r_in (mc g_kind_of hr T.inj (ma_cons (mv 0) (ma_cons (mv 1) (ma_nil)))) (me_tup (ma_cons (me_str) (ma_cons (me_str) (ma_nil)))) (by with_unfolding_all rfl)) (mss_one (ms_ret (me_non))) (mss_nil)) (mss_cons (ms_set (i := 2) sc_rank_of.nd rfl (Or.inl rfl) (mc g_unsigned hr T.inj (ma_cons (mv 0) (ma_cons (mv 1) (ma_nil))))) (mss_one (ms_ret (me_if (mt_cmp (r_eq (hu64 hr)) (me_item (mc g_cut hr T.inj (ma_cons (mv 0) (ma_cons (mv 1) (ma_nil)))) (me_int)) (me_int) (nomark _)) (me_una r_neg (mv 2)) (mv 2)))))
theorem sc_in_order_v2 : FnScope ["width", "words", "nones", "others"] ["width", "words"] (defScope (top 25)) := ⟨rfl, rfl, rfl, by decide +kernel, rfl, by decide +kernel, by decide +kernel⟩
def inRet : Expr := match defBody (top 25) with | [_, _, _, .Return (some e) _] => e | _ => .Name "" ⟨0, 0, 0, 0⟩
def lamE : Expr := match inRet with | .BinOp (.Call _ _ [⟨_, l, _⟩] _) _ _ _ => l | _ => .Name "" ⟨0, 0, 0, 0⟩
def lamA : Arguments := match lamE with | .Lambda a _ _ _ => a | _ => ⟨[], [], none, [], [], none, []⟩
def lamB : Expr := match lamE with | .Lambda _ b _ _ => b | _ => .Name "" ⟨0, 0, 0, 0⟩
def lamS : Scope := match lamE with | .Lambda _ _ s _ => s | _ => default
def lamP : Pos := match lamE with | .Lambda _ _ _ p => p | _ => ⟨0, 0, 0, 0⟩
def lq : Str := ("in_order" : Str) ++ ".<locals>." ++ "<lambda>"
noncomputable def g25 : FE := fTup (aCons (fCall (noX q_rank_of) (aCons (fVar 1) (aCons (fVar 0) (aNil)))) (aCons (fUn oNeg (fVar 0)) (aNil)))
theorem lamSc : LamSc "word" "width" lamS := ⟨rfl, rfl, rfl, rfl, rfl, by decide +kernel, fun z h => by
  have a : lamS.names.all (fun p => !(p.2 == .free) || (p.1 == ("width" : Str))) = true := by decide +kernel
  have b := List.all_eq_true.mp a _ (PySem.mem_of_lookup h)
  simpa using b⟩
theorem lam_in {f c Pt : Addr} (T : Tx K mg cl) (TB : TabB mg base c Pt) (g_rank_of : FG P w K mg base cl 9 "rank_of" 2 q_rank_of) {A : Around} {outer : List Env} {s : Shared} {H : Hp} {E : XK} (hr : Room 12 (A.deeper (envOfC "in_order" (defScope (top 25)) s.heap.objs.size f (.ref c)))) :
    LamAt (cxM P w K mg base cl ["width", "words", "nones", "others"] "in_order" (defScope (top 25)) f (.ref c) A outer s H E) cl "word" "width" lamS lamA lamB lamP c Pt (s.heap.objs.size + 1) 9 0 g25 where
  sc := lamSc
  room := hr
  tab := TB
  code := rfl
  clos := rfl
  dflt := rfl
  bind := fun _ _ _ _ => rfl
  at_ := rfl
  kind := rfl
  cell := rfl
  me := fun _ _ _ _ => me_tup (ma_cons (mcN g_rank_of (Room.deeper (Room.in1 (Room.in1 hr)) _) (ma_cons (mv 1) (ma_cons (mv 0) (ma_nil)))) (ma_cons (me_una r_neg (mv 0)) (ma_nil)))
  gl := rfl
  mg := T.b_sorted
theorem gT_in {f c Pt c' : Addr} {fd : FuncData} {oc : Obj} {vs' : Array Value} {t : Tok} (T : Tx K mg cl) (D : DefAt K mg "in_order" (top 25) f fd) (hcv : fd.code = .ref c) (TB : TabB mg base c Pt) (hd : oc.data = .fields vs') (hq : vs'[1]? = some (.str lq t)) (g_check_width : FG P w K mg base cl 4 "check_width" 1 q_check_width) (g_rank_of : FG P w K mg base cl 9 "rank_of" 2 q_rank_of) : FGT P w K mg base cl 13 "in_order" 2 q_in_order_v2 (Gz Pt lamP c' oc) :=
  ⟨⟨f, fd, ["width", "words"], D.mg, D.fn.kp, rfl, fn_mirrorT (N := ["width", "words", "nones", "others"]) (k := 12) D.fn hcv sc_in_order_v2 rfl (fun A outer s H E hr hH =>
    mss_cons (ms_expr (mc g_check_width hr T.inj (ma_cons (mv 0) (ma_nil)))) (mss_cons (msCR (i := 2) sc_in_order_v2.nd rfl (Or.inl rfl) (by decide +kernel) rfl (mi_seq (mv 1)) (fun _ _ _ _ => (mtx_isN (mcX g_rank_of hr T.inj (ma_cons (mv 0) (ma_cons (mv 4) (ma_nil)))))) (fun _ _ _ _ => mv 4)) (mss_cons (msC (i := 3) sc_in_order_v2.nd rfl (Or.inl rfl) (by decide +kernel) rfl (mi_seq (mv 1)) (fun _ _ _ _ => MC.one (t_notN (mcN g_rank_of hr (ma_cons (mv 0) (ma_cons (mv 4) (ma_nil)))))) (fun _ _ _ _ => mv 4)) (mss_one (ms_ret (me_bin r_add (me_sortK (lam_in T TB g_rank_of hr) hH.1 (triples_tab _ _) (among_tab _ _) hH.2 hd hq (mv 3)) (mv 2))))))), D.fn.binds (fun _ _ _ _ _ _=>Mi.ln2 fun _ _=>rfl)⟩⟩
noncomputable def io1 : FS := sExpr (fCall q_check_width (aCons (fVar 0) (aNil)))
noncomputable def io2 : FS := sSet 2 (fCompR 4 (iSeq (fVar 1)) (tVal (fUn cIsN (fCallX q_rank_of (aCons (fVar 0) (aCons (fVar 4) (aNil)))))) (fVar 4))
noncomputable def io3 : FS := sSet 3 (fComp 4 (iSeq (fVar 1)) (tVal (fUn cNotN (fCall (noX q_rank_of) (aCons (fVar 0) (aCons (fVar 4) (aNil)))))) (fVar 4))
def okIn : List PV → List PV → Prop := fun qs l => ∃ ρ1 ρ2 ρ3 l1 l2, io1 (Mi.start 4 qs) = .next ρ1 ∧ io2 ρ1 = .next ρ2 ∧ io3 ρ2 = .next ρ3 ∧ fSortK g25 0 (fVar 3) ρ3 = .ok (.lst l1) ∧ getV ρ3 2 = .ok (.lst l2) ∧ l = l1 ++ l2 ∧ l1.length + l2.length ≤ sizeLine
theorem gM_in {f c Pt : Addr} {fd : FuncData} (T : Tx K mg cl) (D : DefAt K mg "in_order" (top 25) f fd) (hcv : fd.code = .ref c) (TB : TabB mg base c Pt) (g_check_width : FG P w K mg base cl 4 "check_width" 1 q_check_width) (g_rank_of : FG P w K mg base cl 9 "rank_of" 2 q_rank_of) : FGM P w K mg base cl 13 "in_order" 2 Pt lamP lq okIn :=
  ⟨⟨f, fd, ["width", "words"], D.mg, D.fn.kp, rfl, fn_miss (N := ["width", "words", "nones", "others"]) (k := 12) (st := top 25) (lscope := lamS) (params := lamA) (lbody := lamB) (lpos := lamP) (g := g25) (iy := 0) (j := 2) (fa := fVar 3) (b1 := io1) (b2 := io2) (b3 := io3) (kr := 9) D.fn hcv sc_in_order_v2 rfl rfl
    (fun A outer s H E hr => ms_expr (mc g_check_width hr T.inj (ma_cons (mv 0) (ma_nil))))
    (fun A outer s H E hr => msCR (i := 2) sc_in_order_v2.nd rfl (Or.inl rfl) (by decide +kernel) rfl (mi_seq (mv 1)) (fun _ _ _ _ => (mtx_isN (mcX g_rank_of hr T.inj (ma_cons (mv 0) (ma_cons (mv 4) (ma_nil)))))) (fun _ _ _ _ => mv 4))
    (fun A outer s H E hr => msC (i := 3) sc_in_order_v2.nd rfl (Or.inl rfl) (by decide +kernel) rfl (mi_seq (mv 1)) (fun _ _ _ _ => MC.one (t_notN (mcN g_rank_of hr (ma_cons (mv 0) (ma_cons (mv 4) (ma_nil)))))) (fun _ _ _ _ => mv 4))
    (fun A outer s H E hr => lam_in T TB g_rank_of hr) (fun A outer s H E => mv 3) rfl (Or.inl rfl), D.fn.binds (fun _ _ _ _ _ _=>Mi.ln2 fun _ _=>rfl)⟩⟩
theorem sc_Lrefused_v26 : FnScope ["_law_width", "_law_words_here", "_law_found", "error"] ["_law_width", "_law_words_here"] (defScope (top 34)) := ⟨rfl, rfl, rfl, by decide +kernel, rfl, by decide +kernel, by decide +kernel⟩
theorem gT_ref {Pt c' : Addr} {oc : Obj} {f : Addr} {fd : FuncData} (T : Tx K mg cl) (D : DefAt K mg "_law_refused" (top 34) f fd) (gT_in : FGT P w K mg base cl 13 "in_order" 2 q_in_order_v2 (Gz Pt lamP c' oc)) : FGT P w K mg base cl 14 "_law_refused" 2 q_Lrefused_v26 (Gz Pt lamP c' oc) :=
  ⟨⟨f, fd, ["_law_width", "_law_words_here"], D.mg, D.fn.kp, rfl, fn_mirrorT (N := ["_law_width", "_law_words_here", "_law_found", "error"]) (k := 13) D.fn rfl sc_Lrefused_v26 rfl (fun A outer s H E hr hH =>
    mss_cons (ms_set (i := 2) sc_Lrefused_v26.nd rfl (Or.inl rfl) (me_non)) (mss_cons (ms_try (names := names) (d := 0) (n := 3) (x := 2) T.cls own_cx (at_mem 0 rfl) (mss_one (ms_expr (mcT gT_in hH hr T.inj (ma_cons (mv 0) (ma_cons (mv 1) (ma_nil)))))) sc_Lrefused_v26.nd rfl rfl rfl (Or.inl rfl) (by rfl) (by decide)) (mss_one (ms_ret (me_and (me_isexc (names := names) (d := 2) T.cls (at_mem 2 rfl) (mv 2) (by rfl) T.b_isinstance (by rfl)) (me_and (me_isval (names := names) T.cls (mv 2) (by rfl) T.b_isinstance (by rfl) T.b_ValueError) (me_one (me_not (me_isexc (names := names) (d := 4) T.cls (at_mem 3 rfl) (mv 2) (by rfl) T.b_isinstance (by rfl)))))))))), D.fn.binds (fun _ _ _ _ _ _=>Mi.ln2 fun _ _=>rfl)⟩⟩
theorem sc_law_v91 : FnScope ["_law_script", "_law_wide_here", "_law_width", "_law_words_here", "_law_handed", "_law_first", "_law_held", "_law_at", "_law_odd", "_law_about"] ["_law_script"] (defScope (top 35)) := ⟨rfl, rfl, rfl, by decide +kernel, rfl, by decide +kernel, by decide +kernel⟩
noncomputable def bl1 : FS := sSet 1 (fCall q_Lwide_2 (aCons (fCall q_Lcell_at (aCons (fVar 0) (aCons (fC (.int 0)) (aNil)))) (aNil)))
noncomputable def bl2 : FS := sSet 2 (fCall q_width_of (aCons (fBin oItem (fVar 1) (fC (.int 0))) (aCons (fBin oItem (fVar 1) (fC (.int 1))) (aNil))))
noncomputable def bl3 : FS := sSet 3 (fCall q_Lwords_v3 (aCons (fVar 1) (aCons (fCut (fVar 0) (oSome (fC (.int 1))) (oSome (fC (.int 291)))) (aNil))))
def bl4 : FS := sSet 4 (fCall bList (aCons (fVar 3) (aNil)))
noncomputable def blR : FS := sSeq (sIf (tLend 5 (tOr (tNot (tVal (fCall q_Lright_v16 (aCons (fVar 1) (aCons (fVar 5) (aCons (fVar 3) (aNil))))))) (tVal (fBin cNe (fVar 4) (fVar 3))))) (sRet (fC (.bl false))) (sNext)) (sSeq (sAppend 5 (aCons (fC (.int 0)) (aNil))) (sFreeze 5 (sSeq (sSet 6 (fCall bList (aCons (fVar 5) (aNil)))) (sSeq (sSet 7 (fBin oMod (fBin oDiv (fCall q_Lcell_at (aCons (fVar 0) (aCons (fC (.int 1)) (aNil)))) (fC (.int 7))) (fBin oAdd (fCall bLen (aCons (fVar 3) (aNil))) (fC (.int 1))))) (sSeq (sSet 8 (fBin oItem (fLst (aCons (fBin oShl (fC (.int 1)) (fBin oAdd (fBin oAdd (fC (.int 1)) (fBin oItem (fVar 1) (fC (.int 0)))) (fBin oItem (fVar 1) (fC (.int 1))))) (aCons (fUn oNeg (fC (.int 1))) (aCons (fC .non) (aCons (fC (.bl true)) (aCons (fC (.str "0")) (aNil))))))) (fBin oMod (fCall q_Lcell_at (aCons (fVar 0) (aCons (fC (.int 2)) (aNil)))) (fC (.int 5))))) (sSeq (sIf (tNot (tVal (fCall q_Lrefused_v26 (aCons (fVar 2) (aCons (fBin oAdd (fBin oAdd (fCut (fVar 3) (oNone) (oSome (fVar 7))) (fLst (aCons (fVar 8) (aNil)))) (fCut (fVar 3) (oSome (fVar 7)) (oNone))) (aNil)))))) (sRet (fC (.bl false))) (sNext)) (sSeq (sIf (tOr (tNot (tVal (fCall q_Lright_v16 (aCons (fVar 1) (aCons (fCall q_in_order_v2 (aCons (fVar 2) (aCons (fVar 4) (aNil)))) (aCons (fVar 3) (aNil))))))) (tVal (fBin cNe (fVar 4) (fVar 3)))) (sRet (fC (.bl false))) (sNext)) (sSeq (sSet 9 (fBin oAdd (fCut (fVar 3) (oSome (fVar 7)) (oNone)) (fCall bRev (aCons (fCut (fVar 3) (oNone) (oSome (fVar 7))) (aNil))))) (sSeq (sIf (tNot (tVal (fCall q_Lright_v16 (aCons (fVar 1) (aCons (fCall q_in_order_v2 (aCons (fVar 2) (aCons (fCall bList (aCons (fVar 9) (aNil))) (aNil)))) (aCons (fVar 9) (aNil))))))) (sRet (fC (.bl false))) (sNext)) (sRet (fBin cEq (fVar 5) (fVar 6))))))))))))
def okLaw : List PV → Prop := fun qs => ∃ ρ1 ρ2 ρ3 ρ4 qa l, bl1 (Mi.start 10 qs) = .next ρ1 ∧ bl2 ρ1 = .next ρ2 ∧ bl3 ρ2 = .next ρ3 ∧ bl4 ρ3 = .next ρ4 ∧ (aCons (fVar 2) (aCons (fVar 4) (aNil))) ρ4 = .ok qa ∧ okIn qa l ∧ (∀ (j : Nat) (z : List PV), ρ4[j]? ≠ some (some (.own z))) ∧ blR (ρ4.set 5 (some (.own l))) = .ret (.bl true)
theorem o_law {Pt : Addr} {f : Addr} {fd : FuncData} (T : Tx K mg cl) (D : DefAt K mg "law" (top 35) f fd) (g_Lwide_2 : FG P w K mg base cl 1 "_law_wide" 1 q_Lwide_2) (g_width_of : FG P w K mg base cl 3 "width_of" 2 q_width_of) (g_Lwords_v3 : FG P w K mg base cl 2 "_law_words" 2 q_Lwords_v3) (g_Lcell_at : FG P w K mg base cl 1 "_law_cell_at" 2 q_Lcell_at) (g_Lright_v16 : FG P w K mg base cl 2 "_law_right" 3 q_Lright_v16) (gM_in : FGM P w K mg base cl 13 "in_order" 2 Pt lamP lq okIn) (gT_in : ∀ {c' : Addr} {oc : Obj} {vs' : Array Value} {t : Tok}, oc.data = .fields vs' → vs'[1]? = some (.str lq t) → FGT P w K mg base cl 13 "in_order" 2 q_in_order_v2 (Gz Pt lamP c' oc)) (gT_ref : ∀ {c' : Addr} {oc : Obj} {vs' : Array Value} {t : Tok}, oc.data = .fields vs' → vs'[1]? = some (.str lq t) → FGT P w K mg base cl 14 "_law_refused" 2 q_Lrefused_v26 (Gz Pt lamP c' oc)) : FnOk P w K mg base (CXm cl P w) 15 f fd ["_law_script"] (spL K cl 1 Pt okLaw) :=
  fn_law (N := ["_law_script", "_law_wide_here", "_law_width", "_law_words_here", "_law_handed", "_law_first", "_law_held", "_law_at", "_law_odd", "_law_about"]) (k := 14) (i := 5) (b1 := bl1) (b2 := bl2) (b3 := bl3) (b4 := bl4) (bB := blR) (lpos := lamP) (lq := lq) (ok := okIn) (g := aCons (fVar 2) (aCons (fVar 4) (aNil))) D.fn sc_law_v91 rfl rfl
    (fun cdv A outer s H E hr => ms_set (i := 1) sc_law_v91.nd rfl (Or.inl rfl) (mc g_Lwide_2 hr T.inj (ma_cons (mc g_Lcell_at hr T.inj (ma_cons (mv 0) (ma_cons (me_int) (ma_nil)))) (ma_nil))))
    (fun cdv A outer s H E hr => ms_set (i := 2) sc_law_v91.nd rfl (Or.inl rfl) (mc g_width_of hr T.inj (ma_cons (me_item (mv 1) (me_int)) (ma_cons (me_item (mv 1) (me_int)) (ma_nil)))))
    (fun cdv A outer s H E hr => ms_set (i := 3) sc_law_v91.nd rfl (Or.inl rfl) (mc g_Lwords_v3 hr T.inj (ma_cons (mv 1) (ma_cons (me_cut (mv 0) (mo_some (me_int)) (mo_some (me_int))) (ma_nil)))))
    (fun cdv A outer s H E hr => ms_set (i := 4) sc_law_v91.nd rfl (Or.inl rfl) (me_callTy c_list (by rfl) T.b_list boot_list (ma_cons (mv 3) (ma_nil))))
    (fun cdv A outer s H E => ma_cons (mv 2) (ma_cons (mv 4) (ma_nil))) gM_in (by decide) rfl
    (fun cdv A outer s H E c' oc vs' t hr hH1 hH2 hd hq =>
      have gT_in := gT_in (c' := c') (oc := oc) hd hq
      have gT_ref := gT_ref (c' := c') (oc := oc) hd hq
      have hH : Gz Pt lamP c' oc H := ⟨hH1, hH2⟩
      mss_cons (ms_if (mt_lend (i := 5) ((mw_or (mt_not (mt_val (mc g_Lright_v16 hr T.inj (ma_cons (mv 1) (ma_cons (mv 5) (ma_cons (mv 3) (ma_nil))))))) (mw_or1 (mt_cmp (r_ne (hu64 hr)) (mv 4) (mv 3) (nomark _)))).mt)) (mss_one (ms_ret (me_bl))) (mss_nil)) (mss_cons (ms_append (i := 5) rfl (by first | exact Or.inl rfl | exact Or.inr (Or.inl rfl) | exact Or.inr (Or.inr rfl)) (ma_cons (me_int) (ma_nil))) (mss_freeze 5 (mss_cons (ms_set (i := 6) sc_law_v91.nd rfl (Or.inl rfl) (me_callTy c_list (by rfl) T.b_list boot_list (ma_cons (mv 5) (ma_nil)))) (mss_cons (ms_set (i := 7) sc_law_v91.nd rfl (Or.inl rfl) (me_bin r_mod (me_bin r_div (mc g_Lcell_at hr T.inj (ma_cons (mv 0) (ma_cons (me_int) (ma_nil)))) (me_int)) (me_bin r_add (me_callB c_len (by rfl) T.b_len PySem.boot_len (ma_cons (mv 3) (ma_nil))) (me_int)))) (mss_cons (ms_set (i := 8) sc_law_v91.nd rfl (Or.inl rfl) (me_item (me_lst (ma_cons (me_bin r_shl (me_int) (me_bin r_add (me_bin r_add (me_int) (me_item (mv 1) (me_int))) (me_item (mv 1) (me_int)))) (ma_cons (me_una r_neg (me_int)) (ma_cons (me_non) (ma_cons (me_bl) (ma_cons (me_str) (ma_nil))))))) (me_bin r_mod (mc g_Lcell_at hr T.inj (ma_cons (mv 0) (ma_cons (me_int) (ma_nil)))) (me_int)))) (mss_cons (ms_if (mt_not (mt_val (mcT gT_ref hH hr T.inj (ma_cons (mv 2) (ma_cons (me_bin r_add (me_bin r_add (me_cut (mv 3) (mo_none) (mo_some (mv 7))) (me_lst (ma_cons (mv 8) (ma_nil)))) (me_cut (mv 3) (mo_some (mv 7)) (mo_none))) (ma_nil)))))) (mss_one (ms_ret (me_bl))) (mss_nil)) (mss_cons (ms_if ((mw_or (mt_not (mt_val (mc g_Lright_v16 hr T.inj (ma_cons (mv 1) (ma_cons (mcT gT_in hH hr T.inj (ma_cons (mv 2) (ma_cons (mv 4) (ma_nil)))) (ma_cons (mv 3) (ma_nil))))))) (mw_or1 (mt_cmp (r_ne (hu64 hr)) (mv 4) (mv 3) (nomark _)))).mt) (mss_one (ms_ret (me_bl))) (mss_nil)) (mss_cons (ms_set (i := 9) sc_law_v91.nd rfl (Or.inl rfl) (me_bin r_add (me_cut (mv 3) (mo_some (mv 7)) (mo_none)) (me_revl rfl (by rfl) T.b_list boot_list (by rfl) T.b_reversed boot_reversed (ma_cons (me_cut (mv 3) (mo_none) (mo_some (mv 7))) (ma_nil))))) (mss_cons (ms_if (mt_not (mt_val (mc g_Lright_v16 hr T.inj (ma_cons (mv 1) (ma_cons (mcT gT_in hH hr T.inj (ma_cons (mv 2) (ma_cons (me_callTy c_list (by rfl) T.b_list boot_list (ma_cons (mv 9) (ma_nil))) (ma_nil)))) (ma_cons (mv 9) (ma_nil))))))) (mss_one (ms_ret (me_bl))) (mss_nil)) (mss_one (ms_ret (me_cmp (r_eq (hu64 hr)) (mv 5) (mv 6) (nomark _))))))))))))))
    rfl (Or.inl rfl) (fun _ _ _ _ _ _ => rfl) (by decide) (fun _ _ _ _ _ _ => rfl) (fun _ _ _ _ _ _ => rfl) (fun _ _ _ _ _ _ => rfl)
end
theorem all {P : Program} {w : World} {K : PySem.W.Frag} {mg : Str → Option Value} {cl : Nat → Addr} {fa : Addr} (hfa : mg "law" = some (.ref fa)) (T : Tx K mg cl)
    {f10 : Addr} {fd10 : FuncData} (D10 : DefAt K mg "is_whole" (top 10) f10 fd10)
    {f16 : Addr} {fd16 : FuncData} (D16 : DefAt K mg "all_ones" (top 16) f16 fd16)
    {f20 : Addr} {fd20 : FuncData} (D20 : DefAt K mg "highest_of_fraction" (top 20) f20 fd20)
    {f21 : Addr} {fd21 : FuncData} (D21 : DefAt K mg "sign_bit" (top 21) f21 fd21)
    {f27 : Addr} {fd27 : FuncData} (D27 : DefAt K mg "_law_cell_at" (top 27) f27 fd27)
    {f28 : Addr} {fd28 : FuncData} (D28 : DefAt K mg "_law_whole" (top 28) f28 fd28)
    {f29 : Addr} {fd29 : FuncData} (D29 : DefAt K mg "_law_wide" (top 29) f29 fd29)
    {f30 : Addr} {fd30 : FuncData} (D30 : DefAt K mg "_law_word" (top 30) f30 fd30)
    {f32 : Addr} {fd32 : FuncData} (D32 : DefAt K mg "_law_key" (top 32) f32 fd32)
    {f11 : Addr} {fd11 : FuncData} (D11 : DefAt K mg "is_within" (top 11) f11 fd11)
    {f31 : Addr} {fd31 : FuncData} (D31 : DefAt K mg "_law_words" (top 31) f31 fd31)
    {f33 : Addr} {fd33 : FuncData} (D33 : DefAt K mg "_law_right" (top 33) f33 fd33)
    {f12 : Addr} {fd12 : FuncData} (D12 : DefAt K mg "width_of" (top 12) f12 fd12)
    {f13 : Addr} {fd13 : FuncData} (D13 : DefAt K mg "check_width" (top 13) f13 fd13)
    {f14 : Addr} {fd14 : FuncData} (D14 : DefAt K mg "many_words" (top 14) f14 fd14)
    {f17 : Addr} {fd17 : FuncData} (D17 : DefAt K mg "check_word" (top 17) f17 fd17)
    {f18 : Addr} {fd18 : FuncData} (D18 : DefAt K mg "cut" (top 18) f18 fd18)
    {f22 : Addr} {fd22 : FuncData} (D22 : DefAt K mg "unsigned" (top 22) f22 fd22)
    {f19 : Addr} {fd19 : FuncData} (D19 : DefAt K mg "kind_of" (top 19) f19 fd19)
    {f24 : Addr} {fd24 : FuncData} (D24 : DefAt K mg "rank_of" (top 24) f24 fd24)
    {f25 : Addr} {fd25 : FuncData} (D25 : DefAt K mg "in_order" (top 25) f25 fd25) {c Pt : Addr} (hcv : fd25.code = .ref c) (htab : PySem.W.tabIn K "in_order" = some (c, Pt))
    {f34 : Addr} {fd34 : FuncData} (D34 : DefAt K mg "_law_refused" (top 34) f34 fd34)
    {f35 : Addr} {fd35 : FuncData} (D35 : DefAt K mg "law" (top 35) f35 fd35) :
    ∃ (fd : FuncData) (c Pt : Addr), PySem.W.tabIn K "in_order" = some (c, Pt) ∧ (∀ (s : Shared) (u : Value), BindsTo s fd ⟨[u], []⟩ [("_law_script", u)]) ∧ ∀ base : Heap, K.In base → base.Ns mainGlobals mg → TabB mg base c Pt → FnOk P w K mg base (CXm cl P w) 15 fa fd ["_law_script"] (spL K cl 1 Pt okLaw) := by
  have e := hfa.symm.trans D35.mg
  cases e
  refine ⟨fd35, c, Pt, htab, ?_, fun base KXb _ TB => ?_⟩
  · obtain ⟨oc, od, kV, doc, pm, an, cdv, ct, osl, rfl, lk, hcd⟩ := D35.fn.ex
    exact fun s v => .of_eq rfl
  ·
    have g_is_whole : FG P w K mg base cl 1 "is_whole" 1 q_is_whole := g_is_whole T D10
    have g_all_ones : FG P w K mg base cl 1 "all_ones" 1 q_all_ones := g_all_ones T D16
    have g_highest_of_fraction : FG P w K mg base cl 1 "highest_of_fraction" 1 q_highest_of_fraction := g_highest_of_fraction T D20
    have g_sign_bit : FG P w K mg base cl 1 "sign_bit" 1 q_sign_bit := g_sign_bit T D21
    have g_Lcell_at : FG P w K mg base cl 1 "_law_cell_at" 2 q_Lcell_at := g_Lcell_at T D27
    have g_Lwhole : FG P w K mg base cl 1 "_law_whole" 1 q_Lwhole := g_Lwhole T D28
    have g_Lwide_2 : FG P w K mg base cl 1 "_law_wide" 1 q_Lwide_2 := g_Lwide_2 T D29
    have g_Lword_v2 : FG P w K mg base cl 1 "_law_word" 2 q_Lword_v2 := g_Lword_v2 T D30
    have g_Lkey : FG P w K mg base cl 1 "_law_key" 2 q_Lkey := g_Lkey T D32
    have g_is_within : FG P w K mg base cl 2 "is_within" 3 q_is_within := g_is_within T D11 g_is_whole
    have g_Lwords_v3 : FG P w K mg base cl 2 "_law_words" 2 q_Lwords_v3 := g_Lwords_v3 T D31 g_Lword_v2
    have g_Lright_v16 : FG P w K mg base cl 2 "_law_right" 3 q_Lright_v16 := g_Lright_v16 T D33 g_Lkey g_Lwhole
    have g_width_of : FG P w K mg base cl 3 "width_of" 2 q_width_of := g_width_of T D12 g_is_within
    have g_check_width : FG P w K mg base cl 4 "check_width" 1 q_check_width := g_check_width T D13 g_width_of
    have g_many_words : FG P w K mg base cl 5 "many_words" 1 q_many_words := g_many_words T D14 g_check_width
    have g_check_word : FG P w K mg base cl 6 "check_word" 2 q_check_word := g_check_word T D17 g_is_within g_many_words
    have g_cut : FG P w K mg base cl 7 "cut" 2 q_cut := g_cut T D18 g_check_word g_all_ones
    have g_unsigned : FG P w K mg base cl 7 "unsigned" 2 q_unsigned := g_unsigned T D22 g_check_word g_sign_bit
    have g_kind_of : FG P w K mg base cl 8 "kind_of" 2 q_kind_of := g_kind_of T D19 g_cut g_all_ones g_highest_of_fraction
    have g_rank_of : FG P w K mg base cl 9 "rank_of" 2 q_rank_of := g_rank_of T D24 g_unsigned g_kind_of g_cut
    exact o_law T D35 g_Lwide_2 g_width_of g_Lwords_v3 g_Lcell_at g_Lright_v16 (gM_in T D25 hcv TB g_check_width g_rank_of) (fun hd hq => gT_in T D25 hcv TB hd hq g_check_width g_rank_of) (fun hd hq => gT_ref T D34 (gT_in T D25 hcv TB hd hq g_check_width g_rank_of))
theorem fin {P : Program} {w : World} {K : PySem.W.Frag} {mg : Str → Option Value} {fa : Addr} {h : Heap} (X : K.In h) (G : h.Ns mainGlobals mg) (hfa : mg "law" = some (.ref fa)) (hcls : clsOk2 K anames names = true) (hways : waysOk K wnames = true) (z_ValueError : PySem.W.nsIn K mainGlobals "ValueError" = some none) (z_bool : PySem.W.nsIn K mainGlobals "bool" = some none) (z_int : PySem.W.nsIn K mainGlobals "int" = some none) (z_isinstance : PySem.W.nsIn K mainGlobals "isinstance" = some none) (z_len : PySem.W.nsIn K mainGlobals "len" = some none) (z_list : PySem.W.nsIn K mainGlobals "list" = some none) (z_reversed : PySem.W.nsIn K mainGlobals "reversed" = some none) (z_sorted : PySem.W.nsIn K mainGlobals "sorted" = some none) (z_tuple : PySem.W.nsIn K mainGlobals "tuple" = some none) {t_LEAST_E : Tok} (y_LEAST_E : PySem.W.nsIn K mainGlobals "LEAST_E" = some (some (.int 2 t_LEAST_E))) {t_MOST_E : Tok} (y_MOST_E : PySem.W.nsIn K mainGlobals "MOST_E" = some (some (.int 11 t_MOST_E))) {t_LEAST_F : Tok} (y_LEAST_F : PySem.W.nsIn K mainGlobals "LEAST_F" = some (some (.int 1 t_LEAST_F))) {t_MOST_F : Tok} (y_MOST_F : PySem.W.nsIn K mainGlobals "MOST_F" = some (some (.int 60 t_MOST_F)))
    (E10 : ∃ f fd, DefAt K mg "is_whole" (top 10) f fd)
    (E16 : ∃ f fd, DefAt K mg "all_ones" (top 16) f fd)
    (E20 : ∃ f fd, DefAt K mg "highest_of_fraction" (top 20) f fd)
    (E21 : ∃ f fd, DefAt K mg "sign_bit" (top 21) f fd)
    (E27 : ∃ f fd, DefAt K mg "_law_cell_at" (top 27) f fd)
    (E28 : ∃ f fd, DefAt K mg "_law_whole" (top 28) f fd)
    (E29 : ∃ f fd, DefAt K mg "_law_wide" (top 29) f fd)
    (E30 : ∃ f fd, DefAt K mg "_law_word" (top 30) f fd)
    (E32 : ∃ f fd, DefAt K mg "_law_key" (top 32) f fd)
    (E11 : ∃ f fd, DefAt K mg "is_within" (top 11) f fd)
    (E31 : ∃ f fd, DefAt K mg "_law_words" (top 31) f fd)
    (E33 : ∃ f fd, DefAt K mg "_law_right" (top 33) f fd)
    (E12 : ∃ f fd, DefAt K mg "width_of" (top 12) f fd)
    (E13 : ∃ f fd, DefAt K mg "check_width" (top 13) f fd)
    (E14 : ∃ f fd, DefAt K mg "many_words" (top 14) f fd)
    (E17 : ∃ f fd, DefAt K mg "check_word" (top 17) f fd)
    (E18 : ∃ f fd, DefAt K mg "cut" (top 18) f fd)
    (E22 : ∃ f fd, DefAt K mg "unsigned" (top 22) f fd)
    (E19 : ∃ f fd, DefAt K mg "kind_of" (top 19) f fd)
    (E24 : ∃ f fd, DefAt K mg "rank_of" (top 24) f fd)
    (E25 : ∃ f fd c Pt, DefAt K mg "in_order" (top 25) f fd ∧ fd.code = .ref c ∧ PySem.W.tabIn K "in_order" = some (c, Pt))
    (E34 : ∃ f fd, DefAt K mg "_law_refused" (top 34) f fd)
    (E35 : ∃ f fd, DefAt K mg "law" (top 35) f fd) :
    ∃ (fd : FuncData) (c Pt : Addr), PySem.W.tabIn K "in_order" = some (c, Pt) ∧ (∀ (s : Shared) (u : Value), BindsTo s fd ⟨[u], []⟩ [("_law_script", u)]) ∧ ∀ base : Heap, K.In base → base.Ns mainGlobals mg → TabB mg base c Pt → FnOk P w K mg base (CXm (clOf K anames) P w) 15 fa fd ["_law_script"] (spL K (clOf K anames) 1 Pt okLaw) := by
  obtain ⟨f10, fd10, D10⟩ := E10
  obtain ⟨f16, fd16, D16⟩ := E16
  obtain ⟨f20, fd20, D20⟩ := E20
  obtain ⟨f21, fd21, D21⟩ := E21
  obtain ⟨f27, fd27, D27⟩ := E27
  obtain ⟨f28, fd28, D28⟩ := E28
  obtain ⟨f29, fd29, D29⟩ := E29
  obtain ⟨f30, fd30, D30⟩ := E30
  obtain ⟨f32, fd32, D32⟩ := E32
  obtain ⟨f11, fd11, D11⟩ := E11
  obtain ⟨f31, fd31, D31⟩ := E31
  obtain ⟨f33, fd33, D33⟩ := E33
  obtain ⟨f12, fd12, D12⟩ := E12
  obtain ⟨f13, fd13, D13⟩ := E13
  obtain ⟨f14, fd14, D14⟩ := E14
  obtain ⟨f17, fd17, D17⟩ := E17
  obtain ⟨f18, fd18, D18⟩ := E18
  obtain ⟨f22, fd22, D22⟩ := E22
  obtain ⟨f19, fd19, D19⟩ := E19
  obtain ⟨f24, fd24, D24⟩ := E24
  obtain ⟨f25, fd25, c25, P25, D25, hcv, htab⟩ := E25
  obtain ⟨f34, fd34, D34⟩ := E34
  obtain ⟨f35, fd35, D35⟩ := E35
  exact all hfa ⟨cls_inj2 hcls, cls_of2 X G (by decide) (fun p h => List.mem_append_left _ h) hcls, ways_of X G (by decide) (fun p h => List.mem_append_right _ h) hways, PySem.W.mg_none_of X G z_ValueError, PySem.W.mg_none_of X G z_bool, PySem.W.mg_none_of X G z_int, PySem.W.mg_none_of X G z_isinstance, PySem.W.mg_none_of X G z_len, PySem.W.mg_none_of X G z_list, PySem.W.mg_none_of X G z_reversed, PySem.W.mg_none_of X G z_sorted, PySem.W.mg_none_of X G z_tuple, ⟨_, PySem.W.mg_of X G y_LEAST_E⟩, ⟨_, PySem.W.mg_of X G y_MOST_E⟩, ⟨_, PySem.W.mg_of X G y_LEAST_F⟩, ⟨_, PySem.W.mg_of X G y_MOST_F⟩⟩ D10 D16 D20 D21 D27 D28 D29 D30 D32 D11 D31 D33 D12 D13 D14 D17 D18 D22 D19 D24 D25 hcv htab D34 D35
end K25
set_option Elab.async false
set_option linter.all false
set_option autoImplicit false
set_option maxRecDepth 100000
set_option maxHeartbeats 4000000
namespace K25
open PySem Mi Cm
section
variable {e f : Int} {ws : List Int}
theorem ok_in (h : Wd e f) (hw : ∀ w ∈ ws, Wo e f w) (hl : ws.length < 64) : okIn [.tup [.int e, .int f], .lst (ws.map PV.int)] ((reW e f ws).map PV.int) := by
  have t := two_len (e := e) (f := f) (ws := ws)
  have sl := so_len (e := e) (f := f) (ws := ws)
  refine ⟨_, _, _, _, _, s1 h (.lst (ws.map PV.int)), s2 h hw hl, s3 h hw hl _, sort_w h hw hl _ _, rfl, ?_, ?_⟩
  · rw [← List.map_append]; rfl
  · rw [List.length_map, List.length_map]
    exact Nat.le_of_lt (line_4 _ (by omega))
theorem pick5 {M c : Int} : ∃ v, oItem (.lst [.int M, .int (-1), .non, .bl true, .str "0"]) (.int (c % 5)) = .ok v ∧ NoIn 0 (M - 1) v := by
  have h0 : 0 ≤ c % 5 := by omega
  have h1 : c % 5 < 5 := by omega
  generalize c % 5 = i at *
  have : i = 0 ∨ i = 1 ∨ i = 2 ∨ i = 3 ∨ i = 4 := by omega
  rcases this with rfl | rfl | rfl | rfl | rfl
  · exact ⟨_, oItem_at h0 rfl, isnt (by omega)⟩
  · exact ⟨_, oItem_at h0 rfl, isnt (by omega)⟩
  · exact ⟨_, oItem_at h0 rfl, noin_non _ _⟩
  · exact ⟨_, oItem_at h0 rfl, noin_bl _ _ _⟩
  · exact ⟨_, oItem_at h0 rfl, rfl, by simp only [q_is_within, b_is_within, q_is_whole, b_is_whole, ev, evl, okw, powI, Int.reduceLT, Int.reduceLE, Int.reduceNeg, Int.reduceAdd, Int.reduceSub, Int.reduceMul, Int.reducePow, Int.reduceToNat, Nat.reduceAdd, Nat.reduceSub, ne_eq, not_false_eq_true, not_true_eq_false, Int.reduceEq, reduceCtorEq]⟩
theorem addp (a b : List PV) (h : a.length + b.length < 1000) : oAdd (.lst a) (.lst b) = .ok (.lst (a ++ b)) := if_pos (Nat.le_of_lt (line_4 _ h))
theorem rest {ns : List Int} (h : Wd e f) (hw : ∀ w ∈ ws, Wo e f w) (hl : ws.length < 63) :
    blR [some (.lst (ns.map PV.int)), some (.tup [.int e, .int f]), some (.tup [.int e, .int f]), some (.lst (ws.map PV.int)), some (.lst (ws.map PV.int)), some (.own ((reW e f ws).map PV.int)), none, none, none, none] = .ret (.bl true) := by
  obtain ⟨g1, g2, g3, g4⟩ := id h
  have o1 := okShl_1 (b := 1 + e + f) (by omega) (by omega)
  have z1 := q_cell ns 1 (by decide)
  have z2 := q_cell ns 2 (by decide)
  generalize ns.getD (1 : Int).toNat 0 = A1 at *
  generalize ns.getD (2 : Int).toNat 0 = A2 at *
  have rt := q_right h hw (by omega)
  have nw := ne_is ws ws
  rw [decide_eq_true rfl] at nw
  have nw : cNe (.lst (ws.map PV.int)) (.lst (ws.map PV.int)) = .ok (.bl false) := nw
  have rl := re_len (e := e) (f := f) (ws := ws)
  have ln : ((reW e f ws).map PV.int).length < sizeLine := by rw [List.length_map]; exact line_4 _ (by omega)
  have lw : (ws.map PV.int).length = ws.length := List.length_map _
  have om : okMod ((ws.length : Int) + 1) := by show 0 < (ws.length : Int) + 1; omega
  obtain ⟨k, ek, kl⟩ : ∃ k : Nat, A1 / 7 % ((ws.length : Int) + 1) = (k : Int) ∧ k ≤ ws.length := by
    have a0 := Int.emod_nonneg (A1 / 7) (show (ws.length : Int) + 1 ≠ 0 by omega)
    have a1 := Int.emod_lt_of_pos (A1 / 7) (show 0 < (ws.length : Int) + 1 by omega)
    exact ⟨(A1 / 7 % ((ws.length : Int) + 1)).toNat, by omega, by omega⟩
  obtain ⟨v, ev', nv⟩ := pick5 (M := p2 (1 + e + f)) (c := A2)
  have ct := cut_tk (ws.map PV.int) k (by omega)
  have cd := cut_dr (ws.map PV.int) k (by omega)
  rw [← List.map_take] at ct
  rw [← List.map_drop] at cd
  have lt : (ws.take k).length = k := by rw [List.length_take]; omega
  have ld : (ws.drop k).length = ws.length - k := List.length_drop
  have s1 := addp ((ws.take k).map PV.int) [v] (by rw [List.length_map]; simp; omega)
  have s2 := addp ((ws.take k).map PV.int ++ [v]) ((ws.drop k).map PV.int) (by rw [List.length_append, List.length_map, List.length_map]; simp; omega)
  rw [List.append_assoc] at s2
  have rf := q_ref (ws := ws.take k) (v := v) (b := (ws.drop k).map PV.int) h (fun w m => hw w (List.mem_of_mem_take m)) nv (by rw [List.length_append, List.length_cons, List.length_map, List.length_map]; omega)
  have rf : q_Lrefused_v26 [.tup [.int e, .int f], .lst ((ws.take k).map PV.int ++ ([v] ++ (ws.drop k).map PV.int))] = .ok (.bl true) := rf
  have q1 := q_in h hw (by omega)
  have ha : ∀ w ∈ ws.drop k ++ (ws.take k).reverse, Wo e f w := fun w m => by
    rcases List.mem_append.mp m with m | m
    · exact hw w (List.mem_of_mem_drop m)
    · exact hw w (List.mem_of_mem_take (List.mem_reverse.mp m))
  have la : (ws.drop k ++ (ws.take k).reverse).length < 64 := by rw [List.length_append, List.length_reverse]; omega
  have q2 := q_in h ha la
  have q3 := q_right h ha la
  have rv : bRev [.lst ((ws.take k).map PV.int)] = .ok (.lst ((ws.take k).reverse.map PV.int)) := by rw [List.map_reverse]; rfl
  have s3 := addw (ws.drop k) (ws.take k).reverse (by rw [List.length_reverse]; omega)
  have fe := eq_is' (reW e f ws ++ [0]) (reW e f ws ++ [0])
  rw [decide_eq_true rfl, List.map_append] at fe
  have fe : cEq (.lst ((reW e f ws).map PV.int ++ [.int 0])) (.lst ((reW e f ws).map PV.int ++ [.int 0])) = .ok (.bl true) := fe
  have nv1 := nv.1
  generalize ns.map PV.int = NS at *
  generalize (reW e f (ws.drop k ++ (ws.take k).reverse)).map PV.int = R2 at *
  generalize (ws.drop k ++ (ws.take k).reverse).map PV.int = AB at *
  generalize (ws.take k).reverse.map PV.int = TR at *
  generalize (ws.take k).map PV.int = TK at *
  generalize (ws.drop k).map PV.int = DR at *
  generalize (reW e f ws).map PV.int = RE at *
  generalize ws.map PV.int = WS at *
  generalize hI : A2 % 5 = I5 at *
  simp only [blR, ev, evl, okw, powI, Int.reduceLT, Int.reduceLE, Int.reduceNeg, Int.reduceAdd, Int.reduceSub, Int.reduceMul, Int.reducePow, Int.reduceToNat, Nat.reduceAdd, Nat.reduceSub, ne_eq, not_false_eq_true, not_true_eq_false, Int.reduceEq, reduceCtorEq, List.set, tLend_e, List.getElem?_cons_zero, List.getElem?_cons_succ, rt, nw]
  simp only [ev, evl, okw, powI, Int.reduceLT, Int.reduceLE, Int.reduceNeg, Int.reduceAdd, Int.reduceSub, Int.reduceMul, Int.reducePow, Int.reduceToNat, Nat.reduceAdd, Nat.reduceSub, ne_eq, not_false_eq_true, not_true_eq_false, Int.reduceEq, reduceCtorEq, List.set, sApp, List.getElem?_cons_zero, List.getElem?_cons_succ, ln, if_true, sFreeze_e]
  simp only [ev, evl, okw, powI, Int.reduceLT, Int.reduceLE, Int.reduceNeg, Int.reduceAdd, Int.reduceSub, Int.reduceMul, Int.reducePow, Int.reduceToNat, Nat.reduceAdd, Nat.reduceSub, ne_eq, not_false_eq_true, not_true_eq_false, Int.reduceEq, reduceCtorEq, List.set, z1, lw, om, ek, z2, hI, Int.one_mul, o1, ev', nv1, ct, cd, s1, s2, rf, List.append_assoc, q1, rt, nw, rv, s3, q2, q3, fe]
end
theorem holds (ns : List Int) (hl : ns.length ≤ 63) (hb : ∀ x ∈ ns, nb x ≤ 1048576) : okLaw [.lst (ns.map PV.int)] := by
  have z0 := q_cell ns 0 (by decide)
  generalize ns.getD (0 : Int).toNat 0 = A0 at *
  obtain ⟨e, f, ew, h⟩ := q_Lwd2 A0
  have wo := q_wof h
  obtain ⟨cs, ec, lc, bc⟩ : ∃ cs : List Int, cutP (ns.map PV.int) (some 1) (some 291) = cs.map PV.int ∧ cs.length ≤ 62 ∧ ∀ x ∈ cs, nb x ≤ 1048576 := by
    unfold cutP
    generalize hm : slP (ns.map PV.int).length (ns.map PV.int).length (some 291) = m
    have e1 : slP (ns.map PV.int).length 0 (some 1) = min 1 ns.length := by
      show min ((1 : Int).toNat) (ns.map PV.int).length = _
      rw [List.length_map]; rfl
    rw [e1, ← List.map_drop, ← List.map_take]
    refine ⟨_, rfl, ?_, fun x hx => hb x (List.mem_of_mem_drop (List.mem_of_mem_take hx))⟩
    rw [List.length_take, List.length_drop]
    omega
  obtain ⟨ws, es, ls, hw⟩ := q_words h (by omega) bc
  have r := rest (ns := ns) h hw (by omega)
  have oi := ok_in h hw (by omega)
  refine ⟨[some (.lst (ns.map PV.int)), some (.tup [.int e, .int f]), none, none, none, none, none, none, none, none], [some (.lst (ns.map PV.int)), some (.tup [.int e, .int f]), some (.tup [.int e, .int f]), none, none, none, none, none, none, none],
    [some (.lst (ns.map PV.int)), some (.tup [.int e, .int f]), some (.tup [.int e, .int f]), some (.lst (ws.map PV.int)), none, none, none, none, none, none],
    [some (.lst (ns.map PV.int)), some (.tup [.int e, .int f]), some (.tup [.int e, .int f]), some (.lst (ws.map PV.int)), some (.lst (ws.map PV.int)), none, none, none, none, none], [.tup [.int e, .int f], .lst (ws.map PV.int)], (reW e f ws).map PV.int, ?_, ?_, ?_, ?_, rfl, oi, ?_, r⟩
  · show bl1 [some (.lst (ns.map PV.int)), none, none, none, none, none, none, none, none, none] = _
    generalize ns.map PV.int = NS at *
    simp only [bl1, ev, evl, okw, powI, Int.reduceLT, Int.reduceLE, Int.reduceNeg, Int.reduceAdd, Int.reduceSub, Int.reduceMul, Int.reducePow, Int.reduceToNat, Nat.reduceAdd, Nat.reduceSub, ne_eq, not_false_eq_true, not_true_eq_false, Int.reduceEq, reduceCtorEq, List.set, z0, ew]
  · generalize ns.map PV.int = NS at *
    simp only [bl2, ev, evl, okw, powI, Int.reduceLT, Int.reduceLE, Int.reduceNeg, Int.reduceAdd, Int.reduceSub, Int.reduceMul, Int.reducePow, Int.reduceToNat, Nat.reduceAdd, Nat.reduceSub, ne_eq, not_false_eq_true, not_true_eq_false, Int.reduceEq, reduceCtorEq, List.set, wo]
  · generalize ws.map PV.int = WS at *
    generalize ns.map PV.int = NS at *
    generalize cs.map PV.int = CS at *
    simp only [bl3, ev, evl, okw, powI, Int.reduceLT, Int.reduceLE, Int.reduceNeg, Int.reduceAdd, Int.reduceSub, Int.reduceMul, Int.reducePow, Int.reduceToNat, Nat.reduceAdd, Nat.reduceSub, ne_eq, not_false_eq_true, not_true_eq_false, Int.reduceEq, reduceCtorEq, List.set, ec, es]
  · generalize ns.map PV.int = NS at *
    generalize ws.map PV.int = WS at *
    simp only [bl4, ev, evl, okw, powI, Int.reduceLT, Int.reduceLE, Int.reduceNeg, Int.reduceAdd, Int.reduceSub, Int.reduceMul, Int.reducePow, Int.reduceToNat, Nat.reduceAdd, Nat.reduceSub, ne_eq, not_false_eq_true, not_true_eq_false, Int.reduceEq, reduceCtorEq, List.set]
  · intro j z q
    match j, q with
    | 0, q => cases q
    | 1, q => cases q
    | 2, q => cases q
    | 3, q => cases q
    | 4, q => cases q
    | 5, q => cases q
    | 6, q => cases q
    | 7, q => cases q
    | 8, q => cases q
    | 9, q => cases q
    | n + 10, q => cases q
end K25
open PySem PySem.W PyProof.Rows
set_option maxRecDepth 100000 in
set_option maxHeartbeats 0 in
theorem PySem.Challenge.cw_floatforge_k25_whole_in_order_holds : PySem.Challenge.rw_floatforge_k25_whole_in_order.Holds := by
  w_on; o_law; k_head; (case hw => w_witness2)
  k_fill
  refine Mi.law_ofT (l := PySem.Challenge.rw_floatforge_k25_whole_in_order) (k := 15) (x := "_law_script") (y := "in_order") (names := K25.anames) (ok := K25.okLaw) rfl rfl ⟨rfl, by decide, by decide⟩ (fun w h Y => PySem.W.km_in_of Y) ?nt ⟨_, rfl⟩ ?F K25.holds
  case nt => intro w; kernel_rfl
  case F =>
    intro w mg fa h KX G hmg
    refine' K25.fin KX G hmg ?hcls ?hways ?z_ValueError ?z_bool ?z_int ?z_isinstance ?z_len ?z_list ?z_reversed ?z_sorted ?z_tuple ?y_LEAST_E ?y_MOST_E ?y_LEAST_F ?y_MOST_F ?E10 ?E16 ?E20 ?E21 ?E27 ?E28 ?E29 ?E30 ?E32 ?E11 ?E31 ?E33 ?E12 ?E13 ?E14 ?E17 ?E18 ?E22 ?E19 ?E24 ?E25 ?E34 ?E35
    (case hcls => kernel_rfl)
    (case hways => kernel_rfl)
    (case z_ValueError => k_is)
    (case z_bool => k_is)
    (case z_int => k_is)
    (case z_isinstance => k_is)
    (case z_len => k_is)
    (case z_list => k_is)
    (case z_reversed => k_is)
    (case z_sorted => k_is)
    (case z_tuple => k_is)
    (case y_LEAST_E => k_is)
    (case y_MOST_E => k_is)
    (case y_LEAST_F => k_is)
    (case y_MOST_F => k_is)
    (case E10 => refine' Mi.def_mk KX G ?a ?l ?c ?k; (case a => k_is); (case l => k_is); (case c => k_is); (case k => k_is))
    (case E16 => refine' Mi.def_mk KX G ?a ?l ?c ?k; (case a => k_is); (case l => k_is); (case c => k_is); (case k => k_is))
    (case E20 => refine' Mi.def_mk KX G ?a ?l ?c ?k; (case a => k_is); (case l => k_is); (case c => k_is); (case k => k_is))
    (case E21 => refine' Mi.def_mk KX G ?a ?l ?c ?k; (case a => k_is); (case l => k_is); (case c => k_is); (case k => k_is))
    (case E27 => refine' Mi.def_mk KX G ?a ?l ?c ?k; (case a => k_is); (case l => k_is); (case c => k_is); (case k => k_is))
    (case E28 => refine' Mi.def_mk KX G ?a ?l ?c ?k; (case a => k_is); (case l => k_is); (case c => k_is); (case k => k_is))
    (case E29 => refine' Mi.def_mk KX G ?a ?l ?c ?k; (case a => k_is); (case l => k_is); (case c => k_is); (case k => k_is))
    (case E30 => refine' Mi.def_mk KX G ?a ?l ?c ?k; (case a => k_is); (case l => k_is); (case c => k_is); (case k => k_is))
    (case E32 => refine' Mi.def_mk KX G ?a ?l ?c ?k; (case a => k_is); (case l => k_is); (case c => k_is); (case k => k_is))
    (case E11 => refine' Mi.def_mk KX G ?a ?l ?c ?k; (case a => k_is); (case l => k_is); (case c => k_is); (case k => k_is))
    (case E31 => refine' Mi.def_mk KX G ?a ?l ?c ?k; (case a => k_is); (case l => k_is); (case c => k_is); (case k => k_is))
    (case E33 => refine' Mi.def_mk KX G ?a ?l ?c ?k; (case a => k_is); (case l => k_is); (case c => k_is); (case k => k_is))
    (case E12 => refine' Mi.def_mk KX G ?a ?l ?c ?k; (case a => k_is); (case l => k_is); (case c => k_is); (case k => k_is))
    (case E13 => refine' Mi.def_mk KX G ?a ?l ?c ?k; (case a => k_is); (case l => k_is); (case c => k_is); (case k => k_is))
    (case E14 => refine' Mi.def_mk KX G ?a ?l ?c ?k; (case a => k_is); (case l => k_is); (case c => k_is); (case k => k_is))
    (case E17 => refine' Mi.def_mk KX G ?a ?l ?c ?k; (case a => k_is); (case l => k_is); (case c => k_is); (case k => k_is))
    (case E18 => refine' Mi.def_mk KX G ?a ?l ?c ?k; (case a => k_is); (case l => k_is); (case c => k_is); (case k => k_is))
    (case E22 => refine' Mi.def_mk KX G ?a ?l ?c ?k; (case a => k_is); (case l => k_is); (case c => k_is); (case k => k_is))
    (case E19 => refine' Mi.def_mk KX G ?a ?l ?c ?k; (case a => k_is); (case l => k_is); (case c => k_is); (case k => k_is))
    (case E24 => refine' Mi.def_mk KX G ?a ?l ?c ?k; (case a => k_is); (case l => k_is); (case c => k_is); (case k => k_is))
    (case E25 => refine' Mi.def_mkT KX G ?a ?l ?c ?k ?lc ?v; (case a => k_is); (case l => k_is); (case c => k_is); (case k => k_is); (case lc => k_is); (case v => rfl))
    (case E34 => refine' Mi.def_mk KX G ?a ?l ?c ?k; (case a => k_is); (case l => k_is); (case c => k_is); (case k => k_is))
    (case E35 => refine' Mi.def_mk KX G ?a ?l ?c ?k; (case a => k_is); (case l => k_is); (case c => k_is); (case k => k_is))

