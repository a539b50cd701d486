import PyProof.Rows.All
import Wide.All
import OpenK.AllK
import Wide.FinOn
import Lean
import PyProof.EqAt
import PyProof.EqKinds
import PyProof.TupleCall
import PyProof.NeKinds
import KE.KTryOn
import KE.KTryMore
import OpenK.KOwn
import PyProof.NsDelKeeps
import OpenK.KMake
import PyProof.CompFree
import PyProof.CompMap
import PyProof.CompUse
import PyProof.WalkInts
import PyProof.Rows.SumAny
import PyProof.Rows.DictTally
import PyProof.IsRules
import KE.KRevIter
import PyProof.ListStr
import KE.KListMore
import PyProof.ZipIter
import PyProof.Rows.ZipGen
import PyProof.StrCalls5
import PyProof.Rows.StrNews2
import PyProof.StrOps2
import PyProof.CallStr
import KE.KIntText
import PyProof.EnumMake
import PyProof.StrWalks
import PyProof.Rows.Digits
import PyProof.StrCalls2
import PyProof.Rows.StrOr
import PyProof.JoinWalk
import PyProof.StrReplace2
import PyProof.Rows.StrPartPair
import PyProof.StrLawsChain
import PyProof.StrLawsTight
import PyProof.Rows.StrSplitJoin
import PyProof.Rows.StrSplitAre
import PySem.Challenge.RW_floatforge_k05_bits
set_option Elab.async false
set_option linter.all false
set_option maxRecDepth 100000
namespace L2
open PySem PySem.Spec PyProof.Rows
/-- a key: an int or a str -/
abbrev Key := Sum Int Str
def keyIs : Key → Value → Bool
  | .inl k, v => Value.isInt k v
  | .inr x, v => Value.isStrOf x v
def keyH (w : World) : Key → Int
  | .inl k => hashInt k
  | .inr x => hashStr w x
theorem keyIs_shape : ∀ {k : Key} {v : Value}, keyIs k v = true → (∃ i t, k = Sum.inl i ∧ v = Value.int i t) ∨ (∃ x t, k = Sum.inr x ∧ v = Value.str x t)
  | .inl i, v, h => by
    obtain ⟨t, e⟩ := Value.isInt_shape (k := i) (v := v) h
    exact .inl ⟨i, t, rfl, e⟩
  | .inr x, v, h => by
    obtain ⟨t, e⟩ := Value.isStrOf_shape (x := x) (v := v) h
    exact .inr ⟨x, t, rfl, e⟩
theorem key_ll (a b : Int) : decide ((Sum.inl a : Key) = Sum.inl b) = (a == b) := by
  by_cases e : a = b
  · subst e; simp
  · have h : ¬ (Sum.inl a : Key) = Sum.inl b := fun q => e (Sum.inl.inj q)
    rw [decide_eq_false h]
    exact (beq_eq_false_iff_ne.mpr e).symm
theorem key_rr (a b : Str) : decide ((Sum.inr a : Key) = Sum.inr b) = decide (a = b) := by
  by_cases e : a = b
  · subst e; simp
  · have h : ¬ (Sum.inr a : Key) = Sum.inr b := fun q => e (Sum.inr.inj q)
    rw [decide_eq_false h, decide_eq_false e]
theorem key_lr (a : Int) (b : Str) : decide ((Sum.inl a : Key) = Sum.inr b) = false := decide_eq_false (fun q => nomatch q)
theorem key_rl (a : Str) (b : Int) : decide ((Sum.inr a : Key) = Sum.inl b) = false := decide_eq_false (fun q => nomatch q)

def mixKind (prog : Program) (w : World) : PySem.KeyKind prog w Key where
  is := keyIs
  hash := keyH w
  inj := fun v a b ha hb => by
    rcases keyIs_shape ha with ⟨i, t, rfl, rfl⟩ | ⟨x, t, rfl, rfl⟩
    · rcases keyIs_shape hb with ⟨j, u, rfl, e⟩ | ⟨y, u, rfl, e⟩
      · injection e with e1 _; rw [e1]
      · exact nomatch e
    · rcases keyIs_shape hb with ⟨j, u, rfl, e⟩ | ⟨y, u, rfl, e⟩
      · exact nomatch e
      · injection e with e1 _; rw [e1]
  byValue := fun k v h => by
    rcases keyIs_shape h with ⟨i, t, rfl, rfl⟩ | ⟨x, t, rfl, rfl⟩ <;> rfl
  pyHash := fun hv h => by
    rcases keyIs_shape hv with ⟨i, t, rfl, rfl⟩ | ⟨x, t, rfl, rfl⟩
    · exact wpAny_pyHash_int h
    · exact wpAny_pyHash_str h
  eqBool := fun hu hv h => by
    rcases keyIs_shape hu with ⟨i, t, rfl, rfl⟩ | ⟨x, t, rfl, rfl⟩
    · rcases keyIs_shape hv with ⟨j, u, rfl, rfl⟩ | ⟨y, u, rfl, rfl⟩
      · rw [key_ll] at h; exact wpAny_eqBool_int h
      · rw [key_lr] at h; exact SeqAt.EqAt.int_str i t y u _ _ _ _ h
    · rcases keyIs_shape hv with ⟨j, u, rfl, rfl⟩ | ⟨y, u, rfl, rfl⟩
      · rw [key_rl] at h; exact SeqAt.EqAt.str_int x t j u _ _ _ _ h
      · rw [key_rr] at h; exact wpAny_eqBool_str h
  «strs» := fun k x t v h => by
    rcases keyIs_shape h with ⟨i, u, rfl, e⟩ | ⟨y, u, rfl, e⟩
    · exact nomatch e
    · injection e with e1 _
      subst e1
      cases v <;> rfl

/-- a value, without the heap -/
inductive V where
  | non | bl (b : Bool) | int (i : Int) | str (x : Str) | byt (b : Array UInt8) | flt (b : UInt64) | ref (a : Addr) | ty (n : String)
  deriving DecidableEq

def RelV : V → Value → Prop
  | .non, u => u = Value.none
  | .bl b, u => u = Value.bool b
  | .int i, u => ∃ t, u = Value.int i t
  | .str x, u => ∃ t, u = Value.str x t
  | .byt b, u => ∃ t, u = Value.bytes b t
  | .flt b, u => ∃ t, u = Value.float b t
  | .ref a, u => u = Value.ref a
  | .ty n, u => u = Value.type n

abbrev Vals : List V → List Value → Prop := Paired RelV
theorem Vals.length {xs : List V} {us : List Value} (r : Vals xs us) : xs.length = us.length := Paired.length r
theorem Vals.get : ∀ {xs : List V} {us : List Value} {i : Nat} {x : V}, Vals xs us → xs[i]? = some x → ∃ u, us[i]? = some u ∧ RelV x u
  | _, _, _, _, .nil, e => by simp at e
  | _, _, 0, _, .cons r _, e => by simp at e; subst e; exact ⟨_, rfl, r⟩
  | _, _, i + 1, x, .cons _ t, e => by
    obtain ⟨u, h1, h2⟩ := Vals.get (i := i) (x := x) t (by simpa using e)
    exact ⟨u, by simpa using h1, h2⟩
theorem Vals.set {x : V} {u : Value} (r : RelV x u) : ∀ {xs : List V} {us : List Value} (i : Nat), Vals xs us → Vals (xs.set i x) (us.set i u)
  | _, _, _, .nil => .nil
  | _, _, 0, .cons _ t => .cons r t
  | _, _, i + 1, .cons q t => .cons q (Vals.set r i t)
theorem Vals.append : ∀ {xs ys : List V} {us ws : List Value}, Vals xs us → Vals ys ws → Vals (xs ++ ys) (us ++ ws)
  | _, _, _, _, .nil, s => s
  | _, _, _, _, .cons r t, s => .cons r (Vals.append t s)
theorem Vals.take : ∀ {xs : List V} {us : List Value} (n : Nat), Vals xs us → Vals (xs.take n) (us.take n)
  | _, _, 0, _ => .nil
  | _, _, _ + 1, .nil => .nil
  | _, _, n + 1, .cons r t => .cons r (Vals.take n t)
theorem Vals.drop : ∀ {xs : List V} {us : List Value} (n : Nat), Vals xs us → Vals (xs.drop n) (us.drop n)
  | _, _, 0, r => r
  | _, _, _ + 1, .nil => .nil
  | _, _, n + 1, .cons _ t => Vals.drop n t
def RelO : Option V → Option Value → Prop
  | some v, some u => RelV v u
  | none, none => True
  | _, _ => False
def KV {κ : Type} : List (κ × V) → List (κ × Value) → Prop := Paired fun (p : κ × V) (q : κ × Value) => p.1 = q.1 ∧ RelV p.2 q.2

/-- a key of a dict (00_mix): an int or a text -/
def kV : Key → V
  | .inl i => .int i
  | .inr x => .str x

/-- what stands at a tracked address -/
inductive HO where
  /-- a list -/
  | lst (xs : List V)
  /-- a tuple (never changes) -/
  | tup (xs : List V)
  /-- a dict whose keys are ints and texts; one whose keys are tuples of ints and texts (the empty one is both) -/
  | dK (kvs : List (Key × V)) | dT (kvs : List (List Key × V))
  /-- a set of ints: its members, its size -/
  | set (S : Int → Bool) (n : Nat)
  /-- an instance of the class at C, its dict at dx, its attributes -/
  | ins (C dx : Addr) (fs : List (Str × V))
  /-- the dict of the instance at x -/
  | own (x : Addr)
  /-- the dict of an exception -/
  | xd (fs : List (Str × V))
  /-- a bound method, f of x -/
  | met (f x : Addr)
  /-- a range object lo, lo + 1, .. below hi -/
  | rng (lo hi : Int)
  /-- a thing that is known to the object (the script; a dict while a loop walks it): read, never written while it is so -/
  | frz (o : Obj) (u : HO)
  /-- a code object's table -/
  | tbl (ps : Array Value)
  /-- any other thing, by what is true of its one object (a def of one's own: SetO a S n := HO.ext fun h => ..) -/
  | ext (φ : Heap → Prop)

abbrev Hp := Addr → Option HO
def upd (H : Hp) (a : Addr) (o : HO) : Hp := fun b => if b = a then some o else H b
theorem upd_same {H : Hp} {a : Addr} {o : HO} : upd H a o a = some o := by unfold upd; rw [if_pos rfl]
theorem upd_ne {H : Hp} {a b : Addr} {o : HO} (h : b ≠ a) : upd H a o b = H b := by unfold upd; rw [if_neg h]
theorem ne_of_none {H : Hp} {a b : Addr} {o : HO} (h : H a = some o) (h' : H b = none) : a ≠ b := by
  intro e; subst e; rw [h] at h'; cases h'

section
variable (P : Program) (w : World)
def ObjOk (H : Hp) (h : Heap) (a : Addr) : HO → Prop
  | .lst xs => xs.length ≤ sizeLine ∧ ∃ (its : List Value) (n : Nat), Vals xs its ∧ h.get? a = some { cls := .type "list", data := .seq its.toArray n }
  | .tup xs => xs.length ≤ sizeLine ∧ ∃ its : List Value, Vals xs its ∧ IsTup h a its.toArray
  | .dK kvs => kvs.length ≤ sizeLine ∧ (a == sysModules) = false ∧ ∃ vs, KV kvs vs ∧ h.DictOf (mixKind P w) a vs
  | .dT kvs => kvs.length ≤ sizeLine ∧ (a == sysModules) = false ∧ ∃ xs : List (List Key × Addr × Value),
      Paired (fun (p : List Key × V) (q : List Key × Addr × Value) => p.1 = q.1 ∧ H q.2.1 = some (.tup (p.1.map kV)) ∧ RelV p.2 q.2.2) kvs xs ∧
      ∃ o es ep, h.get? a = some o ∧ o.ExactDict ∧ o.data = .dict es ep ∧ es.toList = xs.map (entryOfKey (tupleKind (mixKind P w))) ∧ (xs.map (·.1)).Nodup
  | .set S n => h.SetOf (intKind P w) a S n
  | .ins C dx fs => H dx = some (.own a) ∧ fs.length ≤ 1000 ∧ dx ≠ a ∧ h.get? a = some (PySem.W.instObj C dx) ∧
      ∃ mA, h.Ns1 dx mA ∧ (∀ f, RelO (fs.lookup f) (mA f)) ∧ PySem.Within mA (fs.map (·.1))
  | .own _ => ∃ o, h.get? a = some o
  | .xd fs => ∃ mA, h.Ns1 a mA ∧ ∀ f, RelO (fs.lookup f) (mA f)
  | .rng lo hi => ∃ t u v, h.get? a = some { cls := .type "range", data := .fields #[.int lo t, .int hi u, .int 1 v] }
  | .frz o u => h.get? a = some o ∧ ObjOk H h a u
  | .tbl ps => h.get? a = some { cls := .none, data := .fields ps }
  | .met f x => h.get? a = some (PySem.W.methodObj (.ref f) (.ref x))
  | .ext φ => φ h ∧ (∃ o, h.get? a = some o) ∧ ∀ h1 h2 : Heap, φ h1 → (∀ o, h1.get? a = some o → h2.get? a = some o) → φ h2
/-- the abstract heap is held -/
def HOk (H : Hp) (h : Heap) : Prop := ∀ a o, H a = some o → ObjOk P w H h a o
end
section
variable {P : Program} {w : World} {H H' : Hp} {h h' : Heap} {a : Addr} {o : HO}
theorem ObjOk.lt (x : ObjOk P w H h a o) : a < h.objs.size := by
  cases o with
  | lst xs => obtain ⟨_, _, _, _, e⟩ := x; exact Heap.lt_size e
  | tup xs => obtain ⟨_, _, _, p⟩ := x; exact p.lt
  | dK kvs => obtain ⟨_, _, _, _, o, _, _, e, _⟩ := x; exact Heap.lt_size e
  | dT kvs => obtain ⟨_, _, _, _, o, _, _, e, _⟩ := x; exact Heap.lt_size e
  | set S n => obtain ⟨o, _, _, _, e, _⟩ := x; exact Heap.lt_size e
  | ins C dx fs => obtain ⟨_, _, _, e, _⟩ := x; exact Heap.lt_size e
  | own y => obtain ⟨_, e⟩ := x; exact Heap.lt_size e
  | xd fs => obtain ⟨_, ⟨_, _, _, e, _⟩, _⟩ := x; exact Heap.lt_size e
  | rng lo hi => obtain ⟨_, _, _, e⟩ := x; exact Heap.lt_size e
  | frz ob u => obtain ⟨e, _⟩ := x; exact Heap.lt_size e
  | tbl ps => exact Heap.lt_size (show h.get? a = some _ from x)
  | met f y => exact Heap.lt_size (show h.get? a = some _ from x)
  | ext φ => obtain ⟨_, ⟨_, e⟩, _⟩ := x; exact Heap.lt_size e
theorem Paired.mapP {α β : Type} {F G : α → β → Prop} : ∀ {l₁ : List α} {l₂ : List β}, Paired F l₁ l₂ → (∀ a b, F a b → G a b) → Paired G l₁ l₂
  | _, _, .nil, _ => .nil
  | _, _, .cons r t, f => .cons (f _ _ r) (Paired.mapP t f)
/-- what an object's description leans on: its own object, its own dict, the tuples -/
theorem ObjOk.stay (x : ObjOk P w H h a o) (k : ∀ b u, (b = a ∨ H b = some (.own a)) → h.get? b = some u → h'.get? b = some u)
    (ho : ∀ b, H b = some (.own a) → H' b = some (.own a)) (ht : ∀ b xs, H b = some (.tup xs) → H' b = some (.tup xs)) : ObjOk P w H' h' a o := by
  induction o with
  | lst xs => obtain ⟨z, its, n, r, e⟩ := x; exact ⟨z, its, n, r, k _ _ (.inl rfl) e⟩
  | tup xs => obtain ⟨z, its, r, ob, e, c⟩ := x; exact ⟨z, its, r, ob, k _ _ (.inl rfl) e, c⟩
  | dK kvs => obtain ⟨z, y, vs, r, ob, es, ep, e, c⟩ := x; exact ⟨z, y, vs, r, ob, es, ep, k _ _ (.inl rfl) e, c⟩
  | dT kvs =>
    obtain ⟨z, y, xs, r, ob, es, ep, e, c⟩ := x
    exact ⟨z, y, xs, Paired.mapP r fun p q z => ⟨z.1, ht _ _ z.2.1, z.2.2⟩, ob, es, ep, k _ _ (.inl rfl) e, c⟩
  | set S n => obtain ⟨ob, es, ep, t, e, c⟩ := x; exact ⟨ob, es, ep, t, k _ _ (.inl rfl) e, c⟩
  | ins C dx fs =>
    obtain ⟨d, z, ne, e, mA, ⟨od, es, ep, e2, c⟩, r⟩ := x
    exact ⟨ho _ d, z, ne, k _ _ (.inl rfl) e, mA, ⟨od, es, ep, k _ _ (.inr d) e2, c⟩, r⟩
  | own y => obtain ⟨ob, e⟩ := x; exact ⟨ob, k _ _ (.inl rfl) e⟩
  | xd fs => obtain ⟨mA, ⟨od, es, ep, e, c⟩, r⟩ := x; exact ⟨mA, ⟨od, es, ep, k _ _ (.inl rfl) e, c⟩, r⟩
  | rng lo hi => obtain ⟨t, u, v, e⟩ := x; exact ⟨t, u, v, k _ _ (.inl rfl) e⟩
  | frz ob u ih => obtain ⟨e, q⟩ := x; exact ⟨k _ _ (.inl rfl) e, ih q⟩
  | tbl ps =>
    have e : h.get? a = some { cls := .none, data := .fields ps } := x
    show h'.get? a = some { cls := .none, data := .fields ps }
    exact k a _ (.inl rfl) e
  | met f y =>
    have e : h.get? a = some (PySem.W.methodObj (.ref f) (.ref y)) := x
    show h'.get? a = some (PySem.W.methodObj (.ref f) (.ref y))
    exact k a _ (.inl rfl) e
  | ext φ => obtain ⟨p, ⟨o, e⟩, st⟩ := x; exact ⟨st _ _ p fun o q => k _ _ (.inl rfl) q, ⟨o, k _ _ (.inl rfl) e⟩, st⟩
theorem HOk.lt (x : HOk P w H h) (e : H a = some o) : a < h.objs.size := (x a o e).lt
theorem HOk.fresh (x : HOk P w H h) (e : h.objs.size ≤ a) : H a = none := by
  cases q : H a with
  | none => rfl
  | some u => exact absurd (Nat.lt_of_lt_of_le (x.lt q) e) (Nat.lt_irrefl _)
/-- every object of the heap is kept -/
theorem HOk.kept (x : HOk P w H h) (k : ∀ b u, h.get? b = some u → h'.get? b = some u) : HOk P w H h' := fun a o e =>
  (x a o e).stay (fun b u _ q => k b u q) (fun _ q => q) fun _ _ q => q
/-- a new object is laid and tracked -/
theorem HOk.laid (x : HOk P w H h) (k : ∀ b u, h.get? b = some u → h'.get? b = some u) (hp : h.objs.size ≤ a) (new : ObjOk P w (upd H a o) h' a o) : HOk P w (upd H a o) h' := fun b u e => by
  have hn := x.fresh hp
  by_cases hb : b = a
  · subst hb; rw [upd_same] at e; cases e; exact new
  · rw [upd_ne hb] at e
    exact (x b u e).stay (fun c v _ q => k c v q) (fun c q => by rw [upd_ne (ne_of_none q hn)]; exact q) fun c xs q => by rw [upd_ne (ne_of_none q hn)]; exact q
end
/-- what may be read as u: it is u, or a known u -/
def Rd (H : Hp) (a : Addr) (u : HO) : Prop := H a = some u ∨ ∃ o, H a = some (.frz o u)
theorem Rd.of {H : Hp} {a : Addr} {u : HO} (h : H a = some u) : Rd H a u := .inl h
theorem Rd.ok {P : Program} {w : World} {H : Hp} {h : Heap} {a : Addr} {u : HO} (r : Rd H a u) (x : HOk P w H h) : ObjOk P w H h a u := by
  rcases r with r | ⟨o, r⟩
  · exact x a u r
  · obtain ⟨_, q⟩ := x a _ r
    exact q
/-- what may be written -/
def Mut : Option HO → Prop
  | some (.lst _) => True
  | some (.dK _) => True
  | some (.dT _) => True
  | some (.set _ _) => True
  | some (.ins _ _ _) => True
  | some (.ext _) => True
  | _ => False
section
variable {P : Program} {w : World} {H : Hp} {h h' : Heap} {x e : Addr} {o' : HO}
/-- the object at e is changed: x itself, or the dict of the instance x -/
theorem HOk.write (ok : HOk P w H h) (mu : Mut (H x)) (he : e = x ∨ H e = some (.own x)) (k : ∀ b u, b ≠ e → h.get? b = some u → h'.get? b = some u) (heo : ∃ u, h'.get? e = some u)
    (new : ObjOk P w (upd H x o') h' x o') : HOk P w (upd H x o') h' := fun b u q => by
  have nown : ∀ c y, H c = some (.own y) → c ≠ x := fun c y r z => by subst z; rw [r] at mu; exact mu
  have ntup : ∀ c xs, H c = some (.tup xs) → c ≠ x := fun c xs r z => by subst z; rw [r] at mu; exact mu
  by_cases hb : b = x
  · subst hb; rw [upd_same] at q; cases q; exact new
  · rw [upd_ne hb] at q
    by_cases hbe : b = e
    · have q' : H b = some (.own x) := by
        rcases he with z | z
        · exact absurd (hbe.trans z) hb
        · rw [hbe]; exact z
      rw [q] at q'; cases q'
      obtain ⟨v, hv⟩ := heo
      exact ⟨v, by rw [hbe]; exact hv⟩
    · refine (ok b u q).stay (fun c v hc r => k c v ?_ r) (fun c r => by rw [upd_ne (nown c b r)]; exact r) fun c xs r => by rw [upd_ne (ntup c xs r)]; exact r
      rcases hc with rfl | hc
      · exact hbe
      · rintro rfl
        rcases he with z | z
        · exact nown c b hc z
        · rw [hc] at z; cases z; exact hb rfl
end
structure Un (fs ex : List Addr) (H H' : Hp) (h h' : Heap) : Prop where
  keep : ∀ b o, h.get? b = some o → H b = none → b ∉ fs → b ∉ ex → h'.get? b = some o
  slot : ∀ b o, h.get? b = some o → H b = none → b ∈ fs → b ∉ ex → ∃ sl, h'.get? b = some { o with slots := sl }
  free : ∀ b o, h.get? b = some o → H b = none → b ∉ ex → H' b = none
  there : ∀ b o, h.get? b = some o → b ∉ ex → ∃ o', h'.get? b = some o'
  tups : ∀ b xs, H b = some (.tup xs) → H' b = some (.tup xs)
  frzs : ∀ b o u, H b = some (.frz o u) → H' b = some (.frz o u)
  tbls : ∀ b ps, H b = some (.tbl ps) → ∃ more, H' b = some (.tbl (ps ++ more))
section
variable {fs fs' ex ex' : List Addr} {H H1 H2 : Hp} {h h1 h2 h' : Heap} {a x e : Addr} {o : HO}
theorem Un.any (u : Un fs ex H H1 h h1) {b : Addr} {ob : Obj} (q : h.get? b = some ob) (n : H b = none) (hx : b ∉ ex) : ∃ sl, h1.get? b = some { ob with slots := sl } := by
  by_cases hb : b ∈ fs
  · exact u.slot b ob q n hb hx
  · exact ⟨ob.slots, u.keep b ob q n hb hx⟩
theorem Un.trans (a : Un fs ex H H1 h h1) (b : Un fs ex H1 H2 h1 h2) : Un fs ex H H2 h h2 where
  keep := fun c ob q n hc hx => b.keep c ob (a.keep c ob q n hc hx) (a.free c ob q n hx) hc hx
  slot := fun c ob q n hc hx => by
    obtain ⟨sl, e1⟩ := a.slot c ob q n hc hx
    obtain ⟨sl', e2⟩ := b.slot c _ e1 (a.free c ob q n hx) hc hx
    exact ⟨sl', e2⟩
  free := fun c ob q n hx => by
    obtain ⟨o', e1⟩ := a.there c ob q hx
    exact b.free c o' e1 (a.free c ob q n hx) hx
  there := fun c ob q hx => by
    obtain ⟨o', e1⟩ := a.there c ob q hx
    exact b.there c o' e1 hx
  tups := fun c xs q => b.tups c xs (a.tups c xs q)
  frzs := fun c ob xs q => b.frzs c ob xs (a.frzs c ob xs q)
  tbls := fun c ps q => by
    obtain ⟨m1, e1⟩ := a.tbls c ps q
    obtain ⟨m2, e2⟩ := b.tbls c _ e1
    exact ⟨m1 ++ m2, by rw [e2, Array.append_assoc]⟩
theorem Un.kept (k : ∀ b u, h.get? b = some u → h'.get? b = some u) : Un fs ex H H h h' :=
  ⟨fun b ob q _ _ _ => k b ob q, fun b ob q _ _ _ => ⟨ob.slots, k b ob q⟩, fun _ _ _ n _ => n, fun b ob q _ => ⟨ob, k b ob q⟩, fun _ _ q => q, fun _ _ _ q => q, fun _ ps q => ⟨#[], by rw [q]; simp⟩⟩
theorem Un.refl : Un fs ex H H h h := Un.kept fun _ _ q => q
theorem Un.laid (k : ∀ b u, h.get? b = some u → h'.get? b = some u) (hp : h.objs.size ≤ a) (hn : H a = none) : Un fs ex H (upd H a o) h h' where
  keep := fun b u q _ _ _ => k b u q
  slot := fun b u q _ _ _ => ⟨u.slots, k b u q⟩
  free := fun b u q n _ => by rw [upd_ne (Nat.ne_of_lt (Nat.lt_of_lt_of_le (Heap.lt_size q) hp))]; exact n
  there := fun b u q _ => ⟨u, k b u q⟩
  tups := fun b xs q => by rw [upd_ne (ne_of_none q hn)]; exact q
  frzs := fun b u xs q => by rw [upd_ne (ne_of_none q hn)]; exact q
  tbls := fun b ps q => ⟨#[], by rw [upd_ne (ne_of_none q hn), q]; simp⟩
theorem Un.write (mu : Mut (H x)) (he : e = x ∨ H e = some (.own x)) (k : ∀ b u, b ≠ e → h.get? b = some u → h'.get? b = some u) (heo : ∃ u, h'.get? e = some u) : Un fs ex H (upd H x o) h h' := by
  have hx : ∀ b, H b = none → b ≠ x := fun b n z => by subst z; rw [n] at mu; exact mu
  have hb : ∀ b, H b = none → b ≠ e := fun b n z => by
    subst z
    rcases he with r | r
    · exact hx b n r
    · rw [n] at r; cases r
  have hm : ∀ b u, H b = some u → ¬ Mut (some u) → b ≠ x := fun b u q nm z => by subst z; rw [q] at mu; exact nm mu
  refine ⟨fun b u q n _ _ => k b u (hb b n) q, fun b u q n _ _ => ⟨u.slots, k b u (hb b n) q⟩, fun b u q n _ => by rw [upd_ne (hx b n)]; exact n, fun b u q _ => ?_,
    fun b xs q => by rw [upd_ne (hm b _ q fun z => z)]; exact q, fun b u xs q => by rw [upd_ne (hm b _ q fun z => z)]; exact q, fun b ps q => ⟨#[], by rw [upd_ne (hm b _ q fun z => z), q]; simp⟩⟩
  by_cases hbe : b = e
  · subst hbe; exact heo
  · exact ⟨u, k b u hbe q⟩
theorem Un.mono (u : Un fs ex H H1 h h1) (hs : ∀ b ∈ fs, b ∈ fs') (hx : ∀ b ∈ ex, b ∈ ex') : Un fs' ex' H H1 h h1 :=
  ⟨fun b ob q n hb he => u.keep b ob q n (fun z => hb (hs b z)) fun z => he (hx b z), fun _ _ q n _ he => u.any q n fun z => he (hx _ z), fun b ob q n he => u.free b ob q n fun z => he (hx b z), fun b ob q he => u.there b ob q fun z => he (hx b z), u.tups, u.frzs, u.tbls⟩
end
def trk (h : Heap) (H : Hp) : List Addr := (List.range h.objs.size).filter fun a => (H a).isSome
def hidT (h : Heap) (H : Hp) : Heap := PySem.W.hideAll h (trk h H)
theorem hidT_size (h : Heap) (H : Hp) : (hidT h H).objs.size = h.objs.size := PySem.W.hideAll_size _ _
theorem hidT_get {h : Heap} {H : Hp} {b : Addr} {o : Obj} (e : h.get? b = some o) (n : H b = none) : (hidT h H).get? b = some o :=
  PySem.W.hideAll_get _ e fun hm => by
    have q : (H b).isSome = true := (List.mem_filter.mp hm).2
    rw [n] at q; simp at q
theorem of_hidT {h : Heap} {H : Hp} {b : Addr} {o : Obj} (e : (hidT h H).get? b = some o) : h.get? b = some o ∧ H b = none := by
  have e' : h.get? b = some o := PySem.W.of_hideAll (trk h H) e
  refine ⟨e', ?_⟩
  cases q : H b with
  | none => rfl
  | some x =>
    have hm : b ∈ trk h H := List.mem_filter.mpr ⟨List.mem_range.mpr (Heap.lt_size e'), by simp [q]⟩
    have z : (hidT h H).get? b = none := PySem.W.hideAll_none (trk h H) hm
    rw [z] at e; cases e

def allNews (g h : Heap) (L : Addr) : List (Addr × Obj) := (List.range h.objs.size).filterMap fun a => if a = L ∨ (g.get? a).isSome = true then none else (h.get? a).map fun o => (a, o)
def rest (g h : Heap) (L d : Addr) : List (Addr × Obj) := (allNews g h L).filter fun p => decide (p.1 ≠ d)
/-- the module's facts, over the base: the heap at the law's entry without what is tracked there -/
structure Mod (K : PySem.W.Frag) (mg : Str → Option Value) (base : Heap) : Prop where
  kin : K.In base
  glob : base.Ns mainGlobals mg
  blt : ∃ mb, base.Ns builtinsNs mb ∧ ∀ x : Str, x ≠ "__name__" → mb x = bootBuiltins x
  nolimit : base.NoLimit

/-- the context: a def's body (or a comprehension's block) running. base: fixed through the whole law; s₀, H₀: the entry; outer: the frames whose slots others may change (a def's callers); stack: all frames that run;
   ex: iterators that were made ahead of the entry and are walked here (a comprehension's); fn: the names whose cells were made at the entry (a def: all; a comprehension's block: its own); calm: not within an except suite; pn: pins that every state bears; xe: what is wanted of an exception that leaves the code -/
structure Cx where
  prog : Program
  w : World
  K : PySem.W.Frag
  mg : Str → Option Value
  base : Heap
  A : Around
  N : List Str
  s₀ : Shared
  H₀ : Hp
  env : Env
  outer : List Env
  stack : List Env
  ex : List Addr
  fn : Str → Bool
  calm : Bool
  pn : List (Addr × Obj)
  xe : Value → Shared → Prop
/-- the callers' frames -/
def frs (l : List Env) : List Addr := l.filterMap (·.frame)
abbrev Cx.fs (X : Cx) : List Addr := frs X.outer

def Vis (sc : Scope) (x : Str) : Prop := sc.names.lookup x = some .local ∨ sc.names.lookup x = some .cell ∨ sc.names.lookup x = some .free
def Loc (sc : Scope) (x : Str) : Prop := sc.names.lookup x = some .local ∨ sc.names.lookup x = some .cell
def Look (env : Env) (h : Heap) (m : Str → Option Value) (x : Str) (u : Value) : Prop :=
  (env.kindOf x = some .local ∧ m x = some u) ∨ ((env.kindOf x = some .cell ∨ env.kindOf x = some .free) ∧ ∃ c, env.cells.lookup x = some c ∧ h.IsCell c (some u))

structure Cx.Ok (X : Cx) : Prop where
  mod : Mod X.K X.mg X.base
  kind : X.env.scope.kind = .function
  glob : X.env.globals = mainGlobals
  blt : X.env.builtins = builtinsNs
  above : X.s₀.heap.objs.size ≤ X.env.locals
  inj : ∀ x y c, X.env.cells.lookup x = some c → X.env.cells.lookup y = some c → x = y
  has : ∀ x, (X.env.kindOf x = some .cell ∨ X.env.kindOf x = some .free) → ∃ c, X.env.cells.lookup x = some c
  cab : ∀ x c, X.fn x = true → X.env.cells.lookup x = some c → X.s₀.heap.objs.size ≤ c
  hd : X.calm = true → X.A.handled = none
  frames : X.A.frames = some X.stack
  stk : X.stack = X.outer ∨ (X.stack = X.env :: X.outer ∧ X.env.frame = some X.env.locals)
  exf : ∀ b ∈ X.ex, b ≠ X.env.locals ∧ ∀ x c, X.env.cells.lookup x = some c → c ≠ b
  bs : ∀ b o, X.base.get? b = some o → X.s₀.heap.get? b = some o ∧ X.H₀ b = none
  bsz : X.base.objs.size ≤ X.s₀.heap.objs.size
  noex : ∀ b o, X.base.get? b = some o → b ∉ X.ex
  exfs : ∀ b ∈ X.ex, b ∉ X.fs
  funs : X.s₀.heap.FunFrames X.base X.outer
  frf : ∀ b ∈ X.fs, X.H₀ b = none

structure Inv (X : Cx) (pins : List (Addr × Obj)) (σ : List (Option V)) (H : Hp) (s : Shared) : Prop where
  ok : X.Ok
  os : s.os = X.s₀.os
  bare : AllBare s.gens
  base : Un X.fs X.ex X.H₀ H X.s₀.heap s.heap
  loc : ∃ m, s.heap.Ns X.env.locals m ∧ ∀ (i : Nat) (x : Str) (v : V), X.N[i]? = some x → σ[i]? = some (some v) → Vis X.env.scope x → ∃ u, RelV v u ∧ Look X.env s.heap m x u
  cell : ∀ x c, X.env.cells.lookup x = some c → ∃ v, s.heap.IsCell c v
  free : H X.env.locals = none
  freeC : ∀ x c, X.env.cells.lookup x = some c → H c = none
  pin : ∀ p ∈ X.pn ++ pins, s.heap.get? p.1 = some p.2 ∧ H p.1 = none ∧ p.1 ≠ X.env.locals ∧ p.1 ∉ X.fs ∧ ∀ v, p.2.data ≠ .cell v
  hok : HOk X.prog X.w H s.heap
  len : σ.length = X.N.length

section
variable {X : Cx} {pins : List (Addr × Obj)} {σ : List (Option V)} {H H' : Hp} {s : Shared} {h' : Heap}
theorem Cx.Ok.nofr (ok : X.Ok) {b : Addr} {o : Obj} (e : X.base.get? b = some o) : b ∉ X.fs := fun hb => by
  have := (ok.funs.mem hb).1
  rw [e] at this; cases this
theorem Inv.bs (I : Inv X pins σ H s) : ∀ b o, X.base.get? b = some o → s.heap.get? b = some o ∧ H b = none := fun b o e =>
  ⟨I.base.keep b o (I.ok.bs b o e).1 (I.ok.bs b o e).2 (I.ok.nofr e) (I.ok.noex b o e), I.base.free b o (I.ok.bs b o e).1 (I.ok.bs b o e).2 (I.ok.noex b o e)⟩
theorem Inv.bk (I : Inv X pins σ H s) : ∀ b o, X.base.get? b = some o → s.heap.get? b = some o := fun b o e => (I.bs b o e).1
theorem Inv.mod (I : Inv X pins σ H s) : Mod X.K X.mg X.base := I.ok.mod
theorem Inv.kIn (I : Inv X pins σ H s) : X.K.In s.heap := I.ok.mod.kin.keeps I.bk
theorem Inv.nolimit (I : Inv X pins σ H s) : s.heap.NoLimit := I.ok.mod.nolimit.keeps I.bk
/-- the frame over the base: for OpenK's rules (K.In X.base is I.mod.kin) -/
theorem Inv.fr (I : Inv X pins σ H s) : ∃ m, Fr X.base X.env.locals s.heap m :=
  let ⟨m, hn, _⟩ := I.loc
  ⟨m, hn, I.bk, Nat.le_trans I.ok.bsz I.ok.above⟩
theorem Inv.lt (I : Inv X pins σ H s) : X.env.locals < s.heap.objs.size := let ⟨_, hn, _⟩ := I.loc; hn.lt
theorem Inv.sz (I : Inv X pins σ H s) : X.s₀.heap.objs.size ≤ s.heap.objs.size := Nat.le_trans I.ok.above (Nat.le_of_lt I.lt)
theorem Inv.nofs (I : Inv X pins σ H s) {a : Addr} (h : s.heap.objs.size ≤ a) : a ∉ X.fs := fun hb => by
  obtain ⟨_, o, ho, _⟩ := I.ok.funs.mem hb
  exact absurd (Nat.lt_of_lt_of_le (Heap.lt_size ho) (Nat.le_trans I.sz h)) (Nat.lt_irrefl _)
theorem Inv.cne (I : Inv X pins σ H s) : ∀ x c, X.env.cells.lookup x = some c → c ≠ X.env.locals := fun x c e z => by
  obtain ⟨v, o, ho, hd⟩ := I.cell x c e
  obtain ⟨m, ⟨o', es, ep, ho', hd', _⟩, _⟩ := I.loc
  rw [z, ho'] at ho; cases ho; rw [hd'] at hd; cases hd
theorem Inv.funs (I : Inv X pins σ H s) : s.heap.FunFrames X.base X.outer := by
  have all : ∀ (l : List Env), (∀ b ∈ frs l, b ∈ X.fs) → X.s₀.heap.FunFrames X.base l → s.heap.FunFrames X.base l := by
    intro l
    induction l with
    | nil => intro _ _; trivial
    | cons env r ih =>
      intro hs hl
      obtain ⟨hk, ⟨L, o, hf, hn, ho, hd⟩, hr⟩ := hl
      have hL : L ∈ X.fs := hs L (by unfold frs; rw [List.filterMap_cons, hf]; exact List.mem_cons_self)
      obtain ⟨sl, e⟩ := I.base.slot L o ho (I.ok.frf L hL) hL fun z => I.ok.exfs L z hL
      exact ⟨hk, ⟨L, _, hf, hn, e, hd⟩, ih (fun b hb => hs b (by unfold frs; rw [List.filterMap_cons, hf]; exact List.mem_cons_of_mem _ hb)) hr⟩
  exact all X.outer (fun _ hb => hb) I.ok.funs

/-- the frames that run, for a call -/
theorem Inv.stack (I : Inv X pins σ H s) : s.heap.FunFrames X.base X.stack := by
  rcases I.ok.stk with e | ⟨e, hf⟩
  · rw [e]; exact I.funs
  · rw [e]
    obtain ⟨m, hn, _⟩ := I.loc
    refine .cons (by rw [I.ok.kind]; decide) hf hn ?_ I.funs
    exact Heap.get?_none_of_le (Nat.le_trans I.ok.bsz I.ok.above)
theorem Inv.stkSub (I : Inv X pins σ H s) : ∀ b ∈ frs X.stack, b ∈ X.env.locals :: X.fs := fun b hb => by
  rcases I.ok.stk with e | ⟨e, hf⟩
  · rw [e] at hb; exact List.mem_cons_of_mem _ hb
  · rw [e] at hb
    unfold frs at hb
    rw [List.filterMap_cons, hf] at hb
    exact hb
theorem Inv.stkFree (I : Inv X pins σ H s) : ∀ b ∈ frs X.stack, H b = none := fun b hb => by
  rcases List.mem_cons.mp (I.stkSub b hb) with e | hb
  · rw [e]; exact I.free
  · obtain ⟨_, o, ho, _⟩ := I.ok.funs.mem hb
    exact I.base.free b o ho (I.ok.frf b hb) fun z => I.ok.exfs b z hb

/-- THE STEP: the untracked objects but the frame and the records at ch are kept (the callers' frames up to slots), the frame's map is kept, the new abstract heap is held -/
theorem Inv.step {g' : Array GenState} {t' : Nat} {d' : Drawn} {ch : List Addr} (I : Inv X pins σ H s)
    (hch : ∀ b ∈ ch, (b ∈ X.ex ∨ X.s₀.heap.objs.size ≤ b) ∧ b ≠ X.env.locals ∧ (∀ x c, X.env.cells.lookup x = some c → c ≠ b) ∧ ∀ p ∈ X.pn ++ pins, p.1 ≠ b)
    (keep : ∀ b o, b ≠ X.env.locals → b ∉ X.fs → b ∉ ch → s.heap.get? b = some o → H b = none → h'.get? b = some o)
    (slot : ∀ b o, b ≠ X.env.locals → b ∈ X.fs → b ∉ ch → s.heap.get? b = some o → H b = none → ∃ sl, h'.get? b = some { o with slots := sl }) (free : ∀ b o, b ∉ ch → s.heap.get? b = some o → H b = none → H' b = none)
    (there : ∀ b o, b ∉ ch → s.heap.get? b = some o → ∃ o', h'.get? b = some o')
    (tups : ∀ b xs, H b = some (.tup xs) → H' b = some (.tup xs)) (frzs : ∀ b o u, H b = some (.frz o u) → H' b = some (.frz o u)) (tbls : ∀ b ps, H b = some (.tbl ps) → ∃ more, H' b = some (.tbl (ps ++ more)))
    (ns : ∀ m, s.heap.Ns X.env.locals m → h'.Ns X.env.locals m) (hok : HOk X.prog X.w H' h') (hg : AllBare g') :
    Inv X pins σ H' { s with heap := h', gens := g', drawn := d', toks := t' } := by
  have neL : ∀ b o, X.s₀.heap.get? b = some o → b ≠ X.env.locals := fun b o e => Nat.ne_of_lt (Nat.lt_of_lt_of_le (Heap.lt_size e) I.ok.above)
  have neC : ∀ b o, X.s₀.heap.get? b = some o → b ∉ X.ex → b ∉ ch := fun b o e hx hb => by
    rcases (hch b hb).1 with z | z
    · exact hx z
    · exact absurd (Nat.lt_of_lt_of_le (Heap.lt_size e) z) (Nat.lt_irrefl _)
  have cellK : ∀ x c, X.env.cells.lookup x = some c → ∀ v, s.heap.IsCell c v → h'.IsCell c v := fun x c e v ⟨o, ho, hd⟩ => by
    have nch : c ∉ ch := fun z => (hch c z).2.2.1 x c e rfl
    by_cases hc : c ∈ X.fs
    · obtain ⟨sl, q⟩ := slot c o (I.cne x c e) hc nch ho (I.freeC x c e)
      exact ⟨_, q, hd⟩
    · exact ⟨o, keep c o (I.cne x c e) hc nch ho (I.freeC x c e), hd⟩
  refine ⟨I.ok, I.os, hg, ⟨fun b o e n hb hx => ?_, fun b o e n hb hx => ?_, fun b o e n hx => ?_, fun b o e hx => ?_, fun b xs e => tups b xs (I.base.tups b xs e), fun b o xs e => frzs b o xs (I.base.frzs b o xs e), fun b ps e => ?_⟩, ?_, fun x c e => ?_, ?_, fun x c e => ?_, fun p hp => ?_, hok, I.len⟩
  · exact keep b o (neL b o e) hb (neC b o e hx) (I.base.keep b o e n hb hx) (I.base.free b o e n hx)
  · obtain ⟨sl, e1⟩ := I.base.slot b o e n hb hx
    obtain ⟨sl', e2⟩ := slot b _ (neL b o e) hb (neC b o e hx) e1 (I.base.free b o e n hx)
    exact ⟨sl', e2⟩
  · obtain ⟨o', e1⟩ := I.base.there b o e hx
    exact free b o' (neC b o e hx) e1 (I.base.free b o e n hx)
  · obtain ⟨o', e1⟩ := I.base.there b o e hx
    exact there b o' (neC b o e hx) e1
  · obtain ⟨m1, e1⟩ := I.base.tbls b ps e
    obtain ⟨m2, e2⟩ := tbls b _ e1
    exact ⟨m1 ++ m2, by rw [e2, Array.append_assoc]⟩
  · obtain ⟨m, hn, hl⟩ := I.loc
    refine ⟨m, ns m hn, fun i x v e1 e2 e3 => ?_⟩
    obtain ⟨u, r, l⟩ := hl i x v e1 e2 e3
    refine ⟨u, r, ?_⟩
    rcases l with l | ⟨k, c, e, z⟩
    · exact .inl l
    · exact .inr ⟨k, c, e, cellK x c e _ z⟩
  · obtain ⟨v, z⟩ := I.cell x c e
    exact ⟨v, cellK x c e v z⟩
  · obtain ⟨m, ⟨o, _, _, ho, _⟩, _⟩ := I.loc
    exact free _ o (fun z => (hch _ z).2.1 rfl) ho I.free
  · obtain ⟨v, o, ho, hd⟩ := I.cell x c e
    exact free c o (fun z => (hch c z).2.2.1 x c e rfl) ho (I.freeC x c e)
  · obtain ⟨e, n, ne, nf, d⟩ := I.pin p hp
    have nch : p.1 ∉ ch := fun z => (hch p.1 z).2.2.2 p hp rfl
    exact ⟨keep p.1 p.2 ne nf nch e n, free p.1 p.2 nch e n, ne, nf, d⟩
/-- .. where the frame's own object is kept too -/
theorem Inv.un {t' : Nat} (I : Inv X pins σ H s) (u : Un X.fs [] H H' s.heap h') (hok : HOk X.prog X.w H' h') : Inv X pins σ H' { s with heap := h', toks := t' } := by
  obtain ⟨m, ⟨o, es, ep, ho, r⟩, _⟩ := id I.loc
  obtain ⟨sl, hL⟩ := u.any ho I.free (by simp)
  exact I.step (g' := s.gens) (d' := s.drawn) (ch := []) (fun _ z => nomatch z) (fun b o _ hb _ e n => u.keep b o e n hb (by simp)) (fun b o _ hb _ e n => u.slot b o e n hb (by simp)) (fun b o _ e n => u.free b o e n (by simp)) (fun b o _ e => u.there b o e (by simp)) u.tups u.frzs u.tbls (fun m' hm => by
    obtain ⟨o', es', ep', ho', r'⟩ := hm
    rw [ho] at ho'; cases ho'
    exact ⟨_, es', ep', hL, r'⟩) hok I.bare
/-- behind a call (or a comprehension's block): the slots of this frame may have changed too, the records at ch may have turned -/
theorem Inv.call {g' : Array GenState} {t' : Nat} {d' : Drawn} {ch : List Addr} (I : Inv X pins σ H s) (u : Un (frs X.stack) ch H H' s.heap h') (hok : HOk X.prog X.w H' h') (hg : AllBare g')
    (hch : ∀ b ∈ ch, (b ∈ X.ex ∨ X.s₀.heap.objs.size ≤ b) ∧ b ≠ X.env.locals ∧ (∀ x c, X.env.cells.lookup x = some c → c ≠ b) ∧ ∀ p ∈ X.pn ++ pins, p.1 ≠ b) :
    Inv X pins σ H' { s with heap := h', gens := g', drawn := d', toks := t' } := by
  obtain ⟨m, ⟨o, es, ep, ho, r⟩, _⟩ := id I.loc
  obtain ⟨sl, hL⟩ := u.any ho I.free fun z => (hch _ z).2.1 rfl
  exact I.step (ch := ch) hch (fun b o hL hb hc e n => u.keep b o e n (fun z => (List.mem_cons.mp (I.stkSub b z)).elim hL hb) hc) (fun b o _ _ hc e n => u.any e n hc) (fun b o hc e n => u.free b o e n hc) (fun b o hc e => u.there b o e hc) u.tups u.frzs u.tbls (fun m' hm => by
    obtain ⟨o', es', ep', ho', r'⟩ := hm
    rw [ho] at ho'; cases ho'
    exact ⟨_, es', ep', hL, r'⟩) hok hg
/-- an untracked record of ours (an iterator) has turned -/
theorem Inv.turned {t' : Nat} {it : Addr} (I : Inv X pins σ H s) (k : ∀ b o, b ≠ it → s.heap.get? b = some o → h'.get? b = some o) (hn : H it = none) (hL : it ≠ X.env.locals)
    (h1 : it ∈ X.ex ∨ X.s₀.heap.objs.size ≤ it) (h2 : ∀ x c, X.env.cells.lookup x = some c → c ≠ it) (h3 : ∀ p ∈ X.pn ++ pins, p.1 ≠ it) : Inv X pins σ H { s with heap := h', toks := t' } := by
  have nit : ∀ b u, H b = some u → b ≠ it := fun b u e z => by rw [z, hn] at e; cases e
  refine I.step (g' := s.gens) (d' := s.drawn) (ch := [it]) (fun b hb => ?_) (fun b o _ _ hc e _ => k b o (fun z => hc (by simp [z])) e) (fun b o _ _ hc e _ => ⟨o.slots, k b o (fun z => hc (by simp [z])) e⟩) (fun _ _ _ _ n => n)
    (fun b o hc e => ⟨o, k b o (fun z => hc (by simp [z])) e⟩) (fun _ _ e => e) (fun _ _ _ e => e) (fun b ps e => ⟨#[], by rw [e]; simp⟩) (fun m hm => ?_) (fun b u e => ?_) I.bare
  · have e : b = it := by simpa using hb
    subst e
    exact ⟨h1, hL, h2, h3⟩
  · obtain ⟨o, es, ep, ho, r⟩ := hm
    exact ⟨o, es, ep, k _ o (Ne.symm hL) ho, r⟩
  · refine (I.hok b u e).stay (fun c v hc q => k c v ?_ q) (fun _ q => q) fun _ _ q => q
    rcases hc with z | z
    · rw [z]; exact nit b u e
    · exact nit c _ z
theorem Inv.tok (I : Inv X pins σ H s) (t : Nat) : Inv X pins σ H { s with toks := t } := I.un (h' := s.heap) (t' := t) Un.refl I.hok
/-- all objects kept -/
theorem Inv.kept {t' : Nat} (I : Inv X pins σ H s) (k : ∀ b u, s.heap.get? b = some u → h'.get? b = some u) : Inv X pins σ H { s with heap := h', toks := t' } := I.un (Un.kept k) (I.hok.kept k)
/-- a new object laid and tracked -/
theorem Inv.laid {a : Addr} {o : HO} {t' : Nat} (I : Inv X pins σ H s) (k : ∀ b u, s.heap.get? b = some u → h'.get? b = some u) (hp : s.heap.objs.size ≤ a) (new : ObjOk X.prog X.w (upd H a o) h' a o) :
    Inv X pins σ (upd H a o) { s with heap := h', toks := t' } := I.un (Un.laid k hp (I.hok.fresh hp)) (I.hok.laid k hp new)
/-- an object written -/
theorem Inv.write {x e : Addr} {o : HO} {t' : Nat} (I : Inv X pins σ H s) (mu : Mut (H x)) (he : e = x ∨ H e = some (.own x)) (k : ∀ b u, b ≠ e → s.heap.get? b = some u → h'.get? b = some u) (heo : ∃ u, h'.get? e = some u)
    (new : ObjOk X.prog X.w (upd H x o) h' x o) : Inv X pins σ (upd H x o) { s with heap := h', toks := t' } := I.un (Un.write mu he k heo) (I.hok.write mu he k heo new)
theorem Inv.pins_of {pins' : List (Addr × Obj)} (I : Inv X pins σ H s) (h : ∀ p ∈ pins', s.heap.get? p.1 = some p.2 ∧ H p.1 = none ∧ p.1 ≠ X.env.locals ∧ p.1 ∉ X.fs ∧ ∀ v, p.2.data ≠ .cell v) : Inv X pins' σ H s :=
  ⟨I.ok, I.os, I.bare, I.base, I.loc, I.cell, I.free, I.freeC, fun p hp => (List.mem_append.mp hp).elim (fun z => I.pin p (List.mem_append_left _ z)) (h p), I.hok, I.len⟩

theorem nodup_ix {N : List Str} (hN : N.Nodup) {i j : Nat} {x : Str} (a : N[i]? = some x) (b : N[j]? = some x) : i = j := by
  obtain ⟨h1, e1⟩ := List.getElem?_eq_some_iff.mp a
  obtain ⟨h2, e2⟩ := List.getElem?_eq_some_iff.mp b
  exact (List.getElem_inj hN).mp (e1.trans e2.symm)

/-- a name is stored; what changed -/
theorem store_ok2 {M : Model} {A : Around} {E : Value → Shared → Prop} {i : Nat} {x : Str} {v : V} {u : Value} {Q : Unit → Shared → Prop} (I : Inv X pins σ H s) (hN : X.N.Nodup) (hi : X.N[i]? = some x) (hx : Loc X.env.scope x) (r : RelV v u)
    (h : ∀ s', Inv X pins (σ.set i (some v)) H s' → (∃ a, Heap.SameBut a s.heap s'.heap ∧ (a = X.env.locals ∨ X.env.cells.lookup x = some a)) → Q () s') (hf : X.fn x = true ∨ X.env.scope.names.lookup x = some .local := by first | exact .inl rfl | exact .inr rfl | assumption) : wpAny M A (storeName X.env x u) Q E s := by
  obtain ⟨m, hn, hl⟩ := id I.loc
  have hcls : (X.env.scope.kind == .class || (X.env.scope.kind == .module && X.env.locals != X.env.globals)) = false := by rw [I.ok.kind]; rfl
  have hiσ : i < σ.length := by rw [I.len]; exact (List.getElem?_eq_some_iff.mp hi).1
  have cne := I.cne
  have tracked : ∀ {a : Addr} {h' : Heap}, (∃ o, s.heap.get? a = some o ∧ H a = none) → Heap.SameBut a s.heap h' → HOk X.prog X.w H h' := fun {a h'} ha hs b ob e => by
    obtain ⟨_, _, hfree⟩ := ha
    refine (I.hok b ob e).stay (fun c w' hc q => (hs.2 c ?_).trans q) (fun _ q => q) fun _ _ q => q
    rintro rfl
    rcases hc with rfl | hc
    · rw [hfree] at e; cases e
    · rw [hfree] at hc; cases hc
  rcases hx with hk | hk
  · refine wpAny_storeName_local hk hn (fun h' hn' hs => ?_) hcls
    obtain ⟨oL, _, _, hoL, _⟩ := id hn
    refine h _ ⟨I.ok, I.os, I.bare, ⟨fun b o e n hb hx => ?_, fun b o e n hb hx => ?_, I.base.free, fun b o e hx => ?_, I.base.tups, I.base.frzs, I.base.tbls⟩, ⟨_, hn', fun j y v' e1 e2 e3 => ?_⟩, fun y c e => ?_, I.free, I.freeC, fun p hp => ?_, tracked ⟨oL, hoL, I.free⟩ hs, by simpa using I.len⟩ ⟨_, hs, .inl rfl⟩
    · exact (hs.2 b (Nat.ne_of_lt (Nat.lt_of_lt_of_le (Heap.lt_size e) I.ok.above))).trans (I.base.keep b o e n hb hx)
    · obtain ⟨sl, e1⟩ := I.base.slot b o e n hb hx
      exact ⟨sl, (hs.2 b (Nat.ne_of_lt (Nat.lt_of_lt_of_le (Heap.lt_size e) I.ok.above))).trans e1⟩
    · obtain ⟨o', e1⟩ := I.base.there b o e hx
      exact ⟨o', (hs.2 b (Nat.ne_of_lt (Nat.lt_of_lt_of_le (Heap.lt_size e) I.ok.above))).trans e1⟩
    · by_cases hj : j = i
      · subst hj
        rw [hi] at e1; cases e1
        rw [List.getElem?_set_self hiσ] at e2
        cases e2
        exact ⟨u, r, .inl ⟨hk, by simp⟩⟩
      · rw [List.getElem?_set_ne (Ne.symm hj)] at e2
        obtain ⟨u', r', q⟩ := hl j y v' e1 e2 e3
        refine ⟨u', r', ?_⟩
        rcases q with ⟨k, e⟩ | ⟨k, c, e, z⟩
        · refine .inl ⟨k, ?_⟩
          have : y ≠ x := fun e => hj (nodup_ix hN e1 (e ▸ hi))
          simp [this, e]
        · exact .inr ⟨k, c, e, z.sameBut hs (cne y c e)⟩
    · obtain ⟨w', z⟩ := I.cell y c e
      exact ⟨w', z.sameBut hs (cne y c e)⟩
    · obtain ⟨e, n, ne, nf, d⟩ := I.pin p hp
      exact ⟨(hs.2 p.1 ne).trans e, n, ne, nf, d⟩
  · have hfn : X.fn x = true := by
      rcases hf with z | z
      · exact z
      · rw [z] at hk; cases hk
    obtain ⟨c, hc⟩ := I.ok.has x (.inl hk)
    obtain ⟨w', z⟩ := I.cell x c hc
    refine wpAny_storeName_cell I.ok.kind hk hc z (fun h' hc' hs => ?_)
    obtain ⟨oc, hoc, hocd⟩ := id z
    refine h { s with heap := h' } ⟨I.ok, I.os, I.bare, ⟨fun b o e n hb hx => ?_, fun b o e n hb hx => ?_, I.base.free, fun b o e hx => ?_, I.base.tups, I.base.frzs, I.base.tbls⟩, ⟨m, hn.sameBut hs (Ne.symm (cne x c hc)), fun j y v' e1 e2 e3 => ?_⟩, fun y c' e => ?_, I.free, I.freeC, fun p hp => ?_, tracked ⟨oc, hoc, I.freeC x c hc⟩ hs, by simpa using I.len⟩ ⟨c, hs, .inr hc⟩
    · exact (hs.2 b (Nat.ne_of_lt (Nat.lt_of_lt_of_le (Heap.lt_size e) (I.ok.cab x c hfn hc)))).trans (I.base.keep b o e n hb hx)
    · obtain ⟨sl, e1⟩ := I.base.slot b o e n hb hx
      exact ⟨sl, (hs.2 b (Nat.ne_of_lt (Nat.lt_of_lt_of_le (Heap.lt_size e) (I.ok.cab x c hfn hc)))).trans e1⟩
    · obtain ⟨o', e1⟩ := I.base.there b o e hx
      exact ⟨o', (hs.2 b (Nat.ne_of_lt (Nat.lt_of_lt_of_le (Heap.lt_size e) (I.ok.cab x c hfn hc)))).trans e1⟩
    · by_cases hj : j = i
      · subst hj
        rw [hi] at e1; cases e1
        rw [List.getElem?_set_self hiσ] at e2
        cases e2
        exact ⟨u, r, .inr ⟨.inl hk, c, hc, hc'⟩⟩
      · rw [List.getElem?_set_ne (Ne.symm hj)] at e2
        obtain ⟨u', r', q⟩ := hl j y v' e1 e2 e3
        refine ⟨u', r', ?_⟩
        rcases q with q | ⟨k, c', e, z'⟩
        · exact .inl q
        · refine .inr ⟨k, c', e, z'.sameBut hs ?_⟩
          rintro rfl
          exact hj (nodup_ix hN e1 (I.ok.inj _ _ _ e hc ▸ hi))
    · by_cases hcc : c' = c
      · subst hcc; exact ⟨_, hc'⟩
      · obtain ⟨w2, z2⟩ := I.cell y c' e
        exact ⟨w2, z2.sameBut hs hcc⟩
    · obtain ⟨e, n, ne, nf, d⟩ := I.pin p hp
      refine ⟨(hs.2 p.1 ?_).trans e, n, ne, nf, d⟩
      intro q
      rw [q, hoc] at e
      have q' : oc = p.2 := Option.some.inj e
      exact d w' (by rw [← q']; exact hocd)
theorem store_ok {M : Model} {A : Around} {E : Value → Shared → Prop} {i : Nat} {x : Str} {v : V} {u : Value} {Q : Unit → Shared → Prop} (I : Inv X pins σ H s) (hN : X.N.Nodup) (hi : X.N[i]? = some x) (hx : Loc X.env.scope x) (r : RelV v u)
    (h : ∀ s', Inv X pins (σ.set i (some v)) H s' → Q () s') (hf : X.fn x = true ∨ X.env.scope.names.lookup x = some .local := by first | exact .inl rfl | exact .inr rfl | assumption) : wpAny M A (storeName X.env x u) Q E s :=
  store_ok2 I hN hi hx r (fun s' I' _ => h s' I') hf
/-- behind a call or a block, the state as it is -/
theorem Inv.call' {s' : Shared} {ch : List Addr} (I : Inv X pins σ H s) (ho : s'.os = s.os) (u : Un (frs X.stack) ch H H' s.heap s'.heap) (hok : HOk X.prog X.w H' s'.heap) (hg : AllBare s'.gens)
    (hch : ∀ b ∈ ch, (b ∈ X.ex ∨ X.s₀.heap.objs.size ≤ b) ∧ b ≠ X.env.locals ∧ (∀ x c, X.env.cells.lookup x = some c → c ≠ b) ∧ ∀ p ∈ X.pn ++ pins, p.1 ≠ b) : Inv X pins σ H' s' := by
  obtain ⟨h', g', d', t', o'⟩ := s'
  have e : o' = s.os := ho
  subst e
  exact I.call (g' := g') (t' := t') (d' := d') u hok hg hch
end
/-- an exception: its class, its own dict's address (where it has one), the abstract heap behind it -/
abbrev XK := Value → Option Addr → Hp → Prop
abbrev St := List (Option V)
abbrev VK := V → Hp → Prop
/-- an expression's reading; a test's; an argument list's -/
abbrev TE := St → Hp → VK → Prop
abbrev TT := St → Hp → (Bool → Hp → Prop) → Prop
abbrev TA := St → Hp → (List V → Hp → Prop) → Prop
/-- what is wanted behind a statement -/
structure Ends where
  nx : St → Hp → Prop
  rt : VK
  bk : St → Hp → Prop := fun _ _ => False
  ct : St → Hp → Prop := fun _ _ => False
abbrev TS := Ends → St → Hp → Prop

def EP (X : Cx) (pins : List (Addr × Obj)) (σ : St) (Q : VK) (u : Value) (s' : Shared) : Prop := ∃ v H', Inv X pins σ H' s' ∧ RelV v u ∧ Q v H'
def TP (X : Cx) (pins : List (Addr × Obj)) (σ : St) (Q : Bool → Hp → Prop) (b : Bool) (s' : Shared) : Prop := ∃ H', Inv X pins σ H' s' ∧ Q b H'
def SP (X : Cx) (pins : List (Addr × Obj)) (D : Ends) (f : Flow) (s' : Shared) : Prop :=
  match f with
  | .next => ∃ σ' H', Inv X pins σ' H' s' ∧ D.nx σ' H'
  | .brk => ∃ σ' H', Inv X pins σ' H' s' ∧ D.bk σ' H'
  | .cont => ∃ σ' H', Inv X pins σ' H' s' ∧ D.ct σ' H'
  | .ret u => ∃ v σ' H', Inv X pins σ' H' s' ∧ RelV v u ∧ D.rt v H'

def PE (X : Cx) (e : Expr) (t : TE) : Prop :=
  ∀ (pins : List (Addr × Obj)) (s : Shared) (σ : St) (H : Hp) (Q : VK), Inv X pins σ H s → t σ H Q → wpAny (model X.prog X.w) X.A (eval e X.env) (EP X pins σ Q) X.xe s
def PT (X : Cx) (e : Expr) (t : TT) : Prop :=
  ∀ (pins : List (Addr × Obj)) (s : Shared) (σ : St) (H : Hp) (Q : Bool → Hp → Prop), Inv X pins σ H s → t σ H Q → wpAny (model X.prog X.w) X.A (isTrue e X.env (eval e X.env)) (TP X pins σ Q) X.xe s
/-- a test whatever its 'whole' is (and, or) -/
def PW (X : Cx) (e : Expr) (t : TT) : Prop :=
  ∀ (whole : Sem Value) (pins : List (Addr × Obj)) (s : Shared) (σ : St) (H : Hp) (Q : Bool → Hp → Prop), Inv X pins σ H s → t σ H Q → wpAny (model X.prog X.w) X.A (isTrue e X.env whole) (TP X pins σ Q) X.xe s
theorem PW.pt {X : Cx} {e : Expr} {t : TT} (h : PW X e t) : PT X e t := h _
def PSs (X : Cx) (st : List Stmt) (t : TS) : Prop :=
  ∀ (pins : List (Addr × Obj)) (s : Shared) (σ : St) (H : Hp) (D : Ends), Inv X pins σ H s → t D σ H → wpAny (model X.prog X.w) X.A (execs st X.env) (SP X pins D) X.xe s
/-- weaken the end -/
theorem thn {α : Type} {t : Sem α} {Q Q' : α → Shared → Prop} {M : Model} {A : Around} {E : Value → Shared → Prop} {s : Shared} (h : wpAny M A t Q E s) (hQ : ∀ a s, Q a s → Q' a s) : wpAny M A t Q' E s := wpAny_mono h hQ fun _ _ x => x
section
variable {X : Cx}
def tVar (i : Nat) : TE := fun σ H Q => ∃ v, σ[i]? = some (some v) ∧ Q v H
def tC (v : V) : TE := fun _ H Q => Q v H
theorem pe_var {i : Nat} {x : Str} {pos : Pos} (hN : X.N[i]? = some x) (hv : Vis X.env.scope x) (hd : (x == ("__debug__" : Str)) = false := by decide) (hcd : (x == ("__classdict__" : Str)) = false := by decide) : PE X (.Name x pos) (tVar i) := by
  intro pins s σ H Q I h
  obtain ⟨v, e, h⟩ := h
  obtain ⟨m, hn, hl⟩ := I.loc
  obtain ⟨u, r, l⟩ := hl i x v hN e hv
  have fin : EP X pins σ Q u s := ⟨v, H, I, r, h⟩
  rcases l with ⟨hk, hm⟩ | ⟨hk, c, hc, hcell⟩
  · exact wpAny_Name (wpAny_loadName_local I.ok.kind hk hn hm fin) hd
  · rcases hk with hk | hk
    · exact wpAny_Name (wpAny_loadName_cell I.ok.kind hk hc hcell fin) hd
    · exact wpAny_Name (wpAny_loadName_free I.ok.kind hk hc hcell fin hcd) hd
theorem pe_int {i j pos} : PE X (.Constant (.int i) j pos) (tC (.int i)) := fun _ _ _ H _ I h => wpAny_Constant_int ⟨.int i, H, I.tok _, ⟨_, rfl⟩, h⟩
theorem pe_bl {b j pos} : PE X (.Constant (.bool b) j pos) (tC (.bl b)) := fun _ _ _ H _ I h => Constant_bool ⟨.bl b, H, I, rfl, h⟩
theorem pe_non {j pos} : PE X (.Constant .none j pos) (tC .non) := fun _ _ _ H _ I h => Constant_none ⟨.non, H, I, rfl, h⟩
theorem pe_str {x j pos} : PE X (.Constant (.str x) j pos) (tC (.str x)) := fun _ _ _ H _ I h => Calls.Constant_str ⟨.str x, H, I.tok _, ⟨_, rfl⟩, h⟩

/-- a global name of the def -/
def Gl (X : Cx) (x : Str) : Prop := X.env.kindOf x = some .globalImplicit
theorem ld_glob {E : Value → Shared → Prop} {pins : List (Addr × Obj)} {s : Shared} {σ : St} {H : Hp} {x : Str} {u : Value} {pos : Pos} {Q : Value → Shared → Prop} (I : Inv X pins σ H s) (hg : Gl X x) (hm : X.mg x = some u) (h : Q u s)
    (hd : (x == ("__debug__" : Str)) = false := by decide) : wpAny (model X.prog X.w) X.A (eval (.Name x pos) X.env) Q E s :=
  Calls.Name_function_global I.ok.kind hg (Calls.loadGlobal_global (by rw [I.ok.glob]; exact I.mod.glob.keeps I.bk) hm h) hd
theorem ld_blt {E : Value → Shared → Prop} {pins : List (Addr × Obj)} {s : Shared} {σ : St} {H : Hp} {x : Str} {u : Value} {pos : Pos} {Q : Value → Shared → Prop} (I : Inv X pins σ H s) (hg : Gl X x) (hm : X.mg x = none) (hv : bootBuiltins x = some u) (h : Q u s)
    (hn : x ≠ "__name__" := by decide) (hd : (x == ("__debug__" : Str)) = false := by decide) : wpAny (model X.prog X.w) X.A (eval (.Name x pos) X.env) Q E s := by
  obtain ⟨mb, h1, h2⟩ := I.mod.blt
  exact Calls.Name_function_global I.ok.kind hg (Calls.loadGlobal_builtin (by rw [I.ok.glob]; exact I.mod.glob.keeps I.bk) hm (by rw [I.ok.blt]; exact h1.keeps I.bk) ((h2 x hn).trans hv) h) hd
/-- a module's constant, a class, a function, as a value -/
theorem pe_glob {x : Str} {v : V} {u : Value} {pos : Pos} (hg : Gl X x) (hm : X.mg x = some u) (r : RelV v u) (hd : (x == ("__debug__" : Str)) = false := by decide) : PE X (.Name x pos) (tC v) :=
  fun _ _ _ H _ I h => ld_glob I hg hm ⟨v, H, I, r, h⟩ hd
/-- two ints -/
def t2I (ta tb : TE) (k : Int → Int → Hp → Prop) : St → Hp → Prop := fun σ H => ta σ H fun x H1 => tb σ H1 fun y H2 => ∃ i j, x = .int i ∧ y = .int j ∧ k i j H2
def tAdd (ta tb : TE) : TE := fun σ H Q => t2I ta tb (fun i j H2 => Q (.int (i + j)) H2) σ H
variable {a b : Expr} {ta tb : TE} {pos : Pos}
theorem nobehind (b : Expr) {op : CmpOp} (h : op ≠ .In) (h2 : op ≠ .NotIn) : behindInMarks op b = false := by
  have e1 : (op == CmpOp.In) = false := by cases op <;> first | rfl | exact absurd rfl h
  have e2 : (op == CmpOp.NotIn) = false := by cases op <;> first | rfl | exact absurd rfl h2
  cases b <;> simp [behindInMarks, e1, e2]
theorem RelV.none_iff {x : V} {v : Value} (r : RelV x v) : (v == Value.none) = decide (x = .non) := by
  cases x with
  | non => cases r; rfl
  | bl _ => cases r; rfl
  | int _ => obtain ⟨t, rfl⟩ := r; rfl
  | str _ => obtain ⟨t, rfl⟩ := r; rfl
  | byt _ => obtain ⟨t, rfl⟩ := r; rfl
  | flt _ => obtain ⟨t, rfl⟩ := r; rfl
  | ref _ => cases r; rfl
  | ty _ => cases r; rfl
variable {tA tB' : TT} {rest : List Expr}
def tAnd (t u : TT) : TT := fun σ H Q => t σ H fun c H1 => if c = true then u σ H1 Q else Q false H1
def tOr (t u : TT) : TT := fun σ H Q => t σ H fun c H1 => if c = true then Q true H1 else u σ H1 Q
def tNot (t : TT) : TT := fun σ H Q => t σ H fun c H1 => Q (!c) H1
end
def SqL (K : PySem.W.Frag) (H : Hp) (a : Addr) (xs : List V) : Prop :=
  Rd H a (.lst xs) ∨
    ∃ (o : Obj) (its : Array Value) (n : Nat), K.lookup a = some o ∧ o.cls = .type "list" ∧ o.dict = none ∧ o.data = .seq its n ∧ its.size ≤ sizeLine ∧ Vals xs its.toList
def SqT (K : PySem.W.Frag) (H : Hp) (a : Addr) (xs : List V) : Prop :=
  Rd H a (.tup xs) ∨
    ∃ (o : Obj) (its : Array Value) (n : Nat), K.lookup a = some o ∧ o.cls = .type "tuple" ∧ o.data = .seq its n ∧ its.size ≤ sizeLine ∧ Vals xs its.toList
def absV : Value → Option V
  | .none => some .non
  | .bool b => some (.bl b)
  | .int i _ => some (.int i)
  | .str x _ => some (.str x)
  | .bytes b _ => some (.byt b)
  | .float b _ => some (.flt b)
  | .ref a => some (.ref a)
  | .type n => some (.ty n)
  | _ => none
theorem RelV.abs {x : V} {u : Value} (r : RelV x u) : absV u = some x := by
  cases x with
  | non => cases r; rfl
  | bl _ => cases r; rfl
  | int _ => obtain ⟨t, rfl⟩ := r; rfl
  | str _ => obtain ⟨t, rfl⟩ := r; rfl
  | byt _ => obtain ⟨t, rfl⟩ := r; rfl
  | flt _ => obtain ⟨t, rfl⟩ := r; rfl
  | ref _ => cases r; rfl
  | ty _ => cases r; rfl
theorem RelV.inj {x y : V} {u : Value} (r : RelV x u) (q : RelV y u) : x = y := Option.some.inj (r.abs.symm.trans q.abs)
theorem Vals.inj : ∀ {xs ys : List V} {us : List Value}, Vals xs us → Vals ys us → xs = ys
  | _, _, _, .nil, .nil => rfl
  | _, _, _, .cons r t, .cons r' t' => by rw [r.inj r', Vals.inj t t']
section
variable {X : Cx} {pins : List (Addr × Obj)} {σ : St} {H : Hp} {s : Shared} {a : Addr} {xs ys : List V}
theorem SqL.of {K : PySem.W.Frag} (h : H a = some (.lst xs)) : SqL K H a xs := .inl (.inl h)
theorem SqT.of {K : PySem.W.Frag} (h : H a = some (.tup xs)) : SqT K H a xs := .inl (.inl h)
theorem Inv.list (I : Inv X pins σ H s) (h : SqL X.K H a xs) : ∃ its : List Value, Vals xs its ∧ PlainL s.heap a its.toArray ∧ xs.length ≤ sizeLine := by
  rcases h with h | ⟨o, its, n, hk, hc, hd, hs, hz, r⟩
  · obtain ⟨z, its, n, r, e⟩ := h.ok I.hok
    exact ⟨its, r, ⟨_, n, e, rfl, rfl, rfl⟩, z⟩
  · refine ⟨its.toList, r, ⟨o, n, I.kIn a o hk, hc, hd, by simpa using hs⟩, ?_⟩
    have e := r.length
    simp only [Array.length_toList] at e
    omega
theorem Inv.tuple (I : Inv X pins σ H s) (h : SqT X.K H a xs) : ∃ its : List Value, Vals xs its ∧ IsTup s.heap a its.toArray ∧ xs.length ≤ sizeLine := by
  rcases h with h | ⟨o, its, n, hk, hc, hs, hz, r⟩
  · obtain ⟨z, its, r, p⟩ := h.ok I.hok
    exact ⟨its, r, p, z⟩
  · refine ⟨its.toList, r, ⟨o, I.kIn a o hk, hc, n, by simpa using hs⟩, ?_⟩
    have e := r.length
    simp only [Array.length_toList] at e
    omega
theorem Inv.list_inj (I : Inv X pins σ H s) (h : SqL X.K H a xs) (h' : SqL X.K H a ys) : xs = ys := by
  obtain ⟨its, r, ⟨o, n, e, _, _, d⟩, _⟩ := I.list h
  obtain ⟨its', r', ⟨o', n', e', _, _, d'⟩, _⟩ := I.list h'
  rw [e] at e'; cases e'
  rw [d] at d'
  injection d' with d1 _
  have : its = its' := by simpa using congrArg Array.toList d1
  subst this
  exact r.inj r'
theorem Inv.tuple_inj (I : Inv X pins σ H s) (h : SqT X.K H a xs) (h' : SqT X.K H a ys) : xs = ys := by
  obtain ⟨its, r, ⟨o, e, _, n, d⟩, _⟩ := I.tuple h
  obtain ⟨its', r', ⟨o', e', _, n', d'⟩, _⟩ := I.tuple h'
  rw [e] at e'; cases e'
  rw [d] at d'
  injection d' with d1 _
  have : its = its' := by simpa using congrArg Array.toList d1
  subst this
  exact r.inj r'
end
abbrev Cx.wish (X : Cx) (E : Value → Shared → Prop) : Cx := { X with xe := E }
/-- no exception leaves -/
abbrev Cx.nox (X : Cx) : Cx := X.wish fun _ _ => False
theorem Cx.Ok.wish {X : Cx} (ok : X.Ok) (E : Value → Shared → Prop) : (X.wish E).Ok :=
  ⟨ok.mod, ok.kind, ok.glob, ok.blt, ok.above, ok.inj, ok.has, ok.cab, ok.hd, ok.frames, ok.stk, ok.exf, ok.bs, ok.bsz, ok.noex, ok.exfs, ok.funs, ok.frf⟩
theorem Cx.Ok.unwish {X : Cx} {E : Value → Shared → Prop} (ok : (X.wish E).Ok) : X.Ok :=
  ⟨ok.mod, ok.kind, ok.glob, ok.blt, ok.above, ok.inj, ok.has, ok.cab, ok.hd, ok.frames, ok.stk, ok.exf, ok.bs, ok.bsz, ok.noex, ok.exfs, ok.funs, ok.frf⟩
section
variable {X : Cx} {pins : List (Addr × Obj)} {σ : St} {H : Hp} {s : Shared} {E : Value → Shared → Prop}
theorem Inv.wish (I : Inv X pins σ H s) (E : Value → Shared → Prop) : Inv (X.wish E) pins σ H s := ⟨I.ok.wish E, I.os, I.bare, I.base, I.loc, I.cell, I.free, I.freeC, I.pin, I.hok, I.len⟩
theorem Inv.unwish (I : Inv (X.wish E) pins σ H s) : Inv X pins σ H s := ⟨I.ok.unwish, I.os, I.bare, I.base, I.loc, I.cell, I.free, I.freeC, I.pin, I.hok, I.len⟩
theorem SP.unwish {D : Ends} {f : Flow} {s' : Shared} (h : SP (X.wish E) pins D f s') : SP X pins D f s' := by
  cases f with
  | next => obtain ⟨σ', H', I, q⟩ := h; exact ⟨σ', H', I.unwish, q⟩
  | brk => obtain ⟨σ', H', I, q⟩ := h; exact ⟨σ', H', I.unwish, q⟩
  | cont => obtain ⟨σ', H', I, q⟩ := h; exact ⟨σ', H', I.unwish, q⟩
  | ret u => obtain ⟨v, σ', H', I, r, q⟩ := h; exact ⟨v, σ', H', I.unwish, r, q⟩
theorem PE.nox {e : Expr} {t : TE} (h : PE X.nox e t) : PE X e t := fun pins s σ H Q I hw =>
  wpAny_mono (h pins s σ H Q (I.wish _) hw) (fun _ _ ⟨v, H', I', r, q⟩ => ⟨v, H', I'.unwish, r, q⟩) fun _ _ z => False.elim z
theorem PT.nox {e : Expr} {t : TT} (h : PT X.nox e t) : PT X e t := fun pins s σ H Q I hw =>
  wpAny_mono (h pins s σ H Q (I.wish _) hw) (fun _ _ ⟨H', I', q⟩ => ⟨H', I'.unwish, q⟩) fun _ _ z => False.elim z
theorem PSs.nox {st : List Stmt} {t : TS} (h : PSs X.nox st t) : PSs X st t := fun pins s σ H D I hw =>
  wpAny_mono (h pins s σ H D (I.wish _) hw) (fun _ _ q => q.unwish) fun _ _ z => False.elim z
end
section
variable {X : Cx} {st : Stmt} {rest : List Stmt} {t u : TS} {e : Expr} {te : TE} {pos : Pos}
/-- in a def's body nothing is shown -/
theorem Inv.quiet {pins : List (Addr × Obj)} {σ : St} {H : Hp} {s : Shared} (I : Inv X pins σ H s) : interactive X.env = false := by simp [interactive, I.ok.kind]
/-- an expression whose value is dropped -/
def tDrop (te : TE) : TS := fun D σ H => te σ H fun _ H1 => D.nx σ H1
end
/-- at turn i: it yields x (the heap may grow), or it stops -/
structure It where
  go : Nat → Hp → Prop
  yld : Nat → Hp → V → Hp → Prop
  stop : Nat → Hp → Prop
/-- the iterator's own objects may turn: they are not the frame's, not pinned, younger than the entry (or a comprehension's own) -/
def FpOk (X : Cx) (pins : List (Addr × Obj)) (H : Hp) (b : Addr) : Prop :=
  H b = none ∧ b ≠ X.env.locals ∧ b ∉ X.fs ∧ (b ∈ X.ex ∨ X.s₀.heap.objs.size ≤ b) ∧ (∀ x c, X.env.cells.lookup x = some c → c ≠ b) ∧ ∀ p ∈ X.pn ++ pins, p.1 ≠ b
theorem Inv.fpOk {X : Cx} {pins : List (Addr × Obj)} {σ : St} {H H' : Hp} {s : Shared} {b : Addr} (I : Inv X pins σ H s) (hb : s.heap.objs.size ≤ b) (hn : H' b = none) : FpOk X pins H' b := by
  refine ⟨hn, Nat.ne_of_gt (Nat.lt_of_lt_of_le I.lt hb), I.nofs hb, .inr (Nat.le_trans I.sz hb), fun x c e z => ?_, fun p hp z => ?_⟩
  · obtain ⟨v, q⟩ := I.cell x c e
    exact absurd (Nat.lt_of_lt_of_le q.lt (by rw [z]; exact hb)) (Nat.lt_irrefl _)
  · exact absurd (Nat.lt_of_lt_of_le (Heap.lt_size (I.pin p hp).1) (by rw [z]; exact hb)) (Nat.lt_irrefl _)
structure Turn (P : Program) (w : World) (K : PySem.W.Frag) (tg : Expr) (J : It) (fp : List Addr) (it : Addr) (tn : Nat → Heap → Prop) : Prop where
  mem : it ∈ fp
  obj : ∀ i h, tn i h → ∀ b ∈ fp, ∃ o, h.get? b = some o ∧ ∀ v, o.data ≠ .cell v
  keep : ∀ i h h', tn i h → (∀ b ∈ fp, ∀ o, h.get? b = some o → h'.get? b = some o) → tn i h'
  item : ∀ (X : Cx), X.prog = P → X.w = w → X.K = K → X.calm = true → ∀ (i : Nat) (pins : List (Addr × Obj)) (s : Shared) (σ : St) (H : Hp) (E : Value → Shared → Prop), Inv X pins σ H s → (∀ b ∈ fp, FpOk X pins H b) → tn i s.heap → J.go i H →
    wpAny (model P w) X.A (pyNext (.ref it)) (fun r s1 => ∃ u, r = some u ∧
      wpAny (model P w) X.A (letOwnedTupleGo tg (.ref it) u) (fun _ s2 => ∃ x H', Inv X pins σ H' s2 ∧ RelV x u ∧ J.yld i H x H' ∧ tn (i + 1) s2.heap ∧ ∀ b ∈ fp, H' b = none) E s1) E s
  done : ∀ (X : Cx), X.prog = P → X.w = w → X.K = K → X.calm = true → ∀ (i : Nat) (pins : List (Addr × Obj)) (s : Shared) (σ : St) (H : Hp) (E : Value → Shared → Prop), Inv X pins σ H s → (∀ b ∈ fp, FpOk X pins H b) → tn i s.heap → J.stop i H →
    wpAny (model P w) X.A (pyNext (.ref it)) (fun r s1 => r = none ∧ Inv X pins σ H s1) E s
  self : ∀ (A : Around) (i : Nat) (s : Shared) (Q : Value → Shared → Prop) (E : Value → Shared → Prop), tn i s.heap → Q (.ref it) s → wpAny (model P w) A (pyIter (.ref it)) Q E s
abbrev TI := St → Hp → (It → Hp → Prop) → Prop
/-- an iterator has come -/
def PIE (X : Cx) (pins : List (Addr × Obj)) (σ : St) (tg : Expr) (R : It → Hp → Prop) (itv : Value) (s2 : Shared) : Prop :=
  ∃ (it : Addr) (fp : List Addr) (tn : Nat → Heap → Prop) (J : It) (H' : Hp), itv = .ref it ∧ Inv X pins σ H' s2 ∧ Turn X.prog X.w X.K tg J fp it tn ∧ tn 0 s2.heap ∧ (∀ b ∈ fp, FpOk X pins H' b) ∧ R J H'
/-- the step ahead of the store is nothing for an iterator that keeps no tuple -/
theorem go_of {M : Model} {A : Around} {E : Value → Shared → Prop} {s : Shared} {tg : Expr} {it : Addr} {u : Value} {o : Obj} {n : String} {vs : Array Value} {Q : Unit → Shared → Prop} (ho : s.heap.get? it = some o) (hc : o.cls = .type n) (hd : o.data = .fields vs)
    (hn : ["enumerate", "zip", "dict_itemiterator", "dict_reverseitemiterator", "odict_iterator", "itertools.zip_longest", "itertools.pairwise"].contains n = false) (hQ : Q () s) : wpAny M A (letOwnedTupleGo tg (.ref it) u) Q E s := by
  unfold letOwnedTupleGo
  cases tg <;> first
    | exact wpAny_pure hQ
    | (cases u <;> first
        | exact wpAny_pure hQ
        | (refine wpAny_bind (wpAny_load ho ?_)
           rw [hc, hd]
           show wpAny M A (if (["enumerate", "zip", "dict_itemiterator", "dict_reverseitemiterator", "odict_iterator", "itertools.zip_longest", "itertools.pairwise"].contains n && vs[0]? == some (rawInt _)) = true then _ else _) Q E s
           rw [if_neg (by intro h; rw [hn, Bool.false_and] at h; cases h)]
           exact wpAny_pure hQ))

/-- the list at a, as it stands at each turn (a loop may append to it) -/
def Itl (K : PySem.W.Frag) (a : Addr) : It :=
  ⟨fun i H => ∃ xs x, SqL K H a xs ∧ xs[i]? = some x, fun i H x H' => H' = H ∧ ∀ xs, SqL K H a xs → xs[i]? = some x, fun i H => ∃ xs, SqL K H a xs ∧ xs.length ≤ i⟩
def Itt (K : PySem.W.Frag) (a : Addr) : It :=
  ⟨fun i H => ∃ xs x, SqT K H a xs ∧ xs[i]? = some x, fun i H x H' => H' = H ∧ ∀ xs, SqT K H a xs → xs[i]? = some x, fun i H => ∃ xs, SqT K H a xs ∧ xs.length ≤ i⟩
theorem turn_list {P : Program} {w : World} {K : PySem.W.Frag} {tg : Expr} (a it : Addr) : Turn P w K tg (Itl K a) [it] it (fun i h => h.IsListIter it a i) where
  mem := by simp
  obj := fun i h st b hb => by
    have e : b = it := by simpa using hb
    subst e
    obtain ⟨o, e, c, d⟩ := st
    exact ⟨o, e, fun v z => by rw [d] at z; cases z⟩
  keep := fun i h h' st k => st.at fun o e => k it (by simp) o e
  item := by
    intro X hP hw hK hc i pins s σ H E I hf st hg
    subst hP hw hK
    obtain ⟨xs, x, hq, hx⟩ := hg
    obtain ⟨its, rv, p, hz⟩ := I.list hq
    obtain ⟨u, hu, ru⟩ := rv.get hx
    obtain ⟨f0, f1, f2, f3, f4, f5⟩ := hf it (by simp)
    refine wpAny_pyNext_list_item st p.isList (x := u) (by simpa using hu) fun h' st' sb => ?_
    have I1 : Inv X pins σ H { s with heap := h' } := I.turned (t' := s.toks) (fun b o hb e => (sb.2 b hb).trans e) f0 f1 f3 f4 f5
    obtain ⟨o, e, c, d⟩ := id st'
    exact ⟨u, rfl, go_of (s := { s with heap := h' }) e c d (by decide) ⟨x, H, I1, ru, ⟨rfl, fun ys hy => by rw [I.list_inj hy hq]; exact hx⟩, st', fun b hb => (hf b hb).1⟩⟩
  done := by
    intro X hP hw hK hc i pins s σ H E I hf st hg
    subst hP hw hK
    obtain ⟨xs, hq, hx⟩ := hg
    obtain ⟨its, rv, p, hz⟩ := I.list hq
    obtain ⟨f0, f1, f2, f3, f4, f5⟩ := hf it (by simp)
    have hl := rv.length
    exact wpAny_pyNext_list_end (I.ok.hd hc) st p.isList (by simp; omega) fun h' eb => ⟨rfl, I.turned (t' := s.toks) (fun b o hb e => eb b o hb e) f0 f1 f3 f4 f5⟩
  self := fun _ _ _ _ _ st h => wpAny_pyIter_listiter st h
theorem turn_tuple {P : Program} {w : World} {K : PySem.W.Frag} {tg : Expr} (a it : Addr) : Turn P w K tg (Itt K a) [it] it (fun i h => h.IsTupleIter it a i) where
  mem := by simp
  obj := fun i h st b hb => by
    have e : b = it := by simpa using hb
    subst e
    obtain ⟨o, e, c, d⟩ := st
    exact ⟨o, e, fun v z => by rw [d] at z; cases z⟩
  keep := fun i h h' st k => st.at fun o e => k it (by simp) o e
  item := by
    intro X hP hw hK hc i pins s σ H E I hf st hg
    subst hP hw hK
    obtain ⟨xs, x, hq, hx⟩ := hg
    obtain ⟨its, rv, p, hz⟩ := I.tuple hq
    obtain ⟨u, hu, ru⟩ := rv.get hx
    obtain ⟨f0, f1, f2, f3, f4, f5⟩ := hf it (by simp)
    refine wpAny_pyNext_tuple_item st (show s.heap.IsTuple a its.toArray from p) (x := u) (by simpa using hu) fun h' st' sb => ?_
    have I1 : Inv X pins σ H { s with heap := h' } := I.turned (t' := s.toks) (fun b o hb e => (sb.2 b hb).trans e) f0 f1 f3 f4 f5
    obtain ⟨o, e, c, d⟩ := id st'
    exact ⟨u, rfl, go_of (s := { s with heap := h' }) e c d (by decide) ⟨x, H, I1, ru, ⟨rfl, fun ys hy => by rw [I.tuple_inj hy hq]; exact hx⟩, st', fun b hb => (hf b hb).1⟩⟩
  done := by
    intro X hP hw hK hc i pins s σ H E I hf st hg
    subst hP hw hK
    obtain ⟨xs, hq, hx⟩ := hg
    obtain ⟨its, rv, p, hz⟩ := I.tuple hq
    obtain ⟨f0, f1, f2, f3, f4, f5⟩ := hf it (by simp)
    have hl := rv.length
    exact wpAny_pyNext_tuple_end (I.ok.hd hc) st (show s.heap.IsTuple a its.toArray from p) (by simp; omega) fun h' eb => ⟨rfl, I.turned (t' := s.toks) (fun b o hb e => eb b o hb e) f0 f1 f3 f4 f5⟩
  self := fun _ _ _ _ _ st h => wpAny_pyIter_tupleiter st h
section
variable {X : Cx} {tg : Expr}
/-- the records at fp as they stand -/
def pinsAt (fp : List Addr) (h : Heap) : List (Addr × Obj) := fp.filterMap fun b => (h.get? b).map fun o => (b, o)
theorem mem_pinsAt {fp : List Addr} {h : Heap} {b : Addr} {o : Obj} (hb : b ∈ fp) (e : h.get? b = some o) : (b, o) ∈ pinsAt fp h := List.mem_filterMap.mpr ⟨b, hb, by rw [e]; rfl⟩
theorem of_pinsAt {fp : List Addr} {h : Heap} {p : Addr × Obj} (hp : p ∈ pinsAt fp h) : p.1 ∈ fp ∧ h.get? p.1 = some p.2 := by
  obtain ⟨b, hb, e⟩ := List.mem_filterMap.mp hp
  cases q : h.get? b with
  | none => rw [q] at e; cases e
  | some o =>
    rw [q] at e
    have e' : (b, o) = p := Option.some.inj e
    subst e'
    exact ⟨hb, q⟩
theorem Inv.pinned {pins : List (Addr × Obj)} {σ : St} {H : Hp} {s : Shared} {fp : List Addr} (I : Inv X pins σ H s) (hf : ∀ b ∈ fp, FpOk X pins H b) (ho : ∀ b ∈ fp, ∃ o, s.heap.get? b = some o ∧ ∀ v, o.data ≠ .cell v) : Inv X (pins ++ pinsAt fp s.heap) σ H s :=
  I.pins_of fun p hp => (List.mem_append.mp hp).elim (fun z => I.pin p (List.mem_append_right _ z)) fun z => by
    obtain ⟨hb, e⟩ := of_pinsAt z
    obtain ⟨f0, f1, f2, _⟩ := hf p.1 hb
    obtain ⟨o, e', d⟩ := ho p.1 hb
    rw [e] at e'; cases e'
    exact ⟨e, f0, f1, f2, d⟩
theorem Inv.unpinned {pins pl : List (Addr × Obj)} {σ : St} {H : Hp} {s : Shared} (I : Inv X (pins ++ pl) σ H s) : Inv X pins σ H s := I.pins_of fun p hp => I.pin p (List.mem_append_right _ (List.mem_append_left _ hp))
end
abbrev R2 := V → V → Hp → VK → Prop
/-- a two-place operation on values: f is binaryOp op, inplaceOp op or compareOp op -/
def OpR (X : Cx) (f : Value → Value → Sem Value) (r : R2) : Prop :=
  ∀ (pins : List (Addr × Obj)) (s : Shared) (σ : St) (H : Hp) (x y : V) (v u : Value) (Q : VK), Inv X pins σ H s → RelV x v → RelV y u → r x y H Q →
    wpAny (model X.prog X.w) X.A (f v u) (EP X pins σ Q) X.xe s
/-- a call of a value that is known (a builtin, a type) with values -/
def CallR (X : Cx) (f : Value) (r : List V → Hp → VK → Prop) : Prop :=
  ∀ (pins : List (Addr × Obj)) (s : Shared) (σ : St) (H : Hp) (xs : List V) (us : List Value) (Q : VK), Inv X pins σ H s → Vals xs us → r xs H Q →
    wpAny (model X.prog X.w) X.A (call f us) (EP X pins σ Q) X.xe s
section
variable {X : Cx} {a b c : Expr} {ta tb tc : TE} {pos : Pos}
def CMul (i j : Int) : Prop := (-(2 ^ 64) < i ∧ i < 2 ^ 64) ∨ (-(2 ^ 64) < j ∧ j < 2 ^ 64)
theorem CMul.ok {i j : Int} (h : CMul i j) : IntMulOk i j := by
  rcases h with ⟨h1, h2⟩ | ⟨h1, h2⟩
  · exact .of_left (intBits_le_64 h1 h2)
  · exact .of_right (intBits_le_64 h1 h2)
theorem nomark (b : Expr) {op : CmpOp} (h : op ≠ .In := by decide) (h2 : op ≠ .NotIn := by decide) : behindInMarks op b = false := by
  have e1 : (op == CmpOp.In) = false := by cases op <;> first | rfl | exact absurd rfl h
  have e2 : (op == CmpOp.NotIn) = false := by cases op <;> first | rfl | exact absurd rfl h2
  cases b <;> simp [behindInMarks, e1, e2]
theorem line63 : (sizeLine : Nat) < 2 ^ 63 := by rw [sizeLine_eq]; decide
theorem op_add_str : OpR X (binaryOp .Add) (fun x y H Q => ∃ i j, x = .str i ∧ y = .str j ∧ i.length + j.length ≤ sizeLine ∧ Q (.str (i ++ j)) H) := by
  intro pins s σ H x y v u Q I rx ry h
  obtain ⟨i, j, rfl, rfl, hz, q⟩ := h
  obtain ⟨t, rfl⟩ := rx
  obtain ⟨t', rfl⟩ := ry
  exact add_str (fun t' tk => ⟨.str (i ++ j), H, I.tok _, ⟨_, rfl⟩, q⟩) hz
theorem vals1 {x : V} {us : List Value} (r : Vals [x] us) : ∃ u, us = [u] ∧ RelV x u := by
  cases r with
  | cons r1 r2 => cases r2; exact ⟨_, rfl, r1⟩
theorem vals2 {x y : V} {us : List Value} (r : Vals [x, y] us) : ∃ u w', us = [u, w'] ∧ RelV x u ∧ RelV y w' := by
  cases r with
  | cons r1 r2 =>
    cases r2 with
    | cons r3 r4 => cases r4; exact ⟨_, _, rfl, r1, r3⟩
end
structure Cls (K : PySem.W.Frag) (C : Addr) : Prop where
  pg : PySem.W.plainGet K C Str.empty = true
  hd : PySem.W.hasDictIn K C = true
  po : PySem.W.plainOver K C = true
  sa : PySem.W.findIn K (.ref C) "__setattr__" = some (some (.builtin "object.__setattr__"))
theorem Cls.get {K : PySem.W.Frag} {C : Addr} (c : Cls K C) (f : Str) : PySem.W.plainGet K C f = true := c.pg
section
variable {X : Cx} {pins : List (Addr × Obj)} {σ : St} {H : Hp} {s : Shared} {a C dx : Addr} {fs : List (Str × V)} {f : Str} {v : V} {A : Around} {E : Value → Shared → Prop}
/-- a new instance, tracked, without attributes -/
theorem Inv.made (I : Inv X pins σ H s) : Inv X pins σ (upd (upd H s.heap.objs.size (.own (s.heap.objs.size + 1))) (s.heap.objs.size + 1) (.ins C s.heap.objs.size []))
    { s with heap := (s.heap.push PySem.W.emptyDict).push (PySem.W.instObj C s.heap.objs.size) } := by
  have e1 : (s.heap.push PySem.W.emptyDict).get? s.heap.objs.size = some PySem.W.emptyDict := Heap.get?_push_size s.heap rfl
  have e2 : ((s.heap.push PySem.W.emptyDict).push (PySem.W.instObj C s.heap.objs.size)).get? (s.heap.objs.size + 1) = some (PySem.W.instObj C s.heap.objs.size) := by
    have := Heap.get?_push_size (s.heap.push PySem.W.emptyDict) (o := PySem.W.instObj C s.heap.objs.size) rfl
    rwa [Heap.size_push] at this
  have e3 : (s.heap.push PySem.W.emptyDict).Ns s.heap.objs.size (fun _ => none) := ⟨PySem.W.emptyDict, #[], _, e1, rfl, (fun e he => absurd he (by simp)), fun _ => rfl⟩
  have I1 := I.laid (a := s.heap.objs.size) (o := .own (s.heap.objs.size + 1)) (h' := s.heap.push PySem.W.emptyDict) (t' := s.toks) (fun b u q => Heap.get?_push_of_some _ q) (Nat.le_refl _) ⟨_, e1⟩
  refine I1.laid (a := s.heap.objs.size + 1) (o := .ins C s.heap.objs.size []) (t' := s.toks) (fun b u q => Heap.get?_push_of_some _ q) (Nat.le_of_eq (Heap.size_push _ _)) ?_
  have ne : s.heap.objs.size ≠ s.heap.objs.size + 1 := Nat.ne_of_lt (Nat.lt_succ_self _)
  refine ⟨by rw [upd_ne ne, upd_same], Nat.zero_le _, ne, e2, fun _ => none, (Heap.Ns1.of_empty e3).at fun o q => Heap.get?_push_of_some _ q, fun _ => True.intro, fun y hy => absurd rfl hy⟩

end
structure Room (k : Nat) (A : Around) : Prop where
  hd : A.handled = none
  dp : A.depth + 3 * k + 5 < recursionLimit
  un : A.units + 16 * k + 200 < cLine
theorem Room.mono {j k : Nat} {A : Around} (r : Room k A) (h : j ≤ k) : Room j A := ⟨r.hd, by have := r.dp; omega, by have := r.un; omega⟩
theorem Room.deeper {k : Nat} {A : Around} (r : Room (k + 1) A) (env : Env) : Room k (A.deeper env) :=
  ⟨r.hd, by have := r.dp; show A.depth + 1 + 3 * k + 5 < _; omega, by have := r.un; show A.units + 3 + 16 * k + 200 < _; omega⟩
theorem Room.in1 {k : Nat} {A : Around} (r : Room (k + 1) A) : Room k A.in1 :=
  ⟨r.hd, by have := r.dp; show A.depth + 3 * k + 5 < _; omega, by have := r.un; show A.units + 1 + 16 * k + 200 < _; omega⟩
theorem Room.depth {k : Nat} {A : Around} (r : Room k A) : A.depth < recursionLimit := by have := r.dp; omega
theorem Room.units {k : Nat} {A : Around} (r : Room k A) : A.units + 64 < cLine := by have := r.un; omega
/-- a def's promise: the bound arguments in the parameters' order, the heap, the wanted end, the wanted exception -/
abbrev Sp := List V → Hp → VK → XK → Prop
/-- how an exception lies behind a call (file 08 gives it): the callers' frames, abstract heap and state ahead of the call, the wish, the exception, the state -/
abbrev CXT := List Env → Hp → Shared → XK → Value → Shared → Prop

/-- the state at a call -/
structure Env0 (P : Program) (w : World) (K : PySem.W.Frag) (mg : Str → Option Value) (base : Heap) (A : Around) (outer : List Env) (s : Shared) (H : Hp) : Prop where
  frames : A.frames = some outer
  mod : Mod K mg base
  bs : ∀ b o, base.get? b = some o → s.heap.get? b = some o ∧ H b = none
  bsz : base.objs.size ≤ s.heap.objs.size
  funs : s.heap.FunFrames base outer
  frf : ∀ b ∈ frs outer, H b = none
  hok : HOk P w H s.heap
  bare : AllBare s.gens
/-- a call's end -/
def CE (outer : List Env) (P : Program) (w : World) (H : Hp) (s : Shared) (Q : VK) (u : Value) (s' : Shared) : Prop :=
  ∃ v H', s'.os = s.os ∧ AllBare s'.gens ∧ Un (frs outer) [] H H' s.heap s'.heap ∧ HOk P w H' s'.heap ∧ RelV v u ∧ Q v H'
def CR (CX : CXT) (outer : List Env) (P : Program) (w : World) (H : Hp) (s : Shared) (Q : VK) (E : XK) (r : Result) (s' : Shared) : Prop :=
  match r with
  | .ok (.ret u) => CE outer P w H s Q u s'
  | .ok _ => False
  | .error e => CX outer H s E e s'
structure FnOk (P : Program) (w : World) (K : PySem.W.Frag) (mg : Str → Option Value) (base : Heap) (CX : CXT) (k : Nat) (f : Addr) (fd : FuncData) (ps : List Str) (sp : Sp) : Prop where
  len : ∀ vs H Q E, sp vs H Q E → vs.length = ps.length
  run : ∀ (A : Around) (outer : List Env) (s : Shared) (H : Hp) (args : Args) (us : List Value) (vs : List V) (Q : VK) (E : XK), Room k A → Env0 P w K mg base A outer s H → BindsTo s fd args (ps.zip us) → Vals vs us → sp vs H Q E →
    codeAny (model P w) A (.call (.ref f) args) (CR CX outer P w H s Q E) s
theorem FnOk.mono {P : Program} {w : World} {K : PySem.W.Frag} {mg : Str → Option Value} {base : Heap} {CX : CXT} {j k : Nat} {f : Addr} {fd : FuncData} {ps : List Str} {sp : Sp} (F : FnOk P w K mg base CX j f fd ps sp) (h : j ≤ k) :
    FnOk P w K mg base CX k f fd ps sp := ⟨F.len, fun A outer s H args us vs Q E hr => F.run A outer s H args us vs Q E (hr.mono h)⟩
theorem Env0.in1 {P : Program} {w : World} {K : PySem.W.Frag} {mg : Str → Option Value} {base : Heap} {A : Around} {outer : List Env} {s : Shared} {H : Hp} (e : Env0 P w K mg base A outer s H) :
    Env0 P w K mg base A.in1 outer s H := ⟨e.frames, e.mod, e.bs, e.bsz, e.funs, e.frf, e.hok, e.bare⟩

section
variable {X : Cx} {pins : List (Addr × Obj)} {σ : St} {H : Hp} {s s' : Shared}
/-- from a body: what a callee wants -/
theorem Inv.env0 (I : Inv X pins σ H s) : Env0 X.prog X.w X.K X.mg X.base X.A X.stack s H :=
  ⟨I.ok.frames, I.ok.mod, I.bs, Nat.le_trans I.ok.bsz I.sz, I.stack, I.stkFree, I.hok, I.bare⟩
/-- behind a call -/
theorem Inv.after {Q : VK} {u : Value} (I : Inv X pins σ H s) (h : CE X.stack X.prog X.w H s Q u s') : EP X pins σ Q u s' := by
  obtain ⟨v, H', os, bare, un, hok, r, q⟩ := h
  obtain ⟨hh, g, d, t, os'⟩ := s'
  obtain rfl : os' = s.os := os
  exact ⟨v, H', I.call (h' := hh) (g' := g) (d' := d) (t' := t) (ch := []) un hok bare (fun b z => absurd z (by simp)), r, q⟩
end
/-- how the parameters are bound: us the positional arguments, kw the keywords' values by name, ds the defaults that fill up -/
def Binds (K : PySem.W.Frag) (fd : FuncData) (ps : List Str) (ds : List Value) : Prop :=
  ∀ (s : Shared) (us : List Value), K.In s.heap → (us ++ ds).length = ps.length → BindsTo s fd ⟨us, []⟩ (ps.zip (us ++ ds))
/-- every parameter is given -/
theorem Binds.all {K : PySem.W.Frag} {fd : FuncData} {ps : List Str} (h : ∀ us : List Value, us.length = ps.length → bindArgs fd ⟨us, []⟩ = pure (ps.zip us)) : Binds K fd ps [] := fun s us _ hl => by
  rw [List.append_nil] at hl ⊢
  exact .of_eq (h us hl)

/-- names: the parameters first -/
structure FnScope (N P : List Str) (sc : Scope) : Prop where
  kind : sc.kind = .function
  co : sc.isCoroutine = false
  gen : sc.isGenerator = false
  nd : N.Nodup
  pre : N.take P.length = P
  par : ∀ x ∈ P, sc.names.lookup x = some .local ∨ sc.names.lookup x = some .cell
  nofree : ∀ y ∈ sc.names, y.2 ≠ .free

theorem bindL_out {kindOf : Str → Option NameKind} {x : Str} : ∀ {binds : List (Str × Value)} {m : Str → Option Value}, (∀ v, (x, v) ∉ binds) → bindL kindOf binds m x = m x
  | [], _, _ => rfl
  | (n, v) :: r, m, h => by
    unfold bindL
    rw [bindL_out fun w hw => h w (List.mem_cons_of_mem _ hw)]
    split
    · have : x ≠ n := by rintro rfl; exact h v List.mem_cons_self
      simp [this]
    · rfl
theorem bindC_out {kindOf : Str → Option NameKind} {x : Str} : ∀ {binds : List (Str × Value)} {m : Str → Option Value}, (∀ v, (x, v) ∉ binds) → bindC kindOf binds m x = m x
  | [], _, _ => rfl
  | (n, v) :: r, m, h => by
    unfold bindC
    rw [bindC_out fun w hw => h w (List.mem_cons_of_mem _ hw)]
    split
    · rfl
    · have : x ≠ n := by rintro rfl; exact h v List.mem_cons_self
      simp [this]
theorem bindL_get {kindOf : Str → Option NameKind} {x : Str} {v : Value} : ∀ {P : List Str} {vs : List Value} {i : Nat} {m : Str → Option Value}, P.Nodup → P[i]? = some x → vs[i]? = some v → kindOf x = some .local →
    bindL kindOf (P.zip vs) m x = some v
  | [], _, _, _, _, h, _, _ => by simp at h
  | _ :: _, [], _, _, _, _, h, _ => by simp at h
  | p :: P, w :: vs, 0, m, nd, h1, h2, hk => by
    simp at h1 h2; subst h1; subst h2
    show bindL kindOf ((p, w) :: P.zip vs) m p = _
    unfold bindL
    rw [bindL_out fun v hv => (List.nodup_cons.mp nd).1 (List.of_mem_zip hv).1, if_pos hk]
    simp
  | p :: P, w :: vs, i + 1, m, nd, h1, h2, hk => by
    show bindL kindOf ((p, w) :: P.zip vs) m x = _
    unfold bindL
    exact bindL_get (i := i) (List.nodup_cons.mp nd).2 (by simpa using h1) (by simpa using h2) hk
theorem bindC_get {kindOf : Str → Option NameKind} {x : Str} {v : Value} : ∀ {P : List Str} {vs : List Value} {i : Nat} {m : Str → Option Value}, P.Nodup → P[i]? = some x → vs[i]? = some v → kindOf x ≠ some .local →
    bindC kindOf (P.zip vs) m x = some v
  | [], _, _, _, _, h, _, _ => by simp at h
  | _ :: _, [], _, _, _, _, h, _ => by simp at h
  | p :: P, w :: vs, 0, m, nd, h1, h2, hk => by
    simp at h1 h2; subst h1; subst h2
    show bindC kindOf ((p, w) :: P.zip vs) m p = _
    unfold bindC
    rw [bindC_out fun v hv => (List.nodup_cons.mp nd).1 (List.of_mem_zip hv).1, if_neg hk]
    simp
  | p :: P, w :: vs, i + 1, m, nd, h1, h2, hk => by
    show bindC kindOf ((p, w) :: P.zip vs) m x = _
    unfold bindC
    exact bindC_get (i := i) (List.nodup_cons.mp nd).2 (by simpa using h1) (by simpa using h2) hk

/-- the names' values at the entry -/
def start (N : List Str) (vs : List V) : St := vs.map some ++ List.replicate (N.length - vs.length) none

/-- the context of a def's body, at its entry; an exception leaves the frame, then lies as CX says -/
def cxOf (CX : CXT) (P : Program) (w : World) (K : PySem.W.Frag) (mg : Str → Option Value) (base : Heap) (N : List Str) (qual : Str) (scope : Scope) (f : Addr) (cd : Value) (A : Around) (outer : List Env) (s : Shared) (H : Hp) (E : XK) : Cx where
  prog := P
  w := w
  K := K
  mg := mg
  base := base
  A := A.deeper (envOfC qual scope s.heap.objs.size f cd)
  N := N
  s₀ := s
  H₀ := H
  env := envOfC qual scope s.heap.objs.size f cd
  outer := outer
  stack := envOfC qual scope s.heap.objs.size f cd :: outer
  ex := []
  calm := true
  fn := fun _ => true
  pn := []
  xe := fun e s' => wpAny (model P w) (A.deeper (envOfC qual scope s.heap.objs.size f cd)) (leaving (envOfC qual scope s.heap.objs.size f cd) e) (fun _ s'' => CX outer H s E e s'') (fun e' s'' => CX outer H s E e' s'') s'

theorem cell_has {sc : Scope} {n : Nat} {x : Str} (h : sc.names.lookup x = some .cell) : ∃ c, (cellsFrom n sc.names []).lookup x = some c := by
  have q := PySem.W.cellsFrom_some sc.names n [] (.inl h)
  exact Option.isSome_iff_exists.mp q

theorem inv_start {CX : CXT} {P : Program} {w : World} {K : PySem.W.Frag} {mg : Str → Option Value} {base : Heap} {N ps : List Str} {qual : Str} {scope : Scope} {f : Addr} {cd : Value} {A : Around} {outer : List Env} {s s1 : Shared} {H : Hp} {E : XK} {us : List Value} {vs : List V}
    (S : FnScope N ps scope) (hd : A.handled = none) (e0 : Env0 P w K mg base A outer s H) (hl : vs.length = ps.length) (r : Vals vs us)
    (x : InCallC s s.heap.objs.size (bindL (envOfC qual scope s.heap.objs.size f cd).kindOf (ps.zip us) fun _ => none) (cellsFrom (s.heap.objs.size + 1) scope.names []) (bindC (envOfC qual scope s.heap.objs.size f cd).kindOf (ps.zip us) fun _ => none) s1) :
    Inv (cxOf CX P w K mg base N qual scope f cd A outer s H E) [] (start N vs) H s1 := by
  have hpl : ps.length ≤ N.length := by have := congrArg List.length S.pre; rw [List.length_take] at this; omega
  obtain ⟨h1, tk, rfl, hk⟩ := x.done
  have noA : ∀ b : Addr, b ∉ (cxOf CX P w K mg base N qual scope f cd A outer s H E).ex := fun b z => absurd (show b ∈ ([] : List Addr) from z) (by simp)
  refine ⟨⟨e0.mod, S.kind, rfl, rfl, Nat.le_refl _, fun y z c h1 h2 => ?_, fun y hy => ?_, fun y c _ h => ?_, fun _ => hd, Around.frames_deeper e0.frames, .inr ⟨rfl, rfl⟩, fun b z => absurd z (noA b), e0.bs, e0.bsz, fun b _ _ => noA b, fun b z => absurd z (noA b), e0.funs, e0.frf⟩,
    rfl, e0.bare, Un.kept hk, ⟨_, x.toInCall.ns, fun i y v h1 h2 h3 => ?_⟩, fun y c h => ⟨_, x.cell y c h⟩, e0.hok.fresh (Nat.le_refl _), fun y c h => ?_, fun p hp => absurd (show p ∈ ([] : List (Addr × Obj)) from hp) (by simp), e0.hok.kept hk, ?_⟩
  · exact name_of_addr x.apart (PySem.mem_of_lookup h1) (PySem.mem_of_lookup h2)
  · have hy : scope.names.lookup y = some .cell ∨ scope.names.lookup y = some .free := hy
    rcases hy with hy | hy
    · exact cell_has hy
    · exact absurd rfl (S.nofree _ (PySem.mem_of_lookup hy))
  · exact Nat.le_of_lt (x.above y c (PySem.mem_of_lookup h))
  · have hi : i < vs.length := by
      unfold start at h2
      by_cases hi : i < vs.length
      · exact hi
      · rw [List.getElem?_append_right (by simpa using hi)] at h2
        rw [List.getElem?_replicate] at h2
        split at h2 <;> cases h2
    have ha : vs[i]? = some v := by
      unfold start at h2
      rw [List.getElem?_append_left (by simpa using hi), List.getElem?_map] at h2
      cases e : vs[i]? with
      | none => rw [e] at h2; cases h2
      | some a => rw [e] at h2; cases h2; rfl
    obtain ⟨u, hu, rv⟩ := r.get ha
    have hp : ps[i]? = some y := by
      rw [← S.pre, List.getElem?_take_of_lt (by omega)]; exact h1
    have ndP : ps.Nodup := by rw [← S.pre]; exact S.nd.sublist (List.take_sublist _ _)
    refine ⟨u, rv, ?_⟩
    rcases S.par y (List.mem_of_getElem? hp) with k | k
    · exact .inl ⟨k, bindL_get ndP hp hu k⟩
    · obtain ⟨c, e⟩ := cell_has (n := s.heap.objs.size + 1) k
      refine .inr ⟨.inl k, c, e, ?_⟩
      have q := x.cell y c e
      rw [bindC_get ndP hp hu (by show scope.names.lookup y ≠ _; rw [k]; decide)] at q
      exact q
  · exact e0.hok.fresh (Nat.le_of_lt (x.above y c (PySem.mem_of_lookup h)))
  · unfold start
    show _ = N.length
    rw [List.length_append, List.length_map, List.length_replicate]
    omega

/-- THE RULE: a def (or a method) of the text, by its body. The body's reading t is chosen for each entry; it is run at the parameters' values -/
theorem fn_of {CX : CXT} {P : Program} {w : World} {K : PySem.W.Frag} {mg : Str → Option Value} {base : Heap} {k : Nat} {f : Addr} {name qual : Str} {params : Arguments} {body : List Stmt} {scope : Scope} {dV kV doc pm cdv ct oc : Value} {an od : Option Addr}
    {osl : Array (Option Value)} {N ps : List Str} {sp : Sp} (lk : K.lookup f = some ⟨oc, od, .func (PySem.W.fnOf name qual params body scope dV kV doc pm an cdv ct), osl⟩) (hcd : PySem.W.codeIn K cdv qual = true) (S : FnScope N ps scope)
    (len : ∀ vs H Q E, sp vs H Q E → vs.length = ps.length)
    (hbody : ∀ (A : Around) (outer : List Env) (s : Shared) (H : Hp) (vs : List V) (Q : VK) (E : XK), Room k (A.deeper (envOfC qual scope s.heap.objs.size f cdv)) → sp vs H Q E →
      ∃ t, PSs (cxOf CX P w K mg base N qual scope f cdv A outer s H E) body t ∧ t { nx := fun _ H' => Q .non H', rt := Q } (start N vs) H) :
    FnOk P w K mg base CX (k + 1) f (PySem.W.fnOf name qual params body scope dV kV doc pm an cdv ct) ps sp := by
  refine ⟨len, fun A outer s H args us vs Q E hr e0 hb r hsp => ?_⟩
  have hl := len _ _ _ _ hsp
  have KX : K.In s.heap := e0.mod.kin.keeps fun b o e => (e0.bs b o e).1
  have lim : s.heap.NoLimit := e0.mod.nolimit.keeps fun b o e => (e0.bs b o e).1
  have hkind : ∀ y ∈ ps.zip us, scope.names.lookup y.1 = some .local ∨ (scope.names.lookup y.1 = some .cell ∧ ((cellsFrom (s.heap.objs.size + 1) scope.names []).lookup y.1).isSome = true) := fun ⟨n, v⟩ hy => by
    rcases S.par n (List.of_mem_zip hy).1 with q | q
    · exact .inl q
    · exact .inr ⟨q, PySem.W.cellsFrom_some _ _ _ (.inl q)⟩
  refine codeAny_call_function hr.depth (KX _ _ lk) rfl S.co S.gen rfl (PySem.W.codeRec_of KX hcd) (hb _ _ _ _ ?_)
  refine wpAny_newFunctionEnv_cells S.kind hkind fun env he s1 x => ?_
  subst he
  refine ⟨lim.keeps x.toInCall.keep, codeAny_func ?_⟩
  obtain ⟨t, ht, hq⟩ := hbody A outer s H vs Q E (hr.deeper _) hsp
  have I : Inv (cxOf CX P w K mg base N qual scope f cdv A outer s H E) [] (start N vs) H s1 := inv_start S hr.hd e0 hl r x
  refine wpAny_mono (ht [] s1 (start N vs) H _ I hq) (fun fl s' hs => ?_) fun e s' hs => hs
  have fin : ∀ {σ' : St} {H' : Hp} {v : V} {u : Value}, Inv (cxOf CX P w K mg base N qual scope f cdv A outer s H E) [] σ' H' s' → RelV v u → Q v H' → CE outer P w H s Q u s' :=
    fun {σ' H' v u} J rv q => ⟨v, H', J.os, J.bare, J.base, J.hok, rv, q⟩
  cases fl with
  | ret u =>
    obtain ⟨v, σ', H', J, rv, q⟩ := hs
    exact fin J rv q
  | next =>
    obtain ⟨σ', H', J, q⟩ := hs
    exact fin (v := V.non) (u := Value.none) J rfl q
  | brk =>
    obtain ⟨_, _, _, q⟩ := hs
    exact False.elim q
  | cont =>
    obtain ⟨_, _, _, q⟩ := hs
    exact False.elim q
end L2
namespace HT
open PySem PyProof.Rows
section
variable {prog : Program} {w : World} {A : Around} {E : Value → Shared → Prop} {s : Shared}
/-- t + u, t not empty -/
theorem cat_tup {t b : Addr} {vs ws : List Value} {Q : Value → Shared → Prop} (ht : IsTup s.heap t vs.toArray) (hb : IsTup s.heap b ws.toArray) (hv : vs ≠ [])
    (h1 : ws = [] → Q (.ref t) s) (h2 : ws ≠ [] → Q (.ref s.heap.objs.size) { s with heap := s.heap.push { cls := .type "tuple", data := .seq (vs ++ ws).toArray } })
    (hsz : vs.length + ws.length ≤ sizeLine) : wpAny (model prog w) A (binaryOp .Add (.ref t) (.ref b)) Q E s := by
  obtain ⟨⟨cls, dd, data, sl⟩, ho, hc, n, hd⟩ := id ht
  obtain ⟨⟨cls2, dd2, data2, sl2⟩, ho2, hc2, n2, hd2⟩ := id hb
  simp only at hc hd hc2 hd2
  subst hc hd hc2 hd2
  have e : vs.toArray ++ ws.toArray = (vs ++ ws).toArray := by simp
  by_cases hw : ws = []
  · exact concat_meets ⟨_, ho, rfl⟩ ⟨_, ho2, rfl⟩ noFill_tuple_add seq_tuple_add PySem.F.slot_tuple_add PySem.F.entry_tuple_add (PySem.F.args_tuple_add_2 _ _)
      (tuple_addW1 t b vs.toArray ws.toArray n n2 dd dd2 sl sl2 (by simpa using hv) (by simp [hw])) ⟨ho, ho2, h1 hw⟩
  · refine concat_meets ⟨_, ho, rfl⟩ ⟨_, ho2, rfl⟩ noFill_tuple_add seq_tuple_add PySem.F.slot_tuple_add PySem.F.entry_tuple_add (PySem.F.args_tuple_add_2 _ _)
      (tuple_addW2 t b vs.toArray ws.toArray n n2 dd dd2 sl sl2 (by simpa using hv) (by simpa using hw) (by rw [List.size_toArray, List.size_toArray]; exact hsz)) ⟨ho, ho2, ?_⟩
    rw [e]
    exact h2 hw

/-- a slice's bound as a place among n (d where it is left out) -/
def sIx (n d : Nat) : Option Int → Nat
  | none => d
  | some v => if v < 0 then (v + (n : Int)).toNat else min v.toNat n
end
end HT
namespace L2
open PySem PySem.Spec PyProof.Rows
abbrev TO := St → Hp → (Option Int → Hp → Prop) → Prop
section
variable {X : Cx} {e : Expr} {te : TE} {lo hi : Option Expr} {tl th : TO} {pos p2 : Pos}
/-- what a slice of a value is, by values: the slice object stands at sl -/
def SlR (X : Cx) (r : V → Option Int → Option Int → Hp → VK → Prop) : Prop :=
  ∀ (pins : List (Addr × Obj)) (s : Shared) (σ : St) (H : Hp) (x : V) (v vl vu : Value) (lo hi : Option Int) (sl : Addr) (Q : VK), Inv X pins σ H s → RelV x v → s.heap.IsSliceOf sl vl vu .none → IsPart vl lo → IsPart vu hi → r x lo hi H Q →
    ∃ T id, typeLookup (.type T) "__getitem__" = pure (some (.builtin id)) ∧ s.TypeIs v T ∧ wpAny (model X.prog X.w) X.A (getItem v (.ref sl)) (EP X pins σ Q) X.xe s
/-- the items of xs[lo:hi] -/
def cutV (xs : List V) (lo hi : Option Int) : List V := (xs.drop (HT.sIx xs.length 0 lo)).take (HT.sIx xs.length xs.length hi - HT.sIx xs.length 0 lo)
theorem cutV_length (xs : List V) (lo hi : Option Int) : (cutV xs lo hi).length ≤ xs.length := by
  unfold cutV
  rw [List.length_take, List.length_drop]
  omega
end
/-- the place that an index of any sign means -/
def ixN (n : Nat) (i : Int) : Option Nat := if 0 ≤ i then (if i < n then some i.toNat else none) else if -(n : Int) ≤ i then some (i + n).toNat else none
def atI {α : Type} (xs : List α) (i : Int) : Option α := (ixN xs.length i).bind fun j => xs[j]?
theorem ixN_seq {n : Nat} {i : Int} {j : Nat} (h : ixN n i = some j) : seqIndex? i n = some j ∧ j < n ∧ -(n : Int) ≤ i ∧ i < n := by
  unfold ixN at h
  by_cases h0 : 0 ≤ i
  · rw [if_pos h0] at h
    by_cases h1 : i < n
    · rw [if_pos h1] at h
      have e : i.toNat = j := Option.some.inj h
      exact ⟨by rw [seqIndex_of h0 h1, e], by omega, by omega, h1⟩
    · rw [if_neg h1] at h; cases h
  · rw [if_neg h0] at h
    by_cases h1 : -(n : Int) ≤ i
    · rw [if_pos h1] at h
      have e : (i + n).toNat = j := Option.some.inj h
      exact ⟨by rw [seqIndex_neg (by omega) h1, e], by omega, h1, by omega⟩
    · rw [if_neg h1] at h; cases h
theorem atI_get {α : Type} {xs : List α} {i : Int} {v : α} (h : atI xs i = some v) : ∃ j, seqIndex? i xs.length = some j ∧ xs[j]? = some v ∧ j < xs.length ∧ -(xs.length : Int) ≤ i ∧ i < xs.length := by
  unfold atI at h
  cases e : ixN xs.length i with
  | none => rw [e] at h; cases h
  | some j =>
    rw [e] at h
    obtain ⟨h1, h2, h3, h4⟩ := ixN_seq e
    exact ⟨j, h1, h, h2, h3, h4⟩
/-- what stands as an index of a plain subscript -/
def PlainIx (b : Expr) : Prop := ∀ o i, subscripted b false o i = operate [o, i] (getItem o i)
/-- a subscript by values -/
def IxR (X : Cx) (r : R2) : Prop :=
  ∀ (value slice : Expr) (pins : List (Addr × Obj)) (s : Shared) (σ : St) (H : Hp) (x y : V) (v u : Value) (Q : VK), Inv X pins σ H s → RelV x v → RelV y u → r x y H Q →
    subscripted slice false v u = operate [v, u] (getItem v u) → wpAny (model X.prog X.w) X.A (subscriptTail value slice v u) (EP X pins σ Q) X.xe s
section
variable {X : Cx} {a b : Expr} {ta tb : TE} {pos : Pos}
def rIxL (K : PySem.W.Frag) : R2 := fun x y H Q => ∃ p xs i v, x = .ref p ∧ y = .int i ∧ SqL K H p xs ∧ atI xs i = some v ∧ Q v H
def rIxT (K : PySem.W.Frag) : R2 := fun x y H Q => ∃ p xs i v, x = .ref p ∧ y = .int i ∧ SqT K H p xs ∧ atI xs i = some v ∧ Q v H
def rIxS : R2 := fun x y H Q => ∃ z i c, x = .str z ∧ y = .int i ∧ z.length ≤ sizeLine ∧ atI z.cps.toList i = some c ∧ Q (.str ⟨#[c]⟩) H
theorem ix_list : IxR X (rIxL X.K) := by
  intro value slice pins s σ H x y v u Q I rx ry h hs
  obtain ⟨p, xs, i, z, rfl, rfl, hq, he, q⟩ := h
  cases rx
  obtain ⟨t, rfl⟩ := ry
  obtain ⟨its, r, pl, hz⟩ := I.list hq
  obtain ⟨j, h1, h2, h3, h4, h5⟩ := atI_get he
  obtain ⟨w, ew, rw'⟩ := r.get h2
  have hl := r.length
  have hn := line63
  have fin : EP X pins σ Q w s := ⟨z, H, I, rw', q⟩
  by_cases h0 : 0 ≤ i
  · have hj : i.toNat = j := by
      rw [seqIndex_of h0 h5] at h1
      exact Option.some.inj h1
    exact item_listR pl.isList h0 (by omega) (by rw [hj]; simpa using ew) fin hs
  · have hj : (i + (its.toArray.size : Int)).toNat = j := by
      rw [seqIndex_neg (by omega) h4] at h1
      rw [List.size_toArray, ← hl]
      exact Option.some.inj h1
    exact subscriptTail_builtinR (x := w) pl.isList.typeIs slot_list_getitem.lookup
      (wpAny_getItem_list_neg (Q := fun r s' => r = w ∧ EP X pins σ Q r s') pl.isList (by omega) (by rw [List.size_toArray] <;> omega) (by omega) (by rw [hj]; simpa using ew) ⟨rfl, fin⟩) hs
theorem ix_tup : IxR X (rIxT X.K) := by
  intro value slice pins s σ H x y v u Q I rx ry h hs
  obtain ⟨p, xs, i, z, rfl, rfl, hq, he, q⟩ := h
  cases rx
  obtain ⟨t, rfl⟩ := ry
  obtain ⟨its, r, pl, hz⟩ := I.tuple hq
  obtain ⟨j, h1, h2, h3, h4, h5⟩ := atI_get he
  obtain ⟨w, ew, rw'⟩ := r.get h2
  have hl := r.length
  have hn := line63
  have fin : EP X pins σ Q w s := ⟨z, H, I, rw', q⟩
  exact subscriptTail_builtinR (x := w) pl.typeIs slot_tuple_getitem.lookup
    (getItem_tuple (j := j) (Q := fun r s' => r = w ∧ EP X pins σ Q r s') pl (by omega) (by omega) (by rw [List.size_toArray, ← hl]; exact h1) (by simpa using ew) ⟨rfl, fin⟩) hs
theorem ix_str : IxR X rIxS := by
  intro value slice pins s σ H x y v u Q I rx ry h hs
  obtain ⟨z, i, c, rfl, rfl, hz, he, q⟩ := h
  obtain ⟨t, rfl⟩ := rx
  obtain ⟨t', rfl⟩ := ry
  obtain ⟨j, h1, h2, h3, h4, h5⟩ := atI_get he
  have hl : z.cps.toList.length = z.length := by simp [Str.length]
  rw [hl] at h1 h4 h5
  have hn := line63
  exact tail_any (typeIs_str s z t) slot_str_getitem.lookup (getItem_str (c := c) (by
    have e1 : decide (i < -(2 ^ 63 : Int)) = false := decide_eq_false (by omega)
    have e2 : decide (i ≥ 2 ^ 63) = false := decide_eq_false (by omega)
    rw [e1, e2, Bool.or_false]) (by rw [h1]; simpa using h2) ⟨.str ⟨#[c]⟩, H, I.tok _, ⟨_, rfl⟩, q⟩) hs
theorem Inv.lst {pins : List (Addr × Obj)} {σ : St} {H : Hp} {s : Shared} {p : Addr} {xs : List V} (I : Inv X pins σ H s) (h : H p = some (.lst xs)) :
    ∃ (its : List Value) (n : Nat), Vals xs its ∧ s.heap.get? p = some { cls := .type "list", data := .seq its.toArray n } ∧ xs.length ≤ sizeLine := by
  obtain ⟨z, its, n, r, e⟩ := I.hok p _ h
  exact ⟨its, n, r, e, z⟩
theorem slice_bounds (lo hi : Option Int) (n : Nat) : (sliceBounds lo hi none n).1 = ((HT.sIx n 0 lo : Nat) : Int) ∧ (sliceBounds lo hi none n).2.1 = ((HT.sIx n n hi : Nat) : Int) ∧ (sliceBounds lo hi none n).2.2 = 1 := by
  refine ⟨?_, ?_, rfl⟩
  · cases lo with
    | none => simp [sliceBounds, HT.sIx]
    | some i =>
      simp only [sliceBounds, HT.sIx, Option.getD_none, show (1 : Int) > 0 by decide, if_true]
      by_cases h : i < 0
      · simp only [h, if_true] <;> omega
      · simp only [h, if_false] <;> omega
  · cases hi with
    | none => simp [sliceBounds, HT.sIx]
    | some i =>
      simp only [sliceBounds, HT.sIx, Option.getD_none, show (1 : Int) > 0 by decide, if_true]
      by_cases h : i < 0
      · simp only [h, if_true] <;> omega
      · simp only [h, if_false] <;> omega
theorem slicePick_cut (its : List Value) (lo hi : Option Int) : slicePick its.toArray lo hi none = ((its.drop (HT.sIx its.length 0 lo)).take (HT.sIx its.length its.length hi - HT.sIx its.length 0 lo)).toArray := by
  obtain ⟨h1, h2, h3⟩ := slice_bounds lo hi its.toArray.size
  unfold slicePick
  rw [h1, h2, h3]
  simp only [sliceRange_one, pick_run, List.size_toArray] <;> rfl
/-- xs[lo:hi] of a list: a new list -/
def rSlL (K : PySem.W.Frag) : V → Option Int → Option Int → Hp → VK → Prop := fun x lo hi H Q => ∃ a xs, x = .ref a ∧ SqL K H a xs ∧ ∀ p, H p = none → Q (.ref p) (upd H p (.lst (cutV xs lo hi)))
theorem sl_list : SlR X (rSlL X.K) := by
  intro pins s σ H x v vl vu lo hi sl Q I rx hs pl pu h
  obtain ⟨a, xs, rfl, hx, q⟩ := h
  cases rx
  obtain ⟨its, r, ht, hz⟩ := I.list hx
  have hlen := r.length
  refine ⟨"list", _, slot_list_getitem.lookup, ht.isList.typeIs, ?_⟩
  refine wpAny_getItem_list_slice ht.isList hs pl pu .none (by simp) ?_ (by rw [List.size_toArray] <;> omega)
  rw [slicePick_cut, ← hlen]
  refine ⟨.ref s.heap.objs.size, _, I.laid (t' := s.toks) (o := .lst (cutV xs lo hi)) (fun b ob q => Heap.get?_push_of_some _ q) (Nat.le_refl _) ?_, rfl, q _ (I.hok.fresh (Nat.le_refl _))⟩
  exact ⟨Nat.le_trans (cutV_length xs lo hi) hz, _, 0, (r.drop (HT.sIx xs.length 0 lo)).take (HT.sIx xs.length xs.length hi - HT.sIx xs.length 0 lo), Heap.get?_push_size _ rfl⟩

def flatV : V → Bool
  | .non => true
  | .bl _ => true
  | .int _ => true
  | .str _ => true
  | _ => false
/-- == of flat values -/
def eqV : V → V → Bool
  | .non, .non => true
  | .bl a, .bl b => a == b
  | .bl a, .int b => (if a then 1 else 0) == b
  | .int a, .bl b => a == (if b then 1 else 0)
  | .int a, .int b => a == b
  | .str a, .str b => a == b
  | _, _ => false
theorem eqAt_V {A : Around} {s : Shared} {y x : V} {u v : Value} (ry : RelV y u) (rx : RelV x v) (fy : flatV y = true) (fx : flatV x = true) : SeqAt.EqAt A s u v (eqV y x) := by
  cases y with
  | non =>
    cases ry
    cases x with
    | non => cases rx; exact SeqAt.EqAt.same _
    | bl b => cases rx; exact SeqAt.EqAt.none_bool b
    | int b => obtain ⟨t, rfl⟩ := rx; exact SeqAt.EqAt.none_int b t
    | str b => obtain ⟨t, rfl⟩ := rx; exact SeqAt.EqAt.none_str b t
    | _ => exact absurd (show false = true from fx) Bool.false_ne_true
  | bl a =>
    cases ry
    cases x with
    | non => cases rx; exact SeqAt.EqAt.bool_none a
    | bl b => cases rx; exact SeqAt.EqAt.bool_bool a b
    | int b => obtain ⟨t, rfl⟩ := rx; exact SeqAt.EqAt.bool_int a b t
    | str b => obtain ⟨t, rfl⟩ := rx; exact SeqAt.EqAt.bool_str a b t
    | _ => exact absurd (show false = true from fx) Bool.false_ne_true
  | int a =>
    obtain ⟨t', rfl⟩ := ry
    cases x with
    | non => cases rx; exact SeqAt.EqAt.int_none a t'
    | bl b => cases rx; exact SeqAt.EqAt.int_bool a t' b
    | int b => obtain ⟨t, rfl⟩ := rx; exact SeqAt.EqAt.int_int a t' b t
    | str b => obtain ⟨t, rfl⟩ := rx; exact SeqAt.EqAt.int_str a t' b t
    | _ => exact absurd (show false = true from fx) Bool.false_ne_true
  | str a =>
    obtain ⟨t', rfl⟩ := ry
    cases x with
    | non => cases rx; exact SeqAt.EqAt.str_none a t'
    | bl b => cases rx; exact SeqAt.EqAt.str_bool a t' b
    | int b => obtain ⟨t, rfl⟩ := rx; exact SeqAt.EqAt.str_int a t' b t
    | str b => obtain ⟨t, rfl⟩ := rx; exact SeqAt.EqAt.str_str a t' b t
    | _ => exact absurd (show false = true from fx) Bool.false_ne_true
  | _ => exact absurd (show false = true from fy) Bool.false_ne_true
/-- the items' answers, read off the values (a value's own answer does not lean on its token) -/
def eqU (x : V) (u : Value) : Bool := match u with
  | .none => eqV .non x
  | .bool b => eqV (.bl b) x
  | .int i _ => eqV (.int i) x
  | .str z _ => eqV (.str z) x
  | _ => false
theorem eqU_of {x y : V} {u : Value} (r : RelV y u) (f : flatV y = true) : eqU x u = eqV y x := by
  cases y with
  | non => cases r; rfl
  | bl b => cases r; rfl
  | int i => obtain ⟨t, rfl⟩ := r; rfl
  | str z => obtain ⟨t, rfl⟩ := r; rfl
  | _ => exact absurd (show false = true from f) Bool.false_ne_true
theorem any_eqU {x : V} : ∀ {xs : List V} {us : List Value}, Vals xs us → xs.all flatV = true → us.any (eqU x) = xs.any fun y => eqV y x
  | _, _, .nil, _ => rfl
  | y :: xs, u :: us, .cons r t, f => by
    rw [List.all_cons, Bool.and_eq_true] at f
    rw [List.any_cons, List.any_cons, eqU_of r f.1, any_eqU t f.2]
theorem mem_eqAt {A : Around} {s : Shared} {x : V} {v : Value} (rx : RelV x v) (fx : flatV x = true) : ∀ {xs : List V} {us : List Value}, Vals xs us → xs.all flatV = true → ∀ u ∈ us, SeqAt.EqAt A s u v (eqU x u)
  | _, _, .nil, _ => fun u hu => by cases hu
  | y :: xs, u :: us, .cons r t, f => fun u' hu => by
    rw [List.all_cons, Bool.and_eq_true] at f
    rcases List.mem_cons.mp hu with rfl | hu
    · rw [eqU_of r f.1]; exact eqAt_V r rx f.1 fx
    · exact mem_eqAt rx fx t f.2 u' hu
def inV (x : V) (xs : List V) : Bool := xs.any fun y => eqV y x
/-- x in a list or tuple of flat items -/
def rIn (K : PySem.W.Frag) (neg : Bool) : R2 := fun x y H Q => ∃ p xs, y = .ref p ∧ (SqL K H p xs ∨ SqT K H p xs) ∧ flatV x = true ∧ xs.all flatV = true ∧ Q (.bl (if neg then !inV x xs else inV x xs)) H
theorem op_notIn_seq : OpR X (compareOp .NotIn) (rIn X.K true) := by
  intro pins s σ H x y v u Q I rx ry h
  obtain ⟨p, xs, rfl, hq, fx, fs, q⟩ := h
  cases ry
  rcases hq with hq | hq
  · obtain ⟨its, r, pl, hz⟩ := I.list hq
    refine SeqAt.notIn_listAt (eqU x) pl.isList (fun w hw => mem_eqAt rx fx r fs w (by simpa using hw)) ⟨.bl _, H, I, rfl, ?_⟩
    rw [show its.toArray.any (eqU x) = its.any (eqU x) by simp, any_eqU r fs]
    exact q
  · obtain ⟨its, r, pl, hz⟩ := I.tuple hq
    refine SeqAt.notIn_tupleAt (eqU x) pl (fun w hw => mem_eqAt rx fx r fs w (by simpa using hw)) ⟨.bl _, H, I, rfl, ?_⟩
    rw [show its.toArray.any (eqU x) = its.any (eqU x) by simp, any_eqU r fs]
    exact q
theorem op_notIn_str : OpR X (compareOp .NotIn) (fun x y H Q => ∃ i j, x = .str i ∧ y = .str j ∧ Q (.bl (!(!(Builtin.Str.occurrences j i 0 j.length 1).isEmpty))) H) := by
  intro pins s σ H x y v u Q I rx ry h
  obtain ⟨i, j, rfl, rfl, q⟩ := h
  obtain ⟨t, rfl⟩ := rx
  obtain ⟨t', rfl⟩ := ry
  exact notIn_str ⟨.bl _, H, I, rfl, q⟩

theorem call_len_seq : CallR X (.builtin "len") (fun xs H Q => ∃ p ys, xs = [.ref p] ∧ (SqL X.K H p ys ∨ SqT X.K H p ys) ∧ Q (.int ys.length) H) := by
  intro pins s σ H xs us Q I r h
  obtain ⟨p, ys, rfl, hq, q⟩ := h
  obtain ⟨u, rfl, rx⟩ := vals1 r
  cases rx
  have hn := line63
  rcases hq with hq | hq
  · obtain ⟨its, r', pl, hz⟩ := I.list hq
    have hlen := r'.length
    exact Calls.call_len_list pl.isList (by simp only [List.size_toArray] <;> omega) ⟨.int ys.length, H, I.tok _, ⟨s.toks + 1, by rw [List.size_toArray, hlen]⟩, q⟩
  · obtain ⟨its, r', pl, hz⟩ := I.tuple hq
    have hlen := r'.length
    exact len_tuple pl (by simp only [List.size_toArray] <;> omega) ⟨.int ys.length, H, I.tok _, ⟨s.toks + 1, by rw [List.size_toArray, hlen]⟩, q⟩
theorem call_len_str : CallR X (.builtin "len") (fun xs H Q => ∃ z, xs = [.str z] ∧ z.length ≤ sizeLine ∧ Q (.int z.length) H) := by
  intro pins s σ H xs us Q I r h
  obtain ⟨z, rfl, hz, q⟩ := h
  obtain ⟨u, rfl, t, rfl⟩ := vals1 r
  have hn := line63
  exact len_str (by omega) ⟨.int z.length, H, I.tok _, ⟨_, rfl⟩, q⟩
variable {o e : Expr} {es : List Expr} {to : TE} {t : TA} {name : Str} {apos cpos : Pos} {T id : String} {r : V → List V → Hp → VK → Prop}
end
def MtM (X : Cx) (id : String) (r : V → List V → Hp → VK → Prop) : Prop :=
  ∀ (pins : List (Addr × Obj)) (s : Shared) (σ : St) (H : Hp) (x : V) (xs : List V) (v : Value) (us : List Value) (Q : VK), Inv X pins σ H s → RelV x v → Vals xs us → r x xs H Q →
    wpAny (model X.prog X.w) X.A (call (.builtin id) (v :: us)) (EP X pins σ Q) X.xe s

theorem Vals.one : ∀ {x : V} {us : List Value}, Vals [x] us → ∃ u, us = [u] ∧ RelV x u
  | _, _, .cons r .nil => ⟨_, rfl, r⟩
theorem Vals.two : ∀ {x y : V} {us : List Value}, Vals [x, y] us → ∃ u v, us = [u, v] ∧ RelV x u ∧ RelV y v
  | _, _, _, .cons r (.cons q .nil) => ⟨_, _, rfl, r, q⟩
theorem Vals.zero : ∀ {us : List Value}, Vals [] us → us = []
  | _, .nil => rfl
theorem Vals.reverse {xs : List V} {us : List Value} (h : Vals xs us) : Vals xs.reverse us.reverse := by
  induction h with
  | nil => exact .nil
  | cons r t ih => rw [List.reverse_cons, List.reverse_cons]; exact Vals.append ih (.cons r .nil)
section
variable {X : Cx} {pins : List (Addr × Obj)} {σ : St} {H : Hp} {s : Shared} {l b : Addr} {xs ys zs : List V}
theorem Inv.lset {its its' : List Value} {n : Nat} {f : Array Value → Array Value} {t' : Nat} (I : Inv X pins σ H s) (hH : H l = some (.lst xs))
    (e : s.heap.get? l = some { cls := .type "list", data := .seq its.toArray n }) (hf : f its.toArray = its'.toArray) (hv : Vals ys its') (hz : ys.length ≤ sizeLine) :
    Inv X pins σ (upd H l (.lst ys)) { s with heap := s.heap.update l (Obj.mapSeq f), toks := t' } := by
  have q := PySem.IsL.update e f
  rw [hf] at q
  refine I.write (x := l) (e := l) (by rw [hH]; exact trivial) (.inl rfl) (fun b' u hb hu => (Heap.get?_update_other s.heap (Obj.mapSeq f) (Ne.symm hb)).trans hu) ⟨_, q⟩ ?_
  exact ⟨hz, its', _, hv, q⟩
theorem Inv.lnew {its : List Value} {t' : Nat} (I : Inv X pins σ H s) (hv : Vals ys its) (hz : ys.length ≤ sizeLine) :
    Inv X pins σ (upd H s.heap.objs.size (.lst ys)) { s with heap := s.heap.push { cls := .type "list", data := .seq its.toArray }, toks := t' } :=
  I.laid (fun _ _ q => Heap.get?_push_of_some _ q) (Nat.le_refl _) ⟨hz, its, 0, hv, Heap.get?_push_size _ rfl⟩
theorem Inv.fresh (I : Inv X pins σ H s) : H s.heap.objs.size = none := I.hok.fresh (Nat.le_refl _)
theorem Inv.lstM (I : Inv X pins σ H s) (hH : H l = some (.lst xs)) : xs.length ≤ sizeLine ∧ ∃ (its : List Value) (n : Nat), Vals xs its ∧ xs.length = its.length ∧ s.heap.get? l = some { cls := .type "list", data := .seq its.toArray n } := by
  obtain ⟨z, its, n, r, e⟩ := I.hok l _ hH
  exact ⟨z, its, n, r, r.length, e⟩

end
section
variable {X : Cx}
def rAppend : V → List V → Hp → VK → Prop := fun x vs H Q => ∃ l xs y, x = .ref l ∧ vs = [y] ∧ H l = some (.lst xs) ∧ xs.length < sizeLine ∧ Q .non (upd H l (.lst (xs ++ [y])))
theorem mt_append : MtM X "list.append" rAppend := by
  intro pins s σ H x vs v us Q I rx rv h
  obtain ⟨l, xs, y, rfl, rfl, hH, hz, q⟩ := h
  cases rx
  obtain ⟨u, rfl, ru⟩ := rv.one
  obtain ⟨z, its, n, r, hl, e⟩ := I.lstM hH
  refine call_meets F.slot_list_append ⟨_, e, rfl⟩ F.entry_list_append (F.args_list_append_2 _ _) (PySem.list_append l its.toArray n u (by rw [List.size_toArray]; omega)) ⟨e, ?_⟩
  refine ⟨.non, _, I.lset (its' := its ++ [u]) hH e (by simp) (r.append (.cons ru .nil)) ?_, rfl, q⟩
  rw [List.length_append, List.length_singleton]
  omega

end
end L2
namespace Att
open PySem PySem.W PySem.Calls PyProof.Rows
theorem ints_of_wellAll {P : Params} {h : Heap} : ∀ (ns : List Int) (vs : List Value), WellAll P h vs (ns.map WData.int) → IntsAre vs ns := by
  intro ns
  induction ns with
  | nil =>
    intro vs w
    rw [List.map_nil] at w
    cases w
    exact .nil
  | cons n ns ih =>
    intro vs w
    rw [List.map_cons] at w
    cases w with
    | cons a b =>
      cases a
      exact .cons _ _ (ih _ b)

theorem script_of {l : OpenLaw} {n : Nat} (hn : l.most = some n) {P : Params} {h : Heap} {args : List WData} {vals : List Value}
    (hpre : l.row.toRowW.claim.pre args = true) (hwl : WellAll P h vals args) :
    ∃ a vs ns, vals = [Value.ref a] ∧ args = [WData.list (ns.map WData.int)] ∧ h.get? a = some { cls := .type "list", data := .seq vs.toArray } ∧ IntsAre vs ns ∧ ns.length ≤ n := by
  have hsh : WShape.hasAll [] args [.list .int] = true := (pre_splitW hpre).1
  have hc : l.pre.holds [] { args := args } = true := (pre_splitW hpre).2
  obtain ⟨d, r, rfl, h1, h2⟩ := hasAllW_cons hsh
  obtain rfl := hasAllW_nil h2
  obtain ⟨xs, rfl, h3⟩ := hasW_list h1
  obtain ⟨ns, rfl⟩ := items_int h3
  have hlen : ns.length ≤ n := by
    unfold OpenLaw.pre at hc
    have h4 : (WTm.not (.lt (.lit (.int (n : Int))) (.len (.arg 0)))).holds [] { args := [.list (ns.map .int)] } = true := by
      have h4 := (holds_andW hc).1
      rw [hn] at h4
      exact h4
    have h5 := condW_of h4 (w_not (w_lt w_lit (w_len_list (w_arg rfl))))
    rw [List.length_map] at h5
    refine Nat.le_of_not_lt fun q => ?_
    have q' : (n : Int) < ((ns.length : Nat) : Int) := by omega
    first
      | (rw [decide_eq_true q'] at h5; exact absurd h5 (by decide))
      | (simp at h5; omega)
  cases hwl with
  | cons w1 w2 =>
    cases w2
    cases w1 with
    | list ho hall => exact ⟨_, _, ns, rfl, rfl, ho, ints_of_wellAll ns _ hall, hlen⟩

theorem post_true (l : OpenLaw) (args : List WData) : l.row.toRowW.claim.post args (.bool true) args = true :=
  postW_of (r := l.row.toRowW) (X := (true == true))
    (show WShape.has [] (.bool true) .bool = true by first | rfl | decide | simp [WShape.has, WShape.arms, WShape.armsAll])
    (show (WTm.eq .res (.lit (.bool true))).value [] { args := args, res := some (.bool true), after := args } = some (.bool (true == true)) from w_eq_bool (w_res rfl) w_lit) rfl

end Att
namespace L2
open PySem PySem.Spec PyProof.Rows
theorem vals_ints : ∀ {vs : List Value} {ns : List Int}, IntsAre vs ns → Vals (ns.map V.int) vs
  | _, _, .nil => .nil
  | _, _, .cons n t h => .cons ⟨t, rfl⟩ (vals_ints h)

/-- nothing is tracked but the script, known to the object (or it is an object of the module) -/
def Only (H : Hp) : Prop := ∀ b, H b = none ∨ ∃ o xs, H b = some (.frz o (.lst xs))

/-- THE HEAD: the law's promise, at the heap behind the top. F, the promise of the law's def, may use that base is part of the heap (so K.In base, base.Ns mainGlobals mg stand in Mod) -/
theorem law_call {P : Program} {w : World} {K : PySem.W.Frag} {mg mb : Str → Option Value} {CX : CXT} {k : Nat} {fa a : Addr} {fd : FuncData} {x : Str} {sp : Sp} {s₁ : Shared} {vs : List Value} {ns : List Int}
    (KX : K.In s₁.heap) (hns : s₁.heap.Ns mainGlobals mg) (hb : s₁.heap.Ns builtinsNs mb) (hbb : ∀ x : Str, x ≠ "__name__" → mb x = bootBuiltins x) (hlim : s₁.heap.NoLimit) (hg : s₁.gens = #[])
    (ha : s₁.heap.get? a = some { cls := .type "list", data := .seq vs.toArray }) (hi : IntsAre vs ns) (hl : ns.length ≤ sizeLine) (hr : Room k callerA)
    (F : ∀ base : Heap, K.In base → base.Ns mainGlobals mg → FnOk P w K mg base CX k fa fd [x] sp) (hbind : ∀ (s : Shared) (u : Value), BindsTo s fd ⟨[u], []⟩ [(x, u)])
    (hsp : ∀ H : Hp, Only H → SqL K H a (ns.map V.int) → sp [.ref a] H (fun v _ => v = .bl true) fun _ _ _ => False)
    (hCX : ∀ H e s', CX [] H s₁ (fun _ _ _ => False) e s' → False) :
    codeAny (model P w) callerA (.call (.ref fa) ⟨[.ref a], []⟩) (fun r s' => r = .ok (.ret (.bool true)) ∧ OldK s₁.heap s'.heap ∧ s'.os = s₁.os ∧ AllBare s'.gens) s₁ := by
  have rv := vals_ints hi
  have lenV := hi.length
  -- from an abstract heap in which nothing but the script may be tracked
  have core : ∀ H : Hp, Only H → SqL K H a (ns.map V.int) → HOk P w H s₁.heap → (∀ b, H b ≠ none → b = a) → (H a ≠ none → K.lookup a = none) →
      codeAny (model P w) callerA (.call (.ref fa) ⟨[.ref a], []⟩) (fun r s' => r = .ok (.ret (.bool true)) ∧ OldK s₁.heap s'.heap ∧ s'.os = s₁.os ∧ AllBare s'.gens) s₁ := by
    intro H hO hS hok hA hK
    have base_of : ∀ {b : Addr} {o : Obj}, s₁.heap.get? b = some o → H b = none → (hidT s₁.heap H).get? b = some o := fun e n => hidT_get e n
    have noA : ∀ {b : Addr} {o : Obj} {es : Array DictEntry} {ep : Nat}, s₁.heap.get? b = some o → o.data = .dict es ep → H b = none := fun {b o es ep} e d => by
      cases q : H b with
      | none => rfl
      | some u =>
        have e' : b = a := hA b (by rw [q]; simp)
        subst e'
        rw [ha] at e; cases e
        have d' : Data.seq vs.toArray _ = Data.dict es ep := d
        cases d'
    have nsK : ∀ {b : Addr} {m : Str → Option Value}, s₁.heap.Ns b m → (hidT s₁.heap H).Ns b m := fun {b m} ⟨o, es, ep, e, d, r⟩ => ⟨o, es, ep, base_of e (noA e d), d, r⟩
    have hKb : K.In (hidT s₁.heap H) := fun b o e => base_of (KX b o e) (by
      cases q : H b with
      | none => rfl
      | some u =>
        have e' : b = a := hA b (by rw [q]; simp)
        subst e'
        rw [hK (by rw [q]; simp)] at e; cases e)
    have hM : Mod K mg (hidT s₁.heap H) := ⟨hKb, nsK hns, ⟨mb, nsK hb, hbb⟩, let ⟨mc, h1, h2⟩ := hlim; ⟨mc, nsK h1, h2⟩⟩
    have e0 : Env0 P w K mg (hidT s₁.heap H) callerA [] s₁ H := ⟨rfl, hM, fun b o e => of_hidT e, Nat.le_of_eq (hidT_size _ _), trivial, fun b hb => absurd (show b ∈ ([] : List Addr) from hb) (by simp), hok, .of_eq hg⟩
    refine codeAny_mono ((F _ hKb (nsK hns)).run callerA [] s₁ H ⟨[.ref a], []⟩ [.ref a] [.ref a] _ _ hr e0 (hbind s₁ (.ref a)) (.cons rfl .nil) (hsp H hO hS)) fun r s' h => ?_
    cases r with
    | error e => exact (hCX H e s' h).elim
    | ok fl =>
      cases fl with
      | next => exact False.elim h
      | brk => exact False.elim h
      | cont => exact False.elim h
      | ret u =>
        obtain ⟨v, H', os, bare, un, hok', r', q⟩ := h
        have q' : v = .bl true := q
        subst q'
        obtain rfl : u = Value.bool true := r'
        refine ⟨rfl, OldK.of_keep fun b o e => ?_, os, bare⟩
        cases q : H b with
        | none => exact un.keep b o e q (by intro z; exact absurd (show b ∈ ([] : List Addr) from z) (by simp)) (by simp)
        | some u =>
          rcases hO b with z | ⟨ob, xs, z⟩
          · rw [q] at z; cases z
          · have z2 := un.frzs b ob _ z
            obtain ⟨e1, _⟩ := hok b _ z
            obtain ⟨e2, _⟩ := hok' b _ z2
            rw [e] at e1; cases e1
            exact e2
  cases hk : K.lookup a with
  | some o =>
    -- the script is one of the module's own objects
    have e := KX a o hk
    rw [ha] at e
    cases e
    refine core (fun _ => none) (fun _ => .inl rfl) (.inr ⟨_, vs.toArray, _, hk, rfl, rfl, rfl, by rw [List.size_toArray, lenV]; exact hl, by simpa using rv⟩) (fun b u z => by have z' : (none : Option HO) = some u := z; cases z') (fun b z => absurd rfl z) fun z => absurd rfl z
  | none =>
    refine core (fun b => if b = a then some (.frz { cls := .type "list", data := .seq vs.toArray } (.lst (ns.map V.int))) else none) (fun b => ?_) (.inl (.inr ⟨{ cls := .type "list", data := .seq vs.toArray }, if_pos rfl⟩)) (fun b u z => ?_) (fun b z => ?_) fun _ => hk
    · by_cases hb : b = a
      · exact .inr ⟨_, _, if_pos hb⟩
      · exact .inl (if_neg hb)
    · by_cases hb : b = a
      · have z' := (if_pos hb).symm.trans z
        cases z'
        subst hb
        exact ⟨ha, by rw [List.length_map]; exact hl, vs, _, rv, ha⟩
      · have z' := (if_neg hb).symm.trans z
        cases z'
    · by_cases hb : b = a
      · exact hb
      · exact absurd (if_neg hb) z
def defArgs (s : Stmt) : Arguments := match s with
  | .FunctionDef _ a _ _ _ _ _ _ _ _ => a
  | _ => { posonlyargs := [], args := [], vararg := none, kwonlyargs := [], kw_defaults := [], kwarg := none, defaults := [] }
def defBody (s : Stmt) : List Stmt := match s with
  | .FunctionDef _ _ b _ _ _ _ _ _ _ => b
  | _ => []
def defScope (s : Stmt) : Scope := match s with
  | .FunctionDef _ _ _ _ _ _ sc _ _ _ => sc
  | _ => { kind := .function, names := [], isGenerator := false, isCoroutine := false }

abbrev CX0 : CXT := fun _ _ _ _ _ _ => False
structure Fun (K : PySem.W.Frag) (x qual : Str) (st : Stmt) (f : Addr) (fd : FuncData) : Prop where
  ex : ∃ (oc : Value) (od : Option Addr) (kV doc pm : Value) (an : Option Addr) (cdv ct : Value) (osl : Array (Option Value)),
    fd = PySem.W.fnOf x qual (defArgs st) (defBody st) (defScope st) .none kV doc pm an cdv ct ∧ K.lookup f = some ⟨oc, od, .func fd, osl⟩ ∧ PySem.W.codeIn K cdv qual = true
  kp : PySem.W.keepIn K (.ref f) = true
section
variable {P : Program} {w : World} {K : PySem.W.Frag} {mg : Str → Option Value} {base : Heap}
/-- THE RULE for a def: its body as a term of rules, and the reading of that term -/
theorem Fun.ok {x qual : Str} {st : Stmt} {f : Addr} {fd : FuncData} {N ps : List Str} {k : Nat} {sp : Sp} (F : Fun K x qual st f fd) (S : FnScope N ps (defScope st)) (len : ∀ vs H Q E, sp vs H Q E → vs.length = ps.length)
    (hbody : ∀ (cdv : Value) (A : Around) (outer : List Env) (s : Shared) (H : Hp) (vs : List V) (Q : VK) (E : XK), Room k (A.deeper (envOfC qual (defScope st) s.heap.objs.size f cdv)) → sp vs H Q E →
      ∃ t, PSs (cxOf CX0 P w K mg base N qual (defScope st) f cdv A outer s H E).nox (defBody st) t ∧ t { nx := fun _ H' => Q .non H', rt := Q } (start N vs) H) : FnOk P w K mg base CX0 (k + 1) f fd ps sp := by
  obtain ⟨oc, od, kV, doc, pm, an, cdv, ct, osl, rfl, lk, hcd⟩ := F.ex
  refine fn_of lk hcd S len fun A outer s H vs Q E hr hsp => ?_
  obtain ⟨t, h, q⟩ := hbody cdv A outer s H vs Q E hr hsp
  exact ⟨t, h.nox, q⟩
/-- how its arguments bind (no defaults): h is «fun _ _ _ _ _ _ us hl => match us, hl with | [_, _], _ => rfl», one _ a parameter -/
theorem Fun.binds {x qual : Str} {st : Stmt} {f : Addr} {fd : FuncData} {ps : List Str} (F : Fun K x qual st f fd)
    (h : ∀ (kV doc pm : Value) (an : Option Addr) (cdv ct : Value) (us : List Value), us.length = ps.length → bindArgs (PySem.W.fnOf x qual (defArgs st) (defBody st) (defScope st) .none kV doc pm an cdv ct) ⟨us, []⟩ = pure (ps.zip us)) : Binds K fd ps [] := by
  obtain ⟨oc, od, kV, doc, pm, an, cdv, ct, osl, rfl, lk, hcd⟩ := F.ex
  exact .all (h kV doc pm an cdv ct)
theorem fun_mk {x qual : Str} {st : Stmt} {f : Addr} {oc : Value} {od an : Option Addr} {osl : Array (Option Value)} {kV doc pm cdv ct : Value} (l : K.lookup f = some ⟨oc, od, .func (PySem.W.fnOf x qual (defArgs st) (defBody st) (defScope st) .none kV doc pm an cdv ct), osl⟩)
    (c : PySem.W.codeIn K cdv qual = true) (k : PySem.W.keepIn K (.ref f) = true) : Fun K x qual st f (PySem.W.fnOf x qual (defArgs st) (defBody st) (defScope st) .none kV doc pm an cdv ct) := ⟨⟨oc, od, kV, doc, pm, an, cdv, ct, osl, rfl, l, c⟩, k⟩
end
/-- all that was tracked is as it was -/
def Same (H H' : Hp) : Prop := ∀ b o, H b = some o → H' b = some o
theorem Same.refl (H : Hp) : Same H H := fun _ _ h => h
theorem Same.trans {H H1 H2 : Hp} (a : Same H H1) (b : Same H1 H2) : Same H H2 := fun c o h => b c o (a c o h)
theorem Same.free {H H' : Hp} (e : Same H H') {l : Addr} (h : H' l = Option.none) : H l = Option.none := by
  cases q : H l with
  | none => rfl
  | some o =>
    rw [e l o q] at h
    cases h
theorem Same.seq {K : PySem.W.Frag} {H H' : Hp} {a : Addr} {xs : List V} (e : Same H H') (h : SqL K H a xs) : SqL K H' a xs := by
  rcases h with (h | ⟨o, h⟩) | h
  · exact .inl (.inl (e _ _ h))
  · exact .inl (.inr ⟨o, e _ _ h⟩)
  · exact .inr h

end L2
set_option Elab.async false
set_option linter.all false
set_option maxRecDepth 100000
set_option maxHeartbeats 4000000
namespace Mi
open PySem
inductive PV where
  | non | bl (b : Bool) | int (i : Int) | str (x : Str) | tup (l : List PV) | lst (l : List PV)
  | exc (c : Nat)            -- an exception that was caught, by its class
  | dic0                     -- an empty dict
  | ins (c : Nat)            -- an instance without attributes, by its class
  | own (l : List PV)        -- a list that one name alone holds (a slot's value, never an expression's)

inductive R (α : Type) where
  | ok (a : α) | exc (c : Nat) | stuck

def R.bind {α β : Type} (r : R α) (f : α → R β) : R β := match r with
  | .ok a => f a
  | .exc c => .exc c
  | .stuck => .stuck
@[simp] theorem R.bind_ok {α β : Type} (a : α) (f : α → R β) : (R.ok a).bind f = f a := rfl
@[simp] theorem R.bind_exc {α β : Type} (c : Nat) (f : α → R β) : (R.exc c : R α).bind f = .exc c := rfl
@[simp] theorem R.bind_stuck {α β : Type} (f : α → R β) : (R.stuck : R α).bind f = .stuck := rfl

abbrev MEnv := List (Option PV)
abbrev FE := MEnv → R PV
abbrev FA := MEnv → R (List PV)
abbrev FT := MEnv → R Bool

inductive SR where
  | next (ρ : MEnv) | ret (v : PV) | brk (ρ : MEnv) | cont (ρ : MEnv) | exc (c : Nat) (ρ : MEnv) | stuck
abbrev FS := MEnv → SR

def asVal : Option PV → R PV
  | some (.own _) => .stuck
  | some v => .ok v
  | none => .stuck
def getV : MEnv → Nat → R PV
  | [], _ => .stuck
  | o :: _, 0 => asVal o
  | _ :: r, n + 1 => getV r n
/-- bits of an int -/
abbrev nb (i : Int) : Nat := Builtin.Int.intBits i

mutual
def eqPV : PV → PV → Bool
  | .non, .non => true
  | .bl a, .bl b => a == b
  | .bl a, .int b => (if a then 1 else 0) == b
  | .int a, .bl b => a == (if b then 1 else 0)
  | .int a, .int b => a == b
  | .str a, .str b => a == b
  | .tup a, .tup b => eqPVs a b
  | .lst a, .lst b => eqPVs a b
  | _, _ => false
def eqPVs : List PV → List PV → Bool
  | [], [] => true
  | x :: xs, y :: ys => eqPV x y && eqPVs xs ys
  | _, _ => false
end
/-- what may be compared with ==, n lists and tuples deep at most -/
def cmpOkN : Nat → PV → Bool
  | _, .non => true
  | _, .bl _ => true
  | _, .int _ => true
  | _, .str _ => true
  | n + 1, .tup l => l.all (cmpOkN n)
  | n + 1, .lst l => l.all (cmpOkN n)
  | _, _ => false
abbrev cmpOk (p : PV) : Bool := cmpOkN 6 p
def truthP : PV → R Bool
  | .bl b => .ok b
  | .int i => .ok (i != 0)
  | .non => .ok false
  | .lst l => .ok (!l.isEmpty)
  | .str z => if z.length ≤ sizeLine then .ok ((z.length : Int) != 0) else .stuck
  | _ => .stuck

abbrev bitsMax : Nat := 134217728
def oAdd : PV → PV → R PV
  | .int a, .int b => .ok (.int (a + b))
  | .str a, .str b => if a.length + b.length ≤ sizeLine then .ok (.str (a ++ b)) else .stuck
  | .lst a, .lst b => if a.length + b.length ≤ sizeLine then .ok (.lst (a ++ b)) else .stuck
  | .tup a, .tup b => if (a.length ≠ 0 ∧ b.length ≠ 0) ∧ a.length + b.length ≤ sizeLine then .ok (.tup (a ++ b)) else .stuck
  | _, _ => .stuck
def oSub : PV → PV → R PV
  | .int a, .int b => .ok (.int (a - b))
  | _, _ => .stuck
def oMul : PV → PV → R PV
  | .int a, .int b => if nb a ≤ 64 ∨ nb b ≤ 64 ∨ nb a + nb b ≤ bitsMax then .ok (.int (a * b)) else .stuck
  | _, _ => .stuck
def oDiv : PV → PV → R PV
  | .int a, .int b => if 0 < b ∧ nb b ≤ 9000 then .ok (.int (a / b)) else .stuck
  | _, _ => .stuck
def oMod : PV → PV → R PV
  | .int a, .int b => if 0 < b then .ok (.int (a % b)) else .stuck
  | _, _ => .stuck
def oPow : PV → PV → R PV
  | .int a, .int b => if 0 ≤ b ∧ b ≤ 1000000 ∧ nb a ≤ 64 then .ok (.int (a ^ b.toNat)) else .stuck
  | _, _ => .stuck
def oShl : PV → PV → R PV
  | .int a, .int b => if 0 ≤ b ∧ nb a + b ≤ 134217728 then .ok (.int (a * 2 ^ b.toNat)) else .stuck
  | _, _ => .stuck
def oShr : PV → PV → R PV
  | .int a, .int b => if 0 ≤ b then .ok (.int (a / 2 ^ b.toNat)) else .stuck
  | _, _ => .stuck
def oAnd : PV → PV → R PV
  | .int a, .int b => .ok (.int (Builtin.bitAnd a b))
  | _, _ => .stuck
def oOr : PV → PV → R PV
  | .int a, .int b => .ok (.int (Builtin.bitOr a b))
  | _, _ => .stuck
def oXor : PV → PV → R PV
  | .int a, .int b => .ok (.int (Builtin.bitXor a b))
  | _, _ => .stuck
def oNeg : PV → R PV
  | .int a => .ok (.int (-a))
  | _ => .stuck
def cLt : PV → PV → R PV
  | .int a, .int b => .ok (.bl (decide (a < b)))
  | _, _ => .stuck
def cLe : PV → PV → R PV
  | .int a, .int b => .ok (.bl (decide (a ≤ b)))
  | _, _ => .stuck
def cGt : PV → PV → R PV
  | .int a, .int b => .ok (.bl (decide (b < a)))
  | _, _ => .stuck
def cGe : PV → PV → R PV
  | .int a, .int b => .ok (.bl (decide (b ≤ a)))
  | _, _ => .stuck
/-- an empty dict, a text -/
def dicStr : PV → PV → Bool
  | .dic0, .str _ => true
  | _, _ => false
def cEq (a b : PV) : R PV := if cmpOk a && cmpOk b then .ok (.bl (eqPV a b)) else if dicStr a b then .ok (.bl false) else .stuck
def cNe (a b : PV) : R PV := if cmpOk a && cmpOk b then .ok (.bl (!eqPV a b)) else .stuck
/-- is None, is not None -/
def isNone : PV → Bool
  | .non => true
  | _ => false
def cIsN (a : PV) : R PV := .ok (.bl (isNone a))
def cNotN (a : PV) : R PV := .ok (.bl (!isNone a))
mutual
def flatP : PV → Bool
  | .non => true
  | .bl _ => true
  | .int _ => true
  | .str _ => true
  | _ => false
end
def strP : PV → Bool
  | .str _ => true
  | _ => false
def heapP : PV → Bool
  | .lst _ => true
  | .tup _ => true
  | .dic0 => true
  | _ => false
def cNotIn (x y : PV) : R PV := match y with
  | .tup l => if flatP x && l.all flatP then .ok (.bl (!l.any fun z => eqPV z x)) else .stuck
  | .lst l => if flatP x && l.all flatP then .ok (.bl (!l.any fun z => eqPV z x)) else if heapP x && l.all strP then .ok (.bl true) else .stuck
  | .str z => (match x with
    | .str y => .ok (.bl (!(!(Builtin.Str.occurrences z y 0 z.length 1).isEmpty)))
    | _ => .stuck)
  | _ => .stuck
/-- the place that an index means -/
def ixP (n : Nat) (i : Int) : Option Nat := if 0 ≤ i then (if i < n then some i.toNat else none) else if -(n : Int) ≤ i then some (i + n).toNat else none
def itemP (l : List PV) (i : Int) : R PV := match ixP l.length i with
  | some j => (match l[j]? with | some v => .ok v | none => .stuck)
  | none => .stuck
def oItem : PV → PV → R PV
  | .tup l, .int i => itemP l i
  | .lst l, .int i => itemP l i
  | .str z, .int i => (match ixP z.cps.toList.length i with
    | some j => (match z.cps.toList[j]? with | some c => if z.length ≤ sizeLine then .ok (.str ⟨#[c]⟩) else .stuck | none => .stuck)
    | none => .stuck)
  | _, _ => .stuck
def bLen : List PV → R PV
  | [.tup l] => .ok (.int l.length)
  | [.lst l] => .ok (.int l.length)
  | [.str z] => if z.length ≤ sizeLine then .ok (.int z.length) else .stuck
  | _ => .stuck
def bAbs : List PV → R PV
  | [.int i] => .ok (.int (if i < 0 then -i else i))
  | _ => .stuck
def bMin : List PV → R PV
  | [.int i, .int j] => .ok (.int (if j < i then j else i))
  | _ => .stuck
def bMax : List PV → R PV
  | [.int i, .int j] => .ok (.int (if j > i then j else i))
  | _ => .stuck
def bInt : List PV → R PV
  | [.int i] => .ok (.int i)
  | [.bl k] => .ok (.int (if k then 1 else 0))
  | _ => .stuck
def bBitLength : PV → R PV
  | .int i => .ok (.int (nb i))
  | _ => .stuck
def bList : List PV → R PV
  | [.tup l] => .ok (.lst l)
  | [.lst l] => .ok (.lst l)
  | _ => .stuck
def bTuple : List PV → R PV
  | [.tup l] => .ok (.tup l)
  | [.lst l] => .ok (.tup l)
  | _ => .stuck
/-- the builtin types that isinstance is asked of -/
inductive Ty where | int | bool | str | tuple | list | dict
def isTy : PV → Ty → Option Bool
  | .non, _ => some false
  | .bl _, .int => some true
  | .bl _, .bool => some true
  | .bl _, _ => some false
  | .int _, .int => some true
  | .int _, _ => some false
  | .str _, .str => some true
  | .str _, _ => some false
  | .tup _, .tuple => some true
  | .tup _, _ => some false
  | .lst _, .list => some true
  | .lst _, _ => some false
  | .dic0, .dict => some true
  | .dic0, _ => some false
  | _, _ => none

def fVar (i : Nat) : FE := fun ρ => getV ρ i
def fC (v : PV) : FE := fun _ => .ok v
def fBin (o : PV → PV → R PV) (a b : FE) : FE := fun ρ => (a ρ).bind fun x => (b ρ).bind fun y => o x y
def fUn (o : PV → R PV) (a : FE) : FE := fun ρ => (a ρ).bind o
/-- and, or, not of bools, as values -/
def oBool : PV → R Bool
  | .bl b => .ok b
  | _ => .stuck
def fAnd (a b : FE) : FE := fun ρ => (a ρ).bind fun x => (oBool x).bind fun c => if c then b ρ else .ok (.bl false)
def fOr (a b : FE) : FE := fun ρ => (a ρ).bind fun x => (oBool x).bind fun c => if c then .ok (.bl true) else b ρ
def fNot (a : FE) : FE := fun ρ => (a ρ).bind fun x => (oBool x).bind fun c => .ok (.bl (!c))
/-- x < y < z -/
def fChain (o o' : PV → PV → R PV) (a b c : FE) : FE := fun ρ => (a ρ).bind fun x => (b ρ).bind fun y => (o x y).bind fun r => (oBool r).bind fun k =>
  if k then (c ρ).bind fun z => o' y z else .ok (.bl false)
def fIf (t : FT) (a b : FE) : FE := fun ρ => (t ρ).bind fun c => if c then a ρ else b ρ
def aNil : FA := fun _ => .ok []
def aCons (a : FE) (r : FA) : FA := fun ρ => (a ρ).bind fun x => (r ρ).bind fun xs => .ok (x :: xs)
def fTup (a : FA) : FE := fun ρ => (a ρ).bind fun xs => if xs.length ≤ sizeLine then .ok (.tup xs) else .stuck
def fLst (a : FA) : FE := fun ρ => (a ρ).bind fun xs => if xs.length ≤ sizeLine then .ok (.lst xs) else .stuck
/-- a call: of a def of the text (by its mirror), of a builtin -/
def fCall (F : List PV → R PV) (a : FA) : FE := fun ρ => (a ρ).bind F
def fIsinst (t : Ty) (a : FE) : FE := fun ρ => (a ρ).bind fun x => match isTy x t with | some b => .ok (.bl b) | none => .stuck
/-- error classes by number: c stands under d; 0 is the base of all -/
def under (c d : Nat) : Bool := c == d || d == 0
/-- isinstance(x, the error class d): of None, and of an error whose class is among ks -/
def fIsExc (ks : List Nat) (d : Nat) (a : FE) : FE := fun ρ => (a ρ).bind fun x => match x with
  | .exc c => if ks.contains c then .ok (.bl (under c d)) else .stuck
  | .non => .ok (.bl false)
  | _ => .stuck
/-- isinstance(x, ValueError) -/
def fIsVal (ks : List Nat) (a : FE) : FE := fun ρ => (a ρ).bind fun x => match x with
  | .exc c => if ks.contains c then .ok (.bl true) else .stuck
  | .non => .ok (.bl false)
  | _ => .stuck
def tVal (a : FE) : FT := fun ρ => (a ρ).bind truthP
def tAnd (a b : FT) : FT := fun ρ => (a ρ).bind fun c => if c then b ρ else .ok false
def tOr (a b : FT) : FT := fun ρ => (a ρ).bind fun c => if c then .ok true else b ρ
def tNot (a : FT) : FT := fun ρ => (a ρ).bind fun c => .ok (!c)
def slP (n d : Nat) : Option Int → Nat
  | none => d
  | some v => if v < 0 then (v + (n : Int)).toNat else min v.toNat n
def cutP (l : List PV) (lo hi : Option Int) : List PV := (l.drop (slP l.length 0 lo)).take (slP l.length l.length hi - slP l.length 0 lo)
abbrev FO := MEnv → R (Option Int)
def oNone : FO := fun _ => .ok none
def oSome (a : FE) : FO := fun ρ => (a ρ).bind fun x => match x with | .int i => .ok (some i) | _ => .stuck
def sCut (z : Str) (lo hi : Option Int) : Str := ⟨((z.cps.toList.drop (slP z.cps.toList.length 0 lo)).take (slP z.cps.toList.length z.cps.toList.length hi - slP z.cps.toList.length 0 lo)).toArray⟩
def oCut (x : PV) (lo hi : Option Int) : R PV := match x with
  | .str z => if z.length ≤ sizeLine then .ok (.str (sCut z lo hi)) else .stuck
  | .lst l => .ok (.lst (cutP l lo hi))
  | _ => .stuck
def fCut (a : FE) (l h : FO) : FE := fun ρ => (a ρ).bind fun x => (l ρ).bind fun lo => (h ρ).bind fun hi => oCut x lo hi

def sNext : FS := fun ρ => .next ρ
def sSeq (f g : FS) : FS := fun ρ => match f ρ with
  | .next ρ' => g ρ'
  | o => o
def sBreak : FS := fun ρ => .brk ρ
def sCont : FS := fun ρ => .cont ρ
def ofR (r : R PV) (ρ : MEnv) (k : PV → SR) : SR := match r with
  | .ok v => k v
  | .exc c => .exc c ρ
  | .stuck => .stuck
def sRet (a : FE) : FS := fun ρ => ofR (a ρ) ρ fun v => .ret v
def sRetN : FS := fun _ => .ret .non
def sExpr (a : FE) : FS := fun ρ => ofR (a ρ) ρ fun _ => .next ρ
def sSet (i : Nat) (a : FE) : FS := fun ρ => ofR (a ρ) ρ fun v => .next (ρ.set i (some v))
def sIf (t : FT) (f g : FS) : FS := fun ρ => match t ρ with
  | .ok c => if c then f ρ else g ρ
  | .exc c => .exc c ρ
  | .stuck => .stuck
def sRaise (c : Nat) : FS := fun ρ => .exc c ρ
/-- what stands in a text's braces -/
def isSmallI : R PV → Bool
  | .ok (.int i) => decide (i.natAbs < 18446744073709551616)
  | _ => false
/-- raise C(a text), where k holds (what stands in the text's braces is small) -/
def sRaiseT (k : MEnv → Bool) (c : Nat) : FS := fun ρ => if k ρ then .exc c ρ else .stuck
/-- a loop over items -/
def forL (i : Nat) (body : FS) : List PV → FS
  | [], ρ => .next ρ
  | x :: r, ρ => match body (ρ.set i (some x)) with
    | .next ρ' => forL i body r ρ'
    | .cont ρ' => forL i body r ρ'
    | .brk ρ' => .next ρ'
    | o => o
def sFor (i : Nat) (it : FA) (body : FS) : FS := fun ρ => match it ρ with
  | .ok l => forL i body l ρ
  | .exc c => .exc c ρ
  | .stuck => .stuck
/-- what a for walks -/
def iSeq (a : FE) : FA := fun ρ => (a ρ).bind fun x => match x with
  | .lst l => .ok l
  | .tup l => .ok l
  | _ => .stuck
/-- how many, for range(lo, hi, st) -/
def rangeN (lo hi st : Int) : Nat := (if st > 0 then (if lo < hi then (hi - lo - 1) / st + 1 else 0) else (if lo > hi then (lo - hi - 1) / (-st) + 1 else 0)).toNat
def rangeP (lo hi st : Int) : List PV := (List.range (rangeN lo hi st)).map fun (k : Nat) => .int (lo + (k : Int) * st)
def smallI (i : Int) : Prop := -(2 ^ 60) ≤ i ∧ i < 2 ^ 60
instance (i : Int) : Decidable (smallI i) := inferInstanceAs (Decidable (_ ∧ _))
def iRange (a : FA) : FA := fun ρ => (a ρ).bind fun xs => match xs with
  | [.int hi] => if smallI hi then .ok (rangeP 0 hi 1) else .stuck
  | [.int lo, .int hi] => if smallI lo ∧ smallI hi then .ok (rangeP lo hi 1) else .stuck
  | [.int lo, .int hi, .int st] => if smallI lo ∧ smallI hi ∧ smallI st ∧ st ≠ 0 then .ok (rangeP lo hi st) else .stuck
  | _ => .stuck
def iStr (a : FE) : FA := fun ρ => (a ρ).bind fun x => match x with
  | .str z => .ok (z.cps.toList.map fun c => .str ⟨#[c]⟩)
  | _ => .stuck
/-- try: body; except the error class d as n: x = n -/
def sTryAs (body : FS) (ks : List Nat) (d n x : Nat) : FS := fun ρ => match body ρ with
  | .exc c ρ' => if ks.contains c && under c d then .next (((ρ'.set n (some (.exc c))).set x (some (.exc c))).set n none) else .stuck
  | o => o

def start (n : Nat) (vs : List PV) : MEnv := vs.map some ++ List.replicate (n - vs.length) none
def runF (n : Nat) (b : FS) (vs : List PV) : R PV := match b (start n vs) with
  | .next _ => .ok .non
  | .ret v => .ok v
  | .exc c _ => .exc c
  | _ => .stuck
end Mi
set_option Elab.async false
set_option linter.all false
set_option autoImplicit false
set_option maxRecDepth 100000
set_option maxHeartbeats 4000000
set_option Elab.async false
set_option linter.all false
set_option autoImplicit false
set_option maxRecDepth 100000
set_option maxHeartbeats 4000000
namespace Mi
open PySem
def Fine (f : Obj → Obj) : Prop := ∀ o, (f o).cls = o.cls ∧ (f o).dict = o.dict ∧ (f o).isFreed = o.isFreed
def Kd (e : Addr) (h h' : Heap) : Prop := ∀ o, h.get? e = some o → ∃ o', h'.get? e = some o' ∧ o'.cls = o.cls ∧ o'.dict = o.dict
theorem Kd.refl (e : Addr) (h : Heap) : Kd e h h := fun o q => ⟨o, q, rfl, rfl⟩
theorem Kd.trans {e : Addr} {h h1 h2 : Heap} (a : Kd e h h1) (b : Kd e h1 h2) : Kd e h h2 := fun o q => by
  obtain ⟨o1, q1, c1, d1⟩ := a o q
  obtain ⟨o2, q2, c2, d2⟩ := b o1 q1
  exact ⟨o2, q2, c2.trans c1, d2.trans d1⟩
inductive Tame : {α : Type} → Sem α → Prop where
  | pure {α : Type} (a : α) : Tame (.pure a)
  | raise {α : Type} (e : Value) : Tame (.raise e : Sem α)
  | unsupported {α : Type} (w : String) : Tame (.unsupported w : Sem α)
  | rule {α : Type} {t : String} {k : Unit → Sem α} (h : Tame (k ())) : Tame (.rule t k)
  | load {α : Type} {a : Addr} {p : Option Value} {k : Obj → Sem α} (h : ∀ o, Tame (k o)) : Tame (.load a p k)
  | update {α : Type} {a : Addr} {p : Option Value} {f : Obj → Obj} {k : Unit → Sem α} (hf : Fine f) (h : Tame (k ())) : Tame (.update a p f k)
  | alloc {α : Type} {o : Obj} {k : Addr → Sem α} (h : ∀ a, Tame (k a)) : Tame (.alloc o k)
  | register {α : Type} {a : Addr} {k : Unit → Sem α} : Tame (.register a k)
  | stack {α : Type} {k : List (Code × Pos) → Sem α} (h : ∀ a, Tame (k a)) : Tame (.stack k)
theorem Tame.bind {α β : Type} {t : Sem α} {f : α → Sem β} (h : Tame t) (g : ∀ a, Tame (f a)) : Tame (t >>= f) := by
  show Tame (t.bind f)
  induction h with
  | pure a => exact g a
  | raise e => exact .raise e
  | unsupported w => exact .unsupported w
  | rule _ ih => exact .rule ih
  | load _ ih => exact .load fun o => ih o
  | update hf _ ih => exact .update hf ih
  | alloc _ ih => exact .alloc fun a => ih a
  | register => exact .register
  | stack _ ih => exact .stack fun a => ih a
theorem kd_update {e a : Addr} {h : Heap} {f : Obj → Obj} (hf : Fine f) : Kd e h (h.update a f) := fun o q => by
  by_cases ha : a = e
  · subst ha
    have nf : o.isFreed = false := (Heap.get?_some_iff.mp q).2
    exact ⟨f o, Heap.get?_update_self f q (by rw [(hf o).2.2]; exact nf), (hf o).1, (hf o).2.1⟩
  · exact ⟨o, (Heap.get?_update_other _ _ ha).trans q, rfl, rfl⟩
theorem Tame.keep {α : Type} {M : Model} {Γ : Ctx} {t : Sem α} (h : Tame t) (e : Addr) : ∀ {Q : α → Pos → Shared → Prop} {E : Value → Pos → Shared → Prop} {p : Pos} {s : Shared}, Sem.wp M Γ t Q E p s →
    Sem.wp M Γ t (fun a p s' => Q a p s' ∧ Kd e s.heap s'.heap) (fun x p s' => E x p s' ∧ Kd e s.heap s'.heap) p s := by
  induction h with
  | pure a => intro Q E p s w; exact ⟨w, Kd.refl _ _⟩
  | raise x => intro Q E p s w; exact ⟨w, Kd.refl _ _⟩
  | unsupported x => intro Q E p s w; exact w.elim
  | rule _ ih => intro Q E p s w; exact ih w
  | load _ ih => intro Q E p s w; obtain ⟨o, h1, h2⟩ := w; exact ⟨o, h1, ih o h2⟩
  | update hf _ ih =>
    intro Q E p s w
    obtain ⟨h1, h2⟩ := w
    exact ⟨h1, Sem.wp_mono M Γ _ (fun a p s' ⟨q, k⟩ => ⟨q, (kd_update hf).trans k⟩) (fun x p s' ⟨q, k⟩ => ⟨q, (kd_update hf).trans k⟩) _ _ (ih h2)⟩
  | alloc _ ih =>
    intro Q E p s w
    have k0 : ∀ (o : Obj), Kd e s.heap (s.heap.push o) := fun o o' q => ⟨o', Heap.get?_push_of_some _ q, rfl, rfl⟩
    exact Sem.wp_mono M Γ _ (fun a p s' ⟨q, k⟩ => ⟨q, (k0 _).trans k⟩) (fun x p s' ⟨q, k⟩ => ⟨q, (k0 _).trans k⟩) _ _ (ih _ w)
  | register => intro Q E p s w; exact w.elim
  | stack _ ih => intro Q E p s w; exact ih _ w
theorem Tame.any {α : Type} {M : Model} {A : Around} {t : Sem α} (h : Tame t) (e : Addr) {Q : α → Shared → Prop} {E : Value → Shared → Prop} {s : Shared} (w : wpAny M A t Q E s) :
    wpAny M A t (fun a s' => Q a s' ∧ Kd e s.heap s'.heap) (fun x s' => E x s' ∧ Kd e s.heap s'.heap) s := fun Γ p hΓ => h.keep e (w Γ p hΓ)
theorem fine_fields (g : Array Value → Array Value) : Fine (Obj.mapFields g) := fun o => by
  obtain ⟨c, d, dt, sl⟩ := o
  cases dt <;> exact ⟨rfl, rfl, rfl⟩
theorem fine_slots (g : Obj → Array (Option Value)) : Fine (fun o => { o with slots := g o }) := fun o => by
  obtain ⟨c, d, dt, sl⟩ := o
  cases dt <;> exact ⟨rfl, rfl, rfl⟩
theorem tame_load (a : Addr) : Tame (PySem.load a) := .load fun o => .pure o
theorem tame_update (a : Addr) {f : Obj → Obj} (h : Fine f) : Tame (PySem.update a f) := .update h (.pure ())
theorem tame_fieldsOf (v : Value) : Tame (fieldsOf v) := by
  unfold fieldsOf
  cases v <;> first | exact .unsupported _ | skip
  refine Tame.bind (tame_load _) fun o => ?_
  cases o.data <;> first | exact .unsupported _ | exact .pure _
theorem tame_field (v : Value) (i : Nat) : Tame (field v i) := by
  unfold field
  refine Tame.bind (tame_fieldsOf v) fun vs => ?_
  split
  · exact .pure _
  · exact .unsupported _
theorem tame_setField (v : Value) (i : Nat) (x : Value) : Tame (setField v i x) := by
  unfold setField
  cases v <;> first | exact .unsupported _ | skip
  unfold updateField
  refine Tame.bind (tame_load _) fun o => ?_
  cases o.data <;> first | exact .unsupported _ | skip
  dsimp only
  split
  · exact tame_update _ (fine_fields _)
  · exact .unsupported _
theorem tame_setFlight (e : Value) (f : Option Addr) : Tame (setFlight e f) := by
  unfold setFlight
  refine Tame.bind (tame_field _ _) fun tb => ?_
  split
  · exact tame_setField _ _ _
  · exact .pure _
theorem tame_stack : Tame PySem.stack := .stack fun a => .pure a
theorem tame_behind (env : Env) (outer : List Env) : Tame (behindIsImport env outer) := by
  unfold behindIsImport
  split
  · exact .pure _
  · split
    · exact .pure _
    · exact Tame.bind (tame_field _ _) fun _ => .pure _
theorem tame_kept (env : Env) (b : Bool) : ∀ l, Tame (keptBack env b l)
  | [] => by
    show Tame (if (env.scope.isGenerator || env.scope.isCoroutine) = true then Pure.pure Value.none else _)
    split
    · exact .pure _
    · refine Tame.bind ?_ fun x => ?_
      · unfold underTheClaimsCaller
        exact Tame.bind tame_stack fun _ => .pure _
      · exact .pure _
  | c :: r => .pure _
theorem tame_ready : ∀ l, Tame (readyFrames l)
  | [] => .pure _
  | env :: outer => by
    unfold readyFrames
    split
    · refine Tame.bind (tame_load _) fun o => ?_
      split
      · exact .pure _
      · refine Tame.bind (tame_behind _ _) fun _ => Tame.bind (tame_kept _ _ _) fun _ => Tame.bind (tame_update _ (fine_slots _)) fun _ => tame_ready outer
    · exact .unsupported _
theorem tame_frameObject : ∀ l, Tame (frameObject l)
  | [] => .pure _
  | env :: outer => by unfold frameObject; exact Tame.bind (tame_ready _) fun _ => .pure _
theorem tame_frameOf (env : Env) : Tame (frameOf env) := by
  unfold frameOf
  refine Tame.bind (Tame.bind tame_stack fun _ => .pure _) fun l => Tame.bind (tame_frameObject _) fun x => ?_
  split
  · exact .pure _
  · exact .unsupported _
theorem tame_place (f : Addr) (b : Bool) : Tame (entryPlaceOf f b) := by
  unfold entryPlaceOf
  refine Tame.bind tame_stack fun a => ?_
  split <;> exact .pure _
theorem tame_entry (a b c d e : Value) (l : List Value) : Tame (EntryCells.newEntry a b c d e l) := by
  have al : ∀ o : Obj, Tame (do let a ← PySem.alloc o; Pure.pure (Value.ref a)) := fun o => Tame.bind (.alloc fun a => .pure a) fun a => .pure _
  unfold EntryCells.newEntry newFields newObj newObjAsIs
  dsimp only
  generalize (if l.isEmpty = true then List.replicate 6 Value.none else l) = l'
  split
  · exact Tame.bind (.unsupported _) fun _ => al _
  · exact al _
theorem tame_note (e : Value) (env : Env) : Tame (noteFrame e env) := by
  unfold noteFrame
  split
  · refine Tame.bind (tame_field _ _) fun head => ?_
    split
    · refine Tame.bind (tame_field _ _) fun x => ?_
      split
      · exact .pure _
      · refine Tame.bind (tame_setField _ _ _) fun _ => Tame.bind (tame_frameOf _) fun _ => Tame.bind (tame_place _ _) fun _ => Tame.bind (tame_entry ..) fun _ => tame_setField _ _ _
    · refine Tame.bind (tame_frameOf _) fun _ => Tame.bind (tame_place _ _) fun _ => Tame.bind (tame_entry ..) fun _ => tame_setField _ _ _
  · exact .unsupported _
end Mi
set_option Elab.async false
set_option linter.all false
set_option autoImplicit false
set_option maxRecDepth 100000
set_option maxHeartbeats 4000000
namespace Mi
open PySem PySem.Spec PyProof.Rows L2
/-- an exception object of the class at C stands at a -/
abbrev SV := L2.St
/-- an exception object of the class at C stands at a -/
def ExcO (a C : Addr) : HO := .ext fun h => ∃ o vs, h.get? a = some o ∧ o.cls = .ref C ∧ o.dict = none ∧ o.data = .fields vs

mutual
/-- v stands for the pure value p, in the part Hf of the heap that nobody writes to -/
inductive Rp (K : PySem.W.Frag) (cl : Nat → Addr) (Hf : Hp) : V → PV → Prop where
  | non : Rp K cl Hf .non .non
  | bl (b : Bool) : Rp K cl Hf (.bl b) (.bl b)
  | int (i : Int) : Rp K cl Hf (.int i) (.int i)
  | str (x : Str) : Rp K cl Hf (.str x) (.str x)
  | tup {a : Addr} {xs : List V} {ps : List PV} (h : SqT K Hf a xs) (r : Rps K cl Hf xs ps) : Rp K cl Hf (.ref a) (.tup ps)
  | lst {a : Addr} {xs : List V} {ps : List PV} (h : SqL K Hf a xs) (r : Rps K cl Hf xs ps) : Rp K cl Hf (.ref a) (.lst ps)
  | exc {a : Addr} {c : Nat} (h : Hf a = some (ExcO a (cl c))) : Rp K cl Hf (.ref a) (.exc c)
  | dic0 {a : Addr} (h : Hf a = some (.dK [])) : Rp K cl Hf (.ref a) .dic0
  | ins {a dx : Addr} {c : Nat} (h : Hf a = some (.ins (cl c) dx [])) : Rp K cl Hf (.ref a) (.ins c)
inductive Rps (K : PySem.W.Frag) (cl : Nat → Addr) (Hf : Hp) : List V → List PV → Prop where
  | nil : Rps K cl Hf [] []
  | cons {v : V} {p : PV} {vs : List V} {ps : List PV} (r : Rp K cl Hf v p) (t : Rps K cl Hf vs ps) : Rps K cl Hf (v :: vs) (p :: ps)
end
section
variable {K : PySem.W.Frag} {cl : Nat → Addr} {Hf Hf' : Hp}
theorem Same.seqT {H H' : Hp} {a : Addr} {xs : List V} (e : Same H H') (h : SqT K H a xs) : SqT K H' a xs := by
  rcases h with (h | ⟨o, h⟩) | h
  · exact .inl (.inl (e _ _ h))
  · exact .inl (.inr ⟨o, e _ _ h⟩)
  · exact .inr h
mutual
theorem Rp.keep (s : Same Hf Hf') : ∀ {v : V} {p : PV}, Rp K cl Hf v p → Rp K cl Hf' v p
  | _, _, .non => .non
  | _, _, .bl b => .bl b
  | _, _, .int i => .int i
  | _, _, .str x => .str x
  | _, _, .tup h r => .tup (Same.seqT s h) (Rps.keep s r)
  | _, _, .lst h r => .lst (s.seq h) (Rps.keep s r)
  | _, _, .exc h => .exc (s _ _ h)
  | _, _, .dic0 h => .dic0 (s _ _ h)
  | _, _, .ins h => .ins (s _ _ h)
theorem Rps.keep (s : Same Hf Hf') : ∀ {vs : List V} {ps : List PV}, Rps K cl Hf vs ps → Rps K cl Hf' vs ps
  | _, _, .nil => .nil
  | _, _, .cons r t => .cons (Rp.keep s r) (Rps.keep s t)
end
theorem Rps.length : ∀ {vs : List V} {ps : List PV}, Rps K cl Hf vs ps → vs.length = ps.length
  | _, _, .nil => rfl
  | _, _, .cons _ t => congrArg (· + 1) (Rps.length t)
theorem Rps.get : ∀ {vs : List V} {ps : List PV} {i : Nat} {p : PV}, Rps K cl Hf vs ps → ps[i]? = some p → ∃ v, vs[i]? = some v ∧ Rp K cl Hf v p
  | _, _, _, _, .nil, e => by simp at e
  | _, _, 0, _, .cons r _, e => by simp at e; subst e; exact ⟨_, rfl, r⟩
  | _, _, i + 1, p, .cons _ t, e => by
    obtain ⟨v, h1, h2⟩ := Rps.get (i := i) (p := p) t (by simpa using e)
    exact ⟨v, by simpa using h1, h2⟩
theorem Rps.get' : ∀ {vs : List V} {ps : List PV} {i : Nat} {v : V}, Rps K cl Hf vs ps → vs[i]? = some v → ∃ p, ps[i]? = some p ∧ Rp K cl Hf v p
  | _, _, _, _, .nil, e => by simp at e
  | _, _, 0, _, .cons r _, e => by simp at e; subst e; exact ⟨_, rfl, r⟩
  | _, _, i + 1, v, .cons _ t, e => by
    obtain ⟨p, h1, h2⟩ := Rps.get' (i := i) (v := v) t (by simpa using e)
    exact ⟨p, by simpa using h1, h2⟩
theorem Rps.append : ∀ {vs ws : List V} {ps qs : List PV}, Rps K cl Hf vs ps → Rps K cl Hf ws qs → Rps K cl Hf (vs ++ ws) (ps ++ qs)
  | _, _, _, _, .nil, s => s
  | _, _, _, _, .cons r t, s => .cons r (Rps.append t s)
theorem Rps.take : ∀ {vs : List V} {ps : List PV} (n : Nat), Rps K cl Hf vs ps → Rps K cl Hf (vs.take n) (ps.take n)
  | _, _, 0, _ => .nil
  | _, _, _ + 1, .nil => .nil
  | _, _, n + 1, .cons r t => .cons r (Rps.take n t)
theorem Rps.drop : ∀ {vs : List V} {ps : List PV} (n : Nat), Rps K cl Hf vs ps → Rps K cl Hf (vs.drop n) (ps.drop n)
  | _, _, 0, r => r
  | _, _, _ + 1, .nil => .nil
  | _, _, n + 1, .cons _ t => Rps.drop n t
theorem Rps.ints : ∀ (ns : List Int), Rps K cl Hf (ns.map V.int) (ns.map PV.int)
  | [] => .nil
  | n :: r => .cons (.int n) (Rps.ints r)
end
/-- from (Hf, H) to (Hf', H'): all that was there is there, and what is new in Hf' is new in H' -/
structure Ext (Hf H Hf' H' : Hp) : Prop where
  all : Same H H'
  frz : Same Hf Hf'
  sub : Same Hf' H'
  old : ∀ b, H b ≠ none → Hf' b = Hf b
theorem Ext.refl {Hf H : Hp} (s : Same Hf H) : Ext Hf H Hf H := ⟨Same.refl _, Same.refl _, s, fun _ _ => rfl⟩
theorem Ext.trans {Hf H Hf1 H1 Hf2 H2 : Hp} (a : Ext Hf H Hf1 H1) (b : Ext Hf1 H1 Hf2 H2) : Ext Hf H Hf2 H2 :=
  ⟨a.all.trans b.all, a.frz.trans b.frz, b.sub, fun c n => by
    have n1 : H1 c ≠ none := by
      cases e : H c with
      | none => exact absurd e n
      | some o => rw [a.all c o e]; intro z; cases z
    rw [b.old c n1, a.old c n]⟩
/-- a new object -/
theorem same_upd {H : Hp} {p : Addr} (h : H p = none) (o : HO) : Same H (upd H p o) := fun b u q => by rw [upd_ne (ne_of_none q h)]; exact q
theorem Ext.new {Hf H : Hp} (s : Same Hf H) {p : Addr} (h : H p = none) (o : HO) : Ext Hf H (upd Hf p o) (upd H p o) := by
  have hf : Hf p = none := s.free h
  refine ⟨same_upd h o, same_upd hf o, fun b u q => ?_, fun b n => ?_⟩
  · by_cases e : b = p
    · subst e; rw [upd_same] at q ⊢; exact q
    · rw [upd_ne e] at q ⊢; exact s b u q
  · rw [upd_ne (fun e => n (by rw [e]; exact h))]
/-- new in H alone -/
theorem Ext.newH {Hf H : Hp} (s : Same Hf H) {p : Addr} (h : H p = none) (o : HO) : Ext Hf H Hf (upd H p o) :=
  ⟨same_upd h o, Same.refl _, fun b u q => same_upd h o b u (s b u q), fun _ _ => rfl⟩

/-- a slot -/
def Slot (K : PySem.W.Frag) (cl : Nat → Addr) (H0 Hf H : Hp) (v : V) : PV → Prop
  | .own ps => ∃ a xs, v = .ref a ∧ H a = some (.lst xs) ∧ Hf a = none ∧ H0 a = none ∧ Rps K cl Hf xs ps
  | p => Rp K cl Hf v p
/-- the frame's values, in a def that was entered at (Hf0, H0) -/
structure Rep (K : PySem.W.Frag) (cl : Nat → Addr) (Hf0 H0 Hf H : Hp) (σ : SV) (ρ : MEnv) : Prop where
  ext : Ext Hf0 H0 Hf H
  slot : ∀ (i : Nat) (p : PV), ρ[i]? = some (some p) → ∃ v, σ[i]? = some (some v) ∧ Slot K cl H0 Hf H v p
  dist : ∀ (i j : Nat) (ps qs : List PV) (a : Addr), ρ[i]? = some (some (.own ps)) → ρ[j]? = some (some (.own qs)) → σ[i]? = some (some (.ref a)) → σ[j]? = some (some (.ref a)) → i = j

section
variable {K : PySem.W.Frag} {cl : Nat → Addr} {Hf0 H0 Hf H Hf' H' : Hp} {σ : SV} {ρ : MEnv}
theorem Rep.sub (r : Rep K cl Hf0 H0 Hf H σ ρ) : Same Hf H := r.ext.sub
theorem Slot.keep {v : V} {p : PV} (e : Ext Hf H Hf' H') (h : Slot K cl H0 Hf H v p) : Slot K cl H0 Hf' H' v p := by
  cases p with
  | own ps =>
    obtain ⟨a, xs, e1, e2, e3, e4, e5⟩ := h
    exact ⟨a, xs, e1, e.all _ _ e2, by rw [e.old a (by rw [e2]; intro z; cases z)]; exact e3, e4, e5.keep e.frz⟩
  | _ => exact Rp.keep e.frz h
theorem Rep.keep (r : Rep K cl Hf0 H0 Hf H σ ρ) (e : Ext Hf H Hf' H') : Rep K cl Hf0 H0 Hf' H' σ ρ :=
  ⟨r.ext.trans e, fun i p h => by
    obtain ⟨v, h1, h2⟩ := r.slot i p h
    exact ⟨v, h1, h2.keep e⟩, r.dist⟩
theorem getV_some : ∀ {ρ : MEnv} {i : Nat} {p : PV}, getV ρ i = .ok p → ρ[i]? = some (some p) ∧ ∀ l, p ≠ .own l
  | [], _, _, h => by simp [getV] at h
  | o :: r, 0, p, h => by
    have h' : asVal o = .ok p := h
    cases o with
    | none => simp [asVal] at h'
    | some q =>
      cases q <;> first
        | (simp [asVal] at h'; done)
        | (simp only [asVal] at h'; cases h'; exact ⟨rfl, fun l z => by cases z⟩)
  | o :: r, i + 1, p, h => by
    obtain ⟨a, b⟩ := getV_some (ρ := r) (i := i) (p := p) h
    exact ⟨by simpa using a, b⟩
theorem getV_noexc : ∀ {ρ : MEnv} {i : Nat} {c : Nat}, getV ρ i ≠ .exc c
  | [], _, _, h => by simp [getV] at h
  | o :: r, 0, c, h => by
    have h' : asVal o = .exc c := h
    cases o with
    | none => simp [asVal] at h'
    | some q => cases q <;> simp [asVal] at h'
  | o :: r, i + 1, c, h => getV_noexc (ρ := r) (i := i) (c := c) h
theorem Rep.var (r : Rep K cl Hf0 H0 Hf H σ ρ) {i : Nat} {p : PV} (h : getV ρ i = .ok p) : ∃ v, σ[i]? = some (some v) ∧ Rp K cl Hf v p := by
  obtain ⟨e, n⟩ := getV_some h
  obtain ⟨v, h1, h2⟩ := r.slot i p e
  refine ⟨v, h1, ?_⟩
  cases p with
  | own l => exact absurd rfl (n l)
  | _ => exact h2
/-- a slot is written -/
theorem Rep.set (r : Rep K cl Hf0 H0 Hf H σ ρ) (i : Nat) {v : V} {p : PV} (h : Rp K cl Hf v p) (hl : i < σ.length) : Rep K cl Hf0 H0 Hf H (σ.set i (some v)) (ρ.set i (some p)) := by
  have np : ∀ l, p ≠ .own l := fun l z => by subst z; cases h
  refine ⟨r.ext, fun j q hq => ?_, fun j k ps qs a h1 h2 h3 h4 => ?_⟩
  · by_cases e : i = j
    · subst e
      have hi : i < ρ.length := by
        rw [List.getElem?_set] at hq
        by_cases hh : i < ρ.length
        · exact hh
        · simp [hh] at hq
      rw [List.getElem?_set_self hi] at hq
      cases hq
      refine ⟨v, by rw [List.getElem?_set_self hl], ?_⟩
      cases p with
      | own l => exact absurd rfl (np l)
      | _ => exact h
    · rw [List.getElem?_set_ne e] at hq
      obtain ⟨w, a, b⟩ := r.slot j q hq
      exact ⟨w, by rw [List.getElem?_set_ne e]; exact a, b⟩
  · have ne : ∀ {m : Nat} {l : List PV}, (ρ.set i (some p))[m]? = some (some (.own l)) → i ≠ m := fun {m l} hm z => by
      subst z
      have hi : i < ρ.length := by
        rw [List.getElem?_set] at hm
        by_cases hh : i < ρ.length
        · exact hh
        · simp [hh] at hm
      rw [List.getElem?_set_self hi] at hm
      cases hm
      exact np l rfl
    have n1 := ne h1
    have n2 := ne h2
    rw [List.getElem?_set_ne n1] at h1 h3
    rw [List.getElem?_set_ne n2] at h2 h4
    exact r.dist j k ps qs a h1 h2 h3 h4
/-- a slot is forgotten -/
theorem Rep.forget (r : Rep K cl Hf0 H0 Hf H σ ρ) (i : Nat) (w : Option V) : Rep K cl Hf0 H0 Hf H (σ.set i w) (ρ.set i none) := by
  have ne : ∀ {m : Nat} {l : PV}, (ρ.set i none)[m]? = some (some l) → i ≠ m := fun {m l} hm z => by
    subst z
    rw [List.getElem?_set] at hm
    by_cases hh : i < ρ.length <;> simp [hh] at hm
  refine ⟨r.ext, fun j q hq => ?_, fun j k ps qs a h1 h2 h3 h4 => ?_⟩
  · have e := ne hq
    rw [List.getElem?_set_ne e] at hq
    obtain ⟨v, a, b⟩ := r.slot j q hq
    exact ⟨v, by rw [List.getElem?_set_ne e]; exact a, b⟩
  · have n1 := ne h1
    have n2 := ne h2
    rw [List.getElem?_set_ne n1] at h1 h3
    rw [List.getElem?_set_ne n2] at h2 h4
    exact r.dist j k ps qs a h1 h2 h3 h4
end
/-- what must stand through the stations of an exception: the tracked, the pinned, all that was there at the entry, the cells -/
def Stands (X : Cx) (pins : List (Addr × Obj)) (H : Hp) (b : Addr) : Prop :=
  H b ≠ none ∨ (∃ p ∈ X.pn ++ pins, p.1 = b) ∨ (∃ o, X.s₀.heap.get? b = some o) ∨ ∃ x, X.env.cells.lookup x = some b
def Cov (X : Cx) (pins : List (Addr × Obj)) (H : Hp) (B h : Heap) : Prop := ∀ b o, h.get? b = some o → Stands X pins H b → b ∉ frs X.stack → B.get? b = some o
/-- just made: no traceback yet -/
def FreshW (B : Heap) (l : List Env) (e : Addr) (cls a0 : Value) (h : Heap) : Prop :=
  B.StaysIn h ∧ B.get? e = none ∧ h.FunFrames B l ∧ ∃ oe vs, h.get? e = some oe ∧ oe.cls = cls ∧ oe.dict = none ∧ oe.data = .fields vs ∧ vs[0]? = some a0 ∧ vs[1]? = some .none
def NoD (e : Addr) (h : Heap) : Prop := ∃ o, h.get? e = some o ∧ o.dict = none
def XSt (X : Cx) (pins : List (Addr × Obj)) (H : Hp) (e C : Addr) (h : Heap) : Prop :=
  ∃ B a0, Cov X pins H B h ∧ NoD e h ∧ (FreshW B X.stack e (.ref C) a0 h ∨ Heap.HeldW B X.stack e (.ref C) a0 X.env.locals h ∨ Heap.FlyingW B X.stack e (.ref C) a0 h)
/-- an exception of the class c, seen from (Hf, H) -/
def XAt (X : Cx) (cl : Nat → Addr) (pins : List (Addr × Obj)) (σ : SV) (Hf H : Hp) (c : Nat) (u : Value) (s : Shared) : Prop :=
  ∃ e Hf' H', u = .ref e ∧ Inv X pins σ H' s ∧ Ext Hf H Hf' H' ∧ XSt X pins H' e (cl c) s.heap
theorem XAt.from {X : Cx} {cl : Nat → Addr} {pins : List (Addr × Obj)} {σ : SV} {Hf H Hf1 H1 : Hp} {c : Nat} {u : Value} {s : Shared} (e : Ext Hf H Hf1 H1) (x : XAt X cl pins σ Hf1 H1 c u s) : XAt X cl pins σ Hf H c u s := by
  obtain ⟨a, Hf', H', h1, h2, h3, h4⟩ := x
  exact ⟨a, Hf', H', h1, h2, e.trans h3, h4⟩

section
variable (X : Cx) (cl : Nat → Addr)
def OkP (pins : List (Addr × Obj)) (σ : SV) (Hf H : Hp) (r : R PV) (u : Value) (s : Shared) : Prop :=
  ∃ p v Hf' H', r = .ok p ∧ Inv X pins σ H' s ∧ RelV v u ∧ Ext Hf H Hf' H' ∧ Rp X.K cl Hf' v p
def ExP {α : Type} (pins : List (Addr × Obj)) (σ : SV) (Hf H : Hp) (r : R α) (u : Value) (s : Shared) : Prop :=
  ∃ c, r = .exc c ∧ XAt X cl pins σ Hf H c u s
def OkT (pins : List (Addr × Obj)) (σ : SV) (Hf H : Hp) (r : R Bool) (b : Bool) (s : Shared) : Prop :=
  ∃ Hf' H', r = .ok b ∧ Inv X pins σ H' s ∧ Ext Hf H Hf' H'
def OkA (pins : List (Addr × Obj)) (σ : SV) (Hf H : Hp) (r : R (List PV)) (us : List Value) (s : Shared) : Prop :=
  ∃ ps vs Hf' H', r = .ok ps ∧ Inv X pins σ H' s ∧ Vals vs us ∧ Ext Hf H Hf' H' ∧ Rps X.K cl Hf' vs ps
/-- f mirrors the expression e -/
structure ME (e : Expr) (f : FE) : Prop where
  run' : ∀ (pins : List (Addr × Obj)) (s : Shared) (σ : SV) (Hf0 H0 Hf H : Hp) (ρ : MEnv), Inv X pins σ H s → Rep X.K cl Hf0 H0 Hf H σ ρ → f ρ ≠ .stuck →
    wpAny (model X.prog X.w) X.A (eval e X.env) (OkP X cl pins σ Hf H (f ρ)) (ExP X cl pins σ Hf H (f ρ)) s
instance {e : Expr} {f : FE} : CoeFun (ME X cl e f) fun _ => ∀ (pins : List (Addr × Obj)) (s : Shared) (σ : SV) (Hf0 H0 Hf H : Hp) (ρ : MEnv), Inv X pins σ H s → Rep X.K cl Hf0 H0 Hf H σ ρ → f ρ ≠ .stuck →
    wpAny (model X.prog X.w) X.A (eval e X.env) (OkP X cl pins σ Hf H (f ρ)) (ExP X cl pins σ Hf H (f ρ)) s := ⟨ME.run'⟩
structure MT (e : Expr) (f : FT) : Prop where
  run' : ∀ (pins : List (Addr × Obj)) (s : Shared) (σ : SV) (Hf0 H0 Hf H : Hp) (ρ : MEnv), Inv X pins σ H s → Rep X.K cl Hf0 H0 Hf H σ ρ → f ρ ≠ .stuck →
    wpAny (model X.prog X.w) X.A (isTrue e X.env (eval e X.env)) (OkT X pins σ Hf H (f ρ)) (ExP X cl pins σ Hf H (f ρ)) s
instance {e : Expr} {f : FT} : CoeFun (MT X cl e f) fun _ => ∀ (pins : List (Addr × Obj)) (s : Shared) (σ : SV) (Hf0 H0 Hf H : Hp) (ρ : MEnv), Inv X pins σ H s → Rep X.K cl Hf0 H0 Hf H σ ρ → f ρ ≠ .stuck →
    wpAny (model X.prog X.w) X.A (isTrue e X.env (eval e X.env)) (OkT X pins σ Hf H (f ρ)) (ExP X cl pins σ Hf H (f ρ)) s := ⟨MT.run'⟩
end
end Mi
set_option Elab.async false
set_option linter.all false
set_option autoImplicit false
set_option maxRecDepth 100000
set_option maxHeartbeats 4000000
namespace Mi
open PySem PySem.Spec PyProof.Rows L2
section
variable {X : Cx} {cl : Nat → Addr} {pins : List (Addr × Obj)} {s : Shared} {σ : SV} {Hf0 H0 Hf H Hf1 H1 : Hp} {ρ : MEnv} {α : Type}
theorem ME.run {e : Expr} {f : FE} (h : ME X cl e f) (I : Inv X pins σ H1 s) (r : Rep X.K cl Hf0 H0 Hf1 H1 σ ρ) (e0 : Ext Hf H Hf1 H1) {k : PV → R α} (hs : (f ρ).bind k ≠ .stuck) {Q : Value → Shared → Prop}
    (ok : ∀ p v u s' Hf' H', (f ρ).bind k = k p → Inv X pins σ H' s' → RelV v u → Ext Hf1 H1 Hf' H' → Rp X.K cl Hf' v p → Q u s') :
    wpAny (model X.prog X.w) X.A (eval e X.env) Q (ExP X cl pins σ Hf H ((f ρ).bind k)) s := by
  have hf : f ρ ≠ .stuck := fun z => hs (by rw [z]; rfl)
  refine wpAny_mono (h pins s σ Hf0 H0 Hf1 H1 ρ I r hf) (fun u s' q => ?_) fun u s' q => ?_
  · obtain ⟨p, v, Hf', H', e1, I', rv, ex, rp⟩ := q
    exact ok p v u s' Hf' H' (by rw [e1]; rfl) I' rv ex rp
  · obtain ⟨c, e1, x⟩ := q
    exact ⟨c, by rw [e1]; rfl, x.from e0⟩
theorem okp {t : Sem Value} {p : PV} {E : Value → Shared → Prop}
    (h : wpAny (model X.prog X.w) X.A t (EP (X.wish E) pins σ fun v H' => ∃ Hf', Ext Hf H Hf' H' ∧ Rp X.K cl Hf' v p) E s) : wpAny (model X.prog X.w) X.A t (OkP X cl pins σ Hf H (.ok p)) E s :=
  thn h fun u s' ⟨v, H', I', rv, Hf', ex, rp⟩ => ⟨p, v, Hf', H', rfl, I'.unwish, rv, ex, rp⟩
theorem OkP.from {e0 : Ext Hf H Hf1 H1} {r : R PV} {u : Value} {s' : Shared} (h : OkP X cl pins σ Hf1 H1 r u s') : OkP X cl pins σ Hf H r u s' := by
  obtain ⟨p, v, Hf', H', e1, I', rv, ex, rp⟩ := h
  exact ⟨p, v, Hf', H', e1, I', rv, e0.trans ex, rp⟩
theorem ExP.from {e0 : Ext Hf H Hf1 H1} {r : R α} {u : Value} {s' : Shared} (h : ExP X cl pins σ Hf1 H1 r u s') : ExP X cl pins σ Hf H r u s' := by
  obtain ⟨c, e1, x⟩ := h
  exact ⟨c, e1, x.from e0⟩

theorem me_var {i : Nat} {x : Str} {pos : Pos} (hN : X.N[i]? = some x) (hv : Vis X.env.scope x) (hd : (x == ("__debug__" : Str)) = false := by decide) (hcd : (x == ("__classdict__" : Str)) = false := by decide) :
    ME X cl (.Name x pos) (fVar i) := by
  refine ⟨?_⟩
  intro pins s σ Hf0 H0 Hf H ρ I r hs
  unfold fVar at hs ⊢
  cases e : getV ρ i with
  | stuck => exact absurd e hs
  | exc c => exact absurd e getV_noexc
  | ok p =>
    obtain ⟨v, h1, h2⟩ := r.var e
    generalize ExP X cl pins σ Hf H (R.ok p) = E
    refine okp ?_
    refine (pe_var (X := X.wish E) hN hv hd hcd) pins s σ H _ (I.wish E) ?_
    exact ⟨v, h1, Hf, Ext.refl r.sub, h2⟩
theorem me_const {e : Expr} {v : V} {p : PV} (h : ∀ E, PE (X.wish E) e (tC v)) (r : ∀ Hf, Rp X.K cl Hf v p) : ME X cl e (fC p) := by
  refine ⟨?_⟩
  intro pins s σ Hf0 H0 Hf H ρ I rr hs
  generalize ExP X cl pins σ Hf H (fC p ρ) = E
  refine okp ?_
  refine h E pins s σ H _ (I.wish E) ?_
  exact ⟨Hf, Ext.refl rr.sub, r Hf⟩
theorem me_int {i : Int} {j : Nat} {pos : Pos} : ME X cl (.Constant (.int i) j pos) (fC (.int i)) := me_const (fun _ => pe_int) fun _ => .int i
theorem me_bl {b : Bool} {j : Nat} {pos : Pos} : ME X cl (.Constant (.bool b) j pos) (fC (.bl b)) := me_const (fun _ => pe_bl) fun _ => .bl b
theorem me_non {j : Nat} {pos : Pos} : ME X cl (.Constant .none j pos) (fC .non) := me_const (fun _ => pe_non) fun _ => .non
theorem me_str {x : Str} {j : Nat} {pos : Pos} : ME X cl (.Constant (.str x) j pos) (fC (.str x)) := me_const (fun _ => pe_str) fun _ => .str x
/-- a module's constant -/
theorem me_glob {x : Str} {v : V} {p : PV} {u : Value} {pos : Pos} (hg : Gl X x) (hm : X.mg x = some u) (rv : RelV v u) (r : ∀ Hf, Rp X.K cl Hf v p) (hd : (x == ("__debug__" : Str)) = false := by decide) : ME X cl (.Name x pos) (fC p) :=
  me_const (fun _ => pe_glob hg hm rv hd) r

def BinR (X : Cx) (cl : Nat → Addr) (f : Value → Value → Sem Value) (o : PV → PV → R PV) : Prop :=
  ∀ (pins : List (Addr × Obj)) (s : Shared) (σ : SV) (Hf H : Hp) (x y : V) (v u : Value) (p q : PV), Inv X pins σ H s → Same Hf H → RelV x v → RelV y u → Rp X.K cl Hf x p → Rp X.K cl Hf y q → o p q ≠ .stuck →
    wpAny (model X.prog X.w) X.A (f v u) (OkP X cl pins σ Hf H (o p q)) (ExP X cl pins σ Hf H (o p q)) s
theorem two {a b : Expr} {fa fb : FE} {f : Value → Value → Sem Value} {o : PV → PV → R PV} (ha : ME X cl a fa) (hb : ME X cl b fb) (rule : BinR X cl f o) (I : Inv X pins σ H s) (r : Rep X.K cl Hf0 H0 Hf H σ ρ) (hs : fBin o fa fb ρ ≠ .stuck) :
    wpAny (model X.prog X.w) X.A (eval a X.env) (fun v s₁ => wpAny (model X.prog X.w) X.A (eval b X.env) (fun u s₂ => wpAny (model X.prog X.w) X.A (f v u)
      (OkP X cl pins σ Hf H (fBin o fa fb ρ)) (ExP X cl pins σ Hf H (fBin o fa fb ρ)) s₂) (ExP X cl pins σ Hf H (fBin o fa fb ρ)) s₁) (ExP X cl pins σ Hf H (fBin o fa fb ρ)) s := by
  unfold fBin at hs ⊢
  refine ha.run I r (Ext.refl r.sub) hs fun p v u s1 Hf1 H1 e1 I1 rv x1 rp => ?_
  rw [e1] at hs ⊢
  refine hb.run I1 (r.keep x1) x1 hs fun q v' u' s2 Hf2 H2 e2 I2 rv' x2 rq => ?_
  rw [e2] at hs ⊢
  exact wpAny_mono (rule pins s2 σ Hf2 H2 v v' u u' p q I2 x2.sub rv rv' (rp.keep x2.frz) rq hs) (fun _ _ h => h.from (e0 := x1.trans x2)) fun _ _ h => h.from (e0 := x1.trans x2)
theorem me_bin {a b : Expr} {fa fb : FE} {op : Operator} {o : PV → PV → R PV} {pos : Pos} (rule : BinR X cl (binaryOp op) o) (ha : ME X cl a fa) (hb : ME X cl b fb) : ME X cl (.BinOp a op b pos) (fBin o fa fb) := by
  refine ⟨?_⟩
  intro pins s σ Hf0 H0 Hf H ρ I r hs
  exact wpAny_BinOp (two ha hb rule I r hs)
theorem me_cmp {a b : Expr} {fa fb : FE} {op : CmpOp} {o : PV → PV → R PV} {pos : Pos} (rule : BinR X cl (compareOp op) o) (ha : ME X cl a fa) (hb : ME X cl b fb) (hm : behindInMarks op b = false) : ME X cl (.Compare a [op] [b] pos) (fBin o fa fb) := by
  refine ⟨?_⟩
  intro pins s σ Hf0 H0 Hf H ρ I r hs
  exact wpAny_Compare1 (two ha hb rule I r hs) hm
def UnaR (X : Cx) (cl : Nat → Addr) (f : Value → Sem Value) (o : PV → R PV) : Prop :=
  ∀ (pins : List (Addr × Obj)) (s : Shared) (σ : SV) (Hf H : Hp) (x : V) (v : Value) (p : PV), Inv X pins σ H s → Same Hf H → RelV x v → Rp X.K cl Hf x p → o p ≠ .stuck →
    wpAny (model X.prog X.w) X.A (f v) (OkP X cl pins σ Hf H (o p)) (ExP X cl pins σ Hf H (o p)) s
theorem me_una {a : Expr} {fa : FE} {op : UnaryOp} {o : PV → R PV} {pos : Pos} (rule : UnaR X cl (unaryOp op) o) (ha : ME X cl a fa) : ME X cl (.UnaryOp op a pos) (fUn o fa) := by
  refine ⟨?_⟩
  intro pins s σ Hf0 H0 Hf H ρ I r hs
  unfold fUn at hs ⊢
  refine UnaryOp_ (ha.run I r (Ext.refl r.sub) hs fun p v u s1 Hf1 H1 e1 I1 rv x1 rp => ?_)
  rw [e1] at hs ⊢
  exact wpAny_mono (rule pins s1 σ Hf1 H1 v u p I1 x1.sub rv rp hs) (fun _ _ h => h.from (e0 := x1)) fun _ _ h => h.from (e0 := x1)

/-- two ints -/
theorem intR {f : Value → Value → Sem Value} {o : PV → PV → R PV} (C : Int → Int → Prop) (g : Int → Int → Int) (ho : ∀ p q, o p q ≠ .stuck → ∃ i j, p = .int i ∧ q = .int j ∧ C i j ∧ o p q = .ok (.int (g i j)))
    (rule : ∀ (i j : Int) (t u : Tok) (s : Shared) (Q : Value → Shared → Prop) (E : Value → Shared → Prop), C i j → Q (.int (g i j) s.toks) { s with toks := s.toks + 1 } → wpAny (model X.prog X.w) X.A (f (.int i t) (.int j u)) Q E s) : BinR X cl f o := by
  intro pins s σ Hf H x y v u p q I sm rv ru rp rq hs
  obtain ⟨i, j, rfl, rfl, hc, e⟩ := ho p q hs
  rw [e]
  cases rp; cases rq
  obtain ⟨t, rfl⟩ := rv
  obtain ⟨t', rfl⟩ := ru
  exact rule i j t t' s _ _ hc ⟨_, .int (g i j), Hf, H, rfl, I.tok _, ⟨_, rfl⟩, Ext.refl sm, .int _⟩
theorem intB {f : Value → Value → Sem Value} {o : PV → PV → R PV} (g : Int → Int → Bool) (ho : ∀ p q, o p q ≠ .stuck → ∃ i j, p = .int i ∧ q = .int j ∧ o p q = .ok (.bl (g i j)))
    (rule : ∀ (i j : Int) (t u : Tok) (s : Shared) (Q : Value → Shared → Prop) (E : Value → Shared → Prop), Q (.bool (g i j)) s → wpAny (model X.prog X.w) X.A (f (.int i t) (.int j u)) Q E s) : BinR X cl f o := by
  intro pins s σ Hf H x y v u p q I sm rv ru rp rq hs
  obtain ⟨i, j, rfl, rfl, e⟩ := ho p q hs
  rw [e]
  cases rp; cases rq
  obtain ⟨t, rfl⟩ := rv
  obtain ⟨t', rfl⟩ := ru
  exact rule i j t t' s _ _ ⟨_, .bl (g i j), Hf, H, rfl, I, rfl, Ext.refl sm, .bl _⟩
end
theorem two_pow_pos' (k : Nat) : (0 : Int) < 2 ^ k := Int.pow_pos (by decide)
section
variable {X : Cx} {cl : Nat → Addr}
theorem r_sub : BinR X cl (binaryOp .Sub) oSub := intR (fun _ _ => True) (fun i j => i - j)
  (fun p q h => by cases p <;> cases q <;> first | exact ⟨_, _, rfl, rfl, trivial, rfl⟩ | exact absurd rfl h) fun _ _ _ _ _ _ _ _ q => sub_int q
theorem ifOk {c : Prop} [Decidable c] {a : PV} (h : (if c then R.ok a else R.stuck) ≠ .stuck) : c ∧ (if c then R.ok a else R.stuck) = .ok a := by
  by_cases hc : c
  · exact ⟨hc, if_pos hc⟩
  · rw [if_neg hc] at h; exact absurd rfl h
theorem r_mul : BinR X cl (binaryOp .Mult) oMul := intR (fun i j => nb i ≤ 64 ∨ nb j ≤ 64 ∨ nb i + nb j ≤ bitsMax) (fun i j => i * j)
  (fun p q h => by
    cases p <;> cases q <;> first
      | exact absurd rfl h
      | exact ⟨_, _, rfl, rfl, (ifOk h).1, (ifOk h).2⟩) fun i j _ _ _ _ _ hc q => mul_int q (by
    rcases hc with hc | hc | hc
    · exact .of_left hc
    · exact .of_right hc
    · exact .of_le (Nat.le_refl _) (Nat.le_refl _) hc)
theorem r_mod : BinR X cl (binaryOp .Mod) oMod := intR (fun _ j => 0 < j) (fun i j => i % j)
  (fun p q h => by
    cases p <;> cases q <;> first
      | exact absurd rfl h
      | exact ⟨_, _, rfl, rfl, (ifOk h).1, (ifOk h).2⟩) fun i j _ _ _ _ _ hc q => mod_int' (by omega) (by rw [Int.fmod_eq_emod_of_nonneg i (by omega)]; exact q)
theorem log2_of_nb {j : Int} {k : Nat} (h0 : j ≠ 0) (h : nb j ≤ k) : j.natAbs.log2 < k := by
  have e : nb j = j.natAbs.log2 + 1 := by
    show (if j == 0 then 0 else j.natAbs.log2 + 1) = _
    rw [if_neg (by simpa using h0)]
  omega
theorem r_div : BinR X cl (binaryOp .FloorDiv) oDiv := intR (fun _ j => 0 < j ∧ nb j ≤ 9000) (fun i j => i / j)
  (fun p q h => by
    cases p <;> cases q <;> first
      | exact absurd rfl h
      | exact ⟨_, _, rfl, rfl, (ifOk h).1, (ifOk h).2⟩) fun i j _ _ _ _ _ hc q => floordiv_int (by omega) (by rw [Int.fdiv_eq_ediv_of_nonneg i (by omega)]; exact q)
        (.inl (PyProof.noPylong_of_log2 (log2_of_nb (by omega) hc.2)))
theorem natAbs_of_nb {j : Int} {k : Nat} (h : nb j ≤ k) : j.natAbs < 2 ^ k := PySem.intBits_le_iff.mp h
theorem r_pow : BinR X cl (binaryOp .Pow) oPow := intR (fun i j => 0 ≤ j ∧ j ≤ 1000000 ∧ nb i ≤ 64) (fun i j => i ^ j.toNat)
  (fun p q h => by
    cases p <;> cases q <;> first
      | exact absurd rfl h
      | exact ⟨_, _, rfl, rfl, (ifOk h).1, (ifOk h).2⟩) fun i j _ _ _ _ _ hc q => pow_int_small hc.1 hc.2.1 (natAbs_of_nb hc.2.2) q
theorem r_shl : BinR X cl (binaryOp .LShift) oShl := intR (fun i j => 0 ≤ j ∧ nb i + j ≤ 134217728) (fun i j => i * 2 ^ j.toNat)
  (fun p q h => by
    cases p <;> cases q <;> first
      | exact absurd rfl h
      | exact ⟨_, _, rfl, rfl, (ifOk h).1, (ifOk h).2⟩) fun i j _ _ _ _ _ hc q => lshift_int hc.1 hc.2 q
theorem r_shr : BinR X cl (binaryOp .RShift) oShr := intR (fun _ j => 0 ≤ j) (fun i j => i / 2 ^ j.toNat)
  (fun p q h => by
    cases p <;> cases q <;> first
      | exact absurd rfl h
      | exact ⟨_, _, rfl, rfl, (ifOk h).1, (ifOk h).2⟩) fun i j _ _ _ _ _ hc q => rshift_int hc (by rw [Int.fdiv_eq_ediv_of_nonneg i (Int.le_of_lt (two_pow_pos' _))]; exact q)
theorem r_and : BinR X cl (binaryOp .BitAnd) oAnd := intR (fun _ _ => True) (fun i j => Builtin.bitAnd i j)
  (fun p q h => by cases p <;> cases q <;> first | exact ⟨_, _, rfl, rfl, trivial, rfl⟩ | exact absurd rfl h) fun _ _ _ _ _ _ _ _ q => and_int q
theorem r_lt : BinR X cl (compareOp .Lt) cLt := intB (fun i j => decide (i < j))
  (fun p q h => by cases p <;> cases q <;> first | exact ⟨_, _, rfl, rfl, rfl⟩ | exact absurd rfl h) fun _ _ _ _ _ _ _ q => lt_int q
theorem r_le : BinR X cl (compareOp .LtE) cLe := intB (fun i j => decide (i ≤ j))
  (fun p q h => by cases p <;> cases q <;> first | exact ⟨_, _, rfl, rfl, rfl⟩ | exact absurd rfl h) fun _ _ _ _ _ _ _ q => le_int q
theorem r_neg : UnaR X cl (unaryOp .USub) oNeg := by
  intro pins s σ Hf H x v p I sm rv rp hs
  cases p with
  | int i =>
    cases rp
    obtain ⟨t, rfl⟩ := rv
    exact neg_int ⟨_, .int (-i), Hf, H, rfl, I.tok _, ⟨_, rfl⟩, Ext.refl sm, .int _⟩
  | _ => exact absurd rfl hs
end
end Mi
set_option Elab.async false
set_option linter.all false
set_option autoImplicit false
set_option maxRecDepth 100000
set_option maxHeartbeats 4000000
namespace Mi
open PySem PySem.Spec PyProof.Rows L2
section
variable {X : Cx} {cl : Nat → Addr} {pins : List (Addr × Obj)} {s : Shared} {σ : SV} {Hf0 H0 Hf H Hf1 H1 : Hp} {ρ : MEnv} {α : Type}
/-- a test whatever its whole is -/
structure MW (X : Cx) (cl : Nat → Addr) (e : Expr) (f : FT) : Prop where
  run' : ∀ (whole : Sem Value) (pins : List (Addr × Obj)) (s : Shared) (σ : SV) (Hf0 H0 Hf H : Hp) (ρ : MEnv), Inv X pins σ H s → Rep X.K cl Hf0 H0 Hf H σ ρ → f ρ ≠ .stuck →
    wpAny (model X.prog X.w) X.A (isTrue e X.env whole) (OkT X pins σ Hf H (f ρ)) (ExP X cl pins σ Hf H (f ρ)) s
instance {X : Cx} {cl : Nat → Addr} {e : Expr} {f : FT} : CoeFun (MW X cl e f) fun _ => ∀ (whole : Sem Value) (pins : List (Addr × Obj)) (s : Shared) (σ : SV) (Hf0 H0 Hf H : Hp) (ρ : MEnv), Inv X pins σ H s → Rep X.K cl Hf0 H0 Hf H σ ρ → f ρ ≠ .stuck →
    wpAny (model X.prog X.w) X.A (isTrue e X.env whole) (OkT X pins σ Hf H (f ρ)) (ExP X cl pins σ Hf H (f ρ)) s := ⟨MW.run'⟩
theorem MW.mt {e : Expr} {f : FT} (h : MW X cl e f) : MT X cl e f := ⟨h.run' _⟩
theorem MT.run {e : Expr} {f : FT} (h : MT X cl e f) (I : Inv X pins σ H1 s) (r : Rep X.K cl Hf0 H0 Hf1 H1 σ ρ) (e0 : Ext Hf H Hf1 H1) {k : Bool → R α} (hs : (f ρ).bind k ≠ .stuck) {Q : Bool → Shared → Prop}
    (ok : ∀ c s' Hf' H', (f ρ).bind k = k c → Inv X pins σ H' s' → Ext Hf1 H1 Hf' H' → Q c s') :
    wpAny (model X.prog X.w) X.A (isTrue e X.env (eval e X.env)) Q (ExP X cl pins σ Hf H ((f ρ).bind k)) s := by
  have hf : f ρ ≠ .stuck := fun z => hs (by rw [z]; rfl)
  refine wpAny_mono (h pins s σ Hf0 H0 Hf1 H1 ρ I r hf) (fun c s' q => ?_) fun u s' q => ?_
  · obtain ⟨Hf', H', e1, I', ex⟩ := q
    exact ok c s' Hf' H' (by rw [e1]; rfl) I' ex
  · obtain ⟨c, e1, x⟩ := q
    exact ⟨c, by rw [e1]; rfl, x.from e0⟩
theorem OkT.from {e0 : Ext Hf H Hf1 H1} {r : R Bool} {b : Bool} {s' : Shared} (h : OkT X pins σ Hf1 H1 r b s') : OkT X pins σ Hf H r b s' := by
  obtain ⟨Hf', H', e1, I', ex⟩ := h
  exact ⟨Hf', H', e1, I', e0.trans ex⟩
theorem truth_ok {p : PV} {v : V} {u : Value} {E : Value → Shared → Prop} (I : Inv X pins σ H s) (sm : Same Hf H) (rv : RelV v u) (rp : Rp X.K cl Hf v p) (hs : truthP p ≠ .stuck) :
    wpAny (model X.prog X.w) X.A (truthy u) (OkT X pins σ Hf H (truthP p)) E s := by
  cases p with
  | non => cases rp; cases rv; exact truthy_none ⟨Hf, H, rfl, I, Ext.refl sm⟩
  | bl b => cases rp; cases rv; exact wpAny_truthy_bool ⟨Hf, H, rfl, I, Ext.refl sm⟩
  | int i => cases rp; obtain ⟨t, rfl⟩ := rv; exact PySem.P.truthy_int ⟨Hf, H, rfl, I, Ext.refl sm⟩
  | lst l =>
    cases rp with
    | lst h r =>
      cases rv
      obtain ⟨its, w, pl, z⟩ := I.list (sm.seq h)
      have hl : its.length = l.length := by rw [← w.length, r.length]
      have hz : l.length ≤ sizeLine := by rw [← r.length]; exact z
      refine wpAny_truthy_list pl.isList (by rw [List.size_toArray, hl]; have : sizeLine < 2 ^ 63 := by decide
                                             omega) ⟨Hf, H, ?_, I.tok _, Ext.refl sm⟩
      show R.ok (!l.isEmpty) = R.ok _
      congr 1
      cases its with
      | nil => cases l with
        | nil => rfl
        | cons => simp at hl
      | cons => cases l with
        | nil => simp at hl
        | cons => simp
  | str z =>
    cases rp; obtain ⟨t, rfl⟩ := rv
    have hs' : (if z.length ≤ sizeLine then R.ok ((z.length : Int) != 0) else R.stuck) ≠ .stuck := hs
    have hz : z.length ≤ sizeLine := Decidable.byContradiction fun c => hs' (by rw [if_neg c])
    refine PySem.P.truthy_str (by have : sizeLine < 2 ^ 63 := by decide
                                  omega) ⟨Hf, H, ?_, I.tok _, Ext.refl sm⟩
    show (if z.length ≤ sizeLine then R.ok ((z.length : Int) != 0) else R.stuck) = _
    rw [if_pos hz]
  | _ => exact absurd rfl hs
/-- an expression whose test is its value's truth -/
theorem mt_val {e : Expr} {f : FE} (h : ME X cl e f) (he : ∀ whole, isTrue e X.env whole = (do let v ← whole; standAt e.pos; holding [v] (truthy v)) := by intro _; rfl) : MT X cl e (tVal f) := by
  refine ⟨?_⟩
  intro pins s σ Hf0 H0 Hf H ρ I r hs
  unfold tVal at hs ⊢
  refine isTrue_plain (h.run I r (Ext.refl r.sub) hs fun p v u s1 Hf1 H1 e1 I1 rv x1 rp => ?_) (he _)
  rw [e1] at hs ⊢
  exact thn (truth_ok I1 x1.sub rv rp hs) fun _ _ q => q.from (e0 := x1)
theorem two_t {a b : Expr} {fa fb : FE} {f : Value → Value → Sem Value} {o : PV → PV → R PV} (ha : ME X cl a fa) (hb : ME X cl b fb) (rule : BinR X cl f o) (I : Inv X pins σ H s) (r : Rep X.K cl Hf0 H0 Hf H σ ρ) (hs : tVal (fBin o fa fb) ρ ≠ .stuck) :
    wpAny (model X.prog X.w) X.A (eval a X.env) (fun v s₁ => wpAny (model X.prog X.w) X.A (eval b X.env) (fun u s₂ => wpAny (model X.prog X.w) X.A (f v u)
      (fun c s₃ => wpAny (model X.prog X.w) X.A (truthy c) (OkT X pins σ Hf H (tVal (fBin o fa fb) ρ)) (ExP X cl pins σ Hf H (tVal (fBin o fa fb) ρ)) s₃)
      (ExP X cl pins σ Hf H (tVal (fBin o fa fb) ρ)) s₂) (ExP X cl pins σ Hf H (tVal (fBin o fa fb) ρ)) s₁) (ExP X cl pins σ Hf H (tVal (fBin o fa fb) ρ)) s := by
  unfold tVal at hs ⊢
  have hs' : fBin o fa fb ρ ≠ .stuck := fun z => hs (by rw [z]; rfl)
  refine wpAny_mono (two ha hb rule I r hs') (fun v s1 h1 => wpAny_mono h1 (fun u s2 h2 => wpAny_mono h2 (fun c s3 h3 => ?_) ?_) ?_) ?_
  · obtain ⟨p, v', Hf', H', e1, I', rv, ex, rp⟩ := h3
    rw [e1] at hs ⊢
    exact thn (truth_ok I' ex.sub rv rp hs) fun _ _ q => q.from (e0 := ex)
  all_goals
    intro u s' q
    obtain ⟨c, e1, x⟩ := q
    exact ⟨c, by rw [e1]; rfl, x⟩
theorem mt_cmp {a b : Expr} {fa fb : FE} {op : CmpOp} {o : PV → PV → R PV} {pos : Pos} (rule : BinR X cl (compareOp op) o) (ha : ME X cl a fa) (hb : ME X cl b fb) (hm : behindInMarks op b = false) : MT X cl (.Compare a [op] [b] pos) (tVal (fBin o fa fb)) := by
  refine ⟨?_⟩
  intro pins s σ Hf0 H0 Hf H ρ I r hs
  exact wpAny_isTrue_Compare1 (two_t ha hb rule I r hs) hm
theorem mt_not {a : Expr} {f : FT} {pos : Pos} (h : MT X cl a f) : MT X cl (.UnaryOp .Not a pos) (tNot f) := by
  refine ⟨?_⟩
  intro pins s σ Hf0 H0 Hf H ρ I r hs
  unfold tNot at hs ⊢
  refine isTrue_not (h.run I r (Ext.refl r.sub) hs fun c s1 Hf1 H1 e1 I1 x1 => ?_)
  rw [e1]
  exact ⟨Hf1, H1, rfl, I1, x1⟩
theorem mw_and1 {a : Expr} {f : FT} {pos : Pos} (h : MT X cl a f) : MW X cl (.BoolOp .And [a] pos) f := by
  refine ⟨?_⟩
  intro wh pins s σ Hf0 H0 Hf H ρ I r hs
  refine isTrue_and (thn (h pins s σ Hf0 H0 Hf H ρ I r hs) fun c s1 q => ?_)
  cases c with
  | true => exact isTrue_and_nil q
  | false => exact q
theorem mw_or1 {a : Expr} {f : FT} {pos : Pos} (h : MT X cl a f) : MW X cl (.BoolOp .Or [a] pos) f := by
  refine ⟨?_⟩
  intro wh pins s σ Hf0 H0 Hf H ρ I r hs
  refine isTrue_or (thn (h pins s σ Hf0 H0 Hf H ρ I r hs) fun c s1 q => ?_)
  cases c with
  | false => exact isTrue_or_nil q
  | true => exact q
theorem mw_and {a b : Expr} {rest : List Expr} {f g : FT} {pos : Pos} (h : MT X cl a f) (hb : MW X cl (.BoolOp .And (b :: rest) pos) g) : MW X cl (.BoolOp .And (a :: b :: rest) pos) (tAnd f g) := by
  refine ⟨?_⟩
  intro wh pins s σ Hf0 H0 Hf H ρ I r hs
  unfold tAnd at hs ⊢
  refine isTrue_and (h.run I r (Ext.refl r.sub) hs fun c s1 Hf1 H1 e1 I1 x1 => ?_)
  rw [e1] at hs ⊢
  cases c with
  | true => exact wpAny_mono (hb wh pins s1 σ Hf0 H0 Hf1 H1 ρ I1 (r.keep x1) hs) (fun _ _ q => q.from (e0 := x1)) fun _ _ q => q.from (e0 := x1)
  | false => exact ⟨Hf1, H1, rfl, I1, x1⟩
theorem mw_or {a b : Expr} {rest : List Expr} {f g : FT} {pos : Pos} (h : MT X cl a f) (hb : MW X cl (.BoolOp .Or (b :: rest) pos) g) : MW X cl (.BoolOp .Or (a :: b :: rest) pos) (tOr f g) := by
  refine ⟨?_⟩
  intro wh pins s σ Hf0 H0 Hf H ρ I r hs
  unfold tOr at hs ⊢
  refine isTrue_or (h.run I r (Ext.refl r.sub) hs fun c s1 Hf1 H1 e1 I1 x1 => ?_)
  rw [e1] at hs ⊢
  cases c with
  | false => exact wpAny_mono (hb wh pins s1 σ Hf0 H0 Hf1 H1 ρ I1 (r.keep x1) hs) (fun _ _ q => q.from (e0 := x1)) fun _ _ q => q.from (e0 := x1)
  | true => exact ⟨Hf1, H1, rfl, I1, x1⟩

theorem oBool_some {p : PV} (h : oBool p ≠ .stuck) : ∃ b, p = .bl b ∧ oBool p = .ok b := by
  cases p with
  | bl b => exact ⟨b, rfl, rfl⟩
  | _ => exact absurd rfl h
theorem me_one {a : Expr} {f : FE} {op : BoolOp} {pos : Pos} (h : ME X cl a f) : ME X cl (.BoolOp op [a] pos) f := ⟨fun pins s σ Hf0 H0 Hf H ρ I r hs => BoolOp_one (h pins s σ Hf0 H0 Hf H ρ I r hs)⟩
theorem me_and {a b : Expr} {rest : List Expr} {f g : FE} {pos : Pos} (h : ME X cl a f) (hb : ME X cl (.BoolOp .And (b :: rest) pos) g) : ME X cl (.BoolOp .And (a :: b :: rest) pos) (fAnd f g) := by
  refine ⟨?_⟩
  intro pins s σ Hf0 H0 Hf H ρ I r hs
  unfold fAnd at hs ⊢
  refine BoolOp_and (h.run I r (Ext.refl r.sub) hs fun p v u s1 Hf1 H1 e1 I1 rv x1 rp => ?_)
  rw [e1] at hs ⊢
  obtain ⟨c, rfl, e2⟩ := oBool_some (p := p) fun z => hs (by rw [z]; rfl)
  rw [e2] at hs ⊢
  cases rp; cases rv
  refine wpAny_truthy_bool ?_
  cases c with
  | true => exact wpAny_mono (hb pins s1 σ Hf0 H0 Hf1 H1 ρ I1 (r.keep x1) hs) (fun _ _ q => q.from (e0 := x1)) fun _ _ q => q.from (e0 := x1)
  | false => exact ⟨_, .bl false, Hf1, H1, rfl, I1, rfl, x1, .bl false⟩
theorem me_not {a : Expr} {f : FE} {pos : Pos} (h : ME X cl a f) : ME X cl (.UnaryOp .Not a pos) (fNot f) := by
  refine ⟨?_⟩
  intro pins s σ Hf0 H0 Hf H ρ I r hs
  unfold fNot at hs ⊢
  refine UnaryOp_ (h.run I r (Ext.refl r.sub) hs fun p v u s1 Hf1 H1 e1 I1 rv x1 rp => ?_)
  rw [e1] at hs ⊢
  obtain ⟨c, rfl, e2⟩ := oBool_some (p := p) fun z => hs (by rw [z]; rfl)
  rw [e2]
  cases rp; cases rv
  exact not_of (wpAny_truthy_bool ⟨_, .bl (!c), Hf1, H1, rfl, I1, rfl, x1, .bl _⟩)
theorem me_if {c a b : Expr} {t : FT} {f g : FE} {pos : Pos} (hc : MT X cl c t) (ha : ME X cl a f) (hb : ME X cl b g) : ME X cl (.IfExp c a b pos) (fIf t f g) := by
  refine ⟨?_⟩
  intro pins s σ Hf0 H0 Hf H ρ I r hs
  unfold fIf at hs ⊢
  refine wpAny_IfExp (hc.run I r (Ext.refl r.sub) hs fun d s1 Hf1 H1 e1 I1 x1 => ?_)
  rw [e1] at hs ⊢
  cases d with
  | true => exact wpAny_mono (ha pins s1 σ Hf0 H0 Hf1 H1 ρ I1 (r.keep x1) hs) (fun _ _ q => q.from (e0 := x1)) fun _ _ q => q.from (e0 := x1)
  | false => exact wpAny_mono (hb pins s1 σ Hf0 H0 Hf1 H1 ρ I1 (r.keep x1) hs) (fun _ _ q => q.from (e0 := x1)) fun _ _ q => q.from (e0 := x1)
/-- x op y op' z -/
theorem me_chain {a b c : Expr} {fa fb fc : FE} {op op' : CmpOp} {o o' : PV → PV → R PV} {pos : Pos} (h1 : BinR X cl (compareOp op) o) (h2 : BinR X cl (compareOp op') o') (ha : ME X cl a fa) (hb : ME X cl b fb) (hc : ME X cl c fc)
    (hm : lastMarks [op, op'] [b, c] = false := by with_unfolding_all rfl) : ME X cl (.Compare a [op, op'] [b, c] pos) (fChain o o' fa fb fc) := by
  refine ⟨?_⟩
  intro pins s σ Hf0 H0 Hf H ρ I r hs
  unfold fChain at hs ⊢
  refine Compare_chain (ha.run I r (Ext.refl r.sub) hs fun p v u s1 Hf1 H1 e1 I1 rv x1 rp => chain_link ?_) hm
  rw [e1] at hs ⊢
  refine hb.run I1 (r.keep x1) x1 hs fun q v' u' s2 Hf2 H2 e2 I2 rv' x2 rq => ?_
  rw [e2] at hs ⊢
  have x12 := x1.trans x2
  have ho : o p q ≠ .stuck := fun z => hs (by rw [z]; rfl)
  refine wpAny_mono (h1 pins s2 σ Hf2 H2 v v' u u' p q I2 x2.sub rv rv' (rp.keep x2.frz) rq ho) (fun d s3 h3 => ?_) fun d s3 h3 => ?_
  · obtain ⟨z, v3, Hf3, H3, e3, I3, rv3, x3, rp3⟩ := h3
    rw [e3] at hs ⊢
    have hs0 : (oBool z).bind (fun k => if k = true then (fc ρ).bind fun w => o' q w else R.ok (PV.bl false)) ≠ .stuck := hs
    obtain ⟨k, rfl, e4⟩ := oBool_some (p := z) fun y => hs0 (by rw [y]; rfl)
    cases rp3; cases rv3
    refine wpAny_truthy_bool ?_
    have x13 := x12.trans x3
    cases k with
    | false => exact ite_ff ⟨_, .bl false, Hf3, H3, rfl, I3, rfl, x13, .bl false⟩
    | true =>
      have hs1 : (fc ρ).bind (fun w => o' q w) ≠ .stuck := hs
      refine ite_tt (chain_last ?_)
      show wpAny _ _ _ (fun b s₁ => wpAny _ _ _ (OkP X cl pins σ Hf H ((fc ρ).bind fun w => o' q w)) (ExP X cl pins σ Hf H ((fc ρ).bind fun w => o' q w)) s₁) (ExP X cl pins σ Hf H ((fc ρ).bind fun w => o' q w)) s3
      refine hc.run I3 (r.keep x13) x13 hs1 fun w v5 u5 s5 Hf5 H5 e5 I5 rv5 x5 rw' => ?_
      rw [e5] at hs1 ⊢
      exact wpAny_mono (h2 pins s5 σ Hf5 H5 v' v5 u' u5 q w I5 x5.sub rv' rv5 (rq.keep (x3.trans x5).frz) rw' hs1) (fun _ _ q => q.from (e0 := x13.trans x5)) fun _ _ q => q.from (e0 := x13.trans x5)
  · obtain ⟨c, e3, y⟩ := h3
    exact ⟨c, by rw [e3]; rfl, y.from x12⟩
end
end Mi
set_option Elab.async false
set_option linter.all false
set_option autoImplicit false
set_option maxRecDepth 100000
set_option maxHeartbeats 4000000
namespace Mi
open PySem PySem.Spec PyProof.Rows L2
section
variable {X : Cx} {cl : Nat → Addr} {pins : List (Addr × Obj)} {s : Shared} {σ : SV} {Hf0 H0 Hf H Hf1 H1 : Hp} {ρ : MEnv} {α : Type}
structure MA (X : Cx) (cl : Nat → Addr) (es : List Expr) (f : FA) : Prop where
  len : ∀ ρ ps, f ρ = .ok ps → ps.length = es.length
  run' : ∀ (pos : Pos) (pins : List (Addr × Obj)) (s : Shared) (σ : SV) (Hf0 H0 Hf H : Hp) (ρ : MEnv), Inv X pins σ H s → Rep X.K cl Hf0 H0 Hf H σ ρ → f ρ ≠ .stuck →
    wpAny (model X.prog X.w) X.A (spliced (backTo pos (starEach es X.env))) (OkA X cl pins σ Hf H (f ρ)) (ExP X cl pins σ Hf H (f ρ)) s
theorem ma_nil : MA X cl [] aNil := ⟨fun _ ps h => by cases h; rfl, fun pos pins s σ Hf0 H0 Hf H ρ I r _ => Calls.spliced_nil ⟨[], [], Hf, H, rfl, I, .nil, Ext.refl r.sub, .nil⟩⟩
theorem ma_cons {e : Expr} {es : List Expr} {f : FE} {g : FA} (h : ME X cl e f) (hr : MA X cl es g) (hst : starEach (e :: es) X.env = (false, eval e X.env) :: starEach es X.env := by rfl) : MA X cl (e :: es) (aCons f g) := by
  refine ⟨fun ρ ps q => ?_, ?_⟩
  · unfold aCons at q
    cases e1 : f ρ with
    | stuck => rw [e1] at q; cases q
    | exc c => rw [e1] at q; cases q
    | ok p =>
      rw [e1] at q
      cases e2 : g ρ with
      | stuck => rw [R.bind_ok, e2] at q; cases q
      | exc c => rw [R.bind_ok, e2] at q; cases q
      | ok qs =>
        rw [R.bind_ok, e2] at q
        cases q
        have := hr.1 ρ qs e2
        rw [List.length_cons, List.length_cons, this]
  intro pos pins s σ Hf0 H0 Hf H ρ I r hs
  unfold aCons at hs ⊢
  rw [hst]
  show wpAny _ _ (spliced ((false, eval e X.env) :: backTo pos (starEach es X.env))) _ _ s
  refine Calls.spliced_cons (h.run I r (Ext.refl r.sub) hs fun p v u s1 Hf1 H1 e1 I1 rv x1 rp => ?_)
  rw [e1] at hs ⊢
  have hg : g ρ ≠ .stuck := fun z => hs (by rw [z]; rfl)
  refine wpAny_mono (hr.2 pos pins s1 σ Hf0 H0 Hf1 H1 ρ I1 (r.keep x1) hg) (fun us s2 h2 => ?_) fun u2 s2 h2 => ?_
  · obtain ⟨ps, vs, Hf2, H2, e2, I2, rvs, x2, rps⟩ := h2
    exact ⟨p :: ps, v :: vs, Hf2, H2, by rw [e2]; rfl, I2, .cons rv rvs, x1.trans x2, .cons (rp.keep x2.frz) rps⟩
  · obtain ⟨c, e2, y⟩ := h2
    exact ⟨c, by rw [e2]; rfl, y.from x1⟩
theorem MA.run {es : List Expr} {f : FA} (h : MA X cl es f) (pos : Pos) (I : Inv X pins σ H1 s) (r : Rep X.K cl Hf0 H0 Hf1 H1 σ ρ) (e0 : Ext Hf H Hf1 H1) {k : List PV → R α} (hs : (f ρ).bind k ≠ .stuck) {Q : List Value → Shared → Prop}
    (ok : ∀ ps vs us s' Hf' H', ps.length = es.length → (f ρ).bind k = k ps → Inv X pins σ H' s' → Vals vs us → Ext Hf1 H1 Hf' H' → Rps X.K cl Hf' vs ps → Q us s') :
    wpAny (model X.prog X.w) X.A (spliced (backTo pos (starEach es X.env))) Q (ExP X cl pins σ Hf H ((f ρ).bind k)) s := by
  have hf : f ρ ≠ .stuck := fun z => hs (by rw [z]; rfl)
  refine wpAny_mono (h.2 pos pins s σ Hf0 H0 Hf1 H1 ρ I r hf) (fun u s' q => ?_) fun u s' q => ?_
  · obtain ⟨ps, vs, Hf', H', e1, I', rv, ex, rp⟩ := q
    exact ok ps vs u s' Hf' H' (h.1 ρ ps e1) (by rw [e1]; rfl) I' rv ex rp
  · obtain ⟨c, e1, x⟩ := q
    exact ⟨c, by rw [e1]; rfl, x.from e0⟩
theorem laid_seq {o : HO} {p : PV} (hn : H s.heap.objs.size = none) (sm : Same Hf H) {h' : Heap} {tk : Nat} (I : Inv X pins σ (upd H s.heap.objs.size o) { s with heap := h', toks := tk })
    (rp : Rp X.K cl (upd Hf s.heap.objs.size o) (.ref s.heap.objs.size) p) : OkP X cl pins σ Hf H (.ok p) (.ref s.heap.objs.size) { s with heap := h', toks := tk } :=
  ⟨p, .ref s.heap.objs.size, _, _, rfl, I, rfl, Ext.new sm hn o, rp⟩
theorem me_tup {es : List Expr} {f : FA} {k : Nat} {pos : Pos} (h : MA X cl es f) : ME X cl (.Tuple es k pos) (fTup f) := by
  refine ⟨?_⟩
  intro pins s σ Hf0 H0 Hf H ρ I r hs
  unfold fTup at hs ⊢
  refine wpAny_Tuple_spliced (h.run pos I r (Ext.refl r.sub) hs fun ps vs us s1 Hf1 H1 _ e1 I1 rv x1 rps => ?_)
  rw [e1] at hs ⊢
  obtain ⟨hz, e2⟩ := ifOk hs
  rw [e2]
  have z : vs.length ≤ sizeLine := by rw [rps.length]; exact hz
  refine ⟨by rw [← rv.length]; exact z, ?_⟩
  have hf : H1 s1.heap.objs.size = none := I1.hok.fresh (Nat.le_refl _)
  refine OkP.from (e0 := x1) (laid_seq (tk := s1.toks) hf x1.sub (I1.laid (t' := s1.toks) (o := .tup vs) (fun b u e => Heap.get?_push_of_some _ e) (Nat.le_refl _) ?_) (.tup (SqT.of upd_same) (rps.keep (same_upd (x1.sub.free hf) _))))
  exact ⟨z, us, rv, ⟨_, Heap.get?_push_size _ rfl, rfl, _, rfl⟩⟩
theorem me_lst {es : List Expr} {f : FA} {pos : Pos} (h : MA X cl es f) : ME X cl (.List es pos) (fLst f) := by
  refine ⟨?_⟩
  intro pins s σ Hf0 H0 Hf H ρ I r hs
  unfold fLst at hs ⊢
  refine wpAny_List_spliced (h.run pos I r (Ext.refl r.sub) hs fun ps vs us s1 Hf1 H1 _ e1 I1 rv x1 rps => ?_)
  rw [e1] at hs ⊢
  obtain ⟨hz, e2⟩ := ifOk hs
  rw [e2]
  have z : vs.length ≤ sizeLine := by rw [rps.length]; exact hz
  refine ⟨by rw [← rv.length]; exact z, ?_⟩
  have hf : H1 s1.heap.objs.size = none := I1.hok.fresh (Nat.le_refl _)
  refine OkP.from (e0 := x1) (laid_seq (tk := s1.toks) hf x1.sub (I1.laid (t' := s1.toks) (o := .lst vs) (fun b u e => Heap.get?_push_of_some _ e) (Nat.le_refl _) ?_) (.lst (SqL.of upd_same) (rps.keep (same_upd (x1.sub.free hf) _))))
  exact ⟨z, us, 0, rv, Heap.get?_push_size _ rfl⟩

/-- how an exception lies behind a call -/
def CXm (cl : Nat → Addr) (P : Program) (w : World) : CXT := fun outer H s E e s' =>
  ∃ (a : Addr) (c : Nat) (H' : Hp) (B : Heap) (a0 : Value), e = .ref a ∧ s'.os = s.os ∧ AllBare s'.gens ∧ Un (frs outer) [] H H' s.heap s'.heap ∧ HOk P w H' s'.heap ∧ Heap.FlyingW B outer a (.ref (cl c)) a0 s'.heap ∧
    (∀ b o, s'.heap.get? b = some o → (H' b ≠ none ∨ ∃ o₀, s.heap.get? b = some o₀) → b ∉ frs outer → B.get? b = some o) ∧ NoD a s'.heap ∧ E (.ref (cl c)) none H'
/-- the promise of a def that the function F mirrors -/
def spF (K : PySem.W.Frag) (cl : Nat → Addr) (n : Nat) (F : List PV → R PV) : Sp := fun vs H Q E => vs.length = n ∧ ∃ Hf ps, Same Hf H ∧ Rps K cl Hf vs ps ∧ F ps ≠ .stuck ∧
  (∀ p v Hf' H', F ps = .ok p → Ext Hf H Hf' H' → Rp K cl Hf' v p → Q v H') ∧ ∀ c Hf' H', F ps = .exc c → Ext Hf H Hf' H' → E (.ref (cl c)) none H'
/-- a def of the text, by its mirror; dps: the defaults that a call with fewer arguments takes -/
structure Fn (X : Cx) (cl : Nat → Addr) (k : Nat) (x : Str) (n : Nat) (F : List PV → R PV) : Prop where
  ex : ∃ (f : Addr) (fd : FuncData) (ps : List Str), X.mg x = some (.ref f) ∧ PySem.W.keepIn X.K (.ref f) = true ∧ ps.length = n ∧ FnOk X.prog X.w X.K X.mg X.base (CXm cl X.prog X.w) k f fd ps (spF X.K cl n F) ∧ Binds X.K fd ps []
theorem xat_of {e : Value} {s' : Shared} {ps : List PV} {F : List PV → R PV} (I : Inv X pins σ H s) (sm : Same Hf H) (hst : X.stack = X.env :: X.outer) 
    (h : CXm cl X.prog X.w X.stack H s (fun u o H' => ∃ c Hf', F ps = .exc c ∧ Ext Hf H Hf' H' ∧ u = .ref (cl c)) e s') (inj : ∀ c d, cl c = cl d → c = d) (hex : ∀ b, b ∉ X.ex) : ExP X cl pins σ Hf H (F ps) e s' := by
  obtain ⟨a, c, H', B, a0, rfl, ho, hg, un, hok, fl, cov, nd, c', Hf', e1, ex, e2⟩ := h
  have ec : c' = c := inj _ _ (by injection e2 with e2; exact e2.symm)
  subst ec
  refine ⟨c', e1, a, Hf', H', rfl, I.call' ho un hok hg (fun b z => absurd z (by simp)), ex, B, a0, ?_, nd, .inr (.inr fl)⟩
  intro b o hb hc hn
  refine cov b o hb ?_ hn
  rcases hc with hc | ⟨p, hp, e⟩ | ⟨o₀, hc⟩ | ⟨x, hc⟩
  · exact .inl hc
  · right
    rw [← e]
    exact ⟨_, (I.pin p hp).1⟩
  · right
    by_cases hx : b ∈ X.ex
    · exact absurd hx (hex b)
    · exact I.base.there b o₀ hc hx
  · right
    obtain ⟨v, o', q, _⟩ := I.cell x b hc
    exact ⟨o', q⟩
theorem me_call {e : Expr} {es : List Expr} {g : FA} {x : Str} {p pos : Pos} {k n : Nat} {F : List PV → R PV} (hF : Fn X cl k x n F) (hr : Room k X.A) (hg : Gl X x) (hst : X.stack = X.env :: X.outer) (inj : ∀ c d, cl c = cl d → c = d) (hex : ∀ b, b ∉ X.ex)
    (ha : MA X cl (e :: es) g) (hl : (e :: es).length = n) (hdb : (x == ("__debug__" : Str)) = false := by decide) (he : starEach (e :: es) X.env = (false, eval e X.env) :: starEach es X.env := by rfl) (hpl : (backTo pos (starEach es X.env)).any (·.1) = false := by rfl) :
    ME X cl (.Call (.Name x p) (e :: es) [] pos) (fCall F g) := by
  obtain ⟨f, fd, ps, hm, hk, hn, hf, hb⟩ := hF.ex
  refine ⟨?_⟩
  intro pins s σ Hf0 H0 Hf H ρ I r hs
  unfold fCall at hs ⊢
  refine wpAny_Call_Name_kw (ld_glob I hg hm ?_ hdb)
  refine PySem.W.callWith_K (h₀ := X.base) I.ok.mod.kin hk (ha.run pos I r (Ext.refl r.sub) hs fun qs vs us s1 Hf1 H1 hq e1 I1 rv x1 rps => ⟨I1.kIn, ?_⟩) he hpl
  rw [e1] at hs ⊢
  have hv : vs.length = n := by rw [rps.length, hq, hl]
  have hsp : spF X.K cl n F vs H1 (fun v H' => ∃ p Hf', F qs = .ok p ∧ Ext Hf1 H1 Hf' H' ∧ Rp X.K cl Hf' v p) (fun u o H' => ∃ c Hf', F qs = .exc c ∧ Ext Hf1 H1 Hf' H' ∧ u = .ref (cl c)) :=
    ⟨hv, Hf1, qs, x1.sub, rps, hs, fun p v Hf' H' a b c => ⟨p, Hf', a, b, c⟩, fun c Hf' H' a b => ⟨c, Hf', a, b, rfl⟩⟩
  have hlu : (us ++ []).length = ps.length := by rw [List.append_nil, ← rv.length, hv, hn]
  have hbb := hb s1 us I1.kIn hlu
  rw [List.append_nil] at hbb
  refine wpAny_call (codeAny_mono (hf.run X.A X.stack s1 H1 ⟨us, []⟩ us vs _ _ hr I1.env0 hbb rv hsp) fun r s' hq' => ?_)
  cases r with
  | error e => exact ExP.from (e0 := x1) (xat_of I1 x1.sub hst hq' inj hex)
  | ok fl =>
    cases fl with
    | ret u =>
      obtain ⟨v, H', I', rv', p, Hf', e2, ex, rp⟩ := I1.after hq'
      exact ⟨p, v, Hf', H', e2, I', rv', x1.trans ex, rp⟩
    | next => exact False.elim hq'
    | brk => exact False.elim hq'
    | cont => exact False.elim hq'
end
end Mi
set_option Elab.async false
set_option linter.all false
set_option autoImplicit false
set_option maxRecDepth 100000
set_option maxHeartbeats 4000000
namespace Mi
open PySem PySem.Spec PyProof.Rows L2
section
variable {X : Cx} {cl : Nat → Addr} {pins : List (Addr × Obj)} {s : Shared} {σ : SV} {Hf0 H0 Hf H Hf1 H1 : Hp} {ρ : MEnv} {α : Type}
def CalR (X : Cx) (cl : Nat → Addr) (f : Value) (F : List PV → R PV) : Prop :=
  ∀ (pins : List (Addr × Obj)) (s : Shared) (σ : SV) (Hf H : Hp) (xs : List V) (us : List Value) (ps : List PV), Inv X pins σ H s → Same Hf H → Vals xs us → Rps X.K cl Hf xs ps → F ps ≠ .stuck →
    wpAny (model X.prog X.w) X.A (call f us) (OkP X cl pins σ Hf H (F ps)) (ExP X cl pins σ Hf H (F ps)) s
theorem me_callB {x : Str} {id : String} {e : Expr} {es : List Expr} {g : FA} {p pos : Pos} {F : List PV → R PV} (hc : CalR X cl (.builtin id) F) (hg : Gl X x) (hm : X.mg x = none) (hv : bootBuiltins x = some (.builtin id)) (ha : MA X cl (e :: es) g)
    (hn : x ≠ "__name__" := by decide) (hdb : (x == ("__debug__" : Str)) = false := by decide) (he : starEach (e :: es) X.env = (false, eval e X.env) :: starEach es X.env := by rfl) (hpl : (backTo pos (starEach es X.env)).any (·.1) = false := by rfl) :
    ME X cl (.Call (.Name x p) (e :: es) [] pos) (fCall F g) := by
  refine ⟨?_⟩
  intro pins s σ Hf0 H0 Hf H ρ I r hs
  unfold fCall at hs ⊢
  refine wpAny_Call_Name_kw (ld_blt I hg hm hv ?_ hn hdb)
  refine PyProof.Rows.callWith_builtin1 (ha.run pos I r (Ext.refl r.sub) hs fun qs vs us s1 Hf1 H1 _ e1 I1 rv x1 rps => ?_) he hpl
  rw [e1] at hs ⊢
  exact wpAny_mono (hc pins s1 σ Hf1 H1 vs us qs I1 x1.sub rv rps hs) (fun _ _ q => q.from (e0 := x1)) fun _ _ q => q.from (e0 := x1)
/-- the layer's own form of a rule -/
theorem okp' {t : Sem Value} {p : PV} {E : Value → Shared → Prop} {rr : R PV} (hr : rr = .ok p)
    (h : ∀ E, wpAny (model X.prog X.w) X.A t (EP (X.wish E) pins σ fun v H' => ∃ Hf', Ext Hf H Hf' H' ∧ Rp X.K cl Hf' v p) E s) : wpAny (model X.prog X.w) X.A t (OkP X cl pins σ Hf H rr) E s := by
  rw [hr]; exact okp (h E)
theorem rps1' {p : PV} {vs : List V} {K : PySem.W.Frag} (h : Rps K cl Hf vs [p]) : ∃ v, vs = [v] ∧ Rp K cl Hf v p := by
  cases h with
  | cons r t => cases t; exact ⟨_, rfl, r⟩
theorem rps2' {p q : PV} {vs : List V} {K : PySem.W.Frag} (h : Rps K cl Hf vs [p, q]) : ∃ v w, vs = [v, w] ∧ Rp K cl Hf v p ∧ Rp K cl Hf w q := by
  cases h with
  | cons r t =>
    cases t with
    | cons r' t' => cases t'; exact ⟨_, _, rfl, r, r'⟩
theorem c_len : CalR X cl (.builtin "len") bLen := by
  intro pins s σ Hf H xs us ps I sm rv rps hs
  match ps, rps, hs with
  | [.tup l], rps, hs =>
    obtain ⟨v, rfl, rp⟩ := rps1' rps
    cases rp with
    | tup h r =>
      refine okp' (p := .int l.length) rfl fun E => (call_len_seq (X := X.wish E)) pins s σ H _ us _ (I.wish E) rv ?_
      exact ⟨_, _, rfl, .inr (Same.seqT sm h), Hf, Ext.refl sm, by rw [r.length]; exact .int _⟩
  | [.lst l], rps, hs =>
    obtain ⟨v, rfl, rp⟩ := rps1' rps
    cases rp with
    | lst h r =>
      refine okp' (p := .int l.length) rfl fun E => (call_len_seq (X := X.wish E)) pins s σ H _ us _ (I.wish E) rv ?_
      exact ⟨_, _, rfl, .inl (sm.seq h), Hf, Ext.refl sm, by rw [r.length]; exact .int _⟩
  | [.str z], rps, hs =>
    obtain ⟨v, rfl, rp⟩ := rps1' rps
    cases rp
    obtain ⟨hz, e⟩ := ifOk hs
    refine okp' (p := .int z.length) e fun E => (call_len_str (X := X.wish E)) pins s σ H _ us _ (I.wish E) rv ?_
    exact ⟨_, rfl, hz, Hf, Ext.refl sm, .int _⟩
  | [], _, hs => exact absurd rfl hs
  | [.non], _, hs => exact absurd rfl hs
  | [.bl _], _, hs => exact absurd rfl hs
  | [.int _], _, hs => exact absurd rfl hs
  | [.exc _], _, hs => exact absurd rfl hs
  | [.dic0], _, hs => exact absurd rfl hs
  | [.own _], _, hs => exact absurd rfl hs
  | _ :: _ :: _, _, hs => exact absurd (by unfold bLen; split <;> first | rfl | (rename_i h; cases h)) hs
theorem r_add : BinR X cl (binaryOp .Add) oAdd := by
  intro pins s σ Hf H x y v u p q I sm rv ru rp rq hs
  cases p <;> cases q <;> first
    | exact absurd rfl hs
    | skip
  · rename_i i j
    cases rp; cases rq
    obtain ⟨t, rfl⟩ := rv
    obtain ⟨t', rfl⟩ := ru
    exact add_int ⟨_, .int (i + j), Hf, H, rfl, I.tok _, ⟨_, rfl⟩, Ext.refl sm, .int _⟩
  · rename_i i j
    obtain ⟨hz, e⟩ := ifOk hs
    cases rp; cases rq
    refine okp' e fun E => (op_add_str (X := X.wish E)) pins s σ H _ _ v u _ (I.wish E) rv ru ?_
    exact ⟨i, j, rfl, rfl, hz, Hf, Ext.refl sm, .str _⟩
  · rename_i i j
    obtain ⟨⟨⟨hz1, hz2⟩, hz⟩, e⟩ := ifOk hs
    cases rp with
    | tup h1 r1 =>
      cases rq with
      | tup h2 r2 =>
        cases rv; cases ru
        obtain ⟨its, w1, p1, z1⟩ := I.tuple (Same.seqT sm h1)
        obtain ⟨its2, w2, p2, z2⟩ := I.tuple (Same.seqT sm h2)
        have l1 := w1.length
        have l2 := w2.length
        have l3 := r1.length
        have l4 := r2.length
        rw [show oAdd (.tup i) (.tup j) = _ from e]
        refine HT.cat_tup p1 p2 (fun q => by rw [q] at l1; simp only [List.length_nil] at l1; omega) (fun q => by rw [q] at l2; simp only [List.length_nil] at l2; omega) (fun _ => ?_) (by omega)
        exact laid_seq (tk := s.toks) I.fresh sm (I.laid (t' := s.toks) (o := .tup _) (fun b u e => Heap.get?_push_of_some _ e) (Nat.le_refl _) ⟨by rw [List.length_append]; omega, its ++ its2, w1.append w2, ⟨_, Heap.get?_push_size _ rfl, rfl, 0, rfl⟩⟩) (.tup (SqT.of upd_same) ((r1.append r2).keep (same_upd (sm.free I.fresh) _)))
  · rename_i i j
    obtain ⟨hz, e⟩ := ifOk hs
    cases rp with
    | lst h1 r1 =>
      cases rq with
      | lst h2 r2 =>
        cases rv; cases ru
        obtain ⟨its, w1, p1, z1⟩ := I.list (sm.seq h1)
        obtain ⟨its2, w2, p2, z2⟩ := I.list (sm.seq h2)
        have l1 := w1.length
        have l2 := w2.length
        have l3 := r1.length
        have l4 := r2.length
        have e0 : its.toArray ++ its2.toArray = (its ++ its2).toArray := by simp
        obtain ⟨⟨cls, dd, data, sl⟩, ho, hc, n, hd⟩ := id p1.isList
        obtain ⟨⟨cls2, dd2, data2, sl2⟩, ho2, hc2, n2, hd2⟩ := id p2.isList
        simp only at hc hd hc2 hd2
        subst hc hd hc2 hd2
        rw [show oAdd (.lst i) (.lst j) = _ from e]
        refine concat_meets ⟨_, ho, rfl⟩ ⟨_, ho2, rfl⟩ noFill_list_add seq_list_add PySem.F.slot_list_add PySem.F.entry_list_add (PySem.F.args_list_add_2 _ _) (list_addW _ _ its.toArray its2.toArray n n2 dd dd2 sl sl2 (by simp only [List.size_toArray]; omega)) ⟨ho, ho2, ?_⟩
        rw [e0]
        exact laid_seq (tk := s.toks) I.fresh sm (I.lnew (t' := s.toks) (w1.append w2) (by rw [List.length_append]; omega)) (.lst (SqL.of upd_same) ((r1.append r2).keep (same_upd (sm.free I.fresh) _)))

/-- as a test -/
theorem t_isN {a : Expr} {fa : FE} {j : Nat} {pos pos' : Pos} (ha : ME X cl a fa) : MT X cl (.Compare a [.Is] [.Constant .none j pos'] pos) (tVal (fUn cIsN fa)) := by
  refine ⟨?_⟩
  intro pins s σ Hf0 H0 Hf H ρ I r hs
  have assoc : ∀ {β γ δ : Type} (x : R β) (f : β → R γ) (g : γ → R δ), (x.bind f).bind g = x.bind fun y => (f y).bind g := fun x f g => by cases x <;> rfl
  unfold tVal fUn at hs ⊢
  rw [assoc] at hs ⊢
  refine wpAny_isTrue_Compare1 (ha.run I r (Ext.refl r.sub) hs fun p v u s1 Hf1 H1 e1 I1 rv x1 rp => ?_) (nobehind _ (by decide) (by decide))
  rw [e1]
  refine Constant_none (is_none_gen (wpAny_truthy_bool ⟨Hf1, H1, ?_, I1, x1⟩))
  rw [rv.none_iff]
  cases rp <;> rfl
theorem t_notN {a : Expr} {fa : FE} {j : Nat} {pos pos' : Pos} (ha : ME X cl a fa) : MT X cl (.Compare a [.IsNot] [.Constant .none j pos'] pos) (tVal (fUn cNotN fa)) := by
  refine ⟨?_⟩
  intro pins s σ Hf0 H0 Hf H ρ I r hs
  have assoc : ∀ {β γ δ : Type} (x : R β) (f : β → R γ) (g : γ → R δ), (x.bind f).bind g = x.bind fun y => (f y).bind g := fun x f g => by cases x <;> rfl
  unfold tVal fUn at hs ⊢
  rw [assoc] at hs ⊢
  refine wpAny_isTrue_Compare1 (ha.run I r (Ext.refl r.sub) hs fun p v u s1 Hf1 H1 e1 I1 rv x1 rp => ?_) (nobehind _ (by decide) (by decide))
  rw [e1]
  refine Constant_none (isnot_none_gen (wpAny_truthy_bool ⟨Hf1, H1, ?_, I1, x1⟩))
  rw [rv.none_iff]
  cases rp <;> rfl
theorem flat_of {K : PySem.W.Frag} {v : V} {p : PV} (h : Rp K cl Hf v p) (f : flatP p = true) : flatV v = true := by
  cases h <;> first | rfl | (simp [flatP] at f)
theorem eqV_of {K : PySem.W.Frag} {v w : V} {p q : PV} (h : Rp K cl Hf v p) (h' : Rp K cl Hf w q) (f : flatP p = true) (g : flatP q = true) : eqV v w = eqPV p q := by
  cases h <;> cases h' <;> first | rfl | (simp [flatP] at f; done) | (simp [flatP] at g; done)
theorem any_of {K : PySem.W.Frag} {w : V} {q : PV} (h' : Rp K cl Hf w q) (g : flatP q = true) : ∀ {vs : List V} {ps : List PV}, Rps K cl Hf vs ps → ps.all flatP = true → vs.all flatV = true ∧ (vs.any fun y => eqV y w) = ps.any fun z => eqPV z q
  | _, _, .nil, _ => ⟨rfl, rfl⟩
  | _, _, .cons r t, f => by
    rw [List.all_cons, Bool.and_eq_true] at f
    obtain ⟨a, b⟩ := any_of h' g t f.2
    exact ⟨by rw [List.all_cons, flat_of r f.1, a]; rfl, by rw [List.any_cons, List.any_cons, eqV_of r h' f.1 g, b]⟩
theorem str_no_dict (b : Str) (u : Tok) (l : Addr) (o : Obj) {es : Array DictEntry} {ep : Nat} (hc : o.cls = .type "dict") (hd : o.data = .dict es ep) : Meets (Builtin.«str.__eq__» ⟨[.str b u, .ref l], []⟩) (fun _ R s => s.heap.get? l = some o ∧ R (.ok (.ret .notImplemented)) s) := by
  refine .of_wp fun prog w A R s h => ?_
  obtain ⟨hp, g, d, tk, os⟩ := s
  obtain ⟨hl, h⟩ := h
  obtain ⟨c, dd, dt, sl⟩ := o
  cases hc
  cases hd
  have f1 := F.sub_dict_str
  wp_walk using wpAny_loadPart' hl, wpAny_load hl
  exact ⟨_, rfl, h⟩
theorem dict_no_str (b : Str) (u : Tok) (l : Addr) (o : Obj) (hc : o.cls = .type "dict") : Meets (Builtin.«dict.__eq__» ⟨[.ref l, .str b u], []⟩) (fun _ R s => s.heap.get? l = some o ∧ R (.ok (.ret .notImplemented)) s) := by
  refine .of_wp fun prog w A R s h => ?_
  obtain ⟨hp, g, d, tk, os⟩ := s
  obtain ⟨hl, h⟩ := h
  obtain ⟨c, dd, dt, sl⟩ := o
  cases hc
  have f1 := F.sub_str_dict
  wp_walk using wpAny_loadPart' hl, wpAny_load hl
  exact ⟨_, rfl, h⟩
theorem str_dict_at {A : Around} {b : Str} {u : Tok} {l : Addr} {o : Obj} {es : Array DictEntry} {ep : Nat} (hl : s.heap.get? l = some o) (hc : o.cls = .type "dict") (hd : o.data = .dict es ep) (hu : A.units < cLine) : SeqAt.RcAt A s (.str b u) (.ref l) false := fun prog w E Q h => by
  have ty : s.TypeIs (.ref l) "dict" := ⟨o, hl, hc⟩
  refine SeqAt.rc_eq_decline_or (k := false) (typeIs_str s b u) ty (by decide) F.sub_dict_str F.slot_str_eq F.slot_dict_eq_refl (fun _ q => ?_) (fun _ q => ?_) (fun _ q => ?_) (.inr hu) h
  · exact call_meets F.slot_str_eq (typeIs_str s b u) F.entry_str_eq (F.args_str_eq_2 _ _) (str_no_dict b u l o hc hd) ⟨hl, q⟩
  · exact call_meets F.slot_dict_eq_refl ty F.entry_dict_eq (F.args_dict_eq_2 _ _) (dict_no_str b u l o hc) ⟨hl, q⟩
  · exact wpAny_of_eq (rfl : isSame (.str b u) (.ref l) = pure false) q
theorem dict_str_at {A : Around} {b : Str} {u : Tok} {l : Addr} {o : Obj} {es : Array DictEntry} {ep : Nat} (hl : s.heap.get? l = some o) (hc : o.cls = .type "dict") (hd : o.data = .dict es ep) (hu : A.units < cLine) : SeqAt.RcAt A s (.ref l) (.str b u) false := fun prog w E Q h => by
  have ty : s.TypeIs (.ref l) "dict" := ⟨o, hl, hc⟩
  refine SeqAt.rc_eq_decline_or (k := false) ty (typeIs_str s b u) (by decide) F.sub_str_dict F.slot_dict_eq F.slot_str_eq_refl (fun _ q => ?_) (fun _ q => ?_) (fun _ q => ?_) (.inr hu) h
  · exact call_meets F.slot_dict_eq ty F.entry_dict_eq (F.args_dict_eq_2 _ _) (dict_no_str b u l o hc) ⟨hl, q⟩
  · exact call_meets F.slot_str_eq_refl (typeIs_str s b u) F.entry_str_eq (F.args_str_eq_2 _ _) (str_no_dict b u l o hc hd) ⟨hl, q⟩
  · exact wpAny_of_eq (rfl : isSame (.ref l) (.str b u) = pure false) q
theorem dic_at {l : Addr} (I : Inv X pins σ H s) (sm : Same Hf H) (h : Hf l = some (.dK [])) : ∃ o es ep, s.heap.get? l = some o ∧ o.cls = .type "dict" ∧ o.data = .dict es ep := by
  obtain ⟨_, _, vs, _, p⟩ := (show ObjOk X.prog X.w H s.heap l (.dK []) from I.hok l _ (sm _ _ h))
  obtain ⟨o, es, ep, h1, h2, h3, _⟩ := p
  exact ⟨o, es, ep, h1, h2.1, h3⟩
theorem str_heap {A : Around} {b : Str} {t : Tok} {x : V} {v : Value} {p : PV} (I : Inv X pins σ H s) (sm : Same Hf H) (rv : RelV x v) (rp : Rp X.K cl Hf x p) (hp : heapP p = true) (hu : A.units < cLine) : SeqAt.EqAt A s (.str b t) v false := by
  cases p <;> first
    | (simp [heapP] at hp; done)
    | skip
  · cases rp with
    | tup h r => cases rv; obtain ⟨its, w, pl, z⟩ := I.tuple (Same.seqT sm h); exact SeqAt.EqAt.str_tuple _ _ pl hu
  · cases rp with
    | lst h r => cases rv; obtain ⟨its, w, pl, z⟩ := I.list (sm.seq h); exact SeqAt.EqAt.str_list _ _ pl.isList hu
  · cases rp with
    | dic0 h =>
      cases rv
      obtain ⟨o, es, ep, h1, h2, h3⟩ := dic_at I sm h
      intro prog w E Q hq
      unfold eqBool
      refine wpAny_holding (wpAny_ite_split (fun hab => absurd (eq_of_beq hab) nofun) fun _ => ?_)
      exact wpAny_bind (str_dict_at h1 h2 h3 hu prog w E _ (wpAny_truthy_bool hq))
theorem strs_of : ∀ {l : List PV} {vs : List V} {us : List Value}, Rps X.K cl Hf vs l → Vals vs us → l.all strP = true → ∀ y ∈ us, ∃ b t, y = Value.str b t
  | [], _, _, r, w, _, y, hy => by cases r; cases w; cases hy
  | p :: l, _, _, r, w, h, y, hy => by
    cases r with
    | cons r1 r2 =>
      cases w with
      | cons w1 w2 =>
        rw [List.all_cons, Bool.and_eq_true] at h
        rcases List.mem_cons.mp hy with rfl | hy
        · cases p <;> first | (simp [strP] at h; done) | skip
          cases r1
          obtain ⟨t, rfl⟩ := w1
          exact ⟨_, _, rfl⟩
        · exact strs_of r2 w2 h.2 y hy
theorem r_notIn (hu : X.A.units + 64 < cLine) : BinR X cl (compareOp .NotIn) cNotIn := by
  intro pins s σ Hf H x y v u p q I sm rv ru rp rq hs
  cases q <;> first
    | exact absurd rfl hs
    | skip
  · rename_i z
    cases p <;> first
      | exact absurd rfl hs
      | skip
    cases rp; cases rq
    refine okp' rfl fun E => (op_notIn_str (X := X.wish E)) pins s σ H _ _ v u _ (I.wish E) rv ru ?_
    exact ⟨_, _, rfl, rfl, Hf, Ext.refl sm, .bl _⟩
  · rename_i l
    obtain ⟨hc, e⟩ := ifOk hs
    rw [Bool.and_eq_true] at hc
    cases rq with
    | tup h r =>
      obtain ⟨f1, f2⟩ := any_of rp hc.1 r hc.2
      refine okp' e fun E => (op_notIn_seq (X := X.wish E)) pins s σ H _ _ v u _ (I.wish E) rv ru ?_
      exact ⟨_, _, rfl, .inr (Same.seqT sm h), flat_of rp hc.1, f1, Hf, Ext.refl sm, by show Rp _ _ _ (.bl (!inV x _)) _; unfold inV; rw [f2]; exact .bl _⟩
  · rename_i l
    by_cases hc0 : (flatP p && l.all flatP) = true
    rotate_left
    · have hs2 : (if (flatP p && l.all flatP) = true then R.ok (PV.bl (!l.any fun z => eqPV z p)) else if (heapP p && l.all strP) = true then R.ok (PV.bl true) else R.stuck) ≠ .stuck := hs
      rw [if_neg hc0] at hs2
      obtain ⟨hc, e⟩ := ifOk hs2
      rw [Bool.and_eq_true] at hc
      have e' : cNotIn p (.lst l) = .ok (.bl true) := by
        show (if (flatP p && l.all flatP) = true then R.ok (PV.bl (!l.any fun z => eqPV z p)) else if (heapP p && l.all strP) = true then R.ok (PV.bl true) else R.stuck) = _
        rw [if_neg hc0]; exact e
      rw [e']
      cases rq with
      | lst h r =>
        cases ru
        obtain ⟨its, w, pl, z⟩ := I.list (sm.seq h)
        refine SeqAt.notIn_listAt (fun _ => false) pl.isList (fun y hy => ?_) ⟨_, .bl true, Hf, H, rfl, I, ?_, Ext.refl sm, .bl _⟩
        · obtain ⟨b, t, rfl⟩ := strs_of r w hc.2 y (by simpa using hy)
          exact str_heap I sm rv rp hc.1 (by show X.A.units + 1 < cLine; omega)
        · show (_ : Value) = _
          simp
    have hs1 : (if (flatP p && l.all flatP) = true then R.ok (PV.bl (!l.any fun z => eqPV z p)) else if (heapP p && l.all strP) = true then R.ok (PV.bl true) else R.stuck) ≠ .stuck := hs
    have hc := hc0
    have e : cNotIn p (.lst l) = .ok (.bl (!l.any fun z => eqPV z p)) := if_pos hc0
    rw [Bool.and_eq_true] at hc
    cases rq with
    | lst h r =>
      obtain ⟨f1, f2⟩ := any_of rp hc.1 r hc.2
      refine okp' e fun E => (op_notIn_seq (X := X.wish E)) pins s σ H _ _ v u _ (I.wish E) rv ru ?_
      exact ⟨_, _, rfl, .inl (sm.seq h), flat_of rp hc.1, f1, Hf, Ext.refl sm, by show Rp _ _ _ (.bl (!inV x _)) _; unfold inV; rw [f2]; exact .bl _⟩

theorem itemP_of {K : PySem.W.Frag} {l : List PV} {i : Int} {vs : List V} (h : itemP l i ≠ .stuck) (r : Rps K cl Hf vs l) : ∃ v p, itemP l i = .ok p ∧ atI vs i = some v ∧ Rp K cl Hf v p := by
  unfold itemP at h ⊢
  unfold atI
  have e : ixN vs.length i = ixP l.length i := by rw [r.length]; rfl
  rw [e]
  cases q : ixP l.length i with
  | none => rw [q] at h; exact absurd rfl h
  | some j =>
    rw [q] at h
    dsimp only at h ⊢
    cases w : l[j]? with
    | none => rw [w] at h; exact absurd rfl h
    | some p =>
      obtain ⟨v, h1, h2⟩ := r.get w
      exact ⟨v, p, rfl, h1, h2⟩
theorem me_item {a b : Expr} {fa fb : FE} {pos : Pos} (ha : ME X cl a fa) (hb : ME X cl b fb) (hx : PlainIx b := by intro _ _; rfl) : ME X cl (.Subscript a b pos) (fBin oItem fa fb) := by
  refine ⟨?_⟩
  intro pins s σ Hf0 H0 Hf H ρ I r hs
  refine Subscript_ ?_
  have rule : BinR X cl (fun v u => subscriptTail a b v u) oItem := by
    intro pins s σ Hf H x y v u p q I sm rv ru rp rq hs
    cases q <;> first
      | (cases p <;> exact absurd rfl hs)
      | skip
    rename_i i
    cases rq
    cases p <;> first
      | exact absurd rfl hs
      | skip
    · rename_i z
      cases rp
      have hs' : oItem (.str z) (.int i) ≠ .stuck := hs
      unfold oItem at hs' ⊢
      dsimp only at hs' ⊢
      cases w : ixP z.cps.toList.length i with
      | none => rw [w] at hs'; exact absurd rfl hs'
      | some j =>
        rw [w] at hs'
        dsimp only at hs' ⊢
        cases w2 : z.cps.toList[j]? with
        | none => rw [w2] at hs'; exact absurd rfl hs'
        | some c =>
          rw [w2] at hs'
          dsimp only at hs' ⊢
          obtain ⟨hz, e⟩ := ifOk hs'
          refine okp' e fun E => (ix_str (X := X.wish E)) a b pins s σ H _ _ v u _ (I.wish E) rv ru ?_ (hx _ _)
          refine ⟨z, i, c, rfl, rfl, hz, ?_, Hf, Ext.refl sm, .str _⟩
          unfold atI
          have e2 : ixN z.cps.toList.length i = some j := w
          rw [e2]
          exact w2
    · rename_i l
      cases rp with
      | tup h r =>
        obtain ⟨v', p', e1, e2, e3⟩ := itemP_of (show itemP l i ≠ .stuck from hs) r
        refine okp' (show oItem (.tup l) (.int i) = .ok p' from e1) fun E => (ix_tup (X := X.wish E)) a b pins s σ H _ _ v u _ (I.wish E) rv ru ?_ (hx _ _)
        exact ⟨_, _, i, v', rfl, rfl, Same.seqT sm h, e2, Hf, Ext.refl sm, e3⟩
    · rename_i l
      cases rp with
      | lst h r =>
        obtain ⟨v', p', e1, e2, e3⟩ := itemP_of (show itemP l i ≠ .stuck from hs) r
        refine okp' (show oItem (.lst l) (.int i) = .ok p' from e1) fun E => (ix_list (X := X.wish E)) a b pins s σ H _ _ v u _ (I.wish E) rv ru ?_ (hx _ _)
        exact ⟨_, _, i, v', rfl, rfl, sm.seq h, e2, Hf, Ext.refl sm, e3⟩
  exact two ha hb rule I r hs

structure MO (X : Cx) (cl : Nat → Addr) (e : Option Expr) (f : FO) : Prop where
  run' : ∀ (pins : List (Addr × Obj)) (s : Shared) (σ : SV) (Hf0 H0 Hf H : Hp) (ρ : MEnv), Inv X pins σ H s → Rep X.K cl Hf0 H0 Hf H σ ρ → f ρ ≠ .stuck →
    wpAny (model X.prog X.w) X.A (evalPart e X.env) (fun u s' => ∃ o Hf' H', f ρ = .ok o ∧ Inv X pins σ H' s' ∧ IsPart u o ∧ Ext Hf H Hf' H') (ExP X cl pins σ Hf H (f ρ)) s
instance {X : Cx} {cl : Nat → Addr} {e : Option Expr} {f : FO} : CoeFun (MO X cl e f) fun _ => ∀ (pins : List (Addr × Obj)) (s : Shared) (σ : SV) (Hf0 H0 Hf H : Hp) (ρ : MEnv), Inv X pins σ H s → Rep X.K cl Hf0 H0 Hf H σ ρ → f ρ ≠ .stuck →
    wpAny (model X.prog X.w) X.A (evalPart e X.env) (fun u s' => ∃ o Hf' H', f ρ = .ok o ∧ Inv X pins σ H' s' ∧ IsPart u o ∧ Ext Hf H Hf' H') (ExP X cl pins σ Hf H (f ρ)) s := ⟨MO.run'⟩
theorem mo_none : MO X cl none oNone := by
  refine ⟨?_⟩
  intro pins s σ Hf0 H0 Hf H ρ I r hs
  rw [evalPart_none]
  exact wpAny_pure ⟨none, Hf, H, rfl, I, .none, Ext.refl r.sub⟩
theorem mo_some {e : Expr} {f : FE} (h : ME X cl e f) : MO X cl (some e) (oSome f) := by
  refine ⟨?_⟩
  intro pins s σ Hf0 H0 Hf H ρ I r hs
  rw [evalPart_some]
  unfold oSome at hs ⊢
  refine h.run I r (Ext.refl r.sub) hs fun p v u s1 Hf1 H1 e1 I1 rv x1 rp => ?_
  rw [e1] at hs ⊢
  cases p <;> first
    | exact absurd rfl hs
    | skip
  rename_i i
  cases rp
  obtain ⟨t, rfl⟩ := rv
  exact ⟨some i, Hf1, H1, rfl, I1, .int i t, x1⟩
theorem MO.run {e : Option Expr} {f : FO} (h : MO X cl e f) (I : Inv X pins σ H1 s) (r : Rep X.K cl Hf0 H0 Hf1 H1 σ ρ) (e0 : Ext Hf H Hf1 H1) {k : Option Int → R α} (hs : (f ρ).bind k ≠ .stuck) {Q : Value → Shared → Prop}
    (ok : ∀ o u s' Hf' H', (f ρ).bind k = k o → Inv X pins σ H' s' → IsPart u o → Ext Hf1 H1 Hf' H' → Q u s') :
    wpAny (model X.prog X.w) X.A (evalPart e X.env) Q (ExP X cl pins σ Hf H ((f ρ).bind k)) s := by
  have hf : f ρ ≠ .stuck := fun z => hs (by rw [z]; rfl)
  refine wpAny_mono (h pins s σ Hf0 H0 Hf1 H1 ρ I r hf) (fun u s' q => ?_) fun u s' q => ?_
  · obtain ⟨o, Hf', H', e1, I', hp, ex⟩ := q
    exact ok o u s' Hf' H' (by rw [e1]; rfl) I' hp ex
  · obtain ⟨c, e1, x⟩ := q
    exact ⟨c, by rw [e1]; rfl, x.from e0⟩
theorem slP_le (n d : Nat) (hd : d ≤ n) (o : Option Int) : slP n d o ≤ n := by
  cases o with
  | none => exact hd
  | some v => unfold slP; simp only; split <;> omega
theorem indices_eq (n : Nat) (lo hi : Option Int) : Builtin.Str.strSliceIndices lo hi 1 n = (List.range (slP n n hi - slP n 0 lo)).map (slP n 0 lo + ·) := by
  have clip : ∀ (o : Option Int) (d : Nat), d ≤ n → (match o with
      | none => (d : Int)
      | some i => if (1 : Int) > 0 then max 0 (min (if i < 0 then i + (n : Int) else i) (n : Int)) else max (-1) (min (if i < 0 then i + (n : Int) else i) ((n : Int) - 1))) = (slP n d o : Int) := by
    intro o d hd
    cases o with
    | none => rfl
    | some i =>
      simp only [slP]
      rw [if_pos (by decide)]
      by_cases h : i < 0
      · rw [if_pos h, if_pos h]; omega
      · rw [if_neg h, if_neg h]; omega
  have c1 := clip lo 0 (Nat.zero_le n)
  have c2 := clip hi n (Nat.le_refl n)
  refine (congr (congrArg (fun p q => sliceRange p q 1) c1) c2 : Builtin.Str.strSliceIndices lo hi 1 n = sliceRange (slP n 0 lo : Int) (slP n n hi : Int) 1).trans ?_
  generalize slP n 0 lo = a
  generalize slP n n hi = b
  unfold sliceRange
  simp only [show (1 : Int) > 0 from by decide, if_true]
  have hc : (if (a : Int) < (b : Int) then ((b : Int) - (a : Int) + 1 - 1) / 1 else 0).toNat = b - a := by
    by_cases h : (a : Int) < (b : Int)
    · rw [if_pos h, Int.ediv_one]; omega
    · rw [if_neg h]; omega
  rw [hc]
  refine List.map_congr_left fun k _ => ?_
  omega
theorem sCut_eq (z : Str) (lo hi : Option Int) : Txt.slice z lo hi = sCut z lo hi := by
  have hn : z.length = z.cps.toList.length := by show z.cps.size = _; simp
  have hlo := slP_le z.cps.toList.length 0 (Nat.zero_le _) lo
  have hhi := slP_le z.cps.toList.length z.cps.toList.length (Nat.le_refl _) hi
  unfold Txt.slice sCut
  rw [hn, indices_eq]
  generalize slP z.cps.toList.length 0 lo = a at hlo ⊢
  generalize slP z.cps.toList.length z.cps.toList.length hi = b at hhi ⊢
  split
  · rename_i h
    simp only [List.length_map, List.length_range, beq_self_eq_true, Bool.true_and, beq_iff_eq] at h
    by_cases hz : z.cps.toList.length = 0
    · have e : z.cps.toList = [] := List.length_eq_zero_iff.mp hz
      rw [e]; simp only [List.drop_nil, List.take_nil]
      cases z with | mk c => simp at e ⊢; exact e
    · have ha : a = 0 := by omega
      have hb : b = z.cps.toList.length := by omega
      subst ha; subst hb
      rw [List.drop_zero, Nat.sub_zero, List.take_length]
  · congr 1
    congr 1
    by_cases hab : a ≤ b
    · have := StrLaws.sliced_plain z (a := a) (b := b) hab (by rw [hn]; exact hhi)
      rw [StrLaws.strSliceIndices_plain hab (by rw [hn]; exact hhi)] at this
      exact this
    · rw [show b - a = 0 by omega]; simp
theorem me_cut {e : Expr} {lo hi : Option Expr} {f : FE} {l h : FO} {p2 pos : Pos} (he : ME X cl e f) (hl : MO X cl lo l) (hh : MO X cl hi h) : ME X cl (.Subscript e (.Slice lo hi none p2) pos) (fCut f l h) := by
  refine ⟨?_⟩
  intro pins s σ Hf0 H0 Hf H ρ I r hs
  unfold fCut at hs ⊢
  refine Subscript_ (he.run I r (Ext.refl r.sub) hs fun p v u s1 Hf1 H1 e1 I1 rv x1 rp => ?_)
  rw [e1] at hs ⊢
  refine wpAny_Slice (hl.run I1 (r.keep x1) x1 hs fun o vl s2 Hf2 H2 e2 I2 hp2 x2 => ?_)
  rw [e2] at hs ⊢
  have x12 := x1.trans x2
  refine hh.run I2 (r.keep x12) x12 hs fun o' vu s3 Hf3 H3 e3 I3 hp3 x3 => ?_
  rw [e3] at hs ⊢
  have x13 := x12.trans x3
  rw [evalPart_none]
  refine wpAny_pure ?_
  have I4 : Inv X pins σ H3 { s3 with heap := s3.heap.push { cls := .type "slice", data := .fields #[vl, vu, .none] } } := I3.kept (t' := s3.toks) fun b ob q => Heap.get?_push_of_some _ q
  cases p <;> first
    | exact absurd rfl hs
    | skip
  · rename_i z
    obtain ⟨hz, e⟩ := ifOk hs
    rw [show oCut (.str z) o o' = .ok (.str (sCut z o o')) from e]
    cases rp
    obtain ⟨t, rfl⟩ := rv
    generalize ExP X cl pins σ Hf H _ = E
    have fin : ∀ (l u : Option (Int × Tok)), l.map (·.1) = o → u.map (·.1) = o' → ∀ {E : Value → Shared → Prop}, vl = partValue l → vu = partValue u → wpAny (model X.prog X.w) X.A (getItem (.str z t) (.ref s3.heap.objs.size)) (OkP X cl pins σ Hf H (.ok (.str (sCut z o o')))) E { s3 with heap := s3.heap.push { cls := .type "slice", data := .fields #[vl, vu, .none] } } := by
      intro l u hl hu E el eu
      subst el eu
      refine wpAny_getItem_str_slice (l := l) (u := u) (st := none) ⟨_, Heap.get?_push_size _ rfl, rfl, rfl⟩ rfl ?_
      have e2 : Txt.slice z (l.map (·.1)) (u.map (·.1)) = sCut z o o' := by rw [hl, hu]; exact sCut_eq z o o'
      refine post_val_or_str ⟨Nat.le_trans (Txt.slice_le z (l.map (·.1)) (u.map (·.1))) hz, fun t' k => ?_⟩
      refine ⟨_, .str (sCut z o o'), Hf3, H3, rfl, I4.tok _, ⟨t', ?_⟩, x13, .str _⟩
      rw [← e2]
      rfl
    refine tail_any (ops := [.ref s3.heap.objs.size, .str z t]) (typeIs_str _ _ _) F.slot_str_getitem.lookup ?_ (by with_unfolding_all rfl)
    cases hp2 with
    | none => cases hp3 with
      | none => exact fin none none rfl rfl rfl rfl
      | int j tj => exact fin none (some (j, tj)) rfl rfl rfl rfl
    | int i ti => cases hp3 with
      | none => exact fin (some (i, ti)) none rfl rfl rfl rfl
      | int j tj => exact fin (some (i, ti)) (some (j, tj)) rfl rfl rfl rfl
  rename_i l'
  have rp3 := rp.keep (x2.trans x3).frz
  cases rp3 with
  | lst hq rr =>
    have ecut : ∀ xs : List V, Rps X.K cl Hf3 xs l' → Rps X.K cl Hf3 (cutV xs o o') (cutP l' o o') := fun xs rx => by
      unfold cutV cutP
      have hl := rx.length
      rw [hl]
      exact (rx.drop _).take _
    generalize ExP X cl pins σ Hf H (oCut (.lst l') o o') = E
    obtain ⟨T, id, hT, ht, hg⟩ := (sl_list (X := X.wish E)) pins { s3 with heap := s3.heap.push { cls := .type "slice", data := .fields #[vl, vu, .none] } } σ H3 _ u vl vu o o' s3.heap.objs.size
      (fun w H' => ∃ Hf', Ext Hf3 H3 Hf' H' ∧ Rp X.K cl Hf' w (.lst (cutP l' o o'))) (I4.wish E) rv (Heap.IsSliceOf.new ..) hp2 hp3
      ⟨_, _, rfl, x3.sub.seq hq, fun a ha => ⟨_, Ext.new x3.sub ha _, .lst (SqL.of upd_same) ((ecut _ rr).keep (same_upd (x3.sub.free ha) _))⟩⟩
    refine tail_any (ops := [.ref s3.heap.objs.size, u]) ht hT ?_ (by with_unfolding_all rfl)
    refine thn (okp hg) fun _ _ q => OkP.from (e0 := x13) q
end
end Mi
set_option Elab.async false
set_option linter.all false
set_option autoImplicit false
set_option maxRecDepth 100000
set_option maxHeartbeats 4000000
namespace Mi
open PySem PySem.Spec PyProof.Rows L2
section
variable {X : Cx} {cl : Nat → Addr} {pins : List (Addr × Obj)} {s : Shared} {σ : SV} {Hf0 H0 Hf H Hf1 H1 : Hp} {ρ : MEnv} {α : Type}
/-- the answer at the j-th place -/
def eAt (ps qs : List PV) (j : Nat) : Bool := match ps[j]?, qs[j]? with
  | some a, some b => eqPV a b
  | _, _ => false
theorem eAt_succ (a b : PV) (ps qs : List PV) (j : Nat) : eAt (a :: ps) (b :: qs) (j + 1) = eAt ps qs j := by simp [eAt]
theorem all_range_succ (n : Nat) (e : Nat → Bool) : (List.range (n + 1)).all e = (e 0 && (List.range n).all fun j => e (j + 1)) := by
  rw [List.range_succ_eq_map, List.all_cons, List.all_map]
  rfl
theorem eqPVs_eq : ∀ (ps qs : List PV), eqPVs ps qs = ((List.range (min ps.length qs.length)).all (eAt ps qs) && ps.length == qs.length)
  | [], [] => by simp [eqPVs]
  | [], _ :: _ => by simp [eqPVs]
  | _ :: _, [] => by simp [eqPVs]
  | a :: ps, b :: qs => by
    have ih := eqPVs_eq ps qs
    show (eqPV a b && eqPVs ps qs) = _
    have h1 : min (a :: ps).length (b :: qs).length = min ps.length qs.length + 1 := by simp only [List.length_cons]; omega
    rw [h1, all_range_succ, ih]
    have h2 : eAt (a :: ps) (b :: qs) 0 = eqPV a b := rfl
    have h3 : (fun j => eAt (a :: ps) (b :: qs) (j + 1)) = eAt ps qs := by funext j; exact eAt_succ a b ps qs j
    rw [h2, h3]
    have h4 : ((a :: ps).length == (b :: qs).length) = (ps.length == qs.length) := by simp
    rw [h4, Bool.and_assoc]
theorem eqPVs_len {ps qs : List PV} (h : ps.length = qs.length) : eqPVs ps qs = (List.range ps.length).all (eAt ps qs) := by
  rw [eqPVs_eq, ← h]
  simp
theorem eqPVs_ne {ps qs : List PV} (h : ps.length ≠ qs.length) : eqPVs ps qs = false := by
  rw [eqPVs_eq]
  have : (ps.length == qs.length) = false := by simpa using h
  rw [this, Bool.and_false]
theorem cmpOk_get {n : Nat} {ps : List PV} {j : Nat} {p : PV} (h : ps.all (cmpOkN n) = true) (e : ps[j]? = some p) : cmpOkN n p = true := by
  rw [List.all_eq_true] at h
  exact h p (List.mem_of_getElem? e)
/-- the same value twice -/
theorem eq_same (I : Inv X pins σ H s) (sm : Same Hf H) : ∀ (n : Nat) {v : V} {p q : PV}, Rp X.K cl Hf v p → Rp X.K cl Hf v q → cmpOkN n p = true → cmpOkN n q = true → eqPV p q = true := by
  intro n
  induction n with
  | zero =>
    intro v p q hp hq cp cq
    cases hp <;> cases hq <;> first | (simp [eqPV]; done) | (simp [cmpOkN] at cp; done)
  | succ n ih =>
    have all : ∀ {vs : List V} {ps qs : List PV}, Rps X.K cl Hf vs ps → Rps X.K cl Hf vs qs → ps.all (cmpOkN n) = true → qs.all (cmpOkN n) = true → eqPVs ps qs = true := by
      intro vs
      induction vs with
      | nil => intro ps qs r1 r2 _ _; cases r1; cases r2; rfl
      | cons v vs ihv =>
        intro ps qs r1 r2 c1 c2
        cases r1 with
        | cons a1 t1 =>
          cases r2 with
          | cons a2 t2 =>
            rw [List.all_cons, Bool.and_eq_true] at c1 c2
            show (eqPV _ _ && eqPVs _ _) = true
            rw [ih a1 a2 c1.1 c2.1, ihv t1 t2 c1.2 c2.2]
            rfl
    intro v p q hp hq cp cq
    have noLT : ∀ {a : Addr} {xs ys : List V}, SqL X.K Hf a xs → SqT X.K Hf a ys → False := fun {a xs ys} h1 h2 => by
      obtain ⟨its, _, ⟨o, n1, e1, c1, _⟩, _⟩ := I.list (sm.seq h1)
      obtain ⟨its2, _, ⟨o2, e2, c2, _⟩, _⟩ := I.tuple (Same.seqT sm h2)
      rw [e1] at e2; cases e2; rw [c1] at c2; injection c2 with c3; exact absurd c3 (by decide)
    cases hp with
    | tup h1 r1 =>
      cases hq with
      | tup h2 r2 =>
        have e := I.tuple_inj (Same.seqT sm h1) (Same.seqT sm h2)
        subst e
        exact all r1 r2 cp cq
      | lst h2 r2 => exact (noLT h2 h1).elim
      | _ => simp [cmpOkN] at cq
    | lst h1 r1 =>
      cases hq with
      | tup h2 r2 => exact (noLT h1 h2).elim
      | lst h2 r2 =>
        have e := I.list_inj (sm.seq h1) (sm.seq h2)
        subst e
        exact all r1 r2 cp cq
      | _ => simp [cmpOkN] at cq
    | _ => cases hq <;> first | (simp [eqPV]; done) | (simp [cmpOkN] at cp; done)
theorem eq_deep (I : Inv X pins σ H s) (sm : Same Hf H) : ∀ (n : Nat) {A : Around} {x y : V} {v u : Value} {p q : PV}, A.units + n < cLine → RelV x v → RelV y u → Rp X.K cl Hf x p → Rp X.K cl Hf y q → cmpOkN n p = true → cmpOkN n q = true →
    SeqAt.RcAt A s v u (eqPV p q) ∧ SeqAt.EqAt A s v u (eqPV p q) ∧ SeqAt.RcNeAt A s v u (!eqPV p q) := by
  intro n
  induction n with
  | zero =>
    intro A x y v u p q hu rv ru rp rq cp cq
    cases rp <;> first | (simp [cmpOkN] at cp; done) | skip
    all_goals (cases rq <;> first | (simp [cmpOkN] at cq; done) | skip)
    · cases rv; cases ru; exact ⟨SeqAt.RcAt.none_none, SeqAt.EqAt.same _, SeqAt.RcNeAt.none_none⟩
    · cases rv; cases ru; exact ⟨SeqAt.RcAt.none_bool _, SeqAt.EqAt.none_bool _, SeqAt.RcNeAt.none_bool _⟩
    · cases rv; obtain ⟨t, rfl⟩ := ru; exact ⟨SeqAt.RcAt.none_int _ _, SeqAt.EqAt.none_int _ _, SeqAt.RcNeAt.none_int _ _⟩
    · cases rv; obtain ⟨t, rfl⟩ := ru; exact ⟨SeqAt.RcAt.none_str _ _, SeqAt.EqAt.none_str _ _, SeqAt.RcNeAt.none_str _ _⟩
    · cases rv; cases ru; exact ⟨SeqAt.RcAt.bool_none _, SeqAt.EqAt.bool_none _, SeqAt.RcNeAt.bool_none _⟩
    · cases rv; cases ru; exact ⟨SeqAt.RcAt.bool_bool _ _, SeqAt.EqAt.bool_bool _ _, SeqAt.RcNeAt.bool_bool _ _⟩
    · cases rv; obtain ⟨t, rfl⟩ := ru; exact ⟨SeqAt.RcAt.bool_int _ _ _, SeqAt.EqAt.bool_int _ _ _, SeqAt.RcNeAt.bool_int _ _ _⟩
    · cases rv; obtain ⟨t, rfl⟩ := ru; exact ⟨SeqAt.RcAt.bool_str _ _ _, SeqAt.EqAt.bool_str _ _ _, SeqAt.RcNeAt.bool_str _ _ _⟩
    · obtain ⟨t, rfl⟩ := rv; cases ru; exact ⟨SeqAt.RcAt.int_none _ _, SeqAt.EqAt.int_none _ _, SeqAt.RcNeAt.int_none _ _⟩
    · obtain ⟨t, rfl⟩ := rv; cases ru; exact ⟨SeqAt.RcAt.int_bool _ _ _, SeqAt.EqAt.int_bool _ _ _, SeqAt.RcNeAt.int_bool _ _ _⟩
    · obtain ⟨t, rfl⟩ := rv; obtain ⟨t', rfl⟩ := ru; exact ⟨SeqAt.RcAt.int_int _ _ _ _, SeqAt.EqAt.int_int _ _ _ _, SeqAt.RcNeAt.int_int _ _ _ _⟩
    · obtain ⟨t, rfl⟩ := rv; obtain ⟨t', rfl⟩ := ru; exact ⟨SeqAt.RcAt.int_str _ _ _ _, SeqAt.EqAt.int_str _ _ _ _, SeqAt.RcNeAt.int_str _ _ _ _⟩
    · obtain ⟨t, rfl⟩ := rv; cases ru; exact ⟨SeqAt.RcAt.str_none _ _, SeqAt.EqAt.str_none _ _, SeqAt.RcNeAt.str_none _ _⟩
    · obtain ⟨t, rfl⟩ := rv; cases ru; exact ⟨SeqAt.RcAt.str_bool _ _ _, SeqAt.EqAt.str_bool _ _ _, SeqAt.RcNeAt.str_bool _ _ _⟩
    · obtain ⟨t, rfl⟩ := rv; obtain ⟨t', rfl⟩ := ru; exact ⟨SeqAt.RcAt.str_int _ _ _ _, SeqAt.EqAt.str_int _ _ _ _, SeqAt.RcNeAt.str_int _ _ _ _⟩
    · obtain ⟨t, rfl⟩ := rv; obtain ⟨t', rfl⟩ := ru; exact ⟨SeqAt.RcAt.str_str _ _ _ _, SeqAt.EqAt.str_str _ _ _ _, SeqAt.RcNeAt.str_str _ _ _ _⟩
  | succ n ih =>
    intro A x y v u p q hu rv ru rp rq cp cq
    have hu0 : A.units < cLine := by omega
    have hu1 : A.in1.units + n < cLine := by show A.units + 1 + n < cLine; omega
    have items : ∀ {xs ys : List V} {its its2 : List Value} {ps qs : List PV}, Rps X.K cl Hf xs ps → Rps X.K cl Hf ys qs → Vals xs its → Vals ys its2 → ps.all (cmpOkN n) = true → qs.all (cmpOkN n) = true →
        ∀ j (h1 : j < its.toArray.size) (h2 : j < its2.toArray.size), SeqAt.EqAt A.in1 s its.toArray[j] its2.toArray[j] (eAt ps qs j) := by
      intro xs ys its its2 ps qs r1 r2 w1 w2 c1 c2 j h1 h2
      have g1 : j < ps.length := by rw [← r1.length, w1.length]; simpa using h1
      have g2 : j < qs.length := by rw [← r2.length, w2.length]; simpa using h2
      obtain ⟨a, ea, ra⟩ := r1.get (List.getElem?_eq_getElem g1)
      obtain ⟨b, eb, rb⟩ := r2.get (List.getElem?_eq_getElem g2)
      obtain ⟨ua, eua, rua⟩ := w1.get ea
      obtain ⟨ub, eub, rub⟩ := w2.get eb
      have f1 : its.toArray[j] = ua := by
        have : its[j]? = some its.toArray[j] := by simp
        rw [this] at eua; exact Option.some.inj eua
      have f2 : its2.toArray[j] = ub := by
        have : its2[j]? = some its2.toArray[j] := by simp
        rw [this] at eub; exact Option.some.inj eub
      rw [f1, f2]
      have e : eAt ps qs j = eqPV ps[j] qs[j] := by
        unfold eAt
        rw [List.getElem?_eq_getElem g1, List.getElem?_eq_getElem g2]
      rw [e]
      exact (ih hu1 rua rub ra rb (cmpOk_get c1 (List.getElem?_eq_getElem g1)) (cmpOk_get c2 (List.getElem?_eq_getElem g2))).2.1
    cases rp <;> first | (simp [cmpOkN] at cp; done) | skip
    all_goals (cases rq <;> first | (simp [cmpOkN] at cq; done) | skip)
    · cases rv; cases ru; exact ⟨SeqAt.RcAt.none_none, SeqAt.EqAt.same _, SeqAt.RcNeAt.none_none⟩
    · cases rv; cases ru; exact ⟨SeqAt.RcAt.none_bool _, SeqAt.EqAt.none_bool _, SeqAt.RcNeAt.none_bool _⟩
    · cases rv; obtain ⟨t, rfl⟩ := ru; exact ⟨SeqAt.RcAt.none_int _ _, SeqAt.EqAt.none_int _ _, SeqAt.RcNeAt.none_int _ _⟩
    · cases rv; obtain ⟨t, rfl⟩ := ru; exact ⟨SeqAt.RcAt.none_str _ _, SeqAt.EqAt.none_str _ _, SeqAt.RcNeAt.none_str _ _⟩
    · rename_i h r; cases rv; cases ru; obtain ⟨its, w, pl, z⟩ := I.tuple (Same.seqT sm h); exact ⟨SeqAt.RcAt.none_tuple pl hu0, SeqAt.EqAt.none_tuple pl hu0, SeqAt.RcNeAt.none_tuple pl hu0⟩
    · rename_i h r; cases rv; cases ru; obtain ⟨its, w, pl, z⟩ := I.list (sm.seq h); exact ⟨SeqAt.RcAt.none_list pl.isList hu0, SeqAt.EqAt.none_list pl.isList hu0, SeqAt.RcNeAt.none_list pl.isList hu0⟩
    · cases rv; cases ru; exact ⟨SeqAt.RcAt.bool_none _, SeqAt.EqAt.bool_none _, SeqAt.RcNeAt.bool_none _⟩
    · cases rv; cases ru; exact ⟨SeqAt.RcAt.bool_bool _ _, SeqAt.EqAt.bool_bool _ _, SeqAt.RcNeAt.bool_bool _ _⟩
    · cases rv; obtain ⟨t, rfl⟩ := ru; exact ⟨SeqAt.RcAt.bool_int _ _ _, SeqAt.EqAt.bool_int _ _ _, SeqAt.RcNeAt.bool_int _ _ _⟩
    · cases rv; obtain ⟨t, rfl⟩ := ru; exact ⟨SeqAt.RcAt.bool_str _ _ _, SeqAt.EqAt.bool_str _ _ _, SeqAt.RcNeAt.bool_str _ _ _⟩
    · rename_i h r; cases rv; cases ru; obtain ⟨its, w, pl, z⟩ := I.tuple (Same.seqT sm h); exact ⟨SeqAt.RcAt.bool_tuple _ pl hu0, SeqAt.EqAt.bool_tuple _ pl hu0, SeqAt.RcNeAt.bool_tuple _ pl hu0⟩
    · rename_i h r; cases rv; cases ru; obtain ⟨its, w, pl, z⟩ := I.list (sm.seq h); exact ⟨SeqAt.RcAt.bool_list _ pl.isList hu0, SeqAt.EqAt.bool_list _ pl.isList hu0, SeqAt.RcNeAt.bool_list _ pl.isList hu0⟩
    · obtain ⟨t, rfl⟩ := rv; cases ru; exact ⟨SeqAt.RcAt.int_none _ _, SeqAt.EqAt.int_none _ _, SeqAt.RcNeAt.int_none _ _⟩
    · obtain ⟨t, rfl⟩ := rv; cases ru; exact ⟨SeqAt.RcAt.int_bool _ _ _, SeqAt.EqAt.int_bool _ _ _, SeqAt.RcNeAt.int_bool _ _ _⟩
    · obtain ⟨t, rfl⟩ := rv; obtain ⟨t', rfl⟩ := ru; exact ⟨SeqAt.RcAt.int_int _ _ _ _, SeqAt.EqAt.int_int _ _ _ _, SeqAt.RcNeAt.int_int _ _ _ _⟩
    · obtain ⟨t, rfl⟩ := rv; obtain ⟨t', rfl⟩ := ru; exact ⟨SeqAt.RcAt.int_str _ _ _ _, SeqAt.EqAt.int_str _ _ _ _, SeqAt.RcNeAt.int_str _ _ _ _⟩
    · rename_i h r; obtain ⟨t, rfl⟩ := rv; cases ru; obtain ⟨its, w, pl, z⟩ := I.tuple (Same.seqT sm h); exact ⟨SeqAt.RcAt.int_tuple _ _ pl hu0, SeqAt.EqAt.int_tuple _ _ pl hu0, SeqAt.RcNeAt.int_tuple _ _ pl hu0⟩
    · rename_i h r; obtain ⟨t, rfl⟩ := rv; cases ru; obtain ⟨its, w, pl, z⟩ := I.list (sm.seq h); exact ⟨SeqAt.RcAt.int_list _ _ pl.isList hu0, SeqAt.EqAt.int_list _ _ pl.isList hu0, SeqAt.RcNeAt.int_list _ _ pl.isList hu0⟩
    · obtain ⟨t, rfl⟩ := rv; cases ru; exact ⟨SeqAt.RcAt.str_none _ _, SeqAt.EqAt.str_none _ _, SeqAt.RcNeAt.str_none _ _⟩
    · obtain ⟨t, rfl⟩ := rv; cases ru; exact ⟨SeqAt.RcAt.str_bool _ _ _, SeqAt.EqAt.str_bool _ _ _, SeqAt.RcNeAt.str_bool _ _ _⟩
    · obtain ⟨t, rfl⟩ := rv; obtain ⟨t', rfl⟩ := ru; exact ⟨SeqAt.RcAt.str_int _ _ _ _, SeqAt.EqAt.str_int _ _ _ _, SeqAt.RcNeAt.str_int _ _ _ _⟩
    · obtain ⟨t, rfl⟩ := rv; obtain ⟨t', rfl⟩ := ru; exact ⟨SeqAt.RcAt.str_str _ _ _ _, SeqAt.EqAt.str_str _ _ _ _, SeqAt.RcNeAt.str_str _ _ _ _⟩
    · rename_i h r; obtain ⟨t, rfl⟩ := rv; cases ru; obtain ⟨its, w, pl, z⟩ := I.tuple (Same.seqT sm h); exact ⟨SeqAt.RcAt.str_tuple _ _ pl hu0, SeqAt.EqAt.str_tuple _ _ pl hu0, SeqAt.RcNeAt.str_tuple _ _ pl hu0⟩
    · rename_i h r; obtain ⟨t, rfl⟩ := rv; cases ru; obtain ⟨its, w, pl, z⟩ := I.list (sm.seq h); exact ⟨SeqAt.RcAt.str_list _ _ pl.isList hu0, SeqAt.EqAt.str_list _ _ pl.isList hu0, SeqAt.RcNeAt.str_list _ _ pl.isList hu0⟩
    · rename_i h r; cases rv; cases ru; obtain ⟨its, w, pl, z⟩ := I.tuple (Same.seqT sm h); exact ⟨SeqAt.RcAt.tuple_none pl hu0, SeqAt.EqAt.tuple_none pl hu0, SeqAt.RcNeAt.tuple_none pl hu0⟩
    · rename_i h r _; cases rv; cases ru; obtain ⟨its, w, pl, z⟩ := I.tuple (Same.seqT sm h); exact ⟨SeqAt.RcAt.tuple_bool _ pl hu0, SeqAt.EqAt.tuple_bool _ pl hu0, SeqAt.RcNeAt.tuple_bool _ pl hu0⟩
    · rename_i h r _; cases rv; obtain ⟨t', rfl⟩ := ru; obtain ⟨its, w, pl, z⟩ := I.tuple (Same.seqT sm h); exact ⟨SeqAt.RcAt.tuple_int _ _ pl hu0, SeqAt.EqAt.tuple_int _ _ pl hu0, SeqAt.RcNeAt.tuple_int _ _ pl hu0⟩
    · rename_i h r _; cases rv; obtain ⟨t', rfl⟩ := ru; obtain ⟨its, w, pl, z⟩ := I.tuple (Same.seqT sm h); exact ⟨SeqAt.RcAt.tuple_str _ _ pl hu0, SeqAt.EqAt.tuple_str _ _ pl hu0, SeqAt.RcNeAt.tuple_str _ _ pl hu0⟩
    · rename_i a xs ps h r b ys qs h' r'
      cases rv; cases ru
      obtain ⟨its, w, pl, z⟩ := I.tuple (Same.seqT sm h)
      obtain ⟨its2, w2, pl2, z2⟩ := I.tuple (Same.seqT sm h')
      have it := items r r' w w2 cp cq
      have e : ((List.range (min its.toArray.size its2.toArray.size)).all (eAt ps qs) && its.toArray.size == its2.toArray.size) = eqPV (.tup ps) (.tup qs) := by
        show _ = eqPVs ps qs
        rw [eqPVs_eq, List.size_toArray, List.size_toArray, ← w.length, ← w2.length, r.length, r'.length]
      have c1 := SeqAt.RcAt.tuples (A := A) pl pl2 hu0 it
      have c2 := SeqAt.RcNeAt.tuples (A := A) pl pl2 hu0 it
      rw [e] at c1 c2
      refine ⟨c1, ?_, c2⟩
      by_cases hab : a = b
      · subst hab
        rw [eq_same I sm (n + 1) (Rp.tup h r) (Rp.tup h' r') cp cq]
        exact SeqAt.EqAt.same _
      · exact .of_refs hab c1
    · rename_i a xs ps h r b ys qs h' r'
      cases rv; cases ru
      obtain ⟨its, w, pl, z⟩ := I.tuple (Same.seqT sm h)
      obtain ⟨its2, w2, pl2, z2⟩ := I.list (sm.seq h')
      exact ⟨SeqAt.RcAt.tuple_list pl pl2.isList hu0, SeqAt.EqAt.tuple_list pl pl2.isList hu0, SeqAt.RcNeAt.tuple_list pl pl2.isList hu0⟩
    · rename_i h r; cases rv; cases ru; obtain ⟨its, w, pl, z⟩ := I.list (sm.seq h); exact ⟨SeqAt.RcAt.list_none pl.isList hu0, SeqAt.EqAt.list_none pl.isList hu0, SeqAt.RcNeAt.list_none pl.isList hu0⟩
    · rename_i h r _; cases rv; cases ru; obtain ⟨its, w, pl, z⟩ := I.list (sm.seq h); exact ⟨SeqAt.RcAt.list_bool _ pl.isList hu0, SeqAt.EqAt.list_bool _ pl.isList hu0, SeqAt.RcNeAt.list_bool _ pl.isList hu0⟩
    · rename_i h r _; cases rv; obtain ⟨t', rfl⟩ := ru; obtain ⟨its, w, pl, z⟩ := I.list (sm.seq h); exact ⟨SeqAt.RcAt.list_int _ _ pl.isList hu0, SeqAt.EqAt.list_int _ _ pl.isList hu0, SeqAt.RcNeAt.list_int _ _ pl.isList hu0⟩
    · rename_i h r _; cases rv; obtain ⟨t', rfl⟩ := ru; obtain ⟨its, w, pl, z⟩ := I.list (sm.seq h); exact ⟨SeqAt.RcAt.list_str _ _ pl.isList hu0, SeqAt.EqAt.list_str _ _ pl.isList hu0, SeqAt.RcNeAt.list_str _ _ pl.isList hu0⟩
    · rename_i a xs ps h r b ys qs h' r'
      cases rv; cases ru
      obtain ⟨its, w, pl, z⟩ := I.list (sm.seq h)
      obtain ⟨its2, w2, pl2, z2⟩ := I.tuple (Same.seqT sm h')
      exact ⟨SeqAt.RcAt.list_tuple pl.isList pl2 hu0, SeqAt.EqAt.list_tuple pl.isList pl2 hu0, SeqAt.RcNeAt.list_tuple pl.isList pl2 hu0⟩
    · rename_i a xs ps h r b ys qs h' r'
      cases rv; cases ru
      obtain ⟨its, w, pl, z⟩ := I.list (sm.seq h)
      obtain ⟨its2, w2, pl2, z2⟩ := I.list (sm.seq h')
      have it := items r r' w w2 cp cq
      have l1 : its.toArray.size = ps.length := by rw [List.size_toArray, ← w.length, r.length]
      have l2 : its2.toArray.size = qs.length := by rw [List.size_toArray, ← w2.length, r'.length]
      have both : SeqAt.RcAt A s (.ref a) (.ref b) (eqPVs ps qs) ∧ SeqAt.RcNeAt A s (.ref a) (.ref b) (!eqPVs ps qs) := by
        by_cases hl : ps.length = qs.length
        · have c1 := SeqAt.RcAt.lists (A := A) pl.isList pl2.isList (by rw [l1, l2, hl]) hu0 it
          have c2 := SeqAt.RcNeAt.lists (A := A) pl.isList pl2.isList (by rw [l1, l2, hl]) hu0 it
          rw [l1, ← eqPVs_len hl] at c1 c2
          exact ⟨c1, c2⟩
        · rw [eqPVs_ne hl]
          have hne : (its.toArray.size != its2.toArray.size) = true := by rw [l1, l2]; simpa using hl
          exact ⟨SeqAt.RcAt.lists_lengths pl.isList pl2.isList hne hu0, SeqAt.RcNeAt.lists_lengths pl.isList pl2.isList hne hu0⟩
      refine ⟨both.1, ?_, both.2⟩
      by_cases hab : a = b
      · subst hab
        rw [eq_same I sm (n + 1) (Rp.lst h r) (Rp.lst h' r') cp cq]
        exact SeqAt.EqAt.same _
      · exact .of_refs hab both.1
theorem r_eq (hu : X.A.units + 64 < cLine) : BinR X cl (compareOp .Eq) cEq := by
  intro pins s σ Hf H x y v u p q I sm rv ru rp rq hs
  unfold cEq at hs ⊢
  by_cases hc0 : (cmpOk p && cmpOk q) = true
  rotate_left
  · rw [if_neg hc0] at hs ⊢
    obtain ⟨hd, e⟩ := ifOk hs
    rw [e]
    cases p <;> cases q <;> first
      | (simp [dicStr] at hd; done)
      | skip
    cases rp with
    | dic0 h =>
      cases rq
      cases rv
      obtain ⟨t, rfl⟩ := ru
      obtain ⟨o, es, ep, h1, h2, h3⟩ := dic_at I sm h
      exact dict_str_at h1 h2 h3 (by omega) _ _ _ _ ⟨_, .bl false, Hf, H, rfl, I, rfl, Ext.refl sm, .bl _⟩
  rw [if_pos hc0] at hs ⊢
  have e : (R.ok (PV.bl (eqPV p q)) : R PV) = .ok (.bl (eqPV p q)) := rfl
  have hc := hc0
  rw [e]
  rw [Bool.and_eq_true] at hc
  exact (eq_deep I sm 6 (by omega) rv ru rp rq hc.1 hc.2).1 _ _ _ _ ⟨_, .bl _, Hf, H, rfl, I, rfl, Ext.refl sm, .bl _⟩
theorem r_ne (hu : X.A.units + 64 < cLine) : BinR X cl (compareOp .NotEq) cNe := by
  intro pins s σ Hf H x y v u p q I sm rv ru rp rq hs
  unfold cNe at hs ⊢
  obtain ⟨hc, e⟩ := ifOk hs
  rw [e]
  rw [Bool.and_eq_true] at hc
  exact (eq_deep I sm 6 (by omega) rv ru rp rq hc.1 hc.2).2.2 _ _ _ _ ⟨_, .bl _, Hf, H, rfl, I, rfl, Ext.refl sm, .bl _⟩
end
end Mi
set_option Elab.async false
set_option linter.all false
set_option autoImplicit false
set_option maxRecDepth 100000
set_option maxHeartbeats 4000000
namespace Mi
open PySem PySem.Spec PyProof.Rows L2
theorem objOk_there {P : Program} {w : World} {H : Hp} {h : Heap} {a : Addr} {o : HO} (x : ObjOk P w H h a o) : ∃ ob, h.get? a = some ob := by
  cases o with
  | lst xs => obtain ⟨_, _, _, _, e⟩ := x; exact ⟨_, e⟩
  | tup xs => obtain ⟨_, _, _, ob, e, _⟩ := x; exact ⟨_, e⟩
  | dK kvs => obtain ⟨_, _, _, _, o, _, _, e, _⟩ := x; exact ⟨_, e⟩
  | dT kvs => obtain ⟨_, _, _, _, o, _, _, e, _⟩ := x; exact ⟨_, e⟩
  | set S n => obtain ⟨o, _, _, _, e, _⟩ := x; exact ⟨_, e⟩
  | ins C dx fs => obtain ⟨_, _, _, e, _⟩ := x; exact ⟨_, e⟩
  | own y => exact x
  | xd fs => obtain ⟨_, ⟨_, _, _, e, _⟩, _⟩ := x; exact ⟨_, e⟩
  | rng lo hi => obtain ⟨_, _, _, e⟩ := x; exact ⟨_, e⟩
  | frz ob u => exact ⟨_, x.1⟩
  | tbl ps => exact ⟨_, (show h.get? a = some _ from x)⟩
  | met f y => exact ⟨_, (show h.get? a = some _ from x)⟩
  | ext φ => exact x.2.1
section
variable {X : Cx} {cl : Nat → Addr} {pins : List (Addr × Obj)} {s : Shared} {σ : SV} {Hf0 H0 Hf H Hf1 H1 : Hp} {ρ : MEnv} {α : Type} {B h' : Heap}
/-- a def's own context -/
structure Own (X : Cx) : Prop where
  stk : X.stack = X.env :: X.outer
  fr : X.env.frame = some X.env.locals
  ex : ∀ b, b ∉ X.ex
  fn : ∀ x, X.fn x = true
theorem stands_there (W : Own X) (I : Inv X pins σ H s) {b : Addr} (h : Stands X pins H b) : ∃ o, s.heap.get? b = some o := by
  rcases h with h | ⟨p, hp, e⟩ | ⟨o, h⟩ | ⟨x, h⟩
  · cases e : H b with
    | none => exact absurd e h
    | some u => exact objOk_there (I.hok b u e)
  · rw [← e]; exact ⟨_, (I.pin p hp).1⟩
  · exact I.base.there b o h (W.ex b)
  · obtain ⟨v, o', q, _⟩ := I.cell x b h
    exact ⟨o', q⟩
theorem frs_stk (W : Own X) {b : Addr} : b ∈ frs X.stack ↔ b = X.env.locals ∨ b ∈ X.fs := by
  rw [W.stk]
  unfold frs
  rw [List.filterMap_cons, W.fr]
  exact List.mem_cons
theorem Cov.upto (W : Own X) (I : Inv X pins σ H s) (c : Cov X pins H B s.heap) (st : B.StaysIn h') : Cov X pins H B h' := by
  intro b o e hs hn
  obtain ⟨o', e'⟩ := stands_there W I hs
  have q := c b o' e' hs hn
  have := st b o' q
  rw [e] at this; cases this
  exact q
theorem Inv.upto (W : Own X) (I : Inv X pins σ H s) (c : Cov X pins H B s.heap) (st : B.StaysIn h') (u : s.heap.UpToSlots h') {tk : Nat} : Inv X pins σ H { s with heap := h', toks := tk } := by
  have keep : ∀ b o, s.heap.get? b = some o → Stands X pins H b → b ∉ frs X.stack → h'.get? b = some o := fun b o e hs hn => st b o (c b o e hs hn)
  have fr : ∀ b ∈ frs X.stack, ∃ o, s.heap.get? b = some o ∧ ∀ vs, o.data ≠ .fields vs := fun b hb => ((I.stack).mem hb).2
  have lnl : X.env.locals ∈ frs X.stack := (frs_stk W).mpr (.inl rfl)
  have hokx : HOk X.prog X.w H h' := fun a o e => by
    have na : a ∉ frs X.stack := fun z => by rw [I.stkFree a z] at e; cases e
    refine (I.hok a o e).stay (fun b v hb q => ?_) (fun _ q => q) fun _ _ q => q
    rcases hb with rfl | hb
    · exact keep _ v q (.inl (by rw [e]; intro z; cases z)) na
    · have nb : b ∉ frs X.stack := fun z => by rw [I.stkFree b z] at hb; cases hb
      exact keep b v q (.inl (by rw [hb]; intro z; cases z)) nb
  obtain ⟨m, hn, hl⟩ := I.loc
  have old : ∀ b o, X.s₀.heap.get? b = some o → b ≠ X.env.locals := fun b o e z => by
    have := Heap.lt_size e
    rw [z] at this
    exact absurd (Nat.lt_of_lt_of_le this I.ok.above) (Nat.lt_irrefl _)
  have cells : ∀ x cc v, X.env.cells.lookup x = some cc → s.heap.IsCell cc v → h'.IsCell cc v := fun x cc v e q => by
    obtain ⟨o, ho, hd⟩ := q
    have nf : cc ∉ frs X.stack := fun z => by
      rcases (frs_stk W).mp z with z | z
      · exact I.cne x cc e z
      · obtain ⟨_, o', ho', _⟩ := I.ok.funs.mem z
        exact absurd (Nat.lt_of_lt_of_le (Heap.lt_size ho') (I.ok.cab x cc (W.fn x) e)) (Nat.lt_irrefl _)
    exact ⟨o, keep cc o ho (.inr (.inr (.inr ⟨x, e⟩))) nf, hd⟩
  refine ⟨I.ok, I.os, I.bare, ⟨fun b o e n hb hx => ?_, fun b o e n hb hx => ?_, I.base.free, fun b o e hx => ?_, I.base.tups, I.base.frzs, I.base.tbls⟩, ⟨m, u.ns hn, fun i x v e1 e2 e3 => ?_⟩, fun x cc e => ?_, I.free, I.freeC, fun p hp => ?_, hokx, I.len⟩
  · exact keep b o (I.base.keep b o e n hb hx) (.inr (.inr (.inl ⟨o, e⟩))) fun z => ((frs_stk W).mp z).elim (old b o e) hb
  · obtain ⟨sl, q⟩ := I.base.slot b o e n hb hx
    obtain ⟨o', ho', hnf⟩ := fr b ((frs_stk W).mpr (.inr hb))
    rw [q] at ho'; cases ho'
    obtain ⟨sl', q'⟩ := u b _ q hnf
    exact ⟨sl', q'⟩
  · obtain ⟨o', q⟩ := I.base.there b o e hx
    by_cases hb : b ∈ frs X.stack
    · obtain ⟨o2, ho2, hnf⟩ := fr b hb
      obtain ⟨sl', q'⟩ := u b _ ho2 hnf
      exact ⟨_, q'⟩
    · exact ⟨o', keep b o' q (.inr (.inr (.inl ⟨o, e⟩))) hb⟩
  · obtain ⟨uu, r, l⟩ := hl i x v e1 e2 e3
    refine ⟨uu, r, ?_⟩
    rcases l with l | ⟨hk, cc, hc, hcell⟩
    · exact .inl l
    · exact .inr ⟨hk, cc, hc, cells x cc _ hc hcell⟩
  · obtain ⟨v, q⟩ := I.cell x cc e
    exact ⟨v, cells x cc v e q⟩
  · obtain ⟨p1, p2, p3, p4, p5⟩ := I.pin p hp
    exact ⟨keep p.1 p.2 p1 (.inr (.inl ⟨p, hp, rfl⟩)) fun z => ((frs_stk W).mp z).elim p3 p4, p2, p3, p4, p5⟩
/-- the pins of a smaller loop are let go -/
theorem Cov.fewer {pl : List (Addr × Obj)} (c : Cov X (pins ++ pl) H B h') : Cov X pins H B h' := fun b o e hs hn => c b o e (by
  rcases hs with h | ⟨p, hp, q⟩ | h | h
  · exact .inl h
  · refine .inr (.inl ⟨p, ?_, q⟩)
    rcases List.mem_append.mp hp with z | z
    · exact List.mem_append_left _ z
    · exact List.mem_append_right _ (List.mem_append_left _ z)
  · exact .inr (.inr (.inl h))
  · exact .inr (.inr (.inr h))) hn
theorem XSt.fewer {pl : List (Addr × Obj)} {e C : Addr} (x : XSt X (pins ++ pl) H e C h') : XSt X pins H e C h' := by
  obtain ⟨B, a0, c, d, r⟩ := x
  exact ⟨B, a0, c.fewer, d, r⟩
theorem NoD.keep {e : Addr} {h h' : Heap} (d : NoD e h) (k : Kd e h h') : NoD e h' := by
  obtain ⟨o, h1, h2⟩ := d
  obtain ⟨o', h3, _, h4⟩ := k o h1
  exact ⟨o', h3, h4.trans h2⟩
/-- the frame is noted -/
theorem note_ok0 {M : Model} {A : Around} {E : Value → Shared → Prop} {e C : Addr} {a0 : Value} {Q : Unit → Shared → Prop} (W : Own X) (hfr : A.frames = some X.stack)
    (x : FreshW B X.stack e (.ref C) a0 s.heap ∨ Heap.HeldW B X.stack e (.ref C) a0 X.env.locals s.heap ∨ Heap.FlyingW B X.stack e (.ref C) a0 s.heap)
    (h : ∀ h', Heap.HeldW B X.stack e (.ref C) a0 X.env.locals h' → s.heap.UpToSlots h' → Q () { s with heap := h' }) : wpAny M A (noteFrame (.ref e) X.env) Q E s := by
  rw [W.stk] at x h hfr
  rcases x with ⟨f1, f2, f3, oe, vs, he, hc, hdi, hd, h0, h1⟩ | x | x
  · unfold noteFrame
    simp only [W.fr]
    refine wpAny_bind (wpAny_field he hd h1 ?_)
    rw [if_neg (by decide)]
    refine wpAny_entryW hfr f3 W.fr he f1 f2 hd (Array.getElem?_eq_some_iff.mp h1).1 h0 fun h' hN => ?_
    obtain ⟨k1, k2, k3, k4⟩ := hN
    rw [hc] at k3
    exact h h' ⟨k1, f2, k2, k3⟩ k4
  · exact wpAny_noteFrame_againW W.fr x.2.2.2 (h s.heap x (Heap.UpToSlots.refl _))
  · exact wpAny_looks_onW hfr W.fr x h
theorem note_ok {M : Model} {A : Around} {E : Value → Shared → Prop} {e C : Addr} {a0 : Value} {Q : Unit → Shared → Prop} (W : Own X) (hfr : A.frames = some X.stack) (nd : NoD e s.heap)
    (x : FreshW B X.stack e (.ref C) a0 s.heap ∨ Heap.HeldW B X.stack e (.ref C) a0 X.env.locals s.heap ∨ Heap.FlyingW B X.stack e (.ref C) a0 s.heap)
    (h : ∀ h', Heap.HeldW B X.stack e (.ref C) a0 X.env.locals h' → s.heap.UpToSlots h' → NoD e h' → Q () { s with heap := h' }) : wpAny M A (noteFrame (.ref e) X.env) Q E s :=
  wpAny_mono ((tame_note (.ref e) X.env).any e (note_ok0 (E := fun _ _ => False) (Q := fun _ s' => ∃ h', s' = { s with heap := h' } ∧ Heap.HeldW B X.stack e (.ref C) a0 X.env.locals h' ∧ s.heap.UpToSlots h') W hfr x fun h' a b => ⟨h', rfl, a, b⟩))
    (fun _ s' ⟨⟨h', e1, a, b⟩, k⟩ => by subst e1; exact h h' a b (nd.keep k)) fun _ _ ⟨z, _⟩ => z.elim
theorem lands_ok {M : Model} {A : Around} {E : Value → Shared → Prop} {e C : Addr} {a0 : Value} {Q : Unit → Shared → Prop} {l : List Env} {L : Addr} (nd : NoD e s.heap) (R : Heap.HeldW B l e (.ref C) a0 L s.heap)
    (h : ∀ h', Heap.FlyingW B l e (.ref C) a0 h' → s.heap.UpToSlots h' → NoD e h' → Q () { s with heap := h' }) : wpAny M A (setFlight (.ref e) none) Q E s :=
  wpAny_mono ((tame_setFlight (.ref e) none).any e (wpAny_landsW (E := fun _ _ => False) (Q := fun _ s' => ∃ h', s' = { s with heap := h' } ∧ Heap.FlyingW B l e (.ref C) a0 h' ∧ s.heap.UpToSlots h') R fun h' a b => ⟨h', rfl, a, b⟩))
    (fun _ s' ⟨⟨h', e1, a, b⟩, k⟩ => by subst e1; exact h h' a b (nd.keep k)) fun _ _ ⟨z, _⟩ => z.elim
theorem again_ok {M : Model} {A : Around} {E : Value → Shared → Prop} {e C : Addr} {a0 : Value} {Q : Unit → Shared → Prop} {l : List Env} (nd : NoD e s.heap) (R : Heap.FlyingW B l e (.ref C) a0 s.heap)
    (h : ∀ h', Heap.FlyingW B l e (.ref C) a0 h' → s.heap.UpToSlots h' → NoD e h' → Q () { s with heap := h' }) : wpAny M A (setFlight (.ref e) none) Q E s :=
  wpAny_mono ((tame_setFlight (.ref e) none).any e (lands_againW (E := fun _ _ => False) (Q := fun _ s' => ∃ h', s' = { s with heap := h' } ∧ Heap.FlyingW B l e (.ref C) a0 h' ∧ s.heap.UpToSlots h') R fun h' a b => ⟨h', rfl, a, b⟩))
    (fun _ s' ⟨⟨h', e1, a, b⟩, k⟩ => by subst e1; exact h h' a b (nd.keep k)) fun _ _ ⟨z, _⟩ => z.elim
theorem flight_ok0 {M : Model} {A : Around} {E : Value → Shared → Prop} {e C : Addr} {a0 : Value} {Q : Unit → Shared → Prop} {l : List Env} {L : Addr} (R : Heap.HeldW B l e (.ref C) a0 L s.heap)
    (h : ∀ h', Heap.HeldW B l e (.ref C) a0 L h' → s.heap.UpToSlots h' → Q () { s with heap := h' }) : wpAny M A (setFlight (.ref e) (some L)) Q E s := by
  obtain ⟨hkb, hen, hl, oe, vs, T, oT, ts, he, hcls, hd, h1, hnT, hTe, hT, hdT, h3⟩ := R
  have hsz3 : 3 < ts.size := (Array.getElem?_eq_some_iff.mp h3).1
  have other : ∀ b, b ≠ T → (s.heap.update T (Obj.mapFields (·.setIfInBounds 3 ((some L).elim Value.none fun f => rawInt f)))).get? b = s.heap.get? b :=
    fun b hb => Heap.get?_update_other _ _ (Ne.symm hb)
  have noRecord : ∀ b o, s.heap.get? b = some o → (∀ vs, o.data ≠ .fields vs) → b ≠ T := fun b o hb hnf q => by
    rw [q, hT] at hb; injection hb with hb; subst hb; exact hnf ts hdT
  unfold setFlight
  refine wpAny_bind (wpAny_field he hd h1 ?_)
  rw [if_pos (show (Value.ref T != Value.none) = true from by simp)]
  refine wpAny_setField hT hdT hsz3 (h _ ⟨fun b o hbo => (other b fun q => by rw [q, hnT] at hbo; cases hbo).trans (hkb b o hbo), hen,
    hl.of_keeps fun b o hb hnf => ⟨o, (other b (noRecord b o hb hnf)).trans hb, rfl⟩, ?_⟩ fun b o hb hnf => ⟨o.slots, (other b (noRecord b o hb hnf)).trans hb⟩)
  exact ⟨oe, vs, T, _, _, (other e (Ne.symm hTe)).trans he, hcls, hd, h1, hnT, hTe, Heap.get?_update_self _ hT (Obj.isFreed_of_fields (Obj.data_mapFields hdT _)), Obj.data_mapFields hdT _, by simp [hsz3]⟩
theorem flight_ok {M : Model} {A : Around} {E : Value → Shared → Prop} {e C : Addr} {a0 : Value} {Q : Unit → Shared → Prop} {l : List Env} {L : Addr} (nd : NoD e s.heap) (R : Heap.HeldW B l e (.ref C) a0 L s.heap)
    (h : ∀ h', Heap.HeldW B l e (.ref C) a0 L h' → s.heap.UpToSlots h' → NoD e h' → Q () { s with heap := h' }) : wpAny M A (setFlight (.ref e) (some L)) Q E s :=
  wpAny_mono ((tame_setFlight (.ref e) (some L)).any e (flight_ok0 (E := fun _ _ => False) (Q := fun _ s' => ∃ h', s' = { s with heap := h' } ∧ Heap.HeldW B l e (.ref C) a0 L h' ∧ s.heap.UpToSlots h') R fun h' a b => ⟨h', rfl, a, b⟩))
    (fun _ s' ⟨⟨h', e1, a, b⟩, k⟩ => by subst e1; exact h h' a b (nd.keep k)) fun _ _ ⟨z, _⟩ => z.elim
/-- through a loop -/
theorem passes_of (W : Own X) {E : Value → Shared → Prop} (hE : ∀ u s, E u s → ∃ pins σ H e C, u = .ref e ∧ Inv X pins σ H s ∧ XSt X pins H e C s.heap ∧ ∀ h', Inv X pins σ H { s with heap := h' } → XSt X pins H e C h' → E u { s with heap := h' }) :
    PassesOwn (model X.prog X.w) X.A X.env E := by
  intro u s hu
  obtain ⟨pins, σ, H, e, C, rfl, I, ⟨B, a0, c, nd, x⟩, k⟩ := hE u s hu
  refine note_ok W I.ok.frames nd x fun h1 hh u1 nd1 => ?_
  have I1 := Inv.upto W I c hh.1 u1 (tk := s.toks)
  have c1 := c.upto W I hh.1
  show wpAny _ _ _ _ _ _
  have hh' := hh
  obtain ⟨k1, k2, k3, oe, vs, T, oT, ts, he, hcls, hd, h1', _⟩ := hh'
  refine wpAny_bind (wpAny_field he hd h1' ?_)
  rw [if_neg (show ¬ ((Value.ref T == Value.none) = true) from by simp)]
  rw [W.fr]
  first
    | refine wpAny_bind (wpAny_pure ?_)
    | skip
  refine flight_ok (s := { s with heap := h1 }) nd1 hh fun h2 hh2 u2 nd2 => ?_
  have I2 := Inv.upto W I1 c1 hh2.1 u2 (tk := s.toks)
  exact k h2 I2 ⟨B, a0, c1.upto W I1 hh2.1, nd2, .inr (.inl hh2)⟩
end
end Mi
set_option Elab.async false
set_option linter.all false
set_option autoImplicit false
set_option maxRecDepth 100000
set_option maxHeartbeats 4000000
namespace Mi
open PySem PySem.Spec PyProof.Rows L2
section
variable (X : Cx) (cl : Nat → Addr)
def OkS (pins : List (Addr × Obj)) (Hf0 H0 Hg : Hp) (r : SR) (f : Flow) (s : Shared) : Prop := match f with
  | .next => ∃ ρ σ Hf H, r = .next ρ ∧ Inv X pins σ H s ∧ Rep X.K cl Hf0 H0 Hf H σ ρ ∧ Same Hg Hf
  | .brk => ∃ ρ σ Hf H, r = .brk ρ ∧ Inv X pins σ H s ∧ Rep X.K cl Hf0 H0 Hf H σ ρ ∧ Same Hg Hf
  | .cont => ∃ ρ σ Hf H, r = .cont ρ ∧ Inv X pins σ H s ∧ Rep X.K cl Hf0 H0 Hf H σ ρ ∧ Same Hg Hf
  | .ret u => ∃ p v σ Hf H, r = .ret p ∧ Inv X pins σ H s ∧ Ext Hf0 H0 Hf H ∧ RelV v u ∧ Rp X.K cl Hf v p
def ExS (pins : List (Addr × Obj)) (Hf0 H0 Hg : Hp) (r : SR) (u : Value) (s : Shared) : Prop :=
  ∃ c ρ σ Hf H e, r = .exc c ρ ∧ u = .ref e ∧ Inv X pins σ H s ∧ Rep X.K cl Hf0 H0 Hf H σ ρ ∧ Same Hg Hf ∧ XSt X pins H e (cl c) s.heap
structure MS (st : Stmt) (f : FS) : Prop where
  run' : ∀ (pins : List (Addr × Obj)) (s : Shared) (σ : SV) (Hf0 H0 Hf H : Hp) (ρ : MEnv), Inv X pins σ H s → Rep X.K cl Hf0 H0 Hf H σ ρ → f ρ ≠ .stuck →
    wpAny (model X.prog X.w) X.A (exec st X.env) (OkS X cl pins Hf0 H0 Hf (f ρ)) (ExS X cl pins Hf0 H0 Hf (f ρ)) s
instance {st : Stmt} {f : FS} : CoeFun (MS X cl st f) fun _ => ∀ (pins : List (Addr × Obj)) (s : Shared) (σ : SV) (Hf0 H0 Hf H : Hp) (ρ : MEnv), Inv X pins σ H s → Rep X.K cl Hf0 H0 Hf H σ ρ → f ρ ≠ .stuck →
    wpAny (model X.prog X.w) X.A (exec st X.env) (OkS X cl pins Hf0 H0 Hf (f ρ)) (ExS X cl pins Hf0 H0 Hf (f ρ)) s := ⟨MS.run'⟩
structure MSs (st : List Stmt) (f : FS) : Prop where
  run' : ∀ (pins : List (Addr × Obj)) (s : Shared) (σ : SV) (Hf0 H0 Hf H : Hp) (ρ : MEnv), Inv X pins σ H s → Rep X.K cl Hf0 H0 Hf H σ ρ → f ρ ≠ .stuck →
    wpAny (model X.prog X.w) X.A (execs st X.env) (OkS X cl pins Hf0 H0 Hf (f ρ)) (ExS X cl pins Hf0 H0 Hf (f ρ)) s
instance {st : List Stmt} {f : FS} : CoeFun (MSs X cl st f) fun _ => ∀ (pins : List (Addr × Obj)) (s : Shared) (σ : SV) (Hf0 H0 Hf H : Hp) (ρ : MEnv), Inv X pins σ H s → Rep X.K cl Hf0 H0 Hf H σ ρ → f ρ ≠ .stuck →
    wpAny (model X.prog X.w) X.A (execs st X.env) (OkS X cl pins Hf0 H0 Hf (f ρ)) (ExS X cl pins Hf0 H0 Hf (f ρ)) s := ⟨MSs.run'⟩
end
section
variable {X : Cx} {cl : Nat → Addr} {pins : List (Addr × Obj)} {s : Shared} {σ : SV} {Hf0 H0 Hf H Hf1 H1 : Hp} {ρ : MEnv} {α : Type}
theorem exs_of {c : Nat} {u : Value} {s' : Shared} (r : Rep X.K cl Hf0 H0 Hf H σ ρ) (x : XAt X cl pins σ Hf H c u s') : ExS X cl pins Hf0 H0 Hf (.exc c ρ) u s' := by
  obtain ⟨e, Hf', H', rfl, I, ex, st⟩ := x
  exact ⟨c, ρ, σ, Hf', H', e, rfl, rfl, I, r.keep ex, ex.frz, st⟩
theorem OkS.from {Hg Hg' : Hp} {r : SR} {fl : Flow} {s' : Shared} (g : Same Hg Hg') (h : OkS X cl pins Hf0 H0 Hg' r fl s') : OkS X cl pins Hf0 H0 Hg r fl s' := by
  cases fl with
  | next => obtain ⟨ρ, σ, Hf, H, a, b, c, d⟩ := h; exact ⟨ρ, σ, Hf, H, a, b, c, g.trans d⟩
  | brk => obtain ⟨ρ, σ, Hf, H, a, b, c, d⟩ := h; exact ⟨ρ, σ, Hf, H, a, b, c, g.trans d⟩
  | cont => obtain ⟨ρ, σ, Hf, H, a, b, c, d⟩ := h; exact ⟨ρ, σ, Hf, H, a, b, c, g.trans d⟩
  | ret u => exact h
theorem ExS.from {Hg Hg' : Hp} {r : SR} {u : Value} {s' : Shared} (g : Same Hg Hg') (h : ExS X cl pins Hf0 H0 Hg' r u s') : ExS X cl pins Hf0 H0 Hg r u s' := by
  obtain ⟨c, ρ, σ, Hf, H, e, a, b, d, f, k, l⟩ := h
  exact ⟨c, ρ, σ, Hf, H, e, a, b, d, f, g.trans k, l⟩
/-- an expression within a statement -/
theorem ME.stm {e : Expr} {f : FE} (h : ME X cl e f) (I : Inv X pins σ H s) (r : Rep X.K cl Hf0 H0 Hf H σ ρ) {k : PV → SR} (hs : ofR (f ρ) ρ k ≠ .stuck) {Q : Value → Shared → Prop}
    (ok : ∀ p v u s' Hf' H', ofR (f ρ) ρ k = k p → Inv X pins σ H' s' → RelV v u → Ext Hf H Hf' H' → Rp X.K cl Hf' v p → Q u s') :
    wpAny (model X.prog X.w) X.A (eval e X.env) Q (ExS X cl pins Hf0 H0 Hf (ofR (f ρ) ρ k)) s := by
  have hf : f ρ ≠ .stuck := fun z => hs (by rw [z]; rfl)
  refine wpAny_mono (h pins s σ Hf0 H0 Hf H ρ I r hf) (fun u s' q => ?_) fun u s' q => ?_
  · obtain ⟨p, v, Hf', H', e1, I', rv, ex, rp⟩ := q
    exact ok p v u s' Hf' H' (by rw [e1]; rfl) I' rv ex rp
  · obtain ⟨c, e1, x⟩ := q
    rw [e1]
    exact exs_of r x
theorem mss_nil : MSs X cl [] sNext := ⟨fun pins s σ Hf0 H0 Hf H ρ I r _ => wpAny_execs_nil ⟨ρ, σ, Hf, H, rfl, I, r, Same.refl _⟩⟩
theorem mss_cons {st : Stmt} {rest : List Stmt} {f g : FS} (h1 : MS X cl st f) (h2 : MSs X cl rest g) : MSs X cl (st :: rest) (sSeq f g) := by
  refine ⟨?_⟩
  intro pins s σ Hf0 H0 Hf H ρ I r hs
  have hf : f ρ ≠ .stuck := fun z => hs (by unfold sSeq; rw [z])
  refine wpAny_execs_cons (wpAny_mono (h1 pins s σ Hf0 H0 Hf H ρ I r hf) (fun fl s1 q => ?_) fun u s1 q => ?_)
  · cases fl with
    | next =>
      obtain ⟨ρ', σ', Hf', H', e1, I', r', sm⟩ := q
      have e2 : sSeq f g ρ = g ρ' := by unfold sSeq; rw [e1]
      rw [e2] at hs ⊢
      exact wpAny_mono (h2 pins s1 σ' Hf0 H0 Hf' H' ρ' I' r' hs) (fun _ _ q => q.from sm) fun _ _ q => q.from sm
    | brk =>
      obtain ⟨ρ', σ', Hf', H', e1, I', r', sm⟩ := q
      have e2 : sSeq f g ρ = .brk ρ' := by unfold sSeq; rw [e1]
      rw [e2]; exact ⟨ρ', σ', Hf', H', rfl, I', r', sm⟩
    | cont =>
      obtain ⟨ρ', σ', Hf', H', e1, I', r', sm⟩ := q
      have e2 : sSeq f g ρ = .cont ρ' := by unfold sSeq; rw [e1]
      rw [e2]; exact ⟨ρ', σ', Hf', H', rfl, I', r', sm⟩
    | ret u =>
      obtain ⟨p, v, σ', Hf', H', e1, I', ex, rv, rp⟩ := q
      have e2 : sSeq f g ρ = .ret p := by unfold sSeq; rw [e1]
      rw [e2]; exact ⟨p, v, σ', Hf', H', rfl, I', ex, rv, rp⟩
  · obtain ⟨c, ρ', σ', Hf', H', e, e1, eu, I', r', sm, x⟩ := q
    have e2 : sSeq f g ρ = .exc c ρ' := by unfold sSeq; rw [e1]
    rw [e2]; exact ⟨c, ρ', σ', Hf', H', e, rfl, eu, I', r', sm, x⟩
theorem mss_one {st : Stmt} {f : FS} (h1 : MS X cl st f) : MSs X cl [st] f := by
  refine ⟨?_⟩
  intro pins s σ Hf0 H0 Hf H ρ I r hs
  refine wpAny_execs_cons (thn (h1 pins s σ Hf0 H0 Hf H ρ I r hs) fun fl s1 q => ?_)
  cases fl with
  | next => exact wpAny_execs_nil q
  | ret v => exact q
  | brk => exact q
  | cont => exact q
theorem ms_expr {e : Expr} {f : FE} {pos : Pos} (h : ME X cl e f) (hsw : swapsWith e none pos.line X.env = pure false := by rfl) : MS X cl (.Expr e pos) (sExpr f) := by
  refine ⟨?_⟩
  intro pins s σ Hf0 H0 Hf H ρ I r hs
  unfold sExpr at hs ⊢
  refine wpAny_Expr_any (h.stm I r hs fun p v u s1 Hf1 H1 e1 I1 rv x1 rp => ?_) I.quiet hsw
  rw [e1]
  exact ⟨ρ, σ, Hf1, H1, rfl, I1, r.keep x1, x1.frz⟩
theorem ms_ret {e : Expr} {f : FE} {pos : Pos} (h : ME X cl e f) : MS X cl (.Return (some e) pos) (sRet f) := by
  refine ⟨?_⟩
  intro pins s σ Hf0 H0 Hf H ρ I r hs
  unfold sRet at hs ⊢
  refine wpAny_Return_some (h.stm I r hs fun p v u s1 Hf1 H1 e1 I1 rv x1 rp => ?_)
  rw [e1]
  exact ⟨p, v, σ, Hf1, H1, rfl, I1, r.ext.trans x1, rv, rp⟩
theorem ms_set {i : Nat} {x : Str} {e : Expr} {f : FE} {pos pos' : Pos} (hN : X.N.Nodup) (hi : X.N[i]? = some x) (hx : Loc X.env.scope x) (he : ME X cl e f) (hsw : swapsWith e (some (.Name x pos')) pos.line X.env = pure false := by rfl)
    (hf : X.fn x = true ∨ X.env.scope.names.lookup x = some .local := by first | exact .inl rfl | exact .inr rfl | assumption) : MS X cl (.Assign [.Name x pos'] e pos) (sSet i f) := by
  refine ⟨?_⟩
  intro pins s σ Hf0 H0 Hf H ρ I r hs
  unfold sSet at hs ⊢
  refine wpAny_Assign_Name (he.stm I r hs fun p v u s1 Hf1 H1 e1 I1 rv x1 rp => ?_) hsw
  rw [e1]
  have hl : i < σ.length := by rw [I.len]; exact (List.getElem?_eq_some_iff.mp hi).1
  exact store_ok I1 hN hi hx rv (fun s2 I2 => ⟨_, _, Hf1, H1, rfl, I2, (r.keep x1).set i rp hl, x1.frz⟩) hf
theorem ms_if {c : Expr} {a b : List Stmt} {t : FT} {f g : FS} {pos : Pos} (hc : MT X cl c t) (ha : MSs X cl a f) (hb : MSs X cl b g) : MS X cl (.If c a b pos) (sIf t f g) := by
  refine ⟨?_⟩
  intro pins s σ Hf0 H0 Hf H ρ I r hs
  have ht : t ρ ≠ .stuck := fun z => hs (by unfold sIf; rw [z])
  refine wpAny_If (wpAny_mono (hc pins s σ Hf0 H0 Hf H ρ I r ht) (fun d s1 q => ?_) fun u s1 q => ?_)
  · obtain ⟨Hf1, H1, e1, I1, x1⟩ := q
    cases d with
    | true =>
      have e2 : sIf t f g ρ = f ρ := by unfold sIf; rw [e1]; rfl
      rw [e2] at hs ⊢
      exact wpAny_mono (ha pins s1 σ Hf0 H0 Hf1 H1 ρ I1 (r.keep x1) hs) (fun _ _ q => q.from x1.frz) fun _ _ q => q.from x1.frz
    | false =>
      have e2 : sIf t f g ρ = g ρ := by unfold sIf; rw [e1]; rfl
      rw [e2] at hs ⊢
      exact wpAny_mono (hb pins s1 σ Hf0 H0 Hf1 H1 ρ I1 (r.keep x1) hs) (fun _ _ q => q.from x1.frz) fun _ _ q => q.from x1.frz
  · obtain ⟨c, e1, x⟩ := q
    have e2 : sIf t f g ρ = .exc c ρ := by unfold sIf; rw [e1]
    rw [e2]
    exact exs_of r x
/-- an iterator over the values vs, as long as the heap bears what Hg bears -/
def Over (J : It) (Hg : Hp) (vs : List V) : Prop := ∀ H i, Same Hg H → (i < vs.length → J.go i H ∧ ∀ x H', J.yld i H x H' → H' = H ∧ vs[i]? = some x) ∧ (vs.length ≤ i → J.stop i H)
def OkI (X : Cx) (cl : Nat → Addr) (tg : Expr) (pins : List (Addr × Obj)) (σ : SV) (Hf H : Hp) (r : R (List PV)) (itv : Value) (s2 : Shared) : Prop :=
  ∃ (ps : List PV) (vs : List V) (Hf' : Hp), r = .ok ps ∧ PIE X pins σ tg (fun J H' => Ext Hf H Hf' H' ∧ Over J Hf' vs ∧ Rps X.K cl Hf' vs ps) itv s2
structure MI (X : Cx) (cl : Nat → Addr) (tg iter : Expr) (f : FA) : Prop where
  run' : ∀ (pins : List (Addr × Obj)) (s : Shared) (σ : SV) (Hf0 H0 Hf H : Hp) (ρ : MEnv), Inv X pins σ H s → Rep X.K cl Hf0 H0 Hf H σ ρ → f ρ ≠ .stuck →
    wpAny (model X.prog X.w) X.A (eval iter X.env) (fun v s1 => wpAny (model X.prog X.w) X.A (pyIter v) (OkI X cl tg pins σ Hf H (f ρ)) (ExP X cl pins σ Hf H (f ρ)) s1) (ExP X cl pins σ Hf H (f ρ)) s
instance {X : Cx} {cl : Nat → Addr} {tg iter : Expr} {f : FA} : CoeFun (MI X cl tg iter f) fun _ => ∀ (pins : List (Addr × Obj)) (s : Shared) (σ : SV) (Hf0 H0 Hf H : Hp) (ρ : MEnv), Inv X pins σ H s → Rep X.K cl Hf0 H0 Hf H σ ρ → f ρ ≠ .stuck →
    wpAny (model X.prog X.w) X.A (eval iter X.env) (fun v s1 => wpAny (model X.prog X.w) X.A (pyIter v) (OkI X cl tg pins σ Hf H (f ρ)) (ExP X cl pins σ Hf H (f ρ)) s1) (ExP X cl pins σ Hf H (f ρ)) s := ⟨MI.run'⟩
theorem over_tup {K : PySem.W.Frag} {a : Addr} {xs : List V} {Hg : Hp} (h : SqT K Hg a xs) : Over (Itt K a) Hg xs := fun H i sm =>
  ⟨fun hi => ⟨⟨xs, xs[i], Same.seqT sm h, by simp [hi]⟩, fun x H' ⟨e, y⟩ => ⟨e, y xs (Same.seqT sm h)⟩⟩, fun hi => ⟨xs, Same.seqT sm h, hi⟩⟩
theorem over_list' {K : PySem.W.Frag} {a : Addr} {xs : List V} {Hg : Hp} (h : SqL K Hg a xs) : Over (Itl K a) Hg xs := fun H i sm =>
  ⟨fun hi => ⟨⟨xs, xs[i], sm.seq h, by simp [hi]⟩, fun x H' ⟨e, y⟩ => ⟨e, y xs (sm.seq h)⟩⟩, fun hi => ⟨xs, sm.seq h, hi⟩⟩
theorem mi_seq {tg iter : Expr} {f : FE} (h : ME X cl iter f) : MI X cl tg iter (iSeq f) := by
  refine ⟨?_⟩
  intro pins s σ Hf0 H0 Hf H ρ I r hs
  unfold iSeq at hs ⊢
  refine h.run I r (Ext.refl r.sub) hs fun p v u s1 Hf1 H1 e1 I1 rv x1 rp => ?_
  rw [e1] at hs ⊢
  cases p <;> first
    | exact absurd rfl hs
    | skip
  · rename_i l
    cases rp with
    | tup hq rr =>
      cases rv
      obtain ⟨its, w, pl, hz⟩ := I1.tuple (Same.seqT x1.sub hq)
      refine wpAny_pyIter_tuple (show s1.heap.IsTuple _ its.toArray from pl) ?_
      refine ⟨l, _, Hf1, rfl, s1.heap.objs.size, [s1.heap.objs.size], _, _, H1, rfl, I1.kept (t' := s1.toks) fun b o e => Heap.get?_push_of_some _ e, turn_tuple _ _, ⟨_, Heap.get?_push_size _ rfl, rfl, rfl⟩, fun b hb => ?_, x1, over_tup hq, rr⟩
      have e : b = s1.heap.objs.size := by simpa using hb
      subst e
      exact I1.fpOk (Nat.le_refl _) (I1.hok.fresh (Nat.le_refl _))
  · rename_i l
    cases rp with
    | lst hq rr =>
      cases rv
      obtain ⟨its, w, pl, hz⟩ := I1.list (x1.sub.seq hq)
      refine wpAny_pyIter_list pl.isList ?_
      refine ⟨l, _, Hf1, rfl, s1.heap.objs.size, [s1.heap.objs.size], _, _, H1, rfl, I1.kept (t' := s1.toks) fun b o e => Heap.get?_push_of_some _ e, turn_list _ _, ⟨_, Heap.get?_push_size _ rfl, rfl, rfl⟩, fun b hb => ?_, x1, over_list' hq, rr⟩
      have e : b = s1.heap.objs.size := by simpa using hb
      subst e
      exact I1.fpOk (Nat.le_refl _) (I1.hok.fresh (Nat.le_refl _))
theorem passes_exs (W : Own X) {r : SR} {Hg : Hp} : PassesOwn (model X.prog X.w) X.A X.env (ExS X cl pins Hf0 H0 Hg r) := passes_of W fun u s ⟨c, ρ, σ, Hf, H, e, e1, eu, I, rr, sm, x⟩ =>
  ⟨pins, σ, H, e, cl c, eu, I, x, fun h' I' x' => ⟨c, ρ, σ, Hf, H, e, e1, eu, I', rr, sm, x'⟩⟩
theorem ms_for {i : Nat} {x : Str} {iter : Expr} {body : List Stmt} {f : FA} {g : FS} {pos pos' : Pos} (W : Own X) (hc : X.calm = true) (hN : X.N.Nodup) (hi : X.N[i]? = some x) (hx : Loc X.env.scope x) (h : MI X cl (.Name x pos') iter f) (hb : MSs X cl body g)
    (hf : X.fn x = true ∨ X.env.scope.names.lookup x = some .local := by first | exact .inl rfl | exact .inr rfl | assumption) (hfs : ∀ y, foldedSetIterable iter X.env y = pure y := by intro _; rfl) :
    MS X cl (.For (.Name x pos') iter body [] pos) (sFor i f g) := by
  refine ⟨?_⟩
  intro pins s σ Hf0 H0 Hf H ρ I r hs
  have hfr : f ρ ≠ .stuck := fun z => hs (by unfold sFor; rw [z])
  have hE : ∀ u s', ExP X cl pins σ Hf H (f ρ) u s' → ExS X cl pins Hf0 H0 Hf (sFor i f g ρ) u s' := fun u s' ⟨c, e1, y⟩ => by
    have e2 : sFor i f g ρ = .exc c ρ := by unfold sFor; rw [e1]
    rw [e2]; exact exs_of r y
  refine wpAny_For (wpAny_mono (h pins s σ Hf0 H0 Hf H ρ I r hfr) (fun v s1 h1 => wpAny_mono h1 (fun itv s2 h2 => ?_) hE) hE) hfs
  obtain ⟨ps, vs, Hf2, e1, it, fp, tn, J, H2, e, I2, T, st2, f2, x2, ov, rps⟩ := h2
  subst e
  have e2 : sFor i f g ρ = forL i g ps ρ := by unfold sFor; rw [e1]
  rw [e2] at hs ⊢
  have hp : PassesOwn (model X.prog X.w) X.A X.env (ExS X cl pins Hf0 H0 Hf (forL i g ps ρ)) := passes_exs W
  have stat : ∀ {H' : Hp}, (∀ b ∈ fp, H' b = none) → ∀ b ∈ fp, FpOk X pins H' b := fun hn b hb => ⟨hn b hb, (f2 b hb).2⟩
  have hil : ∀ {σ' : SV} {H' : Hp} {s' : Shared}, Inv X pins σ' H' s' → i < σ'.length := fun I' => by rw [I'.len]; exact (List.getElem?_eq_some_iff.mp hi).1
  refine codeAny_forLoop_any (fun n s' => ∃ k ρ' σ' Hf' H', Inv X pins σ' H' s' ∧ tn k s'.heap ∧ (∀ b ∈ fp, H' b = none) ∧ Rep X.K cl Hf0 H0 Hf' H' σ' ρ' ∧ Same Hf2 Hf' ∧ n = ps.length - k ∧ k ≤ ps.length ∧ forL i g (ps.drop k) ρ' = forL i g ps ρ) ?_ ps.length
    ⟨0, ρ, σ, Hf2, H2, I2, st2, fun b hb => (f2 b hb).1, r.keep x2, Same.refl _, rfl, Nat.zero_le _, rfl⟩
  rintro n s3 ⟨k, ρ3, σ3, Hf3, H3, I3, st3, fr3, r3, sm3, rfl, hk, e3⟩
  have hvp := rps.length
  have smH : Same Hf2 H3 := sm3.trans r3.sub
  by_cases hlt : k < ps.length
  · obtain ⟨go, yl⟩ := (ov H3 k smH).1 (by rw [hvp]; exact hlt)
    refine wpAny_passesOwn hp (wpAny_mono (T.item X rfl rfl rfl hc k pins s3 σ3 H3 (ExS X cl pins Hf0 H0 Hf (forL i g ps ρ)) I3 (stat fr3) st3 go) (fun rr s4 ⟨u, hr, h4⟩ => ?_) fun _ _ z => z)
    subst hr
    refine wpAny_passesOwn hp (thn h4 fun _ s5 ⟨x5, H5, I5, r5, y5, st5, fr5⟩ => ?_)
    obtain ⟨eH, ex5⟩ := yl x5 H5 y5
    subst eH
    obtain ⟨p5, ep5, rp5⟩ := rps.get' ex5
    have rp5' := rp5.keep sm3
    have hdrop : ps.drop k = p5 :: ps.drop (k + 1) := by
      rw [List.drop_eq_getElem_cons hlt]
      rw [List.getElem?_eq_getElem hlt] at ep5
      rw [Option.some.inj ep5]
    have I5' := I5.pinned (stat fr5) (T.obj _ _ st5)
    refine wpAny_passesOwn hp (wpAny_assign_Name (store_ok I5' hN hi hx r5 (fun s6 I6 => ?_) hf))
    have r6 := r3.set i rp5' (hil I3)
    rw [hdrop] at e3
    have step : forL i g (p5 :: ps.drop (k + 1)) ρ3 = (match g (ρ3.set i (some p5)) with | .next ρ' => forL i g (ps.drop (k + 1)) ρ' | .cont ρ' => forL i g (ps.drop (k + 1)) ρ' | .brk ρ' => .next ρ' | o => o) := rfl
    rw [step] at e3
    have hg : g (ρ3.set i (some p5)) ≠ .stuck := fun z => hs (by rw [← e3, z])
    have smHf : Same Hf Hf3 := x2.frz.trans sm3
    refine wpAny_passesOwn hp (wpAny_mono (hb _ s6 _ Hf0 H0 Hf3 H5 _ I6 r6 hg) (fun fl s7 q7 => ?_) fun u s7 q7 => ?_)
    · have again : ∀ {ρ7 : MEnv} {σ7 : SV} {Hf7 H7 : Hp}, Inv X (pins ++ pinsAt fp s5.heap) σ7 H7 s7 → Rep X.K cl Hf0 H0 Hf7 H7 σ7 ρ7 → Same Hf2 Hf7 → forL i g (ps.drop (k + 1)) ρ7 = forL i g ps ρ →
          ∃ m, m < ps.length - k ∧ ∃ k ρ' σ' Hf' H', Inv X pins σ' H' s7 ∧ tn k s7.heap ∧ (∀ b ∈ fp, H' b = none) ∧ Rep X.K cl Hf0 H0 Hf' H' σ' ρ' ∧ Same Hf2 Hf' ∧ m = ps.length - k ∧ k ≤ ps.length ∧ forL i g (ps.drop k) ρ' = forL i g ps ρ := fun {ρ7 σ7 Hf7 H7} I7 r7 sm7 e7 => by
        refine ⟨ps.length - (k + 1), by omega, k + 1, ρ7, σ7, Hf7, H7, I7.unpinned, T.keep _ _ _ st5 fun b hb o e => (I7.pin (b, o) (List.mem_append_right _ (List.mem_append_right _ (mem_pinsAt hb e)))).1, fun b hb => ?_, r7, sm7, rfl, hlt, e7⟩
        obtain ⟨o, e, d⟩ := T.obj _ _ st5 b hb
        exact (I7.pin (b, o) (List.mem_append_right _ (List.mem_append_right _ (mem_pinsAt hb e)))).2.1
      cases fl with
      | next =>
        obtain ⟨ρ7, σ7, Hf7, H7, e7, I7, r7, sm7⟩ := q7
        rw [e7] at e3
        exact again I7 r7 (sm3.trans sm7) e3
      | cont =>
        obtain ⟨ρ7, σ7, Hf7, H7, e7, I7, r7, sm7⟩ := q7
        rw [e7] at e3
        exact again I7 r7 (sm3.trans sm7) e3
      | brk =>
        obtain ⟨ρ7, σ7, Hf7, H7, e7, I7, r7, sm7⟩ := q7
        rw [e7] at e3
        rw [← e3]
        exact ⟨ρ7, σ7, Hf7, H7, rfl, I7.unpinned, r7, smHf.trans sm7⟩
      | ret u =>
        obtain ⟨p7, v7, σ7, Hf7, H7, e7, I7, ex7, rv7, rp7⟩ := q7
        rw [e7] at e3
        rw [← e3]
        exact ⟨p7, v7, σ7, Hf7, H7, rfl, I7.unpinned, ex7, rv7, rp7⟩
    · obtain ⟨c7, ρ7, σ7, Hf7, H7, ee7, e7, eu7, I7, r7, sm7, x7⟩ := q7
      rw [e7] at e3
      rw [← e3]
      exact ⟨c7, ρ7, σ7, Hf7, H7, ee7, rfl, eu7, I7.unpinned, r7, smHf.trans sm7, x7.fewer⟩
  · have hke : k = ps.length := by omega
    subst hke
    refine wpAny_passesOwn hp (thn (T.done X rfl rfl rfl hc ps.length pins s3 σ3 H3 _ I3 (stat fr3) st3 ((ov H3 ps.length smH).2 (by rw [hvp]; exact Nat.le_refl _))) fun rr s4 ⟨hr, I4⟩ => ?_)
    subst hr
    rw [List.drop_length] at e3
    rw [← e3]
    exact wpAny_execs_nil ⟨ρ3, σ3, Hf3, H3, rfl, I4, r3, x2.frz.trans sm3⟩
end
end Mi
set_option Elab.async false
set_option linter.all false
set_option autoImplicit false
set_option maxRecDepth 100000
set_option maxHeartbeats 4000000
namespace Mi
open PySem PySem.Spec PyProof.Rows L2
section
variable {K : PySem.W.Frag} {cl : Nat → Addr} {Hf H : Hp}
theorem rep_start {n : Nat} {N : List Str} {vs : List V} {ps : List PV} (hn : N.length = n) (sm : Same Hf H) (r : Rps K cl Hf vs ps) : Rep K cl Hf H Hf H (L2.start N vs) (Mi.start n ps) := by
  have hl := r.length
  have get : ∀ {i : Nat} {p : PV}, (Mi.start n ps)[i]? = some (some p) → ps[i]? = some p := fun {i p} h => by
    unfold Mi.start at h
    by_cases hi : i < ps.length
    · rw [List.getElem?_append_left (by simpa using hi), List.getElem?_map] at h
      cases e : ps[i]? with
      | none => rw [e] at h; cases h
      | some q => rw [e] at h; cases h; rfl
    · rw [List.getElem?_append_right (by simpa using hi), List.getElem?_replicate] at h
      split at h <;> cases h
  have noown : ∀ {i : Nat} {l : List PV}, ps[i]? ≠ some (.own l) := fun {i l} e => by
    obtain ⟨v, _, h⟩ := r.get e
    cases h
  refine ⟨Ext.refl sm, fun i p h => ?_, fun i j a b _ h _ _ _ => absurd (get h) noown⟩
  have e := get h
  obtain ⟨v, h1, h2⟩ := r.get e
  refine ⟨v, ?_, ?_⟩
  · unfold L2.start
    have hi : i < vs.length := (List.getElem?_eq_some_iff.mp h1).1
    rw [List.getElem?_append_left (by simpa using hi), List.getElem?_map, h1]
    rfl
  · cases p with
    | own l => exact absurd e noown
    | _ => exact h2
end
section
variable {P : Program} {w : World} {K : PySem.W.Frag} {mg : Str → Option Value} {base : Heap} {cl : Nat → Addr}
abbrev cxM (P : Program) (w : World) (K : PySem.W.Frag) (mg : Str → Option Value) (base : Heap) (cl : Nat → Addr) (N : List Str) (qual : Str) (scope : Scope) (f : Addr) (cd : Value) (A : Around) (outer : List Env) (s : Shared) (H : Hp) (E : XK) : Cx :=
  cxOf (CXm cl P w) P w K mg base N qual scope f cd A outer s H E
theorem own_cx {N : List Str} {qual : Str} {scope : Scope} {f : Addr} {cd : Value} {A : Around} {outer : List Env} {s : Shared} {H : Hp} {E : XK} : Own (cxM P w K mg base cl N qual scope f cd A outer s H E) :=
  ⟨rfl, rfl, fun b z => absurd (show b ∈ ([] : List Addr) from z) (by simp), fun _ => rfl⟩
/-- an exception leaves the def -/
theorem leaves_ok {N : List Str} {qual : Str} {scope : Scope} {f : Addr} {cd : Value} {A : Around} {outer : List Env} {s s' : Shared} {H H' : Hp} {E : XK} {pins : List (Addr × Obj)} {σ : SV} {e : Addr} {c : Nat}
    (I : Inv (cxM P w K mg base cl N qual scope f cd A outer s H E) pins σ H' s') (x : XSt (cxM P w K mg base cl N qual scope f cd A outer s H E) pins H' e (cl c) s'.heap) (hE : E (.ref (cl c)) none H') :
    (cxM P w K mg base cl N qual scope f cd A outer s H E).xe (.ref e) s' := by
  have W := own_cx (P := P) (w := w) (K := K) (mg := mg) (base := base) (cl := cl) (N := N) (qual := qual) (scope := scope) (f := f) (cd := cd) (A := A) (outer := outer) (s := s) (H := H) (E := E)
  obtain ⟨B, a0, cov, nd, st⟩ := x
  show wpAny _ _ (leaving _ _) _ _ s'
  unfold leaving
  refine wpAny_bind (note_ok W I.ok.frames nd st fun h1 hh u1 nd1 => ?_)
  have I1 := Inv.upto W I cov hh.1 u1 (tk := s'.toks)
  have c1 := cov.upto W I hh.1
  refine lands_ok (s := { s' with heap := h1 }) nd1 hh fun h2 hf u2 nd2 => ?_
  have I2 := Inv.upto W I1 c1 hf.1 u2 (tk := s'.toks)
  have c2 := c1.upto W I1 hf.1
  refine ⟨e, c, H', B, a0, rfl, I2.os, I2.bare, I2.base, I2.hok, ?_, fun b o hb hc hn => ?_, nd2, hE⟩
  · have hf' : Heap.FlyingW B ((cxM P w K mg base cl N qual scope f cd A outer s H E).env :: outer) e (.ref (cl c)) a0 h2 := hf
    obtain ⟨k1, k2, ⟨_, _, k3⟩, k4⟩ := hf'
    exact ⟨k1, k2, k3, k4⟩
  · refine c2 b o hb ?_ fun z => ?_
    · rcases hc with hc | hc
      · exact .inl hc
      · exact .inr (.inr (.inl hc))
    · rcases (frs_stk W).mp z with z | z
      · rcases hc with hc | ⟨o₀, hc⟩
        · exact hc (by rw [z]; exact I2.free)
        · have h1 := Heap.lt_size hc
          rw [z] at h1
          exact absurd (Nat.lt_of_lt_of_le h1 I2.ok.above) (Nat.lt_irrefl _)
      · exact hn z
theorem fn_mirror {x qual : Str} {st : Stmt} {f : Addr} {fd : FuncData} {N ps : List Str} {k n : Nat} {b : FS} (F : Fun K x qual st f fd) (S : FnScope N ps (defScope st)) (hn : ps.length = n)
    (hbody : ∀ (cdv : Value) (A : Around) (outer : List Env) (s : Shared) (H : Hp) (E : XK), Room k (A.deeper (envOfC qual (defScope st) s.heap.objs.size f cdv)) →
      MSs (cxM P w K mg base cl N qual (defScope st) f cdv A outer s H E) cl (defBody st) b) : FnOk P w K mg base (CXm cl P w) (k + 1) f fd ps (spF K cl n (runF N.length b)) := by
  obtain ⟨oc, od, kV, doc, pm, an, cdv, ct, osl, rfl, lk, hcd⟩ := F.ex
  refine fn_of lk hcd S (fun vs H Q E h => by rw [h.1, hn]) fun A outer s H vs Q E hr hsp => ?_
  obtain ⟨hl, Hf, qs, sm, rps, hs, hok, hex⟩ := hsp
  have hb := hbody cdv A outer s H E hr
  have hs' : b (Mi.start N.length qs) ≠ .stuck := fun z => hs (by unfold runF; rw [z])
  refine ⟨fun D σ H1 => σ = L2.start N vs ∧ H1 = H ∧ D = { nx := fun _ H' => Q .non H', rt := Q }, fun pins s1 σ H1 D I h => ?_, rfl, rfl, rfl⟩
  obtain ⟨rfl, rfl, rfl⟩ := h
  refine wpAny_mono (hb pins s1 _ Hf H1 Hf H1 _ I (rep_start rfl sm rps) hs') (fun fl s2 q => ?_) fun u s2 q => ?_
  · cases fl with
    | next =>
      obtain ⟨ρ', σ', Hf', H', e1, I', r', _⟩ := q
      exact ⟨σ', H', I', hok .non .non Hf' H' (by unfold runF; rw [e1]) r'.ext .non⟩
    | ret u =>
      obtain ⟨p, v, σ', Hf', H', e1, I', ex, rv, rp⟩ := q
      exact ⟨v, σ', H', I', rv, hok p v Hf' H' (by unfold runF; rw [e1]) ex rp⟩
    | brk =>
      obtain ⟨ρ', σ', Hf', H', e1, I', r', _⟩ := q
      exact absurd (by unfold runF; rw [e1]) hs
    | cont =>
      obtain ⟨ρ', σ', Hf', H', e1, I', r', _⟩ := q
      exact absurd (by unfold runF; rw [e1]) hs
  · obtain ⟨c, ρ', σ', Hf', H', e, e1, rfl, I', r', _, x⟩ := q
    exact leaves_ok I' x (hex c Hf' H' (by unfold runF; rw [e1]) r'.ext)
end
end Mi
set_option Elab.async false
set_option linter.all false
set_option autoImplicit false
set_option maxRecDepth 100000
set_option maxHeartbeats 4000000
namespace Mi
open PySem PySem.Spec PyProof.Rows L2
def tyS : Ty → String
  | .int => "int" | .bool => "bool" | .str => "str" | .tuple => "tuple" | .list => "list" | .dict => "dict"
def tyN : Ty → Str
  | .int => "int" | .bool => "bool" | .str => "str" | .tuple => "tuple" | .list => "list" | .dict => "dict"
theorem tyN_boot (t : Ty) : bootBuiltins (tyN t) = some (.type (tyS t)) := by
  cases t
  · exact boot_int
  · exact boot_bool
  · exact boot_str
  · exact boot_tuple
  · exact boot_list
  · exact boot_dict
section
variable {K : PySem.W.Frag}
theorem kit_none (t : Ty) : PySem.W.kitOne K (.type "NoneType") (.type (tyS t)) = some false := by cases t <;> rfl
theorem kit_bool (t : Ty) : PySem.W.kitOne K (.type "bool") (.type (tyS t)) = some (match t with | .int => true | .bool => true | _ => false) := by cases t <;> rfl
theorem kit_int (t : Ty) : PySem.W.kitOne K (.type "int") (.type (tyS t)) = some (match t with | .int => true | _ => false) := by cases t <;> rfl
theorem kit_str (t : Ty) : PySem.W.kitOne K (.type "str") (.type (tyS t)) = some (match t with | .str => true | _ => false) := by cases t <;> rfl
theorem kit_tuple (t : Ty) : PySem.W.kitOne K (.type "tuple") (.type (tyS t)) = some (match t with | .tuple => true | _ => false) := by cases t <;> rfl
theorem kit_list (t : Ty) : PySem.W.kitOne K (.type "list") (.type (tyS t)) = some (match t with | .list => true | _ => false) := by cases t <;> rfl
theorem kit_dict (t : Ty) : PySem.W.kitOne K (.type "dict") (.type (tyS t)) = some (match t with | .dict => true | _ => false) := by cases t <;> rfl
end
section
variable {X : Cx} {cl : Nat → Addr} {pins : List (Addr × Obj)} {s : Shared} {σ : SV} {Hf0 H0 Hf H Hf1 H1 : Hp} {ρ : MEnv} {α : Type}
theorem isinst_run {p : PV} {v : V} {u : Value} {t : Ty} {b : Bool} {E : Value → Shared → Prop} (I : Inv X pins σ H s) (sm : Same Hf H) (rv : RelV v u) (rp : Rp X.K cl Hf v p) (h : isTy p t = some b) :
    wpAny (model X.prog X.w) X.A (call (.builtin "isinstance") [u, .type (tyS t)]) (OkP X cl pins σ Hf H (.ok (.bl b))) E s := by
  have fin : ∀ tk, OkP X cl pins σ Hf H (.ok (.bl b)) (.bool b) { s with toks := tk } := fun tk => ⟨.bl b, .bl b, Hf, H, rfl, I.tok _, rfl, Ext.refl sm, .bl b⟩
  cases rp with
  | non => cases rv; exact PySem.W.kia_one PySem.W.kitx_none I.kIn True.intro (by rw [kit_none]; cases t <;> exact h) (fun z => nomatch z) fin
  | bl c => cases rv; exact PySem.W.kia_one PySem.W.kitx_bool I.kIn True.intro (by rw [kit_bool]; cases t <;> exact h) (fun z => nomatch z) fin
  | int c => obtain ⟨tk, rfl⟩ := rv; exact PySem.W.kia_one PySem.W.kitx_int I.kIn True.intro (by rw [kit_int]; cases t <;> exact h) (fun z => nomatch z) fin
  | str c => obtain ⟨tk, rfl⟩ := rv; exact PySem.W.kia_one PySem.W.kitx_str I.kIn True.intro (by rw [kit_str]; cases t <;> exact h) (fun z => nomatch z) fin
  | tup hq r =>
    cases rv
    obtain ⟨its, w, ⟨o, h1, h2, _⟩, _⟩ := I.tuple (Same.seqT sm hq)
    exact PySem.W.kia_one PySem.W.kitx_tuple I.kIn ⟨o, h1, h2⟩ (by rw [kit_tuple]; cases t <;> exact h) (fun z => nomatch z) fin
  | lst hq r =>
    cases rv
    obtain ⟨its, w, ⟨o, n, h1, h2, _⟩, _⟩ := I.list (sm.seq hq)
    exact PySem.W.kia_one PySem.W.kitx_list I.kIn ⟨o, h1, h2⟩ (by rw [kit_list]; cases t <;> exact h) (fun z => nomatch z) fin
  | exc hq => cases t <;> cases h
  | ins hq => cases t <;> cases h
  | dic0 hq =>
    cases rv
    obtain ⟨_, _, vs, _, o, es, ep, h1, h2, _⟩ := I.hok _ _ (sm _ _ hq)
    exact PySem.W.kia_one PySem.W.kitx_dict I.kIn ⟨o, h1, h2.1⟩ (by rw [kit_dict]; cases t <;> exact h) (fun z => nomatch z) fin
theorem me_isinst {e : Expr} {f : FE} (t : Ty) {p p2 pos : Pos} (he : ME X cl e f) (hg : Gl X "isinstance") (hm : X.mg "isinstance" = none) (hg2 : Gl X (tyN t)) (hm2 : X.mg (tyN t) = none)
    (hst : starEach [e, .Name (tyN t) p2] X.env = [(false, eval e X.env), (false, eval (.Name (tyN t) p2) X.env)] := by rfl) (hst2 : starEach [.Name (tyN t) p2] X.env = [(false, eval (.Name (tyN t) p2) X.env)] := by rfl) :
    ME X cl (.Call (.Name "isinstance" p) [e, .Name (tyN t) p2] [] pos) (fIsinst t f) := by
  refine ⟨?_⟩
  intro pins s σ Hf0 H0 Hf H ρ I r hs
  unfold fIsinst at hs ⊢
  refine wpAny_Call_Name_kw (ld_blt I hg hm boot_isinstance ?_)
  refine PyProof.Rows.callWith_builtin1 ?_ (by rw [hst, hst2]) (by rw [hst2]; rfl)
  rw [hst]
  show wpAny _ _ (spliced ((false, eval e X.env) :: backTo pos [(false, eval (.Name (tyN t) p2) X.env)])) _ _ s
  refine Calls.spliced_cons (he.run I r (Ext.refl r.sub) hs fun q v u s1 Hf1 H1 e1 I1 rv x1 rp => ?_)
  rw [e1] at hs ⊢
  cases hb : isTy q t with
  | none => rw [hb] at hs; exact absurd rfl hs
  | some b =>
    have hn : tyN t ≠ "__name__" := by cases t <;> decide
    have hd : (tyN t == ("__debug__" : Str)) = false := by cases t <;> decide
    show wpAny _ _ (spliced ((false, eval (.Name (tyN t) p2) X.env) :: [])) _ _ s1
    refine Calls.spliced_cons (ld_blt I1 hg2 hm2 (tyN_boot t) (Calls.spliced_nil ?_) hn hd)
    show wpAny _ _ (call (.builtin "isinstance") [u, .type (tyS t)]) (OkP X cl pins σ Hf H (.ok (.bl b))) _ s1
    exact thn (isinst_run I1 x1.sub rv rp hb) fun _ _ q => q.from (e0 := x1)
theorem small_any {a b c : Int} (ha : smallI a) (hb : smallI b) (hc : smallI c) (h0 : c ≠ 0) : Builtin.Range.small a b c = true := by
  obtain ⟨a1, a2⟩ := ha
  obtain ⟨b1, b2⟩ := hb
  obtain ⟨c1, c2⟩ := hc
  have key : -(2 ^ 63) ≤ Builtin.Range.rangeSize a b c ∧ Builtin.Range.rangeSize a b c < 2 ^ 63 := by
    unfold Builtin.Range.rangeSize
    by_cases hp : c > 0
    · rw [if_pos hp]
      by_cases hl : a < b
      · rw [if_pos hl]
        have h1 : 0 ≤ (b - a - 1) / c := Int.ediv_nonneg (by omega) (by omega)
        have h2 : (b - a - 1) / c ≤ b - a - 1 := Int.ediv_le_self _ (by omega)
        omega
      · rw [if_neg hl]; omega
    · rw [if_neg hp]
      by_cases hl : a > b
      · rw [if_pos hl]
        have h1 : 0 ≤ (a - b - 1) / (-c) := Int.ediv_nonneg (by omega) (by omega)
        have h2 : (a - b - 1) / (-c) ≤ a - b - 1 := Int.ediv_le_self _ (by omega)
        omega
      · rw [if_neg hl]; omega
  have fit : ∀ i : Int, -(2 ^ 63) ≤ i → i < 2 ^ 63 → Builtin.Range.rangeFitsLong i = true := fun i h1 h2 => by
    unfold Builtin.Range.rangeFitsLong
    rw [decide_eq_true h1, decide_eq_true h2]; rfl
  unfold Builtin.Range.small
  rw [fit a (by omega) (by omega), fit b (by omega) (by omega), fit c (by omega) (by omega), fit _ key.1 key.2]
  have last : (if c > 0 then Builtin.Range.rangeFitsLong (b + (c - 1)) else Builtin.Range.rangeFitsLong (b + (c + 1))) = true := by
    by_cases hp : c > 0
    · rw [if_pos hp]; exact fit _ (by omega) (by omega)
    · rw [if_neg hp]; exact fit _ (by omega) (by omega)
  rw [last, Bool.or_true]; rfl
def Itr3 (lo : Int) (st : Int) (n : Nat) : It := ⟨fun i _ => i < n, fun i H x H' => H' = H ∧ x = .int (lo + i * st), fun i _ => n ≤ i⟩
theorem turn_range3 {P : Program} {w : World} {K : PySem.W.Frag} {tg : Expr} (it : Addr) (lo st : Int) (n : Nat) : Turn P w K tg (Itr3 lo st n) [it] it (fun i h => IsRangeIter h it (lo + (i : Nat) * st) ((n : Int) - (i : Nat)) st) where
  mem := by simp
  obj := fun i h st b hb => by
    have e : b = it := by simpa using hb
    subst e
    exact ⟨_, st, fun v z => by
      have z' : Data.fields _ = Data.cell v := z
      cases z'⟩
  keep := fun i h h' st k => k it (by simp) _ st
  item := by
    intro X hP hw hK hc i pins s σ H E I hf st0 hg
    subst hP hw hK
    obtain ⟨f0, f1, f2, f3, f4, f5⟩ := hf it (by simp)
    have W := Walks.range (prog := X.prog) (w := X.w) (I.ok.hd hc) it lo st n
    refine W.item i s _ _ hg st0 fun v h' tk hv st' kk => ?_
    obtain ⟨t, rfl⟩ := hv
    have I1 : Inv X pins σ H { s with heap := h', toks := tk } := I.turned (fun b o hb e => kk b o (by simpa using hb) e) f0 f1 f3 f4 f5
    exact ⟨_, rfl, go_of (s := { s with heap := h', toks := tk }) (n := "range_iterator") st' rfl rfl (by decide) ⟨.int (lo + i * st), H, I1, ⟨t, rfl⟩, ⟨rfl, rfl⟩, st', fun b hb => (hf b hb).1⟩⟩
  done := by
    intro X hP hw hK hc i pins s σ H E I hf st0 hg
    subst hP hw hK
    obtain ⟨f0, f1, f2, f3, f4, f5⟩ := hf it (by simp)
    exact wpAny_pyNext_range_end (I.ok.hd hc) st0 (by have : n ≤ i := hg; omega) fun h' eb => ⟨rfl, I.turned (t' := s.toks) (fun b o hb e => eb b o hb e) f0 f1 f3 f4 f5⟩
  self := fun _ _ _ _ _ st h => wpAny_pyIter_rangeiter st h
def rngV (lo hi st : Int) : List V := (List.range (rangeN lo hi st)).map fun (k : Nat) => .int (lo + (k : Int) * st)
theorem rngV_len (lo hi st : Int) : (rngV lo hi st).length = rangeN lo hi st := by unfold rngV; rw [List.length_map, List.length_range]
theorem over_range {lo hi st : Int} {Hg : Hp} : Over (Itr3 lo st (rangeN lo hi st)) Hg (rngV lo hi st) := fun H i sm =>
  ⟨fun h => ⟨by rw [rngV_len] at h; exact h, fun x H' ⟨e1, e2⟩ => ⟨e1, by
    rw [rngV_len] at h
    subst e2
    unfold rngV
    rw [List.getElem?_map, List.getElem?_range h]
    rfl⟩⟩, fun h => by rw [rngV_len] at h; exact h⟩
theorem rps_map {K : PySem.W.Frag} (g : Nat → V) (h : Nat → PV) (e : ∀ i, Rp K cl Hf (g i) (h i)) : ∀ l : List Nat, Rps K cl Hf (l.map g) (l.map h)
  | [] => .nil
  | a :: r => .cons (e a) (rps_map g h e r)
theorem range_it3 {tg : Expr} {E : Value → Shared → Prop} {lo hi st : Int} {t u v : Tok} {tk : Nat} (I : Inv X pins σ H s) (sm : Same Hf H) (h1 : smallI lo) (h2 : smallI hi) (h3 : smallI st) (h0 : st ≠ 0) :
    wpAny (model X.prog X.w) X.A (pyIter (.ref s.heap.objs.size)) (OkI X cl tg pins σ Hf H (.ok (rangeP lo hi st))) E { s with heap := s.heap.push { cls := .type "range", data := .fields #[.int lo t, .int hi u, .int st v] }, toks := tk } := by
  refine wpAny_pyIter_range (IsRange.new ..) (small_any h1 h2 h3 h0) ?_
  have I1 : Inv X pins σ H { s with heap := s.heap.push { cls := .type "range", data := .fields #[.int lo t, .int hi u, .int st v] }, toks := tk } := I.kept fun b o e => Heap.get?_push_of_some _ e
  refine ⟨_, rngV lo hi st, Hf, rfl, (s.heap.push { cls := .type "range", data := .fields #[.int lo t, .int hi u, .int st v] }).objs.size, [(s.heap.push { cls := .type "range", data := .fields #[.int lo t, .int hi u, .int st v] }).objs.size], _, _, H, rfl,
    I1.kept (t' := tk) fun b o e => Heap.get?_push_of_some _ e, turn_range3 _ lo st (rangeN lo hi st), ?_, fun b hb => ?_, Ext.refl sm, over_range, rps_map _ _ (fun i => .int _) _⟩
  · have e1 : lo + ((0 : Nat) : Int) * st = lo := by simp
    have nn : 0 ≤ Builtin.Range.rangeSize lo hi st := by
      unfold Builtin.Range.rangeSize
      by_cases hp : st > 0
      · rw [if_pos hp]
        by_cases hl : lo < hi
        · rw [if_pos hl]
          have : 0 ≤ (hi - lo - 1) / st := Int.ediv_nonneg (by omega) (by omega)
          omega
        · rw [if_neg hl]; omega
      · rw [if_neg hp]
        by_cases hl : lo > hi
        · rw [if_pos hl]
          have : 0 ≤ (lo - hi - 1) / (-st) := Int.ediv_nonneg (by omega) (by omega)
          omega
        · rw [if_neg hl]; omega
    have e2 : ((rangeN lo hi st : Nat) : Int) - ((0 : Nat) : Int) = Builtin.Range.rangeSize lo hi st := by
      show (((Builtin.Range.rangeSize lo hi st).toNat : Nat) : Int) - _ = _
      omega
    show IsRangeIter _ _ (lo + ((0 : Nat) : Int) * st) (((rangeN lo hi st : Nat) : Int) - ((0 : Nat) : Int)) st
    rw [e1, e2]
    exact Heap.get?_push_size _ rfl
  · have e : b = (s.heap.push { cls := .type "range", data := .fields #[.int lo t, .int hi u, .int st v] }).objs.size := by simpa using hb
    subst e
    exact I1.fpOk (Nat.le_refl _) (I1.hok.fresh (Nat.le_refl _))
theorem small_log {st : Int} (h : smallI st) (h0 : st ≠ 0) : st.natAbs.log2 < 9000 := by
  obtain ⟨h1, h2⟩ := h
  have : st.natAbs < 2 ^ 61 := by omega
  have := (Nat.log2_lt (by omega : st.natAbs ≠ 0)).mpr this
  omega
theorem mi_range {tg : Expr} {e : Expr} {es : List Expr} {g : FA} {p pos : Pos} (hg : Gl X "range") (hm : X.mg "range" = none) (ha : MA X cl (e :: es) g)
    (he : starEach (e :: es) X.env = (false, eval e X.env) :: starEach es X.env := by rfl) (hpl : (backTo pos (starEach es X.env)).any (·.1) = false := by rfl) : MI X cl tg (.Call (.Name "range" p) (e :: es) [] pos) (iRange g) := by
  refine ⟨?_⟩
  intro pins s σ Hf0 H0 Hf H ρ I r hs
  unfold iRange at hs ⊢
  refine Call_ (ld_blt I hg hm boot_range (PyProof.Rows.callWith_type1 (ha.run pos I r (Ext.refl r.sub) hs fun qs vs us s1 Hf1 H1 _ e1 I1 rv x1 rps => ?_) he hpl))
  rw [e1] at hs ⊢
  have fin : ∀ {lo hi st : Int} {t u v : Tok} {tk : Nat} {rr : R (List PV)} {E : Value → Shared → Prop}, smallI lo → smallI hi → smallI st → st ≠ 0 → rr = .ok (rangeP lo hi st) →
      wpAny (model X.prog X.w) X.A (pyIter (.ref s1.heap.objs.size)) (OkI X cl tg pins σ Hf H rr) E { s1 with heap := s1.heap.push { cls := .type "range", data := .fields #[.int lo t, .int hi u, .int st v] }, toks := tk } := fun h1 h2 h3 h0 er => by
    rw [er]
    refine thn (range_it3 (cl := cl) (tg := tg) I1 x1.sub h1 h2 h3 h0) fun itv s2 q => ?_
    obtain ⟨ps, ws, Hf', a1, it, fp, tn, J, H', b1, b2, b3, b4, b5, b6, b7, b8⟩ := q
    exact ⟨ps, ws, Hf', a1, it, fp, tn, J, H', b1, b2, b3, b4, b5, x1.trans b6, b7, b8⟩
  have one : smallI 1 := by decide
  have zero : smallI 0 := by decide
  have ifK : ∀ {c : Prop} [Decidable c] {a : List PV}, (if c then R.ok a else R.stuck) ≠ .stuck → c ∧ (if c then R.ok a else R.stuck) = .ok a := fun {c _ a} h => by
    by_cases hc : c
    · exact ⟨hc, if_pos hc⟩
    · rw [if_neg hc] at h; exact absurd rfl h
  split at hs
  · obtain ⟨hc, er⟩ := ifK hs
    obtain ⟨v, rfl, rp⟩ := rps1' rps
    cases rp
    obtain ⟨u, rfl, t, rfl⟩ := vals1 rv
    exact call_range_1 (fin zero hc one (by decide) er)
  · obtain ⟨hc, er⟩ := ifK hs
    obtain ⟨v, w, rfl, rp, rq⟩ := rps2' rps
    cases rp; cases rq
    obtain ⟨u, w', rfl, ⟨t, rfl⟩, ⟨t', rfl⟩⟩ := vals2 rv
    exact call_range_2 (fin hc.1 hc.2 one (by decide) er)
  · obtain ⟨hc, er⟩ := ifK hs
    cases rps with
    | cons r1 q1 =>
      cases q1 with
      | cons r2 q2 =>
        cases q2 with
        | cons r3 q3 =>
          cases q3
          cases r1; cases r2; cases r3
          cases rv with
          | cons w1 m1 =>
            cases m1 with
            | cons w2 m2 =>
              cases m2 with
              | cons w3 m3 =>
                cases m3
                obtain ⟨t1, rfl⟩ := w1
                obtain ⟨t2, rfl⟩ := w2
                obtain ⟨t3, rfl⟩ := w3
                exact call_range_3 hc.2.2.2 (fin hc.1 hc.2.1 hc.2.2.1 hc.2.2.2 er) (.inl (PyProof.noPylong_of_log2 (small_log hc.2.2.1 hc.2.2.2)))
  · exact absurd rfl hs
structure MGs (X : Cx) (ts : List Expr) (is : List Nat) : Prop where
  run' : ∀ (pins : List (Addr × Obj)) (s : Shared) (σ : SV) (H : Hp) (vs : List V) (us : List Value) (E : Value → Shared → Prop), Inv X pins σ H s → Vals vs us → vs.length = is.length →
    wpAny (model X.prog X.w) X.A (assignInOrder ((assignEach ts X.env).map (·.2)) us) (fun _ s' => Inv X pins ((is.zip vs).foldl (fun σ q => σ.set q.1 (some q.2)) σ) H s') E s
instance {X : Cx} {ts : List Expr} {is : List Nat} : CoeFun (MGs X ts is) fun _ => ∀ (pins : List (Addr × Obj)) (s : Shared) (σ : SV) (H : Hp) (vs : List V) (us : List Value) (E : Value → Shared → Prop), Inv X pins σ H s → Vals vs us → vs.length = is.length →
    wpAny (model X.prog X.w) X.A (assignInOrder ((assignEach ts X.env).map (·.2)) us) (fun _ s' => Inv X pins ((is.zip vs).foldl (fun σ q => σ.set q.1 (some q.2)) σ) H s') E s := ⟨MGs.run'⟩
end
end Mi
set_option Elab.async false
set_option linter.all false
set_option autoImplicit false
set_option maxRecDepth 100000
set_option maxHeartbeats 4000000
namespace Mi
open PySem PySem.Spec PyProof.Rows L2
section
variable {X : Cx} {cl : Nat → Addr}
theorem mv (i : Nat) {x : Str} {pos : Pos} (hN : X.N[i]? = some x := by rfl) (hv : Vis X.env.scope x := by first | exact Or.inl rfl | exact Or.inr (Or.inl rfl) | exact Or.inr (Or.inr rfl)) (hd : (x == ("__debug__" : Str)) = false := by decide)
    (hcd : (x == ("__classdict__" : Str)) = false := by decide) : ME X cl (.Name x pos) (fVar i) := me_var hN hv hd hcd
end
theorem hu64 {A : Around} {k : Nat} (hr : Room k A) : A.units + 64 < cLine := by have := hr.un; omega
section
variable {P : Program} {w : World} {K : PySem.W.Frag} {mg : Str → Option Value} {base : Heap} {cl : Nat → Addr}
/-- a def of the text, by its mirror, wherever it is called from -/
structure FG (P : Program) (w : World) (K : PySem.W.Frag) (mg : Str → Option Value) (base : Heap) (cl : Nat → Addr) (k : Nat) (x : Str) (n : Nat) (F : List PV → R PV) : Prop where
  ex : ∃ (f : Addr) (fd : FuncData) (ps : List Str), mg x = some (.ref f) ∧ PySem.W.keepIn K (.ref f) = true ∧ ps.length = n ∧ FnOk P w K mg base (CXm cl P w) k f fd ps (spF K cl n F) ∧ Binds K fd ps []
theorem FG.fn {N : List Str} {qual : Str} {scope : Scope} {f : Addr} {cd : Value} {A : Around} {outer : List Env} {s : Shared} {H : Hp} {E : XK} {k n : Nat} {x : Str} {F : List PV → R PV} (h : FG P w K mg base cl k x n F) :
    Fn (cxM P w K mg base cl N qual scope f cd A outer s H E) cl k x n F := ⟨h.ex⟩
theorem mc {N : List Str} {qual : Str} {scope : Scope} {f : Addr} {cd : Value} {A : Around} {outer : List Env} {s : Shared} {H : Hp} {E : XK} {k k' n : Nat} {x : Str} {F : List PV → R PV} {e : Expr} {es : List Expr} {g : FA} {p pos : Pos}
    (h : FG P w K mg base cl k x n F) (hr : Room k' (A.deeper (envOfC qual scope s.heap.objs.size f cd))) (inj : ∀ c d, cl c = cl d → c = d) (ha : MA (cxM P w K mg base cl N qual scope f cd A outer s H E) cl (e :: es) g) (hk : k ≤ k' := by decide)
    (hl : (e :: es).length = n := by rfl) (hg : Gl (cxM P w K mg base cl N qual scope f cd A outer s H E) x := by rfl) (hdb : (x == ("__debug__" : Str)) = false := by decide)
    (he : starEach (e :: es) (cxM P w K mg base cl N qual scope f cd A outer s H E).env = (false, eval e (cxM P w K mg base cl N qual scope f cd A outer s H E).env) :: starEach es (cxM P w K mg base cl N qual scope f cd A outer s H E).env := by rfl)
    (hpl : (backTo pos (starEach es (cxM P w K mg base cl N qual scope f cd A outer s H E).env)).any (·.1) = false := by rfl) :
    ME (cxM P w K mg base cl N qual scope f cd A outer s H E) cl (.Call (.Name x p) (e :: es) [] pos) (fCall F g) :=
  me_call h.fn (hr.mono hk) hg rfl inj (fun b z => absurd (show b ∈ ([] : List Addr) from z) (by simp)) ha hl hdb he hpl
/-- a def as the top has laid it -/
structure DefAt (K : PySem.W.Frag) (mg : Str → Option Value) (x : Str) (st : Stmt) (f : Addr) (fd : FuncData) : Prop where
  fn : Fun K x x st f fd
  mg : mg x = some (.ref f)
theorem def_mk {h : Heap} {x : Str} {st : Stmt} {f : Addr} {oc : Value} {od an : Option Addr} {osl : Array (Option Value)} {kV doc pm cdv ct : Value} (X : K.In h) (G : h.Ns mainGlobals mg) (a : PySem.W.nsIn K mainGlobals x = some (some (.ref f)))
    (l : K.lookup f = some ⟨oc, od, .func (PySem.W.fnOf x x (defArgs st) (defBody st) (defScope st) .none kV doc pm an cdv ct), osl⟩) (c : PySem.W.codeIn K cdv x = true) (k : PySem.W.keepIn K (.ref f) = true) :
    ∃ f fd, DefAt K mg x st f fd := ⟨f, _, fun_mk l c k, PySem.W.mg_of X G a⟩
theorem DefAt.fg {x : Str} {st : Stmt} {f : Addr} {fd : FuncData} {N ps : List Str} {k n : Nat} {b : FS} (D : DefAt K mg x st f fd) (S : FnScope N ps (defScope st)) (hn : ps.length = n)
    (hb : ∀ (kV doc pm : Value) (an : Option Addr) (cdv ct : Value) (us : List Value), us.length = ps.length → bindArgs (PySem.W.fnOf x x (defArgs st) (defBody st) (defScope st) .none kV doc pm an cdv ct) ⟨us, []⟩ = pure (ps.zip us))
    (hbody : ∀ (cdv : Value) (A : Around) (outer : List Env) (s : Shared) (H : Hp) (E : XK), Room k (A.deeper (envOfC x (defScope st) s.heap.objs.size f cdv)) →
      MSs (cxM P w K mg base cl N x (defScope st) f cdv A outer s H E) cl (defBody st) b) : FG P w K mg base cl (k + 1) x n (runF N.length b) :=
  ⟨⟨f, fd, ps, D.mg, D.fn.kp, hn, fn_mirror D.fn S hn hbody, D.fn.binds hb⟩⟩
/-- the addresses of the text's error classes -/
def adOf (K : PySem.W.Frag) (x : Str) : Addr := match PySem.W.nsIn K mainGlobals x with
  | some (some (.ref a)) => a
  | _ => 0
def sumOf (K : PySem.W.Frag) : List (Nat × Str) → Nat
  | [] => 0
  | x :: r => adOf K x.2 + sumOf K r
def clOf (K : PySem.W.Frag) (names : List (Nat × Str)) (c : Nat) : Addr := match names.lookup c with
  | some x => adOf K x
  | none => sumOf K names + 1 + c
theorem lookup_mem : ∀ {names : List (Nat × Str)} {c : Nat} {x : Str}, names.lookup c = some x → (c, x) ∈ names
  | [], _, _, h => by cases h
  | (d, y) :: r, c, x, h => by
    rw [List.lookup_cons] at h
    by_cases e : c = d
    · subst e; simp at h; subst h; exact List.mem_cons_self
    · have : (c == d) = false := by simpa using e
      rw [this] at h
      exact List.mem_cons_of_mem _ (lookup_mem h)
theorem mem_lookup : ∀ {names : List (Nat × Str)} {c : Nat} {x : Str}, (names.map (·.1)).Nodup → (c, x) ∈ names → names.lookup c = some x
  | (d, y) :: r, c, x, hn, h => by
    rw [List.map_cons, List.nodup_cons] at hn
    rw [List.lookup_cons]
    rcases List.mem_cons.mp h with e | h2
    · cases e; simp
    · have : (c == d) = false := by
        by_cases e : c = d
        · subst e; exact absurd (List.mem_map.mpr ⟨(c, x), h2, rfl⟩) hn.1
        · simpa using e
      rw [this]
      exact mem_lookup hn.2 h2
theorem sumOf_le {K : PySem.W.Frag} : ∀ {names : List (Nat × Str)} {c : Nat} {x : Str}, (c, x) ∈ names → adOf K x ≤ sumOf K names
  | y :: r, c, x, h => by
    rcases List.mem_cons.mp h with e | h
    · subst e; exact Nat.le_add_right _ _
    · exact Nat.le_trans (sumOf_le h) (Nat.le_add_left _ _)
theorem inj_map {α β : Type} {f : α → β} : ∀ {l : List α}, (l.map f).Nodup → ∀ a ∈ l, ∀ b ∈ l, f a = f b → a = b
  | y :: r, hn, a, ha, b, hb, e => by
    rw [List.map_cons, List.nodup_cons] at hn
    rcases List.mem_cons.mp ha with rfl | ha2
    · rcases List.mem_cons.mp hb with rfl | hb2
      · rfl
      · exact absurd (List.mem_map.mpr ⟨b, hb2, e.symm⟩) hn.1
    · rcases List.mem_cons.mp hb with rfl | hb2
      · exact absurd (List.mem_map.mpr ⟨a, ha2, e⟩) hn.1
      · exact inj_map hn.2 a ha2 b hb2 e
theorem clOf_inj {K : PySem.W.Frag} {names : List (Nat × Str)} (h : (names.map fun p => adOf K p.2).Nodup) : ∀ c d, clOf K names c = clOf K names d → c = d := by
  intro c d e
  unfold clOf at e
  cases ec : names.lookup c with
  | none =>
    rw [ec] at e
    cases ed : names.lookup d with
    | none => rw [ed] at e; have e' : sumOf K names + 1 + c = sumOf K names + 1 + d := e; omega
    | some y => rw [ed] at e; have e' : sumOf K names + 1 + c = adOf K y := e; have : adOf K y ≤ sumOf K names := sumOf_le (K := K) (lookup_mem ed); rw [← e'] at this; exact absurd (Nat.le_trans (Nat.le_add_right _ _) this) (Nat.not_succ_le_self _)
  | some x =>
    rw [ec] at e
    cases ed : names.lookup d with
    | none => rw [ed] at e; have e' : sumOf K names + 1 + d = adOf K x := e.symm; have : adOf K x ≤ sumOf K names := sumOf_le (K := K) (lookup_mem ec); rw [← e'] at this; exact absurd (Nat.le_trans (Nat.le_add_right _ _) this) (Nat.not_succ_le_self _)
    | some y =>
      rw [ed] at e
      have := inj_map h (c, x) (lookup_mem ec) (d, y) (lookup_mem ed) e
      cases this; rfl
/-- how great the script's numbers may be -/
theorem weight_le : ∀ {ns : List Int} {x : Int}, x ∈ ns → nb x ≤ PySem.W.WData.weightAll (ns.map PySem.W.WData.int)
  | y :: r, x, h => by
    have e : PySem.W.WData.weightAll ((y :: r).map PySem.W.WData.int) = nb y + 1 + PySem.W.WData.weightAll (r.map PySem.W.WData.int) := by
      rw [List.map_cons]
      simp only [PySem.W.WData.weightAll, PySem.W.WData.weight, Builtin.Int.intBits]
    rw [e]
    rcases List.mem_cons.mp h with rfl | h
    · omega
    · have := weight_le h; omega
theorem bits_of_lay {ns : List Int} (h : PySem.W.WData.layableAll [PySem.W.WData.list (ns.map PySem.W.WData.int)] = true) : ∀ x ∈ ns, nb x ≤ 1048576 := by
  intro x hx
  have h1 : PySem.W.WData.layable (PySem.W.WData.list (ns.map PySem.W.WData.int)) = true := by
    simpa [PySem.W.WData.layableAll] using h
  have h2 : PySem.W.WData.weight (PySem.W.WData.list (ns.map PySem.W.WData.int)) ≤ 2 ^ 20 := of_decide_eq_true (Bool.and_eq_true_iff.mp h1).2
  have e : PySem.W.WData.weight (PySem.W.WData.list (ns.map PySem.W.WData.int)) = PySem.W.WData.weightAll (ns.map PySem.W.WData.int) := by simp only [PySem.W.WData.weight]
  rw [e] at h2
  have := weight_le hx
  omega
/-- the law itself -/
theorem law_of {l : PySem.W.OpenLaw} {k : Nat} {q : Program} {loose : List Str} {XP : (Str → Option Value) → Heap → Prop} {YP : World → Heap → Prop} {d : DefRec} {K : Params → PySem.W.Frag} {x : Str} {F : List PV → R PV} {names : List (Nat × Str)}
    (hn : l.most = some 63) (hdf : d.params.defaults = []) (hr : Room k callerA)
    (hY : ∀ (w : World) (h : Heap), YP w h → (K w.params).In h)
    (hF : ∀ (w : World) (mg : Str → Option Value) (fa : Addr) (h : Heap), (K w.params).In h → h.Ns mainGlobals mg → mg d.name = some (.ref fa) →
      ∃ fd : FuncData, (∀ (s : Shared) (u : Value), BindsTo s fd ⟨[u], []⟩ [(x, u)]) ∧
        ∀ base : Heap, (K w.params).In base → base.Ns mainGlobals mg → FnOk l.prog w (K w.params) mg base (CXm (clOf (K w.params) names) l.prog w) k fa fd [x] (spF (K w.params) (clOf (K w.params) names) 1 F))
    (hlaw : ∀ ns : List Int, ns.length ≤ 63 → (∀ x ∈ ns, nb x ≤ 1048576) → F [.lst (ns.map PV.int)] = .ok (.bl true)) :
    PySem.W.WalkO q loose XP YP l.row.toRowW d [] (fun f vs => PySem.call f vs) := by
  intro w s₀ s₁ mg mb G Y fa o pm cd doc dV kV ho hd hcd hD hmg hg args vals as hpre hlay hrd hwl hlo
  obtain rfl : dV = .none := PySem.W.Dflts.none hD hdf
  obtain rfl : kV = .none := PySem.W.Dflts.noKw hD
  obtain ⟨a, vs, ns, rfl, rfl, hobj, hints, hlen⟩ := Att.script_of hn hpre hwl
  have KX := hY w _ Y
  obtain ⟨fd, hb, hF'⟩ := hF w mg fa _ KX G.T.g hmg
  have e := hlaw ns hlen (bits_of_lay hlay)
  refine PySem.W.enter_call (codeAny_mono (law_call KX G.T.g G.T.b G.T.builtins G.T.nolimit hg hobj hints (Nat.le_trans hlen (by decide)) hr hF' hb (fun H hO hS => ?_) fun H e s' h => ?_) fun r s' hq => ?_)
  · refine ⟨rfl, H, [.lst (ns.map PV.int)], Same.refl _, .cons (.lst hS (Rps.ints ns)) .nil, (by rw [e]; intro z; cases z), fun p v Hf' H' h _ rp => ?_, fun c Hf' H' h _ => ?_⟩
    · rw [e] at h; cases h; cases rp; rfl
    · rw [e] at h; cases h
  · obtain ⟨a, c, H', B, a0, _, _, _, _, _, _, _, _, z⟩ := h
    exact z
  · obtain ⟨rfl, h2, h3, h4⟩ := hq
    exact ⟨.inl ⟨.bool true, .bool true, [], rfl, fun _ => rfl, .bool true, Att.post_true l _, fun _ => ⟨List.Pairwise.nil, fun _ hm => (nomatch hm)⟩⟩, h2, h3, h4⟩
end
end Mi
set_option Elab.async false
set_option linter.all false
set_option autoImplicit false
set_option maxRecDepth 100000
set_option maxHeartbeats 4000000
namespace Mi
open PySem PySem.Spec PyProof.Rows L2
abbrev bmV : List Value := [.type "ValueError", .type "Exception", .type "BaseException", .type "object"]
def attrOk (K : PySem.W.Frag) (D : Addr) : Bool := (PySem.W.findIn K (.ref D) "__getattribute__" == some (some (.builtin "BaseException.__getattribute__"))) && (PySem.W.findIn K (.ref D) "__getattr__" == some none) && (PySem.W.subIn K (.ref D) (.type "BaseException") == some true) && (PySem.W.clsIn K D).isSome && (PySem.W.findIn K (.ref D) "__class__" == some (some (.builtin "object.__class__"))) &&
  (PySem.W.specialIn K (.builtin "object.__class__") "__get__" == some (some (.builtin "getset_descriptor.__get__"))) && (PySem.W.takesIn K (.builtin "object.__class__") == some true) && (PySem.W.mroIn K D (.type "object") == some true)
structure ClF (K : PySem.W.Frag) (mg : Str → Option Value) (cl : Nat → Addr) (c : Nat) (x : Str) : Prop where
  mg : mg x = some (.ref (cl c))
  ex : PySem.W.excIn K (cl c) bmV "ValueError.__new__" = true
  at_ : attrOk K (cl c) = true
theorem excObj_of {K : PySem.W.Frag} {h : Heap} {C : Addr} {bmB : List Value} {newId : String} (X : K.In h) (q : PySem.W.excIn K C bmB newId = true) :
    ∃ bm N nm q bs hdct sn sub ab col dd k0 k1 k2 k3 k5 mN, h.get? C = some (excClassObj nm q C N bs bm hdct sn sub ab col dd k0 k1 k2 k3 k5 newId) ∧ h.Ns N mN ∧ mN "__init__" = none ∧ OwnTail h bmB bm := by
  unfold PySem.W.excIn at q
  split at q
  · rename_i dd cd sl ho
    split at q
    · rename_i C' bm k0 k1 k2 k3 n k5 hm hs
      simp only [Bool.and_eq_true, beq_iff_eq, Bool.not_eq_true'] at q
      obtain ⟨⟨⟨⟨⟨rfl, rfl⟩, hdel⟩, ht⟩, hok⟩, hni⟩ := q
      obtain ⟨nm, bs, mro, ns, qn, hd, sn, sub, ab, col, del⟩ := cd
      dsimp only at hm hdel hok hni
      subst hm hdel
      have es : sl = #[k0, k1, k2, k3, some (.builtin n), k5] := by
        cases sl with | mk l => simp only at hs; rw [hs]
      subst es
      exact ⟨bm, ns, nm, qn, bs, hd, sn, sub, ab, col, dd, k0, k1, k2, k3, k5, _, X _ _ ho, .of_isNs (PySem.W.isNs_of_in X hok), PySem.W.nsMap_none_of_in X hok hni, PySem.W.tail_of_in X ht⟩
    · cases q
  · cases q
theorem isSmallI_ok {r : R PV} (h : isSmallI r = true) : ∃ i : Int, r = .ok (.int i) ∧ i.natAbs < 18446744073709551616 := by
  cases r with
  | ok p => cases p <;> first | (cases h; done) | (rename_i i; exact ⟨i, rfl, of_decide_eq_true h⟩)
  | exc c => cases h
  | stuck => cases h
theorem digits_le (a : Int) (h : a.natAbs < 18446744073709551616) : (Str.ofString (toString a)).length ≤ 21 := by
  have h1 : a.natAbs < 10 ^ 20 := Nat.lt_trans h (by decide)
  have := int_text_length_le10 (k := 20) (by decide) h1
  rw [PySem.ofString_length]; omega
section
variable {X : Cx} {cl : Nat → Addr} {pins : List (Addr × Obj)} {s : Shared} {σ : SV} {Hf0 H0 Hf H Hf1 H1 : Hp} {ρ : MEnv} {α : Type}
/-- e comes to a text of at most n signs, where c holds -/
structure MV (X : Cx) (cl : Nat → Addr) (e : Expr) (n : Nat) (c : MEnv → Bool) : Prop where
  run' : ∀ (pins : List (Addr × Obj)) (s : Shared) (σ : SV) (Hf0 H0 Hf H : Hp) (ρ : MEnv) (E : Value → Shared → Prop), Inv X pins σ H s → Rep X.K cl Hf0 H0 Hf H σ ρ → c ρ = true →
    wpAny (model X.prog X.w) X.A (eval e X.env) (fun u s' => ∃ x t Hf' H', u = .str x t ∧ x.length ≤ n ∧ Inv X pins σ H' s' ∧ Ext Hf H Hf' H') E s
instance {X : Cx} {cl : Nat → Addr} {e : Expr} {n : Nat} {c : MEnv → Bool} : CoeFun (MV X cl e n c) fun _ => ∀ (pins : List (Addr × Obj)) (s : Shared) (σ : SV) (Hf0 H0 Hf H : Hp) (ρ : MEnv) (E : Value → Shared → Prop), Inv X pins σ H s → Rep X.K cl Hf0 H0 Hf H σ ρ → c ρ = true →
    wpAny (model X.prog X.w) X.A (eval e X.env) (fun u s' => ∃ x t Hf' H', u = .str x t ∧ x.length ≤ n ∧ Inv X pins σ H' s' ∧ Ext Hf H Hf' H') E s := ⟨MV.run'⟩
theorem mv_str {x : Str} {j : Nat} {pos : Pos} (n : Nat) (h : x.length ≤ n := by decide +kernel) : MV X cl (.Constant (.str x) j pos) n (fun _ => true) := ⟨fun pins s σ Hf0 H0 Hf H ρ E I r _ =>
  Calls.Constant_str ⟨x, _, Hf, H, rfl, h, I.tok _, Ext.refl r.sub⟩⟩
theorem mv_fmt {e : Expr} {f : FE} {pos : Pos} (he : ME X cl e f) : MV X cl (.FormattedValue e (-1) none pos) 21 (fun ρ => isSmallI (f ρ)) := by
  refine ⟨?_⟩
  intro pins s σ Hf0 H0 Hf H ρ E I r hc
  obtain ⟨i, ei, hi⟩ := isSmallI_ok hc
  refine FormattedValue_plain (wpAny_mono (he pins s σ Hf0 H0 Hf H ρ I r (by rw [ei]; intro z; cases z)) (fun u s1 q => ?_) fun u s1 q => ?_)
  · obtain ⟨p, v, Hf1, H1, e1, I1, rv, x1, rp⟩ := q
    rw [ei] at e1; cases e1
    cases rp
    obtain ⟨t, rfl⟩ := rv
    have hl : i.natAbs.log2 < 1920 := by
      by_cases h0 : i.natAbs = 0
      · rw [h0]; decide
      · have := (Nat.log2_lt h0).mpr (show i.natAbs < 2 ^ 64 from hi)
        omega
    exact formatField_int_small hl ⟨_, _, Hf1, H1, rfl, digits_le i hi, I1.tok _, x1⟩
  · obtain ⟨c, e1, _⟩ := q
    rw [ei] at e1; cases e1
structure MVs (X : Cx) (cl : Nat → Addr) (es : List Expr) (n : Nat) (c : MEnv → Bool) : Prop where
  run' : ∀ (pins : List (Addr × Obj)) (s : Shared) (σ : SV) (Hf0 H0 Hf H : Hp) (ρ : MEnv) (E : Value → Shared → Prop) (acc : Str) (Q : Str → Shared → Prop), Inv X pins σ H s → Rep X.K cl Hf0 H0 Hf H σ ρ → c ρ = true → acc.length + n ≤ sizeLine →
    (∀ out s' Hf' H', out.length ≤ acc.length + n → Inv X pins σ H' s' → Ext Hf H Hf' H' → Q out s') → Joins (model X.prog X.w) X.A E (evalEach es X.env) acc Q s
instance {X : Cx} {cl : Nat → Addr} {es : List Expr} {n : Nat} {c : MEnv → Bool} : CoeFun (MVs X cl es n c) fun _ => ∀ (pins : List (Addr × Obj)) (s : Shared) (σ : SV) (Hf0 H0 Hf H : Hp) (ρ : MEnv) (E : Value → Shared → Prop) (acc : Str) (Q : Str → Shared → Prop), Inv X pins σ H s → Rep X.K cl Hf0 H0 Hf H σ ρ → c ρ = true → acc.length + n ≤ sizeLine →
    (∀ out s' Hf' H', out.length ≤ acc.length + n → Inv X pins σ H' s' → Ext Hf H Hf' H' → Q out s') → Joins (model X.prog X.w) X.A E (evalEach es X.env) acc Q s := ⟨MVs.run'⟩
theorem mvs_nil : MVs X cl [] 0 (fun _ => true) := ⟨fun pins s σ Hf0 H0 Hf H ρ E acc Q I r _ _ k => k acc s Hf H (Nat.le_refl _) I (Ext.refl r.sub)⟩
theorem mvs_cons {e : Expr} {es : List Expr} {n m : Nat} {c d : MEnv → Bool} (h : MV X cl e n c) (ht : MVs X cl es m d) (he : evalEach (e :: es) X.env = eval e X.env :: evalEach es X.env := by rfl) : MVs X cl (e :: es) (n + m) (fun ρ => c ρ && d ρ) := by
  refine ⟨?_⟩
  intro pins s σ Hf0 H0 Hf H ρ E acc Q I r hc hz k
  rw [Bool.and_eq_true] at hc
  rw [he]
  refine wpAny_mono (h pins s σ Hf0 H0 Hf H ρ E I r hc.1) (fun u s1 q => ?_) fun _ _ z => z
  obtain ⟨x, t, Hf1, H1, rfl, hl, I1, x1⟩ := q
  have e1 : (acc ++ x).length = acc.length + x.length := strLen_append ..
  refine ⟨x, t, rfl, by rw [e1]; omega, ht pins s1 σ Hf0 H0 Hf1 H1 ρ E (acc ++ x) Q I1 (r.keep x1) hc.2 (by rw [e1]; omega) fun out s' Hf' H' hl' I' x' => k out s' Hf' H' (by rw [e1] at hl'; omega) I' (x1.trans x')⟩
theorem mv_join {a b : Expr} {es : List Expr} {n : Nat} {c : MEnv → Bool} {pos : Pos} (h : MVs X cl (a :: b :: es) n c) (hn : n ≤ 1000 := by decide) : MV X cl (.JoinedStr (a :: b :: es) pos) n c := by
  refine ⟨?_⟩
  intro pins s σ Hf0 H0 Hf H ρ E I r hc
  have h0 : (Str.empty).length = 0 := rfl
  have hs : n ≤ sizeLine := Nat.le_trans hn (by decide)
  refine wpAny_JoinedStr (h pins s σ Hf0 H0 Hf H ρ E _ _ I r hc (by rw [h0]; omega) fun out s' Hf' H' hl I' x' => ?_)
  rw [h0] at hl
  exact ⟨by omega, out, _, Hf', H', rfl, by omega, I'.tok _, x'⟩
theorem stands_of (W : Own X) (I : Inv X pins σ H s) {h' : Heap} (k : ∀ b o, s.heap.get? b = some o → h'.get? b = some o) : Cov X pins H (PySem.W.hideAll s.heap (frs X.stack)) h' := by
  intro b o e hs hn
  obtain ⟨o', q⟩ := stands_there W I hs
  have := k b o' q
  rw [e] at this; cases this
  exact PySem.W.hideAll_get _ q hn
theorem xst_made (W : Own X) (I : Inv X pins σ H s) {h' : Heap} {e C : Addr} {vs : List Value} (hm : Heap.MadeExcOf s.heap h' e (.ref C) vs) : XSt X pins H e C h' := by
  obtain ⟨t, he, _, _⟩ := hm.there
  refine ⟨PySem.W.hideAll s.heap (frs X.stack), .ref t, stands_of W I hm.keeps, ⟨_, he, rfl⟩, .inl ⟨fun b o q => hm.keeps b o (PySem.W.of_hideAll _ q), ?_, ?_, _, _, he, rfl, rfl, rfl, rfl, rfl⟩⟩
  · cases q : (PySem.W.hideAll s.heap (frs X.stack)).get? e with
    | none => rfl
    | some o => have := PySem.W.of_hideAll _ q; rw [hm.new] at this; cases this
  · refine Heap.FunFrames.of_keeps (fun b o q _ => ⟨o, hm.keeps b o q, rfl⟩) (PySem.W.funFrames_hide I.stack fun env he a ha => ?_)
    exact List.mem_filterMap.mpr ⟨env, he, ha⟩
theorem ms_raise {x : Str} {c : Nat} {e : Expr} {n : Nat} {k : MEnv → Bool} {np cpos pos : Pos} (hc : ClF X.K X.mg cl c x) (W : Own X) (hg : Gl X x) (hh : X.A.handled = none) (he : MV X cl e n k)
    (hst : starEach [e] X.env = [(false, eval e X.env)] := by rfl) (hdb : (x == ("__debug__" : Str)) = false := by decide) :
    MS X cl (.Raise (some (.Call (.Name x np) [e] [] cpos)) none pos) (sRaiseT k c) := by
  refine ⟨?_⟩
  intro pins s σ Hf0 H0 Hf H ρ I r hs
  have hk : k ρ = true := by
    cases q : k ρ with
    | true => rfl
    | false => exact absurd (by unfold sRaiseT; rw [q]; rfl) hs
  have e0 : sRaiseT k c ρ = .exc c ρ := by unfold sRaiseT; rw [hk]; rfl
  rw [e0]
  obtain ⟨bm, N, nm, q, bs, hdct, sn, sub, ab, col, dd, k0, k1, k2, k3, k5, mN, hC, hN, hni, T⟩ := excObj_of I.ok.mod.kin hc.ex
  refine wpAny_Raise_call_subT (C := cl c) (nm := nm) (q := q) (N := N) (bs := bs) (bm := bm) (hdct := hdct) (sn := sn) (sub := sub) (ab := ab) (col := col) (dd := dd) (k0 := k0) (k1 := k1) (k2 := k2) (k3 := k3) (k5 := k5)
    PySem.F.excBase_ValueError (mN := mN) (T.hasType PySem.F.excBase_ValueError.hasBase) hh (by rw [hst]; rfl) hni (ld_glob I hg hc.mg ⟨rfl, ?_⟩ hdb)
  rw [hst]
  refine Calls.evalArgs_plain ?_
  show wpAny _ _ (spliced ((false, eval e X.env) :: backTo cpos [])) _ _ s
  refine Calls.spliced_cons (wpAny_mono (he pins s σ Hf0 H0 Hf H ρ _ I r hk) (fun u s1 q1 => Calls.spliced_nil ?_) fun _ _ z => z)
  obtain ⟨y, t, Hf1, H1, rfl, hl, I1, x1⟩ := q1
  refine ⟨rfl, by show 1 ≤ sizeLine; decide, I1.bk _ _ hC, hN.keeps I1.bk, T.keeps I1.bk, fun h' ee hm => ?_⟩
  exact ⟨c, ρ, σ, Hf1, H1, ee, rfl, rfl, I1.kept (t' := s1.toks) hm.keeps, r.keep x1, x1.frz, xst_made W I1 hm⟩
end
end Mi
set_option Elab.async false
set_option linter.all false
set_option autoImplicit false
set_option maxRecDepth 100000
set_option maxHeartbeats 4000000
namespace Mi
open PySem PySem.Spec PyProof.Rows L2
structure Cls (K : PySem.W.Frag) (mg : Str → Option Value) (cl : Nat → Addr) (names : List (Nat × Str)) : Prop where
  cls : ∀ c x, (c, x) ∈ names → ClF K mg cl c x
  kit : ∀ c x d y, (c, x) ∈ names → (d, y) ∈ names → PySem.W.kitOne K (.ref (cl c)) (.ref (cl d)) = some (under c d)
  exm : ∀ c x d y, (c, x) ∈ names → (d, y) ∈ names → PySem.W.exmOne K (.ref (cl c)) (.ref (cl d)) = some (under c d)
  non : ∀ d y, (d, y) ∈ names → PySem.W.kitOne K (.type "NoneType") (.ref (cl d)) = some false
  val : ∀ c x, (c, x) ∈ names → PySem.W.kitOne K (.ref (cl c)) (.type "ValueError") = some true
theorem mem_ks {names : List (Nat × Str)} {c : Nat} (h : (names.map (·.1)).contains c = true) : ∃ x, (c, x) ∈ names := by
  rw [List.contains_iff_mem, List.mem_map] at h
  obtain ⟨⟨a, b⟩, h1, h2⟩ := h
  cases h2
  exact ⟨b, h1⟩
section
variable {prog : Program} {w : World} {A : Around} {E : Value → Shared → Prop} {s : Shared} {K : PySem.W.Frag} {x D : Addr} {ox : Obj}
/-- __class__ of an error -/
theorem exc_class {Q : Option Value → Shared → Prop} (X : K.In s.heap) (I : PySem.W.InstAt s.heap x ox D none) (hga : PySem.W.findIn K (.ref D) "__getattribute__" = some (some (.builtin "BaseException.__getattribute__")))
    (hgt : PySem.W.findIn K (.ref D) "__getattr__" = some none) (hsb : PySem.W.subIn K (.ref D) (.type "BaseException") = some true)
    (hf : PySem.W.findObj K D none "__class__" = some (.bind (.builtin "getset_descriptor.__get__") (.builtin "object.__class__"))) (hm : PySem.W.mroIn K D (.type "object") = some true)
    (h : Q (some (.ref D)) { s with toks := s.toks + 1 }) : wpAny (model prog w) A (getAttr? (.ref x) "__class__") Q E s := by
  obtain ⟨hh, g, d, t, os⟩ := s
  have L0 := I.type (M := model prog w)
  have L1 := PySem.W.looks_findIn (M := model prog w) X hga
  have L2 := PySem.W.looks_findIn (M := model prog w) X hgt
  have L3 := PySem.W.looks_subIn (M := model prog w) X hsb
  have L4 := PySem.W.looks_find (M := model prog w) X I hf
  have slot := PySem.F.attr_ValueError.ga
  unfold getAttr? getAttrBy? getAttrBy
  refine wpAny_bind (wpAny_mkText (wpAny_bind (wpAny_attempt (wpAny_holding (wpAny_bind (L0.at (wpAny_bind (L1.at ?_))))))))
  have hx1 : (onTheHeap (Value.ref D) && Value.builtin "BaseException.__getattribute__" == Value.builtin "object.__getattribute__") = false := by
    have : (Value.builtin "BaseException.__getattribute__" == Value.builtin "object.__getattribute__") = false := by decide +kernel
    rw [this]; rfl
  show wpAny _ _ (if (onTheHeap (Value.ref D) && Value.builtin "BaseException.__getattribute__" == Value.builtin "object.__getattribute__") = true then _ else getAttrByItsOwn _ _ _ _ _ _) _ _ _
  rw [hx1, if_neg Bool.false_ne_true]
  unfold getAttrByItsOwn
  refine wpAny_bind ?_
  show wpAny _ _ (typeLookup (.ref D) "__getattr__") _ _ _
  refine L2.at ?_
  refine wpAny_bind (wpAny_attempt (wpAny_holding ?_))
  show wpAny _ _ (boundAndCalled _ _ _) _ _ _
  unfold boundAndCalled
  rw [slot.bind]
  refine wpAny_bind (wpAny_pure ?_)
  show wpAny _ _ (call (.builtin "BaseException.__getattribute__") [.ref x, .str "__class__" t]) _ _ _
  refine wpAny_call (codeAny_call_builtin slot.plain PySem.F.entry_bexc_ga ?_)
  have hk : builtinKind "BaseException.__getattribute__" = some .slot := by decide +kernel
  have hsplit : splitId "BaseException.__getattribute__" = some ("BaseException", "__getattribute__") := by decide +kernel
  have hai := PySem.F.args_bexc_ga (.ref x) (.str "__class__" t)
  simp only [checkBuiltinCall, hk, hsplit]
  unfold isInstance
  refine wpAny_bind ?_
  refine wpAny_bind (L0.at ?_)
  refine L3.at ?_
  simp only [Bool.not_true, Bool.false_eq_true, if_false]
  unfold argsOk at hai
  first
    | rw [hai]
    | skip
  refine wpAny_pure ?_
  refine wpAny_bind (wpAny_pure (wpAny_bind (wpAny_pure (wpAny_bind (L0.at (wpAny_bind (L4.at ?_)))))))
  show wpAny _ _ (holding _ (call (.builtin "getset_descriptor.__get__") [.builtin "object.__class__", .ref x, .ref D]) >>= _) _ _ _
  refine wpAny_bind (wpAny_holding (wpAny_call (PySem.W.class_get (ox := ox) (od := none) X I hm ?_)))
  exact wpAny_pure (PySem.W.handed_on rfl (wpAny_pure h))
end
section
variable {K : PySem.W.Frag} {D x : Addr}
theorem kitx_exc (hD : attrOk K D = true) : PySem.W.KitX K (.ref x) (.ref D) (fun h => ∃ ox, PySem.W.InstAt h x ox D none) := by
  unfold attrOk at hD
  simp only [Bool.and_eq_true, beq_iff_eq] at hD
  obtain ⟨⟨⟨⟨⟨⟨⟨hga, hgt⟩, hsb⟩, hc⟩, ha⟩, hn⟩, htk⟩, hm⟩ := hD
  obtain ⟨cd, hcd⟩ := Option.isSome_iff_exists.mp hc
  have obj : ∃ c' d' sl', K.lookup D = some ⟨c', d', .cls cd, sl'⟩ := by
    unfold PySem.W.clsIn at hcd
    split at hcd
    · rename_i c' d' cd' sl' ho
      cases hcd
      exact ⟨c', d', sl', ho⟩
    · cases hcd
  obtain ⟨c', d', sl', ho⟩ := obj
  have hf : PySem.W.findObj K D none "__class__" = some (.bind (.builtin "getset_descriptor.__get__") (.builtin "object.__class__")) := by
    unfold PySem.W.findObj
    rw [hcd, Option.bind_some, ha, Option.bind_some]
    simp [hn, htk]
  refine ⟨fun M h _ ⟨ox, I⟩ => I.type, fun M h X _ A Q E s k q => ?_, fun h tp dd its n sl X htp => ?_, fun {prog w A E Q s} X ⟨ox, I⟩ k => ?_⟩
  · unfold isType loadHead
    exact wpAny_bind (wpAny_loadPart (k _ _ (X _ _ ho)) (wpAny_pure q))
  · refine Bool.eq_false_iff.mpr fun q => ?_
    have e : D = tp := Value.ref.inj (beq_iff_eq.mp q)
    subst e
    have z := (X _ _ ho).symm.trans htp
    cases z
  · exact exc_class X I hga hgt hsb hf hm k
end
section
variable {X : Cx} {cl : Nat → Addr} {pins : List (Addr × Obj)} {s : Shared} {σ : SV} {Hf0 H0 Hf H Hf1 H1 : Hp} {ρ : MEnv} {α : Type}
theorem inst_of (I : Inv X pins σ H s) (sm : Same Hf H) {a : Addr} {c : Nat} (h : Hf a = some (ExcO a (cl c))) : ∃ ox, PySem.W.InstAt s.heap a ox (cl c) none := by
  obtain ⟨⟨o, vs, h1, h2, h3, h4⟩, _, _⟩ := I.hok a _ (sm _ _ h)
  refine ⟨o, h1, h2, ?_, ?_⟩
  · unfold PySem.W.notCls; rw [h4]
  · rw [h3]; trivial
theorem isexc_run {p : PV} {v : V} {u cv : Value} {b : Bool} {E : Value → Shared → Prop} (I : Inv X pins σ H s) (sm : Same Hf H) (rv : RelV v u) (rp : Rp X.K cl Hf v p)
    (hb : (∃ c, p = .exc c ∧ attrOk X.K (cl c) = true ∧ PySem.W.kitOne X.K (.ref (cl c)) cv = some b) ∨ (p = .non ∧ PySem.W.kitOne X.K (.type "NoneType") cv = some b)) :
    wpAny (model X.prog X.w) X.A (call (.builtin "isinstance") [u, cv]) (OkP X cl pins σ Hf H (.ok (.bl b))) E s := by
  have fin : ∀ tk, OkP X cl pins σ Hf H (.ok (.bl b)) (.bool b) { s with toks := tk } := fun tk => ⟨.bl b, .bl b, Hf, H, rfl, I.tok _, rfl, Ext.refl sm, .bl b⟩
  rcases hb with ⟨c, rfl, ha, hk⟩ | ⟨rfl, hk⟩
  · cases rp with
    | exc hq =>
      cases rv
      exact PySem.W.kia_one (kitx_exc ha) I.kIn (inst_of I sm hq) hk (fun z => nomatch z) fin
  · cases rp
    cases rv
    exact PySem.W.kia_one PySem.W.kitx_none I.kIn True.intro hk (fun z => nomatch z) fin
theorem me_isexc {e : Expr} {f : FE} {names : List (Nat × Str)} (C : Cls X.K X.mg cl names) {d : Nat} {y : Str} {p p2 pos : Pos} (hy : (d, y) ∈ names) (he : ME X cl e f) (hg : Gl X "isinstance") (hm : X.mg "isinstance" = none) (hg2 : Gl X y)
    (hdb : (y == ("__debug__" : Str)) = false := by decide)
    (hst : starEach [e, .Name y p2] X.env = [(false, eval e X.env), (false, eval (.Name y p2) X.env)] := by rfl) (hst2 : starEach [.Name y p2] X.env = [(false, eval (.Name y p2) X.env)] := by rfl) :
    ME X cl (.Call (.Name "isinstance" p) [e, .Name y p2] [] pos) (fIsExc (names.map (·.1)) d f) := by
  refine ⟨?_⟩
  intro pins s σ Hf0 H0 Hf H ρ I r hs
  unfold fIsExc at hs ⊢
  refine wpAny_Call_Name_kw (ld_blt I hg hm boot_isinstance ?_)
  refine PyProof.Rows.callWith_builtin1 ?_ (by rw [hst, hst2]) (by rw [hst2]; rfl)
  rw [hst]
  show wpAny _ _ (spliced ((false, eval e X.env) :: backTo pos [(false, eval (.Name y p2) X.env)])) _ _ s
  refine Calls.spliced_cons (he.run I r (Ext.refl r.sub) hs fun q v u s1 Hf1 H1 e1 I1 rv x1 rp => ?_)
  rw [e1] at hs ⊢
  show wpAny _ _ (spliced ((false, eval (.Name y p2) X.env) :: [])) _ _ s1
  refine Calls.spliced_cons (ld_glob I1 hg2 (C.cls d y hy).mg (Calls.spliced_nil ?_) hdb)
  cases q <;> first
    | exact absurd rfl hs
    | skip
  · exact thn (isexc_run I1 x1.sub rv rp (.inr ⟨rfl, C.non d y hy⟩)) fun _ _ q => q.from (e0 := x1)
  · rename_i c
    have hs' : (if (names.map (·.1)).contains c = true then R.ok (PV.bl (under c d)) else R.stuck) ≠ .stuck := hs
    obtain ⟨hc, e2⟩ := ifOk hs'
    obtain ⟨x, hx⟩ := mem_ks hc
    show wpAny _ _ _ (OkP X cl pins σ Hf H (if (names.map (·.1)).contains c = true then R.ok (PV.bl (under c d)) else R.stuck)) _ s1
    rw [e2]
    exact thn (isexc_run I1 x1.sub rv rp (.inl ⟨c, rfl, (C.cls c x hx).at_, C.kit c x d y hx hy⟩)) fun _ _ q => q.from (e0 := x1)
theorem kit_non_val : PySem.W.kitOne X.K (.type "NoneType") (.type "ValueError") = some false := by rfl
theorem me_isval {e : Expr} {f : FE} {names : List (Nat × Str)} (C : Cls X.K X.mg cl names) {p p2 pos : Pos} (he : ME X cl e f) (hg : Gl X "isinstance") (hm : X.mg "isinstance" = none) (hg2 : Gl X "ValueError") (hm2 : X.mg "ValueError" = none)
    (hst : starEach [e, .Name "ValueError" p2] X.env = [(false, eval e X.env), (false, eval (.Name "ValueError" p2) X.env)] := by rfl) (hst2 : starEach [.Name "ValueError" p2] X.env = [(false, eval (.Name "ValueError" p2) X.env)] := by rfl) :
    ME X cl (.Call (.Name "isinstance" p) [e, .Name "ValueError" p2] [] pos) (fIsVal (names.map (·.1)) f) := by
  refine ⟨?_⟩
  intro pins s σ Hf0 H0 Hf H ρ I r hs
  unfold fIsVal at hs ⊢
  refine wpAny_Call_Name_kw (ld_blt I hg hm boot_isinstance ?_)
  refine PyProof.Rows.callWith_builtin1 ?_ (by rw [hst, hst2]) (by rw [hst2]; rfl)
  rw [hst]
  show wpAny _ _ (spliced ((false, eval e X.env) :: backTo pos [(false, eval (.Name "ValueError" p2) X.env)])) _ _ s
  refine Calls.spliced_cons (he.run I r (Ext.refl r.sub) hs fun q v u s1 Hf1 H1 e1 I1 rv x1 rp => ?_)
  rw [e1] at hs ⊢
  show wpAny _ _ (spliced ((false, eval (.Name "ValueError" p2) X.env) :: [])) _ _ s1
  refine Calls.spliced_cons (ld_blt I1 hg2 hm2 PyProof.Rows.Boot.«ValueError» (Calls.spliced_nil ?_))
  cases q <;> first
    | exact absurd rfl hs
    | skip
  · exact thn (isexc_run I1 x1.sub rv rp (.inr ⟨rfl, kit_non_val⟩)) fun _ _ q => q.from (e0 := x1)
  · rename_i c
    have hs' : (if (names.map (·.1)).contains c = true then R.ok (PV.bl true) else R.stuck) ≠ .stuck := hs
    obtain ⟨hc, e2⟩ := ifOk hs'
    obtain ⟨x, hx⟩ := mem_ks hc
    show wpAny _ _ _ (OkP X cl pins σ Hf H (if (names.map (·.1)).contains c = true then R.ok (PV.bl true) else R.stuck)) _ s1
    rw [e2]
    exact thn (isexc_run I1 x1.sub rv rp (.inl ⟨c, rfl, (C.cls c x hx).at_, C.val c x hx⟩)) fun _ _ q => q.from (e0 := x1)
end
end Mi
set_option Elab.async false
set_option linter.all false
set_option autoImplicit false
set_option maxRecDepth 100000
set_option maxHeartbeats 4000000
namespace Mi
open PySem PySem.Spec PyProof.Rows L2
section
variable {X : Cx} {cl : Nat → Addr} {pins : List (Addr × Obj)} {s : Shared} {σ : SV} {Hf0 H0 Hf H Hf1 H1 : Hp} {ρ : MEnv} {α : Type}
/-- a name's value, wherever the frame stands -/
theorem var_any {M : Model} {A : Around} {E : Value → Shared → Prop} {i : Nat} {x : Str} {pos : Pos} {v : V} {Q : Value → Shared → Prop} (I : Inv X pins σ H s) (hN : X.N[i]? = some x) (hv : Vis X.env.scope x) (e : σ[i]? = some (some v)) (h : ∀ u, RelV v u → Q u s)
    (hd : (x == ("__debug__" : Str)) = false := by decide) (hcd : (x == ("__classdict__" : Str)) = false := by decide) : wpAny M A (eval (.Name x pos) X.env) Q E s := by
  obtain ⟨m, hn, hl⟩ := I.loc
  obtain ⟨u, r, l⟩ := hl i x v hN e hv
  rcases l with ⟨hk, hm⟩ | ⟨hk, c, hc, hcell⟩
  · exact wpAny_Name (wpAny_loadName_local I.ok.kind hk hn hm (h u r)) hd
  · rcases hk with hk | hk
    · exact wpAny_Name (wpAny_loadName_cell I.ok.kind hk hc hcell (h u r)) hd
    · exact wpAny_Name (wpAny_loadName_free I.ok.kind hk hc hcell (h u r) hcd) hd
/-- the handler's name goes -/
theorem goes_any {M : Model} {A : Around} {E : Value → Shared → Prop} {i : Nat} {x : Str} {pos : Pos} {Q : Unit → Shared → Prop} (I : Inv X pins σ H s) (hN : X.N.Nodup) (hi : X.N[i]? = some x) (hk : X.env.scope.names.lookup x = some .local)
    (h : ∀ s', Inv X pins (σ.set i none) H s' → Q () s') : wpAny M A (do bindName X.env x .none; unbindBehindTheSuite X.env x pos) Q E s := by
  obtain ⟨m, hn, hl⟩ := id I.loc
  have hcls : (X.env.scope.kind == .class || (X.env.scope.kind == .module && X.env.locals != X.env.globals)) = false := by rw [I.ok.kind]; rfl
  refine wpAny_nameGoes_keeps hk hn hcls fun h' v hn' hs => ?_
  obtain ⟨oL, _, _, hoL, _⟩ := id hn
  have old : ∀ b o, X.s₀.heap.get? b = some o → h'.get? b = s.heap.get? b := fun b o e => hs.2 b (Nat.ne_of_lt (Nat.lt_of_lt_of_le (Heap.lt_size e) I.ok.above))
  have hokx : HOk X.prog X.w H h' := fun b ob e => by
    have nl : ∀ c, (c = b ∨ H c = some (.own b)) → c ≠ X.env.locals := fun c hc z => by
      subst z
      rcases hc with rfl | hc
      · rw [I.free] at e; cases e
      · rw [I.free] at hc; cases hc
    exact (I.hok b ob e).stay (fun c w' hc q => by rw [hs.2 c (nl c hc)]; exact q) (fun _ q => q) fun _ _ q => q
  refine h _ ⟨I.ok, I.os, I.bare, ⟨fun b o e n hb hx => ?_, fun b o e n hb hx => ?_, I.base.free, fun b o e hx => ?_, I.base.tups, I.base.frzs, I.base.tbls⟩, ⟨_, hn', fun j y v' e1 e2 e3 => ?_⟩, fun y c e => ?_, I.free, I.freeC, fun p hp => ?_, hokx, by simpa using I.len⟩
  · show h'.get? b = _; rw [old b o e]; exact I.base.keep b o e n hb hx
  · obtain ⟨sl, q⟩ := I.base.slot b o e n hb hx
    exact ⟨sl, by show h'.get? b = _; rw [old b o e]; exact q⟩
  · obtain ⟨o', q⟩ := I.base.there b o e hx
    exact ⟨o', by show h'.get? b = _; rw [old b o e]; exact q⟩
  · by_cases hj : j = i
    · subst hj
      rw [List.getElem?_set] at e2
      by_cases hh : j < σ.length <;> simp [hh] at e2
    · rw [List.getElem?_set_ne (Ne.symm hj)] at e2
      obtain ⟨u', r', q⟩ := hl j y v' e1 e2 e3
      have ny : y ≠ x := fun e => hj (nodup_ix hN e1 (e ▸ hi))
      refine ⟨u', r', ?_⟩
      rcases q with ⟨k, e⟩ | ⟨k, c, e, z⟩
      · exact .inl ⟨k, by simp [ny, e]⟩
      · exact .inr ⟨k, c, e, z.sameBut hs (I.cne y c e)⟩
  · obtain ⟨w', z⟩ := I.cell y c e
    exact ⟨w', z.sameBut hs (I.cne y c e)⟩
  · obtain ⟨p1, p2, p3, p4, p5⟩ := I.pin p hp
    exact ⟨by show h'.get? p.1 = _; rw [hs.2 p.1 p3]; exact p1, p2, p3, p4, p5⟩
/-- what is not tracked, and stood not at the entry, is tracked from now on -/
theorem Inv.adopt {e : Addr} {o : HO} (I : Inv X pins σ H s) (hH : H e = none) (h0 : X.s₀.heap.get? e = none) (hL : e ≠ X.env.locals) (hC : ∀ x c, X.env.cells.lookup x = some c → c ≠ e) (hP : ∀ p ∈ X.pn ++ pins, p.1 ≠ e)
    (new : ObjOk X.prog X.w (upd H e o) s.heap e o) : Inv X pins σ (upd H e o) s := by
  have up : ∀ {b : Addr} {u : HO}, H b = some u → (upd H e o) b = some u := fun {b u} q => by rw [upd_ne (ne_of_none q hH)]; exact q
  refine ⟨I.ok, I.os, I.bare, ⟨I.base.keep, I.base.slot, fun b ob q n hx => ?_, I.base.there, fun b xs q => up (I.base.tups b xs q), fun b ob u q => up (I.base.frzs b ob u q), fun b ps q => ?_⟩, I.loc, I.cell, ?_, fun x c q => ?_, fun p hp => ?_, fun b u q => ?_, I.len⟩
  · rw [upd_ne (fun z => by rw [z, h0] at q; cases q)]; exact I.base.free b ob q n hx
  · obtain ⟨more, q'⟩ := I.base.tbls b ps q
    exact ⟨more, up q'⟩
  · rw [upd_ne (Ne.symm hL)]; exact I.free
  · rw [upd_ne (hC x c q)]; exact I.freeC x c q
  · obtain ⟨p1, p2, p3⟩ := I.pin p hp
    exact ⟨p1, by rw [upd_ne (hP p hp)]; exact p2, p3⟩
  · by_cases hb : b = e
    · subst hb; rw [upd_same] at q; cases q; exact new
    · rw [upd_ne hb] at q
      exact (I.hok b u q).stay (fun c v _ q => q) (fun c q => up q) fun c xs q => up q
/-- a caught error is tracked -/
theorem caught_in {B : Heap} {e : Addr} {c : Nat} {a0 : Value} (W : Own X) (I : Inv X pins σ H s) (cov : Cov X pins H B s.heap) (nd : NoD e s.heap) (fl : Heap.FlyingW B X.stack e (.ref (cl c)) a0 s.heap) :
    H e = none ∧ Inv X pins σ (upd H e (ExcO e (cl c))) s := by
  obtain ⟨f1, f2, f3, f4⟩ := fl
  obtain ⟨oe, vs, T, oT, ts, he, hc, hd, _⟩ := f4
  obtain ⟨o', q1, q2⟩ := nd
  rw [he] at q1; cases q1
  have nfr : e ∉ frs X.stack := fun z => by
    obtain ⟨_, o, ho, hnf⟩ := I.stack.mem z
    rw [he] at ho; cases ho
    exact hnf vs hd
  have ns : ¬ Stands X pins H e := fun z => by
    have := cov e oe he z nfr
    rw [f2] at this; cases this
  have nH : H e = none := by
    cases q : H e with
    | none => rfl
    | some u => exact absurd (.inl (by rw [q]; intro z; cases z)) ns
  refine ⟨nH, Mi.Inv.adopt I nH ?_ (fun z => nfr ((frs_stk W).mpr (.inl z))) (fun x c' q z => ns (.inr (.inr (.inr ⟨x, z ▸ q⟩)))) (fun p hp z => ns (.inr (.inl ⟨p, hp, z⟩))) ⟨⟨oe, vs, he, hc.1, q2, hd⟩, ⟨oe, he⟩, ?_⟩⟩
  · cases q : X.s₀.heap.get? e with
    | none => rfl
    | some u => exact absurd (.inr (.inr (.inl ⟨u, q⟩))) ns
  · rintro h1 h2 ⟨o, ws, a1, a2, a3, a4⟩ k
    exact ⟨o, ws, k o a1, a2, a3, a4⟩
theorem ms_try {names : List (Nat × Str)} (C : Cls X.K X.mg cl names) {body : List Stmt} {f : FS} {d : Nat} {y : Str} {n x : Nat} {en ex : Str} {np p1 p2 p3 hpos pos : Pos} (W : Own X) (hy : (d, y) ∈ names) (hb : MSs X cl body f) (hN : X.N.Nodup)
    (hn : X.N[n]? = some en) (hx : X.N[x]? = some ex) (hln : X.env.scope.names.lookup en = some .local) (hlx : Loc X.env.scope ex) (hg : Gl X y) (hne : n ≠ x) (hdb : (y == ("__debug__" : Str)) = false := by decide)
    (hsw : swapsWith (.Name en p2) (some (.Name ex p1)) p3.line X.env = pure false := by rfl) (hde : (en == ("__debug__" : Str)) = false := by decide) (hce : (en == ("__classdict__" : Str)) = false := by decide) :
    MS X cl (.Try body [.ExceptHandler (some (.Name y np)) (some en) [.Assign [.Name ex p1] (.Name en p2) p3] hpos] [] [] pos) (sTryAs f (names.map (·.1)) d n x) := by
  refine ⟨?_⟩
  intro pins s σ Hf0 H0 Hf H ρ I r hs
  have hf : f ρ ≠ .stuck := fun z => hs (by unfold sTryAs; rw [z])
  refine wpAny_Try_except (wpAny_mono (hb pins s σ Hf0 H0 Hf H ρ I r hf) (fun fl s1 q => ?_) fun u s1 q => ?_)
  · cases fl with
    | next =>
      obtain ⟨ρ', σ', Hf', H', e1, I', r', sm⟩ := q
      have e2 : sTryAs f (names.map (·.1)) d n x ρ = .next ρ' := by unfold sTryAs; rw [e1]
      rw [e2]
      exact wpAny_execs_nil ⟨ρ', σ', Hf', H', rfl, I', r', sm⟩
    | brk =>
      obtain ⟨ρ', σ', Hf', H', e1, I', r', sm⟩ := q
      have e2 : sTryAs f (names.map (·.1)) d n x ρ = .brk ρ' := by unfold sTryAs; rw [e1]
      rw [e2]; exact ⟨ρ', σ', Hf', H', rfl, I', r', sm⟩
    | cont =>
      obtain ⟨ρ', σ', Hf', H', e1, I', r', sm⟩ := q
      have e2 : sTryAs f (names.map (·.1)) d n x ρ = .cont ρ' := by unfold sTryAs; rw [e1]
      rw [e2]; exact ⟨ρ', σ', Hf', H', rfl, I', r', sm⟩
    | ret u =>
      obtain ⟨p, v, σ', Hf', H', e1, I', ex', rv, rp⟩ := q
      have e2 : sTryAs f (names.map (·.1)) d n x ρ = .ret p := by unfold sTryAs; rw [e1]
      rw [e2]; exact ⟨p, v, σ', Hf', H', rfl, I', ex', rv, rp⟩
  · obtain ⟨c, ρ', σ', Hf', H', e, e1, rfl, I', r', sm, B, a0, cov, nd, st⟩ := q
    have e2 : sTryAs f (names.map (·.1)) d n x ρ = if (names.map (·.1)).contains c && under c d then .next (((ρ'.set n (some (.exc c))).set x (some (.exc c))).set n none) else .stuck := by unfold sTryAs; rw [e1]
    rw [e2] at hs ⊢
    have hc : ((names.map (·.1)).contains c && under c d) = true := by
      cases q : ((names.map (·.1)).contains c && under c d) with
      | true => rfl
      | false => rw [q] at hs; exact absurd rfl hs
    rw [if_pos hc]
    rw [Bool.and_eq_true] at hc
    obtain ⟨cx, hcx⟩ := mem_ks hc.1
    refine note_ok W I'.ok.frames nd st fun h1 hh u1 nd1 => ?_
    have I1 := Inv.upto W I' cov hh.1 u1 (tk := s1.toks)
    have c1 := cov.upto W I' hh.1
    refine lands_ok (s := { s1 with heap := h1 }) nd1 hh fun h2 hf2 u2 nd2 => ?_
    have I2 := Inv.upto W I1 c1 hf2.1 u2 (tk := s1.toks)
    have c2 := c1.upto W I1 hf2.1
    refine wpAny_handleBy_cons (codeAny_handlers_test (Calls.Name_function_global I2.ok.kind hg (Calls.loadGlobal_global (by rw [I2.ok.glob]; exact I2.mod.glob.keeps I2.bk) (C.cls d y hy).mg ?_) hdb)) (by intro z; cases z)
    have LT : PySem.W.Looks (model X.prog X.w) h2 (typeOf (.ref e)) (.ref (cl c)) := by
      obtain ⟨ob, q1, q2⟩ := hf2.there
      exact q2 ▸ (PySem.W.Looks.ld q1).andThen .now
    refine (PySem.W.exm_one (M := model X.prog X.w) (h := h2) I2.kIn LT (C.exm c cx d y hcx hy)).here ?_
    rw [hc.2]
    refine codeAny_handlers_suite_as ?_
    refine again_ok (s := { s1 with heap := h2 }) nd2 hf2 fun h3 hf3 u3 nd3 => ?_
    have I3 := Inv.upto W I2 c2 hf3.1 u3 (tk := s1.toks)
    have c3 := c2.upto W I2 hf3.1
    obtain ⟨nH, I4⟩ := caught_in W I3 c3 nd3 hf3
    have x4 := Ext.new r'.sub nH (ExcO e (cl c))
    have rp4 : Rp X.K cl (upd Hf' e (ExcO e (cl c))) (.ref e) (.exc c) := .exc upd_same
    have hnl : n < σ'.length := by rw [I'.len]; exact (List.getElem?_eq_some_iff.mp hn).1
    have hxl : x < (σ'.set n (some (.ref e))).length := by rw [List.length_set, I'.len]; exact (List.getElem?_eq_some_iff.mp hx).1
    refine store_ok I4 hN hn (.inl hln) (v := .ref e) rfl (fun s5 I5 => ?_) (.inl (W.fn en))
    refine wpAny_execs_cons (wpAny_Assign_Name (var_any I5 hn (.inl hln) (List.getElem?_set_self hnl) (fun u ru => ?_) hde hce) hsw)
    refine store_ok I5 hN hx hlx ru (fun s6 I6 => ?_) (.inl (W.fn ex))
    refine wpAny_execs_nil ?_
    refine goes_any I6 hN hn hln fun s7 I7 => ?_
    exact ⟨_, _, _, _, rfl, I7, ((((r'.keep x4).set n rp4 hnl).set x rp4 hxl).forget n none), sm.trans x4.frz⟩
end
end Mi
set_option Elab.async false
set_option linter.all false
set_option autoImplicit false
set_option maxRecDepth 100000
set_option maxHeartbeats 4000000
namespace Mi
open PySem PySem.Spec PyProof.Rows L2
def refIn (K : PySem.W.Frag) (x : Str) : Bool := match PySem.W.nsIn K mainGlobals x with
  | some (some (.ref _)) => true
  | _ => false
theorem refIn_of {K : PySem.W.Frag} {x : Str} (h : refIn K x = true) : PySem.W.nsIn K mainGlobals x = some (some (.ref (adOf K x))) := by
  unfold refIn at h
  unfold adOf
  split at h
  · rename_i a e; rw [e]
  · cases h
/-- all that is asked of the text's error classes, as one word that is reckoned -/
def pairOk (K : PySem.W.Frag) (p q : Nat × Str) : Bool := PySem.W.kitOne K (.ref (adOf K p.2)) (.ref (adOf K q.2)) == some (under p.1 q.1) && PySem.W.exmOne K (.ref (adOf K p.2)) (.ref (adOf K q.2)) == some (under p.1 q.1)
def oneOk (K : PySem.W.Frag) (p : Nat × Str) : Bool := refIn K p.2 && PySem.W.excIn K (adOf K p.2) bmV "ValueError.__new__" && attrOk K (adOf K p.2) && PySem.W.kitOne K (.ref (adOf K p.2)) (.type "ValueError") == some true &&
  PySem.W.kitOne K (.type "NoneType") (.ref (adOf K p.2)) == some false
def ndOk : List Nat → Bool
  | [] => true
  | a :: r => !r.contains a && ndOk r
theorem nd_of : ∀ {l : List Nat}, ndOk l = true → l.Nodup
  | [], _ => List.nodup_nil
  | a :: r, h => by
    unfold ndOk at h
    rw [Bool.and_eq_true] at h
    refine List.nodup_cons.mpr ⟨fun z => ?_, nd_of h.2⟩
    have := List.contains_iff_mem.mpr z
    rw [this] at h; exact absurd h.1 (by decide)
section
variable {K : PySem.W.Frag} {mg : Str → Option Value} {names : List (Nat × Str)} {h : Heap}
theorem clOf_at {c : Nat} {x : Str} (hn : (names.map (·.1)).Nodup) (hx : (c, x) ∈ names) : clOf K names c = adOf K x := by
  unfold clOf; rw [mem_lookup hn hx]
end
end Mi
set_option Elab.async false
set_option linter.all false
set_option autoImplicit false
set_option maxRecDepth 100000
set_option maxHeartbeats 4000000
namespace Mi
open PySem PySem.Spec PyProof.Rows L2
section
variable {X : Cx} {cl : Nat → Addr}
theorem me_dic0 {pos : Pos} : ME X cl (.Dict [] [] pos) (fC .dic0) := by
  refine ⟨?_⟩
  intro pins s σ Hf0 H0 Hf H ρ I r hs
  have hf : H s.heap.objs.size = none := I.hok.fresh (Nat.le_refl _)
  refine wpAny_Dict_empty ⟨.dic0, .ref s.heap.objs.size, _, _, rfl, I.laid (a := s.heap.objs.size) (o := .dK []) (t' := s.toks) (fun _ _ q => Heap.get?_push_of_some _ q) (Nat.le_refl _) ?_, rfl, Ext.new r.sub hf _, .dic0 upd_same⟩
  have big : sysModules < s.heap.objs.size := Nat.lt_trans (by decide) (show mainGlobals < s.heap.objs.size from (I.mod.glob.keeps I.bk).lt)
  exact ⟨Nat.zero_le _, beq_eq_false_iff_ne.mpr (Ne.symm (Nat.ne_of_lt big)), [], .nil, Heap.DictOf.new s.heap⟩
/-- a module's whole number -/
theorem me_globI {x : Str} {i : Int} {pos : Pos} (hg : Gl X x) (hm : ∃ t, X.mg x = some (.int i t)) (hd : (x == ("__debug__" : Str)) = false := by decide) : ME X cl (.Name x pos) (fC (.int i)) := by
  obtain ⟨t, hm⟩ := hm
  exact me_glob (v := .int i) hg hm ⟨t, rfl⟩ (fun _ => .int i) hd
theorem at_mem {names : List (Nat × Str)} (i : Nat) {p : Nat × Str} (h : names[i]? = some p) : p ∈ names := List.mem_of_getElem? h
end
end Mi
set_option Elab.async false
set_option linter.all false
set_option autoImplicit false
set_option maxRecDepth 100000
set_option maxHeartbeats 4000000
namespace Mi
open PySem PySem.Spec PyProof.Rows L2
section
variable {K : PySem.W.Frag} {cl : Nat → Addr} {Hf0 H0 Hf H Hf' H' : Hp} {σ : SV} {ρ : MEnv}
theorem Rep.freeze (r : Rep K cl Hf0 H0 Hf H σ ρ) {i : Nat} {l : List PV} (h : ρ[i]? = some (some (.own l))) : ∃ Hf', Rep K cl Hf0 H0 Hf' H σ (ρ.set i (some (.lst l))) ∧ Same Hf Hf' := by
  obtain ⟨v, hv, a, xs, rfl, ha, hfa, h0a, rps⟩ := r.slot i _ h
  have sm := same_upd hfa (.lst xs)
  have hi : i < ρ.length := (List.getElem?_eq_some_iff.mp h).1
  refine ⟨upd Hf a (.lst xs), ⟨⟨r.ext.all, r.ext.frz.trans sm, fun b u q => ?_, fun b n => ?_⟩, fun j p hp => ?_, fun j k ps qs b h1 h2 h3 h4 => ?_⟩, sm⟩
  · by_cases e : b = a
    · subst e; rw [upd_same] at q; cases q; exact ha
    · rw [upd_ne e] at q; exact r.ext.sub b u q
  · rw [upd_ne (fun e => n (by rw [e]; exact h0a)), r.ext.old b n]
  · by_cases e : i = j
    · subst e
      rw [List.getElem?_set_self hi] at hp
      cases hp
      exact ⟨_, hv, .lst (SqL.of upd_same) (rps.keep sm)⟩
    · rw [List.getElem?_set_ne e] at hp
      obtain ⟨w, hw, sl⟩ := r.slot j p hp
      refine ⟨w, hw, ?_⟩
      cases p with
      | own qs =>
        obtain ⟨b, ys, rfl, h1, h2, h3, h4⟩ := sl
        have nb : b ≠ a := fun z => by subst z; exact e (r.dist i j _ _ _ h hp hv hw)
        exact ⟨b, ys, rfl, h1, by rw [upd_ne nb]; exact h2, h3, h4.keep sm⟩
      | _ => exact Rp.keep sm sl
  · have back : ∀ {m : Nat} {l' : List PV}, (ρ.set i (some (.lst l)))[m]? = some (some (.own l')) → ρ[m]? = some (some (.own l')) := fun {m l'} hm => by
      by_cases e : i = m
      · subst e; rw [List.getElem?_set_self hi] at hm; cases hm
      · rw [List.getElem?_set_ne e] at hm; exact hm
    exact r.dist j k ps qs b (back h1) (back h2) h3 h4
/-- a new list in a slot -/
theorem Rep.own (r : Rep K cl Hf0 H0 Hf H σ ρ) (i : Nat) {l : List PV} {a : Addr} {xs : List V} (ha : H a = some (.lst xs)) (hfa : Hf a = none) (h0a : H0 a = none) (rps : Rps K cl Hf xs l) (hl : i < σ.length)
    (nw : ∀ (j : Nat) (qs : List PV), ρ[j]? = some (some (.own qs)) → σ[j]? ≠ some (some (.ref a))) : Rep K cl Hf0 H0 Hf H (σ.set i (some (.ref a))) (ρ.set i (some (.own l))) := by
  refine ⟨r.ext, fun j p hp => ?_, fun j k ps qs b h1 h2 h3 h4 => ?_⟩
  · by_cases e : i = j
    · subst e
      have hi : i < ρ.length := by
        rw [List.getElem?_set] at hp
        by_cases hh : i < ρ.length
        · exact hh
        · simp [hh] at hp
      rw [List.getElem?_set_self hi] at hp
      cases hp
      exact ⟨_, List.getElem?_set_self hl, a, xs, rfl, ha, hfa, h0a, rps⟩
    · rw [List.getElem?_set_ne e] at hp
      obtain ⟨w, hw, sl⟩ := r.slot j p hp
      exact ⟨w, by rw [List.getElem?_set_ne e]; exact hw, sl⟩
  · by_cases e : i = j
    · by_cases e' : i = k
      · exact e.symm.trans e'
      · subst e
        rw [List.getElem?_set_self hl] at h3
        cases h3
        rw [List.getElem?_set_ne e'] at h2 h4
        exact absurd h4 (nw k _ h2)
    · by_cases e' : i = k
      · subst e'
        rw [List.getElem?_set_self hl] at h4
        cases h4
        rw [List.getElem?_set_ne e] at h1 h3
        exact absurd h3 (nw j _ h1)
      · rw [List.getElem?_set_ne e] at h1 h3
        rw [List.getElem?_set_ne e'] at h2 h4
        exact r.dist j k _ _ b h1 h2 h3 h4
end
section
variable {X : Cx} {cl : Nat → Addr}
theorem Rps.set {K : PySem.W.Frag} {Hf : Hp} {v : V} {p : PV} (h : Rp K cl Hf v p) : ∀ {vs : List V} {ps : List PV} (j : Nat), Rps K cl Hf vs ps → Rps K cl Hf (vs.set j v) (ps.set j p)
  | _, _, _, .nil => .nil
  | _, _, 0, .cons _ t => .cons h t
  | _, _, j + 1, .cons r t => .cons r (Rps.set h j t)
end
end Mi
set_option Elab.async false
set_option linter.all false
set_option autoImplicit false
set_option maxRecDepth 100000
set_option maxHeartbeats 4000000
namespace Mi
open PySem PySem.Spec PyProof.Rows L2
/-- what gives a new list -/
def OkF (X : Cx) (cl : Nat → Addr) (pins : List (Addr × Obj)) (σ : SV) (Hf H : Hp) (r : R PV) (u : Value) (s : Shared) : Prop :=
  ∃ ps a xs Hf' H', r = .ok (.lst ps) ∧ Inv X pins σ H' s ∧ u = .ref a ∧ Ext Hf H Hf' H' ∧ H' a = some (.lst xs) ∧ Hf' a = none ∧ H a = none ∧ Rps X.K cl Hf' xs ps
section
variable {X : Cx} {cl : Nat → Addr}
theorem ext_none {Hf H Hf1 H1 : Hp} (e : Ext Hf H Hf1 H1) {a : Addr} (h : H1 a = none) : H a = none := by
  cases q : H a with
  | none => rfl
  | some o => rw [e.all a o q] at h; cases h
theorem OkF.from {pins : List (Addr × Obj)} {σ : SV} {Hf H Hf1 H1 : Hp} {e0 : Ext Hf H Hf1 H1} {r : R PV} {u : Value} {s' : Shared} (h : OkF X cl pins σ Hf1 H1 r u s') : OkF X cl pins σ Hf H r u s' := by
  obtain ⟨ps, a, xs, Hf', H', e1, I', e2, ex, g1, g2, g3, rps⟩ := h
  exact ⟨ps, a, xs, Hf', H', e1, I', e2, e0.trans ex, g1, g2, ext_none e0 g3, rps⟩
end
end Mi
set_option Elab.async false
set_option linter.all false
set_option autoImplicit false
set_option maxRecDepth 100000
set_option maxHeartbeats 4000000
set_option Elab.async false
set_option linter.all false
set_option autoImplicit false
set_option maxRecDepth 100000
set_option maxHeartbeats 4000000
namespace Mi
open PySem PySem.Spec PyProof.Rows L2
mutual
inductive KRep (K : PySem.W.Frag) : Value → PV → Prop where
  | non : KRep K .none .non
  | bl (b : Bool) : KRep K (.bool b) (.bl b)
  | int (i : Int) (t : Tok) : KRep K (.int i t) (.int i)
  | str (x : Str) (t : Tok) : KRep K (.str x t) (.str x)
  | tup {a : Addr} {o : Obj} {its : Array Value} {n : Nat} {ps : List PV} (h : K.lookup a = some o) (c : o.cls = .type "tuple") (d : o.data = .seq its n) (z : its.size ≤ sizeLine) (r : KReps K its.toList ps) : KRep K (.ref a) (.tup ps)
inductive KReps (K : PySem.W.Frag) : List Value → List PV → Prop where
  | nil : KReps K [] []
  | cons {u : Value} {p : PV} {us : List Value} {ps : List PV} (r : KRep K u p) (t : KReps K us ps) : KReps K (u :: us) (p :: ps)
end
section
variable {K : PySem.W.Frag} {cl : Nat → Addr}
mutual
theorem KRep.rp (Hf : Hp) : ∀ {u : Value} {p : PV}, KRep K u p → ∃ v, RelV v u ∧ Rp K cl Hf v p
  | _, _, .non => ⟨.non, rfl, .non⟩
  | _, _, .bl b => ⟨.bl b, rfl, .bl b⟩
  | _, _, .int i t => ⟨.int i, ⟨t, rfl⟩, .int i⟩
  | _, _, .str x t => ⟨.str x, ⟨t, rfl⟩, .str x⟩
  | _, _, .tup (a := a) (o := o) (its := its) (n := n) h c d z r => by
    obtain ⟨vs, h1, h2⟩ := KReps.rps Hf r
    exact ⟨.ref a, rfl, .tup (.inr ⟨o, its, n, h, c, d, z, h1⟩) h2⟩
theorem KReps.rps (Hf : Hp) : ∀ {us : List Value} {ps : List PV}, KReps K us ps → ∃ vs, Vals vs us ∧ Rps K cl Hf vs ps
  | _, _, .nil => ⟨[], .nil, .nil⟩
  | _, _, .cons r t => by
    obtain ⟨v, a, b⟩ := KRep.rp Hf r
    obtain ⟨vs, c, d⟩ := KReps.rps Hf t
    exact ⟨v :: vs, .cons a c, .cons b d⟩
end
end
structure FunD (K : PySem.W.Frag) (x qual : Str) (st : Stmt) (f : Addr) (fd : FuncData) (y : Str) : Prop where
  ex : ∃ (oc : Value) (od : Option Addr) (kV doc pm : Value) (an : Option Addr) (cdv ct : Value) (osl : Array (Option Value)) (T : Addr) (o : Obj) (n : Nat) (t : Tok),
    fd = PySem.W.fnOf x qual (defArgs st) (defBody st) (defScope st) (.ref T) kV doc pm an cdv ct ∧ K.lookup f = some ⟨oc, od, .func fd, osl⟩ ∧ PySem.W.codeIn K cdv qual = true ∧ K.lookup T = some o ∧ o.data = .seq #[.str y t] n
  kp : PySem.W.keepIn K (.ref f) = true
section
variable {P : Program} {w : World} {K : PySem.W.Frag} {mg : Str → Option Value} {base : Heap} {cl : Nat → Addr}
theorem fn_mirror' {x qual : Str} {st : Stmt} {f : Addr} {N ps : List Str} {k n : Nat} {b : FS} {dV kV doc pm cdv ct oc : Value} {an od : Option Addr} {osl : Array (Option Value)}
    (lk : K.lookup f = some ⟨oc, od, .func (PySem.W.fnOf x qual (defArgs st) (defBody st) (defScope st) dV kV doc pm an cdv ct), osl⟩) (hcd : PySem.W.codeIn K cdv qual = true) (S : FnScope N ps (defScope st)) (hn : ps.length = n)
    (hbody : ∀ (cdv : Value) (A : Around) (outer : List Env) (s : Shared) (H : Hp) (E : XK), Room k (A.deeper (envOfC qual (defScope st) s.heap.objs.size f cdv)) →
      MSs (cxM P w K mg base cl N qual (defScope st) f cdv A outer s H E) cl (defBody st) b) : FnOk P w K mg base (CXm cl P w) (k + 1) f (PySem.W.fnOf x qual (defArgs st) (defBody st) (defScope st) dV kV doc pm an cdv ct) ps (spF K cl n (runF N.length b)) := by
  refine fn_of lk hcd S (fun vs H Q E h => by rw [h.1, hn]) fun A outer s H vs Q E hr hsp => ?_
  obtain ⟨hl, Hf, qs, sm, rps, hs, hok, hex⟩ := hsp
  have hb := hbody cdv A outer s H E hr
  have hs' : b (Mi.start N.length qs) ≠ .stuck := fun z => hs (by unfold runF; rw [z])
  refine ⟨fun D σ H1 => σ = L2.start N vs ∧ H1 = H ∧ D = { nx := fun _ H' => Q .non H', rt := Q }, fun pins s1 σ H1 D I h => ?_, rfl, rfl, rfl⟩
  obtain ⟨rfl, rfl, rfl⟩ := h
  refine wpAny_mono (hb pins s1 _ Hf H1 Hf H1 _ I (rep_start rfl sm rps) hs') (fun fl s2 q => ?_) fun u s2 q => ?_
  · cases fl with
    | next =>
      obtain ⟨ρ', σ', Hf', H', e1, I', r', _⟩ := q
      exact ⟨σ', H', I', hok .non .non Hf' H' (by unfold runF; rw [e1]) r'.ext .non⟩
    | ret u =>
      obtain ⟨p, v, σ', Hf', H', e1, I', ex, rv, rp⟩ := q
      exact ⟨v, σ', H', I', rv, hok p v Hf' H' (by unfold runF; rw [e1]) ex rp⟩
    | brk =>
      obtain ⟨ρ', σ', Hf', H', e1, I', r', _⟩ := q
      exact absurd (by unfold runF; rw [e1]) hs
    | cont =>
      obtain ⟨ρ', σ', Hf', H', e1, I', r', _⟩ := q
      exact absurd (by unfold runF; rw [e1]) hs
  · obtain ⟨c, ρ', σ', Hf', H', e, e1, rfl, I', r', _, x⟩ := q
    exact leaves_ok I' x (hex c Hf' H' (by unfold runF; rw [e1]) r'.ext)
structure DefAtD (K : PySem.W.Frag) (mg : Str → Option Value) (x : Str) (st : Stmt) (f : Addr) (fd : FuncData) (y : Str) : Prop where
  fn : FunD K x x st f fd y
  mg : mg x = some (.ref f)
/-- a def of the text with one default, by its mirror -/
structure FGD (P : Program) (w : World) (K : PySem.W.Frag) (mg : Str → Option Value) (base : Heap) (cl : Nat → Addr) (k : Nat) (x : Str) (n : Nat) (F : List PV → R PV) (y : Str) : Prop where
  ex : ∃ (f : Addr) (fd : FuncData) (ps : List Str) (d : Value), mg x = some (.ref f) ∧ PySem.W.keepIn K (.ref f) = true ∧ ps.length = n ∧ FnOk P w K mg base (CXm cl P w) k f fd ps (spF K cl n F) ∧ Binds K fd ps [] ∧ Binds K fd ps [d] ∧ RelV (.str y) d
theorem FGD.fg {k : Nat} {x : Str} {n : Nat} {F : List PV → R PV} {y : Str} (h : FGD P w K mg base cl k x n F y) : FG P w K mg base cl k x n F := by
  obtain ⟨f, fd, ps, d, a, b, c, e, g, _⟩ := h.ex
  exact ⟨⟨f, fd, ps, a, b, c, e, g⟩⟩
theorem DefAtD.fg {x : Str} {st : Stmt} {f : Addr} {fd : FuncData} {y : Str} {N ps : List Str} {k n : Nat} {b : FS} (D : DefAtD K mg x st f fd y) (S : FnScope N ps (defScope st)) (hn : ps.length = n)
    (hb : ∀ (T : Addr) (t : Tok) (kV doc pm : Value) (an : Option Addr) (cdv ct : Value) (us : List Value), us.length = ps.length → ∃ k, bindArgs (PySem.W.fnOf x x (defArgs st) (defBody st) (defScope st) (.ref T) kV doc pm an cdv ct) ⟨us, []⟩ = seqItems? (.ref T) >>= k ∧ k (some #[.str y t]) = pure (ps.zip us))
    (hb1 : ∀ (T : Addr) (t : Tok) (kV doc pm : Value) (an : Option Addr) (cdv ct : Value) (us : List Value), us.length + 1 = ps.length → ∃ k, bindArgs (PySem.W.fnOf x x (defArgs st) (defBody st) (defScope st) (.ref T) kV doc pm an cdv ct) ⟨us, []⟩ = seqItems? (.ref T) >>= k ∧ k (some #[.str y t]) = pure (ps.zip (us ++ [.str y t])))
    (hbody : ∀ (cdv : Value) (A : Around) (outer : List Env) (s : Shared) (H : Hp) (E : XK), Room k (A.deeper (envOfC x (defScope st) s.heap.objs.size f cdv)) →
      MSs (cxM P w K mg base cl N x (defScope st) f cdv A outer s H E) cl (defBody st) b) : FGD P w K mg base cl (k + 1) x n (runF N.length b) y := by
  obtain ⟨oc, od, kV, doc, pm, an, cdv, ct, osl, T, o, m, t, rfl, lk, hcd, lt, dt⟩ := D.fn.ex
  refine ⟨⟨f, _, ps, .str y t, D.mg, D.fn.kp, hn, fn_mirror' lk hcd S hn hbody, fun s us X hl => ?_, fun s us X hl => ?_, ⟨t, rfl⟩⟩⟩
  · rw [List.append_nil] at hl ⊢
    obtain ⟨k, e1, e2⟩ := hb T t kV doc pm an cdv ct us hl
    exact PySem.W.binds_K X rfl lt dt e1 e2
  · obtain ⟨k, e1, e2⟩ := hb1 T t kV doc pm an cdv ct us (by simpa using hl)
    exact PySem.W.binds_K X rfl lt dt e1 e2
end
section
variable {X : Cx} {cl : Nat → Addr}
theorem Rps.snoc {K : PySem.W.Frag} {Hf : Hp} {vs : List V} {ps : List PV} {v : V} {p : PV} (a : Rps K cl Hf vs ps) (b : Rp K cl Hf v p) : Rps K cl Hf (vs ++ [v]) (ps ++ [p]) := a.append (.cons b .nil)
end
/-- a plain class: c its number, x its name -/
structure WayC (K : PySem.W.Frag) (mg : Str → Option Value) (cl : Nat → Addr) (c : Nat) (x : Str) : Prop where
  mg : mg x = some (.ref (cl c))
  makes : PySem.W.makesIn K (cl c) = true
  init : PySem.W.findIn K (.ref (cl c)) "__init__" = some (some (.builtin "object.__init__"))
  kp : PySem.W.keepIn K (.ref (cl c)) = true
  cls : L2.Cls K (cl c)
  hc : PySem.W.findIn K (.ref (cl c)) "__class__" = some (some (.builtin "object.__class__"))
  hn : PySem.W.specialIn K (.builtin "object.__class__") "__get__" = some (some (.builtin "getset_descriptor.__get__"))
  ht : PySem.W.takesIn K (.builtin "object.__class__") = some true
  hm : PySem.W.mroIn K (cl c) (.type "object") = some true
end Mi
set_option Elab.async false
set_option linter.all false
set_option autoImplicit false
set_option maxRecDepth 100000
set_option maxHeartbeats 4000000
namespace Mi
open PySem PySem.Spec PyProof.Rows L2
/-- plain classes by number: 20 is the base of all -/
def wunder (c d : Nat) : Bool := c == d || d == 20
structure Ways (K : PySem.W.Frag) (mg : Str → Option Value) (cl : Nat → Addr) (wn : List (Nat × Str)) : Prop where
  cls : ∀ c x, (c, x) ∈ wn → WayC K mg cl c x
  kit : ∀ c x d y, (c, x) ∈ wn → (d, y) ∈ wn → PySem.W.kitOne K (.ref (cl c)) (.ref (cl d)) = some (wunder c d)
section
variable {P : Program} {w : World} {K : PySem.W.Frag} {mg : Str → Option Value} {base : Heap} {cl : Nat → Addr}
/-- reckoned: what is asked of a plain class -/
def wayOk (K : PySem.W.Frag) (x : Str) : Bool :=
  refIn K x && PySem.W.makesIn K (adOf K x) && PySem.W.findIn K (.ref (adOf K x)) "__init__" == some (some (.builtin "object.__init__")) && PySem.W.keepIn K (.ref (adOf K x)) &&
  PySem.W.plainGet K (adOf K x) Str.empty && PySem.W.hasDictIn K (adOf K x) && PySem.W.plainOver K (adOf K x) && PySem.W.findIn K (.ref (adOf K x)) "__setattr__" == some (some (.builtin "object.__setattr__")) &&
  PySem.W.findIn K (.ref (adOf K x)) "__class__" == some (some (.builtin "object.__class__")) && PySem.W.specialIn K (.builtin "object.__class__") "__get__" == some (some (.builtin "getset_descriptor.__get__")) &&
  PySem.W.takesIn K (.builtin "object.__class__") == some true && PySem.W.mroIn K (adOf K x) (.type "object") == some true
def waysOk (K : PySem.W.Frag) (wn : List (Nat × Str)) : Bool := wn.all fun p => wayOk K p.2 && wn.all fun q => PySem.W.kitOne K (.ref (adOf K p.2)) (.ref (adOf K q.2)) == some (wunder p.1 q.1)
/-- the error classes, where other classes have numbers too -/
def clsOk2 (K : PySem.W.Frag) (all names : List (Nat × Str)) : Bool := ndOk (all.map fun p => adOf K p.2) && names.all fun p => oneOk K p && names.all fun q => pairOk K p q
theorem cls_inj2 {all names : List (Nat × Str)} (e : clsOk2 K all names = true) : ∀ c d, clOf K all c = clOf K all d → c = d := clOf_inj (nd_of (Bool.and_eq_true_iff.mp e).1)
theorem cls_of2 {h : Heap} {all names : List (Nat × Str)} (X : K.In h) (G : h.Ns mainGlobals mg) (hn : (all.map (·.1)).Nodup) (hs : ∀ p ∈ names, p ∈ all) (e : clsOk2 K all names = true) : Cls K mg (clOf K all) names := by
  have a := (Bool.and_eq_true_iff.mp e).2
  have one : ∀ c x, (c, x) ∈ names → oneOk K (c, x) = true ∧ ∀ d y, (d, y) ∈ names → pairOk K (c, x) (d, y) = true := fun c x hx => by
    have := List.all_eq_true.mp a (c, x) hx
    rw [Bool.and_eq_true] at this
    exact ⟨this.1, fun d y hy => List.all_eq_true.mp this.2 (d, y) hy⟩
  refine ⟨fun c x hx => ?_, fun c x d y hx hy => ?_, fun c x d y hx hy => ?_, fun d y hy => ?_, fun c x hx => ?_⟩
  · obtain ⟨o, _⟩ := one c x hx
    unfold oneOk at o
    simp only [Bool.and_eq_true, beq_iff_eq] at o
    exact ⟨by rw [clOf_at hn (hs _ hx)]; exact PySem.W.mg_of X G (refIn_of o.1.1.1.1), by rw [clOf_at hn (hs _ hx)]; exact o.1.1.1.2, by rw [clOf_at hn (hs _ hx)]; exact o.1.1.2⟩
  · have o := (one c x hx).2 d y hy
    unfold pairOk at o
    simp only [Bool.and_eq_true, beq_iff_eq] at o
    rw [clOf_at hn (hs _ hx), clOf_at hn (hs _ hy)]; exact o.1
  · have o := (one c x hx).2 d y hy
    unfold pairOk at o
    simp only [Bool.and_eq_true, beq_iff_eq] at o
    rw [clOf_at hn (hs _ hx), clOf_at hn (hs _ hy)]; exact o.2
  · obtain ⟨o, _⟩ := one d y hy
    unfold oneOk at o
    simp only [Bool.and_eq_true, beq_iff_eq] at o
    rw [clOf_at hn (hs _ hy)]; exact o.2
  · obtain ⟨o, _⟩ := one c x hx
    unfold oneOk at o
    simp only [Bool.and_eq_true, beq_iff_eq] at o
    rw [clOf_at hn (hs _ hx)]; exact o.1.2
theorem ways_of {h : Heap} {all wn : List (Nat × Str)} (X : K.In h) (G : h.Ns mainGlobals mg) (hn : (all.map (·.1)).Nodup) (hs : ∀ p ∈ wn, p ∈ all) (e : waysOk K wn = true) : Ways K mg (clOf K all) wn := by
  have one : ∀ c x, (c, x) ∈ wn → wayOk K x = true ∧ ∀ d y, (d, y) ∈ wn → PySem.W.kitOne K (.ref (adOf K x)) (.ref (adOf K y)) = some (wunder c d) := fun c x hx => by
    have := List.all_eq_true.mp e (c, x) hx
    rw [Bool.and_eq_true] at this
    exact ⟨this.1, fun d y hy => beq_iff_eq.mp (List.all_eq_true.mp this.2 (d, y) hy)⟩
  refine ⟨fun c x hx => ?_, fun c x d y hx hy => ?_⟩
  · obtain ⟨o, _⟩ := one c x hx
    have ec := clOf_at (K := K) hn (hs _ hx)
    unfold wayOk at o
    simp only [Bool.and_eq_true, beq_iff_eq] at o
    obtain ⟨⟨⟨⟨⟨⟨⟨⟨⟨⟨⟨o1, o2⟩, o3⟩, o4⟩, o5⟩, o6⟩, o7⟩, o8⟩, o9⟩, o10⟩, o11⟩, o12⟩ := o
    exact ⟨by rw [ec]; exact PySem.W.mg_of X G (refIn_of o1), by rw [ec]; exact o2, by rw [ec]; exact o3, by rw [ec]; exact o4, by rw [ec]; exact ⟨o5, o6, o7, o8⟩, by rw [ec]; exact o9, o10, o11, by rw [ec]; exact o12⟩
  · rw [clOf_at hn (hs _ hx), clOf_at hn (hs _ hy)]; exact (one c x hx).2 d y hy
end
end Mi
set_option Elab.async false
set_option linter.all false
set_option autoImplicit false
set_option maxRecDepth 100000
set_option maxHeartbeats 4000000
namespace Mi
open PySem PySem.Spec PyProof.Rows L2
/-- the frame's slots, n of them -/
def padTo : Nat → MEnv → MEnv
  | 0, _ => []
  | n + 1, [] => none :: padTo n []
  | n + 1, o :: r => o :: padTo n r
/-- one item after the other; what raises is not mirrored -/
def compL (n : Nat) (t : FT) (f : FE) (ρ : MEnv) : List PV → R (List PV)
  | [] => .ok []
  | p :: r => match t (padTo n ρ ++ [some p]) with
    | .ok true => (match f (padTo n ρ ++ [some p]) with
      | .ok v => (match compL n t f ρ r with
        | .ok vs => .ok (v :: vs)
        | _ => .stuck)
      | _ => .stuck)
    | .ok false => compL n t f ρ r
    | _ => .stuck
def tTrue : FT := fun _ => .ok true
def compK (n : Nat) (t : FT) (f : FE) (ρ : MEnv) (l : List PV) : R PV := if l.length ≤ 1000000 then (match compL n t f ρ l with
  | .ok vs => .ok (.lst vs)
  | _ => .stuck) else .stuck
/-- [f for the name behind the n slots in it, where t] -/
def fComp (n : Nat) (it : FA) (t : FT) (f : FE) : FE := fun ρ => (it ρ).bind (compK n t f ρ)
theorem padTo_len : ∀ (n : Nat) (ρ : MEnv), (padTo n ρ).length = n
  | 0, _ => rfl
  | n + 1, [] => congrArg (· + 1) (padTo_len n [])
  | n + 1, _ :: r => congrArg (· + 1) (padTo_len n r)
theorem padTo_get : ∀ {n : Nat} {ρ : MEnv} {i : Nat} {p : PV}, (padTo n ρ)[i]? = some (some p) → ρ[i]? = some (some p)
  | 0, _, _, _, h => by simp [padTo] at h
  | n + 1, [], 0, _, h => by simp [padTo] at h
  | n + 1, [], i + 1, p, h => by
    have : (padTo n [])[i]? = some (some p) := by simpa [padTo] using h
    have := padTo_get this
    simp at this
  | n + 1, o :: r, 0, p, h => by simpa [padTo] using h
  | n + 1, o :: r, i + 1, p, h => by
    have : (padTo n r)[i]? = some (some p) := by simpa [padTo] using h
    simpa using padTo_get this
/-- a slot more -/
theorem Rep.snoc {K : PySem.W.Frag} {cl : Nat → Addr} {Hf0 H0 Hf H : Hp} {σ : SV} {ρ : MEnv} (r : Rep K cl Hf0 H0 Hf H σ ρ) {v : V} {p : PV} (hr : Rp K cl Hf v p) : Rep K cl Hf0 H0 Hf H (σ ++ [some v]) (padTo σ.length ρ ++ [some p]) := by
  have np : ∀ l, p ≠ .own l := fun l z => by subst z; cases hr
  have at_ : ∀ {i : Nat} {q : PV}, (padTo σ.length ρ ++ [some p])[i]? = some (some q) → (i < σ.length ∧ ρ[i]? = some (some q)) ∨ (i = σ.length ∧ q = p) := fun {i q} h => by
    by_cases hi : i < σ.length
    · rw [List.getElem?_append_left (by rw [padTo_len]; exact hi)] at h
      exact .inl ⟨hi, padTo_get h⟩
    · rw [List.getElem?_append_right (by rw [padTo_len]; omega), padTo_len] at h
      by_cases z : i = σ.length
      · subst z; simp at h; exact .inr ⟨rfl, h.symm⟩
      · rw [List.getElem?_eq_none (by simp; omega)] at h; cases h
  refine ⟨r.ext, fun i q h => ?_, fun i j ps qs a h1 h2 h3 h4 => ?_⟩
  · rcases at_ h with ⟨hi, h'⟩ | ⟨rfl, rfl⟩
    · obtain ⟨w, h1, h2⟩ := r.slot i q h'
      exact ⟨w, by rw [List.getElem?_append_left hi]; exact h1, h2⟩
    · refine ⟨v, by simp, ?_⟩
      cases q with
      | own l => exact absurd rfl (np l)
      | _ => exact hr
  · rcases at_ h1 with ⟨hi, h1'⟩ | ⟨rfl, e⟩
    · rcases at_ h2 with ⟨hj, h2'⟩ | ⟨rfl, e⟩
      · rw [List.getElem?_append_left hi] at h3
        rw [List.getElem?_append_left hj] at h4
        exact r.dist i j ps qs a h1' h2' h3 h4
      · exact absurd e.symm (np qs)
    · exact absurd e.symm (np ps)
/-- the block of a comprehension -/
def cxB (X : Cx) (Ns : List Str) (x : Str) (sc : Scope) (cs : List (Str × Addr)) (C : Addr) (s : Shared) (H : Hp) (fp : List Addr) : Cx :=
  { X with N := Ns ++ [x], s₀ := s, H₀ := H, env := compEnvC sc cs C X.env, outer := X.stack, stack := X.stack, ex := fp, fn := fun _ => false, pn := [], xe := fun _ _ => False }
/-- what is asked of the block's names -/
structure Cap (X : Cx) (Ns : List Str) (x : Str) (sc : Scope) (cs : List (Str × Addr)) : Prop where
  clos : closureFor sc X.env = pure cs
  kind : sc.kind = .function
  nocell : ∀ y ∈ sc.names, y.2 ≠ .cell
  names : ∀ y ∈ sc.names, y.2 = .local → sc.names.lookup y.1 = some .local
  here : sc.names.lookup x = some .local
  sub : ∀ y c, cs.lookup y = some c → X.env.cells.lookup y = some c
  has : ∀ y, ((relabel sc X.env).names.lookup y = some .cell ∨ (relabel sc X.env).names.lookup y = some .free) → ∃ c, cs.lookup y = some c
  vis : ∀ y ∈ Ns, Vis (relabel sc X.env) y → ((relabel sc X.env).names.lookup y = some .cell ∨ (relabel sc X.env).names.lookup y = some .free) ∧ (X.env.kindOf y = some .cell ∨ X.env.kindOf y = some .free)
  new : x ∉ Ns
  len : Ns.length = X.N.length
  same : ∀ (i : Nat) (y : Str), Ns[i]? = some y → Vis (relabel sc X.env) y → X.N[i]? = some y
section
variable {X : Cx} {cl : Nat → Addr} {pins : List (Addr × Obj)} {σ : SV} {H : Hp} {s : Shared} {Ns : List Str} {x : Str} {sc : Scope} {cs : List (Str × Addr)} {fp : List Addr}
theorem cxB_ok (I : Inv X pins σ H s) (c : Cap X Ns x sc cs) (hf : ∀ b ∈ fp, FpOk X pins H b) (hl : ∀ b ∈ fp, b < s.heap.objs.size) : (cxB X Ns x sc cs s.heap.objs.size s H fp).Ok where
  mod := I.ok.mod
  kind := c.kind
  glob := I.ok.glob
  blt := I.ok.blt
  above := Nat.le_refl _
  inj := fun y z d e1 e2 => I.ok.inj y z d (c.sub y d e1) (c.sub z d e2)
  has := fun y h => c.has y h
  cab := fun y d h => by cases h
  hd := I.ok.hd
  frames := I.ok.frames
  stk := .inl rfl
  exf := fun b hb => ⟨Nat.ne_of_lt (hl b hb), fun y d e => (hf b hb).2.2.2.2.1 y d (c.sub y d e)⟩
  bs := I.bs
  bsz := Nat.le_trans I.ok.bsz I.sz
  noex := fun b o e hb => by
    rcases (hf b hb).2.2.2.1 with z | z
    · exact I.ok.noex b o e z
    · exact absurd (Nat.lt_of_lt_of_le (Heap.lt_size e) (Nat.le_trans I.ok.bsz z)) (Nat.lt_irrefl _)
  exfs := fun b hb z => by
    rcases List.mem_cons.mp (I.stkSub b z) with e | e
    · exact (hf b hb).2.1 e
    · exact (hf b hb).2.2.1 e
  funs := I.stack
  frf := I.stkFree
theorem cxB_inv {h1 : Heap} {tk : Nat} (I : Inv X pins σ H s) (c : Cap X Ns x sc cs) (hf : ∀ b ∈ fp, FpOk X pins H b) (hl : ∀ b ∈ fp, b < s.heap.objs.size) (hn : h1.Ns s.heap.objs.size (fun _ => none)) (k : ∀ b o, s.heap.get? b = some o → h1.get? b = some o) :
    Inv (cxB X Ns x sc cs s.heap.objs.size s H fp) [] (σ ++ [none]) H { s with heap := h1, toks := tk } where
  ok := cxB_ok I c hf hl
  os := rfl
  bare := I.bare
  base := Un.kept k
  loc := by
    refine ⟨_, hn, fun i y v e1 e2 e3 => ?_⟩
    obtain ⟨m, _, lk⟩ := I.loc
    have hi : i < σ.length := by
      by_cases z : i < σ.length
      · exact z
      · rw [List.getElem?_append_right (by omega)] at e2
        by_cases z2 : i = σ.length
        · subst z2; simp at e2
        · rw [List.getElem?_eq_none (by simp; omega)] at e2; cases e2
    rw [List.getElem?_append_left hi] at e2
    have e1'' : Ns[i]? = some y := by
      have : (Ns ++ [x])[i]? = some y := e1
      rw [List.getElem?_append_left (by rw [c.len, ← I.len]; exact hi)] at this; exact this
    have e1' := c.same i y e1'' e3
    obtain ⟨k1, k2⟩ := c.vis y (List.mem_of_getElem? e1'') e3
    have v' : Vis X.env.scope y := .inr k2
    obtain ⟨u, ru, l⟩ := lk i y v e1' e2 v'
    refine ⟨u, ru, .inr ⟨k1, ?_⟩⟩
    rcases l with ⟨kl, _⟩ | ⟨_, d, ed, z⟩
    · rcases k2 with k2 | k2 <;> (rw [k2] at kl; cases kl)
    · obtain ⟨d', ed'⟩ := c.has y k1
      have := c.sub y d' ed'
      rw [ed] at this
      cases this
      obtain ⟨o, ho, hd⟩ := z
      exact ⟨d, ed', o, k _ _ ho, hd⟩
  cell := fun y d e => by
    obtain ⟨v, o, ho, hd⟩ := I.cell y d (c.sub y d e)
    exact ⟨v, o, k _ _ ho, hd⟩
  free := I.hok.fresh (Nat.le_refl _)
  freeC := fun y d e => I.freeC y d (c.sub y d e)
  pin := fun p hp => by cases hp
  hok := I.hok.kept k
  len := by show (σ ++ [none]).length = (Ns ++ [x]).length; rw [List.length_append, List.length_append, I.len, c.len]; rfl
theorem cxB_fp (c : Cap X Ns x sc cs) (I : Inv X pins σ H s) {H' : Hp} {C : Addr} {s0 : Shared} {H0 : Hp} (hC : ∀ b ∈ fp, b ≠ C) (hf : ∀ b ∈ fp, FpOk X pins H b) (hn : ∀ b ∈ fp, H' b = none) : ∀ b ∈ fp, FpOk (cxB X Ns x sc cs C s0 H0 fp) [] H' b := fun b hb =>
  ⟨hn b hb, hC b hb, fun z => (List.mem_cons.mp (I.stkSub b z)).elim (hf b hb).2.1 (hf b hb).2.2.1, .inl hb, fun y d e => (hf b hb).2.2.2.2.1 y d (c.sub y d e), fun p hp => by cases hp⟩
end
section
variable {prog : Program} {w : World} {A : Around} {R : Result → Shared → Prop} {s : Shared}
/-- the loop, with the step ahead of the store -/
theorem compLoop_let {elt target iter : Expr} {ifs : List Expr} {scope : Scope} {pos : Pos} {it acc : Value} {env : Env} (I : Nat → Shared → Prop)
    (turn : ∀ n s, I n s → wpAny (model prog w) A (pyNext it) (fun r s₁ => match r with
      | none => R (.ok .next) s₁
      | some v => wpAny (model prog w) A (letOwnedTupleGo target it v) (fun _ s₁' => wpAny (model prog w) A (assign target env v) (fun _ s₂ =>
          wpAny (model prog w) A (forIn ifs true fun c r => if r = true then do let ok ← isTrue c env (eval c env); pure (ForInStep.yield ok) else pure (ForInStep.yield r)) (fun ok s₃ =>
            if ok = true then wpAny (model prog w) A (eval elt env) (fun x s₄ =>
              wpAny (model prog w) A (call (.builtin "list.append") [acc, x]) (fun _ s₅ => ∃ m, m < n ∧ I m s₅) (fun _ _ => False) s₄) (fun _ _ => False) s₃
            else ∃ m, m < n ∧ I m s₃) (fun _ _ => False) s₂) (fun _ _ => False) s₁') (fun _ _ => False) s₁) (fun _ _ => False) s)
    (n : Nat) (h : I n s) :
    codeAny (model prog w) A (.compLoop (.ListComp elt [⟨target, iter, ifs, 0⟩] scope pos) 0 it acc env) R s := by
  refine codeAny_loop rfl I (fun n s hI => ?_) n h
  show wpAny _ A ((compTurn (.ListComp elt [⟨target, iter, ifs, 0⟩] scope pos) 0 it acc env).onRaise (fun x => do noteFrame x env; theTreesLotGoes x)) _ _ s
  refine wpAny_noted ?_
  rw [compTurn_list]
  refine wpAny_bind (wpAny_standAt (wpAny_bind (wpAny_mono (turn n s hI) (fun r s₁ h₁ => ?_) fun _ _ h' => h'.elim)))
  cases r with
  | none => exact wpAny_pure h₁
  | some v =>
    refine wpAny_bind (wpAny_mono h₁ (fun _ s₁' h₁' => ?_) fun _ _ h' => h'.elim)
    refine wpAny_bind (wpAny_mono h₁' (fun _ s₂ h₂ => wpAny_bind (wpAny_mono h₂ (fun ok s₃ h₃ => ?_) fun _ _ h' => h'.elim)) fun _ _ h' => h'.elim)
    cases ok with
    | false => exact wpAny_pure ⟨rfl, h₃⟩
    | true =>
      exact wpAny_bind (wpAny_bind (wpAny_mono h₃ (fun x s₄ h₄ => wpAny_bind (wpAny_mono h₄ (fun _ s₅ h₅ => wpAny_pure (wpAny_pure ⟨rfl, h₅⟩)) fun _ _ h' => h'.elim)) fun _ _ h' => h'.elim))
end
/-- the tests of a comprehension -/
inductive MC (X : Cx) (cl : Nat → Addr) : List Expr → FT → Prop where
  | nil : MC X cl [] tTrue
  | one {c : Expr} {t : FT} (h : MT X cl c t) : MC X cl [c] t
theorem compL_cons {n : Nat} {t : FT} {f : FE} {ρ : MEnv} {p : PV} {r rs : List PV} (h : compL n t f ρ (p :: r) = .ok rs) :
    (t (padTo n ρ ++ [some p]) = .ok false ∧ compL n t f ρ r = .ok rs) ∨ (t (padTo n ρ ++ [some p]) = .ok true ∧ ∃ v vs, f (padTo n ρ ++ [some p]) = .ok v ∧ compL n t f ρ r = .ok vs ∧ rs = v :: vs) := by
  unfold compL at h
  split at h
  · rename_i e1
    split at h
    · rename_i v e2
      split at h
      · rename_i vs e3
        cases h
        exact .inr ⟨e1, v, vs, e2, e3, rfl⟩
      · cases h
    · cases h
  · rename_i e1; exact .inl ⟨e1, h⟩
  · cases h
section
variable {X : Cx} {cl : Nat → Addr}
theorem mc_run {ifs : List Expr} {t : FT} (h : MC X cl ifs t) {pins : List (Addr × Obj)} {s : Shared} {σ : SV} {Hf0 H0 Hf H : Hp} {ρ : MEnv} {b : Bool} (I : Inv X pins σ H s) (r : Rep X.K cl Hf0 H0 Hf H σ ρ) (e : t ρ = .ok b) {Q : Bool → Shared → Prop}
    (ok : ∀ s' Hf' H', Inv X pins σ H' s' → Ext Hf H Hf' H' → Q b s') :
    wpAny (model X.prog X.w) X.A (forIn ifs true fun c r => if r = true then do let ok ← isTrue c X.env (eval c X.env); pure (ForInStep.yield ok) else pure (ForInStep.yield r)) Q (fun _ _ => False) s := by
  cases h with
  | nil =>
    cases e
    exact wpAny_tests_nil (ok s Hf H I (Ext.refl r.sub))
  | one h =>
    refine wpAny_tests_one (wpAny_mono (h pins s σ Hf0 H0 Hf H ρ I r (by rw [e]; intro z; cases z)) (fun b' s' q => ?_) fun u s' q => ?_)
    · obtain ⟨Hf', H', e1, I', x⟩ := q
      rw [e] at e1; cases e1
      exact ok s' Hf' H' I' x
    · obtain ⟨c, e1, _⟩ := q
      rw [e] at e1; cases e1
theorem Ext.freeze {Hf H Hf1 H1 : Hp} (x : Ext Hf H Hf1 H1) {l : Addr} {o : HO} (h1 : H1 l = some o) (h2 : Hf1 l = none) (h3 : H l = none) : Ext Hf H (upd Hf1 l o) H1 := by
  refine ⟨x.all, fun b u q => ?_, fun b u q => ?_, fun b n => ?_⟩
  · have := x.frz b u q
    by_cases e : b = l
    · subst e; rw [h2] at this; cases this
    · rw [upd_ne e]; exact this
  · by_cases e : b = l
    · subst e; rw [upd_same] at q; cases q; exact h1
    · rw [upd_ne e] at q; exact x.sub b u q
  · have e : b ≠ l := fun z => n (by rw [z]; exact h3)
    rw [upd_ne e]; exact x.old b n
theorem comp_run {elt iter : Expr} {Ns : List Str} {x : Str} {px pos pos' : Pos} {sc : Scope} {cs : List (Str × Addr)} {ifs : List Expr} {fa : FA} {t : FT} {f : FE} {n : Nat} {use : Option (Value → Sem Unit)} {Q : Value → Shared → Prop} {E : Value → Shared → Prop}
    {pins : List (Addr × Obj)} {s : Shared} {σ : SV} {Hf0 H0 Hf H : Hp} {ρ : MEnv} (hc : X.calm = true) (c0 : X.Ok → Cap X Ns x sc cs) (hn : X.N.length = n) (hnd : (Ns ++ [x]).Nodup) (hi : MI X cl (.Name x px) iter fa)
    (ht : ∀ C s H fp, MC (cxB X Ns x sc cs C s H fp) cl ifs t) (hb : ∀ C s H fp, ME (cxB X Ns x sc cs C s H fp) cl elt f) (hfs : ∀ y, foldedSetIterable iter X.env y = pure y)
    (I : Inv X pins σ H s) (r : Rep X.K cl Hf0 H0 Hf H σ ρ) (hs : fComp n fa t f ρ ≠ .stuck) (hE : ∀ u s', ExP X cl pins σ Hf H (fa ρ) u s' → E u s')
    (hQ : ∀ (rs : List PV) (s5 : Shared) (Hf5 H5 : Hp) (l C : Addr), fComp n fa t f ρ = .ok (.lst rs) → Inv X pins σ H5 s5 → Ext Hf H Hf5 H5 → Rp X.K cl Hf5 (.ref l) (.lst rs) → FpOk X pins H5 C → (∃ m, s5.heap.Ns C m) → compPost (model X.prog X.w) X.A E use Q (.ref l) C (.ok .next) s5) :
    wpAny (model X.prog X.w) X.A (comprehension (.ListComp elt [⟨.Name x px, iter, ifs, 0⟩] sc pos) sc X.env pos' (newList []) false (eval iter X.env) use) Q E s := by
  have c := c0 I.ok
  have hfr : fa ρ ≠ .stuck := fun z => hs (by unfold fComp; rw [z]; rfl)
  refine wpAny_comprehension_free (use := use) rfl hfs c.clos c.kind c.names (wpAny_mono (hi pins s σ Hf0 H0 Hf H ρ I r hfr) (fun xv s1 h1 => wpAny_mono h1 (fun itv s2 h2 => ?_) hE) hE)
  obtain ⟨ps, vs, Hf2, e1, it, fp, tn, J, H2, e, I2, T, st2, f2, x2, ov, rps⟩ := h2
  subst e
  have ef : fComp n fa t f ρ = compK n t f ρ ps := by unfold fComp; rw [e1]; rfl
  have hs' : compK n t f ρ ps ≠ .stuck := by rw [← ef]; exact hs
  obtain ⟨hz, rs, ec, ek⟩ : ps.length ≤ 1000000 ∧ ∃ rs, compL n t f ρ ps = .ok rs ∧ compK n t f ρ ps = .ok (.lst rs) := by
    unfold compK at hs' ⊢
    by_cases hz : ps.length ≤ 1000000
    · rw [if_pos hz] at hs' ⊢
      cases ec : compL n t f ρ ps with
      | ok rs => exact ⟨hz, rs, rfl, rfl⟩
      | exc d => rw [ec] at hs'; exact absurd rfl hs'
      | stuck => rw [ec] at hs'; exact absurd rfl hs'
    · rw [if_neg hz] at hs'; exact absurd rfl hs'
  have ek' : fComp n fa t f ρ = .ok (.lst rs) := ef.trans ek
  have nsm : H2 s2.heap.objs.size = none := I2.hok.fresh (Nat.le_refl _)
  have fpl : ∀ b ∈ fp, b < s2.heap.objs.size := fun b hb => by
    obtain ⟨o, ho, _⟩ := T.obj _ _ st2 b hb
    exact Heap.lt_size ho
  refine wpAny_newList ?_
  have k3 : ∀ b u, s2.heap.get? b = some u → (s2.heap.push { cls := .type "list", data := .seq ([] : List Value).toArray }).get? b = some u := fun b u q => Heap.get?_push_of_some _ q
  have I3 : Inv X pins σ (upd H2 s2.heap.objs.size (.lst [])) { s2 with heap := s2.heap.push { cls := .type "list", data := .seq ([] : List Value).toArray } } :=
    I2.laid (a := s2.heap.objs.size) (o := .lst []) (t' := s2.toks) k3 (Nat.le_refl _) ⟨Nat.zero_le _, [], 0, .nil, Heap.get?_push_size _ rfl⟩
  generalize hl : s2.heap.objs.size = l at *
  have hf3 : ∀ b ∈ fp, FpOk X pins (upd H2 l (.lst [])) b := fun b hb => ⟨by rw [upd_ne (Nat.ne_of_lt (fpl b hb))]; exact (f2 b hb).1, (f2 b hb).2⟩
  generalize hs3 : ({ s2 with heap := s2.heap.push { cls := .type "list", data := .seq ([] : List Value).toArray } } : Shared) = s3 at I3 ⊢
  have hl3 : ∀ b ∈ fp, b < s3.heap.objs.size := fun b hb => by
    rw [← hs3]
    show b < (s2.heap.push _).objs.size
    rw [Heap.size_push, hl]; exact Nat.lt_succ_of_lt (fpl b hb)
  have st3 : tn 0 s3.heap := T.keep _ _ _ st2 fun b _ o e => by rw [← hs3]; exact k3 b o e
  refine wpAny_newFunctionEnv c.nocell (by intro y hy; simp at hy) (fun h1 hn1 hsb => ?_) c.kind
  have kC : ∀ b o, s3.heap.get? b = some o → h1.get? b = some o := fun b o e => hsb.extBut b o (Nat.ne_of_lt (Heap.lt_size e)) (Heap.get?_push_of_some _ e)
  have IB := cxB_inv (tk := s3.toks + ([] : List (Str × Value)).length) I3 c hf3 hl3 hn1 kC
  have x3 : Ext Hf2 H2 Hf2 (upd H2 l (.lst [])) := Ext.newH x2.sub nsm (.lst [])
  have hf2l : Hf2 l = none := x2.sub.free nsm
  have stB : tn 0 h1 := T.keep _ _ _ st3 fun b _ o e => kC b o e
  have rk := r.keep x2
  have hsl : σ.length = n := by rw [I.len, hn]
  have hvp := rps.length
  have hNn : Ns.length = n := c.len.trans hn
  have hNi : (Ns ++ [x])[n]? = some x := by rw [List.getElem?_append_right (by omega), hNn]; simp
  have hLx : (relabel sc X.env).names.lookup x = some .local := lookup_relabel_local c.here
  have hCf : ∀ b ∈ fp, b ≠ s3.heap.objs.size := fun b hb => Nat.ne_of_lt (hl3 b hb)
  have stat : ∀ {H' : Hp}, (∀ b ∈ fp, H' b = none) → ∀ b ∈ fp, FpOk (cxB X Ns x sc cs s3.heap.objs.size s3 (upd H2 l (.lst [])) fp) [] H' b := fun hn' => cxB_fp c I3 hCf hf3 hn'
  have hbb := hb s3.heap.objs.size s3 (upd H2 l (.lst [])) fp
  have htt := ht s3.heap.objs.size s3 (upd H2 l (.lst [])) fp
  have loop : codeAny (model X.prog X.w) X.A (.compLoop (.ListComp elt [⟨.Name x px, iter, ifs, 0⟩] sc pos) 0 (.ref it) (.ref l) (compEnvC sc cs s3.heap.objs.size X.env))
      (compPost (model X.prog X.w) X.A E use Q (.ref l) s3.heap.objs.size) { s3 with heap := h1, toks := s3.toks + ([] : List (Str × Value)).length } := by
    refine compLoop_let (fun m s' => ∃ (k : Nat) (ys : List V) (qs rest : List PV) (Hf' H' : Hp) (v : Option V), Inv (cxB X Ns x sc cs s3.heap.objs.size s3 (upd H2 l (.lst [])) fp) [] (σ ++ [v]) H' s' ∧ tn k s'.heap ∧ (∀ b ∈ fp, H' b = none) ∧ Ext Hf2 H2 Hf' H' ∧ H' l = some (.lst ys) ∧ Hf' l = none ∧
      Rps X.K cl Hf' ys qs ∧ m = ps.length - k ∧ k ≤ ps.length ∧ qs.length ≤ k ∧ compL n t f ρ (ps.drop k) = .ok rest ∧ qs ++ rest = rs) ?_ ps.length
      ⟨0, [], [], rs, Hf2, upd H2 l (.lst []), none, IB, stB, fun b hb => (hf3 b hb).1, x3, upd_same, hf2l, .nil, by omega, Nat.zero_le _, Nat.zero_le _, ec, rfl⟩
    rintro m s4 ⟨k, ys, qs, rest, Hf4, H4, v4, I4, st4, fr4, x4, hl4, hfl4, rq, rfl, hk, hqk, e4, eq4⟩
    have smH : Same Hf2 H4 := x4.frz.trans x4.sub
    by_cases hlt : k < ps.length
    · obtain ⟨go, yl⟩ := (ov H4 k smH).1 (by rw [hvp]; exact hlt)
      refine wpAny_mono (T.item (cxB X Ns x sc cs s3.heap.objs.size s3 (upd H2 l (.lst [])) fp) rfl rfl rfl hc k [] s4 (σ ++ [v4]) H4 (fun _ _ => False) I4 (stat fr4) st4 go) (fun rr s5 ⟨u, hr, h5⟩ => ?_) fun _ _ z => z
      subst hr
      refine thn h5 fun _ s6 ⟨x6, H6, I6, r6, y6, st6, fr6⟩ => ?_
      obtain ⟨eH, ex6⟩ := yl x6 H6 y6
      subst eH
      obtain ⟨p6, ep6, rp6⟩ := rps.get' ex6
      have rp6' := rp6.keep x4.frz
      have hdrop : ps.drop k = p6 :: ps.drop (k + 1) := by
        rw [List.drop_eq_getElem_cons hlt]
        rw [List.getElem?_eq_getElem hlt] at ep6
        rw [Option.some.inj ep6]
      rw [hdrop] at e4
      have I6' := I6.pinned (stat fr6) (T.obj _ _ st6)
      refine wpAny_assign_Name (store_ok (X := cxB X Ns x sc cs s3.heap.objs.size s3 (upd H2 l (.lst [])) fp) I6' hnd hNi (.inl hLx) r6 (fun s7 I7 => ?_) (.inr hLx))
      have eσ : (σ ++ [v4]).set n (some x6) = σ ++ [some x6] := by rw [← hsl, List.set_append_right _ _ (Nat.le_refl _)]; simp
      rw [eσ] at I7
      have r7 := (rk.keep x4).snoc rp6'
      rw [hsl] at r7
      have again : ∀ {s9 : Shared} {Hf9 H9 : Hp} {ys9 : List V} {qs9 rest9 : List PV}, Inv (cxB X Ns x sc cs s3.heap.objs.size s3 (upd H2 l (.lst [])) fp) ([] ++ pinsAt fp s6.heap) (σ ++ [some x6]) H9 s9 → Ext Hf2 H2 Hf9 H9 → H9 l = some (.lst ys9) → Hf9 l = none → Rps X.K cl Hf9 ys9 qs9 → qs9.length ≤ k + 1 →
          compL n t f ρ (ps.drop (k + 1)) = .ok rest9 → qs9 ++ rest9 = rs →
          ∃ m, m < ps.length - k ∧ ∃ (k : Nat) (ys : List V) (qs rest : List PV) (Hf' H' : Hp) (v : Option V), Inv (cxB X Ns x sc cs s3.heap.objs.size s3 (upd H2 l (.lst [])) fp) [] (σ ++ [v]) H' s9 ∧ tn k s9.heap ∧ (∀ b ∈ fp, H' b = none) ∧ Ext Hf2 H2 Hf' H' ∧ H' l = some (.lst ys) ∧ Hf' l = none ∧
            Rps X.K cl Hf' ys qs ∧ m = ps.length - k ∧ k ≤ ps.length ∧ qs.length ≤ k ∧ compL n t f ρ (ps.drop k) = .ok rest ∧ qs ++ rest = rs := fun {s9 Hf9 H9 ys9 qs9 rest9} I9 x9 hl9 hfl9 rq9 hq9 ec9 eq9 => by
        refine ⟨ps.length - (k + 1), by omega, k + 1, ys9, qs9, rest9, Hf9, H9, some x6, I9.unpinned, T.keep _ _ _ st6 fun b hb o e => (I9.pin (b, o) (List.mem_append_right _ (List.mem_append_right _ (mem_pinsAt hb e)))).1, fun b hb => ?_, x9, hl9, hfl9, rq9, rfl, hlt, hq9, ec9, eq9⟩
        obtain ⟨o, e, d⟩ := T.obj _ _ st6 b hb
        exact (I9.pin (b, o) (List.mem_append_right _ (List.mem_append_right _ (mem_pinsAt hb e)))).2.1
      have nl4 : H6 l ≠ none := by rw [hl4]; intro z; cases z
      rcases compL_cons e4 with ⟨et, e5⟩ | ⟨et, v, vs', ef, e5, er⟩
      · refine mc_run htt I7 r7 et fun s8 Hf8 H8 I8 x8 => ?_
        rw [if_neg (by decide)]
        exact again I8 (x4.trans x8) (x8.all _ _ hl4) (by rw [x8.old l nl4]; exact hfl4) (rq.keep x8.frz) (by omega) e5 eq4
      · refine mc_run htt I7 r7 et fun s8 Hf8 H8 I8 x8 => ?_
        rw [if_pos rfl]
        have r8 := r7.keep x8
        refine wpAny_mono (hbb _ s8 _ Hf0 H0 Hf8 H8 _ I8 r8 (by rw [ef]; intro z; cases z)) (fun u s9 q9 => ?_) fun u s9 q9 => ?_
        · obtain ⟨p9, v9, Hf9, H9, e9, I9, rv9, x9, rp9⟩ := q9
          rw [ef] at e9; cases e9
          have hl8 : H8 l = some (.lst ys) := x8.all _ _ hl4
          have hl9 : H9 l = some (.lst ys) := x9.all _ _ hl8
          have hfl9 : Hf9 l = none := by rw [x9.old l (by rw [hl8]; intro z; cases z), x8.old l nl4]; exact hfl4
          refine thn (mt_append (X := cxB X Ns x sc cs s3.heap.objs.size s3 (upd H2 l (.lst [])) fp) _ s9 _ H9 (.ref l) [v9] (.ref l) [u] (fun w H' => H' = upd H9 l (.lst (ys ++ [v9]))) I9 rfl (.cons rv9 .nil) ⟨l, ys, v9, rfl, rfl, hl9, by rw [rq.length]; exact Nat.lt_of_le_of_lt (show qs.length ≤ 1000000 by omega) (by decide), rfl⟩) fun w s10 ⟨w', H10, I10, _, q10⟩ => ?_
          subst q10
          have x49 := (x4.trans x8).trans x9
          have x10 : Ext Hf2 H2 Hf9 (upd H9 l (.lst (ys ++ [v9]))) := by
            refine ⟨fun b o q => ?_, x49.frz, fun b o q => ?_, x49.old⟩
            · have e : b ≠ l := fun z => by rw [z, nsm] at q; cases q
              rw [upd_ne e]; exact x49.all b o q
            · have e : b ≠ l := fun z => by rw [z, hfl9] at q; cases q
              rw [upd_ne e]; exact x49.sub b o q
          exact again I10 x10 upd_same hfl9 (((rq.keep x8.frz).keep x9.frz).append (.cons rp9 .nil)) (by rw [List.length_append]; simp; omega) e5 (by rw [List.append_assoc, ← eq4, er]; rfl)
        · obtain ⟨d, e9, _⟩ := q9
          rw [ef] at e9; cases e9
    · have hke : k = ps.length := by omega
      subst hke
      refine wpAny_mono (T.done (cxB X Ns x sc cs s3.heap.objs.size s3 (upd H2 l (.lst [])) fp) rfl rfl rfl hc ps.length [] s4 (σ ++ [v4]) H4 (fun _ _ => False) I4 (stat fr4) st4 ((ov H4 ps.length smH).2 (by rw [hvp]; exact Nat.le_refl _))) (fun rr s5 ⟨hr, I5⟩ => ?_) fun _ _ z => z
      subst hr
      rw [List.drop_length] at e4
      cases e4
      rw [List.append_nil] at eq4
      subst eq4
      obtain ⟨m5, hn5, _⟩ := I5.loc
      have xx := x2.trans x4
      have hHl : H l = none := by
        cases q : H l with
        | none => rfl
        | some o => have := x2.all l o q; rw [nsm] at this; cases this
      have IX : Inv X pins σ H4 s5 := I3.call' I5.os I5.base I5.hok I5.bare fun b hb => ⟨(hf3 b hb).2.2.2.1, (hf3 b hb).2.1, (hf3 b hb).2.2.2.2.1, (hf3 b hb).2.2.2.2.2⟩
      exact hQ qs s5 (upd Hf4 l (.lst ys)) H4 l s3.heap.objs.size ek' IX (xx.freeze hl4 hfl4 hHl) (.lst (SqL.of upd_same) (rq.keep (same_upd hfl4 _))) (I3.fpOk (Nat.le_refl _) I5.free) ⟨m5, hn5⟩
  exact codeAny_compStart_list loop (T.self _ 0 _ _ _ stB loop)
/-- the block's own names are let go -/
theorem inv_letgo {pins : List (Addr × Obj)} {s : Shared} {σ : SV} {H : Hp} {C : Addr} {h' : Heap} (I : Inv X pins σ H s) (hf : FpOk X pins H C) (hs : Heap.SameBut C s.heap h') : Inv X pins σ H { s with heap := h' } :=
  I.turned (t' := s.toks) (fun b o hb e => (hs.2 b hb).trans e) hf.1 hf.2.1 hf.2.2.2.1 hf.2.2.2.2.1 hf.2.2.2.2.2
theorem me_comp {elt iter : Expr} {Ns : List Str} {x : Str} {px pos : Pos} {sc : Scope} {cs : List (Str × Addr)} {ifs : List Expr} {fa : FA} {t : FT} {f : FE} {n : Nat} (hc : X.calm = true) (c0 : X.Ok → Cap X Ns x sc cs) (hn : X.N.length = n) (hnd : (Ns ++ [x]).Nodup) (hi : MI X cl (.Name x px) iter fa)
    (ht : ∀ C s H fp, MC (cxB X Ns x sc cs C s H fp) cl ifs t) (hb : ∀ C s H fp, ME (cxB X Ns x sc cs C s H fp) cl elt f) (hfs : ∀ y, foldedSetIterable iter X.env y = pure y := by intro _; rfl) :
    ME X cl (.ListComp elt [⟨.Name x px, iter, ifs, 0⟩] sc pos) (fComp n fa t f) := by
  refine ⟨?_⟩
  intro pins s σ Hf0 H0 Hf H ρ I r hs
  rw [eval_ListComp]
  refine comp_run hc c0 hn hnd hi ht hb hfs I r hs (fun u s' ⟨d, e1, y⟩ => ⟨d, by unfold fComp; rw [e1]; rfl, y⟩) fun rs s5 Hf5 H5 l C ek I5 x5 rp hf ⟨m, hm⟩ => ?_
  exact ⟨m, hm, fun h' hsC => ⟨.lst rs, .ref l, Hf5, H5, ek, inv_letgo I5 hf hsC, rfl, x5, rp⟩⟩
end
end Mi
set_option Elab.async false
set_option linter.all false
set_option autoImplicit false
set_option maxRecDepth 100000
set_option maxHeartbeats 4000000
namespace Mi
open PySem PySem.Spec PyProof.Rows L2
/-- the cells that a block takes from around -/
def csOf (sc : Scope) (env : Env) : List (Str × Addr) := sc.names.foldl (fun cs y => if y.2 == .free then (y.1, (env.cells.lookup y.1).getD 0) :: cs else cs) []
theorem clos_of {sc : Scope} {env : Env} (h : ∀ y ∈ sc.names, y.2 = .free → ∃ c, env.cells.lookup y.1 = some c) : closureFor sc env = pure (csOf sc env) := by
  unfold closureFor csOf
  generalize sc.names = l at h
  have go : ∀ (l : List (Str × NameKind)) (cs : List (Str × Addr)), (∀ y ∈ l, y.2 = .free → ∃ c, env.cells.lookup y.1 = some c) →
      (forIn l cs (fun (x : Str × NameKind) (r : List (Str × Addr)) => match x with
        | (name, kind) => if (kind == NameKind.free) = true then do
            let a ← cellOf env name
            pure (ForInStep.yield ((name, a) :: r)) else pure (ForInStep.yield r)) : Sem (List (Str × Addr))) = pure (l.foldl (fun cs y => if y.2 == .free then (y.1, (env.cells.lookup y.1).getD 0) :: cs else cs) cs) := by
    intro l
    induction l with
    | nil => intro cs _; rfl
    | cons y r ih =>
      intro cs hl
      obtain ⟨n, k⟩ := y
      rw [List.forIn_cons, List.foldl_cons]
      by_cases hk : (k == NameKind.free) = true
      · obtain ⟨d, hd⟩ := hl (n, k) List.mem_cons_self (by simpa using hk)
        have e : cellOf env n = pure d := by
          have hd' : env.cells.lookup n = some d := hd
          unfold cellOf; rw [hd']
        have hd' : env.cells.lookup n = some d := hd
        dsimp only
        rw [if_pos hk, if_pos hk, e, hd']
        exact ih _ fun z hz => hl z (List.mem_cons_of_mem _ hz)
      · dsimp only
        rw [if_neg hk, if_neg hk]
        exact ih _ fun z hz => hl z (List.mem_cons_of_mem _ hz)
  exact (congrArg (fun (m : Sem (List (Str × Addr))) => m >>= fun cs => pure cs) (go l [] h)).trans rfl
theorem csOf_go {env : Env} : ∀ (l : List (Str × NameKind)) (cs : List (Str × Addr)) (y : Str) (c : Addr), (∀ z ∈ l, z.2 = .free → ∃ c, env.cells.lookup z.1 = some c) →
    (l.foldl (fun cs y => if y.2 == .free then (y.1, (env.cells.lookup y.1).getD 0) :: cs else cs) cs).lookup y = some c → cs.lookup y = some c ∨ env.cells.lookup y = some c
  | [], _, _, _, _, h => .inl h
  | (n, k) :: r, cs, y, c, hl, h => by
    rw [List.foldl_cons] at h
    rcases csOf_go r _ y c (fun z hz => hl z (List.mem_cons_of_mem _ hz)) h with q | q
    · by_cases hk : (k == NameKind.free) = true
      · rw [if_pos hk] at q
        obtain ⟨d, hd⟩ := hl (n, k) List.mem_cons_self (by simpa using hk)
        have hd' : env.cells.lookup n = some d := hd
        rw [hd', List.lookup_cons] at q
        by_cases e : y == n
        · rw [e] at q
          have e' := beq_iff_eq.mp e
          subst e'
          exact .inr (by rw [hd']; exact q)
        · have e2 : (y == n) = false := by simpa using e
          rw [e2] at q; exact .inl q
      · rw [if_neg hk] at q; exact .inl q
    · exact .inr q
theorem csOf_has {env : Env} : ∀ (l : List (Str × NameKind)) (cs : List (Str × Addr)) (y : Str), ((∃ c, cs.lookup y = some c) ∨ (y, NameKind.free) ∈ l) →
    ∃ c, (l.foldl (fun cs y => if y.2 == .free then (y.1, (env.cells.lookup y.1).getD 0) :: cs else cs) cs).lookup y = some c
  | [], cs, y, h => by
    rcases h with h | h
    · exact h
    · cases h
  | (n, k) :: r, cs, y, h => by
    rw [List.foldl_cons]
    refine csOf_has r _ y ?_
    rcases h with ⟨c, h⟩ | h
    · left
      by_cases hk : (k == NameKind.free) = true
      · rw [if_pos hk, List.lookup_cons]
        by_cases e : (y == n) = true
        · rw [e]; exact ⟨_, rfl⟩
        · have e2 : (y == n) = false := by simpa using e
          rw [e2]; exact ⟨c, h⟩
      · rw [if_neg hk]; exact ⟨c, h⟩
    · rcases List.mem_cons.mp h with e | e
      · left
        have e1 : y = n := congrArg Prod.fst e
        have e2 : NameKind.free = k := congrArg Prod.snd e
        subst e1 e2
        rw [if_pos (by rfl), List.lookup_cons]
        have : (y == y) = true := beq_self_eq_true y
        rw [this]; exact ⟨_, rfl⟩
      · exact .inr e
/-- reckoned: what is asked of a block's names -/
def capB (N : List Str) (x : Str) (sc es : Scope) : Bool :=
  sc.kind == .function && es.kind == .function && (sc.names.all fun y => y.2 != .cell) && (sc.names.all fun y => y.2 != .local || sc.names.lookup y.1 == some .local) && (sc.names.lookup x == some .local) &&
  (sc.names.all fun y => y.2 != .free || es.names.lookup y.1 == some .cell || es.names.lookup y.1 == some .free) && (N.all fun y => sc.names.lookup y != some .local) && !N.contains x
theorem lookup_mem' {α : Type} : ∀ {l : List (Str × α)} {y : Str} {k : α}, l.lookup y = some k → (y, k) ∈ l
  | [], _, _, h => by cases h
  | (n, j) :: r, y, k, h => by
    rw [List.lookup_cons] at h
    by_cases e : (y == n) = true
    · rw [e] at h; cases h
      rw [beq_iff_eq.mp e]; exact List.mem_cons_self
    · have e2 : (y == n) = false := by simpa using e
      rw [e2] at h
      exact List.mem_cons_of_mem _ (lookup_mem' h)
theorem relabel_go (cond : Str → NameKind → Bool) (hcond : ∀ n k, cond n k = true → k = .free) : ∀ {l : List (Str × NameKind)} {y : Str} {k : NameKind},
    (l.map fun z => if cond z.1 z.2 then (z.1, NameKind.cell) else (z.1, z.2)).lookup y = some k → (l.lookup y = some k) ∨ (k = .cell ∧ l.lookup y = some .free)
  | [], _, _, h => by cases h
  | (n, j) :: r, y, k, h => by
    rw [List.map_cons] at h
    dsimp only at h
    by_cases hc : cond n j = true
    · rw [if_pos hc, List.lookup_cons] at h
      rw [List.lookup_cons]
      by_cases e : (y == n) = true
      · rw [e] at h ⊢
        cases h
        right; exact ⟨rfl, by rw [hcond n j hc]⟩
      · have e2 : (y == n) = false := by simpa using e
        rw [e2] at h ⊢
        exact relabel_go cond hcond h
    · rw [if_neg hc, List.lookup_cons] at h
      rw [List.lookup_cons]
      by_cases e : (y == n) = true
      · rw [e] at h ⊢; exact .inl h
      · have e2 : (y == n) = false := by simpa using e
        rw [e2] at h ⊢
        exact relabel_go cond hcond h
theorem relabel_kind {sc : Scope} {env : Env} {y : Str} {k : NameKind} (h : (relabel sc env).names.lookup y = some k) : (sc.names.lookup y = some k) ∨ (k = .cell ∧ sc.names.lookup y = some .free) :=
  relabel_go (fun n k => k == NameKind.free && env.scope.kind == .function && env.kindOf n == some .cell) (fun n k h => beq_iff_eq.mp (Bool.and_eq_true_iff.mp (Bool.and_eq_true_iff.mp h).1).1) h
theorem cap_of {X : Cx} {Ns : List Str} {x : Str} {sc : Scope} (h : capB Ns x sc X.env.scope = true) (hl : Ns.length = X.N.length) (hsm : ∀ (i : Nat) (y : Str), Ns[i]? = some y → Vis (relabel sc X.env) y → X.N[i]? = some y) (ok : X.Ok) : Cap X Ns x sc (csOf sc X.env) := by
  unfold capB at h
  simp only [Bool.and_eq_true, beq_iff_eq, List.all_eq_true, Bool.or_eq_true, bne_iff_ne, ne_eq, Bool.not_eq_true'] at h
  obtain ⟨⟨⟨⟨⟨⟨⟨h1, h2⟩, h3⟩, h4⟩, h5⟩, h6⟩, h7⟩, h8⟩ := h
  have free : ∀ y ∈ sc.names, y.2 = .free → (X.env.kindOf y.1 = some .cell ∨ X.env.kindOf y.1 = some .free) := fun y hy e => by
    rcases h6 y hy with (z | z) | z
    · exact absurd e z
    · exact .inl z
    · exact .inr z
  have cells : ∀ y ∈ sc.names, y.2 = .free → ∃ c, X.env.cells.lookup y.1 = some c := fun y hy e => ok.has y.1 (free y hy e)
  have kinds : ∀ y, ((relabel sc X.env).names.lookup y = some .cell ∨ (relabel sc X.env).names.lookup y = some .free) → (y, NameKind.free) ∈ sc.names := fun y hy => by
    rcases hy with hy | hy
    · rcases relabel_kind hy with z | ⟨_, z⟩
      · exact absurd rfl (h3 (y, .cell) (lookup_mem' z))
      · exact lookup_mem' z
    · rcases relabel_kind hy with z | ⟨z, _⟩
      · exact lookup_mem' z
      · cases z
  refine ⟨clos_of cells, h1, fun y hy => h3 y hy, fun y hy e => ?_, h5, fun y c e => ?_, fun y hy => csOf_has _ _ y (.inr (kinds y hy)), fun y hy v => ?_, fun z => ?_, hl, hsm⟩
  · rcases h4 y hy with z | z
    · exact absurd e z
    · exact z
  · rcases csOf_go _ _ y c cells e with q | q
    · cases q
    · exact q
  · rcases v with v | v
    · exfalso
      rcases relabel_kind v with z | ⟨z, _⟩
      · exact h7 y hy z
      · cases z
    · exact ⟨v, free _ (kinds y v) rfl⟩
  · rw [List.contains_iff_mem.mpr z] at h8; cases h8
section
variable {P : Program} {w : World} {K : PySem.W.Frag} {mg : Str → Option Value} {base : Heap} {cl : Nat → Addr}
theorem mcomp {N : List Str} {qual : Str} {scope : Scope} {f : Addr} {cd : Value} {A : Around} {outer : List Env} {s : Shared} {H : Hp} {E : XK} {elt iter : Expr} {x : Str} {px pos : Pos} {sc : Scope} {ifs : List Expr} {fa : FA} {t : FT} {g : FE} {n : Nat}
    (hnd : N.Nodup) (hcap : capB N x sc scope = true) (hn : N.length = n) (hi : MI (cxM P w K mg base cl N qual scope f cd A outer s H E) cl (.Name x px) iter fa)
    (ht : ∀ C s' H' fp, MC (cxB (cxM P w K mg base cl N qual scope f cd A outer s H E) N x sc (csOf sc (cxM P w K mg base cl N qual scope f cd A outer s H E).env) C s' H' fp) cl ifs t)
    (hb : ∀ C s' H' fp, ME (cxB (cxM P w K mg base cl N qual scope f cd A outer s H E) N x sc (csOf sc (cxM P w K mg base cl N qual scope f cd A outer s H E).env) C s' H' fp) cl elt g)
    (hfs : ∀ y, foldedSetIterable iter (cxM P w K mg base cl N qual scope f cd A outer s H E).env y = pure y := by intro _; rfl) :
    ME (cxM P w K mg base cl N qual scope f cd A outer s H E) cl (.ListComp elt [⟨.Name x px, iter, ifs, 0⟩] sc pos) (fComp n fa t g) := by
  refine me_comp rfl (fun ok => cap_of hcap rfl (fun _ _ h _ => h) ok) hn ?_ hi ht hb hfs
  show (N ++ [x]).Nodup
  have hx : x ∉ N := fun z => by
    unfold capB at hcap
    have := (Bool.and_eq_true_iff.mp hcap).2
    rw [List.contains_iff_mem.mpr z] at this; cases this
  exact List.nodup_append.mpr ⟨hnd, List.nodup_cons.mpr ⟨List.not_mem_nil, List.nodup_nil⟩, fun a ha b hb e => hx (by
    rw [List.mem_singleton] at hb; rw [← hb, ← e]; exact ha)⟩
end
end Mi
set_option Elab.async false
set_option linter.all false
set_option autoImplicit false
set_option maxRecDepth 100000
set_option maxHeartbeats 4000000
namespace Mi
open PySem PySem.Spec PyProof.Rows L2
/-- what getting a text's method gives -/
def GetS (m : Str) (id : String) : Prop := ∀ {M : Model} {A : Around} {E : Value → Shared → Prop} {s : Shared} {x : Str} {t : Tok} {pl : Sem Bool} {Q : Value × List Value → Shared → Prop},
  Q (Value.builtin id, [Value.str x t]) s → wpAny M A (getMethod (Value.str x t) m pl) Q E s
def strK (F : List PV → R PV) (gv : R (List PV)) : PV → R PV
  | .str z => gv.bind fun vs => F (.str z :: vs)
  | _ => .stuck
theorem strK_ns {F : List PV → R PV} {gv : R (List PV)} {q : PV} (h : strK F gv q ≠ .stuck) : ∃ z, q = .str z := by
  cases q with
  | str z => exact ⟨z, rfl⟩
  | _ => exact absurd rfl h
def fStrM (F : List PV → R PV) (o : FE) (g : FA) : FE := fun ρ => (o ρ).bind (strK F (g ρ))
section
variable {X : Cx} {cl : Nat → Addr} {pins : List (Addr × Obj)} {s : Shared} {σ : SV} {Hf0 H0 Hf H Hf1 H1 : Hp} {ρ : MEnv} {α : Type}
theorem me_strm {o : Expr} {fo : FE} {e : Expr} {es : List Expr} {g : FA} {m : Str} {id : String} {F : List PV → R PV} {apos pos : Pos} {pl : Sem Bool} (hg : GetS m id) (hc : CalR X cl (.builtin id) F)
    (ho : ME X cl o fo) (ha : MA X cl (e :: es) g)
    (hst : starEach (e :: es) X.env = (false, eval e X.env) :: starEach es X.env := by rfl) (hpl : (backTo pos (starEach (e :: es) X.env)).any (·.1) = false := by rfl)
    (ht : eval (.Call (.Attribute o m apos) (e :: es) [] pos) X.env = (do
      let ov ← eval o X.env
      standAt apos.atName
      let (f, first) ← holding [ov] (getMethod ov m pl)
      callWith pos f first (backTo pos (starEach (e :: es) X.env)) (backToKw pos (keywordEach [] X.env))) := by rfl) :
    ME X cl (.Call (.Attribute o m apos) (e :: es) [] pos) (fStrM F fo g) := by
  refine ⟨?_⟩
  intro pins s σ Hf0 H0 Hf H ρ I r hs
  unfold fStrM at hs ⊢
  refine PySem.W.methodCall_KW (pl := pl) (ho.run I r (Ext.refl r.sub) hs fun q v u s1 Hf1 H1 e1 I1 rv x1 rp => ?_) ht
  rw [e1] at hs ⊢
  obtain ⟨z, rfl⟩ := strK_ns hs
  cases rp
  obtain ⟨t, rfl⟩ := rv
  refine hg ?_
  refine Calls.callWith_builtin hpl ?_
  have hs' : (g ρ).bind (fun vs => F (.str z :: vs)) ≠ .stuck := hs
  show wpAny _ _ _ _ (ExP X cl pins σ Hf H ((g ρ).bind fun vs => F (.str z :: vs))) s1
  have run := ha.run (Q := fun us s2 => wpAny (model X.prog X.w) X.A (call (Value.builtin id) ([Value.str z t] ++ us)) (OkP X cl pins σ Hf H ((g ρ).bind fun vs => F (.str z :: vs))) (ExP X cl pins σ Hf H ((g ρ).bind fun vs => F (.str z :: vs))) s2) pos I1 (r.keep x1) x1 hs' fun qs vs us s2 Hf2 H2 hq2 e2 I2 rv2 x2 rps => ?_
  · rw [hst] at run ⊢
    exact Calls.evalArgs_plain run
  · rw [e2] at hs' ⊢
    have x12 := x1.trans x2
    exact wpAny_mono (hc pins s2 σ Hf2 H2 (.str z :: vs) (.str z t :: us) (.str z :: qs) I2 x2.sub (.cons ⟨t, rfl⟩ rv2) (.cons (.str z) rps) hs') (fun _ _ q => q.from (e0 := x12)) fun _ _ q => q.from (e0 := x12)
def strsP : List PV → Option (List Str)
  | [] => some []
  | .str z :: r => (strsP r).map (z :: ·)
  | _ => none
def bJoin : List PV → R PV
  | [.str sep, .lst l] => (match strsP l with
    | some ts => if JoinOk sep ts then .ok (.str (Txt.join sep ts)) else .stuck
    | none => .stuck)
  | _ => .stuck
theorem strs_vals : ∀ {l : List PV} {ts : List Str} {vs : List V} {us : List Value}, strsP l = some ts → Rps X.K cl Hf vs l → Vals vs us → ∃ st : List (Str × Tok), us = strValues st ∧ st.map (·.1) = ts
  | [], ts, vs, us, h, r, w => by
    cases r; cases w
    cases h
    exact ⟨[], rfl, rfl⟩
  | p :: l, ts, vs, us, h, r, w => by
    cases r with
    | cons r1 r2 =>
      cases w with
      | cons w1 w2 =>
        cases p <;> first | (simp [strsP] at h; done) | skip
        rename_i z
        cases r1
        obtain ⟨t, rfl⟩ := w1
        simp only [strsP, Option.map_eq_some_iff] at h
        obtain ⟨ts', h1, rfl⟩ := h
        obtain ⟨st, e1, e2⟩ := strs_vals h1 r2 w2
        exact ⟨(z, t) :: st, by rw [e1]; rfl, by rw [List.map_cons, e2]⟩
theorem c_join : CalR X cl (.builtin "str.join") bJoin := by
  intro pins s σ Hf H xs us ps I sm rv rps hs
  have : ∃ sep l ts, ps = [.str sep, .lst l] ∧ strsP l = some ts ∧ JoinOk sep ts = true ∧ bJoin ps = .ok (.str (Txt.join sep ts)) := by
    unfold bJoin at hs ⊢
    split at hs
    · next sep l =>
      split at hs
      · next ts e =>
        obtain ⟨h1, h2⟩ := ifOk hs
        exact ⟨sep, l, ts, rfl, e, h1, by simp only [e, h1, if_true]⟩
      · exact absurd rfl hs
    · exact absurd rfl hs
  obtain ⟨sep, l, ts, rfl, e1, e2, e3⟩ := this
  rw [e3]
  obtain ⟨v, w, rfl, rp, rq⟩ := rps2' rps
  cases rp
  cases rq with
  | lst h r =>
    cases rv with
    | cons w1 w2 =>
      cases w2 with
      | cons w2 w3 =>
        cases w3
        obtain ⟨t, rfl⟩ := w1
        cases w2
        obtain ⟨its, wl, pl, z⟩ := I.list (sm.seq h)
        obtain ⟨st, rfl, e5⟩ := strs_vals e1 r wl
        exact SC.join pl.isList e5 e2 fun t' k => ⟨_, .str _, Hf, H, rfl, I.tok _, ⟨_, rfl⟩, Ext.refl sm, .str _⟩
theorem gs_join : GetS "join" "str.join" := GM.join
theorem not_long {n : Nat} (h : n ≤ sizeLine) : Builtin.Str.tooLong n = false := by
  unfold Builtin.Str.tooLong
  simpa using h
end
end Mi
set_option Elab.async false
set_option linter.all false
set_option autoImplicit false
set_option maxRecDepth 100000
set_option maxHeartbeats 4000000
namespace Mi
open PySem PySem.Spec PyProof.Rows L2
def boolsP : List PV → Option (List Bool)
  | [] => some []
  | .bl b :: r => (boolsP r).map (b :: ·)
  | _ => none
def bAll : List PV → R PV
  | [.lst l] => (match boolsP l with
    | some bs => .ok (.bl (bs.all id))
    | none => .stuck)
  | _ => .stuck
section
variable {X : Cx} {cl : Nat → Addr} {pins : List (Addr × Obj)} {s : Shared} {σ : SV} {Hf0 H0 Hf H Hf1 H1 : Hp} {ρ : MEnv} {α : Type}
inductive BoolsV : List Value → List Bool → Prop
  | nil : BoolsV [] []
  | cons (b : Bool) {vs : List Value} {bs : List Bool} : BoolsV vs bs → BoolsV (.bool b :: vs) (b :: bs)
theorem BoolsV.get : ∀ {vs : List Value} {bs : List Bool}, BoolsV vs bs → ∀ (i : Nat) (v : Value), vs[i]? = some v → ∃ b, bs[i]? = some b ∧ v = .bool b := by
  intro vs bs h
  induction h with
  | nil => intro i v e; simp at e
  | cons b _ ih =>
    intro i v e
    cases i with
    | zero => simp at e; subst e; exact ⟨b, rfl, rfl⟩
    | succ i => simpa using ih i v (by simpa using e)
theorem BoolsV.len : ∀ {vs : List Value} {bs : List Bool}, BoolsV vs bs → vs.length = bs.length := by
  intro vs bs h
  induction h with
  | nil => rfl
  | cons b _ ih => simp [ih]
end
end Mi
set_option Elab.async false
set_option linter.all false
set_option autoImplicit false
set_option maxRecDepth 100000
set_option maxHeartbeats 4000000
set_option Elab.async false
set_option linter.all false
set_option autoImplicit false
set_option maxRecDepth 100000
set_option maxHeartbeats 4000000
namespace Mi
open PySem PySem.Spec PyProof.Rows L2
section
variable {X : Cx} {cl : Nat → Addr} {pins : List (Addr × Obj)} {s : Shared} {σ : SV} {Hf0 H0 Hf H Hf1 H1 : Hp} {ρ : MEnv} {α : Type}
theorem vals_ints : ∀ {us : List Value} {ns : List Int}, IntsAre us ns → Vals (ns.map V.int) us := by
  intro us ns h
  induction h with
  | nil => exact .nil
  | cons n t _ ih => exact .cons ⟨t, rfl⟩ ih
end
end Mi
set_option Elab.async false
set_option linter.all false
set_option autoImplicit false
set_option maxRecDepth 100000
set_option maxHeartbeats 4000000
set_option Elab.async false
set_option linter.all false
set_option autoImplicit false
set_option maxRecDepth 100000
set_option maxHeartbeats 4000000
namespace Mi
open PySem PySem.Spec PyProof.Rows L2
section
variable {X : Cx} {cl : Nat → Addr} {pins : List (Addr × Obj)} {s : Shared} {σ : SV} {Hf0 H0 Hf H Hf1 H1 : Hp} {ρ : MEnv} {α : Type}
/-- the same frame under another surrounding -/
def Cx.at (X : Cx) (A : Around) : Cx := { X with A := A, calm := false }
theorem Inv.at {A : Around} (I : Inv X pins σ H s) (hf : A.frames = X.A.frames) : Inv (Cx.at X A) pins σ H s :=
  ⟨⟨I.ok.mod, I.ok.kind, I.ok.glob, I.ok.blt, I.ok.above, I.ok.inj, I.ok.has, I.ok.cab, (fun z => by cases z), hf.trans I.ok.frames, I.ok.stk, I.ok.exf, I.ok.bs, I.ok.bsz, I.ok.noex, I.ok.exfs, I.ok.funs, I.ok.frf⟩, I.os, I.bare, I.base, I.loc, I.cell, I.free, I.freeC, I.pin, I.hok, I.len⟩
theorem Inv.back {A : Around} {pins' : List (Addr × Obj)} {σ' : SV} {H' : Hp} {s' : Shared} (ok : X.Ok) (I : Inv (Cx.at X A) pins' σ' H' s') : Inv X pins' σ' H' s' :=
  ⟨ok, I.os, I.bare, I.base, I.loc, I.cell, I.free, I.freeC, I.pin, I.hok, I.len⟩
end
end Mi
set_option Elab.async false
set_option linter.all false
set_option autoImplicit false
set_option maxRecDepth 100000
set_option maxHeartbeats 4000000
set_option Elab.async false
set_option linter.all false
set_option autoImplicit false
set_option maxRecDepth 100000
set_option maxHeartbeats 4000000
namespace Mi
open PySem PySem.Spec PyProof.Rows L2
theorem lri_no_len : typeLookup (.type "list_reverseiterator") "__len__" = pure none := by rw [typeLookup_type, builtinLookup_eq_fast]; kernel_rfl
theorem lri_hint : typeLookup (.type "list_reverseiterator") "__length_hint__" = pure (some (.builtin "list_reverseiterator.__length_hint__")) := by rw [typeLookup_type, builtinLookup_eq_fast]; kernel_rfl
theorem lri_self : isSubtype (.type "list_reverseiterator") (.type "list_reverseiterator") = pure true := by rw [isSubtype_type]; kernel_rfl
section
variable {prog : Program} {w : World} {A : Around} {E : Value → Shared → Prop} {s : Shared}
theorem extend_rev {R : Result → Shared → Prop} {I l : Addr} {items : Array Value} (hh : A.handled = none) (hne : l ≠ I) (S : Addr) (res : Value) (c₀ : Nat) (hit : s.heap.IsRevIter I l ((items.size : Int) - 1)) (hl : s.heap.IsList l items) (hSI : S ≠ I) (hSl : S ≠ l)
    (hS : s.heap.get? S = some { cls := .type "list", data := .seq #[] c₀ })
    (hR : ∀ s' acc' c', Moved (S :: [I]) (fun a b => b = a) s s' → s'.heap.get? S = some { cls := .type "list", dict := none, data := .seq acc' c', slots := #[] } → ItemsOf (fun i v => items[items.size - 1 - i]? = some v) acc' items.size → R (.ok (.ret res)) s') (hn : items.size ≤ sizeLine) :
    wpAny (model prog w) A.in1 (Builtin.List.listExtendWith (.ref S) (.ref I) res)
      (fun fin s' => match fin with | .done f => R (.ok f) s' | .again c' => c'.quiet = true ∧ codeAny (model prog w) A c' R s') (fun e s' => R (.error e) s') s := by
  have W := (Walks.listRev (prog := prog) (w := w) (A := A.in1) hh I l hne items).toS
  have hT := hit.typeIs
  have hSf : S ∉ [I, l] := fun hm => by
    rcases List.mem_cons.mp hm with e | e
    · exact hSI e
    · exact hSl (List.mem_singleton.mp e)
  unfold Builtin.List.listExtendWith
  refine wpAny_bind (wpAny_typeOf hT ?_)
  have h1 : Builtin.List.listSameRef (.ref S) (.ref I) = false := by simp [Builtin.List.listSameRef, hSI]
  have h2 : (Value.type "list_reverseiterator" == Value.type "list") = false := by decide
  have h3 : (Value.type "list_reverseiterator" == Value.type "tuple") = false := by decide
  simp only [h1, h2, h3, Bool.or_false, Bool.false_eq_true, if_false]
  refine wpAny_bind (wpAny_pyIter_revIter hit ?_)
  refine wpAny_bind (wpAny_holding ?_)
  unfold Builtin.List.listLengthHint
  refine wpAny_bind (wpAny_specialOf hT lri_no_len ?_)
  show wpAny _ A.in1 (specialOf (Value.ref I) (Str.ofString "__length_hint__") >>= _) _ _ _
  refine wpAny_bind (wpAny_specialOf hT lri_hint ?_)
  wp_delta
  refine wpAny_bind (wpAny_isInstance hT lri_self ?_)
  try dsimp only
  rw [if_neg (by decide)]
  try dsimp only
  rw [if_pos (by first | rfl | decide +kernel)]
  try dsimp only
  rw [if_neg (by decide)]
  refine wpAny_pure ?_
  rw [if_neg (by decide)]
  have hst : (0 ≤ items.size ∧ s.heap.IsRevIter I l ((items.size : Int) - 1 - ((0 : Nat) : Int)) ∧ s.heap.IsList l items) := ⟨Nat.zero_le _, by rw [show (items.size : Int) - 1 - ((0 : Nat) : Int) = (items.size : Int) - 1 by omega]; exact hit, hl⟩
  exact wpAny_pure ⟨plainId_quiet F.plain_extend_loop _, codeAny_extend_loopS W hn _ hSf _ items.size 0 _ _ _ rfl (Nat.zero_le _) hst hS (ItemsOf.nil _) fun s' acc' c' hm hS' hacc => hR s' acc' c' hm hS' hacc⟩
end
theorem rev_items {its : List Value} {acc : Array Value} (h : ItemsOf (fun i v => its.toArray[its.toArray.size - 1 - i]? = some v) acc its.toArray.size) : acc.toList = its.reverse := by
  obtain ⟨h1, h2⟩ := h
  apply List.ext_getElem?
  intro i
  by_cases hi : i < its.length
  · have a1 : i < acc.size := by rw [h1]; simpa using hi
    have a2 := h2 i acc[i] (by rw [Array.getElem?_eq_getElem a1])
    rw [List.getElem?_reverse hi, Array.getElem?_toList, Array.getElem?_eq_getElem a1]
    simp only [List.size_toArray, List.getElem?_toArray] at a2
    exact a2.symm
  · have h3 : acc.toList.length = its.length := by simpa using h1
    rw [List.getElem?_eq_none (l := acc.toList) (by omega), List.getElem?_eq_none (by rw [List.length_reverse]; omega)]
section
variable {X : Cx} {cl : Nat → Addr} {pins : List (Addr × Obj)} {s : Shared} {σ : SV} {Hf0 H0 Hf H Hf1 H1 : Hp} {ρ : MEnv}
theorem vals_rev : ∀ {vs : List V} {us : List Value}, Vals vs us → Vals vs.reverse us.reverse
  | [], _, h => by cases h; exact .nil
  | v :: r, _, .cons a b => by
    rw [List.reverse_cons, List.reverse_cons]
    exact (vals_rev b).append (.cons a .nil)
theorem rps_rev {K : PySem.W.Frag} : ∀ {vs : List V} {ps : List PV}, Rps K cl Hf vs ps → Rps K cl Hf vs.reverse ps.reverse
  | [], _, .nil => .nil
  | v :: r, _, .cons a b => by
    rw [List.reverse_cons, List.reverse_cons]
    exact (rps_rev b).append (.cons a .nil)
end
end Mi
set_option Elab.async false
set_option linter.all false
set_option autoImplicit false
set_option maxRecDepth 100000
set_option maxHeartbeats 4000000
set_option Elab.async false
set_option linter.all false
set_option autoImplicit false
set_option maxRecDepth 100000
set_option maxHeartbeats 4000000
namespace Mi
open PySem PySem.Spec PyProof.Rows L2
section
variable (X : Cx) (cl : Nat → Addr)
def OkO (pins : List (Addr × Obj)) (Hf0 H0 Hg : Hp) (r : SR) (f : Flow) (s : Shared) : Prop := match f with
  | .ret u => ∃ ps a xs σ Hf H, r = .ret (.lst ps) ∧ Inv X pins σ H s ∧ u = .ref a ∧ Ext Hf0 H0 Hf H ∧ H a = some (.lst xs) ∧ Hf a = none ∧ H0 a = none ∧ Rps X.K cl Hf xs ps
  | o => OkS X cl pins Hf0 H0 Hg r o s
end
section
variable {X : Cx} {cl : Nat → Addr}
theorem OkO.from {pins : List (Addr × Obj)} {Hf0 H0 Hg Hg' : Hp} {r : SR} {fl : Flow} {s' : Shared} (g : Same Hg Hg') (h : OkO X cl pins Hf0 H0 Hg' r fl s') : OkO X cl pins Hf0 H0 Hg r fl s' := by
  cases fl with
  | ret u => exact h
  | next => exact OkS.from (fl := .next) g h
  | brk => exact OkS.from (fl := .brk) g h
  | cont => exact OkS.from (fl := .cont) g h
end
end Mi
set_option Elab.async false
set_option linter.all false
set_option autoImplicit false
set_option maxRecDepth 100000
set_option maxHeartbeats 4000000
set_option Elab.async false
set_option linter.all false
set_option autoImplicit false
set_option maxRecDepth 100000
set_option maxHeartbeats 4000000
set_option Elab.async false
set_option linter.all false
set_option autoImplicit false
set_option maxRecDepth 100000
set_option maxHeartbeats 4000000
set_option Elab.async false
set_option linter.all false
set_option autoImplicit false
set_option maxRecDepth 100000
set_option maxHeartbeats 4000000
set_option Elab.async false
set_option linter.all false
set_option autoImplicit false
set_option maxRecDepth 100000
set_option maxHeartbeats 4000000
set_option Elab.async false
set_option linter.all false
set_option autoImplicit false
set_option maxRecDepth 100000
set_option maxHeartbeats 4000000
set_option Elab.async false
set_option linter.all false
set_option autoImplicit false
set_option maxRecDepth 100000
set_option maxHeartbeats 4000000
namespace Mi
open PySem PySem.Spec PyProof.Rows L2
def bIndex : List PV → R PV
  | [.str z, .str y] => (match Builtin.Str.occurrences z y 0 z.length 1 with
    | i :: _ => .ok (.int i)
    | [] => .stuck)
  | _ => .stuck
section
variable {X : Cx} {cl : Nat → Addr} {pins : List (Addr × Obj)} {s : Shared} {σ : SV} {Hf H : Hp}
theorem two_strs {xs : List V} {us : List Value} {z y : Str} (rv : Vals xs us) (rps : Rps X.K cl Hf xs [.str z, .str y]) : ∃ t u, us = [.str z t, .str y u] := by
  obtain ⟨v, w, rfl, rp, rq⟩ := rps2' rps
  cases rp
  cases rq
  cases rv with
  | cons w1 w2 =>
    cases w2 with
    | cons w2 w3 =>
      cases w3
      obtain ⟨t, rfl⟩ := w1
      obtain ⟨u, rfl⟩ := w2
      exact ⟨t, u, rfl⟩
theorem c_index : CalR X cl (.builtin "str.index") bIndex := by
  intro pins s σ Hf H xs us ps I sm rv rps hs
  have : ∃ z y i r, ps = [.str z, .str y] ∧ Builtin.Str.occurrences z y 0 z.length 1 = i :: r ∧ bIndex ps = .ok (.int i) := by
    unfold bIndex at hs ⊢
    split at hs
    · next z y =>
      split at hs
      · next i r e => exact ⟨z, y, i, r, rfl, e, by simp only [e]⟩
      · exact absurd rfl hs
    · exact absurd rfl hs
  obtain ⟨z, y, i, r, rfl, e1, e2⟩ := this
  rw [e2]
  obtain ⟨t, u, rfl⟩ := two_strs rv rps
  exact SC.index e1 ⟨_, .int _, Hf, H, rfl, I.tok _, ⟨_, rfl⟩, Ext.refl sm, .int _⟩
theorem gs_index : GetS "index" "str.index" := GM.index
end
end Mi
set_option Elab.async false
set_option linter.all false
set_option autoImplicit false
set_option maxRecDepth 100000
set_option maxHeartbeats 4000000
set_option Elab.async false
set_option linter.all false
set_option autoImplicit false
set_option maxRecDepth 100000
set_option maxHeartbeats 4000000
namespace Mi
open PySem PySem.Spec PyProof.Rows L2
def signV (x : Str) : List V := x.cps.toList.map fun c => V.str ⟨#[c]⟩
def signP (x : Str) : List PV := x.cps.toList.map fun c => PV.str ⟨#[c]⟩
def Its (x : Str) : It := ⟨fun i _ => i < (signV x).length, fun i H y H' => H' = H ∧ (signV x)[i]? = some y, fun i _ => (signV x).length ≤ i⟩
section
variable {X : Cx} {cl : Nat → Addr} {pins : List (Addr × Obj)} {s : Shared} {σ : SV} {Hf H : Hp}
theorem signs_rps {K : PySem.W.Frag} (x : Str) : Rps K cl Hf (signV x) (signP x) := by
  unfold signV signP
  induction x.cps.toList with
  | nil => exact .nil
  | cons c r ih => exact .cons (.str _) ih
theorem turn_str {P : Program} {w : World} {K : PySem.W.Frag} {tg : Expr} (it : Addr) (x : Str) (t : Tok) : Turn P w K tg (Its x) [it] it (fun i h => h.IsStrIter it (strIterType x) x t i) where
  mem := by simp
  obj := fun i h st b hb => by
    have e : b = it := by simpa using hb
    subst e
    obtain ⟨o, e, c, d⟩ := st
    exact ⟨o, e, fun v z => by rw [d] at z; cases z⟩
  keep := fun i h h' st k => by
    obtain ⟨o, e, c, d⟩ := st
    exact ⟨o, k it (by simp) o e, c, d⟩
  item := by
    intro X hP hw hK hc i pins s σ H E I hf st hg
    subst hP hw hK
    have hi : i < x.cps.toList.length := by have : i < (signV x).length := hg; simpa [signV] using this
    have hx : x.cps[i]? = some x.cps.toList[i] := by simp [hi]
    obtain ⟨f0, f1, f2, f3, f4, f5⟩ := hf it (by simp)
    have fin : ∀ (ty : String) (h' : Heap), ["enumerate", "zip", "dict_itemiterator", "dict_reverseitemiterator", "odict_iterator", "itertools.zip_longest", "itertools.pairwise"].contains ty = false → strIterType x = ty → h'.IsStrIter it ty x t (i + 1) → Heap.SameBut it s.heap h' → (∃ u, some (Value.str ⟨#[x.cps.toList[i]]⟩ s.toks) = some u ∧
        wpAny (model X.prog X.w) X.A (letOwnedTupleGo tg (.ref it) u) (fun _ s2 => ∃ y H', Inv X pins σ H' s2 ∧ RelV y u ∧ (Its x).yld i H y H' ∧ (fun i h => h.IsStrIter it (strIterType x) x t i) (i + 1) s2.heap ∧ ∀ b ∈ [it], H' b = none) E { s with heap := h', toks := s.toks + 1 }) := fun ty h' hn et st' sb => by
      have I1 : Inv X pins σ H { s with heap := h', toks := s.toks + 1 } := I.turned (t' := s.toks + 1) (fun b o hb e => (sb.2 b hb).trans e) f0 f1 f3 f4 f5
      obtain ⟨o, e, c, d⟩ := id st'
      refine ⟨_, rfl, go_of (s := { s with heap := h', toks := s.toks + 1 }) e c d hn ⟨.str ⟨#[x.cps.toList[i]]⟩, H, I1, ⟨_, rfl⟩, ⟨rfl, ?_⟩, ?_, fun b hb => (hf b hb).1⟩⟩
      · unfold signV
        rw [List.getElem?_map, List.getElem?_eq_getElem hi]
        rfl
      · show h'.IsStrIter it (strIterType x) x t (i + 1)
        rw [et]; exact st'
    cases ha : x.cps.all (· < 128)
    · have et : strIterType x = "str_iterator" := by simp [strIterType, ha]
      have st2 : s.heap.IsStrIter it "str_iterator" x t i := by rw [← et]; exact st
      exact wpAny_pyNext_wide_item st2 hx fun h' st' sb => fin _ h' (by decide) et st' sb
    · have et : strIterType x = "str_ascii_iterator" := by simp [strIterType, ha]
      have st2 : s.heap.IsStrIter it "str_ascii_iterator" x t i := by rw [← et]; exact st
      exact wpAny_pyNext_ascii_item st2 hx fun h' st' sb => fin _ h' (by decide) et st' sb
  done := by
    intro X hP hw hK hc i pins s σ H E I hf st hg
    subst hP hw hK
    have hi : x.cps.toList.length ≤ i := by have : (signV x).length ≤ i := hg; simpa [signV] using this
    have hx : x.cps[i]? = none := by simp; simpa using hi
    obtain ⟨f0, f1, f2, f3, f4, f5⟩ := hf it (by simp)
    cases ha : x.cps.all (· < 128)
    · have et : strIterType x = "str_iterator" := by simp [strIterType, ha]
      have st2 : s.heap.IsStrIter it "str_iterator" x t i := by rw [← et]; exact st
      exact wpAny_pyNext_wide_end (I.ok.hd hc) st2 hx fun h' eb => ⟨rfl, I.turned (t' := s.toks) (fun b o hb e => eb b o hb e) f0 f1 f3 f4 f5⟩
    · have et : strIterType x = "str_ascii_iterator" := by simp [strIterType, ha]
      have st2 : s.heap.IsStrIter it "str_ascii_iterator" x t i := by rw [← et]; exact st
      exact wpAny_pyNext_ascii_end (I.ok.hd hc) st2 hx fun h' eb => ⟨rfl, I.turned (t' := s.toks) (fun b o hb e => eb b o hb e) f0 f1 f3 f4 f5⟩
  self := fun A i s Q E st h => by
    cases ha : x.cps.all (· < 128)
    · have et : strIterType x = "str_iterator" := by simp [strIterType, ha]
      have st2 : s.heap.IsStrIter it "str_iterator" x t i := by rw [← et]; exact st
      exact wpAny_pyIter_striter_wide st2 h
    · have et : strIterType x = "str_ascii_iterator" := by simp [strIterType, ha]
      have st2 : s.heap.IsStrIter it "str_ascii_iterator" x t i := by rw [← et]; exact st
      exact wpAny_pyIter_striter_ascii st2 h
theorem over_str {x : Str} {Hg : Hp} : Over (Its x) Hg (signV x) := fun H i sm => ⟨fun hi => ⟨hi, fun y H' q => q⟩, fun hi => hi⟩
theorem mi_str {tg iter : Expr} {f : FE} (h : ME X cl iter f) : MI X cl tg iter (iStr f) := by
  refine ⟨?_⟩
  intro pins s σ Hf0 H0 Hf H ρ I r hs
  unfold iStr at hs ⊢
  refine h.run I r (Ext.refl r.sub) hs fun p v u s1 Hf1 H1 e1 I1 rv x1 rp => ?_
  rw [e1] at hs ⊢
  cases p <;> first
    | exact absurd rfl hs
    | skip
  rename_i z
  cases rp
  obtain ⟨t, rfl⟩ := rv
  refine wpAny_pyIter_strU ?_
  refine ⟨signP z, signV z, Hf1, rfl, s1.heap.objs.size, [s1.heap.objs.size], _, _, H1, rfl, I1.kept (t' := s1.toks) fun b o e => Heap.get?_push_of_some _ e, turn_str _ z t, ⟨_, Heap.get?_push_size _ rfl, rfl, rfl⟩, fun b hb => ?_, x1, over_str, signs_rps z⟩
  have e : b = s1.heap.objs.size := by simpa using hb
  subst e
  exact I1.fpOk (Nat.le_refl _) (I1.hok.fresh (Nat.le_refl _))
end
end Mi
set_option Elab.async false
set_option linter.all false
set_option autoImplicit false
set_option maxRecDepth 100000
set_option maxHeartbeats 4000000
set_option Elab.async false
set_option linter.all false
set_option autoImplicit false
set_option maxRecDepth 100000
set_option maxHeartbeats 4000000
namespace Mi
open PySem PySem.Spec PyProof.Rows L2 PySem.Builtin PySem.Builtin.Str
theorem call_split {prog : Program} {w : World} {A : Around} {E : Value → Shared → Prop} {s : Shared} {x y : PySem.Str} {t u : Tok} {Q : Value → Shared → Prop} (hy : (y.length == 0) = false)
    (hq : ∀ (l : List (PySem.Str × Tok)) (k : Tok), l.map (·.1) = Txt.split x y → Q (.ref s.heap.objs.size) { s with heap := s.heap.push { cls := .type "list", data := .seq (strValues l).toArray }, toks := k })
    (hsz : x.length ≤ sizeLine) (hsz2 : (partsBetween x (occurrences x y 0 x.length (x.length + 1)) y.length).length ≤ sizeLine) :
    wpAny (model prog w) A (call (.builtin "str.split") [.str x t, .str y u]) Q E s := by
  cases h1 : (decide (x.length < y.length) || decide (strKind x < strKind y))
  · cases hf : (occurrences x y 0 x.length (x.length + 1)).isEmpty
    · refine call_meets F.slot_str_split (typeIs_str _ _ _) F.entry_str_split (F.args_str_split_2 _ _) (meets_str_split_sep x y t u h1 hy hf hsz hsz2) ?_
      show wants Q E _ { s with toks := _, heap := s.heap.push { cls := .type "list", data := .seq (strsFrom s.toks (partsBetween x (occurrences x y 0 x.length (x.length + 1)) y.length)).toArray } }
      rw [strsFrom_eq]
      exact hq (numbered s.toks _) _ ((numbered_texts _ _).trans ((if_neg (ne_true_of_eq_false h1)).trans (if_neg (ne_true_of_eq_false hf))).symm)
    · exact call_meets F.slot_str_split (typeIs_str _ _ _) F.entry_str_split (F.args_str_split_2 _ _) (meets_str_split_not_found x y t u h1 hy hf)
        (hq [(x, t)] s.toks ((if_neg (ne_true_of_eq_false h1)).trans (if_pos hf)).symm)
  · exact call_meets F.slot_str_split (typeIs_str _ _ _) F.entry_str_split (F.args_str_split_2 _ _) (meets_str_split_cannot_occur x y t u h1)
      (hq [(x, t)] s.toks (if_pos h1).symm)
def bSplit : List PV → R PV
  | [.str z, .str y] => if z.length ≤ sizeLine ∧ (y.length == 0) = false ∧ (partsBetween z (occurrences z y 0 z.length (z.length + 1)) y.length).length ≤ sizeLine ∧ (Txt.split z y).length ≤ sizeLine then .ok (.lst ((Txt.split z y).map PV.str)) else .stuck
  | _ => .stuck
section
variable {X : Cx} {cl : Nat → Addr} {Hf : Hp}
theorem strs_are : ∀ {ts : List PySem.Str} {l : List (PySem.Str × Tok)}, l.map (·.1) = ts → Vals (ts.map V.str) (strValues l)
  | [], [], _ => .nil
  | [], _ :: _, h => nomatch h
  | _ :: _, [], h => nomatch h
  | z :: ts, (z', t) :: l, h => by
    injection h with h1 h2
    have h1 : z' = z := h1
    subst h1
    exact .cons ⟨t, rfl⟩ (strs_are h2)
theorem strs_rps {K : PySem.W.Frag} : ∀ ts : List PySem.Str, Rps K cl Hf (ts.map V.str) (ts.map PV.str)
  | [] => .nil
  | z :: ts => .cons (.str _) (strs_rps ts)
theorem c_split : CalR X cl (.builtin "str.split") bSplit := by
  intro pins s σ Hf H xs us ps I sm rv rps hs
  have : ∃ z y, ps = [.str z, .str y] ∧ (z.length ≤ sizeLine ∧ (y.length == 0) = false ∧ (partsBetween z (occurrences z y 0 z.length (z.length + 1)) y.length).length ≤ sizeLine ∧ (Txt.split z y).length ≤ sizeLine) ∧ bSplit ps = .ok (.lst ((Txt.split z y).map PV.str)) := by
    unfold bSplit at hs ⊢
    split at hs
    · obtain ⟨h1, h2⟩ := ifOk hs
      exact ⟨_, _, rfl, h1, h2⟩
    · exact absurd rfl hs
  obtain ⟨z, y, rfl, ⟨e0, e1, e3, e4⟩, e2⟩ := this
  rw [e2]
  obtain ⟨t, u, rfl⟩ := two_strs rv rps
  refine call_split e1 (fun l k hl => ?_) e0 e3
  have hf : H s.heap.objs.size = none := I.hok.fresh (Nat.le_refl _)
  have rv2 := strs_are hl
  refine laid_seq (tk := k) hf sm (I.laid (t' := k) (o := .lst ((Txt.split z y).map V.str)) (fun b u e => Heap.get?_push_of_some _ e) (Nat.le_refl _) ?_) (.lst (SqL.of upd_same) ((strs_rps (Txt.split z y)).keep (same_upd (sm.free hf) _)))
  exact ⟨by rw [List.length_map]; exact e4, _, 0, rv2, Heap.get?_push_size _ rfl⟩
theorem gs_split : GetS "split" "str.split" := GM.split
end
end Mi
set_option Elab.async false
set_option linter.all false
set_option autoImplicit false
set_option Elab.async false
set_option linter.all false
set_option autoImplicit false
set_option maxRecDepth 100000
set_option maxHeartbeats 4000000
set_option Elab.async false
set_option linter.all false
set_option autoImplicit false
set_option maxRecDepth 100000
set_option maxHeartbeats 4000000
set_option Elab.async false
set_option linter.all false
set_option autoImplicit false
set_option maxRecDepth 100000
set_option maxHeartbeats 4000000
set_option Elab.async false
set_option linter.all false
set_option autoImplicit false
set_option maxRecDepth 100000
set_option maxHeartbeats 4000000
namespace Mi
open PySem PySem.Spec PyProof.Rows L2 PySem.Builtin PySem.Builtin.Str
theorem gives_repl1 (x y z : PySem.Str) (t u v r : Tok)
    (hf : ((occurrences x y 0 x.length 1).isEmpty || (y.length == 0 && z.length == 0)) = false →
      (u == 0 || v == 0) = false ∧ (u == v) = false ∧ (y == z) = false ∧ tooLong (x.length + (occurrences x y 0 x.length 1).length * z.length) = false) :
    Gives («str.replace» ⟨[.str x t, .str y u, .str z v, .int 1 r], []⟩) (if ((occurrences x y 0 x.length 1).isEmpty || (y.length == 0 && z.length == 0)) = true then .val (.str x t) else .str (glued z (partsBetween x (occurrences x y 0 x.length 1) y.length))) := by
  show Gives (if ((occurrences x y 0 x.length 1).isEmpty || (y.length == 0 && z.length == 0)) = true then (do rule "str.replace.nothing"; ret (.str x t)) else
          (do let same ← isSame (.str y u) (.str z v)
              if same = true then (do rule "str.replace.old-is-new"; ret (.str x t)) else
              if tooLong (x.length + (occurrences x y 0 x.length 1).length * z.length) = true then unsupported "str.replace:memory" else
              retStr (glued z (partsBetween x (occurrences x y 0 x.length 1) y.length)))) _
  cases hc : ((occurrences x y 0 x.length 1).isEmpty || (y.length == 0 && z.length == 0))
  · obtain ⟨h0, huv, hyz, hl⟩ := hf hc
    rw [isSame_str_other y z u v h0 huv hyz, hl]
    exact .of_eq rfl
  · exact .rule (.of_eq rfl)
def repl1 (x y z : PySem.Str) : PySem.Str := if ((occurrences x y 0 x.length 1).isEmpty || (y.length == 0 && z.length == 0)) = true then x else glued z (partsBetween x (occurrences x y 0 x.length 1) y.length)
def replOk (x y z : PySem.Str) : Prop := (y == z) = false ∧ x.length + (occurrences x y 0 x.length 1).length * z.length ≤ sizeLine ∧ (repl1 x y z).length ≤ sizeLine
instance {x y z : PySem.Str} : Decidable (replOk x y z) := by unfold replOk; infer_instance
theorem call_repl1 {prog : Program} {w : World} {A : Around} {E : Value → Shared → Prop} {s : Shared} {x y z : PySem.Str} {t u v r : Tok} {Q : Value → Shared → Prop} (hu : 0 < u) (hv : u < v) (ok : replOk x y z)
    (hq : ∀ t' k, Q (.str (repl1 x y z) t') { s with toks := k }) :
    wpAny (model prog w) A (call (.builtin "str.replace") [.str x t, .str y u, .str z v, .int 1 r]) Q E s := by
  have hl : tooLong (x.length + (occurrences x y 0 x.length 1).length * z.length) = false := not_long ok.2.1
  refine call_givesAt (P := fun _ => True) F.slot_str_replace (typeIs_str _ _ _) F.entry_str_replace (F.args_str_replace_4 _ _ _ _) (gives_repl1 x y z t u v r fun _ => ⟨?_, ?_, ok.1, hl⟩).at trivial ?_
  · exact Bool.or_eq_false_iff.mpr ⟨beq_eq_false_iff_ne.mpr (Nat.ne_of_gt hu), beq_eq_false_iff_ne.mpr (Nat.ne_of_gt (Nat.lt_trans hu hv))⟩
  · exact beq_eq_false_iff_ne.mpr (Nat.ne_of_lt hv)
  · have o3 := ok.2.2
    unfold repl1 at hq o3
    split
    · next h => rw [if_pos h] at hq; exact hq t s.toks
    · next h => rw [if_neg h] at hq o3; exact ⟨o3, hq _ _⟩
section
variable {prog : Program} {w : World} {A : Around} {E : Value → Shared → Prop} {s : Shared}
theorem collect_rev {Q : List Value → Shared → Prop} {I l : Addr} {items : Array Value} (hh : A.handled = none) (hne : l ≠ I) (hit : s.heap.IsRevIter I l ((items.size : Int) - 1)) (hl : s.heap.IsList l items)
    (hQ : ∀ s' acc, Moved (s.heap.objs.size :: [I]) (fun a b => b = a) { s with heap := s.heap.push { cls := .type "list", data := .seq ([] : List Value).toArray } } s' → ItemsOf (fun i v => items[items.size - 1 - i]? = some v) acc items.size → Q acc.toList s') (hn : items.size ≤ sizeLine) :
    wpAny (model prog w) A (collect (.ref I)) Q E s := by
  have hI : I < s.heap.objs.size := by obtain ⟨_, e, _⟩ := hit; exact Heap.lt_size e
  have hL : l < s.heap.objs.size := by obtain ⟨_, e, _⟩ := hl; exact Heap.lt_size e
  unfold collect
  refine wpAny_bind (wpAny_runValue (codeAny_builtin F.entry_proto_collect ?_))
  rw [Around.under_plainId F.plain_proto_collect _]
  show wpAny _ A.in1 (newList [] >>= fun l => again (.builtin "list.__iadd__" ⟨[l, .ref I], []⟩)) _ _ s
  refine wpAny_bind (wpAny_newObj_type ?_)
  refine wpAny_pure ⟨plainId_quiet F.plain_list_iadd _, codeAny_builtin F.entry_list_iadd ?_⟩
  rw [Around.under_plainId F.plain_list_iadd _]
  have hS : (s.heap.push { cls := .type "list", data := .seq ([] : List Value).toArray }).get? s.heap.objs.size = some { cls := .type "list", data := .seq ([] : List Value).toArray } := Heap.get?_push_size _ rfl
  show wpAny _ A.in1 (Builtin.List.listExtendWith (.ref s.heap.objs.size) (.ref I) (.ref s.heap.objs.size)) _ _ _
  refine extend_rev (prog := prog) (w := w) (R := wants (fun v s' => wpAny (model prog w) A (match v with | .ref a => (do match (← load a).data with | .seq xs _ => pure xs.toList | _ => unsupported "internal:collect") | _ => unsupported "internal:collect") Q E s') E) (s := { s with heap := s.heap.push { cls := .type "list", data := .seq ([] : List Value).toArray } }) (A := A) (hn := hn) hh hne s.heap.objs.size (.ref s.heap.objs.size) 0 (hit.at fun o e => Heap.get?_push_of_some _ e) (hl.push _) (Nat.ne_of_gt hI) (Nat.ne_of_gt hL) hS fun s' acc' c' hm hS' hacc => ?_
  show wpAny _ A (load s.heap.objs.size >>= _) _ _ s'
  refine wpAny_bind (wpAny_load hS' ?_)
  exact wpAny_pure (hQ s' acc' hm hacc)
theorem call_join_rev {Q : Value → Shared → Prop} {x : PySem.Str} {t : Tok} {I l : Addr} {items : Array Value} (hh : A.handled = none) (hne : l ≠ I) (hit : s.heap.IsRevIter I l ((items.size : Int) - 1)) (hl : s.heap.IsList l items) (hn : items.size ≤ sizeLine)
    {st : List (PySem.Str × Tok)} (hst : items.toList.reverse = strValues st) (hok : JoinOk x (st.map (·.1)) = true)
    (hQ : ∀ s' t' k, Moved (s.heap.objs.size :: [I]) (fun a b => b = a) { s with heap := s.heap.push { cls := .type "list", data := .seq ([] : List Value).toArray } } s' → Q (.str (Txt.join x (st.map (·.1))) t') { s' with toks := k }) :
    wpAny (model prog w) A (call (.builtin "str.join") [.str x t, .ref I]) Q E s := by
  refine wpAny_call (codeAny_call_builtin F.slot_str_join.plain F.entry_str_join (F.slot_str_join.check _ _ _ _ _ _ _ _ (typeIs_str _ _ _) (F.args_str_join_2 _ _) ?_))
  rw [join_tree_other]
  refine wpAny_bind (wpAny_typeOf hit.typeIs ?_)
  show wpAny _ A.in1 ((pyIter (.ref I)).tryCatch _ >>= fun it => collect it >>= fun items => joinTail x items) _ _ s
  refine wpAny_bind (wpAny_tryCatch (wpAny_pyIter_revIter hit ?_))
  refine wpAny_bind (collect_rev (A := A.in1) hh hne hit hl (fun s' acc hm hacc => ?_) hn)
  have ea : acc.toList = strValues st := by
    rw [← hst]
    exact rev_items (its := items.toList) (by simpa using hacc)
  rw [ea]
  unfold JoinOk at hok
  rw [Bool.not_eq_true'] at hok
  have g : Gives (joinTail x (strValues st)) (joinMade x st) := by
    have g0 := gives_joinTail x st hok
    cases st with
    | nil => exact g0
    | cons p r => cases r with
      | nil => exact g0
      | cons q r' => exact g0
  exact g prog w A (wants Q E) s' (post_join st ⟨joinFit_length hok, fun t' k => hQ s' t' k hm⟩)
end
section
variable {X : Cx} {cl : Nat → Addr} {pins : List (Addr × Obj)} {s : Shared} {σ : SV} {Hf0 H0 Hf H Hf1 H1 : Hp} {ρ : MEnv} {α : Type}
def bJoinR : List PV → R PV
  | [.str sep, .lst l] => (match strsP l.reverse with
    | some ts => if JoinOk sep ts then .ok (.str (Txt.join sep ts)) else .stuck
    | none => .stuck)
  | _ => .stuck
theorem me_joinrev {o e : Expr} {fo : FE} {g : FA} {apos pos p2 pos2 : Pos} {pl : Sem Bool} (hc : X.calm = true) (hg2 : Gl X "reversed") (hm2 : X.mg "reversed" = none) (hv2 : bootBuiltins "reversed" = some (.type "reversed")) (ho : ME X cl o fo) (ha : MA X cl [e] g)
    (hst : starEach [.Call (.Name "reversed" p2) [e] [] pos2] X.env = (false, eval (.Call (.Name "reversed" p2) [e] [] pos2) X.env) :: starEach [] X.env := by rfl) (hpl : (backTo pos (starEach [.Call (.Name "reversed" p2) [e] [] pos2] X.env)).any (·.1) = false := by rfl)
    (he2 : starEach [e] X.env = (false, eval e X.env) :: starEach [] X.env := by rfl) (hpl2 : (backTo pos2 (starEach [] X.env)).any (·.1) = false := by rfl)
    (ht : eval (.Call (.Attribute o "join" apos) [.Call (.Name "reversed" p2) [e] [] pos2] [] pos) X.env = (do
      let ov ← eval o X.env
      standAt apos.atName
      let (f, first) ← holding [ov] (getMethod ov "join" pl)
      callWith pos f first (backTo pos (starEach [.Call (.Name "reversed" p2) [e] [] pos2] X.env)) (backToKw pos (keywordEach [] X.env))) := by rfl) :
    ME X cl (.Call (.Attribute o "join" apos) [.Call (.Name "reversed" p2) [e] [] pos2] [] pos) (fStrM bJoinR fo g) := by
  refine ⟨?_⟩
  intro pins s σ Hf0 H0 Hf H ρ I r hs
  unfold fStrM at hs ⊢
  refine PySem.W.methodCall_KW (pl := pl) (ho.run I r (Ext.refl r.sub) hs fun q v u s1 Hf1 H1 e1 I1 rv x1 rp => ?_) ht
  rw [e1] at hs ⊢
  obtain ⟨z, rfl⟩ := strK_ns hs
  cases rp
  obtain ⟨t, rfl⟩ := rv
  refine gs_join ?_
  refine Calls.callWith_builtin hpl ?_
  have hs' : (g ρ).bind (fun vs => bJoinR (.str z :: vs)) ≠ .stuck := hs
  show wpAny _ _ _ _ (ExP X cl pins σ Hf H ((g ρ).bind fun vs => bJoinR (.str z :: vs))) s1
  rw [hst]
  show wpAny _ _ (evalArgs (Value.builtin "str.join") true ((false, eval (.Call (.Name "reversed" p2) [e] [] pos2) X.env) :: []) []) (fun a s2 => wpAny _ _ _ (OkP X cl pins σ Hf H ((g ρ).bind fun vs => bJoinR (.str z :: vs))) (ExP X cl pins σ Hf H ((g ρ).bind fun vs => bJoinR (.str z :: vs))) s2) (ExP X cl pins σ Hf H ((g ρ).bind fun vs => bJoinR (.str z :: vs))) s1
  refine Calls.evalArgs_plain (Calls.spliced_cons ?_)
  refine wpAny_Call_Name_kw (ld_blt I1 hg2 hm2 hv2 ?_ (by decide) (by decide))
  refine PyProof.Rows.callWith_type1 (ha.run pos2 I1 (r.keep x1) x1 hs' fun qs vs us s2 Hf2 H2 _ e2 I2 rv2 x2 rps => ?_) he2 hpl2
  rw [e2] at hs' ⊢
  have : ∃ l ts, qs = [.lst l] ∧ strsP l.reverse = some ts ∧ JoinOk z ts = true ∧ bJoinR (.str z :: qs) = .ok (.str (Txt.join z ts)) := by
    unfold bJoinR at hs' ⊢
    split at hs'
    · next sep l hq =>
      injection hq with h1 h2
      injection h1 with h1
      subst h1
      subst h2
      split at hs'
      · next ts e =>
        obtain ⟨h1, h2⟩ := ifOk hs'
        exact ⟨l, ts, rfl, e, h1, by simp only [e, h1, if_true]⟩
      · exact absurd rfl hs'
    · exact absurd rfl hs'
  obtain ⟨l, ts, rfl, es1, es2, es3⟩ := this
  rw [es3]
  obtain ⟨v, rfl, rp⟩ := rps1' rps
  cases rp with
  | lst h rr =>
    rename_i a xs
    obtain ⟨u, rfl, ru⟩ := rv2.one
    cases ru
    obtain ⟨its, wl, pl, zz⟩ := I2.list (x2.sub.seq h)
    have hl := pl.isList
    have hz : its.toArray.size ≤ sizeLine := by rw [List.size_toArray, ← wl.length]; exact zz
    have hlt : a < s2.heap.objs.size := by obtain ⟨_, e, _⟩ := hl; exact Heap.lt_size e
    refine call_reversed_list hl ?_
    refine Calls.spliced_nil ?_
    obtain ⟨st, e5, e6⟩ := strs_vals es1 (rps_rev rr) (vals_rev wl)
    refine call_join_rev (items := its.toArray) (l := a) (st := st) (I.ok.hd hc) (Nat.ne_of_lt hlt) ⟨_, Heap.get?_push_size _ rfl, rfl, rfl⟩ (hl.push _) hz (by simpa using e5) (by rw [e6]; exact es2) fun s' t' k hmv => ?_
    rw [e6, Moved.eq_with hmv]
    have kp : ∀ b o, s2.heap.get? b = some o → s'.heap.get? b = some o := fun b o q => by
      have hb := Heap.lt_size q
      refine hmv.heap b o (fun hmem => ?_) (Heap.get?_push_of_some _ (Heap.get?_push_of_some _ q))
      rcases List.mem_cons.mp hmem with z1 | z1
      · rw [z1, Heap.size_push] at hb; exact absurd (Nat.lt_of_succ_lt hb) (Nat.lt_irrefl _)
      · rw [List.mem_singleton.mp z1] at hb; exact absurd hb (Nat.lt_irrefl _)
    exact OkP.from (e0 := x1.trans x2) ⟨_, .str _, Hf2, H2, rfl, I2.kept (t' := k) kp, ⟨_, rfl⟩, Ext.refl x2.sub, .str _⟩
structure MET (X : Cx) (cl : Nat → Addr) (e : Expr) (f : FE) : Prop where
  run' : ∀ (pins : List (Addr × Obj)) (s : Shared) (σ : SV) (Hf0 H0 Hf H : Hp) (ρ : MEnv), Inv X pins σ H s → Rep X.K cl Hf0 H0 Hf H σ ρ → f ρ ≠ .stuck →
    wpAny (model X.prog X.w) X.A (eval e X.env) (fun u s' => OkP X cl pins σ Hf H (f ρ) u s' ∧ 0 < s'.toks) (ExP X cl pins σ Hf H (f ρ)) s
structure MEO (X : Cx) (cl : Nat → Addr) (e : Expr) (f : FE) : Prop where
  run' : ∀ (pins : List (Addr × Obj)) (s : Shared) (σ : SV) (Hf0 H0 Hf H : Hp) (ρ : MEnv), Inv X pins σ H s → Rep X.K cl Hf0 H0 Hf H σ ρ → 0 < s.toks → f ρ ≠ .stuck →
    wpAny (model X.prog X.w) X.A (eval e X.env) (OkP X cl pins σ Hf H (f ρ)) (ExP X cl pins σ Hf H (f ρ)) s
def oAddN : PV → PV → R PV
  | .str x, .str y => if x.length + y.length ≤ sizeLine ∧ 0 < x.length ∧ 0 < y.length then .ok (.str (x ++ y)) else .stuck
  | _, _ => .stuck
theorem met_add {a b : Expr} {fa fb : FE} {pos : Pos} (ha : ME X cl a fa) (hb : ME X cl b fb) : MET X cl (.BinOp a .Add b pos) (fBin oAddN fa fb) := by
  refine ⟨?_⟩
  intro pins s σ Hf0 H0 Hf H ρ I r hs
  unfold fBin at hs ⊢
  refine wpAny_BinOp (ha.run I r (Ext.refl r.sub) hs fun p v u s1 Hf1 H1 e1 I1 rv x1 rp => ?_)
  rw [e1] at hs ⊢
  refine hb.run I1 (r.keep x1) x1 hs fun q v' u' s2 Hf2 H2 e2 I2 rv' x2 rq => ?_
  rw [e2] at hs ⊢
  cases p <;> first
    | exact absurd rfl hs
    | skip
  cases q <;> first
    | exact absurd rfl hs
    | skip
  rename_i x y
  obtain ⟨⟨h1, h2, h3⟩, e⟩ := ifOk hs
  rw [show oAddN (.str x) (.str y) = _ from e]
  cases rp; cases rq
  obtain ⟨t, rfl⟩ := rv
  obtain ⟨t', rfl⟩ := rv'
  refine P.add_str ?_
  rw [if_neg (by simp; omega), if_neg (by simp; omega)]
  refine ⟨by rw [strLen_append]; exact h1, ?_⟩
  exact ⟨⟨_, .str _, Hf2, H2, rfl, I2.tok _, ⟨_, rfl⟩, x1.trans x2, .str _⟩, Nat.succ_pos _⟩
theorem ma_consT {e e2 : Expr} {es : List Expr} {f f2 : FE} {g : FA} (h : MET X cl e f) (h2 : MEO X cl e2 f2) (hr : MA X cl es g) (hst : starEach (e :: e2 :: es) X.env = (false, eval e X.env) :: (false, eval e2 X.env) :: starEach es X.env := by rfl) : MA X cl (e :: e2 :: es) (aCons f (aCons f2 g)) := by
  refine ⟨fun ρ ps q => ?_, ?_⟩
  · unfold aCons at q
    cases e1 : f ρ with
    | stuck => rw [e1] at q; cases q
    | exc c => rw [e1] at q; cases q
    | ok p =>
      rw [e1] at q
      cases e2 : f2 ρ with
      | stuck => rw [R.bind_ok, e2] at q; cases q
      | exc c => rw [R.bind_ok, e2] at q; cases q
      | ok p2 =>
        rw [R.bind_ok, e2] at q
        cases e3 : g ρ with
        | stuck => rw [R.bind_ok, e3] at q; cases q
        | exc c => rw [R.bind_ok, e3] at q; cases q
        | ok qs =>
          rw [R.bind_ok, e3] at q
          cases q
          have := hr.1 ρ qs e3
          simp only [List.length_cons, this]
  intro pos pins s σ Hf0 H0 Hf H ρ I r hs
  rw [hst]
  show wpAny _ _ (spliced ((false, eval e X.env) :: (false, eval e2 X.env) :: backTo pos (starEach es X.env))) _ _ s
  unfold aCons at hs ⊢
  have hf : f ρ ≠ .stuck := fun z => hs (by rw [z]; rfl)
  refine Calls.spliced_cons (wpAny_mono (h.run' pins s σ Hf0 H0 Hf H ρ I r hf) (fun u s1 h1 => ?_) fun u s1 h1 => ?_)
  · obtain ⟨⟨p, v, Hf1, H1, e1, I1, rv, x1, rp⟩, tk⟩ := h1
    rw [e1] at hs ⊢
    have hf2 : f2 ρ ≠ .stuck := fun z => hs (by rw [R.bind_ok, z]; rfl)
    refine Calls.spliced_cons (wpAny_mono (h2.run' pins s1 σ Hf0 H0 Hf1 H1 ρ I1 (r.keep x1) tk hf2) (fun u2 s2 h2 => ?_) fun u2 s2 h2 => ?_)
    · obtain ⟨p2, v2, Hf2, H2, e2, I2, rv2, x2, rp2⟩ := h2
      rw [e2] at hs ⊢
      have hg : g ρ ≠ .stuck := fun z => hs (by rw [z]; rfl)
      refine wpAny_mono (hr.2 pos pins s2 σ Hf0 H0 Hf2 H2 ρ I2 (r.keep (x1.trans x2)) hg) (fun us s3 h3 => ?_) fun u3 s3 h3 => ?_
      · obtain ⟨ps, vs, Hf3, H3, e3, I3, rvs, x3, rps⟩ := h3
        exact ⟨p :: p2 :: ps, v :: v2 :: vs, Hf3, H3, by rw [e3]; rfl, I3, .cons rv (.cons rv2 rvs), (x1.trans x2).trans x3, .cons (rp.keep (x2.trans x3).frz) (.cons (rp2.keep x3.frz) rps)⟩
      · obtain ⟨c, e3, y⟩ := h3
        exact ⟨c, by rw [e3]; rfl, y.from (x1.trans x2)⟩
    · obtain ⟨c, e2, y⟩ := h2
      exact ⟨c, by rw [e2]; rfl, y.from x1⟩
  · obtain ⟨c, e2, y⟩ := h1
    exact ⟨c, by rw [e2]; rfl, y⟩
theorem var_at {i : Nat} {x : PySem.Str} {pos : Pos} {v : V} {Q : Value → Shared → Prop} {E : Value → Shared → Prop} (hN : X.N[i]? = some x) (hv : Vis X.env.scope x) (I : Inv X pins σ H s) (e : σ[i]? = some (some v)) (h : ∀ u, RelV v u → Q u s)
    (hd : (x == ("__debug__" : PySem.Str)) = false := by decide) (hcd : (x == ("__classdict__" : PySem.Str)) = false := by decide) : wpAny (model X.prog X.w) X.A (eval (.Name x pos) X.env) Q E s := by
  obtain ⟨m, hn, hl⟩ := I.loc
  obtain ⟨u, r, l⟩ := hl i x v hN e hv
  have fin := h u r
  rcases l with ⟨hk, hm⟩ | ⟨hk, c, hc, hcell⟩
  · exact wpAny_Name (wpAny_loadName_local I.ok.kind hk hn hm fin) hd
  · rcases hk with hk | hk
    · exact wpAny_Name (wpAny_loadName_cell I.ok.kind hk hc hcell fin) hd
    · exact wpAny_Name (wpAny_loadName_free I.ok.kind hk hc hcell fin hcd) hd
def replK (y z : PySem.Str) : PV → R PV
  | .str x => if replOk x y z then .ok (.str (repl1 x y z)) else .stuck
  | _ => .stuck
def fRepl1 (y z : PySem.Str) (i : Nat) : FE := fun ρ => (getV ρ i).bind (replK y z)
theorem meo_repl1 {i : Nat} {x y z : PySem.Str} {j1 j2 j3 : Nat} {npos apos pos p1 p2 p3 : Pos} {pl : Sem Bool} (hN : X.N[i]? = some x) (hv : Vis X.env.scope x) (hg : GetS "replace" "str.replace")
    (hd : (x == ("__debug__" : PySem.Str)) = false := by decide) (hcd : (x == ("__classdict__" : PySem.Str)) = false := by decide)
    (hst : backTo pos (starEach [.Constant (.str y) j1 p1, .Constant (.str z) j2 p2, .Constant (.int 1) j3 p3] X.env) = [(false, eval (.Constant (.str y) j1 p1) X.env), (false, eval (.Constant (.str z) j2 p2) X.env), (false, eval (.Constant (.int 1) j3 p3) X.env)] := by rfl)
    (ht : eval (.Call (.Attribute (.Name x npos) "replace" apos) [.Constant (.str y) j1 p1, .Constant (.str z) j2 p2, .Constant (.int 1) j3 p3] [] pos) X.env = (do
      let ov ← eval (.Name x npos) X.env
      standAt apos.atName
      let (f, first) ← holding [ov] (getMethod ov "replace" pl)
      callWith pos f first (backTo pos (starEach [.Constant (.str y) j1 p1, .Constant (.str z) j2 p2, .Constant (.int 1) j3 p3] X.env)) (backToKw pos (keywordEach [] X.env))) := by rfl) :
    MEO X cl (.Call (.Attribute (.Name x npos) "replace" apos) [.Constant (.str y) j1 p1, .Constant (.str z) j2 p2, .Constant (.int 1) j3 p3] [] pos) (fRepl1 y z i) := by
  refine ⟨?_⟩
  intro pins s σ Hf0 H0 Hf H ρ I r tk hs
  unfold fRepl1 at hs ⊢
  cases e : getV ρ i with
  | stuck => rw [e] at hs; exact absurd rfl hs
  | exc c => exact absurd e getV_noexc
  | ok p =>
    obtain ⟨v, h1, h2⟩ := r.var e
    rw [e] at hs
    have hs : replK y z p ≠ .stuck := hs
    show wpAny _ _ _ (OkP X cl pins σ Hf H (replK y z p)) (ExP X cl pins σ Hf H (replK y z p)) s
    cases p <;> first
      | exact absurd rfl hs
      | skip
    rename_i xx _
    obtain ⟨ok, e2⟩ := ifOk hs
    rw [show replK y z (.str xx) = _ from e2]
    cases h2
    refine PySem.W.methodCall_KW (pl := pl) (var_at hN hv I h1 (fun u ru => ?_) hd hcd) ht
    obtain ⟨t, rfl⟩ := ru
    refine hg ?_
    rw [hst]
    refine Calls.callWith_builtin rfl ?_
    refine Calls.evalArgs_plain (Calls.spliced_cons (Calls.Constant_str (Calls.spliced_cons (Calls.Constant_str (Calls.spliced_cons (wpAny_Constant_int (Calls.spliced_nil ?_)))))))
    exact call_repl1 tk (Nat.lt_succ_self _) ok fun t' k => ⟨_, .str _, Hf, H, rfl, I.tok _, ⟨_, rfl⟩, Ext.refl r.sub, .str _⟩
theorem gs_replace : GetS "replace" "str.replace" := GM.replace
end
end Mi
set_option Elab.async false
set_option linter.all false
set_option autoImplicit false
set_option maxRecDepth 100000
set_option maxHeartbeats 4000000
namespace Mi
open PySem
theorem fVar_e (i : Nat) (x0 : Option PV) (ρ0 : MEnv) : fVar i (x0 :: ρ0) = getV (x0 :: ρ0) i := rfl
theorem getV_0 (o : Option PV) (r : MEnv) : getV (o :: r) 0 = asVal o := rfl
theorem getV_s (o : Option PV) (r : MEnv) (n : Nat) : getV (o :: r) (n + 1) = getV r n := rfl
theorem asVal_int (i : Int) : asVal (some (.int i)) = .ok (.int i) := rfl
theorem asVal_bl (i : Bool) : asVal (some (.bl i)) = .ok (.bl i) := rfl
theorem asVal_str (i : Str) : asVal (some (.str i)) = .ok (.str i) := rfl
theorem asVal_non : asVal (some .non) = .ok .non := rfl
theorem asVal_tup (l : List PV) : asVal (some (.tup l)) = .ok (.tup l) := rfl
theorem asVal_lst (l : List PV) : asVal (some (.lst l)) = .ok (.lst l) := rfl
theorem asVal_exc (c : Nat) : asVal (some (.exc c)) = .ok (.exc c) := rfl
theorem asVal_dic0 : asVal (some .dic0) = .ok .dic0 := rfl
theorem fC_e (v : PV) (x0 : Option PV) (ρ0 : MEnv) : fC v (x0 :: ρ0) = .ok v := rfl
theorem fBin_e (o : PV → PV → R PV) (a b : FE) (x0 : Option PV) (ρ0 : MEnv) : fBin o a b (x0 :: ρ0) = (a (x0 :: ρ0)).bind fun x => (b (x0 :: ρ0)).bind fun y => o x y := rfl
theorem fUn_e (o : PV → R PV) (a : FE) (x0 : Option PV) (ρ0 : MEnv) : fUn o a (x0 :: ρ0) = (a (x0 :: ρ0)).bind o := rfl
theorem oBool_e (b : Bool) : oBool (.bl b) = .ok b := rfl
theorem fAnd_e (a b : FE) (x0 : Option PV) (ρ0 : MEnv) : fAnd a b (x0 :: ρ0) = (a (x0 :: ρ0)).bind fun x => (oBool x).bind fun c => if c then b (x0 :: ρ0) else .ok (.bl false) := rfl
theorem fOr_e (a b : FE) (x0 : Option PV) (ρ0 : MEnv) : fOr a b (x0 :: ρ0) = (a (x0 :: ρ0)).bind fun x => (oBool x).bind fun c => if c then .ok (.bl true) else b (x0 :: ρ0) := rfl
theorem fNot_e (a : FE) (x0 : Option PV) (ρ0 : MEnv) : fNot a (x0 :: ρ0) = (a (x0 :: ρ0)).bind fun x => (oBool x).bind fun c => .ok (.bl (!c)) := rfl
theorem fChain_e (o o' : PV → PV → R PV) (a b c : FE) (x0 : Option PV) (ρ0 : MEnv) : fChain o o' a b c (x0 :: ρ0) = (a (x0 :: ρ0)).bind fun x => (b (x0 :: ρ0)).bind fun y => (o x y).bind fun r => (oBool r).bind fun k =>
  if k then (c (x0 :: ρ0)).bind fun z => o' y z else .ok (.bl false) := rfl
theorem fIf_e (t : FT) (a b : FE) (x0 : Option PV) (ρ0 : MEnv) : fIf t a b (x0 :: ρ0) = (t (x0 :: ρ0)).bind fun c => if c then a (x0 :: ρ0) else b (x0 :: ρ0) := rfl
theorem aNil_e (x0 : Option PV) (ρ0 : MEnv) : aNil (x0 :: ρ0) = .ok [] := rfl
theorem aCons_e (a : FE) (r : FA) (x0 : Option PV) (ρ0 : MEnv) : aCons a r (x0 :: ρ0) = (a (x0 :: ρ0)).bind fun x => (r (x0 :: ρ0)).bind fun xs => .ok (x :: xs) := rfl
def mkTup (xs : List PV) : R PV := if xs.length ≤ sizeLine then .ok (.tup xs) else .stuck
def mkLst (xs : List PV) : R PV := if xs.length ≤ sizeLine then .ok (.lst xs) else .stuck
theorem sizeLine_ge : 1000 ≤ sizeLine := by decide
theorem fTup_e (a : FA) (x0 : Option PV) (ρ0 : MEnv) : fTup a (x0 :: ρ0) = (a (x0 :: ρ0)).bind mkTup := rfl
theorem fLst_e (a : FA) (x0 : Option PV) (ρ0 : MEnv) : fLst a (x0 :: ρ0) = (a (x0 :: ρ0)).bind mkLst := rfl
theorem small_le (n : Nat) (h : n ≤ 1000) : n ≤ sizeLine := Nat.le_trans h sizeLine_ge
theorem fCall_e (F : List PV → R PV) (a : FA) (x0 : Option PV) (ρ0 : MEnv) : fCall F a (x0 :: ρ0) = (a (x0 :: ρ0)).bind F := rfl
theorem fIsinst_e (t : Ty) (a : FE) (x0 : Option PV) (ρ0 : MEnv) : fIsinst t a (x0 :: ρ0) = (a (x0 :: ρ0)).bind fun x => match isTy x t with | some b => .ok (.bl b) | none => .stuck := rfl
theorem tVal_e (a : FE) (x0 : Option PV) (ρ0 : MEnv) : tVal a (x0 :: ρ0) = (a (x0 :: ρ0)).bind truthP := rfl
theorem truth_bl (b : Bool) : truthP (.bl b) = .ok b := rfl
theorem truth_int (i : Int) : truthP (.int i) = .ok (i != 0) := rfl
theorem truth_non : truthP .non = .ok false := rfl
theorem tAnd_e (a b : FT) (x0 : Option PV) (ρ0 : MEnv) : tAnd a b (x0 :: ρ0) = (a (x0 :: ρ0)).bind fun c => if c then b (x0 :: ρ0) else .ok false := rfl
theorem tOr_e (a b : FT) (x0 : Option PV) (ρ0 : MEnv) : tOr a b (x0 :: ρ0) = (a (x0 :: ρ0)).bind fun c => if c then .ok true else b (x0 :: ρ0) := rfl
theorem tNot_e (a : FT) (x0 : Option PV) (ρ0 : MEnv) : tNot a (x0 :: ρ0) = (a (x0 :: ρ0)).bind fun c => .ok (!c) := rfl
theorem mkTup_s (xs : List PV) (h : xs.length ≤ 1000) : mkTup xs = .ok (.tup xs) := if_pos (small_le _ h)
theorem mkLst_s (xs : List PV) (h : xs.length ≤ 1000) : mkLst xs = .ok (.lst xs) := if_pos (small_le _ h)
theorem mkTup_1 (a : PV) : mkTup [a] = .ok (.tup [a]) := mkTup_s _ (by simp)
theorem mkTup_2 (a b : PV) : mkTup [a, b] = .ok (.tup [a, b]) := mkTup_s _ (by simp)
theorem mkTup_3 (a b c : PV) : mkTup [a, b, c] = .ok (.tup [a, b, c]) := mkTup_s _ (by simp)
theorem mkTup_4 (a b c d : PV) : mkTup [a, b, c, d] = .ok (.tup [a, b, c, d]) := mkTup_s _ (by simp)
theorem mkLst_0 : mkLst [] = .ok (.lst []) := mkLst_s _ (by simp)
theorem mkLst_1 (a : PV) : mkLst [a] = .ok (.lst [a]) := mkLst_s _ (by simp)
theorem mkLst_2 (a b : PV) : mkLst [a, b] = .ok (.lst [a, b]) := mkLst_s _ (by simp)
theorem mkLst_3 (a b c : PV) : mkLst [a, b, c] = .ok (.lst [a, b, c]) := mkLst_s _ (by simp)
theorem mkLst_4 (a b c d : PV) : mkLst [a, b, c, d] = .ok (.lst [a, b, c, d]) := mkLst_s _ (by simp)
theorem mkLst_5 (a b c d e : PV) : mkLst [a, b, c, d, e] = .ok (.lst [a, b, c, d, e]) := mkLst_s _ (by simp)
theorem mkLst_6 (a b c d e f : PV) : mkLst [a, b, c, d, e, f] = .ok (.lst [a, b, c, d, e, f]) := mkLst_s _ (by simp)
theorem mkLst_7 (a b c d e f g : PV) : mkLst [a, b, c, d, e, f, g] = .ok (.lst [a, b, c, d, e, f, g]) := mkLst_s _ (by simp)
theorem mkLst_8 (a b c d e f g h : PV) : mkLst [a, b, c, d, e, f, g, h] = .ok (.lst [a, b, c, d, e, f, g, h]) := mkLst_s _ (by simp)
theorem asVal_none : asVal none = .stuck := rfl
/-- what range hands on -/
def rgF : List PV → R (List PV)
  | [.int hi] => if smallI hi then .ok (rangeP 0 hi 1) else .stuck
  | [.int lo, .int hi] => if smallI lo ∧ smallI hi then .ok (rangeP lo hi 1) else .stuck
  | [.int lo, .int hi, .int st] => if smallI lo ∧ smallI hi ∧ smallI st ∧ st ≠ 0 then .ok (rangeP lo hi st) else .stuck
  | _ => .stuck
def okI (i : Int) : Prop := smallI i
theorem iRange_e (a : FA) (x0 : Option PV) (ρ0 : MEnv) : iRange a (x0 :: ρ0) = (a (x0 :: ρ0)).bind rgF := by
  show R.bind _ _ = R.bind _ _
  congr 1
theorem rg_1 (hi : Int) (h : okI hi) : rgF [.int hi] = .ok (rangeP 0 hi 1) := if_pos h
theorem rg_2 (lo hi : Int) (h : okI lo) (h2 : okI hi) : rgF [.int lo, .int hi] = .ok (rangeP lo hi 1) := if_pos ⟨h, h2⟩
theorem rg_3 (lo hi st : Int) (h : okI lo) (h2 : okI hi) (h3 : okI st) (h0 : st ≠ 0) : rgF [.int lo, .int hi, .int st] = .ok (rangeP lo hi st) := if_pos ⟨h, h2, h3, h0⟩
theorem bind_ok (p : PV) (f : PV → R PV) : (R.ok p).bind f = f p := rfl
theorem bind_okl (p : PV) (f : PV → R (List PV)) : (R.ok p).bind f = f p := rfl
theorem bind_okb (p : PV) (f : PV → R Bool) : (R.ok p).bind f = f p := rfl
theorem bind_oko (p : PV) (f : PV → R (Option Int)) : (R.ok p).bind f = f p := rfl
theorem bindl_ok (p : List PV) (f : List PV → R PV) : (R.ok p).bind f = f p := rfl
theorem bindl_okl (p : List PV) (f : List PV → R (List PV)) : (R.ok p).bind f = f p := rfl
theorem bindb_ok (p : Bool) (f : Bool → R PV) : (R.ok p).bind f = f p := rfl
theorem bindb_okb (p : Bool) (f : Bool → R Bool) : (R.ok p).bind f = f p := rfl
theorem bindo_ok (p : Option Int) (f : Option Int → R PV) : (R.ok p).bind f = f p := rfl
theorem bind_exc (c : Nat) (f : PV → R PV) : (R.exc c : R PV).bind f = .exc c := rfl
theorem bind_excl (c : Nat) (f : PV → R (List PV)) : (R.exc c : R PV).bind f = .exc c := rfl
theorem bind_excb (c : Nat) (f : PV → R Bool) : (R.exc c : R PV).bind f = .exc c := rfl
theorem bindl_exc (c : Nat) (f : List PV → R PV) : (R.exc c : R (List PV)).bind f = .exc c := rfl
theorem bindl_excl (c : Nat) (f : List PV → R (List PV)) : (R.exc c : R (List PV)).bind f = .exc c := rfl
theorem bindb_exc (c : Nat) (f : Bool → R PV) : (R.exc c : R Bool).bind f = .exc c := rfl
theorem bindb_excb (c : Nat) (f : Bool → R Bool) : (R.exc c : R Bool).bind f = .exc c := rfl
/-- what a def hands back -/
def fin : SR → R PV
  | .next _ => .ok .non
  | .ret v => .ok v
  | .exc c _ => .exc c
  | _ => .stuck
theorem fin_next (ρ : MEnv) : fin (.next ρ) = .ok .non := rfl
theorem fin_ret (v : PV) : fin (.ret v) = .ok v := rfl
theorem fin_exc (c : Nat) (ρ : MEnv) : fin (.exc c ρ) = .exc c := rfl
theorem runF_fin (n : Nat) (b : FS) (vs : List PV) : runF n b vs = fin (b (vs.map some ++ List.replicate (n - vs.length) none)) := by
  show (match b _ with | .next _ => _ | .ret v => _ | .exc c _ => _ | _ => _) = fin (b _)
  rfl
theorem run_1 (n : Nat) (b : FS) (a1 : PV) : runF (n + 1) b [a1] = fin (b (some a1 :: List.replicate n none)) := by
  rw [runF_fin, List.length_cons]; simp
theorem run_2 (n : Nat) (b : FS) (a1 a2 : PV) : runF (n + 2) b [a1, a2] = fin (b (some a1 :: some a2 :: List.replicate n none)) := by
  rw [runF_fin, List.length_cons]; simp
theorem run_3 (n : Nat) (b : FS) (a1 a2 a3 : PV) : runF (n + 3) b [a1, a2, a3] = fin (b (some a1 :: some a2 :: some a3 :: List.replicate n none)) := by
  rw [runF_fin, List.length_cons]; simp
theorem run_4 (n : Nat) (b : FS) (a1 a2 a3 a4 : PV) : runF (n + 4) b [a1, a2, a3, a4] = fin (b (some a1 :: some a2 :: some a3 :: some a4 :: List.replicate n none)) := by
  rw [runF_fin, List.length_cons]; simp
theorem run_5 (n : Nat) (b : FS) (a1 a2 a3 a4 a5 : PV) : runF (n + 5) b [a1, a2, a3, a4, a5] = fin (b (some a1 :: some a2 :: some a3 :: some a4 :: some a5 :: List.replicate n none)) := by
  rw [runF_fin, List.length_cons]; simp
theorem run_6 (n : Nat) (b : FS) (a1 a2 a3 a4 a5 a6 : PV) : runF (n + 6) b [a1, a2, a3, a4, a5, a6] = fin (b (some a1 :: some a2 :: some a3 :: some a4 :: some a5 :: some a6 :: List.replicate n none)) := by
  rw [runF_fin, List.length_cons]; simp
/-- 2 to a power, as a whole number -/
def p2 (b : Int) : Int := 2 ^ b.toNat
def okMul (a b : Int) : Prop := nb a ≤ 64 ∨ nb b ≤ 64 ∨ nb a + nb b ≤ bitsMax
def okDiv (b : Int) : Prop := 0 < b ∧ nb b ≤ 9000
def okMod (b : Int) : Prop := 0 < b
def okPow (a b : Int) : Prop := 0 ≤ b ∧ b ≤ 1000000 ∧ nb a ≤ 64
def okShl (a b : Int) : Prop := 0 ≤ b ∧ nb a + b ≤ 134217728
def okShr (b : Int) : Prop := 0 ≤ b
def powI (a b : Int) : Int := a ^ b.toNat
theorem oMul_i (a b : Int) (h : okMul a b) : oMul (.int a) (.int b) = .ok (.int (a * b)) := if_pos h
theorem oDiv_i (a b : Int) (h : okDiv b) : oDiv (.int a) (.int b) = .ok (.int (a / b)) := if_pos h
theorem oMod_i (a b : Int) (h : okMod b) : oMod (.int a) (.int b) = .ok (.int (a % b)) := if_pos h
theorem oPow_i (a b : Int) (h : okPow a b) : oPow (.int a) (.int b) = .ok (.int (powI a b)) := if_pos h
theorem oShl_i (a b : Int) (h : okShl a b) : oShl (.int a) (.int b) = .ok (.int (a * p2 b)) := if_pos h
theorem oShr_i (a b : Int) (h : okShr b) : oShr (.int a) (.int b) = .ok (.int (a / p2 b)) := if_pos h
theorem oAdd_i (a b : Int) : oAdd (.int a) (.int b) = .ok (.int (a + b)) := rfl
theorem oSub_i (a b : Int) : oSub (.int a) (.int b) = .ok (.int (a - b)) := rfl
theorem oNeg_i (a : Int) : oNeg (.int a) = .ok (.int (-a)) := rfl
theorem oAnd_i (a b : Int) : oAnd (.int a) (.int b) = .ok (.int (Builtin.bitAnd a b)) := rfl
theorem oOr_i (a b : Int) : oOr (.int a) (.int b) = .ok (.int (Builtin.bitOr a b)) := rfl
theorem oXor_i (a b : Int) : oXor (.int a) (.int b) = .ok (.int (Builtin.bitXor a b)) := rfl
theorem cLt_i (a b : Int) : cLt (.int a) (.int b) = .ok (.bl (decide (a < b))) := rfl
theorem cLe_i (a b : Int) : cLe (.int a) (.int b) = .ok (.bl (decide (a ≤ b))) := rfl
theorem cGt_i (a b : Int) : cGt (.int a) (.int b) = .ok (.bl (decide (b < a))) := rfl
theorem cGe_i (a b : Int) : cGe (.int a) (.int b) = .ok (.bl (decide (b ≤ a))) := rfl
theorem cEq_i (a b : Int) : cEq (.int a) (.int b) = .ok (.bl (decide (a = b))) := rfl
theorem cNe_i (a b : Int) : cNe (.int a) (.int b) = .ok (.bl (!decide (a = b))) := rfl
theorem cEq_b (a b : Bool) : cEq (.bl a) (.bl b) = .ok (.bl (a == b)) := rfl
theorem cNe_b (a b : Bool) : cNe (.bl a) (.bl b) = .ok (.bl (!(a == b))) := rfl
theorem cEq_s (a b : Str) : cEq (.str a) (.str b) = .ok (.bl (a == b)) := rfl
theorem cNe_s (a b : Str) : cNe (.str a) (.str b) = .ok (.bl (!(a == b))) := rfl
theorem cEq_tup (a b : List PV) : cEq (.tup a) (.tup b) = if (a.all (cmpOkN 5) && b.all (cmpOkN 5)) then .ok (.bl (eqPVs a b)) else .stuck := rfl
theorem cNe_tup (a b : List PV) : cNe (.tup a) (.tup b) = if (a.all (cmpOkN 5) && b.all (cmpOkN 5)) then .ok (.bl (!eqPVs a b)) else .stuck := rfl
theorem cEq_lst (a b : List PV) : cEq (.lst a) (.lst b) = if (a.all (cmpOkN 5) && b.all (cmpOkN 5)) then .ok (.bl (eqPVs a b)) else .stuck := rfl
theorem cNe_lst (a b : List PV) : cNe (.lst a) (.lst b) = if (a.all (cmpOkN 5) && b.all (cmpOkN 5)) then .ok (.bl (!eqPVs a b)) else .stuck := rfl
theorem cmpOkN_int (n : Nat) (i : Int) : cmpOkN n (.int i) = true := by cases n <;> rfl
theorem cmpOkN_bl (n : Nat) (i : Bool) : cmpOkN n (.bl i) = true := by cases n <;> rfl
theorem cmpOkN_str (n : Nat) (i : Str) : cmpOkN n (.str i) = true := by cases n <;> rfl
theorem cmpOkN_non (n : Nat) : cmpOkN n .non = true := by cases n <;> rfl
theorem cmpOkN_tup (n : Nat) (l : List PV) : cmpOkN (n + 1) (.tup l) = l.all (cmpOkN n) := rfl
theorem cmpOkN_lst (n : Nat) (l : List PV) : cmpOkN (n + 1) (.lst l) = l.all (cmpOkN n) := rfl
theorem eqPVs_nil : eqPVs [] [] = true := rfl
theorem eqPVs_cons (x y : PV) (xs ys : List PV) : eqPVs (x :: xs) (y :: ys) = (eqPV x y && eqPVs xs ys) := rfl
theorem eqPVs_cn (x : PV) (xs : List PV) : eqPVs (x :: xs) [] = false := rfl
theorem eqPVs_nc (x : PV) (xs : List PV) : eqPVs [] (x :: xs) = false := rfl
theorem eqPV_i (a b : Int) : eqPV (.int a) (.int b) = decide (a = b) := rfl
theorem eqPV_b (a b : Bool) : eqPV (.bl a) (.bl b) = (a == b) := rfl
theorem eqPV_s (a b : Str) : eqPV (.str a) (.str b) = (a == b) := rfl
theorem eqPV_t (a b : List PV) : eqPV (.tup a) (.tup b) = eqPVs a b := rfl
theorem eqPV_l (a b : List PV) : eqPV (.lst a) (.lst b) = eqPVs a b := rfl
theorem eqPV_n : eqPV .non .non = true := rfl
theorem bLen_tup (l : List PV) : bLen [.tup l] = .ok (.int l.length) := rfl
theorem bLen_lst (l : List PV) : bLen [.lst l] = .ok (.int l.length) := rfl
theorem bAbs_i (i : Int) : bAbs [.int i] = .ok (.int (if i < 0 then -i else i)) := rfl
theorem bMin_i (i j : Int) : bMin [.int i, .int j] = .ok (.int (if j < i then j else i)) := rfl
theorem bMax_i (i j : Int) : bMax [.int i, .int j] = .ok (.int (if j > i then j else i)) := rfl
theorem bInt_i (i : Int) : bInt [.int i] = .ok (.int i) := rfl
theorem bInt_b (b : Bool) : bInt [.bl b] = .ok (.int (if b then 1 else 0)) := rfl
theorem bBitLength_i (i : Int) : bBitLength (.int i) = .ok (.int (nb i)) := rfl
theorem bList_l (l : List PV) : bList [.lst l] = .ok (.lst l) := rfl
theorem bList_t (l : List PV) : bList [.tup l] = .ok (.lst l) := rfl
theorem bTuple_l (l : List PV) : bTuple [.lst l] = .ok (.tup l) := rfl
theorem bTuple_t (l : List PV) : bTuple [.tup l] = .ok (.tup l) := rfl
theorem isTy_int_i (i : Int) : isTy (.int i) .int = some true := rfl
theorem isTy_int_b (i : Int) : isTy (.int i) .bool = some false := rfl
theorem isTy_int_s (i : Int) : isTy (.int i) .str = some false := rfl
theorem isTy_int_t (i : Int) : isTy (.int i) .tuple = some false := rfl
theorem isTy_bl_i (i : Bool) : isTy (.bl i) .int = some true := rfl
theorem isTy_bl_b (i : Bool) : isTy (.bl i) .bool = some true := rfl
theorem isTy_bl_t (i : Bool) : isTy (.bl i) .tuple = some false := rfl
theorem isTy_bl_s (i : Bool) : isTy (.bl i) .str = some false := rfl
theorem isTy_tup_t (l : List PV) : isTy (.tup l) .tuple = some true := rfl
theorem isTy_tup_i (l : List PV) : isTy (.tup l) .int = some false := rfl
theorem isTy_tup_s (l : List PV) : isTy (.tup l) .str = some false := rfl
theorem isTy_lst_i (l : List PV) : isTy (.lst l) .int = some false := rfl
theorem isTy_lst_l (l : List PV) : isTy (.lst l) .list = some true := rfl
theorem isTy_lst_t (l : List PV) : isTy (.lst l) .tuple = some false := rfl
theorem isTy_lst_s (l : List PV) : isTy (.lst l) .str = some false := rfl
theorem isTy_str_i (x : Str) : isTy (.str x) .int = some false := rfl
theorem isTy_str_s (x : Str) : isTy (.str x) .str = some true := rfl
theorem isTy_str_t (x : Str) : isTy (.str x) .tuple = some false := rfl
theorem isTy_non (t : Ty) : isTy .non t = some false := by cases t <;> rfl
theorem isTy_dic_i : isTy .dic0 .int = some false := rfl
theorem isTy_dic_s : isTy .dic0 .str = some false := rfl
theorem oItem_at {l : List PV} {i : Int} {v : PV} (h0 : 0 ≤ i) (h : l[i.toNat]? = some v) : oItem (.lst l) (.int i) = .ok v := by
  have hl : i.toNat < l.length := (List.getElem?_eq_some_iff.mp h).1
  show itemP l i = _
  unfold itemP ixP
  rw [if_pos h0, if_pos (by omega)]
  simp [h]
theorem oItem_atT {l : List PV} {i : Int} {v : PV} (h0 : 0 ≤ i) (h : l[i.toNat]? = some v) : oItem (.tup l) (.int i) = .ok v := oItem_at h0 h
theorem oItem_t0 (x : PV) (l : List PV) : oItem (.tup (x :: l)) (.int 0) = .ok x := oItem_atT (by decide) rfl
theorem oItem_t1 (x y : PV) (l : List PV) : oItem (.tup (x :: y :: l)) (.int 1) = .ok y := oItem_atT (by decide) rfl
theorem oItem_t2 (x y z : PV) (l : List PV) : oItem (.tup (x :: y :: z :: l)) (.int 2) = .ok z := oItem_atT (by decide) rfl
theorem oItem_l0 (x : PV) (l : List PV) : oItem (.lst (x :: l)) (.int 0) = .ok x := oItem_at (by decide) rfl
theorem oItem_l1 (x y : PV) (l : List PV) : oItem (.lst (x :: y :: l)) (.int 1) = .ok y := oItem_at (by decide) rfl
theorem oItem_l2 (x y z : PV) (l : List PV) : oItem (.lst (x :: y :: z :: l)) (.int 2) = .ok z := oItem_at (by decide) rfl
theorem sNext_e (x0 : Option PV) (ρ0 : MEnv) : sNext (x0 :: ρ0) = .next (x0 :: ρ0) := rfl
theorem sSeq_e (f g : FS) (x0 : Option PV) (ρ0 : MEnv) : sSeq f g (x0 :: ρ0) = match f (x0 :: ρ0) with | .next ρ' => g ρ' | o => o := rfl
theorem ofR_ok (v : PV) (ρ : MEnv) (k : PV → SR) : ofR (.ok v) ρ k = k v := rfl
theorem ofR_exc (c : Nat) (ρ : MEnv) (k : PV → SR) : ofR (.exc c) ρ k = .exc c ρ := rfl
theorem sRet_e (a : FE) (x0 : Option PV) (ρ0 : MEnv) : sRet a (x0 :: ρ0) = ofR (a (x0 :: ρ0)) (x0 :: ρ0) fun v => .ret v := rfl
theorem sExpr_e (a : FE) (x0 : Option PV) (ρ0 : MEnv) : sExpr a (x0 :: ρ0) = ofR (a (x0 :: ρ0)) (x0 :: ρ0) fun _ => .next (x0 :: ρ0) := rfl
theorem sSet_e (i : Nat) (a : FE) (x0 : Option PV) (ρ0 : MEnv) : sSet i a (x0 :: ρ0) = ofR (a (x0 :: ρ0)) (x0 :: ρ0) fun v => .next ((x0 :: ρ0).set i (some v)) := rfl
theorem sIf_e (t : FT) (f g : FS) (x0 : Option PV) (ρ0 : MEnv) : sIf t f g (x0 :: ρ0) = match t (x0 :: ρ0) with | .ok c => if c then f (x0 :: ρ0) else g (x0 :: ρ0) | .exc c => .exc c (x0 :: ρ0) | .stuck => .stuck := rfl
theorem sFor_e (i : Nat) (it : FA) (body : FS) (x0 : Option PV) (ρ0 : MEnv) : sFor i it body (x0 :: ρ0) = match it (x0 :: ρ0) with | .ok l => forL i body l (x0 :: ρ0) | .exc c => .exc c (x0 :: ρ0) | .stuck => .stuck := rfl
theorem sBreak_e (x0 : Option PV) (ρ0 : MEnv) : sBreak (x0 :: ρ0) = .brk (x0 :: ρ0) := rfl
theorem sCont_e (x0 : Option PV) (ρ0 : MEnv) : sCont (x0 :: ρ0) = .cont (x0 :: ρ0) := rfl
theorem sRetN_e (x0 : Option PV) (ρ0 : MEnv) : sRetN (x0 :: ρ0) = .ret .non := rfl
theorem sRaise_e (c : Nat) (x0 : Option PV) (ρ0 : MEnv) : sRaise c (x0 :: ρ0) = .exc c (x0 :: ρ0) := rfl
theorem iSeq_e (a : FE) (x0 : Option PV) (ρ0 : MEnv) : iSeq a (x0 :: ρ0) = (a (x0 :: ρ0)).bind fun x => match x with | .lst l => .ok l | .tup l => .ok l | _ => .stuck := rfl
theorem forL_nil (i : Nat) (body : FS) (ρ : MEnv) : forL i body [] ρ = .next ρ := rfl
theorem forL_cons (i : Nat) (body : FS) (x : PV) (l : List PV) (ρ : MEnv) : forL i body (x :: l) ρ = match body (ρ.set i (some x)) with
    | .next ρ' => forL i body l ρ'
    | .cont ρ' => forL i body l ρ'
    | .brk ρ' => .next ρ'
    | o => o := rfl
theorem oNone_e (x0 : Option PV) (ρ0 : MEnv) : oNone (x0 :: ρ0) = .ok none := rfl
theorem oSome_e (a : FE) (x0 : Option PV) (ρ0 : MEnv) : oSome a (x0 :: ρ0) = (a (x0 :: ρ0)).bind fun x => match x with | .int i => .ok (some i) | _ => .stuck := rfl
theorem fCut_e (a : FE) (l h : FO) (x0 : Option PV) (ρ0 : MEnv) : fCut a l h (x0 :: ρ0) = (a (x0 :: ρ0)).bind fun x => (l (x0 :: ρ0)).bind fun lo => (h (x0 :: ρ0)).bind fun hi => oCut x lo hi := rfl
theorem oCut_lst (l : List PV) (lo hi : Option Int) : oCut (.lst l) lo hi = .ok (.lst (cutP l lo hi)) := rfl
theorem forL_inv (I : MEnv → Prop) {i : Nat} {body : FS} : ∀ {l : List PV} {ρ : MEnv}, I ρ → (∀ x ∈ l, ∀ ρ, I ρ → ∃ ρ', body (ρ.set i (some x)) = .next ρ' ∧ I ρ') → ∃ ρ', forL i body l ρ = .next ρ' ∧ I ρ'
  | [], ρ, h, _ => ⟨ρ, rfl, h⟩
  | x :: l, ρ, h, s => by
    obtain ⟨ρ1, e1, h1⟩ := s x (List.mem_cons_self) ρ h
    obtain ⟨ρ2, e2, h2⟩ := forL_inv I (l := l) h1 fun y hy => s y (List.mem_cons_of_mem _ hy)
    exact ⟨ρ2, by rw [forL_cons, e1]; exact e2, h2⟩
theorem isSmallI_i (i : Int) : isSmallI (.ok (.int i)) = decide (i.natAbs < 18446744073709551616) := rfl
theorem sRaiseT_e (k : MEnv → Bool) (c : Nat) (x0 : Option PV) (ρ0 : MEnv) : sRaiseT k c (x0 :: ρ0) = if k (x0 :: ρ0) then .exc c (x0 :: ρ0) else .stuck := rfl
theorem sTryAs_e (f : FS) (ks : List Nat) (d n x : Nat) (x0 : Option PV) (ρ0 : MEnv) : sTryAs f ks d n x (x0 :: ρ0) = match f (x0 :: ρ0) with
  | .exc c ρ' => if ks.contains c && under c d then .next (((ρ'.set n (some (.exc c))).set x (some (.exc c))).set n none) else .stuck
  | o => o := rfl
theorem fIsExc_e (ks : List Nat) (d : Nat) (a : FE) (x0 : Option PV) (ρ0 : MEnv) : fIsExc ks d a (x0 :: ρ0) = (a (x0 :: ρ0)).bind fun x => match x with
  | .exc c => if ks.contains c then .ok (.bl (under c d)) else .stuck
  | .non => .ok (.bl false)
  | _ => .stuck := rfl
theorem fIsVal_e (ks : List Nat) (a : FE) (x0 : Option PV) (ρ0 : MEnv) : fIsVal ks a (x0 :: ρ0) = (a (x0 :: ρ0)).bind fun x => match x with
  | .exc c => if ks.contains c then .ok (.bl true) else .stuck
  | .non => .ok (.bl false)
  | _ => .stuck := rfl
/-- what is left over of tests and lists -/
theorem evl : (∀ (α : Type) (a b : α), (if (true : Bool) = true then a else b) = a) ∧ (∀ (α : Type) (a b : α), (if (false : Bool) = true then a else b) = b) ∧ (∀ (α : Type) (a b : α), (if True then a else b) = a) ∧ (∀ (α : Type) (a b : α), (if False then a else b) = b) ∧
    (decide True = true) ∧ (decide False = false) ∧ ((!true) = false) ∧ ((!false) = true) ∧ (∀ b, (true && b) = b) ∧ (∀ b, (false && b) = false) ∧ (∀ b, (b && true) = b) ∧ (∀ b, (b && false) = false) ∧ (∀ b, (true || b) = true) ∧ (∀ b, (false || b) = b) ∧ (∀ b : Bool, (b == b) = true) ∧
    (∀ (x y : Option PV) (l : MEnv), (x :: l).set 0 y = y :: l) ∧ (∀ (x y : Option PV) (l : MEnv) (n : Nat), (x :: l).set (n + 1) y = x :: l.set n y) ∧
    ((List.replicate 0 (none : Option PV)) = []) ∧ (∀ (n : Nat), (List.replicate (n + 1) (none : Option PV)) = none :: List.replicate n none) ∧
    (∀ (x : PV) (l : List PV), (x :: l).map some = some x :: l.map some) ∧ (([] : List PV).map some = []) ∧ (∀ (x : Option PV) (l m : MEnv), (x :: l) ++ m = x :: (l ++ m)) ∧ (∀ (l : MEnv), [] ++ l = l) ∧
    (∀ (x : PV) (l : List PV), (x :: l).length = l.length + 1) ∧ (([] : List PV).length = 0) ∧
    (∀ (p : PV → Bool) (x : PV) (l : List PV), (x :: l).all p = (p x && l.all p)) ∧ (∀ (p : PV → Bool), ([] : List PV).all p = true) ∧
    (∀ (p : PV → Bool) (x : PV) (l : List PV), (x :: l).any p = (p x || l.any p)) ∧ (∀ (p : PV → Bool), ([] : List PV).any p = false) := by
  refine ⟨fun _ _ _ => rfl, fun _ _ _ => rfl, fun _ _ _ => if_pos trivial, fun _ _ _ => if_neg id, by decide, by decide, rfl, rfl, fun b => by cases b <;> rfl, fun b => by cases b <;> rfl, fun b => by cases b <;> rfl, fun b => by cases b <;> rfl, fun b => by cases b <;> rfl, fun b => by cases b <;> rfl, fun b => by cases b <;> rfl, fun _ _ _ => rfl, fun _ _ _ _ => rfl, rfl, fun _ => rfl, fun _ _ => rfl, rfl, fun _ _ _ => rfl, fun _ => rfl, fun _ _ => rfl, rfl, fun _ _ _ => rfl, fun _ => rfl, fun _ _ _ => rfl, fun _ => rfl⟩
/-- the def hands back a value of this make -/
def Gives (P : PV → Prop) (r : R PV) : Prop := ∃ v, r = .ok v ∧ P v
/-- the statement goes on, to a frame of this make -/
def Goes (I : MEnv → Prop) (r : SR) : Prop := ∃ ρ, r = .next ρ ∧ I ρ
theorem goes_next {I : MEnv → Prop} {ρ : MEnv} (h : I ρ) : Goes I (.next ρ) := ⟨ρ, rfl, h⟩
theorem forL_goes {I : MEnv → Prop} {i : Nat} {body : FS} {l : List PV} {ρ : MEnv} (h : I ρ) (s : ∀ x ∈ l, ∀ ρ, I ρ → Goes I (body (ρ.set i (some x)))) : Goes I (forL i body l ρ) := forL_inv I h s
theorem nb_le_iff {a : Int} {k : Nat} : nb a ≤ k ↔ a.natAbs < 2 ^ k := by
  show (if a == 0 then 0 else a.natAbs.log2 + 1) ≤ k ↔ _
  by_cases h : a = 0
  · subst h; simp; exact Nat.two_pow_pos k
  · have h0 : a.natAbs ≠ 0 := by omega
    rw [if_neg (by simpa using h)]
    rw [← Nat.log2_lt h0]
    omega
theorem nb_le {a : Int} {k : Nat} (h : a.natAbs < 2 ^ k) : nb a ≤ k := nb_le_iff.mpr h
/-- the words of the operators, for written numbers -/
theorem okMul_r {a b : Int} (h1 : -18446744073709551616 < b) (h2 : b < 18446744073709551616) : okMul a b := .inr (.inl (nb_le (k := 64) (by omega)))
theorem okMul_l {a b : Int} (h1 : -18446744073709551616 < a) (h2 : a < 18446744073709551616) : okMul a b := .inl (nb_le (k := 64) (by omega))
theorem okMul_of {a b : Int} {m n : Nat} (ha : nb a ≤ m) (hb : nb b ≤ n) (h : m + n ≤ 134217728) : okMul a b := .inr (.inr (by show _ ≤ 134217728; omega))
theorem okDiv_s {b : Int} (h0 : 0 < b) (h : b < 18446744073709551616) : okDiv b := ⟨h0, Nat.le_trans (nb_le (k := 64) (by omega)) (by decide)⟩
theorem okDiv_of {b : Int} {n : Nat} (h0 : 0 < b) (h : nb b ≤ n) (hn : n ≤ 9000) : okDiv b := ⟨h0, Nat.le_trans h hn⟩
theorem okShl_of {a b : Int} {n : Nat} (h0 : 0 ≤ b) (ha : nb a ≤ n) (h : n + b ≤ 134217728) : okShl a b := ⟨h0, by omega⟩
theorem okPow_s {a b : Int} (h0 : 0 ≤ b) (h1 : b ≤ 1000000) (h : -18446744073709551616 < a) (h2 : a < 18446744073709551616) : okPow a b := ⟨h0, h1, nb_le (k := 64) (by omega)⟩
theorem okMod_s {b : Int} (h : 0 < b) : okMod b := h
theorem okShr_s {b : Int} (h : 0 ≤ b) : okShr b := h
theorem okI_of {b : Int} (h0 : -1152921504606846976 ≤ b) (h : b < 1152921504606846976) : okI b := by
  have e : (2 : Int) ^ 60 = 1152921504606846976 := by decide
  show -(2 ^ 60) ≤ b ∧ b < 2 ^ 60
  rw [e]; exact ⟨h0, h⟩
/-- of written numbers -/
theorem okw : (∀ (a b : Int) (h1 : -18446744073709551616 < b) (h2 : b < 18446744073709551616), okMul a b) ∧ (∀ (a b : Int) (h1 : -18446744073709551616 < a) (h2 : a < 18446744073709551616), okMul a b) ∧ (∀ (b : Int) (h0 : 0 < b) (h : b < 18446744073709551616), okDiv b) ∧
    (∀ (a b : Int) (h0 : 0 ≤ b) (h1 : b ≤ 1000000) (h : -18446744073709551616 < a) (h2 : a < 18446744073709551616), okPow a b) ∧ (∀ (b : Int) (h : 0 < b), okMod b) ∧ (∀ (b : Int) (h : 0 ≤ b), okShr b) ∧ (∀ (b : Int) (h0 : -1152921504606846976 ≤ b) (h : b < 1152921504606846976), okI b) :=
  ⟨fun _ _ => okMul_r, fun _ _ => okMul_l, fun _ => okDiv_s, fun _ _ => okPow_s, fun _ => okMod_s, fun _ => okShr_s, fun _ => okI_of⟩
/-- the equations by which a mirror is reckoned, as one word for simp -/
theorem ev : (∀ (i : Nat) (x0 : Option PV) (ρ0 : MEnv), fVar i (x0 :: ρ0) = getV (x0 :: ρ0) i) ∧
  (∀ (o : Option PV) (r : MEnv), getV (o :: r) 0 = asVal o) ∧
  (∀ (o : Option PV) (r : MEnv) (n : Nat), getV (o :: r) (n + 1) = getV r n) ∧
  (∀ (i : Int), asVal (some (.int i)) = .ok (.int i)) ∧
  (∀ (i : Bool), asVal (some (.bl i)) = .ok (.bl i)) ∧
  (∀ (i : Str), asVal (some (.str i)) = .ok (.str i)) ∧
  (asVal (some .non) = .ok .non) ∧
  (∀ (l : List PV), asVal (some (.tup l)) = .ok (.tup l)) ∧
  (∀ (l : List PV), asVal (some (.lst l)) = .ok (.lst l)) ∧
  (∀ (c : Nat), asVal (some (.exc c)) = .ok (.exc c)) ∧
  (asVal (some .dic0) = .ok .dic0) ∧
  (∀ (v : PV) (x0 : Option PV) (ρ0 : MEnv), fC v (x0 :: ρ0) = .ok v) ∧
  (∀ (o : PV → PV → R PV) (a b : FE) (x0 : Option PV) (ρ0 : MEnv), fBin o a b (x0 :: ρ0) = (a (x0 :: ρ0)).bind fun x => (b (x0 :: ρ0)).bind fun y => o x y) ∧
  (∀ (o : PV → R PV) (a : FE) (x0 : Option PV) (ρ0 : MEnv), fUn o a (x0 :: ρ0) = (a (x0 :: ρ0)).bind o) ∧
  (∀ (b : Bool), oBool (.bl b) = .ok b) ∧
  (∀ (a b : FE) (x0 : Option PV) (ρ0 : MEnv), fAnd a b (x0 :: ρ0) = (a (x0 :: ρ0)).bind fun x => (oBool x).bind fun c => if c then b (x0 :: ρ0) else .ok (.bl false)) ∧
  (∀ (a b : FE) (x0 : Option PV) (ρ0 : MEnv), fOr a b (x0 :: ρ0) = (a (x0 :: ρ0)).bind fun x => (oBool x).bind fun c => if c then .ok (.bl true) else b (x0 :: ρ0)) ∧
  (∀ (a : FE) (x0 : Option PV) (ρ0 : MEnv), fNot a (x0 :: ρ0) = (a (x0 :: ρ0)).bind fun x => (oBool x).bind fun c => .ok (.bl (!c))) ∧
  (∀ (o o' : PV → PV → R PV) (a b c : FE) (x0 : Option PV) (ρ0 : MEnv), fChain o o' a b c (x0 :: ρ0) = (a (x0 :: ρ0)).bind fun x => (b (x0 :: ρ0)).bind fun y => (o x y).bind fun r => (oBool r).bind fun k =>
  if k then (c (x0 :: ρ0)).bind fun z => o' y z else .ok (.bl false)) ∧
  (∀ (t : FT) (a b : FE) (x0 : Option PV) (ρ0 : MEnv), fIf t a b (x0 :: ρ0) = (t (x0 :: ρ0)).bind fun c => if c then a (x0 :: ρ0) else b (x0 :: ρ0)) ∧
  (∀ (x0 : Option PV) (ρ0 : MEnv), aNil (x0 :: ρ0) = .ok []) ∧
  (∀ (a : FE) (r : FA) (x0 : Option PV) (ρ0 : MEnv), aCons a r (x0 :: ρ0) = (a (x0 :: ρ0)).bind fun x => (r (x0 :: ρ0)).bind fun xs => .ok (x :: xs)) ∧
  (∀ (a : FA) (x0 : Option PV) (ρ0 : MEnv), fTup a (x0 :: ρ0) = (a (x0 :: ρ0)).bind mkTup) ∧
  (∀ (a : FA) (x0 : Option PV) (ρ0 : MEnv), fLst a (x0 :: ρ0) = (a (x0 :: ρ0)).bind mkLst) ∧
  (∀ (F : List PV → R PV) (a : FA) (x0 : Option PV) (ρ0 : MEnv), fCall F a (x0 :: ρ0) = (a (x0 :: ρ0)).bind F) ∧
  (∀ (t : Ty) (a : FE) (x0 : Option PV) (ρ0 : MEnv), fIsinst t a (x0 :: ρ0) = (a (x0 :: ρ0)).bind fun x => match isTy x t with | some b => .ok (.bl b) | none => .stuck) ∧
  (∀ (a : FE) (x0 : Option PV) (ρ0 : MEnv), tVal a (x0 :: ρ0) = (a (x0 :: ρ0)).bind truthP) ∧
  (∀ (b : Bool), truthP (.bl b) = .ok b) ∧
  (∀ (i : Int), truthP (.int i) = .ok (i != 0)) ∧
  (truthP .non = .ok false) ∧
  (∀ (a b : FT) (x0 : Option PV) (ρ0 : MEnv), tAnd a b (x0 :: ρ0) = (a (x0 :: ρ0)).bind fun c => if c then b (x0 :: ρ0) else .ok false) ∧
  (∀ (a b : FT) (x0 : Option PV) (ρ0 : MEnv), tOr a b (x0 :: ρ0) = (a (x0 :: ρ0)).bind fun c => if c then .ok true else b (x0 :: ρ0)) ∧
  (∀ (a : FT) (x0 : Option PV) (ρ0 : MEnv), tNot a (x0 :: ρ0) = (a (x0 :: ρ0)).bind fun c => .ok (!c)) ∧
  (∀ (a : PV), mkTup [a] = .ok (.tup [a])) ∧
  (∀ (a b : PV), mkTup [a, b] = .ok (.tup [a, b])) ∧
  (∀ (a b c : PV), mkTup [a, b, c] = .ok (.tup [a, b, c])) ∧
  (∀ (a b c d : PV), mkTup [a, b, c, d] = .ok (.tup [a, b, c, d])) ∧
  (mkLst [] = .ok (.lst [])) ∧
  (∀ (a : PV), mkLst [a] = .ok (.lst [a])) ∧
  (∀ (a b : PV), mkLst [a, b] = .ok (.lst [a, b])) ∧
  (∀ (a b c : PV), mkLst [a, b, c] = .ok (.lst [a, b, c])) ∧
  (∀ (a b c d : PV), mkLst [a, b, c, d] = .ok (.lst [a, b, c, d])) ∧
  (∀ (a b c d e : PV), mkLst [a, b, c, d, e] = .ok (.lst [a, b, c, d, e])) ∧
  (∀ (a b c d e f : PV), mkLst [a, b, c, d, e, f] = .ok (.lst [a, b, c, d, e, f])) ∧
  (∀ (a b c d e f g : PV), mkLst [a, b, c, d, e, f, g] = .ok (.lst [a, b, c, d, e, f, g])) ∧
  (∀ (a b c d e f g h : PV), mkLst [a, b, c, d, e, f, g, h] = .ok (.lst [a, b, c, d, e, f, g, h])) ∧
  (asVal none = .stuck) ∧
  (∀ (a : FA) (x0 : Option PV) (ρ0 : MEnv), iRange a (x0 :: ρ0) = (a (x0 :: ρ0)).bind rgF) ∧
  (∀ (hi : Int) (h : okI hi), rgF [.int hi] = .ok (rangeP 0 hi 1)) ∧
  (∀ (lo hi : Int) (h : okI lo) (h2 : okI hi), rgF [.int lo, .int hi] = .ok (rangeP lo hi 1)) ∧
  (∀ (lo hi st : Int) (h : okI lo) (h2 : okI hi) (h3 : okI st) (h0 : st ≠ 0), rgF [.int lo, .int hi, .int st] = .ok (rangeP lo hi st)) ∧
  (∀ (p : PV) (f : PV → R PV), (R.ok p).bind f = f p) ∧
  (∀ (p : PV) (f : PV → R (List PV)), (R.ok p).bind f = f p) ∧
  (∀ (p : PV) (f : PV → R Bool), (R.ok p).bind f = f p) ∧
  (∀ (p : PV) (f : PV → R (Option Int)), (R.ok p).bind f = f p) ∧
  (∀ (p : List PV) (f : List PV → R PV), (R.ok p).bind f = f p) ∧
  (∀ (p : List PV) (f : List PV → R (List PV)), (R.ok p).bind f = f p) ∧
  (∀ (p : Bool) (f : Bool → R PV), (R.ok p).bind f = f p) ∧
  (∀ (p : Bool) (f : Bool → R Bool), (R.ok p).bind f = f p) ∧
  (∀ (p : Option Int) (f : Option Int → R PV), (R.ok p).bind f = f p) ∧
  (∀ (c : Nat) (f : PV → R PV), (R.exc c : R PV).bind f = .exc c) ∧
  (∀ (c : Nat) (f : PV → R (List PV)), (R.exc c : R PV).bind f = .exc c) ∧
  (∀ (c : Nat) (f : PV → R Bool), (R.exc c : R PV).bind f = .exc c) ∧
  (∀ (c : Nat) (f : List PV → R PV), (R.exc c : R (List PV)).bind f = .exc c) ∧
  (∀ (c : Nat) (f : List PV → R (List PV)), (R.exc c : R (List PV)).bind f = .exc c) ∧
  (∀ (c : Nat) (f : Bool → R PV), (R.exc c : R Bool).bind f = .exc c) ∧
  (∀ (c : Nat) (f : Bool → R Bool), (R.exc c : R Bool).bind f = .exc c) ∧
  (∀ (ρ : MEnv), fin (.next ρ) = .ok .non) ∧
  (∀ (v : PV), fin (.ret v) = .ok v) ∧
  (∀ (c : Nat) (ρ : MEnv), fin (.exc c ρ) = .exc c) ∧
  (∀ (n : Nat) (b : FS) (a1 : PV), runF (n + 1) b [a1] = fin (b (some a1 :: List.replicate n none))) ∧
  (∀ (n : Nat) (b : FS) (a1 a2 : PV), runF (n + 2) b [a1, a2] = fin (b (some a1 :: some a2 :: List.replicate n none))) ∧
  (∀ (n : Nat) (b : FS) (a1 a2 a3 : PV), runF (n + 3) b [a1, a2, a3] = fin (b (some a1 :: some a2 :: some a3 :: List.replicate n none))) ∧
  (∀ (n : Nat) (b : FS) (a1 a2 a3 a4 : PV), runF (n + 4) b [a1, a2, a3, a4] = fin (b (some a1 :: some a2 :: some a3 :: some a4 :: List.replicate n none))) ∧
  (∀ (n : Nat) (b : FS) (a1 a2 a3 a4 a5 : PV), runF (n + 5) b [a1, a2, a3, a4, a5] = fin (b (some a1 :: some a2 :: some a3 :: some a4 :: some a5 :: List.replicate n none))) ∧
  (∀ (n : Nat) (b : FS) (a1 a2 a3 a4 a5 a6 : PV), runF (n + 6) b [a1, a2, a3, a4, a5, a6] = fin (b (some a1 :: some a2 :: some a3 :: some a4 :: some a5 :: some a6 :: List.replicate n none))) ∧
  (∀ (a b : Int) (h : okMul a b), oMul (.int a) (.int b) = .ok (.int (a * b))) ∧
  (∀ (a b : Int) (h : okDiv b), oDiv (.int a) (.int b) = .ok (.int (a / b))) ∧
  (∀ (a b : Int) (h : okMod b), oMod (.int a) (.int b) = .ok (.int (a % b))) ∧
  (∀ (a b : Int) (h : okPow a b), oPow (.int a) (.int b) = .ok (.int (powI a b))) ∧
  (∀ (a b : Int) (h : okShl a b), oShl (.int a) (.int b) = .ok (.int (a * p2 b))) ∧
  (∀ (a b : Int) (h : okShr b), oShr (.int a) (.int b) = .ok (.int (a / p2 b))) ∧
  (∀ (a b : Int), oAdd (.int a) (.int b) = .ok (.int (a + b))) ∧
  (∀ (a b : Int), oSub (.int a) (.int b) = .ok (.int (a - b))) ∧
  (∀ (a : Int), oNeg (.int a) = .ok (.int (-a))) ∧
  (∀ (a b : Int), oAnd (.int a) (.int b) = .ok (.int (Builtin.bitAnd a b))) ∧
  (∀ (a b : Int), oOr (.int a) (.int b) = .ok (.int (Builtin.bitOr a b))) ∧
  (∀ (a b : Int), oXor (.int a) (.int b) = .ok (.int (Builtin.bitXor a b))) ∧
  (∀ (a b : Int), cLt (.int a) (.int b) = .ok (.bl (decide (a < b)))) ∧
  (∀ (a b : Int), cLe (.int a) (.int b) = .ok (.bl (decide (a ≤ b)))) ∧
  (∀ (a b : Int), cGt (.int a) (.int b) = .ok (.bl (decide (b < a)))) ∧
  (∀ (a b : Int), cGe (.int a) (.int b) = .ok (.bl (decide (b ≤ a)))) ∧
  (∀ (a b : Int), cEq (.int a) (.int b) = .ok (.bl (decide (a = b)))) ∧
  (∀ (a b : Int), cNe (.int a) (.int b) = .ok (.bl (!decide (a = b)))) ∧
  (∀ (a b : Bool), cEq (.bl a) (.bl b) = .ok (.bl (a == b))) ∧
  (∀ (a b : Bool), cNe (.bl a) (.bl b) = .ok (.bl (!(a == b)))) ∧
  (∀ (a b : Str), cEq (.str a) (.str b) = .ok (.bl (a == b))) ∧
  (∀ (a b : Str), cNe (.str a) (.str b) = .ok (.bl (!(a == b)))) ∧
  (∀ (a b : List PV), cEq (.tup a) (.tup b) = if (a.all (cmpOkN 5) && b.all (cmpOkN 5)) then .ok (.bl (eqPVs a b)) else .stuck) ∧
  (∀ (a b : List PV), cNe (.tup a) (.tup b) = if (a.all (cmpOkN 5) && b.all (cmpOkN 5)) then .ok (.bl (!eqPVs a b)) else .stuck) ∧
  (∀ (a b : List PV), cEq (.lst a) (.lst b) = if (a.all (cmpOkN 5) && b.all (cmpOkN 5)) then .ok (.bl (eqPVs a b)) else .stuck) ∧
  (∀ (a b : List PV), cNe (.lst a) (.lst b) = if (a.all (cmpOkN 5) && b.all (cmpOkN 5)) then .ok (.bl (!eqPVs a b)) else .stuck) ∧
  (∀ (n : Nat) (i : Int), cmpOkN n (.int i) = true) ∧
  (∀ (n : Nat) (i : Bool), cmpOkN n (.bl i) = true) ∧
  (∀ (n : Nat) (i : Str), cmpOkN n (.str i) = true) ∧
  (∀ (n : Nat), cmpOkN n .non = true) ∧
  (∀ (n : Nat) (l : List PV), cmpOkN (n + 1) (.tup l) = l.all (cmpOkN n)) ∧
  (∀ (n : Nat) (l : List PV), cmpOkN (n + 1) (.lst l) = l.all (cmpOkN n)) ∧
  (eqPVs [] [] = true) ∧
  (∀ (x y : PV) (xs ys : List PV), eqPVs (x :: xs) (y :: ys) = (eqPV x y && eqPVs xs ys)) ∧
  (∀ (x : PV) (xs : List PV), eqPVs (x :: xs) [] = false) ∧
  (∀ (x : PV) (xs : List PV), eqPVs [] (x :: xs) = false) ∧
  (∀ (a b : Int), eqPV (.int a) (.int b) = decide (a = b)) ∧
  (∀ (a b : Bool), eqPV (.bl a) (.bl b) = (a == b)) ∧
  (∀ (a b : Str), eqPV (.str a) (.str b) = (a == b)) ∧
  (∀ (a b : List PV), eqPV (.tup a) (.tup b) = eqPVs a b) ∧
  (∀ (a b : List PV), eqPV (.lst a) (.lst b) = eqPVs a b) ∧
  (eqPV .non .non = true) ∧
  (∀ (l : List PV), bLen [.tup l] = .ok (.int l.length)) ∧
  (∀ (l : List PV), bLen [.lst l] = .ok (.int l.length)) ∧
  (∀ (i : Int), bAbs [.int i] = .ok (.int (if i < 0 then -i else i))) ∧
  (∀ (i j : Int), bMin [.int i, .int j] = .ok (.int (if j < i then j else i))) ∧
  (∀ (i j : Int), bMax [.int i, .int j] = .ok (.int (if j > i then j else i))) ∧
  (∀ (i : Int), bInt [.int i] = .ok (.int i)) ∧
  (∀ (b : Bool), bInt [.bl b] = .ok (.int (if b then 1 else 0))) ∧
  (∀ (i : Int), bBitLength (.int i) = .ok (.int (nb i))) ∧
  (∀ (l : List PV), bList [.lst l] = .ok (.lst l)) ∧
  (∀ (l : List PV), bList [.tup l] = .ok (.lst l)) ∧
  (∀ (l : List PV), bTuple [.lst l] = .ok (.tup l)) ∧
  (∀ (l : List PV), bTuple [.tup l] = .ok (.tup l)) ∧
  (∀ (i : Int), isTy (.int i) .int = some true) ∧
  (∀ (i : Int), isTy (.int i) .bool = some false) ∧
  (∀ (i : Int), isTy (.int i) .str = some false) ∧
  (∀ (i : Int), isTy (.int i) .tuple = some false) ∧
  (∀ (i : Bool), isTy (.bl i) .int = some true) ∧
  (∀ (i : Bool), isTy (.bl i) .bool = some true) ∧
  (∀ (i : Bool), isTy (.bl i) .tuple = some false) ∧
  (∀ (i : Bool), isTy (.bl i) .str = some false) ∧
  (∀ (l : List PV), isTy (.tup l) .tuple = some true) ∧
  (∀ (l : List PV), isTy (.tup l) .int = some false) ∧
  (∀ (l : List PV), isTy (.tup l) .str = some false) ∧
  (∀ (l : List PV), isTy (.lst l) .int = some false) ∧
  (∀ (l : List PV), isTy (.lst l) .list = some true) ∧
  (∀ (l : List PV), isTy (.lst l) .tuple = some false) ∧
  (∀ (l : List PV), isTy (.lst l) .str = some false) ∧
  (∀ (x : Str), isTy (.str x) .int = some false) ∧
  (∀ (x : Str), isTy (.str x) .str = some true) ∧
  (∀ (x : Str), isTy (.str x) .tuple = some false) ∧
  (∀ (t : Ty), isTy .non t = some false) ∧
  (isTy .dic0 .int = some false) ∧
  (isTy .dic0 .str = some false) ∧
  (∀ (x : PV) (l : List PV), oItem (.tup (x :: l)) (.int 0) = .ok x) ∧
  (∀ (x y : PV) (l : List PV), oItem (.tup (x :: y :: l)) (.int 1) = .ok y) ∧
  (∀ (x y z : PV) (l : List PV), oItem (.tup (x :: y :: z :: l)) (.int 2) = .ok z) ∧
  (∀ (x : PV) (l : List PV), oItem (.lst (x :: l)) (.int 0) = .ok x) ∧
  (∀ (x y : PV) (l : List PV), oItem (.lst (x :: y :: l)) (.int 1) = .ok y) ∧
  (∀ (x y z : PV) (l : List PV), oItem (.lst (x :: y :: z :: l)) (.int 2) = .ok z) ∧
  (∀ (x0 : Option PV) (ρ0 : MEnv), sNext (x0 :: ρ0) = .next (x0 :: ρ0)) ∧
  (∀ (f g : FS) (x0 : Option PV) (ρ0 : MEnv), sSeq f g (x0 :: ρ0) = match f (x0 :: ρ0) with | .next ρ' => g ρ' | o => o) ∧
  (∀ (v : PV) (ρ : MEnv) (k : PV → SR), ofR (.ok v) ρ k = k v) ∧
  (∀ (c : Nat) (ρ : MEnv) (k : PV → SR), ofR (.exc c) ρ k = .exc c ρ) ∧
  (∀ (a : FE) (x0 : Option PV) (ρ0 : MEnv), sRet a (x0 :: ρ0) = ofR (a (x0 :: ρ0)) (x0 :: ρ0) fun v => .ret v) ∧
  (∀ (a : FE) (x0 : Option PV) (ρ0 : MEnv), sExpr a (x0 :: ρ0) = ofR (a (x0 :: ρ0)) (x0 :: ρ0) fun _ => .next (x0 :: ρ0)) ∧
  (∀ (i : Nat) (a : FE) (x0 : Option PV) (ρ0 : MEnv), sSet i a (x0 :: ρ0) = ofR (a (x0 :: ρ0)) (x0 :: ρ0) fun v => .next ((x0 :: ρ0).set i (some v))) ∧
  (∀ (t : FT) (f g : FS) (x0 : Option PV) (ρ0 : MEnv), sIf t f g (x0 :: ρ0) = match t (x0 :: ρ0) with | .ok c => if c then f (x0 :: ρ0) else g (x0 :: ρ0) | .exc c => .exc c (x0 :: ρ0) | .stuck => .stuck) ∧
  (∀ (i : Nat) (it : FA) (body : FS) (x0 : Option PV) (ρ0 : MEnv), sFor i it body (x0 :: ρ0) = match it (x0 :: ρ0) with | .ok l => forL i body l (x0 :: ρ0) | .exc c => .exc c (x0 :: ρ0) | .stuck => .stuck) ∧
  (∀ (x0 : Option PV) (ρ0 : MEnv), sBreak (x0 :: ρ0) = .brk (x0 :: ρ0)) ∧
  (∀ (x0 : Option PV) (ρ0 : MEnv), sCont (x0 :: ρ0) = .cont (x0 :: ρ0)) ∧
  (∀ (x0 : Option PV) (ρ0 : MEnv), sRetN (x0 :: ρ0) = .ret .non) ∧
  (∀ (c : Nat) (x0 : Option PV) (ρ0 : MEnv), sRaise c (x0 :: ρ0) = .exc c (x0 :: ρ0)) ∧
  (∀ (a : FE) (x0 : Option PV) (ρ0 : MEnv), iSeq a (x0 :: ρ0) = (a (x0 :: ρ0)).bind fun x => match x with | .lst l => .ok l | .tup l => .ok l | _ => .stuck) ∧
  (∀ (i : Nat) (body : FS) (ρ : MEnv), forL i body [] ρ = .next ρ) ∧
  (∀ (i : Nat) (body : FS) (x : PV) (l : List PV) (ρ : MEnv), forL i body (x :: l) ρ = match body (ρ.set i (some x)) with
    | .next ρ' => forL i body l ρ'
    | .cont ρ' => forL i body l ρ'
    | .brk ρ' => .next ρ'
    | o => o) ∧
  (∀ (x0 : Option PV) (ρ0 : MEnv), oNone (x0 :: ρ0) = .ok none) ∧
  (∀ (a : FE) (x0 : Option PV) (ρ0 : MEnv), oSome a (x0 :: ρ0) = (a (x0 :: ρ0)).bind fun x => match x with | .int i => .ok (some i) | _ => .stuck) ∧
  (∀ (a : FE) (l h : FO) (x0 : Option PV) (ρ0 : MEnv), fCut a l h (x0 :: ρ0) = (a (x0 :: ρ0)).bind fun x => (l (x0 :: ρ0)).bind fun lo => (h (x0 :: ρ0)).bind fun hi => oCut x lo hi) ∧
  (∀ (l : List PV) (lo hi : Option Int), oCut (.lst l) lo hi = .ok (.lst (cutP l lo hi))) ∧
  (∀ (i : Int), isSmallI (.ok (.int i)) = decide (i.natAbs < 18446744073709551616)) ∧
  (∀ (k : MEnv → Bool) (c : Nat) (x0 : Option PV) (ρ0 : MEnv), sRaiseT k c (x0 :: ρ0) = if k (x0 :: ρ0) then .exc c (x0 :: ρ0) else .stuck) ∧
  (∀ (f : FS) (ks : List Nat) (d n x : Nat) (x0 : Option PV) (ρ0 : MEnv), sTryAs f ks d n x (x0 :: ρ0) = match f (x0 :: ρ0) with
  | .exc c ρ' => if ks.contains c && under c d then .next (((ρ'.set n (some (.exc c))).set x (some (.exc c))).set n none) else .stuck
  | o => o) ∧
  (∀ (ks : List Nat) (d : Nat) (a : FE) (x0 : Option PV) (ρ0 : MEnv), fIsExc ks d a (x0 :: ρ0) = (a (x0 :: ρ0)).bind fun x => match x with
  | .exc c => if ks.contains c then .ok (.bl (under c d)) else .stuck
  | .non => .ok (.bl false)
  | _ => .stuck) ∧
  (∀ (ks : List Nat) (a : FE) (x0 : Option PV) (ρ0 : MEnv), fIsVal ks a (x0 :: ρ0) = (a (x0 :: ρ0)).bind fun x => match x with
  | .exc c => if ks.contains c then .ok (.bl true) else .stuck
  | .non => .ok (.bl false)
  | _ => .stuck) :=
  ⟨@fVar_e, @getV_0, @getV_s, @asVal_int, @asVal_bl, @asVal_str, @asVal_non, @asVal_tup, @asVal_lst, @asVal_exc, @asVal_dic0, @fC_e, @fBin_e, @fUn_e, @oBool_e, @fAnd_e, @fOr_e, @fNot_e, @fChain_e, @fIf_e, @aNil_e, @aCons_e, @fTup_e, @fLst_e, @fCall_e, @fIsinst_e, @tVal_e, @truth_bl, @truth_int, @truth_non, @tAnd_e, @tOr_e, @tNot_e, @mkTup_1, @mkTup_2, @mkTup_3, @mkTup_4, @mkLst_0, @mkLst_1, @mkLst_2, @mkLst_3, @mkLst_4, @mkLst_5, @mkLst_6, @mkLst_7, @mkLst_8, @asVal_none, @iRange_e, @rg_1, @rg_2, @rg_3, @bind_ok, @bind_okl, @bind_okb, @bind_oko, @bindl_ok, @bindl_okl, @bindb_ok, @bindb_okb, @bindo_ok, @bind_exc, @bind_excl, @bind_excb, @bindl_exc, @bindl_excl, @bindb_exc, @bindb_excb, @fin_next, @fin_ret, @fin_exc, @run_1, @run_2, @run_3, @run_4, @run_5, @run_6, @oMul_i, @oDiv_i, @oMod_i, @oPow_i, @oShl_i, @oShr_i, @oAdd_i, @oSub_i, @oNeg_i, @oAnd_i, @oOr_i, @oXor_i, @cLt_i, @cLe_i, @cGt_i, @cGe_i, @cEq_i, @cNe_i, @cEq_b, @cNe_b, @cEq_s, @cNe_s, @cEq_tup, @cNe_tup, @cEq_lst, @cNe_lst, @cmpOkN_int, @cmpOkN_bl, @cmpOkN_str, @cmpOkN_non, @cmpOkN_tup, @cmpOkN_lst, @eqPVs_nil, @eqPVs_cons, @eqPVs_cn, @eqPVs_nc, @eqPV_i, @eqPV_b, @eqPV_s, @eqPV_t, @eqPV_l, @eqPV_n, @bLen_tup, @bLen_lst, @bAbs_i, @bMin_i, @bMax_i, @bInt_i, @bInt_b, @bBitLength_i, @bList_l, @bList_t, @bTuple_l, @bTuple_t, @isTy_int_i, @isTy_int_b, @isTy_int_s, @isTy_int_t, @isTy_bl_i, @isTy_bl_b, @isTy_bl_t, @isTy_bl_s, @isTy_tup_t, @isTy_tup_i, @isTy_tup_s, @isTy_lst_i, @isTy_lst_l, @isTy_lst_t, @isTy_lst_s, @isTy_str_i, @isTy_str_s, @isTy_str_t, @isTy_non, @isTy_dic_i, @isTy_dic_s, @oItem_t0, @oItem_t1, @oItem_t2, @oItem_l0, @oItem_l1, @oItem_l2, @sNext_e, @sSeq_e, @ofR_ok, @ofR_exc, @sRet_e, @sExpr_e, @sSet_e, @sIf_e, @sFor_e, @sBreak_e, @sCont_e, @sRetN_e, @sRaise_e, @iSeq_e, @forL_nil, @forL_cons, @oNone_e, @oSome_e, @fCut_e, @oCut_lst, @isSmallI_i, @sRaiseT_e, @sTryAs_e, @fIsExc_e, @fIsVal_e⟩
end Mi
set_option Elab.async false
set_option linter.all false
set_option autoImplicit false
set_option maxRecDepth 100000
set_option maxHeartbeats 4000000
namespace Mi
open PySem
theorem p2_nat (n : Nat) : p2 (n : Int) = 2 ^ n := rfl
theorem p2_pos (b : Int) : 0 < p2 b := Int.pow_pos (by decide)
theorem p2_1 : p2 1 = 2 := rfl
theorem p2_add {a b : Int} (ha : 0 ≤ a) (hb : 0 ≤ b) : p2 (a + b) = p2 a * p2 b := by
  obtain ⟨m, rfl⟩ := Int.eq_ofNat_of_zero_le ha
  obtain ⟨n, rfl⟩ := Int.eq_ofNat_of_zero_le hb
  have e : ((m : Int) + (n : Int)) = ((m + n : Nat) : Int) := by omega
  rw [e, p2_nat, p2_nat, p2_nat, Int.pow_add]
theorem p2_succ {a : Int} (ha : 0 ≤ a) : p2 (a + 1) = 2 * p2 a := by rw [p2_add ha (by decide), p2_1, Int.mul_comm]
theorem p2_le {a b : Int} (ha : 0 ≤ a) (h : a ≤ b) : p2 a ≤ p2 b := by
  have e : b = a + (b - a) := by omega
  rw [e, p2_add ha (by omega)]
  have h1 := p2_pos a
  have h2 := p2_pos (b - a)
  have : p2 a * 1 ≤ p2 a * p2 (b - a) := Int.mul_le_mul_of_nonneg_left (by omega) (by omega)
  omega
theorem p2_natAbs {b : Int} (hb : 0 ≤ b) : (p2 b).natAbs = 2 ^ b.toNat := by
  show ((2 : Int) ^ b.toNat).natAbs = _
  rw [Int.natAbs_pow]; rfl
theorem nb_p2 {b : Int} (hb : 0 ≤ b) : nb (p2 b) = b.toNat + 1 := by
  have h0 : p2 b ≠ 0 := by have := p2_pos b; omega
  show (if p2 b == 0 then 0 else (p2 b).natAbs.log2 + 1) = _
  rw [if_neg (by simpa using h0), p2_natAbs hb, Nat.log2_two_pow]
end Mi
set_option Elab.async false
set_option linter.all false
set_option maxRecDepth 100000
namespace Cm
open PySem Mi
noncomputable def b_is_whole : FS := sRet (fAnd (fIsinst .int (fVar 0)) (fNot (fIsinst .bool (fVar 0))))
noncomputable def q_is_whole : List PV → R PV := runF 1 b_is_whole
noncomputable def b_Lcell_at : FS := sSeq (sIf (tVal (fBin cLt (fVar 1) (fCall bLen (aCons (fVar 0) (aNil))))) (sRet (fBin oItem (fVar 0) (fVar 1))) (sNext)) (sRet (fC (.int 0)))
noncomputable def q_Lcell_at : List PV → R PV := runF 2 b_Lcell_at
noncomputable def b_Lwhole : FS := sRet (fAnd (fIsinst .int (fVar 0)) (fNot (fIsinst .bool (fVar 0))))
noncomputable def q_Lwhole : List PV → R PV := runF 1 b_Lwhole
noncomputable def b_is_within : FS := sRet (fAnd (fCall q_is_whole (aCons (fVar 0) (aNil))) (fChain cLe cLe (fVar 1) (fVar 0) (fVar 2)))
noncomputable def q_is_within : List PV → R PV := runF 3 b_is_within
noncomputable def b_width_of : FS := sSeq (sIf (tNot (tVal (fCall q_is_within (aCons (fVar 0) (aCons (fC (.int 2)) (aCons (fC (.int 11)) (aNil))))))) (sRaiseT (fun ρ => (fun _ => true) ρ && (fun ρ => (fun ρ => isSmallI ((fC (.int 2)) ρ)) ρ && (fun ρ => (fun _ => true) ρ && (fun ρ => (fun ρ => isSmallI ((fC (.int 11)) ρ)) ρ && (fun _ => true) ρ) ρ) ρ) ρ) 1) (sNext)) (sSeq (sIf (tNot (tVal (fCall q_is_within (aCons (fVar 1) (aCons (fC (.int 1)) (aCons (fC (.int 60)) (aNil))))))) (sRaiseT (fun ρ => (fun _ => true) ρ && (fun ρ => (fun ρ => isSmallI ((fC (.int 1)) ρ)) ρ && (fun ρ => (fun _ => true) ρ && (fun ρ => (fun ρ => isSmallI ((fC (.int 60)) ρ)) ρ && (fun _ => true) ρ) ρ) ρ) ρ) 1) (sNext)) (sRet (fTup (aCons (fVar 0) (aCons (fVar 1) (aNil))))))
noncomputable def q_width_of : List PV → R PV := runF 2 b_width_of
noncomputable def b_check_width : FS := sSeq (sIf (tOr (tNot (tVal (fIsinst .tuple (fVar 0)))) (tVal (fBin cNe (fCall bLen (aCons (fVar 0) (aNil))) (fC (.int 2))))) (sRaiseT (fun _ => true) 1) (sNext)) (sExpr (fCall q_width_of (aCons (fBin oItem (fVar 0) (fC (.int 0))) (aCons (fBin oItem (fVar 0) (fC (.int 1))) (aNil)))))
noncomputable def q_check_width : List PV → R PV := runF 1 b_check_width
noncomputable def b_many_words : FS := sSeq (sExpr (fCall q_check_width (aCons (fVar 0) (aNil)))) (sRet (fBin oShl (fC (.int 1)) (fBin oAdd (fBin oAdd (fC (.int 1)) (fBin oItem (fVar 0) (fC (.int 0)))) (fBin oItem (fVar 0) (fC (.int 1))))))
noncomputable def q_many_words : List PV → R PV := runF 1 b_many_words
noncomputable def b_all_ones : FS := sRet (fBin oSub (fBin oShl (fC (.int 1)) (fVar 0)) (fC (.int 1)))
noncomputable def q_all_ones : List PV → R PV := runF 1 b_all_ones
noncomputable def b_Lwide : FS := sSeq (sSet 1 (fBin oMod (fBin oMul (fVar 0) (fC (.int 48271))) (fC (.int 999983)))) (sRet (fTup (aCons (fBin oAdd (fC (.int 2)) (fBin oMod (fVar 1) (fC (.int 10)))) (aCons (fBin oAdd (fC (.int 1)) (fBin oMod (fBin oDiv (fVar 1) (fC (.int 10))) (fC (.int 60)))) (aNil)))))
noncomputable def q_Lwide : List PV → R PV := runF 2 b_Lwide
noncomputable def b_Lword : FS := sSeq (sSet 2 (fBin oShl (fC (.int 1)) (fBin oAdd (fBin oAdd (fC (.int 1)) (fBin oItem (fVar 0) (fC (.int 0)))) (fBin oItem (fVar 0) (fC (.int 1)))))) (sSeq (sSet 3 (fBin oMod (fBin oMul (fVar 1) (fC (.int 618033988749894848204587))) (fBin oAdd (fBin oPow (fC (.int 10)) (fC (.int 24))) (fC (.int 7))))) (sSeq (sSet 4 (fBin oShl (fBin oSub (fBin oShl (fC (.int 1)) (fBin oItem (fVar 0) (fC (.int 0)))) (fC (.int 1))) (fBin oItem (fVar 0) (fC (.int 1))))) (sSeq (sSet 5 (fLst (aCons (fC (.int 0)) (aCons (fC (.int 1)) (aCons (fBin oSub (fBin oShl (fC (.int 1)) (fBin oItem (fVar 0) (fC (.int 1)))) (fC (.int 1))) (aCons (fBin oShl (fC (.int 1)) (fBin oItem (fVar 0) (fC (.int 1)))) (aCons (fBin oSub (fVar 4) (fC (.int 1))) (aCons (fVar 4) (aCons (fBin oAdd (fVar 4) (fC (.int 1))) (aCons (fBin oAdd (fVar 4) (fBin oShl (fC (.int 1)) (fBin oSub (fBin oItem (fVar 0) (fC (.int 1))) (fC (.int 1))))) (aNil))))))))))) (sSeq (sSet 6 (fBin oMod (fBin oDiv (fVar 3) (fVar 2)) (fC (.int 16)))) (sSeq (sIf (tVal (fBin cLt (fVar 6) (fC (.int 8)))) (sRet (fBin oAdd (fBin oItem (fVar 5) (fVar 6)) (fBin oMul (fBin oMod (fVar 3) (fC (.int 2))) (fBin oDiv (fVar 2) (fC (.int 2)))))) (sNext)) (sRet (fBin oMod (fVar 3) (fVar 2))))))))
noncomputable def q_Lword : List PV → R PV := runF 7 b_Lword
noncomputable def b_check_part : FS := sIf (tNot (tVal (fCall q_is_within (aCons (fVar 0) (aCons (fC (.int 0)) (aCons (fCall q_all_ones (aCons (fVar 1) (aNil))) (aNil))))))) (sRaiseT (fun ρ => (fun _ => true) ρ && (fun ρ => (fun ρ => isSmallI ((fVar 1) ρ)) ρ && (fun ρ => (fun _ => true) ρ && (fun _ => true) ρ) ρ) ρ) 2) (sNext)
noncomputable def q_check_part : List PV → R PV := runF 2 b_check_part
noncomputable def b_joined : FS := sSeq (sExpr (fCall q_check_width (aCons (fVar 0) (aNil)))) (sSeq (sExpr (fCall q_check_part (aCons (fVar 1) (aCons (fC (.int 1)) (aNil))))) (sSeq (sExpr (fCall q_check_part (aCons (fVar 2) (aCons (fBin oItem (fVar 0) (fC (.int 0))) (aNil))))) (sSeq (sExpr (fCall q_check_part (aCons (fVar 3) (aCons (fBin oItem (fVar 0) (fC (.int 1))) (aNil))))) (sRet (fBin oAdd (fBin oAdd (fBin oShl (fVar 1) (fBin oAdd (fBin oItem (fVar 0) (fC (.int 0))) (fBin oItem (fVar 0) (fC (.int 1))))) (fBin oShl (fVar 2) (fBin oItem (fVar 0) (fC (.int 1))))) (fVar 3))))))
noncomputable def q_joined : List PV → R PV := runF 4 b_joined
noncomputable def b_check_word : FS := sIf (tNot (tVal (fCall q_is_within (aCons (fVar 1) (aCons (fC (.int 0)) (aCons (fBin oSub (fCall q_many_words (aCons (fVar 0) (aNil))) (fC (.int 1))) (aNil))))))) (sRaiseT (fun _ => true) 2) (sNext)
noncomputable def q_check_word : List PV → R PV := runF 2 b_check_word
noncomputable def b_cut : FS := sSeq (sExpr (fCall q_check_word (aCons (fVar 0) (aCons (fVar 1) (aNil))))) (sSeq (sSet 2 (fBin oShr (fVar 1) (fBin oAdd (fBin oItem (fVar 0) (fC (.int 0))) (fBin oItem (fVar 0) (fC (.int 1)))))) (sSeq (sSet 3 (fBin oAnd (fBin oShr (fVar 1) (fBin oItem (fVar 0) (fC (.int 1)))) (fCall q_all_ones (aCons (fBin oItem (fVar 0) (fC (.int 0))) (aNil))))) (sSeq (sSet 4 (fBin oAnd (fVar 1) (fCall q_all_ones (aCons (fBin oItem (fVar 0) (fC (.int 1))) (aNil))))) (sRet (fTup (aCons (fVar 2) (aCons (fVar 3) (aCons (fVar 4) (aNil)))))))))
noncomputable def q_cut : List PV → R PV := runF 5 b_cut
noncomputable def b_bits_told_v2 : FS := sRet (fStrM bJoin (fC (.str "")) (aCons (fComp 2 (iRange (aCons (fBin oSub (fVar 1) (fC (.int 1))) (aCons (fUn oNeg (fC (.int 1))) (aCons (fUn oNeg (fC (.int 1))) (aNil))))) (tTrue) (fIf (tVal (fBin oAnd (fBin oShr (fVar 0) (fVar 2)) (fC (.int 1)))) (fC (.str "1")) (fC (.str "0")))) (aNil)))
noncomputable def q_bits_told_v2 : List PV → R PV := runF 2 b_bits_told_v2
noncomputable def b_bits_read_v2_1 : FS := sSeq (sIf (tVal (fBin cNotIn (fVar 2) (fTup (aCons (fC (.str "0")) (aCons (fC (.str "1")) (aNil)))))) (sRaiseT (fun _ => true) 6) (sNext)) (sSet 1 (fBin oAdd (fBin oMul (fC (.int 2)) (fVar 1)) (fIf (tVal (fBin cEq (fVar 2) (fC (.str "1")))) (fC (.int 1)) (fC (.int 0)))))
noncomputable def b_bits_read_v2 : FS := sSeq (sSet 1 (fC (.int 0))) (sSeq (sFor 2 (iStr (fVar 0)) (b_bits_read_v2_1)) (sRet (fVar 1)))
noncomputable def q_bits_read_v2 : List PV → R PV := runF 3 b_bits_read_v2
noncomputable def b_Ldue_v11_1 : FS := sSeq (sIf (tVal (fBin cNotIn (fVar 4) (fC (.str "01 ")))) (sRet (fC .non)) (sNext)) (sIf (tVal (fBin cNe (fVar 4) (fC (.str " ")))) (sSet 3 (fBin oAdd (fBin oAdd (fVar 3) (fVar 3)) (fStrM bIndex (fC (.str "01")) (aCons (fVar 4) (aNil))))) (sNext))
noncomputable def b_Ldue_v11 : FS := sSeq (sSet 2 (fStrM bSplit (fVar 1) (aCons (fC (.str " ")) (aNil)))) (sSeq (sIf (tOr (tVal (fBin cNe (fCall bLen (aCons (fVar 2) (aNil))) (fC (.int 3)))) (tVal (fBin cNe (fComp 5 (iSeq (fVar 2)) (tTrue) (fCall bLen (aCons (fVar 5) (aNil)))) (fLst (aCons (fC (.int 1)) (aCons (fBin oItem (fVar 0) (fC (.int 0))) (aCons (fBin oItem (fVar 0) (fC (.int 1))) (aNil)))))))) (sRet (fC .non)) (sNext)) (sSeq (sSet 3 (fC (.int 0))) (sSeq (sFor 4 (iStr (fVar 1)) (b_Ldue_v11_1)) (sRet (fVar 3)))))
noncomputable def q_Ldue_v11 : List PV → R PV := runF 5 b_Ldue_v11
noncomputable def b_Lspoiled_v4 : FS := sSeq (sSet 2 (fBin oMod (fBin oDiv (fVar 1) (fC (.int 9))) (fCall bLen (aCons (fVar 0) (aNil))))) (sSeq (sSet 3 (fBin oItem (fLst (aCons (fC (.str "0")) (aCons (fC (.str "1")) (aCons (fC (.str "2")) (aCons (fC (.str "-")) (aCons (fC (.str "b")) (aCons (fC (.str "+")) (aCons (fC (.str "_")) (aCons (fC (.str "l")) (aCons (fC (.str "\n")) (aCons (fC (.str "/")) (aCons (fC (.str "x")) (aNil))))))))))))) (fBin oMod (fBin oDiv (fVar 1) (fC (.int 700))) (fC (.int 11))))) (sSeq (sSet 4 (fLst (aCons (fBin oAdd (fBin oAdd (fCut (fVar 0) (oNone) (oSome (fVar 2))) (fVar 3)) (fCut (fVar 0) (oSome (fVar 2)) (oNone))) (aCons (fBin oAdd (fCut (fVar 0) (oNone) (oSome (fVar 2))) (fCut (fVar 0) (oSome (fBin oAdd (fVar 2) (fC (.int 1)))) (oNone))) (aCons (fBin oAdd (fBin oAdd (fCut (fVar 0) (oNone) (oSome (fVar 2))) (fVar 3)) (fCut (fVar 0) (oSome (fBin oAdd (fVar 2) (fC (.int 1)))) (oNone))) (aNil)))))) (sSeq (sSet 4 (fBin oAdd (fVar 4) (fLst (aCons (fBin oAddN (fBin oAdd (fCut (fVar 0) (oNone) (oSome (fVar 2))) (fC (.str " "))) (fCut (fVar 0) (oSome (fVar 2)) (oNone))) (aCons (fRepl1 " " "" 0) (aCons (fStrM bJoinR (fC (.str " ")) (aCons (fStrM bSplit (fVar 0) (aCons (fC (.str " ")) (aNil))) (aNil))) (aNil))))))) (sSeq (sSet 4 (fBin oAdd (fVar 4) (fLst (aCons (fBin oAdd (fC (.str " ")) (fVar 0)) (aCons (fBin oAdd (fVar 0) (fC (.str " "))) (aCons (fCut (fVar 0) (oNone) (oSome (fVar 2))) (aNil))))))) (sRet (fBin oItem (fVar 4) (fBin oMod (fVar 1) (fC (.int 9)))))))))
noncomputable def q_Lspoiled_v4 : List PV → R PV := runF 5 b_Lspoiled_v4
noncomputable def b_word_of_v3 : FS := sSeq (sExpr (fCall q_check_width (aCons (fVar 0) (aNil)))) (sSeq (sIf (tNot (tVal (fIsinst .str (fVar 1)))) (sRaiseT (fun _ => true) 6) (sNext)) (sSeq (sSet 2 (fStrM bSplit (fVar 1) (aCons (fC (.str " ")) (aNil)))) (sSeq (sIf (tVal (fBin cNe (fComp 3 (iSeq (fVar 2)) (tTrue) (fCall bLen (aCons (fVar 3) (aNil)))) (fLst (aCons (fC (.int 1)) (aCons (fBin oItem (fVar 0) (fC (.int 0))) (aCons (fBin oItem (fVar 0) (fC (.int 1))) (aNil))))))) (sRaiseT (fun _ => true) 6) (sNext)) (sRet (fCall q_joined (aCons (fVar 0) (aCons (fCall q_bits_read_v2 (aCons (fBin oItem (fVar 2) (fC (.int 0))) (aNil))) (aCons (fCall q_bits_read_v2 (aCons (fBin oItem (fVar 2) (fC (.int 1))) (aNil))) (aCons (fCall q_bits_read_v2 (aCons (fBin oItem (fVar 2) (fC (.int 2))) (aNil))) (aNil))))))))))
noncomputable def q_word_of_v3 : List PV → R PV := runF 3 b_word_of_v3
noncomputable def b_Lrefused_v20 : FS := sSeq (sSet 2 (fC .non)) (sSeq (sTryAs (sExpr (fCall q_word_of_v3 (aCons (fVar 0) (aCons (fVar 1) (aNil))))) [0, 1, 2, 4, 6] 0 3 2) (sSeq (sIf (tOr (tVal (fIsExc [0, 1, 2, 4, 6] 2 (fVar 2))) (tVal (fIsExc [0, 1, 2, 4, 6] 4 (fVar 2)))) (sRet (fC (.bl false))) (sNext)) (sRet (fAnd (fIsExc [0, 1, 2, 4, 6] 6 (fVar 2)) (fIsVal [0, 1, 2, 4, 6] (fVar 2))))))
noncomputable def q_Lrefused_v20 : List PV → R PV := runF 4 b_Lrefused_v20
noncomputable def b_Lread_v3 : FS := sSeq (sSet 3 (fCall q_word_of_v3 (aCons (fVar 0) (aCons (fVar 1) (aNil))))) (sRet (fAnd (fCall q_Lwhole (aCons (fVar 3) (aNil))) (fBin cEq (fVar 3) (fVar 2))))
noncomputable def q_Lread_v3 : List PV → R PV := runF 4 b_Lread_v3
noncomputable def b_bits_of_v2 : FS := sSeq (sSet 2 (fCall q_cut (aCons (fVar 0) (aCons (fVar 1) (aNil))))) (sRet (fStrM bJoin (fC (.str " ")) (aCons (fLst (aCons (fCall q_bits_told_v2 (aCons (fBin oItem (fVar 2) (fC (.int 0))) (aCons (fC (.int 1)) (aNil)))) (aCons (fCall q_bits_told_v2 (aCons (fBin oItem (fVar 2) (fC (.int 1))) (aCons (fBin oItem (fVar 0) (fC (.int 0))) (aNil)))) (aCons (fCall q_bits_told_v2 (aCons (fBin oItem (fVar 2) (fC (.int 2))) (aCons (fBin oItem (fVar 0) (fC (.int 1))) (aNil)))) (aNil))))) (aNil))))
noncomputable def q_bits_of_v2 : List PV → R PV := runF 3 b_bits_of_v2
noncomputable def b_law_v89_1 : FS := sSeq (sSet 5 (fCall q_Lword (aCons (fVar 1) (aCons (fVar 4) (aNil))))) (sSeq (sSet 6 (fCall q_bits_of_v2 (aCons (fVar 2) (aCons (fVar 5) (aNil))))) (sSeq (sIf (tOr (tNot (tVal (fIsinst .str (fVar 6)))) (tOr (tVal (fBin cNe (fCall q_Ldue_v11 (aCons (fVar 1) (aCons (fVar 6) (aNil)))) (fVar 5))) (tNot (tVal (fCall q_Lread_v3 (aCons (fVar 2) (aCons (fVar 6) (aCons (fVar 5) (aNil))))))))) (sRet (fC (.bl false))) (sNext)) (sSeq (sSet 7 (fCall q_Lspoiled_v4 (aCons (fVar 6) (aCons (fBin oMod (fVar 4) (fBin oPow (fC (.int 10)) (fC (.int 9)))) (aNil))))) (sSeq (sSet 8 (fCall q_Ldue_v11 (aCons (fVar 1) (aCons (fVar 7) (aNil))))) (sSeq (sIf (tAnd (tVal (fUn cIsN (fVar 8))) (tNot (tVal (fCall q_Lrefused_v20 (aCons (fVar 2) (aCons (fVar 7) (aNil))))))) (sRet (fC (.bl false))) (sNext)) (sSeq (sIf (tAnd (tVal (fUn cNotN (fVar 8))) (tNot (tVal (fCall q_Lread_v3 (aCons (fVar 2) (aCons (fVar 7) (aCons (fVar 8) (aNil)))))))) (sRet (fC (.bl false))) (sNext)) (sIf (tNot (tVal (fCall q_Lread_v3 (aCons (fVar 2) (aCons (fVar 6) (aCons (fVar 5) (aNil))))))) (sRet (fC (.bl false))) (sNext))))))))
noncomputable def b_law_v89 : FS := sSeq (sSet 1 (fCall q_Lwide (aCons (fCall q_Lcell_at (aCons (fVar 0) (aCons (fC (.int 0)) (aNil)))) (aNil)))) (sSeq (sSet 2 (fCall q_width_of (aCons (fBin oItem (fVar 1) (fC (.int 0))) (aCons (fBin oItem (fVar 1) (fC (.int 1))) (aNil))))) (sSeq (sSet 3 (fBin oItem (fLst (aCons (fC .non) (aCons (fC (.bl true)) (aCons (fC (.int 0)) (aCons (fC (.int 1)) (aCons (fLst (aCons (fC (.str "0")) (aCons (fC (.str "1")) (aNil)))) (aCons (fTup (aCons (fC (.str "0")) (aNil))) (aCons (fC .dic0) (aNil))))))))) (fBin oMod (fCall q_Lcell_at (aCons (fVar 0) (aCons (fC (.int 0)) (aNil)))) (fC (.int 7))))) (sSeq (sFor 4 (iSeq (fCut (fVar 0) (oSome (fC (.int 1))) (oSome (fC (.int 13))))) (b_law_v89_1)) (sRet (fCall q_Lrefused_v20 (aCons (fVar 2) (aCons (fVar 3) (aNil))))))))
noncomputable def q_law_v89 : List PV → R PV := runF 9 b_law_v89
end Cm
set_option Elab.async false
set_option linter.all false
set_option autoImplicit false
set_option maxRecDepth 100000
namespace Cm
open PySem Mi PySem.Builtin.Str PySem.NumText
def tx (l : List Nat) : PySem.Str := ⟨l.toArray⟩
theorem tx_l (l : List Nat) : (tx l).cps.toList = l := by simp [tx]
theorem tx_of (z : PySem.Str) : z = tx z.cps.toList := by cases z; simp [tx]
theorem tx_inj {a b : List Nat} (h : tx a = tx b) : a = b := by rw [← tx_l a, h, tx_l]
theorem tx_app (a b : List Nat) : tx a ++ tx b = tx (a ++ b) := by
  show (⟨a.toArray ++ b.toArray⟩ : PySem.Str) = _
  simp [tx]
theorem tx_len (a : List Nat) : (tx a).length = a.length := by show (tx a).cps.size = _; simp [tx]
theorem tx_beq (a b : List Nat) : (tx a == tx b) = decide (a = b) := by
  by_cases h : a = b
  · subst h; simp
  · rw [decide_eq_false h]; exact beq_eq_false_iff_ne.mpr fun q => h (tx_inj q)
theorem line_of {n : Nat} (h : n ≤ 16000000) : n ≤ sizeLine := Nat.le_trans h (by decide)
theorem tAdd {a b : List Nat} (h : a.length + b.length ≤ 16000000) : oAdd (.str (tx a)) (.str (tx b)) = .ok (.str (tx (a ++ b))) := by
  show (if _ then _ else _) = _
  rw [tx_len, tx_len, if_pos (line_of h), tx_app]
theorem tLen {a : List Nat} (h : a.length ≤ 16000000) : bLen [.str (tx a)] = .ok (.int a.length) := by
  show (if _ then _ else _) = _
  rw [tx_len, if_pos (line_of h)]
theorem tEq (a b : List Nat) : cEq (.str (tx a)) (.str (tx b)) = .ok (.bl (decide (a = b))) := by rw [← tx_beq]; rfl
theorem tNe (a b : List Nat) : cNe (.str (tx a)) (.str (tx b)) = .ok (.bl (!decide (a = b))) := by rw [← tx_beq]; rfl
theorem cutN {z : List Nat} {lo hi : Option Int} (h : z.length ≤ 16000000) : oCut (.str (tx z)) lo hi = .ok (.str (tx ((z.drop (slP z.length 0 lo)).take (slP z.length z.length hi - slP z.length 0 lo)))) := by
  show (if _ then _ else _) = _
  rw [tx_len, if_pos (line_of h)]
  unfold sCut
  rw [tx_l]
  rfl
theorem sl_at {n d : Nat} {k : Int} (h : 0 ≤ k) : slP n d (some k) = min k.toNat n := if_neg (by omega)
theorem tDrop {z : List Nat} {k : Int} (h : z.length ≤ 16000000) (h0 : 0 ≤ k) : oCut (.str (tx z)) (some k) none = .ok (.str (tx (z.drop k.toNat))) := by
  rw [cutN h, sl_at h0]
  show R.ok (PV.str (tx ((z.drop _).take (z.length - _)))) = _
  congr 3
  by_cases c : k.toNat ≤ z.length
  · rw [Nat.min_eq_left c]; exact List.take_of_length_le (by rw [List.length_drop]; omega)
  · rw [Nat.min_eq_right (by omega), List.drop_of_length_le (Nat.le_refl _), List.drop_of_length_le (by omega)]; simp
theorem tTake {z : List Nat} {k : Int} (h : z.length ≤ 16000000) (h0 : 0 ≤ k) : oCut (.str (tx z)) none (some k) = .ok (.str (tx (z.take k.toNat))) := by
  rw [cutN h, sl_at h0]
  show R.ok (PV.str (tx ((z.drop 0).take (_ - 0)))) = _
  congr 3
  rw [List.drop_zero, Nat.sub_zero]
  by_cases c : k.toNat ≤ z.length
  · rw [Nat.min_eq_left c]
  · rw [Nat.min_eq_right (by omega), List.take_of_length_le (Nat.le_refl _), List.take_of_length_le (by omega)]
theorem tNotIn (c : Nat) (l : List Nat) : cNotIn (.str (tx [c])) (.str (tx l)) = .ok (.bl (!decide (c ∈ l))) := by
  have e := StrLaws.found_one (tx l) c
  rw [tx_l] at e
  show R.ok (PV.bl (!(!(occurrences (tx l) ⟨#[c]⟩ 0 (tx l).length 1).isEmpty))) = _
  rw [e]
/-- partition at a sign -/
def pt (c : Nat) : List Nat → List Nat × List Nat × List Nat
  | [] => ([], [], [])
  | x :: r => if x = c then ([], [c], r) else (x :: (pt c r).1, (pt c r).2.1, (pt c r).2.2)
theorem pt_at {c : Nat} {b : List Nat} : ∀ {a : List Nat}, c ∉ a → pt c (a ++ c :: b) = (a, [c], b)
  | [], _ => if_pos rfl
  | x :: r, h => by
    have h1 : ¬ x = c := fun q => h (q ▸ List.mem_cons_self)
    have ih := pt_at (c := c) (b := b) (a := r) fun q => h (List.mem_cons_of_mem _ q)
    show (if x = c then _ else (x :: (pt c (r ++ c :: b)).1, (pt c (r ++ c :: b)).2.1, (pt c (r ++ c :: b)).2.2)) = _
    rw [if_neg h1, ih]
end Cm
set_option Elab.async false
set_option linter.all false
set_option autoImplicit false
set_option maxRecDepth 100000
namespace Cm
open PySem Mi PySem.Builtin.Str PySem.NumText
/-- the figures of a number -/
def dg (n : Nat) : List Nat := (Nat.toDigits 10 n).map Char.toNat
/-- the text of a whole number -/
def dgI (a : Int) : List Nat := if a < 0 then 45 :: dg a.natAbs else dg a.natAbs
theorem dgI_pos {a : Int} (h : 0 ≤ a) : dgI a = dg a.natAbs := if_neg (by omega)
theorem dgI_neg {a : Int} (h : a < 0) : dgI a = 45 :: dg a.natAbs := if_pos h
theorem str_int (a : Int) : PySem.Str.ofString (toString a) = tx (dgI a) := by
  have nat : ∀ n : Nat, (toString n).toList = Nat.toDigits 10 n := fun n => by
    show (Nat.repr n).toList = _
    unfold Nat.repr
    simp
  rw [Str.ofString_eq_toList]
  unfold tx
  congr 2
  cases a with
  | ofNat n =>
    rw [dgI_pos (a := Int.ofNat n) (Int.natCast_nonneg n)]
    show List.map Char.toNat (toString n).toList = _
    rw [nat]
    rfl
  | negSucc n =>
    rw [dgI_neg (Int.negSucc_lt_zero n)]
    show List.map Char.toNat ("-" ++ toString (n + 1)).toList = _
    rw [String.toList_append, nat]
    rfl
theorem lit_n : Str.ofString "" = tx [] := by decide +kernel
theorem lit_0 : Str.ofString "0" = tx [48] := by decide +kernel
end Cm
set_option Elab.async false
set_option linter.all false
set_option autoImplicit false
set_option maxRecDepth 100000
set_option maxHeartbeats 4000000
namespace Cm
open PySem Mi
theorem oItem_ints {ns : List Int} {i : Int} (h0 : 0 ≤ i) (h : i < ns.length) : oItem (.lst (ns.map PV.int)) (.int i) = .ok (.int (ns.getD i.toNat 0)) := by
  refine oItem_at h0 ?_
  have hl : i.toNat < ns.length := by omega
  rw [List.getElem?_map, List.getD_eq_getElem?_getD, List.getElem?_eq_getElem hl]
  rfl
theorem q_cell (ns : List Int) (k : Int) (hk : 0 ≤ k) : q_Lcell_at [.lst (ns.map PV.int), .int k] = .ok (.int (ns.getD k.toNat 0)) := by
  by_cases h : k < (ns.length : Int)
  · simp only [q_Lcell_at, b_Lcell_at, ev, evl, okw, powI, Int.reduceLT, Int.reduceLE, Int.reduceNeg, Int.reduceAdd, Int.reduceSub, Int.reduceMul, Int.reducePow, Int.reduceToNat, Nat.reduceAdd, Nat.reduceSub, ne_eq, not_false_eq_true, not_true_eq_false, Int.reduceEq, reduceCtorEq, List.length_map, h, oItem_ints hk h]
  · have e : ns.getD k.toNat 0 = 0 := by
      rw [List.getD_eq_getElem?_getD, List.getElem?_eq_none (by omega)]; rfl
    simp only [q_Lcell_at, b_Lcell_at, ev, evl, okw, powI, Int.reduceLT, Int.reduceLE, Int.reduceNeg, Int.reduceAdd, Int.reduceSub, Int.reduceMul, Int.reducePow, Int.reduceToNat, Nat.reduceAdd, Nat.reduceSub, ne_eq, not_false_eq_true, not_true_eq_false, Int.reduceEq, reduceCtorEq, List.length_map, h, e]
theorem q_whole (n : Int) : q_Lwhole [.int n] = .ok (.bl true) := by simp only [q_Lwhole, b_Lwhole, ev, evl, okw, powI, Int.reduceLT, Int.reduceLE, Int.reduceNeg, Int.reduceAdd, Int.reduceSub, Int.reduceMul, Int.reducePow, Int.reduceToNat, Nat.reduceAdd, Nat.reduceSub, ne_eq, not_false_eq_true, not_true_eq_false, Int.reduceEq, reduceCtorEq]
theorem mem_range {x : PV} {lo hi st : Int} (hs : 0 < st) (h : x ∈ rangeP lo hi st) : ∃ i, x = .int i ∧ lo ≤ i ∧ i < hi := by
  unfold rangeP at h
  rw [List.mem_map] at h
  obtain ⟨k, hk, rfl⟩ := h
  rw [List.mem_range] at hk
  unfold rangeN at hk
  rw [if_pos hs] at hk
  refine ⟨_, rfl, ?_, ?_⟩
  · have := Int.mul_nonneg (Int.natCast_nonneg k) (Int.le_of_lt hs); omega
  · by_cases hl : lo < hi
    · rw [if_pos hl] at hk
      have h1 : (k : Int) ≤ (hi - lo - 1) / st := by
        have : 0 ≤ (hi - lo - 1) / st := Int.ediv_nonneg (by omega) (by omega)
        omega
      have h2 := Int.mul_le_mul_of_nonneg_right h1 (Int.le_of_lt hs)
      have h3 : (hi - lo - 1) / st * st ≤ hi - lo - 1 := Int.ediv_mul_le _ (by omega)
      omega
    · rw [if_neg hl] at hk; omega
end Cm
set_option Elab.async false
set_option linter.all false
set_option autoImplicit false
set_option maxRecDepth 100000
set_option maxHeartbeats 4000000
namespace Cm
open PySem Mi
theorem fComp_e (n : Nat) (it : FA) (t : FT) (f : FE) (x0 : Option PV) (ρ0 : MEnv) : fComp n it t f (x0 :: ρ0) = (it (x0 :: ρ0)).bind (compK n t f (x0 :: ρ0)) := rfl
theorem compK_ok {n : Nat} {t : FT} {f : FE} {ρ : MEnv} {l vs : List PV} (h : l.length ≤ 1000000) (e : compL n t f ρ l = .ok vs) : compK n t f ρ l = .ok (.lst vs) := by
  unfold compK; rw [if_pos h, e]
end Cm
set_option Elab.async false
set_option linter.all false
set_option autoImplicit false
set_option maxRecDepth 100000
set_option maxHeartbeats 4000000
namespace Cm
open PySem Mi PySem.NumText
theorem fSt_e (b : List PV → R PV) (a : FE) (r : FA) (x0 : Option PV) (ρ0 : MEnv) : fStrM b a r (x0 :: ρ0) = (a (x0 :: ρ0)).bind (strK b (r (x0 :: ρ0))) := rfl
theorem strK_ok (b : List PV → R PV) (z : Str) (l : List PV) : strK b (.ok l) (.str z) = b (.str z :: l) := rfl
theorem bools_map {α : Type} (g : α → Bool) (l : List α) : boolsP (l.map fun c => PV.bl (g c)) = some (l.map g) := by
  induction l with
  | nil => rfl
  | cons c r ih => show (boolsP _).map _ = _; rw [ih]; rfl
theorem all_map {α : Type} (g : α → Bool) (l : List α) : bAll [.lst (l.map fun c => PV.bl (g c))] = .ok (.bl (l.all g)) := by
  unfold bAll
  simp only [bools_map]
  congr 2
  rw [List.all_map]
  rfl
end Cm
set_option Elab.async false
set_option linter.all false
set_option autoImplicit false
set_option maxRecDepth 100000
set_option maxHeartbeats 4000000
namespace Cm
open PySem Mi
def Wd (e f : Int) : Prop := 2 ≤ e ∧ e ≤ 11 ∧ 1 ≤ f ∧ f ≤ 60
theorem okShl_1 {b : Int} (h0 : 0 ≤ b) (h : b ≤ 1000) : okShl 1 b := okShl_of (n := 1) h0 (by decide) (by omega)
theorem q_isw {x lo hi : Int} (h0 : lo ≤ x) (h1 : x ≤ hi) : q_is_within [.int x, .int lo, .int hi] = .ok (.bl true) := by
  simp only [q_is_within, b_is_within, q_is_whole, b_is_whole, ev, evl, okw, powI, Int.reduceLT, Int.reduceLE, Int.reduceNeg, Int.reduceAdd, Int.reduceSub, Int.reduceMul, Int.reducePow, Int.reduceToNat, Nat.reduceAdd, Nat.reduceSub, ne_eq, not_false_eq_true, not_true_eq_false, Int.reduceEq, reduceCtorEq, h0, h1]
theorem q_wof {e f : Int} (h : Wd e f) : q_width_of [.int e, .int f] = .ok (.tup [.int e, .int f]) := by
  obtain ⟨h1, h2, h3, h4⟩ := h
  simp only [q_width_of, b_width_of, ev, evl, okw, powI, Int.reduceLT, Int.reduceLE, Int.reduceNeg, Int.reduceAdd, Int.reduceSub, Int.reduceMul, Int.reducePow, Int.reduceToNat, Nat.reduceAdd, Nat.reduceSub, ne_eq, not_false_eq_true, not_true_eq_false, Int.reduceEq, reduceCtorEq, q_isw h1 h2, q_isw h3 h4]
theorem cast2 : ((2 : Nat) : Int) = 2 := rfl
theorem q_chw {e f : Int} (h : Wd e f) : q_check_width [.tup [.int e, .int f]] = .ok .non := by
  simp only [q_check_width, b_check_width, ev, evl, okw, powI, Int.reduceLT, Int.reduceLE, Int.reduceNeg, Int.reduceAdd, Int.reduceSub, Int.reduceMul, Int.reducePow, Int.reduceToNat, Nat.reduceAdd, Nat.reduceSub, ne_eq, not_false_eq_true, not_true_eq_false, Int.reduceEq, reduceCtorEq, cast2, q_wof h, decide_true, Bool.not_true, Bool.false_eq_true, if_false]
theorem q_many {e f : Int} (h : Wd e f) : q_many_words [.tup [.int e, .int f]] = .ok (.int (p2 (1 + e + f))) := by
  have := q_chw h
  obtain ⟨h1, h2, h3, h4⟩ := h
  simp only [q_many_words, b_many_words, ev, evl, okw, powI, Int.reduceLT, Int.reduceLE, Int.reduceNeg, Int.reduceAdd, Int.reduceSub, Int.reduceMul, Int.reducePow, Int.reduceToNat, Nat.reduceAdd, Nat.reduceSub, ne_eq, not_false_eq_true, not_true_eq_false, Int.reduceEq, reduceCtorEq, this, okShl_1 (b := 1 + e + f) (by omega) (by omega), Int.one_mul]
theorem q_ones {c : Int} (h0 : 0 ≤ c) (h : c ≤ 1000) : q_all_ones [.int c] = .ok (.int (p2 c - 1)) := by
  simp only [q_all_ones, b_all_ones, ev, evl, okw, powI, Int.reduceLT, Int.reduceLE, Int.reduceNeg, Int.reduceAdd, Int.reduceSub, Int.reduceMul, Int.reducePow, Int.reduceToNat, Nat.reduceAdd, Nat.reduceSub, ne_eq, not_false_eq_true, not_true_eq_false, Int.reduceEq, reduceCtorEq, okShl_1 h0 h, Int.one_mul]
theorem q_chword {e f w : Int} (h : Wd e f) (h0 : 0 ≤ w) (h1 : w < p2 (1 + e + f)) : q_check_word [.tup [.int e, .int f], .int w] = .ok .non := by
  simp only [q_check_word, b_check_word, ev, evl, okw, powI, Int.reduceLT, Int.reduceLE, Int.reduceNeg, Int.reduceAdd, Int.reduceSub, Int.reduceMul, Int.reducePow, Int.reduceToNat, Nat.reduceAdd, Nat.reduceSub, ne_eq, not_false_eq_true, not_true_eq_false, Int.reduceEq, reduceCtorEq, q_many h, q_isw h0 (show w ≤ p2 (1 + e + f) - 1 by omega)]
theorem q_part {x c : Int} (hc : 0 ≤ c) (hc' : c ≤ 1000) (h0 : 0 ≤ x) (h1 : x < p2 c) : q_check_part [.int x, .int c] = .ok .non := by
  simp only [q_check_part, b_check_part, ev, evl, okw, powI, Int.reduceLT, Int.reduceLE, Int.reduceNeg, Int.reduceAdd, Int.reduceSub, Int.reduceMul, Int.reducePow, Int.reduceToNat, Nat.reduceAdd, Nat.reduceSub, ne_eq, not_false_eq_true, not_true_eq_false, Int.reduceEq, reduceCtorEq, q_ones hc hc', q_isw h0 (show x ≤ p2 c - 1 by omega)]
theorem q_join {e f s x y : Int} (h : Wd e f) (s0 : 0 ≤ s) (s1 : s < 2) (x0 : 0 ≤ x) (x1 : x < p2 e) (y0 : 0 ≤ y) (y1 : y < p2 f) :
    q_joined [.tup [.int e, .int f], .int s, .int x, .int y] = .ok (.int (s * p2 (e + f) + x * p2 f + y)) := by
  have a := q_chw h
  obtain ⟨h1, h2, h3, h4⟩ := h
  have b := q_part (x := s) (c := 1) (by decide) (by decide) s0 (by rw [p2_1]; exact s1)
  have c := q_part (by omega) (by omega) x0 x1
  have d := q_part (by omega) (by omega) y0 y1
  have bx : nb x ≤ 11 := nb_le (by
    have := p2_le (a := e) (b := 11) (by omega) (by omega)
    have e11 : p2 11 = 2048 := by decide
    omega)
  have o1 : okShl s (e + f) := okShl_of (n := 10) (by omega) (nb_le (by omega)) (by omega)
  have o2 : okShl x f := okShl_of (n := 11) (by omega) bx (by omega)
  simp only [q_joined, b_joined, ev, evl, okw, powI, Int.reduceLT, Int.reduceLE, Int.reduceNeg, Int.reduceAdd, Int.reduceSub, Int.reduceMul, Int.reducePow, Int.reduceToNat, Nat.reduceAdd, Nat.reduceSub, ne_eq, not_false_eq_true, not_true_eq_false, Int.reduceEq, reduceCtorEq, a, b, c, d, o1, o2]
theorem and_ones {x c : Int} (h0 : 0 ≤ x) (hc : 0 ≤ c) : Builtin.bitAnd x (p2 c - 1) = x % p2 c := by
  have hp := p2_pos c
  unfold Builtin.bitAnd
  rw [decide_eq_true h0, decide_eq_true (show 0 ≤ p2 c - 1 by omega)]
  show (((x.toNat &&& (p2 c - 1).toNat : Nat)) : Int) = _
  have e : (p2 c - 1).toNat = 2 ^ c.toNat - 1 := by
    have e1 : p2 c = ((2 ^ c.toNat : Nat) : Int) := by show (2 : Int) ^ c.toNat = _; push_cast; rfl
    rw [e1]; omega
  rw [e, Nat.and_two_pow_sub_one_eq_mod]
  have e1 : p2 c = ((2 ^ c.toNat : Nat) : Int) := by show (2 : Int) ^ c.toNat = _; push_cast; rfl
  rw [e1]
  push_cast
  rw [Int.toNat_of_nonneg h0]
theorem q_cutw {e f w : Int} (h : Wd e f) (h0 : 0 ≤ w) (h1 : w < p2 (1 + e + f)) :
    q_cut [.tup [.int e, .int f], .int w] = .ok (.tup [.int (w / p2 (e + f)), .int (w / p2 f % p2 e), .int (w % p2 f)]) := by
  have a := q_chword h h0 h1
  obtain ⟨g1, g2, g3, g4⟩ := h
  have o1 : okShr (e + f) := by show 0 ≤ e + f; omega
  have o2 : okShr f := by show 0 ≤ f; omega
  have hp := p2_pos f
  have z : 0 ≤ w / p2 f := Int.ediv_nonneg h0 (by omega)
  simp only [q_cut, b_cut, ev, evl, okw, powI, Int.reduceLT, Int.reduceLE, Int.reduceNeg, Int.reduceAdd, Int.reduceSub, Int.reduceMul, Int.reducePow, Int.reduceToNat, Nat.reduceAdd, Nat.reduceSub, ne_eq, not_false_eq_true, not_true_eq_false, Int.reduceEq, reduceCtorEq, a, o1, o2, q_ones (show 0 ≤ e by omega) (by omega), q_ones (show 0 ≤ f by omega) (by omega), and_ones z (show 0 ≤ e by omega), and_ones h0 (show 0 ≤ f by omega)]
/-- the parts of a word -/
theorem parts {e f w : Int} (h : Wd e f) (h0 : 0 ≤ w) (h1 : w < p2 (1 + e + f)) : ∃ s x y, 0 ≤ s ∧ s < 2 ∧ 0 ≤ x ∧ x < p2 e ∧ 0 ≤ y ∧ y < p2 f ∧ w = (s * p2 e + x) * p2 f + y ∧ w / p2 (e + f) = s ∧ w / p2 f = s * p2 e + x ∧ w / p2 f % p2 e = x ∧ w % p2 f = y := by
  obtain ⟨g1, g2, g3, g4⟩ := h
  have pf := p2_pos f
  have pe := p2_pos e
  have e1 : p2 (e + f) = p2 f * p2 e := by rw [Int.add_comm, p2_add (by omega) (by omega)]
  have e2 : p2 (1 + e + f) = 2 * (p2 f * p2 e) := by rw [← e1, ← p2_succ (by omega)]; congr 1; omega
  have d1 := Int.mul_ediv_add_emod w (p2 f)
  have d2 := Int.mul_ediv_add_emod (w / p2 f) (p2 e)
  have d3 : w / p2 (e + f) = w / p2 f / p2 e := by rw [e1, Int.ediv_ediv_of_nonneg (by omega)]
  have z : 0 ≤ w / p2 f := Int.ediv_nonneg h0 (by omega)
  refine ⟨w / p2 f / p2 e, w / p2 f % p2 e, w % p2 f, Int.ediv_nonneg z (by omega), ?_, Int.emod_nonneg _ (by omega), Int.emod_lt_of_pos _ pe, Int.emod_nonneg _ (by omega), Int.emod_lt_of_pos _ pf, ?_, d3, ?_, rfl, rfl⟩
  · rw [← d3, e1]
    refine Int.ediv_lt_of_lt_mul (Int.mul_pos pf pe) (by rw [← e2]; exact h1)
  · rw [Int.mul_comm (_ / p2 e), d2, Int.mul_comm (w / p2 f)]; omega
  · rw [Int.mul_comm (_ / p2 e), d2]
theorem parts_mk {e f s x y : Int} (h : Wd e f) (s0 : 0 ≤ s) (s1 : s < 2) (x0 : 0 ≤ x) (x1 : x < p2 e) (y0 : 0 ≤ y) (y1 : y < p2 f) :
    let w := s * p2 (e + f) + x * p2 f + y
    0 ≤ w ∧ w < p2 (1 + e + f) ∧ w / p2 (e + f) = s ∧ w / p2 f % p2 e = x ∧ w % p2 f = y ∧ w = (s * p2 e + x) * p2 f + y := by
  obtain ⟨g1, g2, g3, g4⟩ := h
  have pf := p2_pos f
  have pe := p2_pos e
  have e1 : p2 (e + f) = p2 f * p2 e := by rw [Int.add_comm, p2_add (by omega) (by omega)]
  have e2 : p2 (1 + e + f) = 2 * (p2 f * p2 e) := by rw [← e1, ← p2_succ (by omega)]; congr 1; omega
  have ew : s * p2 (e + f) + x * p2 f + y = y + (s * p2 e + x) * p2 f := by rw [e1, Int.add_mul, Int.mul_assoc, Int.mul_comm (p2 e)]; omega
  have t0 : 0 ≤ s * p2 e := Int.mul_nonneg s0 (by omega)
  have t1 : 0 ≤ (s * p2 e + x) * p2 f := Int.mul_nonneg (by omega) (by omega)
  have d1 : (y + (s * p2 e + x) * p2 f) / p2 f = s * p2 e + x := by
    rw [Int.add_mul_ediv_right _ _ (by omega), Int.ediv_eq_zero_of_lt y0 y1, Int.zero_add]
  have d2 : (s * p2 e + x) / p2 e = s := by
    rw [Int.add_comm, Int.add_mul_ediv_right _ _ (by omega), Int.ediv_eq_zero_of_lt x0 x1, Int.zero_add]
  intro w
  have hw : w = y + (s * p2 e + x) * p2 f := ew
  rw [hw]
  refine ⟨by omega, ?_, ?_, ?_, ?_, by omega⟩
  · have m1 : s * p2 e + x + 1 ≤ 2 * p2 e := by
      have : s * p2 e ≤ 1 * p2 e := Int.mul_le_mul_of_nonneg_right (by omega) (by omega)
      omega
    have m2 := Int.mul_le_mul_of_nonneg_right m1 (Int.le_of_lt pf)
    rw [Int.add_mul, Int.one_mul] at m2
    rw [e2, Int.mul_comm (p2 f), ← Int.mul_assoc]; omega
  · rw [e1, ← Int.ediv_ediv_of_nonneg (by omega), d1, d2]
  · rw [d1, Int.add_comm, Int.add_mul_emod_self_right, Int.emod_eq_of_lt x0 x1]
  · rw [Int.add_mul_emod_self_right, Int.emod_eq_of_lt y0 y1]
end Cm
set_option Elab.async false
set_option linter.all false
set_option autoImplicit false
set_option maxRecDepth 100000
set_option maxHeartbeats 4000000
namespace Cm
open PySem Mi
theorem mem_cut {l : List PV} {lo hi : Option Int} {x : PV} (h : x ∈ cutP l lo hi) : x ∈ l := by
  unfold cutP at h
  exact List.mem_of_mem_drop (List.mem_of_mem_take h)
theorem mem_cut_ints {ns : List Int} {lo hi : Option Int} {x : PV} (h : x ∈ cutP (ns.map PV.int) lo hi) : ∃ n, x = .int n ∧ n ∈ ns := by
  obtain ⟨n, hn, rfl⟩ := List.mem_map.mp (mem_cut h)
  exact ⟨n, rfl, hn⟩
theorem pick {l : List Int} {i b : Int} (h0 : 0 ≤ i) (h1 : i < l.length) (hb : ∀ x ∈ l, 0 ≤ x ∧ x < b) : ∃ x, oItem (.lst (l.map PV.int)) (.int i) = .ok (.int x) ∧ 0 ≤ x ∧ x < b := by
  refine ⟨_, oItem_ints h0 h1, ?_⟩
  rw [List.getD_eq_getElem?_getD, List.getElem?_eq_getElem (by omega)]
  exact hb _ (List.getElem_mem _)
theorem q_Lwd (c : Int) : ∃ e f, q_Lwide [.int c] = .ok (.tup [.int e, .int f]) ∧ Wd e f := by
  refine ⟨2 + c * 48271 % 999983 % 10, 1 + c * 48271 % 999983 / 10 % 60, ?_, by unfold Wd; omega⟩
  simp only [q_Lwide, b_Lwide, ev, evl, okw, powI, Int.reduceLT, Int.reduceLE, Int.reduceNeg, Int.reduceAdd, Int.reduceSub, Int.reduceMul, Int.reducePow, Int.reduceToNat, Nat.reduceAdd, Nat.reduceSub, ne_eq, not_false_eq_true, not_true_eq_false, Int.reduceEq, reduceCtorEq]
/-- the words that the laws name -/
theorem p2_wd {e f : Int} (h : Wd e f) : 4 ≤ p2 e ∧ 2 ≤ p2 f ∧ p2 f = 2 * p2 (f - 1) ∧ p2 (e + f) = p2 e * p2 f ∧ p2 (1 + e + f) = 2 * p2 (e + f) ∧ nb (p2 e) ≤ 12 ∧ nb (p2 f) ≤ 61 ∧ nb (p2 (e + f)) ≤ 72 ∧ nb (p2 (1 + e + f)) ≤ 73 ∧ 1 ≤ p2 (f - 1) ∧ p2 e ≤ 2048 := by
  obtain ⟨g1, g2, g3, g4⟩ := h
  have e4 : p2 2 = 4 := by decide
  have a := p2_le (a := 2) (b := e) (by decide) g1
  have b := p2_le (a := 1) (b := f) (by decide) g3
  have e11 : p2 11 = 2048 := by decide
  have c := p2_le (a := e) (b := 11) (by omega) g2
  rw [p2_1] at b
  refine ⟨by omega, b, ?_, p2_add (by omega) (by omega), ?_, ?_, ?_, ?_, ?_, p2_pos _, by omega⟩
  · rw [← p2_succ (by omega)]; congr 1; omega
  · rw [← p2_succ (by omega)]; congr 1; omega
  all_goals rw [nb_p2 (by omega)]; omega
theorem named {P F H S T : Int} (p3 : 2 ≤ F) (p4 : F = 2 * H) (p7 : 1 ≤ H) (m1 : T = S + F) (m3 : 3 * F ≤ S) : ∀ x ∈ [0, 1, F - 1, F, S - 1, S, S + 1, S + H], 0 ≤ x ∧ x < T := by
  simp only [List.forall_mem_cons]
  exact ⟨⟨by omega, by omega⟩, ⟨by omega, by omega⟩, ⟨by omega, by omega⟩, ⟨by omega, by omega⟩, ⟨by omega, by omega⟩, ⟨by omega, by omega⟩, ⟨by omega, by omega⟩, ⟨by omega, by omega⟩, fun x h => absurd h List.not_mem_nil⟩
theorem half {M T r : Int} (h : M = 2 * T) (h0 : 0 ≤ T) : 0 ≤ r % 2 * (M / 2) ∧ r % 2 * (M / 2) ≤ T := by
  have e : M / 2 = T := by omega
  rw [e]
  have hh : r % 2 = 0 ∨ r % 2 = 1 := by omega
  rcases hh with hh | hh <;> rw [hh] <;> omega
theorem top_word {e f : Int} (h : Wd e f) : p2 (e + f) = (p2 e - 1) * p2 f + p2 f ∧ 3 * p2 f ≤ (p2 e - 1) * p2 f := by
  obtain ⟨p1, p3, p4, p5, p6, b1, b2, b3, b4, p7, p8⟩ := p2_wd h
  rw [p5]
  exact ⟨by rw [Int.sub_mul]; omega, Int.mul_le_mul_of_nonneg_right (by omega) (by omega)⟩
theorem mulc {c : Int} (hc : nb c ≤ 1048576) : okMul c 618033988749894848204587 := okMul_of (n := 200) hc (nb_le (by decide)) (by decide)
theorem q_Lw {e f c : Int} (h : Wd e f) (hc : nb c ≤ 1048576) : ∃ w, q_Lword [.tup [.int e, .int f], .int c] = .ok (.int w) ∧ 0 ≤ w ∧ w < p2 (1 + e + f) := by
  obtain ⟨p1, p3, p4, p5, p6, b1, b2, b3, b4, p7, p8⟩ := p2_wd h
  obtain ⟨m1, m3⟩ := top_word h
  obtain ⟨g1, g2, g3, g4⟩ := h
  have hm := mulc hc
  have o1 := okShl_1 (b := 1 + e + f) (by omega) (by omega)
  have o2 := okShl_1 (b := e) (by omega) (by omega)
  have o3 := okShl_1 (b := f) (by omega) (by omega)
  have o4 := okShl_1 (b := f - 1) (by omega) (by omega)
  have o5 : okShl (p2 e - 1) f := okShl_of (n := 12) (by omega) (nb_le (by omega)) (by omega)
  have o6 : okDiv (p2 (1 + e + f)) := okDiv_of (p2_pos _) b4 (by decide)
  have o7 : okMod (p2 (1 + e + f)) := p2_pos _
  have hr0 : 0 ≤ c * 618033988749894848204587 % 1000000000000000000000007 := Int.emod_nonneg _ (by decide)
  generalize hr : c * 618033988749894848204587 % 1000000000000000000000007 = r at hr0
  have o8 : okMul (r % 2) (p2 (1 + e + f) / 2) := okMul_l (by omega) (by omega)
  have w0 : 0 ≤ r % p2 (1 + e + f) := Int.emod_nonneg _ (by have := p2_pos (1 + e + f); omega)
  have w1 : r % p2 (1 + e + f) < p2 (1 + e + f) := Int.emod_lt_of_pos _ (p2_pos _)
  generalize hS : (p2 e - 1) * p2 f = S at m1 m3
  have k0 : 0 ≤ r / p2 (1 + e + f) % 16 := by omega
  generalize hk : r / p2 (1 + e + f) % 16 = k at k0
  by_cases h8 : k < 8
  · obtain ⟨x, ex, x0, x1⟩ := pick (l := [0, 1, p2 f - 1, p2 f, S - 1, S, S + 1, S + p2 (f - 1)]) (i := k) k0 h8 (named (P := 0) p3 p4 p7 m1 m3)
    simp only [List.map_cons, List.map_nil] at ex
    have hz := half (r := r) p6 (by omega)
    refine ⟨x + r % 2 * (p2 (1 + e + f) / 2), ?_, by omega, by omega⟩
    simp only [q_Lword, b_Lword, ev, evl, okw, powI, Int.reduceLT, Int.reduceLE, Int.reduceNeg, Int.reduceAdd, Int.reduceSub, Int.reduceMul, Int.reducePow, Int.reduceToNat, Nat.reduceAdd, Nat.reduceSub, ne_eq, not_false_eq_true, not_true_eq_false, Int.reduceEq, reduceCtorEq, Int.one_mul, o1, o2, o3, o4, o5, o6, o7, o8, hm, hr, hk, h8, hS, ex]
  · refine ⟨r % p2 (1 + e + f), ?_, w0, w1⟩
    simp only [q_Lword, b_Lword, ev, evl, okw, powI, Int.reduceLT, Int.reduceLE, Int.reduceNeg, Int.reduceAdd, Int.reduceSub, Int.reduceMul, Int.reducePow, Int.reduceToNat, Nat.reduceAdd, Nat.reduceSub, ne_eq, not_false_eq_true, not_true_eq_false, Int.reduceEq, reduceCtorEq, Int.one_mul, o1, o2, o3, o4, o5, o6, o7, o8, hm, hr, hk, h8, hS]
end Cm
set_option Elab.async false
set_option linter.all false
set_option autoImplicit false
set_option maxRecDepth 100000
set_option maxHeartbeats 4000000
namespace Cm
open PySem Mi PySem.Builtin.Str PySem.NumText
theorem lit_sp : Str.ofString " " = tx [32] := by decide +kernel
theorem lit_b1 : Str.ofString "1" = tx [49] := by decide +kernel
theorem lit_b01 : Str.ofString "01" = tx [48, 49] := by decide +kernel
theorem lit_b01s : Str.ofString "01 " = tx [48, 49, 32] := by decide +kernel
/-- joined by blanks -/
def jn : List (List Nat) → List Nat
  | [] => []
  | [a] => a
  | a :: b :: r => a ++ 32 :: jn (b :: r)
theorem join_tx : ∀ ps : List (List Nat), Str.join (tx [32]) (ps.map tx) = tx (jn ps)
  | [] => rfl
  | [a] => rfl
  | a :: b :: r => by
    have ih := join_tx (b :: r)
    show tx a ++ tx [32] ++ Str.join (tx [32]) ((b :: r).map tx) = tx (a ++ 32 :: jn (b :: r))
    rw [ih, tx_app, tx_app]
    simp
theorem jn_inj : ∀ {ps qs : List (List Nat)}, ps ≠ [] → qs ≠ [] → (∀ p ∈ ps, 32 ∉ p) → (∀ p ∈ qs, 32 ∉ p) → jn ps = jn qs → ps = qs
  | [], _, h, _, _, _, _ => absurd rfl h
  | _, [], _, h, _, _, _ => absurd rfl h
  | [a], [b], _, _, _, _, e => by rw [show a = b from e]
  | [a], b :: c :: r, _, _, h1, h2, e => by
    have e : a = b ++ 32 :: jn (c :: r) := e
    exact absurd (by rw [e]; simp) (h1 a List.mem_cons_self)
  | a :: c :: r, [b], _, _, h1, h2, e => by
    have e : a ++ 32 :: jn (c :: r) = b := e
    exact absurd (by rw [← e]; simp) (h2 b List.mem_cons_self)
  | a :: c :: r, b :: d :: t, _, _, h1, h2, e => by
    have e : a ++ 32 :: jn (c :: r) = b ++ 32 :: jn (d :: t) := e
    have p1 := pt_at (b := jn (c :: r)) (h1 a List.mem_cons_self)
    rw [e, pt_at (h2 b List.mem_cons_self)] at p1
    injection p1 with p1 p2
    injection p2 with p2 p3
    rw [← p1, jn_inj (by simp) (by simp) (fun p hp => h1 p (List.mem_cons_of_mem _ hp)) (fun p hp => h2 p (List.mem_cons_of_mem _ hp)) p3.symm]
theorem split_is {l : List Nat} (hl : l.length ≤ 100000) : ∃ ps : List (List Nat), bSplit [.str (tx l), .str (tx [32])] = .ok (.lst (ps.map fun p => PV.str (tx p))) ∧ jn ps = l ∧ (∀ p ∈ ps, 32 ∉ p) ∧ ps ≠ [] ∧ ps.length ≤ l.length + 2 := by
  have e1 := StrLaws.join_split (tx l) (tx [32])
  have e2 := StrLaws.split_free (tx l) 32
  have e2 : ∀ p ∈ Txt.split (tx l) (tx [32]), 32 ∉ p.cps.toList := e2
  have e3 := PyProof.Rows.split_pos (tx l) (tx [32])
  have e4 := PyProof.Rows.split_le (tx l) (tx [32])
  have e5 := PyProof.Rows.len_partsBetween (tx l) (occurrences (tx l) (tx [32]) 0 (tx l).length ((tx l).length + 1)) (tx [32]).length
  have e6 := StrLaws.occ_length_le (tx l) (tx [32]) 0 (tx l).length ((tx l).length + 1)
  have eb : bSplit [.str (tx l), .str (tx [32])] = .ok (.lst ((Txt.split (tx l) (tx [32])).map PV.str)) := by
    show (if _ then _ else _) = _
    rw [if_pos ⟨by rw [tx_len]; exact line_of (by omega), rfl, by rw [e5]; rw [tx_len] at e6 ⊢; exact line_of (by omega), by rw [tx_len] at e4; exact line_of (by omega)⟩]
  generalize Txt.split (tx l) (tx [32]) = ts at *
  have et : (ts.map fun z => z.cps.toList).map tx = ts := by
    rw [List.map_map]
    conv => rhs; rw [← List.map_id ts]
    exact List.map_congr_left fun z _ => (tx_of z).symm
  refine ⟨ts.map fun z => z.cps.toList, ?_, ?_, ?_, ?_, ?_⟩
  · rw [eb]
    congr 2
    conv => lhs; rw [← et]
    rw [List.map_map]; rfl
  · have := join_tx (ts.map fun z => z.cps.toList)
    rw [et, e1] at this
    exact (tx_inj this).symm
  · intro p hp
    obtain ⟨z, hz, rfl⟩ := List.mem_map.mp hp
    exact e2 z hz
  · intro q
    rw [List.map_eq_nil_iff] at q
    rw [q] at e3; exact absurd e3 (by decide)
  · rw [List.length_map, tx_len] at *; exact e4
def bb (c : Nat) : Int := if c = 49 then 1 else 0
def bv (d : Int) (l : List Nat) : Int := l.foldl (fun d c => 2 * d + bb c) d
def okb (l : List Nat) : Bool := l.all fun c => decide (c = 48) || decide (c = 49)
theorem okb_cons (c : Nat) (r : List Nat) : okb (c :: r) = ((decide (c = 48) || decide (c = 49)) && okb r) := rfl
theorem bv_cons (d : Int) (c : Nat) (l : List Nat) : bv d (c :: l) = bv (2 * d + bb c) l := rfl
theorem nat_p2 (n : Nat) : p2 ((n + 1 : Nat) : Int) = 2 * p2 (n : Int) := by
  show (2 : Int) ^ _ = 2 * 2 ^ _
  rw [Int.toNat_natCast, Int.toNat_natCast, Int.pow_succ]; omega
theorem bv_at (d : Int) (l : List Nat) : bv d l = d * p2 (l.length : Int) + bv 0 l := by
  induction l generalizing d with
  | nil => show d = d * 2 ^ _ + 0; simp
  | cons c r ih =>
    rw [bv_cons, bv_cons, ih, ih (2 * 0 + bb c), List.length_cons, nat_p2, Int.add_mul, Int.add_mul, Int.mul_left_comm d 2]
    rw [Int.mul_assoc]; omega
theorem bv_lt (l : List Nat) : 0 ≤ bv 0 l ∧ bv 0 l < p2 (l.length : Int) := by
  induction l with
  | nil => exact ⟨by decide, by decide⟩
  | cons c r ih =>
    rw [bv_cons, bv_at, List.length_cons, nat_p2]
    have : bb c = 0 ∨ bb c = 1 := by unfold bb; split <;> simp
    rcases this with h | h <;> rw [h] <;> omega
theorem not_in (c : Nat) : cNotIn (.str (tx [c])) (.tup [.str (tx [48]), .str (tx [49])]) = .ok (.bl (!(decide (c = 48) || decide (c = 49)))) := by
  show (if (flatP (PV.str (tx [c])) && [PV.str (tx [48]), PV.str (tx [49])].all flatP) = true then R.ok (PV.bl !([PV.str (tx [48]), PV.str (tx [49])].any fun z => eqPV z (PV.str (tx [c])))) else R.stuck) = _
  rw [if_pos (show (flatP (PV.str (tx [c])) && [PV.str (tx [48]), PV.str (tx [49])].all flatP) = true from rfl)]
  congr 2
  show (!([PV.str (tx [48]), PV.str (tx [49])].any fun z => eqPV z (.str (tx [c])))) = _
  have q : ∀ a : Nat, eqPV (.str (tx [a])) (.str (tx [c])) = decide (c = a) := fun a => by
    show (tx [a] == tx [c]) = _
    rw [tx_beq]
    simp [eq_comm]
  simp only [List.any_cons, List.any_nil, q, Bool.or_false]
theorem rd_loop (z : PySem.Str) : ∀ (l : List Nat) (d : Int) (x2 : Option PV),
    (okb l = true → ∃ x, forL 2 b_bits_read_v2_1 (l.map fun c => PV.str (tx [c])) [some (.str z), some (.int d), x2] = .next [some (.str z), some (.int (bv d l)), x]) ∧
    (okb l = false → ∃ ρ, forL 2 b_bits_read_v2_1 (l.map fun c => PV.str (tx [c])) [some (.str z), some (.int d), x2] = .exc 6 ρ)
  | [], d, x2 => ⟨fun _ => ⟨x2, rfl⟩, fun h => by cases h⟩
  | c :: r, d, x2 => by
    have ni := not_in c
    have te := tEq [c] [49]
    have m2 : okMul 2 d := Or.inl (by decide)
    have es : ([some (.str z), some (.int d), x2] : MEnv).set 2 (some (.str (tx [c]))) = [some (.str z), some (.int d), some (.str (tx [c]))] := rfl
    rw [List.map_cons]
    by_cases h : (decide (c = 48) || decide (c = 49)) = true
    · have ih := rd_loop z r (2 * d + bb c) (some (.str (tx [c])))
      have e : b_bits_read_v2_1 [some (.str z), some (.int d), some (.str (tx [c]))] = .next [some (.str z), some (.int (2 * d + bb c)), some (.str (tx [c]))] := by
        rw [h] at ni
        by_cases c1 : c = 49
        · subst c1
          simp only [b_bits_read_v2_1, ev, evl, okw, powI, Int.reduceLT, Int.reduceLE, Int.reduceNeg, Int.reduceAdd, Int.reduceSub, Int.reduceMul, Int.reducePow, Int.reduceToNat, Nat.reduceAdd, Nat.reduceSub, ne_eq, not_false_eq_true, not_true_eq_false, Int.reduceEq, reduceCtorEq, lit_0, lit_b1, ni, te, m2]
          rfl
        · have : bb c = 0 := if_neg c1
          rw [this]
          have te' : cEq (.str (tx [c])) (.str (tx [49])) = .ok (.bl false) := by rw [te]; simp [c1]
          simp only [b_bits_read_v2_1, ev, evl, okw, powI, Int.reduceLT, Int.reduceLE, Int.reduceNeg, Int.reduceAdd, Int.reduceSub, Int.reduceMul, Int.reducePow, Int.reduceToNat, Nat.reduceAdd, Nat.reduceSub, ne_eq, not_false_eq_true, not_true_eq_false, Int.reduceEq, reduceCtorEq, lit_0, lit_b1, ni, te', m2]
      have ok : okb (c :: r) = okb r := by rw [okb_cons, h, Bool.true_and]
      rw [ok, forL_cons, es, e, bv_cons]
      exact ih
    · have h : (decide (c = 48) || decide (c = 49)) = false := by simpa using h
      rw [h] at ni
      have ok : okb (c :: r) = false := by rw [okb_cons, h, Bool.false_and]
      rw [ok, forL_cons, es]
      refine ⟨fun q => (by cases q), fun _ => ?_⟩
      have e : b_bits_read_v2_1 [some (.str z), some (.int d), some (.str (tx [c]))] = .exc 6 [some (.str z), some (.int d), some (.str (tx [c]))] := by
        simp only [b_bits_read_v2_1, ev, evl, okw, powI, Int.reduceLT, Int.reduceLE, Int.reduceNeg, Int.reduceAdd, Int.reduceSub, Int.reduceMul, Int.reducePow, Int.reduceToNat, Nat.reduceAdd, Nat.reduceSub, ne_eq, not_false_eq_true, not_true_eq_false, Int.reduceEq, reduceCtorEq, lit_0, lit_b1, ni]
      rw [e]
      exact ⟨_, rfl⟩
theorem q_rd (l : List Nat) : q_bits_read_v2 [.str (tx l)] = if okb l = true then .ok (.int (bv 0 l)) else .exc 6 := by
  obtain ⟨h1, h2⟩ := rd_loop (tx l) l 0 none
  have it : iStr (fVar 0) [some (.str (tx l)), some (.int 0), none] = .ok (l.map fun c => PV.str (tx [c])) := by
    show R.ok ((tx l).cps.toList.map fun c => PV.str (tx [c])) = _
    rw [tx_l]
  by_cases h : okb l = true
  · obtain ⟨x, e⟩ := h1 h
    rw [if_pos h]
    simp only [q_bits_read_v2, b_bits_read_v2, ev, evl, okw, powI, Int.reduceLT, Int.reduceLE, Int.reduceNeg, Int.reduceAdd, Int.reduceSub, Int.reduceMul, Int.reducePow, Int.reduceToNat, Nat.reduceAdd, Nat.reduceSub, ne_eq, not_false_eq_true, not_true_eq_false, Int.reduceEq, reduceCtorEq, List.replicate, it, e]
  · obtain ⟨x, e⟩ := h2 (by simpa using h)
    rw [if_neg h]
    simp only [q_bits_read_v2, b_bits_read_v2, ev, evl, okw, powI, Int.reduceLT, Int.reduceLE, Int.reduceNeg, Int.reduceAdd, Int.reduceSub, Int.reduceMul, Int.reducePow, Int.reduceToNat, Nat.reduceAdd, Nat.reduceSub, ne_eq, not_false_eq_true, not_true_eq_false, Int.reduceEq, reduceCtorEq, List.replicate, it, e]
end Cm
set_option Elab.async false
set_option linter.all false
set_option autoImplicit false
set_option maxRecDepth 100000
set_option maxHeartbeats 4000000
namespace Cm
open PySem Mi PySem.Builtin.Str PySem.NumText
def oks (l : List Nat) : Bool := l.all fun c => decide (c = 48) || (decide (c = 49) || decide (c = 32))
theorem oks_cons (c : Nat) (r : List Nat) : oks (c :: r) = ((decide (c = 48) || (decide (c = 49) || decide (c = 32))) && oks r) := rfl
theorem oks_app (a b : List Nat) : oks (a ++ b) = (oks a && oks b) := List.all_append
theorem oks_free {a : List Nat} (h : 32 ∉ a) : oks a = okb a := by
  induction a with
  | nil => rfl
  | cons c r ih =>
    have hc : ¬ c = 32 := fun q => h (q ▸ List.mem_cons_self)
    rw [oks_cons, okb_cons, ih fun q => h (List.mem_cons_of_mem _ q), decide_eq_false hc, Bool.or_false]
def ds (d : Int) (l : List Nat) : Int := l.foldl (fun d c => if c = 32 then d else d + d + bb c) d
theorem ds_cons (d : Int) (c : Nat) (l : List Nat) : ds d (c :: l) = ds (if c = 32 then d else d + d + bb c) l := rfl
theorem ds_app (d : Int) (a b : List Nat) : ds d (a ++ b) = ds (ds d a) b := List.foldl_append
theorem ds_free {a : List Nat} (h : 32 ∉ a) (d : Int) : ds d a = bv d a := by
  induction a generalizing d with
  | nil => rfl
  | cons c r ih =>
    have hc : ¬ c = 32 := fun q => h (q ▸ List.mem_cons_self)
    rw [ds_cons, bv_cons, ih (fun q => h (List.mem_cons_of_mem _ q)), if_neg hc, Int.two_mul]
theorem ix_0 : bIndex [.str (tx [48, 49]), .str (tx [48])] = .ok (.int 0) := by
  have e : occurrences (tx [48, 49]) (tx [48]) 0 (tx [48, 49]).length 1 = [0] := by decide +kernel
  unfold bIndex; simp only [e]; rfl
theorem ix_1 : bIndex [.str (tx [48, 49]), .str (tx [49])] = .ok (.int 1) := by
  have e : occurrences (tx [48, 49]) (tx [49]) 0 (tx [48, 49]).length 1 = [1] := by decide +kernel
  unfold bIndex; simp only [e]; rfl
theorem du_loop (w z p : PV) : ∀ (l : List Nat) (d : Int) (x : Option PV),
    (oks l = true → ∃ x', forL 4 b_Ldue_v11_1 (l.map fun c => PV.str (tx [c])) [some w, some z, some p, some (.int d), x] = .next [some w, some z, some p, some (.int (ds d l)), x']) ∧
    (oks l = false → forL 4 b_Ldue_v11_1 (l.map fun c => PV.str (tx [c])) [some w, some z, some p, some (.int d), x] = .ret .non)
  | [], d, x => ⟨fun _ => ⟨x, rfl⟩, fun h => by cases h⟩
  | c :: r, d, x => by
    have ni := tNotIn c [48, 49, 32]
    have es : ([some w, some z, some p, some (.int d), x] : MEnv).set 4 (some (.str (tx [c]))) = [some w, some z, some p, some (.int d), some (.str (tx [c]))] := rfl
    have em : decide (c ∈ [48, 49, 32]) = (decide (c = 48) || (decide (c = 49) || decide (c = 32))) := by
      simp only [List.mem_cons, List.not_mem_nil, or_false]
      simp [Bool.decide_or]
    rw [em] at ni
    have te := tNe [c] [32]
    rw [List.map_cons]
    by_cases h : (decide (c = 48) || (decide (c = 49) || decide (c = 32))) = true
    · have e : b_Ldue_v11_1 [some w, some z, some p, some (.int d), some (.str (tx [c]))] = .next [some w, some z, some p, some (.int (if c = 32 then d else d + d + bb c)), some (.str (tx [c]))] := by
        rw [h] at ni
        simp only [Bool.or_eq_true, decide_eq_true_eq] at h
        rcases h with h | h | h <;> subst h
        · have te : cNe (.str (tx [48])) (.str (tx [32])) = .ok (.bl true) := by rw [te]; rfl
          simp only [b_Ldue_v11_1, ev, evl, okw, powI, Int.reduceLT, Int.reduceLE, Int.reduceNeg, Int.reduceAdd, Int.reduceSub, Int.reduceMul, Int.reducePow, Int.reduceToNat, Nat.reduceAdd, Nat.reduceSub, ne_eq, not_false_eq_true, not_true_eq_false, Int.reduceEq, reduceCtorEq, lit_b01s, lit_sp, lit_b01, ni, te, fSt_e, strK_ok, ix_0]
          rfl
        · have te : cNe (.str (tx [49])) (.str (tx [32])) = .ok (.bl true) := by rw [te]; rfl
          simp only [b_Ldue_v11_1, ev, evl, okw, powI, Int.reduceLT, Int.reduceLE, Int.reduceNeg, Int.reduceAdd, Int.reduceSub, Int.reduceMul, Int.reducePow, Int.reduceToNat, Nat.reduceAdd, Nat.reduceSub, ne_eq, not_false_eq_true, not_true_eq_false, Int.reduceEq, reduceCtorEq, lit_b01s, lit_sp, lit_b01, ni, te, fSt_e, strK_ok, ix_1]
          rfl
        · have te : cNe (.str (tx [32])) (.str (tx [32])) = .ok (.bl false) := by rw [te]; rfl
          simp only [b_Ldue_v11_1, ev, evl, okw, powI, Int.reduceLT, Int.reduceLE, Int.reduceNeg, Int.reduceAdd, Int.reduceSub, Int.reduceMul, Int.reducePow, Int.reduceToNat, Nat.reduceAdd, Nat.reduceSub, ne_eq, not_false_eq_true, not_true_eq_false, Int.reduceEq, reduceCtorEq, lit_b01s, lit_sp, ni, te, if_pos rfl]
      have ih := du_loop w z p r (if c = 32 then d else d + d + bb c) (some (.str (tx [c])))
      have ok : oks (c :: r) = oks r := by rw [oks_cons, h, Bool.true_and]
      rw [ok, forL_cons, es, e, ds_cons]
      exact ih
    · have h : (decide (c = 48) || (decide (c = 49) || decide (c = 32))) = false := by simpa using h
      rw [h] at ni
      have ok : oks (c :: r) = false := by rw [oks_cons, h, Bool.false_and]
      rw [ok, forL_cons, es]
      refine ⟨fun q => (by cases q), fun _ => ?_⟩
      have e : b_Ldue_v11_1 [some w, some z, some p, some (.int d), some (.str (tx [c]))] = .ret .non := by
        simp only [b_Ldue_v11_1, ev, evl, okw, powI, Int.reduceLT, Int.reduceLE, Int.reduceNeg, Int.reduceAdd, Int.reduceSub, Int.reduceMul, Int.reducePow, Int.reduceToNat, Nat.reduceAdd, Nat.reduceSub, ne_eq, not_false_eq_true, not_true_eq_false, Int.reduceEq, reduceCtorEq, lit_b01s, ni]
      rw [e]
theorem eq_ints : ∀ a b : List Int, eqPVs (a.map PV.int) (b.map PV.int) = decide (a = b)
  | [], [] => rfl
  | [], _ :: _ => rfl
  | _ :: _, [] => rfl
  | x :: a, y :: b => by
    show (eqPV (.int x) (.int y) && eqPVs (a.map PV.int) (b.map PV.int)) = _
    rw [eq_ints a b]
    show (decide (x = y) && decide (a = b)) = _
    simp [Bool.decide_and]
theorem ok_ints (a : List Int) : (a.map PV.int).all (cmpOkN 5) = true := by
  rw [List.all_eq_true]
  intro x hx
  obtain ⟨i, _, rfl⟩ := List.mem_map.mp hx
  rfl
theorem ne_ints (a b : List Int) : cNe (.lst (a.map PV.int)) (.lst (b.map PV.int)) = .ok (.bl (!decide (a = b))) := by
  rw [cNe_lst, ok_ints, ok_ints, eq_ints]
  rfl
theorem compL_of {α : Type} {n : Nat} {f : FE} {ρ : MEnv} (h : α → PV) (g : α → PV) : ∀ {l : List α}, (∀ c ∈ l, f (padTo n ρ ++ [some (h c)]) = .ok (g c)) → compL n tTrue f ρ (l.map h) = .ok (l.map g)
  | [], _ => rfl
  | c :: r, q => by
    have ih := compL_of h g (l := r) fun z hz => q z (List.mem_cons_of_mem _ hz)
    have e := q c List.mem_cons_self
    show (match f (padTo n ρ ++ [some (h c)]) with
      | .ok v => (match compL n tTrue f ρ (r.map h) with
        | .ok vs => R.ok (v :: vs)
        | _ => .stuck)
      | _ => .stuck) = _
    rw [e, ih]; rfl
def lens (ps : List (List Nat)) : List Int := ps.map fun p => (p.length : Int)
theorem lens_pv (ps : List (List Nat)) : (ps.map fun p => PV.int (p.length : Int)) = (lens ps).map PV.int := by unfold lens; rw [List.map_map]; rfl
/-- what a text of these parts tells -/
def dueT (e f : Int) : List (List Nat) → Option Int
  | [a, b, c] => if lens [a, b, c] = [1, e, f] ∧ (okb a && (okb b && okb c)) = true then some ((bv 0 a * p2 e + bv 0 b) * p2 f + bv 0 c) else none
  | _ => none
theorem due_none {e f : Int} {ps : List (List Nat)} (h : lens ps ≠ [1, e, f]) : dueT e f ps = none := by
  unfold dueT
  split
  · rw [if_neg fun q => h q.1]
  · rfl
theorem lens_3 {e f : Int} {ps : List (List Nat)} (h : lens ps = [1, e, f]) : ∃ a b c, ps = [a, b, c] ∧ (a.length : Int) = 1 ∧ (b.length : Int) = e ∧ (c.length : Int) = f := by
  match ps, h with
  | [a, b, c], h =>
    simp only [lens, List.map_cons, List.map_nil, List.cons.injEq, and_true] at h
    exact ⟨a, b, c, rfl, h.1, h.2.1, h.2.2⟩
  | [], h => cases h
  | [_], h => simp [lens] at h
  | [_, _], h => simp [lens] at h
  | _ :: _ :: _ :: _ :: _, h => simp [lens] at h
def dueP : Option Int → PV
  | none => .non
  | some n => .int n
def dueR : Option Int → R PV
  | none => .exc 6
  | some n => .ok (.int n)
theorem len_short {l : List Nat} {ps : List (List Nat)} (e : jn ps = l) : ∀ p ∈ ps, p.length ≤ l.length := by
  subst e
  induction ps with
  | nil => intro p hp; cases hp
  | cons a r ih =>
    cases r with
    | nil => intro p hp; rw [List.mem_singleton.mp hp]; exact Nat.le_refl _
    | cons b r =>
      intro p hp
      show p.length ≤ (a ++ 32 :: jn (b :: r)).length
      rw [List.length_append, List.length_cons]
      rcases List.mem_cons.mp hp with q | q
      · rw [q]; omega
      · have := ih p q; omega
theorem q_due {e f : Int} {l : List Nat} {ps : List (List Nat)} (hl : l.length ≤ 1000) (hs : bSplit [.str (tx l), .str (tx [32])] = .ok (.lst (ps.map fun p => PV.str (tx p)))) (hj : jn ps = l) (hf : ∀ p ∈ ps, 32 ∉ p) (hn : ps.length ≤ l.length + 2) :
    q_Ldue_v11 [.tup [.int e, .int f], .str (tx l)] = .ok (dueP (dueT e f ps)) := by
  have ln : ∀ (l : List PV), l.length ≤ 100000 → bLen [.lst l] = .ok (.int l.length) := fun l h => by
    exact rfl
  have cm : ∀ r4 : MEnv, fComp 5 (iSeq (fVar 2)) tTrue (fCall bLen (aCons (fVar 5) aNil)) [some (.tup [.int e, .int f]), some (.str (tx l)), some (.lst (ps.map fun p => PV.str (tx p))), none, none] = .ok (.lst ((lens ps).map PV.int)) := fun _ => by
    have e0 : iSeq (fVar 2) [some (.tup [.int e, .int f]), some (.str (tx l)), some (.lst (ps.map fun p => PV.str (tx p))), none, none] = .ok (ps.map fun p => PV.str (tx p)) := rfl
    rw [fComp_e, e0, ← lens_pv]
    refine compK_ok (by rw [List.length_map]; omega) (compL_of _ _ fun p hp => ?_)
    exact tLen (by have := len_short hj p hp; omega)
  have cm := cm []
  have l3 := ln (ps.map fun p => PV.str (tx p)) (by rw [List.length_map]; omega)
  rw [List.length_map] at l3
  have ne := ne_ints (lens ps) [1, e, f]
  rw [show ([1, e, f] : List Int).map PV.int = [.int 1, .int e, .int f] from rfl] at ne
  have it : iStr (fVar 1) [some (.tup [.int e, .int f]), some (.str (tx l)), some (.lst (ps.map fun p => PV.str (tx p))), some (.int 0), none] = .ok (l.map fun c => PV.str (tx [c])) := by
    show R.ok ((tx l).cps.toList.map fun c => PV.str (tx [c])) = _
    rw [tx_l]
  by_cases h : lens ps = [1, e, f]
  · obtain ⟨a, b, c, rfl, la, lb, lc⟩ := lens_3 h
    rw [decide_eq_true h] at ne
    have l3 : bLen [.lst ([a, b, c].map fun p => PV.str (tx p))] = .ok (.int 3) := l3
    have f1 := hf a (by simp)
    have f2 := hf b (by simp)
    have f3 := hf c (by simp)
    have hl2 : l = a ++ 32 :: (b ++ 32 :: c) := hj.symm
    have ok : oks l = (okb a && (okb b && okb c)) := by
      rw [hl2, oks_app, oks_cons, oks_app, oks_cons, oks_free f1, oks_free f2, oks_free f3]; rfl
    have val : ds 0 l = (bv 0 a * p2 e + bv 0 b) * p2 f + bv 0 c := by
      rw [hl2, ds_app, ds_cons, if_pos rfl, ds_app, ds_cons, if_pos rfl, ds_free f1, ds_free f2, ds_free f3, bv_at _ c, bv_at _ b, lb, lc]
    obtain ⟨g1, g2⟩ := du_loop (.tup [.int e, .int f]) (.str (tx l)) (.lst ([a, b, c].map fun p => PV.str (tx p))) l 0 none
    by_cases k : (okb a && (okb b && okb c)) = true
    · obtain ⟨x', g1⟩ := g1 (by rw [ok]; exact k)
      have du : dueT e f [a, b, c] = some ((bv 0 a * p2 e + bv 0 b) * p2 f + bv 0 c) := if_pos ⟨h, k⟩
      rw [du, ← val]
      simp only [q_Ldue_v11, b_Ldue_v11, ev, evl, okw, powI, Int.reduceLT, Int.reduceLE, Int.reduceNeg, Int.reduceAdd, Int.reduceSub, Int.reduceMul, Int.reducePow, Int.reduceToNat, Nat.reduceAdd, Nat.reduceSub, ne_eq, not_false_eq_true, not_true_eq_false, Int.reduceEq, reduceCtorEq, List.replicate, lit_sp, fSt_e, strK_ok, hs, l3, cm, ne, it, g1]
      rfl
    · have g2 := g2 (by rw [ok]; simpa using k)
      have du : dueT e f [a, b, c] = none := if_neg fun q => k q.2
      rw [du]
      simp only [q_Ldue_v11, b_Ldue_v11, ev, evl, okw, powI, Int.reduceLT, Int.reduceLE, Int.reduceNeg, Int.reduceAdd, Int.reduceSub, Int.reduceMul, Int.reducePow, Int.reduceToNat, Nat.reduceAdd, Nat.reduceSub, ne_eq, not_false_eq_true, not_true_eq_false, Int.reduceEq, reduceCtorEq, List.replicate, lit_sp, fSt_e, strK_ok, hs, l3, cm, ne, it, g2]
      rfl
  · rw [due_none h]
    rw [decide_eq_false h] at ne
    by_cases k : (ps.length : Int) = 3
    · simp only [q_Ldue_v11, b_Ldue_v11, ev, evl, okw, powI, Int.reduceLT, Int.reduceLE, Int.reduceNeg, Int.reduceAdd, Int.reduceSub, Int.reduceMul, Int.reducePow, Int.reduceToNat, Nat.reduceAdd, Nat.reduceSub, ne_eq, not_false_eq_true, not_true_eq_false, Int.reduceEq, reduceCtorEq, List.replicate, lit_sp, fSt_e, strK_ok, hs, l3, k, cm, ne]
      rfl
    · simp only [q_Ldue_v11, b_Ldue_v11, ev, evl, okw, powI, Int.reduceLT, Int.reduceLE, Int.reduceNeg, Int.reduceAdd, Int.reduceSub, Int.reduceMul, Int.reducePow, Int.reduceToNat, Nat.reduceAdd, Nat.reduceSub, ne_eq, not_false_eq_true, not_true_eq_false, Int.reduceEq, reduceCtorEq, List.replicate, lit_sp, fSt_e, strK_ok, hs, l3, k, decide_false]
      rfl
theorem q_word {e f : Int} {l : List Nat} {ps : List (List Nat)} (w : Wd e f) (hl : l.length ≤ 1000) (hs : bSplit [.str (tx l), .str (tx [32])] = .ok (.lst (ps.map fun p => PV.str (tx p)))) (hj : jn ps = l) (hn : ps.length ≤ l.length + 2) :
    q_word_of_v3 [.tup [.int e, .int f], .str (tx l)] = dueR (dueT e f ps) := by
  have cw := q_chw w
  have cm : fComp 3 (iSeq (fVar 2)) tTrue (fCall bLen (aCons (fVar 3) aNil)) [some (.tup [.int e, .int f]), some (.str (tx l)), some (.lst (ps.map fun p => PV.str (tx p)))] = .ok (.lst ((lens ps).map PV.int)) := by
    have e0 : iSeq (fVar 2) [some (.tup [.int e, .int f]), some (.str (tx l)), some (.lst (ps.map fun p => PV.str (tx p)))] = .ok (ps.map fun p => PV.str (tx p)) := rfl
    rw [fComp_e, e0, ← lens_pv]
    refine compK_ok (by rw [List.length_map]; omega) (compL_of _ _ fun p hp => ?_)
    exact tLen (by have := len_short hj p hp; omega)
  have ne := ne_ints (lens ps) [1, e, f]
  rw [show ([1, e, f] : List Int).map PV.int = [.int 1, .int e, .int f] from rfl] at ne
  by_cases h : lens ps = [1, e, f]
  · obtain ⟨a, b, c, rfl, la, lb, lc⟩ := lens_3 h
    rw [decide_eq_true h] at ne
    rw [List.map_cons, List.map_cons, List.map_cons, List.map_nil] at hs cm
    have r1 := q_rd a
    have r2 := q_rd b
    have r3 := q_rd c
    by_cases k1 : okb a = true
    · rw [if_pos k1] at r1
      by_cases k2 : okb b = true
      · rw [if_pos k2] at r2
        by_cases k3 : okb c = true
        · rw [if_pos k3] at r3
          have du : dueT e f [a, b, c] = some ((bv 0 a * p2 e + bv 0 b) * p2 f + bv 0 c) := if_pos ⟨h, by rw [k1, k2, k3]; rfl⟩
          rw [du]
          have v1 := bv_lt a
          have v2 := bv_lt b
          have v3 := bv_lt c
          rw [la, p2_1] at v1
          rw [lb] at v2
          rw [lc] at v3
          have jo := q_join w v1.1 v1.2 v2.1 v2.2 v3.1 v3.2
          have sm := (parts_mk w v1.1 v1.2 v2.1 v2.2 v3.1 v3.2).2.2.2.2.2
          rw [sm] at jo
          simp only [q_word_of_v3, b_word_of_v3, ev, evl, okw, powI, Int.reduceLT, Int.reduceLE, Int.reduceNeg, Int.reduceAdd, Int.reduceSub, Int.reduceMul, Int.reducePow, Int.reduceToNat, Nat.reduceAdd, Nat.reduceSub, ne_eq, not_false_eq_true, not_true_eq_false, Int.reduceEq, reduceCtorEq, List.replicate, lit_sp, fSt_e, strK_ok, cw, hs, cm, ne, r1, r2, r3, jo]
          rfl
        · rw [if_neg k3] at r3
          have du : dueT e f [a, b, c] = none := if_neg fun q => by rw [Bool.and_eq_true, Bool.and_eq_true] at q; exact k3 q.2.2.2
          rw [du]
          simp only [q_word_of_v3, b_word_of_v3, ev, evl, okw, powI, Int.reduceLT, Int.reduceLE, Int.reduceNeg, Int.reduceAdd, Int.reduceSub, Int.reduceMul, Int.reducePow, Int.reduceToNat, Nat.reduceAdd, Nat.reduceSub, ne_eq, not_false_eq_true, not_true_eq_false, Int.reduceEq, reduceCtorEq, List.replicate, lit_sp, fSt_e, strK_ok, cw, hs, cm, ne, r1, r2, r3]
          rfl
      · rw [if_neg k2] at r2
        have du : dueT e f [a, b, c] = none := if_neg fun q => by rw [Bool.and_eq_true, Bool.and_eq_true] at q; exact k2 q.2.2.1
        rw [du]
        simp only [q_word_of_v3, b_word_of_v3, ev, evl, okw, powI, Int.reduceLT, Int.reduceLE, Int.reduceNeg, Int.reduceAdd, Int.reduceSub, Int.reduceMul, Int.reducePow, Int.reduceToNat, Nat.reduceAdd, Nat.reduceSub, ne_eq, not_false_eq_true, not_true_eq_false, Int.reduceEq, reduceCtorEq, List.replicate, lit_sp, fSt_e, strK_ok, cw, hs, cm, ne, r1, r2]
        rfl
    · rw [if_neg k1] at r1
      have du : dueT e f [a, b, c] = none := if_neg fun q => by rw [Bool.and_eq_true, Bool.and_eq_true] at q; exact k1 q.2.1
      rw [du]
      simp only [q_word_of_v3, b_word_of_v3, ev, evl, okw, powI, Int.reduceLT, Int.reduceLE, Int.reduceNeg, Int.reduceAdd, Int.reduceSub, Int.reduceMul, Int.reducePow, Int.reduceToNat, Nat.reduceAdd, Nat.reduceSub, ne_eq, not_false_eq_true, not_true_eq_false, Int.reduceEq, reduceCtorEq, List.replicate, lit_sp, fSt_e, strK_ok, cw, hs, cm, ne, r1]
      rfl
  · rw [due_none h]
    rw [decide_eq_false h] at ne
    simp only [q_word_of_v3, b_word_of_v3, ev, evl, okw, powI, Int.reduceLT, Int.reduceLE, Int.reduceNeg, Int.reduceAdd, Int.reduceSub, Int.reduceMul, Int.reducePow, Int.reduceToNat, Nat.reduceAdd, Nat.reduceSub, ne_eq, not_false_eq_true, not_true_eq_false, Int.reduceEq, reduceCtorEq, List.replicate, lit_sp, fSt_e, strK_ok, cw, hs, cm, ne]
    rfl
end Cm
set_option Elab.async false
set_option linter.all false
set_option autoImplicit false
set_option maxRecDepth 100000
set_option maxHeartbeats 4000000
namespace Cm
open PySem Mi PySem.Builtin.Str PySem.NumText
theorem strs_map {α : Type} (g : α → PySem.Str) (l : List α) : strsP (l.map fun c => PV.str (g c)) = some (l.map g) := by
  induction l with
  | nil => rfl
  | cons c r ih => show (strsP _).map _ = _; rw [ih]; rfl
theorem sum_len (n : Nat) : ∀ (ts : List PySem.Str) (k : Nat), ts.foldl (fun a t => a + t.length + n) k = k + (ts.map (·.length)).sum + n * ts.length
  | [], k => by simp
  | t :: r, k => by
    rw [List.foldl_cons, sum_len n r, List.map_cons, List.sum_cons, List.length_cons, Nat.mul_succ]; omega
theorem join_okT {sep : PySem.Str} {ts : List PySem.Str} (h : (ts.map (·.length)).sum + sep.length * ts.length ≤ 16000000) : JoinOk sep ts = true := by
  unfold JoinOk
  rw [Bool.not_eq_true', ← Array.foldl_toList]
  refine not_long (line_of ?_)
  show List.foldl (fun a t => a + t.length + sep.length) 0 ts ≤ _
  rw [sum_len]; omega
theorem tJoin {sep : List Nat} {ps : List (List Nat)} (h : (ps.map (·.length)).sum + sep.length * ps.length ≤ 16000000) :
    bJoin [.str (tx sep), .lst (ps.map fun p => PV.str (tx p))] = .ok (.str (Str.join (tx sep) (ps.map tx))) := by
  have e := strs_map tx ps
  have k : JoinOk (tx sep) (ps.map tx) = true := join_okT (by
    rw [List.length_map, tx_len, List.map_map]
    have : ps.map ((fun x : PySem.Str => x.length) ∘ tx) = ps.map (·.length) := List.map_congr_left fun p _ => tx_len p
    rw [this]; exact h)
  unfold bJoin
  simp only [e, k, if_true]
  rw [show Txt.join (tx sep) (ps.map tx) = Str.join (tx sep) (ps.map tx) from StrLaws.glued_eq_join _ _]
theorem join_nil : ∀ L : List Nat, Str.join (tx []) (L.map fun c => tx [c]) = tx L
  | [] => rfl
  | [c] => rfl
  | c :: d :: r => by
    have ih := join_nil (d :: r)
    show tx [c] ++ tx [] ++ Str.join (tx []) ((d :: r).map fun c => tx [c]) = tx (c :: d :: r)
    rw [ih, tx_app, tx_app]
    rfl
def btc (p : Int) : Nat := if p % 2 = 1 then 49 else 48
def bt : Nat → Int → List Nat
  | 0, _ => []
  | n + 1, p => btc (p / p2 (n : Int)) :: bt n p
theorem bt_len (n : Nat) (p : Int) : (bt n p).length = n := by
  induction n with
  | zero => rfl
  | succ n ih => show (bt n p).length + 1 = _; rw [ih]
theorem bt_ok (n : Nat) (p : Int) : okb (bt n p) = true := by
  induction n with
  | zero => rfl
  | succ n ih =>
    show okb (btc (p / p2 (n : Int)) :: bt n p) = true
    rw [okb_cons, ih, Bool.and_true]
    unfold btc; split <;> rfl
theorem okb_free {l : List Nat} (h : okb l = true) : 32 ∉ l := fun q => by
  have := List.all_eq_true.mp h 32 q
  cases this
theorem bb_btc (p : Int) : bb (btc p) = p % 2 := by
  unfold btc
  split
  · next h => rw [h]; rfl
  · next h =>
    have : p % 2 = 0 := by omega
    rw [this]; rfl
theorem bt_val (n : Nat) (p d : Int) : bv d (bt n p) = d * p2 (n : Int) + p % p2 (n : Int) := by
  induction n generalizing d with
  | zero =>
    show d = d * p2 0 + p % p2 0
    rw [show p2 0 = 1 from rfl]; omega
  | succ n ih =>
    show bv (2 * d + bb (btc (p / p2 (n : Int)))) (bt n p) = _
    rw [ih, bb_btc, nat_p2]
    have hq := p2_pos (n : Int)
    generalize p2 (n : Int) = q at *
    have d1 := Int.mul_ediv_add_emod p q
    have d2 := Int.mul_ediv_add_emod (p / q) 2
    have r0 := Int.emod_nonneg p (show q ≠ 0 by omega)
    have r1 := Int.emod_lt_of_pos p hq
    have e : p % (2 * q) = q * (p / q % 2) + p % q := by
      have e1 : p = (q * (p / q % 2) + p % q) + (2 * q) * (p / q / 2) := by
        have : q * (p / q) = q * (2 * (p / q / 2) + p / q % 2) := by rw [d2]
        rw [Int.mul_add] at this
        have c2 : 2 * q * (p / q / 2) = q * (2 * (p / q / 2)) := by rw [Int.mul_comm 2 q, Int.mul_assoc]
        omega
      have b : p / q % 2 = 0 ∨ p / q % 2 = 1 := by omega
      rw [e1, Int.add_mul_emod_self_left, ← e1]
      refine Int.emod_eq_of_lt ?_ ?_
      · rcases b with b | b <;> rw [b] <;> omega
      · rcases b with b | b <;> rw [b] <;> omega
    rw [e, Int.add_mul, Int.mul_comm (p / q % 2) q, Int.mul_left_comm d 2, Int.mul_assoc]; omega
theorem range_down (n : Nat) : rangeP ((n : Int) - 1) (-1) (-1) = (List.range n).map fun k : Nat => PV.int ((n : Int) - 1 - k) := by
  unfold rangeP
  have e : rangeN ((n : Int) - 1) (-1) (-1) = n := by
    unfold rangeN
    rw [if_neg (by decide)]
    by_cases h : n = 0
    · subst h; rfl
    · rw [if_pos (by omega), show -(-1 : Int) = 1 from rfl, Int.ediv_one]; omega
  rw [e]
  refine List.map_congr_left fun k _ => ?_
  congr 1; omega
theorem bt_range (n : Nat) (p : Int) : bt n p = (List.range n).map fun k : Nat => btc (p / p2 ((n : Int) - 1 - k)) := by
  induction n with
  | zero => rfl
  | succ n ih =>
    show btc (p / p2 (n : Int)) :: bt n p = _
    rw [List.range_succ_eq_map, List.map_cons, List.map_map, ih]
    congr 1
    · congr 3; omega
    · refine List.map_congr_left fun k _ => ?_
      show _ = btc (p / p2 (((n + 1 : Nat) : Int) - 1 - ((k + 1 : Nat) : Int)))
      congr 3; omega
theorem q_told {n : Nat} {p : Int} (hn : n ≤ 1000) (hp : 0 ≤ p) : q_bits_told_v2 [.int p, .int n] = .ok (.str (tx (bt n p))) := by
  have o1 : okI ((n : Int) - 1) := by show _ ∧ _; omega
  have o2 : okI (-1) := by show _ ∧ _; omega
  have e0 : iRange (aCons (fBin oSub (fVar 1) (fC (.int 1))) (aCons (fUn oNeg (fC (.int 1))) (aCons (fUn oNeg (fC (.int 1))) aNil))) [some (.int p), some (.int n)] = .ok ((List.range n).map fun k : Nat => PV.int ((n : Int) - 1 - k)) := by
    simp only [ev, evl, okw, powI, Int.reduceLT, Int.reduceLE, Int.reduceNeg, Int.reduceAdd, Int.reduceSub, Int.reduceMul, Int.reducePow, Int.reduceToNat, Nat.reduceAdd, Nat.reduceSub, ne_eq, not_false_eq_true, not_true_eq_false, Int.reduceEq, reduceCtorEq, o1, o2, range_down, rg_3 _ _ _ o1 o2 o2 (by decide)]
  have cm : fComp 2 (iRange (aCons (fBin oSub (fVar 1) (fC (.int 1))) (aCons (fUn oNeg (fC (.int 1))) (aCons (fUn oNeg (fC (.int 1))) aNil)))) tTrue (fIf (tVal (fBin oAnd (fBin oShr (fVar 0) (fVar 2)) (fC (.int 1)))) (fC (.str "1")) (fC (.str "0"))) [some (.int p), some (.int n)] = .ok (.lst (((bt n p).map fun c => [c]).map fun c => PV.str (tx c))) := by
    rw [fComp_e, e0]
    have e2 : ((bt n p).map fun c => [c]).map (fun c => PV.str (tx c)) = (List.range n).map fun k : Nat => PV.str (tx [btc (p / p2 ((n : Int) - 1 - k))]) := by
      rw [bt_range, List.map_map, List.map_map]; rfl
    rw [e2]
    refine compK_ok (by rw [List.length_map, List.length_range]; omega) (compL_of _ _ fun k hk => ?_)
    have hk := List.mem_range.mp hk
    show fIf _ _ _ [some (.int p), some (.int n), some (.int ((n : Int) - 1 - k))] = _
    generalize hj : (n : Int) - 1 - k = j
    have hj0 : 0 ≤ j := by omega
    have o3 : okShr j := hj0
    have hd : 0 ≤ p / p2 j := Int.ediv_nonneg hp (by have := p2_pos j; omega)
    have an := and_ones (x := p / p2 j) (c := 1) hd (by decide)
    rw [show p2 1 - 1 = 1 from rfl, show p2 1 = 2 from rfl] at an
    simp only [ev, evl, okw, powI, Int.reduceLT, Int.reduceLE, Int.reduceNeg, Int.reduceAdd, Int.reduceSub, Int.reduceMul, Int.reducePow, Int.reduceToNat, Nat.reduceAdd, Nat.reduceSub, ne_eq, not_false_eq_true, not_true_eq_false, Int.reduceEq, reduceCtorEq, o3, an, lit_0, lit_b1]
    by_cases c : p / p2 j % 2 = 1
    · have : btc (p / p2 j) = 49 := if_pos c
      rw [c, this]; rfl
    · have c0 : p / p2 j % 2 = 0 := by omega
      have : btc (p / p2 j) = 48 := if_neg c
      rw [c0, this]; rfl
  have jo := tJoin (sep := []) (ps := (bt n p).map fun c => [c]) (by
    have s : ∀ L : List Nat, ((L.map fun c => [c]).map (·.length)).sum = L.length := fun L => by
      induction L with
      | nil => rfl
      | cons c r ih => rw [List.map_cons, List.map_cons, List.sum_cons, ih]; simp; omega
    rw [s, bt_len]; simp; omega)
  have jo2 := join_nil (bt n p)
  rw [show ((bt n p).map fun c => [c]).map tx = (bt n p).map fun c => tx [c] from by rw [List.map_map]; rfl, jo2] at jo
  simp only [q_bits_told_v2, b_bits_told_v2, ev, evl, okw, powI, Int.reduceLT, Int.reduceLE, Int.reduceNeg, Int.reduceAdd, Int.reduceSub, Int.reduceMul, Int.reducePow, Int.reduceToNat, Nat.reduceAdd, Nat.reduceSub, ne_eq, not_false_eq_true, not_true_eq_false, Int.reduceEq, reduceCtorEq, List.replicate, fSt_e, strK_ok, lit_n, cm, jo]
/-- a word's text -/
def wtx (e f w : Int) : List Nat := jn [bt 1 (w / p2 (e + f)), bt e.toNat (w / p2 f % p2 e), bt f.toNat (w % p2 f)]
theorem q_bof {e f w : Int} (h : Wd e f) (h0 : 0 ≤ w) (h1 : w < p2 (1 + e + f)) : q_bits_of_v2 [.tup [.int e, .int f], .int w] = .ok (.str (tx (wtx e f w))) := by
  have c := q_cutw h h0 h1
  obtain ⟨g1, g2, g3, g4⟩ := h
  have pe := p2_pos e
  have pf := p2_pos f
  have t1 := q_told (n := 1) (p := w / p2 (e + f)) (by omega) (Int.ediv_nonneg h0 (by have := p2_pos (e + f); omega))
  have t2 := q_told (n := e.toNat) (p := w / p2 f % p2 e) (by omega) (Int.emod_nonneg _ (by omega))
  have t3 := q_told (n := f.toNat) (p := w % p2 f) (by omega) (Int.emod_nonneg _ (by omega))
  rw [Int.toNat_of_nonneg (by omega)] at t2 t3
  rw [show ((1 : Nat) : Int) = 1 from rfl] at t1
  have jo := tJoin (sep := [32]) (ps := [bt 1 (w / p2 (e + f)), bt e.toNat (w / p2 f % p2 e), bt f.toNat (w % p2 f)]) (by simp [bt_len]; omega)
  rw [join_tx] at jo
  simp only [List.map_cons, List.map_nil] at jo
  simp only [q_bits_of_v2, b_bits_of_v2, ev, evl, okw, powI, Int.reduceLT, Int.reduceLE, Int.reduceNeg, Int.reduceAdd, Int.reduceSub, Int.reduceMul, Int.reducePow, Int.reduceToNat, Nat.reduceAdd, Nat.reduceSub, ne_eq, not_false_eq_true, not_true_eq_false, Int.reduceEq, reduceCtorEq, List.replicate, fSt_e, strK_ok, lit_sp, c, t1, t2, t3, jo]
  rfl
theorem wtx_len {e f w : Int} (h : Wd e f) : (wtx e f w).length = 3 + e.toNat + f.toNat := by
  show (bt 1 _ ++ 32 :: (bt e.toNat _ ++ 32 :: bt f.toNat _)).length = _
  rw [List.length_append, List.length_cons, List.length_append, List.length_cons, bt_len, bt_len, bt_len]; omega
theorem wtx_due {e f w : Int} (h : Wd e f) (h0 : 0 ≤ w) (h1 : w < p2 (1 + e + f)) {ps : List (List Nat)} (hj : jn ps = wtx e f w) (hf : ∀ p ∈ ps, 32 ∉ p) (hn : ps ≠ []) : dueT e f ps = some w := by
  have e1 := jn_inj hn (by simp) hf (fun p hp => by
    have : p = bt 1 (w / p2 (e + f)) ∨ p = bt e.toNat (w / p2 f % p2 e) ∨ p = bt f.toNat (w % p2 f) := by simpa using hp
    rcases this with q | q | q <;> rw [q] <;> exact okb_free (bt_ok _ _)) hj
  subst e1
  obtain ⟨s, x, y, s0, s1, x0, x1, y0, y1, ew, e2, e3, e4, e5⟩ := parts h h0 h1
  rw [e2, e4, e5]
  obtain ⟨g1, g2, g3, g4⟩ := h
  have c : lens [bt 1 s, bt e.toNat x, bt f.toNat y] = [1, e, f] := by
    simp only [lens, List.map_cons, List.map_nil, bt_len]
    rw [Int.toNat_of_nonneg (by omega), Int.toNat_of_nonneg (by omega)]; rfl
  have d : dueT e f [bt 1 s, bt e.toNat x, bt f.toNat y] = _ := if_pos ⟨c, by rw [bt_ok, bt_ok, bt_ok]; rfl⟩
  rw [d, bt_val, bt_val, bt_val, Int.toNat_of_nonneg (by omega), Int.toNat_of_nonneg (by omega)]
  have m1 : s % p2 ((1 : Nat) : Int) = s := Int.emod_eq_of_lt s0 (by rw [show p2 ((1 : Nat) : Int) = 2 from rfl]; exact s1)
  rw [m1, Int.emod_eq_of_lt x0 x1, Int.emod_eq_of_lt y0 y1, ew]
  simp
end Cm
set_option Elab.async false
set_option linter.all false
set_option autoImplicit false
set_option maxRecDepth 100000
set_option maxHeartbeats 4000000
namespace Mi
theorem ln1 {P:List PySem.Value→Prop} (h:∀ a,P [a]):∀ us:List PySem.Value,us.length=1→P us
  | [a],_=>h a
theorem ln2 {P:List PySem.Value→Prop} (h:∀ a b,P [a,b]):∀ us:List PySem.Value,us.length=2→P us
  | [a,b],_=>h a b
theorem ln3 {P:List PySem.Value→Prop} (h:∀ a b c,P [a,b,c]):∀ us:List PySem.Value,us.length=3→P us
  | [a,b,c],_=>h a b c
theorem ln4 {P:List PySem.Value→Prop} (h:∀ a b c d,P [a,b,c,d]):∀ us:List PySem.Value,us.length=4→P us
  | [a,b,c,d],_=>h a b c d
end Mi
namespace K05
open PySem Mi Cm PySem.Builtin.Str PySem.NumText
theorem item_of {l : List PV} {i : Int} (h0 : 0 ≤ i) (h1 : i < l.length) : ∃ x, x ∈ l ∧ oItem (.lst l) (.int i) = .ok x := by
  have h : i.toNat < l.length := by omega
  exact ⟨l[i.toNat], List.getElem_mem h, oItem_at h0 (by rw [List.getElem?_eq_getElem h])⟩
theorem sum_jn : ∀ ps : List (List Nat), (ps.map (·.length)).sum ≤ (jn ps).length ∧ (jn ps).length ≤ (ps.map (·.length)).sum + ps.length
  | [] => ⟨Nat.le_refl _, Nat.le_refl _⟩
  | [a] => by simp [jn]
  | a :: b :: r => by
    have ih := sum_jn (b :: r)
    show _ ≤ (a ++ 32 :: jn (b :: r)).length ∧ (a ++ 32 :: jn (b :: r)).length ≤ _
    rw [List.length_append, List.length_cons, List.map_cons, List.sum_cons, List.length_cons]
    omega
theorem rep_len (x : PySem.Str) : (repl1 x (tx [32]) (tx [])).length ≤ 2 * x.length := by
  unfold repl1
  split
  · omega
  · rw [StrLaws.glued_eq_join]
    have e5 := PyProof.Rows.len_partsBetween x (occurrences x (tx [32]) 0 x.length 1) (tx [32]).length
    have e6 := StrLaws.occ_length_le x (tx [32]) 0 x.length 1
    have sh : ∀ p ∈ partsBetween x (occurrences x (tx [32]) 0 x.length 1) (tx [32]).length, p.length ≤ x.length := fun p hp => by
      rw [StrLaws.partsBetween_eq] at hp
      exact PyProof.Rows.partsFrom_short x _ _ _ p hp
    generalize partsBetween x (occurrences x (tx [32]) 0 x.length 1) (tx [32]).length = ps at *
    match ps with
    | [] => exact Nat.zero_le _
    | [a] => have := sh a (by simp); show a.length ≤ _; omega
    | [a, b] =>
      have := sh a (by simp)
      have := sh b (by simp)
      rw [PyProof.Rows.len_join_cons]
      simp [tx_len]; omega
    | a :: b :: c :: r => simp only [List.length_cons] at e5; omega
theorem rep_ok {l : List Nat} (h : l.length ≤ 100) : ∃ l', replK (tx [32]) "" (.str (tx l)) = .ok (.str (tx l')) ∧ l'.length ≤ 1000 := by
  have e6 := StrLaws.occ_length_le (tx l) (tx [32]) 0 (tx l).length 1
  have e7 := rep_len (tx l)
  rw [tx_len] at e7
  refine ⟨(repl1 (tx l) (tx [32]) (tx [])).cps.toList, ?_, ?_⟩
  · rw [← tx_of]
    show (if replOk (tx l) (tx [32]) (Str.ofString "") then _ else _) = _
    rw [lit_n]
    refine if_pos ⟨by decide +kernel, ?_, line_of (by omega)⟩
    rw [tx_len, tx_len, List.length_nil, Nat.mul_zero]
    exact line_of (by omega)
  · have : (repl1 (tx l) (tx [32]) (tx [])).cps.toList.length = (repl1 (tx l) (tx [32]) (tx [])).length := by simp [Str.length]
    rw [this]; omega
theorem rev_ok {l : List Nat} {ps : List (List Nat)} (hl : l.length ≤ 100) (hj : jn ps = l) (hn : ps.length ≤ l.length + 2) : ∃ l', bJoinR [.str (tx [32]), .lst (ps.map fun p => PV.str (tx p))] = .ok (.str (tx l')) ∧ l'.length ≤ 1000 := by
  have s := sum_jn ps
  rw [hj] at s
  have e := strs_map tx ps.reverse
  have sr : (ps.reverse.map (·.length)).sum = (ps.map (·.length)).sum := by rw [List.map_reverse, List.sum_reverse]
  have k : JoinOk (tx [32]) (ps.reverse.map tx) = true := join_okT (by
    rw [List.length_map, tx_len, List.map_map]
    have : ps.reverse.map ((fun x : PySem.Str => x.length) ∘ tx) = ps.reverse.map (·.length) := List.map_congr_left fun p _ => tx_len p
    rw [this, sr, List.length_reverse]; simp; omega)
  refine ⟨jn ps.reverse, ?_, ?_⟩
  · rw [List.map_reverse] at e
    unfold bJoinR
    simp only [e, k, if_true]
    rw [show Txt.join (tx [32]) (ps.reverse.map tx) = Str.join (tx [32]) (ps.reverse.map tx) from StrLaws.glued_eq_join _ _, join_tx]
  · have := (sum_jn ps.reverse).2
    rw [sr, List.length_reverse] at this; omega
theorem addN {a b : List Nat} (h : a.length + b.length ≤ 16000000) (h1 : a ≠ []) (h2 : b ≠ []) : oAddN (.str (tx a)) (.str (tx b)) = .ok (.str (tx (a ++ b))) := by
  show (if _ then _ else _) = _
  rw [tx_len, tx_len, if_pos ⟨line_of h, List.length_pos_iff.mpr h1, List.length_pos_iff.mpr h2⟩, tx_app]
theorem fRep_e (y z : PySem.Str) (i : Nat) (x0 : Option PV) (ρ0 : MEnv) : fRepl1 y z i (x0 :: ρ0) = (getV (x0 :: ρ0) i).bind (replK y z) := rfl
def signs : List PV := [.str "0", .str "1", .str "2", .str "-", .str "b", .str "+", .str "_", .str "l", .str "\n", .str "/", .str "x"]
theorem sign_is : ∀ x ∈ signs, ∃ c, x = .str (tx [c]) := by
  intro x hx
  unfold signs at hx
  simp only [List.mem_cons, List.not_mem_nil, or_false] at hx
  rcases hx with h | h | h | h | h | h | h | h | h | h | h <;> subst h
  · exact ⟨48, rfl⟩
  · exact ⟨49, rfl⟩
  · exact ⟨50, rfl⟩
  · exact ⟨45, rfl⟩
  · exact ⟨98, rfl⟩
  · exact ⟨43, rfl⟩
  · exact ⟨95, rfl⟩
  · exact ⟨108, rfl⟩
  · exact ⟨10, rfl⟩
  · exact ⟨47, rfl⟩
  · exact ⟨120, rfl⟩
theorem mk11 (a b c d e f g h i j k : PV) : mkLst [a, b, c, d, e, f, g, h, i, j, k] = .ok (.lst [a, b, c, d, e, f, g, h, i, j, k]) := mkLst_s _ (by simp)
theorem q_spo {l : List Nat} {c : Int} (h0 : l ≠ []) (hl : l.length ≤ 100) (c0 : 0 ≤ c) : ∃ l', q_Lspoiled_v4 [.str (tx l), .int c] = .ok (.str (tx l')) ∧ l'.length ≤ 1000 := by
  have lp : 0 < l.length := List.length_pos_iff.mpr h0
  have ln := tLen (a := l) (by omega)
  have om : okMod (l.length : Int) := by show (0 : Int) < _; omega
  have a0 : 0 ≤ c / 9 % (l.length : Int) := Int.emod_nonneg _ (by omega)
  have a1 : c / 9 % (l.length : Int) < l.length := Int.emod_lt_of_pos _ (by omega)
  obtain ⟨s, hs, es⟩ := item_of (l := signs) (i := c / 700 % 11) (Int.emod_nonneg _ (by omega)) (by show _ < (11 : Int); omega)
  obtain ⟨g, rfl⟩ := sign_is s hs
  have es : oItem (.lst [.str "0", .str "1", .str "2", .str "-", .str "b", .str "+", .str "_", .str "l", .str "\n", .str "/", .str "x"]) (.int (c / 700 % 11)) = .ok (.str (tx [g])) := es
  obtain ⟨ps, sp, hj, hf, hn, hn2⟩ := split_is (l := l) (by omega)
  obtain ⟨r4, e4, k4⟩ := rep_ok hl
  obtain ⟨r5, e5, k5⟩ := rev_ok hl hj hn2
  generalize ha : c / 9 % (l.length : Int) = a at *
  have t1 := tTake (z := l) (k := a) (by omega) a0
  have t2 := tDrop (z := l) (k := a) (by omega) a0
  have t3 := tDrop (z := l) (k := a + 1) (by omega) (by omega)
  have u1 : (l.take a.toNat).length ≤ 100 := Nat.le_trans (List.length_take_le _ _) (by omega)
  have u2 : (l.drop a.toNat).length ≤ 100 := by rw [List.length_drop]; omega
  have u3 : (l.drop (a + 1).toNat).length ≤ 100 := by rw [List.length_drop]; omega
  have n2 : l.drop a.toNat ≠ [] := by
    intro q
    have := congrArg List.length q
    rw [List.length_drop, List.length_nil] at this; omega
  generalize l.take a.toNat = x at *
  generalize l.drop a.toNat = y at *
  generalize l.drop (a + 1).toNat = z at *
  have q1 := tAdd (a := x) (b := [g]) (by simp; omega)
  have q2 := tAdd (a := x ++ [g]) (b := y) (by simp; omega)
  have q3 := tAdd (a := x) (b := z) (by omega)
  have q4 := tAdd (a := x ++ [g]) (b := z) (by simp; omega)
  have q5 := tAdd (a := x) (b := [32]) (by simp; omega)
  have q6 := addN (a := x ++ [32]) (b := y) (by simp; omega) (by simp) n2
  have q7 := tAdd (a := [32]) (b := l) (by simp; omega)
  have q8 := tAdd (a := l) (b := [32]) (by simp; omega)
  obtain ⟨t, ht, et⟩ := item_of (l := [.str (tx (x ++ [g] ++ y)), .str (tx (x ++ z)), .str (tx (x ++ [g] ++ z)), .str (tx (x ++ [32] ++ y)), .str (tx r4), .str (tx r5), .str (tx ([32] ++ l)), .str (tx (l ++ [32])), .str (tx x)]) (i := c % 9) (Int.emod_nonneg _ (by omega)) (by show _ < (9 : Int); omega)
  have w1 : ∀ t1 t2 t3 t4 t5 t6 : PV, oAdd (.lst [t1, t2, t3]) (.lst [t4, t5, t6]) = .ok (.lst [t1, t2, t3, t4, t5, t6]) := fun _ _ _ _ _ _ => rfl
  have w2 : ∀ t1 t2 t3 t4 t5 t6 t7 t8 t9 : PV, oAdd (.lst [t1, t2, t3, t4, t5, t6]) (.lst [t7, t8, t9]) = .ok (.lst [t1, t2, t3, t4, t5, t6, t7, t8, t9]) := fun _ _ _ _ _ _ _ _ _ => rfl
  have ev : q_Lspoiled_v4 [.str (tx l), .int c] = .ok t := by
    simp only [q_Lspoiled_v4, b_Lspoiled_v4, ev, evl, okw, powI, Int.reduceLT, Int.reduceLE, Int.reduceNeg, Int.reduceAdd, Int.reduceSub, Int.reduceMul, Int.reducePow, Int.reduceToNat, Nat.reduceAdd, Nat.reduceSub, ne_eq, not_false_eq_true, not_true_eq_false, Int.reduceEq, reduceCtorEq, List.replicate, ln, om, ha, mk11, es, t1, t2, t3, q1, q2, q3, q4, lit_sp, q5, q6, q7, q8, fRep_e, e4, fSt_e, strK_ok, sp, e5, w1, w2, et]
  rw [ev]
  simp only [List.mem_cons, List.not_mem_nil, or_false] at ht
  rcases ht with h | h | h | h | h | h | h | h | h <;> subst h
  · exact ⟨_, rfl, by simp; omega⟩
  · exact ⟨_, rfl, by simp; omega⟩
  · exact ⟨_, rfl, by simp; omega⟩
  · exact ⟨_, rfl, by simp; omega⟩
  · exact ⟨_, rfl, k4⟩
  · exact ⟨_, rfl, k5⟩
  · exact ⟨_, rfl, by simp; omega⟩
  · exact ⟨_, rfl, by simp; omega⟩
  · exact ⟨_, rfl, by omega⟩
/-- what the law's own reading and the program's say of any text -/
theorem both {e f : Int} (w : Wd e f) {l : List Nat} (hl : l.length ≤ 1000) : ∃ o : Option Int, q_Ldue_v11 [.tup [.int e, .int f], .str (tx l)] = .ok (dueP o) ∧ q_word_of_v3 [.tup [.int e, .int f], .str (tx l)] = dueR o := by
  obtain ⟨ps, sp, hj, hf, hn, hn2⟩ := split_is (l := l) (by omega)
  exact ⟨_, q_due hl sp hj hf hn2, q_word w hl sp hj hn2⟩
theorem good {e f w : Int} (h : Wd e f) (h0 : 0 ≤ w) (h1 : w < p2 (1 + e + f)) : q_Ldue_v11 [.tup [.int e, .int f], .str (tx (wtx e f w))] = .ok (.int w) ∧ q_word_of_v3 [.tup [.int e, .int f], .str (tx (wtx e f w))] = .ok (.int w) := by
  have hl : (wtx e f w).length ≤ 1000 := by rw [wtx_len h]; obtain ⟨_, _, _, _⟩ := h; omega
  obtain ⟨ps, sp, hj, hf, hn, hn2⟩ := split_is (l := wtx e f w) (by omega)
  have d := wtx_due h h0 h1 hj hf hn
  have a := q_due (e := e) (f := f) hl sp hj hf hn2
  have b := q_word h hl sp hj hn2
  rw [d] at a b
  exact ⟨a, b⟩
theorem refd {e f : Int} {v : PV} (hv : asVal (some v) = .ok v) (h : q_word_of_v3 [.tup [.int e, .int f], v] = .exc 6) : q_Lrefused_v20 [.tup [.int e, .int f], v] = .ok (.bl true) := by
  simp only [q_Lrefused_v20, b_Lrefused_v20, ev, evl, okw, powI, Int.reduceLT, Int.reduceLE, Int.reduceNeg, Int.reduceAdd, Int.reduceSub, Int.reduceMul, Int.reducePow, Int.reduceToNat, Nat.reduceAdd, Nat.reduceSub, ne_eq, not_false_eq_true, not_true_eq_false, Int.reduceEq, reduceCtorEq, List.replicate, List.set, hv, h]
  rfl
theorem readd {e f n : Int} {z : PySem.Str} (h : q_word_of_v3 [.tup [.int e, .int f], .str z] = .ok (.int n)) : q_Lread_v3 [.tup [.int e, .int f], .str z, .int n] = .ok (.bl true) := by
  simp only [q_Lread_v3, b_Lread_v3, ev, evl, okw, powI, Int.reduceLT, Int.reduceLE, Int.reduceNeg, Int.reduceAdd, Int.reduceSub, Int.reduceMul, Int.reducePow, Int.reduceToNat, Nat.reduceAdd, Nat.reduceSub, ne_eq, not_false_eq_true, not_true_eq_false, Int.reduceEq, reduceCtorEq, List.replicate, h, q_whole]
def Fr (l : List PV) (e f : Int) (o : PV) (ρ : MEnv) : Prop := ∃ v4 v5 v6 v7 v8, ρ = [some (.lst l), some (.tup [.int e, .int f]), some (.tup [.int e, .int f]), some o, v4, v5, v6, v7, v8]
theorem turn (l : List PV) {e f c : Int} (o : PV) (h : Wd e f) (hc : nb c ≤ 1048576) (v5 v6 v7 v8 : Option PV) :
    Goes (Fr l e f o) (b_law_v89_1 [some (.lst l), some (.tup [.int e, .int f]), some (.tup [.int e, .int f]), some o, some (.int c), v5, v6, v7, v8]) := by
  obtain ⟨w, e1, w0, w1⟩ := q_Lw h hc
  have bo := q_bof h w0 w1
  obtain ⟨g1, g2⟩ := good h w0 w1
  have rd := readd g2
  have hl : (wtx e f w).length ≤ 100 := by rw [wtx_len h]; obtain ⟨_, _, _, _⟩ := h; omega
  have hne : wtx e f w ≠ [] := fun q => by have := wtx_len (w := w) h; rw [q] at this; simp at this; omega
  obtain ⟨l', es, hl'⟩ := q_spo (l := wtx e f w) (c := c % 1000000000) hne hl (Int.emod_nonneg _ (by decide))
  obtain ⟨d, d1, d2⟩ := both h hl'
  have pw : powI 10 9 = 1000000000 := by decide
  have om : okMod 1000000000 := by show (0 : Int) < _; decide
  have n1 : cIsN .non = .ok (.bl true) := rfl
  have n2 : cNotN .non = .ok (.bl false) := rfl
  have n3 : ∀ n : Int, cIsN (.int n) = .ok (.bl false) := fun _ => rfl
  have n4 : ∀ n : Int, cNotN (.int n) = .ok (.bl true) := fun _ => rfl
  cases d with
  | none =>
    have r2 := refd (v := .str (tx l')) rfl d2
    simp only [b_law_v89_1, ev, evl, okw, powI, Int.reduceLT, Int.reduceLE, Int.reduceNeg, Int.reduceAdd, Int.reduceSub, Int.reduceMul, Int.reducePow, Int.reduceToNat, Nat.reduceAdd, Nat.reduceSub, ne_eq, not_false_eq_true, not_true_eq_false, Int.reduceEq, reduceCtorEq, e1, bo, g1, rd, pw, om, es, d1, dueP, n1, n2, n3, n4, r2]
    exact goes_next ⟨_, _, _, _, _, rfl⟩
  | some n =>
    have r2 := readd d2
    simp only [b_law_v89_1, ev, evl, okw, powI, Int.reduceLT, Int.reduceLE, Int.reduceNeg, Int.reduceAdd, Int.reduceSub, Int.reduceMul, Int.reducePow, Int.reduceToNat, Nat.reduceAdd, Nat.reduceSub, ne_eq, not_false_eq_true, not_true_eq_false, Int.reduceEq, reduceCtorEq, e1, bo, g1, rd, pw, om, es, d1, dueP, n1, n2, n3, n4, r2]
    exact goes_next ⟨_, _, _, _, _, rfl⟩
theorem odd_word {e f : Int} (w : Wd e f) {v : PV} (hv : asVal (some v) = .ok v) (h : isTy v .str = some false) : q_word_of_v3 [.tup [.int e, .int f], v] = .exc 6 := by
  have cw := q_chw w
  simp only [q_word_of_v3, b_word_of_v3, ev, evl, okw, powI, Int.reduceLT, Int.reduceLE, Int.reduceNeg, Int.reduceAdd, Int.reduceSub, Int.reduceMul, Int.reducePow, Int.reduceToNat, Nat.reduceAdd, Nat.reduceSub, ne_eq, not_false_eq_true, not_true_eq_false, Int.reduceEq, reduceCtorEq, List.replicate, hv, h, cw]
theorem holds : ∀ ns : List Int, ns.length ≤ 63 → (∀ x ∈ ns, nb x ≤ 1048576) → q_law_v89 [.lst (ns.map PV.int)] = .ok (.bl true) := by
  intro ns hl hb
  obtain ⟨e, f, e1, h⟩ := q_Lwd (ns.getD 0 0)
  have e0 := q_cell ns 0 (by decide)
  have e2 := q_wof h
  obtain ⟨o, ho, eo⟩ := item_of (l := [.non, .bl true, .int 0, .int 1, .lst [.str "0", .str "1"], .tup [.str "0"], .dic0]) (i := ns.getD 0 0 % 7) (Int.emod_nonneg _ (by omega)) (by show _ < (7 : Int); omega)
  have hv : asVal (some o) = .ok o ∧ isTy o .str = some false := by
    simp only [List.mem_cons, List.not_mem_nil, or_false] at ho
    rcases ho with h | h | h | h | h | h | h <;> subst h <;> exact ⟨rfl, rfl⟩
  have rf := refd hv.1 (odd_word h hv.1 hv.2)
  obtain ⟨ρ, e3, v4, v5, v6, v7, v8, rfl⟩ := forL_goes (I := Fr (ns.map PV.int) e f o) (i := 4) (body := b_law_v89_1) (l := cutP (ns.map PV.int) (some 1) (some 13))
    (ρ := [some (.lst (ns.map PV.int)), some (.tup [.int e, .int f]), some (.tup [.int e, .int f]), some o, none, none, none, none, none]) ⟨_, _, _, _, _, rfl⟩ (fun x hx ρ ⟨v4, v5, v6, v7, v8, hρ⟩ => by
      subst hρ
      obtain ⟨c, rfl, hc⟩ := mem_cut_ints hx
      exact turn _ o h (hb c hc) v5 v6 v7 v8)
  have a3 := hv.1
  simp only [q_law_v89, b_law_v89, ev, evl, okw, powI, Int.reduceLT, Int.reduceLE, Int.reduceNeg, Int.reduceAdd, Int.reduceSub, Int.reduceMul, Int.reducePow, Int.reduceToNat, Nat.reduceAdd, Nat.reduceSub, ne_eq, not_false_eq_true, not_true_eq_false, Int.reduceEq, reduceCtorEq, List.replicate, e0, e1, e2, eo, e3, a3, rf]
end K05
set_option Elab.async false
set_option linter.all false
set_option autoImplicit false
set_option maxRecDepth 100000
set_option maxHeartbeats 4000000
namespace K05
open PySem PySem.Spec PyProof.Rows L2 Mi Cm
def names : List (Nat × Str) := [(0, "FloatError"), (1, "NoWidth"), (2, "NoWord"), (4, "NoNumber"), (6, "NoText")]
def wnames : List (Nat × Str) := []
def anames : List (Nat × Str) := names ++ wnames
def top (i : Nat) : Stmt := PySem.Challenge.pw_floatforge_k05_bits.main.body.getD i (.Pass ⟨0, 0, 0, 0⟩)
/-- what the walk asks of the names of the text -/
structure Tx (K : PySem.W.Frag) (mg : Str → Option Value) (cl : Nat → Addr) : Prop where
  inj : ∀ c d, cl c = cl d → c = d
  cls : Cls K mg cl names
  ways : Ways K mg cl wnames
  b_ValueError : mg "ValueError" = none
  b_bool : mg "bool" = none
  b_int : mg "int" = none
  b_isinstance : mg "isinstance" = none
  b_len : mg "len" = none
  b_range : mg "range" = none
  b_reversed : mg "reversed" = none
  b_str : mg "str" = none
  b_tuple : mg "tuple" = none
  c_LEAST_E : ∃ t, mg "LEAST_E" = some (.int 2 t)
  c_MOST_E : ∃ t, mg "MOST_E" = some (.int 11 t)
  c_LEAST_F : ∃ t, mg "LEAST_F" = some (.int 1 t)
  c_MOST_F : ∃ t, mg "MOST_F" = some (.int 60 t)
section
variable {P : Program} {w : World} {K : PySem.W.Frag} {mg : Str → Option Value} {base : Heap} {cl : Nat → Addr}
theorem sc_is_whole : FnScope ["value"] ["value"] (defScope (top 11)) := ⟨rfl, rfl, rfl, by decide +kernel, rfl, by decide +kernel, by decide +kernel⟩
theorem g_is_whole {f : Addr} {fd : FuncData} (T : Tx K mg cl) (D : DefAt K mg "is_whole" (top 11) f fd) : FG P w K mg base cl 1 "is_whole" 1 q_is_whole :=
  D.fg (N := ["value"]) (k := 0) sc_is_whole rfl (fun _ _ _ _ _ _=>Mi.ln1 fun _=>rfl) fun cdv A outer s H E hr =>
    mss_one (ms_ret (me_and (me_isinst .int (mv 0) (by rfl) T.b_isinstance (by rfl) T.b_int) (me_one (me_not (me_isinst .bool (mv 0) (by rfl) T.b_isinstance (by rfl) T.b_bool)))))
theorem sc_all_ones : FnScope ["count"] ["count"] (defScope (top 17)) := ⟨rfl, rfl, rfl, by decide +kernel, rfl, by decide +kernel, by decide +kernel⟩
theorem g_all_ones {f : Addr} {fd : FuncData} (T : Tx K mg cl) (D : DefAt K mg "all_ones" (top 17) f fd) : FG P w K mg base cl 1 "all_ones" 1 q_all_ones :=
  D.fg (N := ["count"]) (k := 0) sc_all_ones rfl (fun _ _ _ _ _ _=>Mi.ln1 fun _=>rfl) fun cdv A outer s H E hr =>
    mss_one (ms_ret (me_bin r_sub (me_bin r_shl (me_int) (mv 0)) (me_int)))
theorem sc_bits_told_v2 : FnScope ["part", "count"] ["part", "count"] (defScope (top 23)) := ⟨rfl, rfl, rfl, by decide +kernel, rfl, by decide +kernel, by decide +kernel⟩
theorem g_bits_told_v2 {f : Addr} {fd : FuncData} (T : Tx K mg cl) (D : DefAt K mg "bits_told" (top 23) f fd) : FG P w K mg base cl 1 "bits_told" 2 q_bits_told_v2 :=
  D.fg (N := ["part", "count"]) (k := 0) sc_bits_told_v2 rfl (fun _ _ _ _ _ _=>Mi.ln2 fun _ _=>rfl) fun cdv A outer s H E hr =>
    mss_one (ms_ret (me_strm gs_join c_join (me_str) (ma_cons (mcomp sc_bits_told_v2.nd (by decide +kernel) rfl (mi_range (by rfl) T.b_range (ma_cons (me_bin r_sub (mv 1) (me_int)) (ma_cons (me_una r_neg (me_int)) (ma_cons (me_una r_neg (me_int)) (ma_nil))))) (fun _ _ _ _ => MC.nil) (fun _ _ _ _ => me_if (mt_val (me_bin r_and (me_bin r_shr (mv 0) (mv 2)) (me_int))) (me_str) (me_str))) (ma_nil))))
theorem sc_bits_read_v2 : FnScope ["bits", "number", "bit"] ["bits"] (defScope (top 25)) := ⟨rfl, rfl, rfl, by decide +kernel, rfl, by decide +kernel, by decide +kernel⟩
theorem g_bits_read_v2 {f : Addr} {fd : FuncData} (T : Tx K mg cl) (D : DefAt K mg "bits_read" (top 25) f fd) : FG P w K mg base cl 1 "bits_read" 1 q_bits_read_v2 :=
  D.fg (N := ["bits", "number", "bit"]) (k := 0) sc_bits_read_v2 rfl (fun _ _ _ _ _ _=>Mi.ln1 fun _=>rfl) fun cdv A outer s H E hr =>
    mss_cons (ms_set (i := 1) sc_bits_read_v2.nd rfl (Or.inl rfl) (me_int)) (mss_cons (ms_for (i := 2) own_cx rfl sc_bits_read_v2.nd rfl (Or.inl rfl) (mi_str (mv 0)) (mss_cons (ms_if (mt_cmp (r_notIn (hu64 hr)) (mv 2) (me_tup (ma_cons (me_str) (ma_cons (me_str) (ma_nil)))) (by with_unfolding_all rfl)) (mss_one (ms_raise (c := 6) (T.cls.cls 6 "NoText" (at_mem 4 rfl)) own_cx (by rfl) hr.hd (mv_str 23))) (mss_nil)) (mss_one (ms_set (i := 1) sc_bits_read_v2.nd rfl (Or.inl rfl) (me_bin r_add (me_bin r_mul (me_int) (mv 1)) (me_if (mt_cmp (r_eq (hu64 hr)) (mv 2) (me_str) (nomark _)) (me_int) (me_int))))))) (mss_one (ms_ret (mv 1))))
theorem sc_Lcell_at : FnScope ["_law_script", "_law_k"] ["_law_script", "_law_k"] (defScope (top 27)) := ⟨rfl, rfl, rfl, by decide +kernel, rfl, by decide +kernel, by decide +kernel⟩
theorem g_Lcell_at {f : Addr} {fd : FuncData} (T : Tx K mg cl) (D : DefAt K mg "_law_cell_at" (top 27) f fd) : FG P w K mg base cl 1 "_law_cell_at" 2 q_Lcell_at :=
  D.fg (N := ["_law_script", "_law_k"]) (k := 0) sc_Lcell_at rfl (fun _ _ _ _ _ _=>Mi.ln2 fun _ _=>rfl) fun cdv A outer s H E hr =>
    mss_cons (ms_if (mt_cmp r_lt (mv 1) (me_callB c_len (by rfl) T.b_len PySem.boot_len (ma_cons (mv 0) (ma_nil))) (nomark _)) (mss_one (ms_ret (me_item (mv 0) (mv 1)))) (mss_nil)) (mss_one (ms_ret (me_int)))
theorem sc_Lwhole : FnScope ["_law_found"] ["_law_found"] (defScope (top 28)) := ⟨rfl, rfl, rfl, by decide +kernel, rfl, by decide +kernel, by decide +kernel⟩
theorem g_Lwhole {f : Addr} {fd : FuncData} (T : Tx K mg cl) (D : DefAt K mg "_law_whole" (top 28) f fd) : FG P w K mg base cl 1 "_law_whole" 1 q_Lwhole :=
  D.fg (N := ["_law_found"]) (k := 0) sc_Lwhole rfl (fun _ _ _ _ _ _=>Mi.ln1 fun _=>rfl) fun cdv A outer s H E hr =>
    mss_one (ms_ret (me_and (me_isinst .int (mv 0) (by rfl) T.b_isinstance (by rfl) T.b_int) (me_one (me_not (me_isinst .bool (mv 0) (by rfl) T.b_isinstance (by rfl) T.b_bool)))))
theorem sc_Lwide : FnScope ["_law_cell", "_law_mixed"] ["_law_cell"] (defScope (top 29)) := ⟨rfl, rfl, rfl, by decide +kernel, rfl, by decide +kernel, by decide +kernel⟩
theorem g_Lwide {f : Addr} {fd : FuncData} (T : Tx K mg cl) (D : DefAt K mg "_law_wide" (top 29) f fd) : FG P w K mg base cl 1 "_law_wide" 1 q_Lwide :=
  D.fg (N := ["_law_cell", "_law_mixed"]) (k := 0) sc_Lwide rfl (fun _ _ _ _ _ _=>Mi.ln1 fun _=>rfl) fun cdv A outer s H E hr =>
    mss_cons (ms_set (i := 1) sc_Lwide.nd rfl (Or.inl rfl) (me_bin r_mod (me_bin r_mul (mv 0) (me_int)) (me_int))) (mss_one (ms_ret (me_tup (ma_cons (me_bin r_add (me_int) (me_bin r_mod (mv 1) (me_int))) (ma_cons (me_bin r_add (me_int) (me_bin r_mod (me_bin r_div (mv 1) (me_int)) (me_int))) (ma_nil))))))
theorem sc_Lword : FnScope ["_law_wide_here", "_law_cell", "_law_many", "_law_mixed", "_law_last", "_law_some", "_law_pick"] ["_law_wide_here", "_law_cell"] (defScope (top 30)) := ⟨rfl, rfl, rfl, by decide +kernel, rfl, by decide +kernel, by decide +kernel⟩
theorem g_Lword {f : Addr} {fd : FuncData} (T : Tx K mg cl) (D : DefAt K mg "_law_word" (top 30) f fd) : FG P w K mg base cl 1 "_law_word" 2 q_Lword :=
  D.fg (N := ["_law_wide_here", "_law_cell", "_law_many", "_law_mixed", "_law_last", "_law_some", "_law_pick"]) (k := 0) sc_Lword rfl (fun _ _ _ _ _ _=>Mi.ln2 fun _ _=>rfl) fun cdv A outer s H E hr =>
    mss_cons (ms_set (i := 2) sc_Lword.nd rfl (Or.inl rfl) (me_bin r_shl (me_int) (me_bin r_add (me_bin r_add (me_int) (me_item (mv 0) (me_int))) (me_item (mv 0) (me_int))))) (mss_cons (ms_set (i := 3) sc_Lword.nd rfl (Or.inl rfl) (me_bin r_mod (me_bin r_mul (mv 1) (me_int)) (me_bin r_add (me_bin r_pow (me_int) (me_int)) (me_int)))) (mss_cons (ms_set (i := 4) sc_Lword.nd rfl (Or.inl rfl) (me_bin r_shl (me_bin r_sub (me_bin r_shl (me_int) (me_item (mv 0) (me_int))) (me_int)) (me_item (mv 0) (me_int)))) (mss_cons (ms_set (i := 5) sc_Lword.nd rfl (Or.inl rfl) (me_lst (ma_cons (me_int) (ma_cons (me_int) (ma_cons (me_bin r_sub (me_bin r_shl (me_int) (me_item (mv 0) (me_int))) (me_int)) (ma_cons (me_bin r_shl (me_int) (me_item (mv 0) (me_int))) (ma_cons (me_bin r_sub (mv 4) (me_int)) (ma_cons (mv 4) (ma_cons (me_bin r_add (mv 4) (me_int)) (ma_cons (me_bin r_add (mv 4) (me_bin r_shl (me_int) (me_bin r_sub (me_item (mv 0) (me_int)) (me_int)))) (ma_nil))))))))))) (mss_cons (ms_set (i := 6) sc_Lword.nd rfl (Or.inl rfl) (me_bin r_mod (me_bin r_div (mv 3) (mv 2)) (me_int))) (mss_cons (ms_if (mt_cmp r_lt (mv 6) (me_int) (nomark _)) (mss_one (ms_ret (me_bin r_add (me_item (mv 5) (mv 6)) (me_bin r_mul (me_bin r_mod (mv 3) (me_int)) (me_bin r_div (mv 2) (me_int)))))) (mss_nil)) (mss_one (ms_ret (me_bin r_mod (mv 3) (mv 2)))))))))
theorem sc_Ldue_v11 : FnScope ["_law_wide_here", "_law_text", "_law_parts", "_law_due_here", "_law_sign"] ["_law_wide_here", "_law_text"] (defScope (top 31)) := ⟨rfl, rfl, rfl, by decide +kernel, rfl, by decide +kernel, by decide +kernel⟩
theorem g_Ldue_v11 {f : Addr} {fd : FuncData} (T : Tx K mg cl) (D : DefAt K mg "_law_due" (top 31) f fd) : FG P w K mg base cl 1 "_law_due" 2 q_Ldue_v11 :=
  D.fg (N := ["_law_wide_here", "_law_text", "_law_parts", "_law_due_here", "_law_sign"]) (k := 0) sc_Ldue_v11 rfl (fun _ _ _ _ _ _=>Mi.ln2 fun _ _=>rfl) fun cdv A outer s H E hr =>
    mss_cons (ms_set (i := 2) sc_Ldue_v11.nd rfl (Or.inl rfl) (me_strm gs_split c_split (mv 1) (ma_cons (me_str) (ma_nil)))) (mss_cons (ms_if ((mw_or (mt_cmp (r_ne (hu64 hr)) (me_callB c_len (by rfl) T.b_len PySem.boot_len (ma_cons (mv 2) (ma_nil))) (me_int) (nomark _)) (mw_or1 (mt_cmp (r_ne (hu64 hr)) (mcomp sc_Ldue_v11.nd (by decide +kernel) rfl (mi_seq (mv 2)) (fun _ _ _ _ => MC.nil) (fun _ _ _ _ => me_callB c_len (by rfl) T.b_len PySem.boot_len (ma_cons (mv 5) (ma_nil)))) (me_lst (ma_cons (me_int) (ma_cons (me_item (mv 0) (me_int)) (ma_cons (me_item (mv 0) (me_int)) (ma_nil))))) (nomark _)))).mt) (mss_one (ms_ret (me_non))) (mss_nil)) (mss_cons (ms_set (i := 3) sc_Ldue_v11.nd rfl (Or.inl rfl) (me_int)) (mss_cons (ms_for (i := 4) own_cx rfl sc_Ldue_v11.nd rfl (Or.inl rfl) (mi_str (mv 1)) (mss_cons (ms_if (mt_cmp (r_notIn (hu64 hr)) (mv 4) (me_str) (by with_unfolding_all rfl)) (mss_one (ms_ret (me_non))) (mss_nil)) (mss_one (ms_if (mt_cmp (r_ne (hu64 hr)) (mv 4) (me_str) (nomark _)) (mss_one (ms_set (i := 3) sc_Ldue_v11.nd rfl (Or.inl rfl) (me_bin r_add (me_bin r_add (mv 3) (mv 3)) (me_strm gs_index c_index (me_str) (ma_cons (mv 4) (ma_nil)))))) (mss_nil))))) (mss_one (ms_ret (mv 3))))))
theorem sc_Lspoiled_v4 : FnScope ["_law_text", "_law_cell", "_law_at", "_law_sign", "_law_some"] ["_law_text", "_law_cell"] (defScope (top 32)) := ⟨rfl, rfl, rfl, by decide +kernel, rfl, by decide +kernel, by decide +kernel⟩
theorem g_Lspoiled_v4 {f : Addr} {fd : FuncData} (T : Tx K mg cl) (D : DefAt K mg "_law_spoiled" (top 32) f fd) : FG P w K mg base cl 1 "_law_spoiled" 2 q_Lspoiled_v4 :=
  D.fg (N := ["_law_text", "_law_cell", "_law_at", "_law_sign", "_law_some"]) (k := 0) sc_Lspoiled_v4 rfl (fun _ _ _ _ _ _=>Mi.ln2 fun _ _=>rfl) fun cdv A outer s H E hr =>
    mss_cons (ms_set (i := 2) sc_Lspoiled_v4.nd rfl (Or.inl rfl) (me_bin r_mod (me_bin r_div (mv 1) (me_int)) (me_callB c_len (by rfl) T.b_len PySem.boot_len (ma_cons (mv 0) (ma_nil))))) (mss_cons (ms_set (i := 3) sc_Lspoiled_v4.nd rfl (Or.inl rfl) (me_item (me_lst (ma_cons (me_str) (ma_cons (me_str) (ma_cons (me_str) (ma_cons (me_str) (ma_cons (me_str) (ma_cons (me_str) (ma_cons (me_str) (ma_cons (me_str) (ma_cons (me_str) (ma_cons (me_str) (ma_cons (me_str) (ma_nil))))))))))))) (me_bin r_mod (me_bin r_div (mv 1) (me_int)) (me_int)))) (mss_cons (ms_set (i := 4) sc_Lspoiled_v4.nd rfl (Or.inl rfl) (me_lst (ma_cons (me_bin r_add (me_bin r_add (me_cut (mv 0) (mo_none) (mo_some (mv 2))) (mv 3)) (me_cut (mv 0) (mo_some (mv 2)) (mo_none))) (ma_cons (me_bin r_add (me_cut (mv 0) (mo_none) (mo_some (mv 2))) (me_cut (mv 0) (mo_some (me_bin r_add (mv 2) (me_int))) (mo_none))) (ma_cons (me_bin r_add (me_bin r_add (me_cut (mv 0) (mo_none) (mo_some (mv 2))) (mv 3)) (me_cut (mv 0) (mo_some (me_bin r_add (mv 2) (me_int))) (mo_none))) (ma_nil)))))) (mss_cons (ms_set (i := 4) sc_Lspoiled_v4.nd rfl (Or.inl rfl) (me_bin r_add (mv 4) (me_lst (ma_consT (met_add (me_bin r_add (me_cut (mv 0) (mo_none) (mo_some (mv 2))) (me_str)) (me_cut (mv 0) (mo_some (mv 2)) (mo_none))) (meo_repl1 (i := 0) rfl (by first | exact Or.inl rfl | exact Or.inr (Or.inl rfl) | exact Or.inr (Or.inr rfl)) gs_replace) (ma_cons (me_joinrev rfl (by rfl) T.b_reversed boot_reversed (me_str) (ma_cons (me_strm gs_split c_split (mv 0) (ma_cons (me_str) (ma_nil))) (ma_nil))) (ma_nil)))))) (mss_cons (ms_set (i := 4) sc_Lspoiled_v4.nd rfl (Or.inl rfl) (me_bin r_add (mv 4) (me_lst (ma_cons (me_bin r_add (me_str) (mv 0)) (ma_cons (me_bin r_add (mv 0) (me_str)) (ma_cons (me_cut (mv 0) (mo_none) (mo_some (mv 2))) (ma_nil))))))) (mss_one (ms_ret (me_item (mv 4) (me_bin r_mod (mv 1) (me_int)))))))))
theorem sc_is_within : FnScope ["value", "low", "high"] ["value", "low", "high"] (defScope (top 12)) := ⟨rfl, rfl, rfl, by decide +kernel, rfl, by decide +kernel, by decide +kernel⟩
theorem g_is_within {f : Addr} {fd : FuncData} (T : Tx K mg cl) (D : DefAt K mg "is_within" (top 12) f fd) (g_is_whole : FG P w K mg base cl 1 "is_whole" 1 q_is_whole) : FG P w K mg base cl 2 "is_within" 3 q_is_within :=
  D.fg (N := ["value", "low", "high"]) (k := 1) sc_is_within rfl (fun _ _ _ _ _ _=>Mi.ln3 fun _ _ _=>rfl) fun cdv A outer s H E hr =>
    mss_one (ms_ret (me_and (mc g_is_whole hr T.inj (ma_cons (mv 0) (ma_nil))) (me_one (me_chain r_le r_le (mv 1) (mv 0) (mv 2)))))
theorem sc_width_of : FnScope ["e", "f"] ["e", "f"] (defScope (top 13)) := ⟨rfl, rfl, rfl, by decide +kernel, rfl, by decide +kernel, by decide +kernel⟩
theorem g_width_of {f : Addr} {fd : FuncData} (T : Tx K mg cl) (D : DefAt K mg "width_of" (top 13) f fd) (g_is_within : FG P w K mg base cl 2 "is_within" 3 q_is_within) : FG P w K mg base cl 3 "width_of" 2 q_width_of :=
  D.fg (N := ["e", "f"]) (k := 2) sc_width_of rfl (fun _ _ _ _ _ _=>Mi.ln2 fun _ _=>rfl) fun cdv A outer s H E hr =>
    mss_cons (ms_if (mt_not (mt_val (mc g_is_within hr T.inj (ma_cons (mv 0) (ma_cons (me_globI (by rfl) T.c_LEAST_E) (ma_cons (me_globI (by rfl) T.c_MOST_E) (ma_nil))))))) (mss_one (ms_raise (c := 1) (T.cls.cls 1 "NoWidth" (at_mem 1 rfl)) own_cx (by rfl) hr.hd (mv_join (mvs_cons (mv_str 44) (mvs_cons (mv_fmt (me_globI (by rfl) T.c_LEAST_E)) (mvs_cons (mv_str 4) (mvs_cons (mv_fmt (me_globI (by rfl) T.c_MOST_E)) (mvs_nil)))))))) (mss_nil)) (mss_cons (ms_if (mt_not (mt_val (mc g_is_within hr T.inj (ma_cons (mv 1) (ma_cons (me_globI (by rfl) T.c_LEAST_F) (ma_cons (me_globI (by rfl) T.c_MOST_F) (ma_nil))))))) (mss_one (ms_raise (c := 1) (T.cls.cls 1 "NoWidth" (at_mem 1 rfl)) own_cx (by rfl) hr.hd (mv_join (mvs_cons (mv_str 44) (mvs_cons (mv_fmt (me_globI (by rfl) T.c_LEAST_F)) (mvs_cons (mv_str 4) (mvs_cons (mv_fmt (me_globI (by rfl) T.c_MOST_F)) (mvs_nil)))))))) (mss_nil)) (mss_one (ms_ret (me_tup (ma_cons (mv 0) (ma_cons (mv 1) (ma_nil)))))))
theorem sc_check_part : FnScope ["part", "count"] ["part", "count"] (defScope (top 19)) := ⟨rfl, rfl, rfl, by decide +kernel, rfl, by decide +kernel, by decide +kernel⟩
theorem g_check_part {f : Addr} {fd : FuncData} (T : Tx K mg cl) (D : DefAt K mg "check_part" (top 19) f fd) (g_is_within : FG P w K mg base cl 2 "is_within" 3 q_is_within) (g_all_ones : FG P w K mg base cl 1 "all_ones" 1 q_all_ones) : FG P w K mg base cl 3 "check_part" 2 q_check_part :=
  D.fg (N := ["part", "count"]) (k := 2) sc_check_part rfl (fun _ _ _ _ _ _=>Mi.ln2 fun _ _=>rfl) fun cdv A outer s H E hr =>
    mss_one (ms_if (mt_not (mt_val (mc g_is_within hr T.inj (ma_cons (mv 0) (ma_cons (me_int) (ma_cons (mc g_all_ones hr T.inj (ma_cons (mv 1) (ma_nil))) (ma_nil))))))) (mss_one (ms_raise (c := 2) (T.cls.cls 2 "NoWord" (at_mem 2 rfl)) own_cx (by rfl) hr.hd (mv_join (mvs_cons (mv_str 59) (mvs_cons (mv_fmt (mv 1)) (mvs_cons (mv_str 5) (mvs_nil))))))) (mss_nil))
theorem sc_check_width : FnScope ["width"] ["width"] (defScope (top 14)) := ⟨rfl, rfl, rfl, by decide +kernel, rfl, by decide +kernel, by decide +kernel⟩
theorem g_check_width {f : Addr} {fd : FuncData} (T : Tx K mg cl) (D : DefAt K mg "check_width" (top 14) f fd) (g_width_of : FG P w K mg base cl 3 "width_of" 2 q_width_of) : FG P w K mg base cl 4 "check_width" 1 q_check_width :=
  D.fg (N := ["width"]) (k := 3) sc_check_width rfl (fun _ _ _ _ _ _=>Mi.ln1 fun _=>rfl) fun cdv A outer s H E hr =>
    mss_cons (ms_if ((mw_or (mt_not (mt_val (me_isinst .tuple (mv 0) (by rfl) T.b_isinstance (by rfl) T.b_tuple))) (mw_or1 (mt_cmp (r_ne (hu64 hr)) (me_callB c_len (by rfl) T.b_len PySem.boot_len (ma_cons (mv 0) (ma_nil))) (me_int) (nomark _)))).mt) (mss_one (ms_raise (c := 1) (T.cls.cls 1 "NoWidth" (at_mem 1 rfl)) own_cx (by rfl) hr.hd (mv_str 39))) (mss_nil)) (mss_one (ms_expr (mc g_width_of hr T.inj (ma_cons (me_item (mv 0) (me_int)) (ma_cons (me_item (mv 0) (me_int)) (ma_nil))))))
theorem sc_many_words : FnScope ["width"] ["width"] (defScope (top 15)) := ⟨rfl, rfl, rfl, by decide +kernel, rfl, by decide +kernel, by decide +kernel⟩
theorem g_many_words {f : Addr} {fd : FuncData} (T : Tx K mg cl) (D : DefAt K mg "many_words" (top 15) f fd) (g_check_width : FG P w K mg base cl 4 "check_width" 1 q_check_width) : FG P w K mg base cl 5 "many_words" 1 q_many_words :=
  D.fg (N := ["width"]) (k := 4) sc_many_words rfl (fun _ _ _ _ _ _=>Mi.ln1 fun _=>rfl) fun cdv A outer s H E hr =>
    mss_cons (ms_expr (mc g_check_width hr T.inj (ma_cons (mv 0) (ma_nil)))) (mss_one (ms_ret (me_bin r_shl (me_int) (me_bin r_add (me_bin r_add (me_int) (me_item (mv 0) (me_int))) (me_item (mv 0) (me_int))))))
theorem sc_joined : FnScope ["width", "sign", "exponent", "fraction"] ["width", "sign", "exponent", "fraction"] (defScope (top 21)) := ⟨rfl, rfl, rfl, by decide +kernel, rfl, by decide +kernel, by decide +kernel⟩
theorem g_joined {f : Addr} {fd : FuncData} (T : Tx K mg cl) (D : DefAt K mg "joined" (top 21) f fd) (g_check_width : FG P w K mg base cl 4 "check_width" 1 q_check_width) (g_check_part : FG P w K mg base cl 3 "check_part" 2 q_check_part) : FG P w K mg base cl 5 "joined" 4 q_joined :=
  D.fg (N := ["width", "sign", "exponent", "fraction"]) (k := 4) sc_joined rfl (fun _ _ _ _ _ _=>Mi.ln4 fun _ _ _ _=>rfl) fun cdv A outer s H E hr =>
    mss_cons (ms_expr (mc g_check_width hr T.inj (ma_cons (mv 0) (ma_nil)))) (mss_cons (ms_expr (mc g_check_part hr T.inj (ma_cons (mv 1) (ma_cons (me_int) (ma_nil))))) (mss_cons (ms_expr (mc g_check_part hr T.inj (ma_cons (mv 2) (ma_cons (me_item (mv 0) (me_int)) (ma_nil))))) (mss_cons (ms_expr (mc g_check_part hr T.inj (ma_cons (mv 3) (ma_cons (me_item (mv 0) (me_int)) (ma_nil))))) (mss_one (ms_ret (me_bin r_add (me_bin r_add (me_bin r_shl (mv 1) (me_bin r_add (me_item (mv 0) (me_int)) (me_item (mv 0) (me_int)))) (me_bin r_shl (mv 2) (me_item (mv 0) (me_int)))) (mv 3)))))))
theorem sc_check_word : FnScope ["width", "word"] ["width", "word"] (defScope (top 18)) := ⟨rfl, rfl, rfl, by decide +kernel, rfl, by decide +kernel, by decide +kernel⟩
theorem g_check_word {f : Addr} {fd : FuncData} (T : Tx K mg cl) (D : DefAt K mg "check_word" (top 18) f fd) (g_is_within : FG P w K mg base cl 2 "is_within" 3 q_is_within) (g_many_words : FG P w K mg base cl 5 "many_words" 1 q_many_words) : FG P w K mg base cl 6 "check_word" 2 q_check_word :=
  D.fg (N := ["width", "word"]) (k := 5) sc_check_word rfl (fun _ _ _ _ _ _=>Mi.ln2 fun _ _=>rfl) fun cdv A outer s H E hr =>
    mss_one (ms_if (mt_not (mt_val (mc g_is_within hr T.inj (ma_cons (mv 1) (ma_cons (me_int) (ma_cons (me_bin r_sub (mc g_many_words hr T.inj (ma_cons (mv 0) (ma_nil))) (me_int)) (ma_nil))))))) (mss_one (ms_raise (c := 2) (T.cls.cls 2 "NoWord" (at_mem 2 rfl)) own_cx (by rfl) hr.hd (mv_str 71))) (mss_nil))
theorem sc_word_of_v3 : FnScope ["width", "text", "parts"] ["width", "text"] (defScope (top 24)) := ⟨rfl, rfl, rfl, by decide +kernel, rfl, by decide +kernel, by decide +kernel⟩
theorem g_word_of_v3 {f : Addr} {fd : FuncData} (T : Tx K mg cl) (D : DefAt K mg "word_of" (top 24) f fd) (g_check_width : FG P w K mg base cl 4 "check_width" 1 q_check_width) (g_joined : FG P w K mg base cl 5 "joined" 4 q_joined) (g_bits_read_v2 : FG P w K mg base cl 1 "bits_read" 1 q_bits_read_v2) : FG P w K mg base cl 6 "word_of" 2 q_word_of_v3 :=
  D.fg (N := ["width", "text", "parts"]) (k := 5) sc_word_of_v3 rfl (fun _ _ _ _ _ _=>Mi.ln2 fun _ _=>rfl) fun cdv A outer s H E hr =>
    mss_cons (ms_expr (mc g_check_width hr T.inj (ma_cons (mv 0) (ma_nil)))) (mss_cons (ms_if (mt_not (mt_val (me_isinst .str (mv 1) (by rfl) T.b_isinstance (by rfl) T.b_str))) (mss_one (ms_raise (c := 6) (T.cls.cls 6 "NoText" (at_mem 4 rfl)) own_cx (by rfl) hr.hd (mv_str 37))) (mss_nil)) (mss_cons (ms_set (i := 2) sc_word_of_v3.nd rfl (Or.inl rfl) (me_strm gs_split c_split (mv 1) (ma_cons (me_str) (ma_nil)))) (mss_cons (ms_if (mt_cmp (r_ne (hu64 hr)) (mcomp sc_word_of_v3.nd (by decide +kernel) rfl (mi_seq (mv 2)) (fun _ _ _ _ => MC.nil) (fun _ _ _ _ => me_callB c_len (by rfl) T.b_len PySem.boot_len (ma_cons (mv 3) (ma_nil)))) (me_lst (ma_cons (me_int) (ma_cons (me_item (mv 0) (me_int)) (ma_cons (me_item (mv 0) (me_int)) (ma_nil))))) (nomark _)) (mss_one (ms_raise (c := 6) (T.cls.cls 6 "NoText" (at_mem 4 rfl)) own_cx (by rfl) hr.hd (mv_str 83))) (mss_nil)) (mss_one (ms_ret (mc g_joined hr T.inj (ma_cons (mv 0) (ma_cons (mc g_bits_read_v2 hr T.inj (ma_cons (me_item (mv 2) (me_int)) (ma_nil))) (ma_cons (mc g_bits_read_v2 hr T.inj (ma_cons (me_item (mv 2) (me_int)) (ma_nil))) (ma_cons (mc g_bits_read_v2 hr T.inj (ma_cons (me_item (mv 2) (me_int)) (ma_nil))) (ma_nil)))))))))))
theorem sc_cut : FnScope ["width", "word", "sign", "exponent", "fraction"] ["width", "word"] (defScope (top 20)) := ⟨rfl, rfl, rfl, by decide +kernel, rfl, by decide +kernel, by decide +kernel⟩
theorem g_cut {f : Addr} {fd : FuncData} (T : Tx K mg cl) (D : DefAt K mg "cut" (top 20) f fd) (g_check_word : FG P w K mg base cl 6 "check_word" 2 q_check_word) (g_all_ones : FG P w K mg base cl 1 "all_ones" 1 q_all_ones) : FG P w K mg base cl 7 "cut" 2 q_cut :=
  D.fg (N := ["width", "word", "sign", "exponent", "fraction"]) (k := 6) sc_cut rfl (fun _ _ _ _ _ _=>Mi.ln2 fun _ _=>rfl) fun cdv A outer s H E hr =>
    mss_cons (ms_expr (mc g_check_word hr T.inj (ma_cons (mv 0) (ma_cons (mv 1) (ma_nil))))) (mss_cons (ms_set (i := 2) sc_cut.nd rfl (Or.inl rfl) (me_bin r_shr (mv 1) (me_bin r_add (me_item (mv 0) (me_int)) (me_item (mv 0) (me_int))))) (mss_cons (ms_set (i := 3) sc_cut.nd rfl (Or.inl rfl) (me_bin r_and (me_bin r_shr (mv 1) (me_item (mv 0) (me_int))) (mc g_all_ones hr T.inj (ma_cons (me_item (mv 0) (me_int)) (ma_nil))))) (mss_cons (ms_set (i := 4) sc_cut.nd rfl (Or.inl rfl) (me_bin r_and (mv 1) (mc g_all_ones hr T.inj (ma_cons (me_item (mv 0) (me_int)) (ma_nil))))) (mss_one (ms_ret (me_tup (ma_cons (mv 2) (ma_cons (mv 3) (ma_cons (mv 4) (ma_nil))))))))))
theorem sc_Lrefused_v20 : FnScope ["_law_width", "_law_text", "_law_found", "error"] ["_law_width", "_law_text"] (defScope (top 33)) := ⟨rfl, rfl, rfl, by decide +kernel, rfl, by decide +kernel, by decide +kernel⟩
theorem g_Lrefused_v20 {f : Addr} {fd : FuncData} (T : Tx K mg cl) (D : DefAt K mg "_law_refused" (top 33) f fd) (g_word_of_v3 : FG P w K mg base cl 6 "word_of" 2 q_word_of_v3) : FG P w K mg base cl 7 "_law_refused" 2 q_Lrefused_v20 :=
  D.fg (N := ["_law_width", "_law_text", "_law_found", "error"]) (k := 6) sc_Lrefused_v20 rfl (fun _ _ _ _ _ _=>Mi.ln2 fun _ _=>rfl) fun cdv A outer s H E hr =>
    mss_cons (ms_set (i := 2) sc_Lrefused_v20.nd rfl (Or.inl rfl) (me_non)) (mss_cons (ms_try (names := names) (d := 0) (n := 3) (x := 2) T.cls own_cx (at_mem 0 rfl) (mss_one (ms_expr (mc g_word_of_v3 hr T.inj (ma_cons (mv 0) (ma_cons (mv 1) (ma_nil)))))) sc_Lrefused_v20.nd rfl rfl rfl (Or.inl rfl) (by rfl) (by decide)) (mss_cons (ms_if ((mw_or (mt_val (me_isexc (names := names) (d := 2) T.cls (at_mem 2 rfl) (mv 2) (by rfl) T.b_isinstance (by rfl))) (mw_or1 (mt_val (me_isexc (names := names) (d := 4) T.cls (at_mem 3 rfl) (mv 2) (by rfl) T.b_isinstance (by rfl))))).mt) (mss_one (ms_ret (me_bl))) (mss_nil)) (mss_one (ms_ret (me_and (me_isexc (names := names) (d := 6) T.cls (at_mem 4 rfl) (mv 2) (by rfl) T.b_isinstance (by rfl)) (me_one (me_isval (names := names) T.cls (mv 2) (by rfl) T.b_isinstance (by rfl) T.b_ValueError)))))))
theorem sc_Lread_v3 : FnScope ["_law_width", "_law_text", "_law_due_here", "_law_found"] ["_law_width", "_law_text", "_law_due_here"] (defScope (top 34)) := ⟨rfl, rfl, rfl, by decide +kernel, rfl, by decide +kernel, by decide +kernel⟩
theorem g_Lread_v3 {f : Addr} {fd : FuncData} (T : Tx K mg cl) (D : DefAt K mg "_law_read" (top 34) f fd) (g_word_of_v3 : FG P w K mg base cl 6 "word_of" 2 q_word_of_v3) (g_Lwhole : FG P w K mg base cl 1 "_law_whole" 1 q_Lwhole) : FG P w K mg base cl 7 "_law_read" 3 q_Lread_v3 :=
  D.fg (N := ["_law_width", "_law_text", "_law_due_here", "_law_found"]) (k := 6) sc_Lread_v3 rfl (fun _ _ _ _ _ _=>Mi.ln3 fun _ _ _=>rfl) fun cdv A outer s H E hr =>
    mss_cons (ms_set (i := 3) sc_Lread_v3.nd rfl (Or.inl rfl) (mc g_word_of_v3 hr T.inj (ma_cons (mv 0) (ma_cons (mv 1) (ma_nil))))) (mss_one (ms_ret (me_and (mc g_Lwhole hr T.inj (ma_cons (mv 3) (ma_nil))) (me_one (me_cmp (r_eq (hu64 hr)) (mv 3) (mv 2) (nomark _))))))
theorem sc_bits_of_v2 : FnScope ["width", "word", "parts"] ["width", "word"] (defScope (top 22)) := ⟨rfl, rfl, rfl, by decide +kernel, rfl, by decide +kernel, by decide +kernel⟩
theorem g_bits_of_v2 {f : Addr} {fd : FuncData} (T : Tx K mg cl) (D : DefAt K mg "bits_of" (top 22) f fd) (g_cut : FG P w K mg base cl 7 "cut" 2 q_cut) (g_bits_told_v2 : FG P w K mg base cl 1 "bits_told" 2 q_bits_told_v2) : FG P w K mg base cl 8 "bits_of" 2 q_bits_of_v2 :=
  D.fg (N := ["width", "word", "parts"]) (k := 7) sc_bits_of_v2 rfl (fun _ _ _ _ _ _=>Mi.ln2 fun _ _=>rfl) fun cdv A outer s H E hr =>
    mss_cons (ms_set (i := 2) sc_bits_of_v2.nd rfl (Or.inl rfl) (mc g_cut hr T.inj (ma_cons (mv 0) (ma_cons (mv 1) (ma_nil))))) (mss_one (ms_ret (me_strm gs_join c_join (me_str) (ma_cons (me_lst (ma_cons (mc g_bits_told_v2 hr T.inj (ma_cons (me_item (mv 2) (me_int)) (ma_cons (me_int) (ma_nil)))) (ma_cons (mc g_bits_told_v2 hr T.inj (ma_cons (me_item (mv 2) (me_int)) (ma_cons (me_item (mv 0) (me_int)) (ma_nil)))) (ma_cons (mc g_bits_told_v2 hr T.inj (ma_cons (me_item (mv 2) (me_int)) (ma_cons (me_item (mv 0) (me_int)) (ma_nil)))) (ma_nil))))) (ma_nil)))))
theorem sc_law_v89 : FnScope ["_law_script", "_law_wide_here", "_law_width", "_law_odd", "_law_cell", "_law_word_here", "_law_text", "_law_spoiled_here", "_law_due_here"] ["_law_script"] (defScope (top 35)) := ⟨rfl, rfl, rfl, by decide +kernel, rfl, by decide +kernel, by decide +kernel⟩
theorem o_law {f : Addr} {fd : FuncData} (T : Tx K mg cl) (D : DefAt K mg "law" (top 35) f fd) (g_Lwide : FG P w K mg base cl 1 "_law_wide" 1 q_Lwide) (g_width_of : FG P w K mg base cl 3 "width_of" 2 q_width_of) (g_Lrefused_v20 : FG P w K mg base cl 7 "_law_refused" 2 q_Lrefused_v20) (g_Lcell_at : FG P w K mg base cl 1 "_law_cell_at" 2 q_Lcell_at) (g_Lword : FG P w K mg base cl 1 "_law_word" 2 q_Lword) (g_bits_of_v2 : FG P w K mg base cl 8 "bits_of" 2 q_bits_of_v2) (g_Lspoiled_v4 : FG P w K mg base cl 1 "_law_spoiled" 2 q_Lspoiled_v4) (g_Ldue_v11 : FG P w K mg base cl 1 "_law_due" 2 q_Ldue_v11) (g_Lread_v3 : FG P w K mg base cl 7 "_law_read" 3 q_Lread_v3) : FnOk P w K mg base (CXm cl P w) 9 f fd ["_law_script"] (spF K cl 1 q_law_v89) :=
  fn_mirror (N := ["_law_script", "_law_wide_here", "_law_width", "_law_odd", "_law_cell", "_law_word_here", "_law_text", "_law_spoiled_here", "_law_due_here"]) (k := 8) D.fn sc_law_v89 rfl fun cdv A outer s H E hr =>
    mss_cons (ms_set (i := 1) sc_law_v89.nd rfl (Or.inl rfl) (mc g_Lwide hr T.inj (ma_cons (mc g_Lcell_at hr T.inj (ma_cons (mv 0) (ma_cons (me_int) (ma_nil)))) (ma_nil)))) (mss_cons (ms_set (i := 2) sc_law_v89.nd rfl (Or.inl rfl) (mc g_width_of hr T.inj (ma_cons (me_item (mv 1) (me_int)) (ma_cons (me_item (mv 1) (me_int)) (ma_nil))))) (mss_cons (ms_set (i := 3) sc_law_v89.nd rfl (Or.inl rfl) (me_item (me_lst (ma_cons (me_non) (ma_cons (me_bl) (ma_cons (me_int) (ma_cons (me_int) (ma_cons (me_lst (ma_cons (me_str) (ma_cons (me_str) (ma_nil)))) (ma_cons (me_tup (ma_cons (me_str) (ma_nil))) (ma_cons (me_dic0) (ma_nil))))))))) (me_bin r_mod (mc g_Lcell_at hr T.inj (ma_cons (mv 0) (ma_cons (me_int) (ma_nil)))) (me_int)))) (mss_cons (ms_for (i := 4) own_cx rfl sc_law_v89.nd rfl (Or.inl rfl) (mi_seq (me_cut (mv 0) (mo_some (me_int)) (mo_some (me_int)))) (mss_cons (ms_set (i := 5) sc_law_v89.nd rfl (Or.inl rfl) (mc g_Lword hr T.inj (ma_cons (mv 1) (ma_cons (mv 4) (ma_nil))))) (mss_cons (ms_set (i := 6) sc_law_v89.nd rfl (Or.inl rfl) (mc g_bits_of_v2 hr T.inj (ma_cons (mv 2) (ma_cons (mv 5) (ma_nil))))) (mss_cons (ms_if ((mw_or (mt_not (mt_val (me_isinst .str (mv 6) (by rfl) T.b_isinstance (by rfl) T.b_str))) (mw_or (mt_cmp (r_ne (hu64 hr)) (mc g_Ldue_v11 hr T.inj (ma_cons (mv 1) (ma_cons (mv 6) (ma_nil)))) (mv 5) (nomark _)) (mw_or1 (mt_not (mt_val (mc g_Lread_v3 hr T.inj (ma_cons (mv 2) (ma_cons (mv 6) (ma_cons (mv 5) (ma_nil)))))))))).mt) (mss_one (ms_ret (me_bl))) (mss_nil)) (mss_cons (ms_set (i := 7) sc_law_v89.nd rfl (Or.inl rfl) (mc g_Lspoiled_v4 hr T.inj (ma_cons (mv 6) (ma_cons (me_bin r_mod (mv 4) (me_bin r_pow (me_int) (me_int))) (ma_nil))))) (mss_cons (ms_set (i := 8) sc_law_v89.nd rfl (Or.inl rfl) (mc g_Ldue_v11 hr T.inj (ma_cons (mv 1) (ma_cons (mv 7) (ma_nil))))) (mss_cons (ms_if ((mw_and (t_isN (mv 8)) (mw_and1 (mt_not (mt_val (mc g_Lrefused_v20 hr T.inj (ma_cons (mv 2) (ma_cons (mv 7) (ma_nil)))))))).mt) (mss_one (ms_ret (me_bl))) (mss_nil)) (mss_cons (ms_if ((mw_and (t_notN (mv 8)) (mw_and1 (mt_not (mt_val (mc g_Lread_v3 hr T.inj (ma_cons (mv 2) (ma_cons (mv 7) (ma_cons (mv 8) (ma_nil))))))))).mt) (mss_one (ms_ret (me_bl))) (mss_nil)) (mss_one (ms_if (mt_not (mt_val (mc g_Lread_v3 hr T.inj (ma_cons (mv 2) (ma_cons (mv 6) (ma_cons (mv 5) (ma_nil))))))) (mss_one (ms_ret (me_bl))) (mss_nil))))))))))) (mss_one (ms_ret (mc g_Lrefused_v20 hr T.inj (ma_cons (mv 2) (ma_cons (mv 3) (ma_nil)))))))))
end
theorem all {P : Program} {w : World} {K : PySem.W.Frag} {mg : Str → Option Value} {cl : Nat → Addr} {fa : Addr} (hfa : mg "law" = some (.ref fa)) (T : Tx K mg cl)
    {f11 : Addr} {fd11 : FuncData} (D11 : DefAt K mg "is_whole" (top 11) f11 fd11)
    {f17 : Addr} {fd17 : FuncData} (D17 : DefAt K mg "all_ones" (top 17) f17 fd17)
    {f23 : Addr} {fd23 : FuncData} (D23 : DefAt K mg "bits_told" (top 23) f23 fd23)
    {f25 : Addr} {fd25 : FuncData} (D25 : DefAt K mg "bits_read" (top 25) f25 fd25)
    {f27 : Addr} {fd27 : FuncData} (D27 : DefAt K mg "_law_cell_at" (top 27) f27 fd27)
    {f28 : Addr} {fd28 : FuncData} (D28 : DefAt K mg "_law_whole" (top 28) f28 fd28)
    {f29 : Addr} {fd29 : FuncData} (D29 : DefAt K mg "_law_wide" (top 29) f29 fd29)
    {f30 : Addr} {fd30 : FuncData} (D30 : DefAt K mg "_law_word" (top 30) f30 fd30)
    {f31 : Addr} {fd31 : FuncData} (D31 : DefAt K mg "_law_due" (top 31) f31 fd31)
    {f32 : Addr} {fd32 : FuncData} (D32 : DefAt K mg "_law_spoiled" (top 32) f32 fd32)
    {f12 : Addr} {fd12 : FuncData} (D12 : DefAt K mg "is_within" (top 12) f12 fd12)
    {f13 : Addr} {fd13 : FuncData} (D13 : DefAt K mg "width_of" (top 13) f13 fd13)
    {f19 : Addr} {fd19 : FuncData} (D19 : DefAt K mg "check_part" (top 19) f19 fd19)
    {f14 : Addr} {fd14 : FuncData} (D14 : DefAt K mg "check_width" (top 14) f14 fd14)
    {f15 : Addr} {fd15 : FuncData} (D15 : DefAt K mg "many_words" (top 15) f15 fd15)
    {f21 : Addr} {fd21 : FuncData} (D21 : DefAt K mg "joined" (top 21) f21 fd21)
    {f18 : Addr} {fd18 : FuncData} (D18 : DefAt K mg "check_word" (top 18) f18 fd18)
    {f24 : Addr} {fd24 : FuncData} (D24 : DefAt K mg "word_of" (top 24) f24 fd24)
    {f20 : Addr} {fd20 : FuncData} (D20 : DefAt K mg "cut" (top 20) f20 fd20)
    {f33 : Addr} {fd33 : FuncData} (D33 : DefAt K mg "_law_refused" (top 33) f33 fd33)
    {f34 : Addr} {fd34 : FuncData} (D34 : DefAt K mg "_law_read" (top 34) f34 fd34)
    {f22 : Addr} {fd22 : FuncData} (D22 : DefAt K mg "bits_of" (top 22) f22 fd22)
    {f35 : Addr} {fd35 : FuncData} (D35 : DefAt K mg "law" (top 35) f35 fd35) :
    ∃ fd : FuncData, (∀ (s : Shared) (u : Value), BindsTo s fd ⟨[u], []⟩ [("_law_script", u)]) ∧ ∀ base : Heap, K.In base → base.Ns mainGlobals mg → FnOk P w K mg base (CXm cl P w) 9 fa fd ["_law_script"] (spF K cl 1 q_law_v89) := by
  have e := hfa.symm.trans D35.mg
  cases e
  refine ⟨fd35, ?_, fun base KXb _ => ?_⟩
  · obtain ⟨oc, od, kV, doc, pm, an, cdv, ct, osl, rfl, lk, hcd⟩ := D35.fn.ex
    exact fun s v => .of_eq rfl
  ·
    have g_is_whole : FG P w K mg base cl 1 "is_whole" 1 q_is_whole := g_is_whole T D11
    have g_all_ones : FG P w K mg base cl 1 "all_ones" 1 q_all_ones := g_all_ones T D17
    have g_bits_told_v2 : FG P w K mg base cl 1 "bits_told" 2 q_bits_told_v2 := g_bits_told_v2 T D23
    have g_bits_read_v2 : FG P w K mg base cl 1 "bits_read" 1 q_bits_read_v2 := g_bits_read_v2 T D25
    have g_Lcell_at : FG P w K mg base cl 1 "_law_cell_at" 2 q_Lcell_at := g_Lcell_at T D27
    have g_Lwhole : FG P w K mg base cl 1 "_law_whole" 1 q_Lwhole := g_Lwhole T D28
    have g_Lwide : FG P w K mg base cl 1 "_law_wide" 1 q_Lwide := g_Lwide T D29
    have g_Lword : FG P w K mg base cl 1 "_law_word" 2 q_Lword := g_Lword T D30
    have g_Ldue_v11 : FG P w K mg base cl 1 "_law_due" 2 q_Ldue_v11 := g_Ldue_v11 T D31
    have g_Lspoiled_v4 : FG P w K mg base cl 1 "_law_spoiled" 2 q_Lspoiled_v4 := g_Lspoiled_v4 T D32
    have g_is_within : FG P w K mg base cl 2 "is_within" 3 q_is_within := g_is_within T D12 g_is_whole
    have g_width_of : FG P w K mg base cl 3 "width_of" 2 q_width_of := g_width_of T D13 g_is_within
    have g_check_part : FG P w K mg base cl 3 "check_part" 2 q_check_part := g_check_part T D19 g_is_within g_all_ones
    have g_check_width : FG P w K mg base cl 4 "check_width" 1 q_check_width := g_check_width T D14 g_width_of
    have g_many_words : FG P w K mg base cl 5 "many_words" 1 q_many_words := g_many_words T D15 g_check_width
    have g_joined : FG P w K mg base cl 5 "joined" 4 q_joined := g_joined T D21 g_check_width g_check_part
    have g_check_word : FG P w K mg base cl 6 "check_word" 2 q_check_word := g_check_word T D18 g_is_within g_many_words
    have g_word_of_v3 : FG P w K mg base cl 6 "word_of" 2 q_word_of_v3 := g_word_of_v3 T D24 g_check_width g_joined g_bits_read_v2
    have g_cut : FG P w K mg base cl 7 "cut" 2 q_cut := g_cut T D20 g_check_word g_all_ones
    have g_Lrefused_v20 : FG P w K mg base cl 7 "_law_refused" 2 q_Lrefused_v20 := g_Lrefused_v20 T D33 g_word_of_v3
    have g_Lread_v3 : FG P w K mg base cl 7 "_law_read" 3 q_Lread_v3 := g_Lread_v3 T D34 g_word_of_v3 g_Lwhole
    have g_bits_of_v2 : FG P w K mg base cl 8 "bits_of" 2 q_bits_of_v2 := g_bits_of_v2 T D22 g_cut g_bits_told_v2
    exact o_law T D35 g_Lwide g_width_of g_Lrefused_v20 g_Lcell_at g_Lword g_bits_of_v2 g_Lspoiled_v4 g_Ldue_v11 g_Lread_v3
theorem fin {P : Program} {w : World} {K : PySem.W.Frag} {mg : Str → Option Value} {fa : Addr} {h : Heap} (X : K.In h) (G : h.Ns mainGlobals mg) (hfa : mg "law" = some (.ref fa)) (hcls : clsOk2 K anames names = true) (hways : waysOk K wnames = true) (z_ValueError : PySem.W.nsIn K mainGlobals "ValueError" = some none) (z_bool : PySem.W.nsIn K mainGlobals "bool" = some none) (z_int : PySem.W.nsIn K mainGlobals "int" = some none) (z_isinstance : PySem.W.nsIn K mainGlobals "isinstance" = some none) (z_len : PySem.W.nsIn K mainGlobals "len" = some none) (z_range : PySem.W.nsIn K mainGlobals "range" = some none) (z_reversed : PySem.W.nsIn K mainGlobals "reversed" = some none) (z_str : PySem.W.nsIn K mainGlobals "str" = some none) (z_tuple : PySem.W.nsIn K mainGlobals "tuple" = some none) {t_LEAST_E : Tok} (y_LEAST_E : PySem.W.nsIn K mainGlobals "LEAST_E" = some (some (.int 2 t_LEAST_E))) {t_MOST_E : Tok} (y_MOST_E : PySem.W.nsIn K mainGlobals "MOST_E" = some (some (.int 11 t_MOST_E))) {t_LEAST_F : Tok} (y_LEAST_F : PySem.W.nsIn K mainGlobals "LEAST_F" = some (some (.int 1 t_LEAST_F))) {t_MOST_F : Tok} (y_MOST_F : PySem.W.nsIn K mainGlobals "MOST_F" = some (some (.int 60 t_MOST_F)))
    (E11 : ∃ f fd, DefAt K mg "is_whole" (top 11) f fd)
    (E17 : ∃ f fd, DefAt K mg "all_ones" (top 17) f fd)
    (E23 : ∃ f fd, DefAt K mg "bits_told" (top 23) f fd)
    (E25 : ∃ f fd, DefAt K mg "bits_read" (top 25) f fd)
    (E27 : ∃ f fd, DefAt K mg "_law_cell_at" (top 27) f fd)
    (E28 : ∃ f fd, DefAt K mg "_law_whole" (top 28) f fd)
    (E29 : ∃ f fd, DefAt K mg "_law_wide" (top 29) f fd)
    (E30 : ∃ f fd, DefAt K mg "_law_word" (top 30) f fd)
    (E31 : ∃ f fd, DefAt K mg "_law_due" (top 31) f fd)
    (E32 : ∃ f fd, DefAt K mg "_law_spoiled" (top 32) f fd)
    (E12 : ∃ f fd, DefAt K mg "is_within" (top 12) f fd)
    (E13 : ∃ f fd, DefAt K mg "width_of" (top 13) f fd)
    (E19 : ∃ f fd, DefAt K mg "check_part" (top 19) f fd)
    (E14 : ∃ f fd, DefAt K mg "check_width" (top 14) f fd)
    (E15 : ∃ f fd, DefAt K mg "many_words" (top 15) f fd)
    (E21 : ∃ f fd, DefAt K mg "joined" (top 21) f fd)
    (E18 : ∃ f fd, DefAt K mg "check_word" (top 18) f fd)
    (E24 : ∃ f fd, DefAt K mg "word_of" (top 24) f fd)
    (E20 : ∃ f fd, DefAt K mg "cut" (top 20) f fd)
    (E33 : ∃ f fd, DefAt K mg "_law_refused" (top 33) f fd)
    (E34 : ∃ f fd, DefAt K mg "_law_read" (top 34) f fd)
    (E22 : ∃ f fd, DefAt K mg "bits_of" (top 22) f fd)
    (E35 : ∃ f fd, DefAt K mg "law" (top 35) f fd) :
    ∃ fd : FuncData, (∀ (s : Shared) (u : Value), BindsTo s fd ⟨[u], []⟩ [("_law_script", u)]) ∧ ∀ base : Heap, K.In base → base.Ns mainGlobals mg → FnOk P w K mg base (CXm (clOf K anames) P w) 9 fa fd ["_law_script"] (spF K (clOf K anames) 1 q_law_v89) := by
  obtain ⟨f11, fd11, D11⟩ := E11
  obtain ⟨f17, fd17, D17⟩ := E17
  obtain ⟨f23, fd23, D23⟩ := E23
  obtain ⟨f25, fd25, D25⟩ := E25
  obtain ⟨f27, fd27, D27⟩ := E27
  obtain ⟨f28, fd28, D28⟩ := E28
  obtain ⟨f29, fd29, D29⟩ := E29
  obtain ⟨f30, fd30, D30⟩ := E30
  obtain ⟨f31, fd31, D31⟩ := E31
  obtain ⟨f32, fd32, D32⟩ := E32
  obtain ⟨f12, fd12, D12⟩ := E12
  obtain ⟨f13, fd13, D13⟩ := E13
  obtain ⟨f19, fd19, D19⟩ := E19
  obtain ⟨f14, fd14, D14⟩ := E14
  obtain ⟨f15, fd15, D15⟩ := E15
  obtain ⟨f21, fd21, D21⟩ := E21
  obtain ⟨f18, fd18, D18⟩ := E18
  obtain ⟨f24, fd24, D24⟩ := E24
  obtain ⟨f20, fd20, D20⟩ := E20
  obtain ⟨f33, fd33, D33⟩ := E33
  obtain ⟨f34, fd34, D34⟩ := E34
  obtain ⟨f22, fd22, D22⟩ := E22
  obtain ⟨f35, fd35, D35⟩ := E35
  exact all hfa ⟨cls_inj2 hcls, cls_of2 X G (by decide) (fun p h => List.mem_append_left _ h) hcls, ways_of X G (by decide) (fun p h => List.mem_append_right _ h) hways, PySem.W.mg_none_of X G z_ValueError, PySem.W.mg_none_of X G z_bool, PySem.W.mg_none_of X G z_int, PySem.W.mg_none_of X G z_isinstance, PySem.W.mg_none_of X G z_len, PySem.W.mg_none_of X G z_range, PySem.W.mg_none_of X G z_reversed, PySem.W.mg_none_of X G z_str, PySem.W.mg_none_of X G z_tuple, ⟨_, PySem.W.mg_of X G y_LEAST_E⟩, ⟨_, PySem.W.mg_of X G y_MOST_E⟩, ⟨_, PySem.W.mg_of X G y_LEAST_F⟩, ⟨_, PySem.W.mg_of X G y_MOST_F⟩⟩ D11 D17 D23 D25 D27 D28 D29 D30 D31 D32 D12 D13 D19 D14 D15 D21 D18 D24 D20 D33 D34 D22 D35
end K05
open PySem PySem.W PyProof.Rows
set_option maxRecDepth 100000 in
set_option maxHeartbeats 0 in
theorem PySem.Challenge.cw_floatforge_k05_bits_holds : PySem.Challenge.rw_floatforge_k05_bits.Holds := by
  w_on; o_law; k_head; (case hw => w_witness2)
  k_fill
  refine Mi.law_of (l := PySem.Challenge.rw_floatforge_k05_bits) (k := 9) (x := "_law_script") (F := Cm.q_law_v89) (names := K05.anames) rfl rfl ⟨rfl, by decide, by decide⟩ (fun w h Y => PySem.W.kIn_of Y) ?F K05.holds
  case F =>
    intro w mg fa h KX G hmg
    refine' K05.fin KX G hmg ?hcls ?hways ?z_ValueError ?z_bool ?z_int ?z_isinstance ?z_len ?z_range ?z_reversed ?z_str ?z_tuple ?y_LEAST_E ?y_MOST_E ?y_LEAST_F ?y_MOST_F ?E11 ?E17 ?E23 ?E25 ?E27 ?E28 ?E29 ?E30 ?E31 ?E32 ?E12 ?E13 ?E19 ?E14 ?E15 ?E21 ?E18 ?E24 ?E20 ?E33 ?E34 ?E22 ?E35
    (case hcls => kernel_rfl)
    (case hways => kernel_rfl)
    (case z_ValueError => k_is)
    (case z_bool => k_is)
    (case z_int => k_is)
    (case z_isinstance => k_is)
    (case z_len => k_is)
    (case z_range => k_is)
    (case z_reversed => k_is)
    (case z_str => k_is)
    (case z_tuple => k_is)
    (case y_LEAST_E => k_is)
    (case y_MOST_E => k_is)
    (case y_LEAST_F => k_is)
    (case y_MOST_F => k_is)
    (case E11 => refine' Mi.def_mk KX G ?a ?l ?c ?k; (case a => k_is); (case l => k_is); (case c => k_is); (case k => k_is))
    (case E17 => refine' Mi.def_mk KX G ?a ?l ?c ?k; (case a => k_is); (case l => k_is); (case c => k_is); (case k => k_is))
    (case E23 => refine' Mi.def_mk KX G ?a ?l ?c ?k; (case a => k_is); (case l => k_is); (case c => k_is); (case k => k_is))
    (case E25 => refine' Mi.def_mk KX G ?a ?l ?c ?k; (case a => k_is); (case l => k_is); (case c => k_is); (case k => k_is))
    (case E27 => refine' Mi.def_mk KX G ?a ?l ?c ?k; (case a => k_is); (case l => k_is); (case c => k_is); (case k => k_is))
    (case E28 => refine' Mi.def_mk KX G ?a ?l ?c ?k; (case a => k_is); (case l => k_is); (case c => k_is); (case k => k_is))
    (case E29 => refine' Mi.def_mk KX G ?a ?l ?c ?k; (case a => k_is); (case l => k_is); (case c => k_is); (case k => k_is))
    (case E30 => refine' Mi.def_mk KX G ?a ?l ?c ?k; (case a => k_is); (case l => k_is); (case c => k_is); (case k => k_is))
    (case E31 => refine' Mi.def_mk KX G ?a ?l ?c ?k; (case a => k_is); (case l => k_is); (case c => k_is); (case k => k_is))
    (case E32 => refine' Mi.def_mk KX G ?a ?l ?c ?k; (case a => k_is); (case l => k_is); (case c => k_is); (case k => k_is))
    (case E12 => refine' Mi.def_mk KX G ?a ?l ?c ?k; (case a => k_is); (case l => k_is); (case c => k_is); (case k => k_is))
    (case E13 => refine' Mi.def_mk KX G ?a ?l ?c ?k; (case a => k_is); (case l => k_is); (case c => k_is); (case k => k_is))
    (case E19 => refine' Mi.def_mk KX G ?a ?l ?c ?k; (case a => k_is); (case l => k_is); (case c => k_is); (case k => k_is))
    (case E14 => refine' Mi.def_mk KX G ?a ?l ?c ?k; (case a => k_is); (case l => k_is); (case c => k_is); (case k => k_is))
    (case E15 => refine' Mi.def_mk KX G ?a ?l ?c ?k; (case a => k_is); (case l => k_is); (case c => k_is); (case k => k_is))
    (case E21 => refine' Mi.def_mk KX G ?a ?l ?c ?k; (case a => k_is); (case l => k_is); (case c => k_is); (case k => k_is))
    (case E18 => refine' Mi.def_mk KX G ?a ?l ?c ?k; (case a => k_is); (case l => k_is); (case c => k_is); (case k => k_is))
    (case E24 => refine' Mi.def_mk KX G ?a ?l ?c ?k; (case a => k_is); (case l => k_is); (case c => k_is); (case k => k_is))
    (case E20 => refine' Mi.def_mk KX G ?a ?l ?c ?k; (case a => k_is); (case l => k_is); (case c => k_is); (case k => k_is))
    (case E33 => refine' Mi.def_mk KX G ?a ?l ?c ?k; (case a => k_is); (case l => k_is); (case c => k_is); (case k => k_is))
    (case E34 => refine' Mi.def_mk KX G ?a ?l ?c ?k; (case a => k_is); (case l => k_is); (case c => k_is); (case k => k_is))
    (case E22 => refine' Mi.def_mk KX G ?a ?l ?c ?k; (case a => k_is); (case l => k_is); (case c => k_is); (case k => k_is))
    (case E35 => refine' Mi.def_mk KX G ?a ?l ?c ?k; (case a => k_is); (case l => k_is); (case c => k_is); (case k => k_is))

