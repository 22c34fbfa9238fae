import PyProof.Rows.All
import Wide.All
import OpenK.AllK
import Wide.FinOn
import PyProof.EqAt
import PyProof.EqKinds
import PyProof.TupleCall
import KE.BitLaws
import PyProof.SetRoads
import KE.KDictSum
import PyProof.Rows.SortWalk
import KE.KDictList
import PyProof.Rows.SortStr
import KE.KLam
import KE.KNestM
import PyProof.ListStr
import KE.KEqDeep
import KE.KEqDict
import PyProof.Rows.RuleB_rshift
import PyProof.Rows.RuleB_and
import PyProof.Rows.RuleB_or
import PyProof.DictUpdate
import OpenK.KOwn
import KE.KSuper
import PyProof.ExcClass3
import PyProof.ExcBaseAll.ValueError
import PyProof.ExcArgsOwn
import KE.KIsAll
import PyProof.AutoListH
import PyProof.Rows.RuleB_lshift
import PySem.Challenge.RW_walksago_k53_states_that_are_none
set_option Elab.async false
set_option linter.all false
set_option maxRecDepth 100000
set_option maxHeartbeats 4000000
/-! THE HAND LAYER, for ints, bools, texts, own classes, lists, tuples, dicts, comprehensions, walks over dicts, enumerate, zip, reversed, texts, calls, loops. Paste it whole ahead of your own text; what your proof does not reach may be deleted. -/
namespace L2
open PySem PySem.Spec PyProof.Rows

/-- a key: an int or a str -/
abbrev Key := Sum Int Str
def keyIs : Key → Value → Bool
  | .inl k, v => Value.isInt k v
  | .inr x, v => Value.isStrOf x v
def keyH (w : World) : Key → Int
  | .inl k => hashInt k
  | .inr x => hashStr w x
theorem keyIs_shape : ∀ {k : Key} {v : Value}, keyIs k v = true → (∃ i t, k = Sum.inl i ∧ v = Value.int i t) ∨ (∃ x t, k = Sum.inr x ∧ v = Value.str x t)
  | .inl i, v, h => by
    obtain ⟨t, e⟩ := Value.isInt_shape (k := i) (v := v) h
    exact .inl ⟨i, t, rfl, e⟩
  | .inr x, v, h => by
    obtain ⟨t, e⟩ := Value.isStrOf_shape (x := x) (v := v) h
    exact .inr ⟨x, t, rfl, e⟩
theorem keyIs_int (i : Int) (t : Tok) : keyIs (.inl i) (.int i t) = true := by simp [keyIs, Value.isInt]
theorem keyIs_str (x : Str) (t : Tok) : keyIs (.inr x) (.str x t) = true := by simp [keyIs, Value.isStrOf]
theorem key_ll (a b : Int) : decide ((Sum.inl a : Key) = Sum.inl b) = (a == b) := by
  by_cases e : a = b
  · subst e; simp
  · have h : ¬ (Sum.inl a : Key) = Sum.inl b := fun q => e (Sum.inl.inj q)
    rw [decide_eq_false h]
    exact (beq_eq_false_iff_ne.mpr e).symm
theorem key_rr (a b : Str) : decide ((Sum.inr a : Key) = Sum.inr b) = decide (a = b) := by
  by_cases e : a = b
  · subst e; simp
  · have h : ¬ (Sum.inr a : Key) = Sum.inr b := fun q => e (Sum.inr.inj q)
    rw [decide_eq_false h, decide_eq_false e]
theorem key_lr (a : Int) (b : Str) : decide ((Sum.inl a : Key) = Sum.inr b) = false := decide_eq_false (fun q => nomatch q)
theorem key_rl (a : Str) (b : Int) : decide ((Sum.inr a : Key) = Sum.inl b) = false := decide_eq_false (fun q => nomatch q)

def mixKind (prog : Program) (w : World) : PySem.KeyKind prog w Key where
  is := keyIs
  hash := keyH w
  inj := fun v a b ha hb => by
    rcases keyIs_shape ha with ⟨i, t, rfl, rfl⟩ | ⟨x, t, rfl, rfl⟩
    · rcases keyIs_shape hb with ⟨j, u, rfl, e⟩ | ⟨y, u, rfl, e⟩
      · injection e with e1 _; rw [e1]
      · exact nomatch e
    · rcases keyIs_shape hb with ⟨j, u, rfl, e⟩ | ⟨y, u, rfl, e⟩
      · exact nomatch e
      · injection e with e1 _; rw [e1]
  byValue := fun k v h => by
    rcases keyIs_shape h with ⟨i, t, rfl, rfl⟩ | ⟨x, t, rfl, rfl⟩ <;> rfl
  pyHash := fun hv h => by
    rcases keyIs_shape hv with ⟨i, t, rfl, rfl⟩ | ⟨x, t, rfl, rfl⟩
    · exact wpAny_pyHash_int h
    · exact wpAny_pyHash_str h
  eqBool := fun hu hv h => by
    rcases keyIs_shape hu with ⟨i, t, rfl, rfl⟩ | ⟨x, t, rfl, rfl⟩
    · rcases keyIs_shape hv with ⟨j, u, rfl, rfl⟩ | ⟨y, u, rfl, rfl⟩
      · rw [key_ll] at h; exact wpAny_eqBool_int h
      · rw [key_lr] at h; exact SeqAt.EqAt.int_str i t y u _ _ _ _ h
    · rcases keyIs_shape hv with ⟨j, u, rfl, rfl⟩ | ⟨y, u, rfl, rfl⟩
      · rw [key_rl] at h; exact SeqAt.EqAt.str_int x t j u _ _ _ _ h
      · rw [key_rr] at h; exact wpAny_eqBool_str h
  «strs» := fun k x t v h => by
    rcases keyIs_shape h with ⟨i, u, rfl, e⟩ | ⟨y, u, rfl, e⟩
    · exact nomatch e
    · injection e with e1 _
      subst e1
      cases v <;> rfl

theorem mixKind_int (prog : Program) (w : World) (i : Int) (t : Tok) : (mixKind prog w).is (.inl i) (.int i t) = true := keyIs_int i t
theorem mixKind_str (prog : Program) (w : World) (x : Str) (t : Tok) : (mixKind prog w).is (.inr x) (.str x t) = true := keyIs_str x t
end L2

namespace L2
open PySem PySem.Spec PyProof.Rows

/-- a value, without the heap -/
inductive V where
  | non | bl (b : Bool) | int (i : Int) | str (x : Str) | byt (b : Array UInt8) | flt (b : UInt64) | ref (a : Addr) | ty (n : String)
  deriving DecidableEq

def RelV : V → Value → Prop
  | .non, u => u = Value.none
  | .bl b, u => u = Value.bool b
  | .int i, u => ∃ t, u = Value.int i t
  | .str x, u => ∃ t, u = Value.str x t
  | .byt b, u => ∃ t, u = Value.bytes b t
  | .flt b, u => ∃ t, u = Value.float b t
  | .ref a, u => u = Value.ref a
  | .ty n, u => u = Value.type n

abbrev Vals : List V → List Value → Prop := Paired RelV
theorem Vals.length {xs : List V} {us : List Value} (r : Vals xs us) : xs.length = us.length := Paired.length r
theorem Vals.get : ∀ {xs : List V} {us : List Value} {i : Nat} {x : V}, Vals xs us → xs[i]? = some x → ∃ u, us[i]? = some u ∧ RelV x u
  | _, _, _, _, .nil, e => by simp at e
  | _, _, 0, _, .cons r _, e => by simp at e; subst e; exact ⟨_, rfl, r⟩
  | _, _, i + 1, x, .cons _ t, e => by
    obtain ⟨u, h1, h2⟩ := Vals.get (i := i) (x := x) t (by simpa using e)
    exact ⟨u, by simpa using h1, h2⟩
theorem Vals.set {x : V} {u : Value} (r : RelV x u) : ∀ {xs : List V} {us : List Value} (i : Nat), Vals xs us → Vals (xs.set i x) (us.set i u)
  | _, _, _, .nil => .nil
  | _, _, 0, .cons _ t => .cons r t
  | _, _, i + 1, .cons q t => .cons q (Vals.set r i t)
theorem Vals.append : ∀ {xs ys : List V} {us ws : List Value}, Vals xs us → Vals ys ws → Vals (xs ++ ys) (us ++ ws)
  | _, _, _, _, .nil, s => s
  | _, _, _, _, .cons r t, s => .cons r (Vals.append t s)
theorem Vals.take : ∀ {xs : List V} {us : List Value} (n : Nat), Vals xs us → Vals (xs.take n) (us.take n)
  | _, _, 0, _ => .nil
  | _, _, _ + 1, .nil => .nil
  | _, _, n + 1, .cons r t => .cons r (Vals.take n t)
theorem Vals.drop : ∀ {xs : List V} {us : List Value} (n : Nat), Vals xs us → Vals (xs.drop n) (us.drop n)
  | _, _, 0, r => r
  | _, _, _ + 1, .nil => .nil
  | _, _, n + 1, .cons _ t => Vals.drop n t
def RelO : Option V → Option Value → Prop
  | some v, some u => RelV v u
  | none, none => True
  | _, _ => False
def KV {κ : Type} : List (κ × V) → List (κ × Value) → Prop := Paired fun (p : κ × V) (q : κ × Value) => p.1 = q.1 ∧ RelV p.2 q.2

/-- a key of a dict (00_mix): an int or a text -/
def kV : Key → V
  | .inl i => .int i
  | .inr x => .str x

/-- what stands at a tracked address -/
inductive HO where
  /-- a list -/
  | lst (xs : List V)
  /-- a tuple (never changes) -/
  | tup (xs : List V)
  /-- a dict whose keys are ints and texts; one whose keys are tuples of ints and texts (the empty one is both) -/
  | dK (kvs : List (Key × V)) | dT (kvs : List (List Key × V))
  /-- a set of ints: its members, its size -/
  | set (S : Int → Bool) (n : Nat)
  /-- an instance of the class at C, its dict at dx, its attributes -/
  | ins (C dx : Addr) (fs : List (Str × V))
  /-- the dict of the instance at x -/
  | own (x : Addr)
  /-- the dict of an exception -/
  | xd (fs : List (Str × V))
  /-- a bound method, f of x -/
  | met (f x : Addr)
  /-- a range object lo, lo + 1, .. below hi -/
  | rng (lo hi : Int)
  /-- a thing that is known to the object (the script; a dict while a loop walks it): read, never written while it is so -/
  | frz (o : Obj) (u : HO)
  /-- a code object's table -/
  | tbl (ps : Array Value)
  /-- any other thing, by what is true of its one object (a def of one's own: SetO a S n := HO.ext fun h => ..) -/
  | ext (φ : Heap → Prop)

abbrev Hp := Addr → Option HO
def upd (H : Hp) (a : Addr) (o : HO) : Hp := fun b => if b = a then some o else H b
theorem upd_same {H : Hp} {a : Addr} {o : HO} : upd H a o a = some o := by unfold upd; rw [if_pos rfl]
theorem upd_ne {H : Hp} {a b : Addr} {o : HO} (h : b ≠ a) : upd H a o b = H b := by unfold upd; rw [if_neg h]
/-- two objects of different content stand apart -/
theorem ne_of {H : Hp} {a b : Addr} {o u : HO} (h : H a = some o) (h' : H b = some u) (d : o ≠ u) : a ≠ b := by
  intro e; subst e; rw [h] at h'; exact d (Option.some.inj h')
theorem ne_of_none {H : Hp} {a b : Addr} {o : HO} (h : H a = some o) (h' : H b = none) : a ≠ b := by
  intro e; subst e; rw [h] at h'; cases h'

def IsTup2 (h : Heap) (a : Addr) (items : Array Value) : Prop := ∃ o, h.get? a = some o ∧ o.cls = Value.type "tuple" ∧ ∃ n, o.data = Data.seq items n ∧ o.dict = none
theorem IsTup2.tup {h : Heap} {a : Addr} {items : Array Value} (p : IsTup2 h a items) : IsTup h a items := let ⟨o, h1, h2, n, h3, _⟩ := p; ⟨o, h1, h2, n, h3⟩
theorem IsTup2.new (h : Heap) (items : Array Value) : IsTup2 (h.push { cls := .type "tuple", data := .seq items }) h.objs.size items := ⟨_, Heap.get?_push_size _ rfl, rfl, _, rfl, rfl⟩
section
variable (P : Program) (w : World)
def ObjOk (H : Hp) (h : Heap) (a : Addr) : HO → Prop
  | .lst xs => xs.length ≤ sizeLine ∧ ∃ (its : List Value) (n : Nat), Vals xs its ∧ h.get? a = some { cls := .type "list", data := .seq its.toArray n }
  | .tup xs => xs.length ≤ sizeLine ∧ ∃ its : List Value, Vals xs its ∧ IsTup2 h a its.toArray
  | .dK kvs => kvs.length ≤ sizeLine ∧ (a == sysModules) = false ∧ ∃ vs, KV kvs vs ∧ h.DictOf (mixKind P w) a vs
  | .dT kvs => kvs.length ≤ sizeLine ∧ (a == sysModules) = false ∧ ∃ xs : List (List Key × Addr × Value),
      Paired (fun (p : List Key × V) (q : List Key × Addr × Value) => p.1 = q.1 ∧ H q.2.1 = some (.tup (p.1.map kV)) ∧ RelV p.2 q.2.2) kvs xs ∧
      ∃ o es ep, h.get? a = some o ∧ o.ExactDict ∧ o.data = .dict es ep ∧ es.toList = xs.map (entryOfKey (tupleKind (mixKind P w))) ∧ (xs.map (·.1)).Nodup
  | .set S n => h.SetOf (intKind P w) a S n
  | .ins C dx fs => H dx = some (.own a) ∧ fs.length ≤ 1000 ∧ dx ≠ a ∧ h.get? a = some (PySem.W.instObj C dx) ∧
      ∃ mA, h.Ns1 dx mA ∧ (∀ f, RelO (fs.lookup f) (mA f)) ∧ PySem.Within mA (fs.map (·.1))
  | .own _ => ∃ o, h.get? a = some o
  | .xd fs => ∃ mA, h.Ns1 a mA ∧ ∀ f, RelO (fs.lookup f) (mA f)
  | .rng lo hi => ∃ t u v, h.get? a = some { cls := .type "range", data := .fields #[.int lo t, .int hi u, .int 1 v] }
  | .frz o u => h.get? a = some o ∧ ObjOk H h a u
  | .tbl ps => ∃ qs : Array Value, h.get? a = some { cls := .none, data := .fields qs } ∧ (qs = #[] ∨ ∃ c : Addr, qs = #[ps.getD 0 .none, ps.getD 1 .none, .ref c] ∧ H c = some (.own a) ∧ ∃ (o : Obj) (us : Array Value) (q : Str) (t u : Tok), ps.getD 2 .none = .str q u ∧ h.get? c = some o ∧ o.data = .fields us ∧ us[1]? = some (.str q t))
  | .met f x => h.get? a = some (PySem.W.methodObj (.ref f) (.ref x))
  | .ext φ => φ h ∧ (∃ o, h.get? a = some o) ∧ ∀ h1 h2 : Heap, φ h1 → (∀ o, h1.get? a = some o → h2.get? a = some o) → φ h2
/-- the abstract heap is held -/
def HOk (H : Hp) (h : Heap) : Prop := ∀ a o, H a = some o → ObjOk P w H h a o
end

section
variable {P : Program} {w : World} {H H' : Hp} {h h' : Heap} {a : Addr} {o : HO}
theorem ObjOk.lt (x : ObjOk P w H h a o) : a < h.objs.size := by
  cases o with
  | lst xs => obtain ⟨_, _, _, _, e⟩ := x; exact Heap.lt_size e
  | tup xs => obtain ⟨_, _, _, p⟩ := x; exact p.tup.lt
  | dK kvs => obtain ⟨_, _, _, _, o, _, _, e, _⟩ := x; exact Heap.lt_size e
  | dT kvs => obtain ⟨_, _, _, _, o, _, _, e, _⟩ := x; exact Heap.lt_size e
  | set S n => obtain ⟨o, _, _, _, e, _⟩ := x; exact Heap.lt_size e
  | ins C dx fs => obtain ⟨_, _, _, e, _⟩ := x; exact Heap.lt_size e
  | own y => obtain ⟨_, e⟩ := x; exact Heap.lt_size e
  | xd fs => obtain ⟨_, ⟨_, _, _, e, _⟩, _⟩ := x; exact Heap.lt_size e
  | rng lo hi => obtain ⟨_, _, _, e⟩ := x; exact Heap.lt_size e
  | frz ob u => obtain ⟨e, _⟩ := x; exact Heap.lt_size e
  | tbl ps => obtain ⟨_, e, _⟩ := x; exact Heap.lt_size e
  | met f y => exact Heap.lt_size (show h.get? a = some _ from x)
  | ext φ => obtain ⟨_, ⟨_, e⟩, _⟩ := x; exact Heap.lt_size e
theorem Paired.mapP {α β : Type} {F G : α → β → Prop} : ∀ {l₁ : List α} {l₂ : List β}, Paired F l₁ l₂ → (∀ a b, F a b → G a b) → Paired G l₁ l₂
  | _, _, .nil, _ => .nil
  | _, _, .cons r t, f => .cons (f _ _ r) (Paired.mapP t f)
/-- what an object's description leans on: its own object, its own dict, the tuples -/
theorem ObjOk.stay (x : ObjOk P w H h a o) (k : ∀ b u, (b = a ∨ H b = some (.own a)) → h.get? b = some u → h'.get? b = some u)
    (ho : ∀ b, H b = some (.own a) → H' b = some (.own a)) (ht : ∀ b xs, H b = some (.tup xs) → H' b = some (.tup xs)) : ObjOk P w H' h' a o := by
  induction o with
  | lst xs => obtain ⟨z, its, n, r, e⟩ := x; exact ⟨z, its, n, r, k _ _ (.inl rfl) e⟩
  | tup xs => obtain ⟨z, its, r, ob, e, c⟩ := x; exact ⟨z, its, r, ob, k _ _ (.inl rfl) e, c⟩
  | dK kvs => obtain ⟨z, y, vs, r, ob, es, ep, e, c⟩ := x; exact ⟨z, y, vs, r, ob, es, ep, k _ _ (.inl rfl) e, c⟩
  | dT kvs =>
    obtain ⟨z, y, xs, r, ob, es, ep, e, c⟩ := x
    exact ⟨z, y, xs, Paired.mapP r fun p q z => ⟨z.1, ht _ _ z.2.1, z.2.2⟩, ob, es, ep, k _ _ (.inl rfl) e, c⟩
  | set S n => obtain ⟨ob, es, ep, t, e, c⟩ := x; exact ⟨ob, es, ep, t, k _ _ (.inl rfl) e, c⟩
  | ins C dx fs =>
    obtain ⟨d, z, ne, e, mA, ⟨od, es, ep, e2, c⟩, r⟩ := x
    exact ⟨ho _ d, z, ne, k _ _ (.inl rfl) e, mA, ⟨od, es, ep, k _ _ (.inr d) e2, c⟩, r⟩
  | own y => obtain ⟨ob, e⟩ := x; exact ⟨ob, k _ _ (.inl rfl) e⟩
  | xd fs => obtain ⟨mA, ⟨od, es, ep, e, c⟩, r⟩ := x; exact ⟨mA, ⟨od, es, ep, k _ _ (.inl rfl) e, c⟩, r⟩
  | rng lo hi => obtain ⟨t, u, v, e⟩ := x; exact ⟨t, u, v, k _ _ (.inl rfl) e⟩
  | frz ob u ih => obtain ⟨e, q⟩ := x; exact ⟨k _ _ (.inl rfl) e, ih q⟩
  | tbl ps =>
    obtain ⟨qs, e, r⟩ := x
    refine ⟨qs, k _ _ (.inl rfl) e, ?_⟩
    rcases r with r | ⟨c, r1, r2, ob, us, q, t, u, r3, r4, r5⟩
    · exact .inl r
    · exact .inr ⟨c, r1, ho _ r2, ob, us, q, t, u, r3, k _ _ (.inr r2) r4, r5⟩
  | met f y =>
    have e : h.get? a = some (PySem.W.methodObj (.ref f) (.ref y)) := x
    show h'.get? a = some (PySem.W.methodObj (.ref f) (.ref y))
    exact k a _ (.inl rfl) e
  | ext φ => obtain ⟨p, ⟨o, e⟩, st⟩ := x; exact ⟨st _ _ p fun o q => k _ _ (.inl rfl) q, ⟨o, k _ _ (.inl rfl) e⟩, st⟩
theorem HOk.lt (x : HOk P w H h) (e : H a = some o) : a < h.objs.size := (x a o e).lt
theorem HOk.fresh (x : HOk P w H h) (e : h.objs.size ≤ a) : H a = none := by
  cases q : H a with
  | none => rfl
  | some u => exact absurd (Nat.lt_of_lt_of_le (x.lt q) e) (Nat.lt_irrefl _)
/-- every object of the heap is kept -/
theorem HOk.kept (x : HOk P w H h) (k : ∀ b u, h.get? b = some u → h'.get? b = some u) : HOk P w H h' := fun a o e =>
  (x a o e).stay (fun b u _ q => k b u q) (fun _ q => q) fun _ _ q => q
/-- a new object is laid and tracked -/
theorem HOk.laid (x : HOk P w H h) (k : ∀ b u, h.get? b = some u → h'.get? b = some u) (hp : h.objs.size ≤ a) (new : ObjOk P w (upd H a o) h' a o) : HOk P w (upd H a o) h' := fun b u e => by
  have hn := x.fresh hp
  by_cases hb : b = a
  · subst hb; rw [upd_same] at e; cases e; exact new
  · rw [upd_ne hb] at e
    exact (x b u e).stay (fun c v _ q => k c v q) (fun c q => by rw [upd_ne (ne_of_none q hn)]; exact q) fun c xs q => by rw [upd_ne (ne_of_none q hn)]; exact q
end

/-- what may be read as u: it is u, or a known u -/
def Rd (H : Hp) (a : Addr) (u : HO) : Prop := H a = some u ∨ ∃ o, H a = some (.frz o u)
theorem Rd.of {H : Hp} {a : Addr} {u : HO} (h : H a = some u) : Rd H a u := .inl h
theorem Rd.ok {P : Program} {w : World} {H : Hp} {h : Heap} {a : Addr} {u : HO} (r : Rd H a u) (x : HOk P w H h) : ObjOk P w H h a u := by
  rcases r with r | ⟨o, r⟩
  · exact x a u r
  · obtain ⟨_, q⟩ := x a _ r
    exact q
/-- what may be written -/
def Mut : Option HO → Prop
  | some (.lst _) => True
  | some (.dK _) => True
  | some (.dT _) => True
  | some (.set _ _) => True
  | some (.ins _ _ _) => True
  | some (.ext _) => True
  | _ => False
section
variable {P : Program} {w : World} {H : Hp} {h h' : Heap} {x e : Addr} {o' : HO}
/-- the object at e is changed: x itself, or the dict of the instance x -/
theorem HOk.write (ok : HOk P w H h) (mu : Mut (H x)) (he : e = x ∨ H e = some (.own x)) (k : ∀ b u, b ≠ e → h.get? b = some u → h'.get? b = some u) (heo : ∃ u, h'.get? e = some u)
    (new : ObjOk P w (upd H x o') h' x o') : HOk P w (upd H x o') h' := fun b u q => by
  have nown : ∀ c y, H c = some (.own y) → c ≠ x := fun c y r z => by subst z; rw [r] at mu; exact mu
  have ntup : ∀ c xs, H c = some (.tup xs) → c ≠ x := fun c xs r z => by subst z; rw [r] at mu; exact mu
  by_cases hb : b = x
  · subst hb; rw [upd_same] at q; cases q; exact new
  · rw [upd_ne hb] at q
    by_cases hbe : b = e
    · have q' : H b = some (.own x) := by
        rcases he with z | z
        · exact absurd (hbe.trans z) hb
        · rw [hbe]; exact z
      rw [q] at q'; cases q'
      obtain ⟨v, hv⟩ := heo
      exact ⟨v, by rw [hbe]; exact hv⟩
    · refine (ok b u q).stay (fun c v hc r => k c v ?_ r) (fun c r => by rw [upd_ne (nown c b r)]; exact r) fun c xs r => by rw [upd_ne (ntup c xs r)]; exact r
      rcases hc with rfl | hc
      · exact hbe
      · rintro rfl
        rcases he with z | z
        · exact nown c b hc z
        · rw [hc] at z; cases z; exact hb rfl
end

/-! ### kept unless tracked; of the frames at fs (the callers') the slots may change (an exception that passes writes there); of the records at ex (iterators) nothing is said -/
structure Un (fs ex : List Addr) (H H' : Hp) (h h' : Heap) : Prop where
  keep : ∀ b o, h.get? b = some o → H b = none → b ∉ fs → b ∉ ex → h'.get? b = some o
  slot : ∀ b o, h.get? b = some o → H b = none → b ∈ fs → b ∉ ex → ∃ sl, h'.get? b = some { o with slots := sl }
  free : ∀ b o, h.get? b = some o → H b = none → b ∉ ex → H' b = none
  there : ∀ b o, h.get? b = some o → b ∉ ex → ∃ o', h'.get? b = some o'
  tups : ∀ b xs, H b = some (.tup xs) → H' b = some (.tup xs)
  frzs : ∀ b o u, H b = some (.frz o u) → H' b = some (.frz o u)
  tbls : ∀ b ps, H b = some (.tbl ps) → ∃ more, H' b = some (.tbl (ps ++ more))
section
variable {fs fs' ex ex' : List Addr} {H H1 H2 : Hp} {h h1 h2 h' : Heap} {a x e : Addr} {o : HO}
theorem Un.any (u : Un fs ex H H1 h h1) {b : Addr} {ob : Obj} (q : h.get? b = some ob) (n : H b = none) (hx : b ∉ ex) : ∃ sl, h1.get? b = some { ob with slots := sl } := by
  by_cases hb : b ∈ fs
  · exact u.slot b ob q n hb hx
  · exact ⟨ob.slots, u.keep b ob q n hb hx⟩
theorem Un.trans (a : Un fs ex H H1 h h1) (b : Un fs ex H1 H2 h1 h2) : Un fs ex H H2 h h2 where
  keep := fun c ob q n hc hx => b.keep c ob (a.keep c ob q n hc hx) (a.free c ob q n hx) hc hx
  slot := fun c ob q n hc hx => by
    obtain ⟨sl, e1⟩ := a.slot c ob q n hc hx
    obtain ⟨sl', e2⟩ := b.slot c _ e1 (a.free c ob q n hx) hc hx
    exact ⟨sl', e2⟩
  free := fun c ob q n hx => by
    obtain ⟨o', e1⟩ := a.there c ob q hx
    exact b.free c o' e1 (a.free c ob q n hx) hx
  there := fun c ob q hx => by
    obtain ⟨o', e1⟩ := a.there c ob q hx
    exact b.there c o' e1 hx
  tups := fun c xs q => b.tups c xs (a.tups c xs q)
  frzs := fun c ob xs q => b.frzs c ob xs (a.frzs c ob xs q)
  tbls := fun c ps q => by
    obtain ⟨m1, e1⟩ := a.tbls c ps q
    obtain ⟨m2, e2⟩ := b.tbls c _ e1
    exact ⟨m1 ++ m2, by rw [e2, Array.append_assoc]⟩
theorem Un.kept (k : ∀ b u, h.get? b = some u → h'.get? b = some u) : Un fs ex H H h h' :=
  ⟨fun b ob q _ _ _ => k b ob q, fun b ob q _ _ _ => ⟨ob.slots, k b ob q⟩, fun _ _ _ n _ => n, fun b ob q _ => ⟨ob, k b ob q⟩, fun _ _ q => q, fun _ _ _ q => q, fun _ ps q => ⟨#[], by rw [q]; simp⟩⟩
theorem Un.refl : Un fs ex H H h h := Un.kept fun _ _ q => q
theorem Un.laid (k : ∀ b u, h.get? b = some u → h'.get? b = some u) (hp : h.objs.size ≤ a) (hn : H a = none) : Un fs ex H (upd H a o) h h' where
  keep := fun b u q _ _ _ => k b u q
  slot := fun b u q _ _ _ => ⟨u.slots, k b u q⟩
  free := fun b u q n _ => by rw [upd_ne (Nat.ne_of_lt (Nat.lt_of_lt_of_le (Heap.lt_size q) hp))]; exact n
  there := fun b u q _ => ⟨u, k b u q⟩
  tups := fun b xs q => by rw [upd_ne (ne_of_none q hn)]; exact q
  frzs := fun b u xs q => by rw [upd_ne (ne_of_none q hn)]; exact q
  tbls := fun b ps q => ⟨#[], by rw [upd_ne (ne_of_none q hn), q]; simp⟩
theorem Un.write (mu : Mut (H x)) (he : e = x ∨ H e = some (.own x)) (k : ∀ b u, b ≠ e → h.get? b = some u → h'.get? b = some u) (heo : ∃ u, h'.get? e = some u) : Un fs ex H (upd H x o) h h' := by
  have hx : ∀ b, H b = none → b ≠ x := fun b n z => by subst z; rw [n] at mu; exact mu
  have hb : ∀ b, H b = none → b ≠ e := fun b n z => by
    subst z
    rcases he with r | r
    · exact hx b n r
    · rw [n] at r; cases r
  have hm : ∀ b u, H b = some u → ¬ Mut (some u) → b ≠ x := fun b u q nm z => by subst z; rw [q] at mu; exact nm mu
  refine ⟨fun b u q n _ _ => k b u (hb b n) q, fun b u q n _ _ => ⟨u.slots, k b u (hb b n) q⟩, fun b u q n _ => by rw [upd_ne (hx b n)]; exact n, fun b u q _ => ?_,
    fun b xs q => by rw [upd_ne (hm b _ q fun z => z)]; exact q, fun b u xs q => by rw [upd_ne (hm b _ q fun z => z)]; exact q, fun b ps q => ⟨#[], by rw [upd_ne (hm b _ q fun z => z), q]; simp⟩⟩
  by_cases hbe : b = e
  · subst hbe; exact heo
  · exact ⟨u, k b u hbe q⟩
theorem Un.mono (u : Un fs ex H H1 h h1) (hs : ∀ b ∈ fs, b ∈ fs') (hx : ∀ b ∈ ex, b ∈ ex') : Un fs' ex' H H1 h h1 :=
  ⟨fun b ob q n hb he => u.keep b ob q n (fun z => hb (hs b z)) fun z => he (hx b z), fun _ _ q n _ he => u.any q n fun z => he (hx _ z), fun b ob q n he => u.free b ob q n fun z => he (hx b z), fun b ob q he => u.there b ob q fun z => he (hx b z), u.tups, u.frzs, u.tbls⟩
end

/-! ### the heap without what is tracked -/
def trk (h : Heap) (H : Hp) : List Addr := (List.range h.objs.size).filter fun a => (H a).isSome
def hidT (h : Heap) (H : Hp) : Heap := PySem.W.hideAll h (trk h H)
theorem hidT_size (h : Heap) (H : Hp) : (hidT h H).objs.size = h.objs.size := PySem.W.hideAll_size _ _
theorem hidT_get {h : Heap} {H : Hp} {b : Addr} {o : Obj} (e : h.get? b = some o) (n : H b = none) : (hidT h H).get? b = some o :=
  PySem.W.hideAll_get _ e fun hm => by
    have q : (H b).isSome = true := (List.mem_filter.mp hm).2
    rw [n] at q; simp at q
theorem of_hidT {h : Heap} {H : Hp} {b : Addr} {o : Obj} (e : (hidT h H).get? b = some o) : h.get? b = some o ∧ H b = none := by
  have e' : h.get? b = some o := PySem.W.of_hideAll (trk h H) e
  refine ⟨e', ?_⟩
  cases q : H b with
  | none => rfl
  | some x =>
    have hm : b ∈ trk h H := List.mem_filter.mpr ⟨List.mem_range.mpr (Heap.lt_size e'), by simp [q]⟩
    have z : (hidT h H).get? b = none := PySem.W.hideAll_none (trk h H) hm
    rw [z] at e; cases e

/-! ### OpenK's ledger, filled with every new object but one -/
def allNews (g h : Heap) (L : Addr) : List (Addr × Obj) := (List.range h.objs.size).filterMap fun a => if a = L ∨ (g.get? a).isSome = true then none else (h.get? a).map fun o => (a, o)
def rest (g h : Heap) (L d : Addr) : List (Addr × Obj) := (allNews g h L).filter fun p => decide (p.1 ≠ d)
end L2

namespace L2
open PySem PySem.Spec PyProof.Rows

/-- the module's facts, over the base: the heap at the law's entry without what is tracked there -/
structure Mod (K : PySem.W.Frag) (mg : Str → Option Value) (base : Heap) : Prop where
  kin : K.In base
  glob : base.Ns mainGlobals mg
  blt : ∃ mb, base.Ns builtinsNs mb ∧ ∀ x : Str, x ≠ "__name__" → mb x = bootBuiltins x
  nolimit : base.NoLimit

/-- the context: a def's body (or a comprehension's block) running. base: fixed through the whole law; s₀, H₀: the entry; outer: the frames whose slots others may change (a def's callers); stack: all frames that run;
   ex: iterators that were made ahead of the entry and are walked here (a comprehension's); fn: the names whose cells were made at the entry (a def: all; a comprehension's block: its own); calm: not within an except suite; pn: pins that every state bears; xe: what is wanted of an exception that leaves the code -/
structure Cx where
  prog : Program
  w : World
  K : PySem.W.Frag
  mg : Str → Option Value
  base : Heap
  A : Around
  N : List Str
  s_0 : Shared
  H_0 : Hp
  env : Env
  outer : List Env
  stack : List Env
  ex : List Addr
  fn : Str → Bool
  calm : Bool
  pn : List (Addr × Obj)
  xe : Value → Shared → Prop
/-- the callers' frames -/
def frs (l : List Env) : List Addr := l.filterMap (·.frame)
abbrev Cx.fs (X : Cx) : List Addr := frs X.outer

def Vis (sc : Scope) (x : Str) : Prop := sc.names.lookup x = some .local ∨ sc.names.lookup x = some .cell ∨ sc.names.lookup x = some .free
def Loc (sc : Scope) (x : Str) : Prop := sc.names.lookup x = some .local ∨ sc.names.lookup x = some .cell
def Look (env : Env) (h : Heap) (m : Str → Option Value) (x : Str) (u : Value) : Prop :=
  (env.kindOf x = some .local ∧ m x = some u) ∨ ((env.kindOf x = some .cell ∨ env.kindOf x = some .free) ∧ ∃ c, env.cells.lookup x = some c ∧ h.IsCell c (some u))

structure Cx.Ok (X : Cx) : Prop where
  mod : Mod X.K X.mg X.base
  kind : X.env.scope.kind = .function
  glob : X.env.globals = mainGlobals
  blt : X.env.builtins = builtinsNs
  above : X.s_0.heap.objs.size ≤ X.env.locals
  inj : ∀ x y c, X.env.cells.lookup x = some c → X.env.cells.lookup y = some c → x = y
  has : ∀ x, (X.env.kindOf x = some .cell ∨ X.env.kindOf x = some .free) → ∃ c, X.env.cells.lookup x = some c
  cab : ∀ x c, X.fn x = true → X.env.cells.lookup x = some c → X.s_0.heap.objs.size ≤ c
  hd : X.calm = true → X.A.handled = none
  frames : X.A.frames = some X.stack
  stk : X.stack = X.outer ∨ (X.stack = X.env :: X.outer ∧ X.env.frame = some X.env.locals)
  exf : ∀ b ∈ X.ex, b ≠ X.env.locals ∧ ∀ x c, X.env.cells.lookup x = some c → c ≠ b
  bs : ∀ b o, X.base.get? b = some o → X.s_0.heap.get? b = some o ∧ X.H_0 b = none
  bsz : X.base.objs.size ≤ X.s_0.heap.objs.size
  noex : ∀ b o, X.base.get? b = some o → b ∉ X.ex
  exfs : ∀ b ∈ X.ex, b ∉ X.fs
  funs : X.s_0.heap.FunFrames X.base X.outer
  frf : ∀ b ∈ X.fs, X.H_0 b = none
  cnf : ∀ x c, X.env.cells.lookup x = some c → c ∉ X.fs

structure Inv (X : Cx) (pins : List (Addr × Obj)) (σ : List (Option V)) (H : Hp) (s : Shared) : Prop where
  ok : X.Ok
  os : s.os = X.s_0.os
  bare : AllBare s.gens
  base : Un X.fs X.ex X.H_0 H X.s_0.heap s.heap
  loc : ∃ m, s.heap.Ns X.env.locals m ∧ ∀ (i : Nat) (x : Str) (v : V), X.N[i]? = some x → σ[i]? = some (some v) → Vis X.env.scope x → ∃ u, RelV v u ∧ Look X.env s.heap m x u
  cell : ∀ x c, X.env.cells.lookup x = some c → ∃ v, s.heap.IsCell c v
  free : H X.env.locals = none
  freeC : ∀ x c, X.env.cells.lookup x = some c → H c = none
  pin : ∀ p ∈ X.pn ++ pins, s.heap.get? p.1 = some p.2 ∧ H p.1 = none ∧ p.1 ≠ X.env.locals ∧ p.1 ∉ X.fs ∧ ∀ v, p.2.data ≠ .cell v
  hok : HOk X.prog X.w H s.heap
  len : σ.length = X.N.length

section
variable {X : Cx} {pins : List (Addr × Obj)} {σ : List (Option V)} {H H' : Hp} {s : Shared} {h' : Heap}

theorem Cx.Ok.nofr (ok : X.Ok) {b : Addr} {o : Obj} (e : X.base.get? b = some o) : b ∉ X.fs := fun hb => by
  have := (ok.funs.mem hb).1
  rw [e] at this; cases this
theorem Inv.bs (I : Inv X pins σ H s) : ∀ b o, X.base.get? b = some o → s.heap.get? b = some o ∧ H b = none := fun b o e =>
  ⟨I.base.keep b o (I.ok.bs b o e).1 (I.ok.bs b o e).2 (I.ok.nofr e) (I.ok.noex b o e), I.base.free b o (I.ok.bs b o e).1 (I.ok.bs b o e).2 (I.ok.noex b o e)⟩
theorem Inv.bk (I : Inv X pins σ H s) : ∀ b o, X.base.get? b = some o → s.heap.get? b = some o := fun b o e => (I.bs b o e).1
theorem Inv.mod (I : Inv X pins σ H s) : Mod X.K X.mg X.base := I.ok.mod
theorem Inv.kIn (I : Inv X pins σ H s) : X.K.In s.heap := I.ok.mod.kin.keeps I.bk
theorem Inv.nolimit (I : Inv X pins σ H s) : s.heap.NoLimit := I.ok.mod.nolimit.keeps I.bk
/-- the frame over the base: for OpenK's rules (K.In X.base is I.mod.kin) -/
theorem Inv.fr (I : Inv X pins σ H s) : ∃ m, Fr X.base X.env.locals s.heap m :=
  let ⟨m, hn, _⟩ := I.loc
  ⟨m, hn, I.bk, Nat.le_trans I.ok.bsz I.ok.above⟩
theorem Inv.lt (I : Inv X pins σ H s) : X.env.locals < s.heap.objs.size := let ⟨_, hn, _⟩ := I.loc; hn.lt
theorem Inv.sz (I : Inv X pins σ H s) : X.s_0.heap.objs.size ≤ s.heap.objs.size := Nat.le_trans I.ok.above (Nat.le_of_lt I.lt)
theorem Inv.nofs (I : Inv X pins σ H s) {a : Addr} (h : s.heap.objs.size ≤ a) : a ∉ X.fs := fun hb => by
  obtain ⟨_, o, ho, _⟩ := I.ok.funs.mem hb
  exact absurd (Nat.lt_of_lt_of_le (Heap.lt_size ho) (Nat.le_trans I.sz h)) (Nat.lt_irrefl _)
theorem Inv.cne (I : Inv X pins σ H s) : ∀ x c, X.env.cells.lookup x = some c → c ≠ X.env.locals := fun x c e z => by
  obtain ⟨v, o, ho, hd⟩ := I.cell x c e
  obtain ⟨m, ⟨o', es, ep, ho', hd', _⟩, _⟩ := I.loc
  rw [z, ho'] at ho; cases ho; rw [hd'] at hd; cases hd
theorem Inv.cnfS (I : Inv X pins σ H s) : ∀ x c, X.env.cells.lookup x = some c → c ∉ frs X.stack := fun x c e hb => by
  rcases I.ok.stk with z | ⟨z, z2⟩
  · rw [z] at hb; exact I.ok.cnf x c e hb
  · rw [z] at hb
    obtain ⟨env, he, hf⟩ := List.mem_filterMap.mp hb
    rcases List.mem_cons.mp he with rfl | he
    · rw [z2] at hf; exact I.cne x c e (Option.some.inj hf).symm
    · exact I.ok.cnf x c e (List.mem_filterMap.mpr ⟨env, he, hf⟩)
theorem Inv.funs (I : Inv X pins σ H s) : s.heap.FunFrames X.base X.outer := by
  have all : ∀ (l : List Env), (∀ b ∈ frs l, b ∈ X.fs) → X.s_0.heap.FunFrames X.base l → s.heap.FunFrames X.base l := by
    intro l
    induction l with
    | nil => intro _ _; trivial
    | cons env r ih =>
      intro hs hl
      obtain ⟨hk, ⟨L, o, hf, hn, ho, hd⟩, hr⟩ := hl
      have hL : L ∈ X.fs := hs L (by unfold frs; rw [List.filterMap_cons, hf]; exact List.mem_cons_self)
      obtain ⟨sl, e⟩ := I.base.slot L o ho (I.ok.frf L hL) hL fun z => I.ok.exfs L z hL
      exact ⟨hk, ⟨L, _, hf, hn, e, hd⟩, ih (fun b hb => hs b (by unfold frs; rw [List.filterMap_cons, hf]; exact List.mem_cons_of_mem _ hb)) hr⟩
  exact all X.outer (fun _ hb => hb) I.ok.funs

/-- the frames that run, for a call -/
theorem Inv.stack (I : Inv X pins σ H s) : s.heap.FunFrames X.base X.stack := by
  rcases I.ok.stk with e | ⟨e, hf⟩
  · rw [e]; exact I.funs
  · rw [e]
    obtain ⟨m, hn, _⟩ := I.loc
    refine .cons (by rw [I.ok.kind]; decide) hf hn ?_ I.funs
    exact Heap.get?_none_of_le (Nat.le_trans I.ok.bsz I.ok.above)
theorem Inv.stkSub (I : Inv X pins σ H s) : ∀ b ∈ frs X.stack, b ∈ X.env.locals :: X.fs := fun b hb => by
  rcases I.ok.stk with e | ⟨e, hf⟩
  · rw [e] at hb; exact List.mem_cons_of_mem _ hb
  · rw [e] at hb
    unfold frs at hb
    rw [List.filterMap_cons, hf] at hb
    exact hb
theorem Inv.stkFree (I : Inv X pins σ H s) : ∀ b ∈ frs X.stack, H b = none := fun b hb => by
  rcases List.mem_cons.mp (I.stkSub b hb) with e | hb
  · rw [e]; exact I.free
  · obtain ⟨_, o, ho, _⟩ := I.ok.funs.mem hb
    exact I.base.free b o ho (I.ok.frf b hb) fun z => I.ok.exfs b z hb

/-- THE STEP: the untracked objects but the frame and the records at ch are kept (the callers' frames up to slots), the frame's map is kept, the new abstract heap is held -/
theorem Inv.step {g' : Array GenState} {t' : Nat} {d' : Drawn} {ch : List Addr} (I : Inv X pins σ H s)
    (hch : ∀ b ∈ ch, (b ∈ X.ex ∨ X.s_0.heap.objs.size ≤ b) ∧ b ≠ X.env.locals ∧ (∀ x c, X.env.cells.lookup x = some c → c ≠ b) ∧ ∀ p ∈ X.pn ++ pins, p.1 ≠ b)
    (keep : ∀ b o, b ≠ X.env.locals → b ∉ X.fs → b ∉ ch → s.heap.get? b = some o → H b = none → h'.get? b = some o)
    (slot : ∀ b o, b ≠ X.env.locals → b ∈ X.fs → b ∉ ch → s.heap.get? b = some o → H b = none → ∃ sl, h'.get? b = some { o with slots := sl }) (free : ∀ b o, b ∉ ch → s.heap.get? b = some o → H b = none → H' b = none)
    (there : ∀ b o, b ∉ ch → s.heap.get? b = some o → ∃ o', h'.get? b = some o')
    (tups : ∀ b xs, H b = some (.tup xs) → H' b = some (.tup xs)) (frzs : ∀ b o u, H b = some (.frz o u) → H' b = some (.frz o u)) (tbls : ∀ b ps, H b = some (.tbl ps) → ∃ more, H' b = some (.tbl (ps ++ more)))
    (ns : ∀ m, s.heap.Ns X.env.locals m → h'.Ns X.env.locals m) (hok : HOk X.prog X.w H' h') (hg : AllBare g') :
    Inv X pins σ H' { s with heap := h', gens := g', drawn := d', toks := t' } := by
  have neL : ∀ b o, X.s_0.heap.get? b = some o → b ≠ X.env.locals := fun b o e => Nat.ne_of_lt (Nat.lt_of_lt_of_le (Heap.lt_size e) I.ok.above)
  have neC : ∀ b o, X.s_0.heap.get? b = some o → b ∉ X.ex → b ∉ ch := fun b o e hx hb => by
    rcases (hch b hb).1 with z | z
    · exact hx z
    · exact absurd (Nat.lt_of_lt_of_le (Heap.lt_size e) z) (Nat.lt_irrefl _)
  have cellK : ∀ x c, X.env.cells.lookup x = some c → ∀ v, s.heap.IsCell c v → h'.IsCell c v := fun x c e v ⟨o, ho, hd⟩ => by
    have nch : c ∉ ch := fun z => (hch c z).2.2.1 x c e rfl
    by_cases hc : c ∈ X.fs
    · obtain ⟨sl, q⟩ := slot c o (I.cne x c e) hc nch ho (I.freeC x c e)
      exact ⟨_, q, hd⟩
    · exact ⟨o, keep c o (I.cne x c e) hc nch ho (I.freeC x c e), hd⟩
  refine ⟨I.ok, I.os, hg, ⟨fun b o e n hb hx => ?_, fun b o e n hb hx => ?_, fun b o e n hx => ?_, fun b o e hx => ?_, fun b xs e => tups b xs (I.base.tups b xs e), fun b o xs e => frzs b o xs (I.base.frzs b o xs e), fun b ps e => ?_⟩, ?_, fun x c e => ?_, ?_, fun x c e => ?_, fun p hp => ?_, hok, I.len⟩
  · exact keep b o (neL b o e) hb (neC b o e hx) (I.base.keep b o e n hb hx) (I.base.free b o e n hx)
  · obtain ⟨sl, e1⟩ := I.base.slot b o e n hb hx
    obtain ⟨sl', e2⟩ := slot b _ (neL b o e) hb (neC b o e hx) e1 (I.base.free b o e n hx)
    exact ⟨sl', e2⟩
  · obtain ⟨o', e1⟩ := I.base.there b o e hx
    exact free b o' (neC b o e hx) e1 (I.base.free b o e n hx)
  · obtain ⟨o', e1⟩ := I.base.there b o e hx
    exact there b o' (neC b o e hx) e1
  · obtain ⟨m1, e1⟩ := I.base.tbls b ps e
    obtain ⟨m2, e2⟩ := tbls b _ e1
    exact ⟨m1 ++ m2, by rw [e2, Array.append_assoc]⟩
  · obtain ⟨m, hn, hl⟩ := I.loc
    refine ⟨m, ns m hn, fun i x v e1 e2 e3 => ?_⟩
    obtain ⟨u, r, l⟩ := hl i x v e1 e2 e3
    refine ⟨u, r, ?_⟩
    rcases l with l | ⟨k, c, e, z⟩
    · exact .inl l
    · exact .inr ⟨k, c, e, cellK x c e _ z⟩
  · obtain ⟨v, z⟩ := I.cell x c e
    exact ⟨v, cellK x c e v z⟩
  · obtain ⟨m, ⟨o, _, _, ho, _⟩, _⟩ := I.loc
    exact free _ o (fun z => (hch _ z).2.1 rfl) ho I.free
  · obtain ⟨v, o, ho, hd⟩ := I.cell x c e
    exact free c o (fun z => (hch c z).2.2.1 x c e rfl) ho (I.freeC x c e)
  · obtain ⟨e, n, ne, nf, d⟩ := I.pin p hp
    have nch : p.1 ∉ ch := fun z => (hch p.1 z).2.2.2 p hp rfl
    exact ⟨keep p.1 p.2 ne nf nch e n, free p.1 p.2 nch e n, ne, nf, d⟩
/-- .. where the frame's own object is kept too -/
theorem Inv.un {t' : Nat} (I : Inv X pins σ H s) (u : Un X.fs [] H H' s.heap h') (hok : HOk X.prog X.w H' h') : Inv X pins σ H' { s with heap := h', toks := t' } := by
  obtain ⟨m, ⟨o, es, ep, ho, r⟩, _⟩ := id I.loc
  obtain ⟨sl, hL⟩ := u.any ho I.free (by simp)
  exact I.step (g' := s.gens) (d' := s.drawn) (ch := []) (fun _ z => nomatch z) (fun b o _ hb _ e n => u.keep b o e n hb (by simp)) (fun b o _ hb _ e n => u.slot b o e n hb (by simp)) (fun b o _ e n => u.free b o e n (by simp)) (fun b o _ e => u.there b o e (by simp)) u.tups u.frzs u.tbls (fun m' hm => by
    obtain ⟨o', es', ep', ho', r'⟩ := hm
    rw [ho] at ho'; cases ho'
    exact ⟨_, es', ep', hL, r'⟩) hok I.bare
/-- behind a call (or a comprehension's block): the slots of this frame may have changed too, the records at ch may have turned -/
theorem Inv.call {g' : Array GenState} {t' : Nat} {d' : Drawn} {ch : List Addr} (I : Inv X pins σ H s) (u : Un (frs X.stack) ch H H' s.heap h') (hok : HOk X.prog X.w H' h') (hg : AllBare g')
    (hch : ∀ b ∈ ch, (b ∈ X.ex ∨ X.s_0.heap.objs.size ≤ b) ∧ b ≠ X.env.locals ∧ (∀ x c, X.env.cells.lookup x = some c → c ≠ b) ∧ ∀ p ∈ X.pn ++ pins, p.1 ≠ b) :
    Inv X pins σ H' { s with heap := h', gens := g', drawn := d', toks := t' } := by
  obtain ⟨m, ⟨o, es, ep, ho, r⟩, _⟩ := id I.loc
  obtain ⟨sl, hL⟩ := u.any ho I.free fun z => (hch _ z).2.1 rfl
  exact I.step (ch := ch) hch (fun b o hL hb hc e n => u.keep b o e n (fun z => (List.mem_cons.mp (I.stkSub b z)).elim hL hb) hc) (fun b o _ _ hc e n => u.any e n hc) (fun b o hc e n => u.free b o e n hc) (fun b o hc e => u.there b o e hc) u.tups u.frzs u.tbls (fun m' hm => by
    obtain ⟨o', es', ep', ho', r'⟩ := hm
    rw [ho] at ho'; cases ho'
    exact ⟨_, es', ep', hL, r'⟩) hok hg
/-- an untracked record of ours (an iterator) has turned -/
theorem Inv.turned {t' : Nat} {it : Addr} (I : Inv X pins σ H s) (k : ∀ b o, b ≠ it → s.heap.get? b = some o → h'.get? b = some o) (hn : H it = none) (hL : it ≠ X.env.locals)
    (h1 : it ∈ X.ex ∨ X.s_0.heap.objs.size ≤ it) (h2 : ∀ x c, X.env.cells.lookup x = some c → c ≠ it) (h3 : ∀ p ∈ X.pn ++ pins, p.1 ≠ it) : Inv X pins σ H { s with heap := h', toks := t' } := by
  have nit : ∀ b u, H b = some u → b ≠ it := fun b u e z => by rw [z, hn] at e; cases e
  refine I.step (g' := s.gens) (d' := s.drawn) (ch := [it]) (fun b hb => ?_) (fun b o _ _ hc e _ => k b o (fun z => hc (by simp [z])) e) (fun b o _ _ hc e _ => ⟨o.slots, k b o (fun z => hc (by simp [z])) e⟩) (fun _ _ _ _ n => n)
    (fun b o hc e => ⟨o, k b o (fun z => hc (by simp [z])) e⟩) (fun _ _ e => e) (fun _ _ _ e => e) (fun b ps e => ⟨#[], by rw [e]; simp⟩) (fun m hm => ?_) (fun b u e => ?_) I.bare
  · have e : b = it := by simpa using hb
    subst e
    exact ⟨h1, hL, h2, h3⟩
  · obtain ⟨o, es, ep, ho, r⟩ := hm
    exact ⟨o, es, ep, k _ o (Ne.symm hL) ho, r⟩
  · refine (I.hok b u e).stay (fun c v hc q => k c v ?_ q) (fun _ q => q) fun _ _ q => q
    rcases hc with z | z
    · rw [z]; exact nit b u e
    · exact nit c _ z
theorem Inv.tok (I : Inv X pins σ H s) (t : Nat) : Inv X pins σ H { s with toks := t } := I.un (h' := s.heap) (t' := t) Un.refl I.hok
/-- all objects kept -/
theorem Inv.kept {t' : Nat} (I : Inv X pins σ H s) (k : ∀ b u, s.heap.get? b = some u → h'.get? b = some u) : Inv X pins σ H { s with heap := h', toks := t' } := I.un (Un.kept k) (I.hok.kept k)
/-- a new object laid and tracked -/
theorem Inv.laid {a : Addr} {o : HO} {t' : Nat} (I : Inv X pins σ H s) (k : ∀ b u, s.heap.get? b = some u → h'.get? b = some u) (hp : s.heap.objs.size ≤ a) (new : ObjOk X.prog X.w (upd H a o) h' a o) :
    Inv X pins σ (upd H a o) { s with heap := h', toks := t' } := I.un (Un.laid k hp (I.hok.fresh hp)) (I.hok.laid k hp new)
/-- an object written -/
theorem Inv.write {x e : Addr} {o : HO} {t' : Nat} (I : Inv X pins σ H s) (mu : Mut (H x)) (he : e = x ∨ H e = some (.own x)) (k : ∀ b u, b ≠ e → s.heap.get? b = some u → h'.get? b = some u) (heo : ∃ u, h'.get? e = some u)
    (new : ObjOk X.prog X.w (upd H x o) h' x o) : Inv X pins σ (upd H x o) { s with heap := h', toks := t' } := I.un (Un.write mu he k heo) (I.hok.write mu he k heo new)
/-- forgetting slots, pins -/
theorem Inv.weak {σ' : List (Option V)} (I : Inv X pins σ H s) (hl : σ'.length = σ.length) (w : ∀ (i : Nat) v, σ'[i]? = some (some v) → σ[i]? = some (some v)) : Inv X pins σ' H s :=
  ⟨I.ok, I.os, I.bare, I.base, let ⟨m, hn, hl'⟩ := I.loc; ⟨m, hn, fun i x v e1 e2 e3 => hl' i x v e1 (w i v e2) e3⟩, I.cell, I.free, I.freeC, I.pin, I.hok, hl.trans I.len⟩
theorem Inv.pins_of {pins' : List (Addr × Obj)} (I : Inv X pins σ H s) (h : ∀ p ∈ pins', s.heap.get? p.1 = some p.2 ∧ H p.1 = none ∧ p.1 ≠ X.env.locals ∧ p.1 ∉ X.fs ∧ ∀ v, p.2.data ≠ .cell v) : Inv X pins' σ H s :=
  ⟨I.ok, I.os, I.bare, I.base, I.loc, I.cell, I.free, I.freeC, fun p hp => (List.mem_append.mp hp).elim (fun z => I.pin p (List.mem_append_left _ z)) (h p), I.hok, I.len⟩

theorem nodup_ix {N : List Str} (hN : N.Nodup) {i j : Nat} {x : Str} (a : N[i]? = some x) (b : N[j]? = some x) : i = j := by
  obtain ⟨h1, e1⟩ := List.getElem?_eq_some_iff.mp a
  obtain ⟨h2, e2⟩ := List.getElem?_eq_some_iff.mp b
  exact (List.getElem_inj hN).mp (e1.trans e2.symm)

/-- a name is stored; what changed -/
theorem store_ok2 {M : Model} {A : Around} {E : Value → Shared → Prop} {i : Nat} {x : Str} {v : V} {u : Value} {Q : Unit → Shared → Prop} (I : Inv X pins σ H s) (hN : X.N.Nodup) (hi : X.N[i]? = some x) (hx : Loc X.env.scope x) (r : RelV v u)
    (h : ∀ s', Inv X pins (σ.set i (some v)) H s' → (∃ a, Heap.SameBut a s.heap s'.heap ∧ (a = X.env.locals ∨ X.env.cells.lookup x = some a)) → Q () s') (hf : X.fn x = true ∨ X.env.scope.names.lookup x = some .local := by first | exact .inl rfl | exact .inr rfl | assumption) : wpAny M A (storeName X.env x u) Q E s := by
  obtain ⟨m, hn, hl⟩ := id I.loc
  have hcls : (X.env.scope.kind == .class || (X.env.scope.kind == .module && X.env.locals != X.env.globals)) = false := by rw [I.ok.kind]; rfl
  have hiσ : i < σ.length := by rw [I.len]; exact (List.getElem?_eq_some_iff.mp hi).1
  have cne := I.cne
  have tracked : ∀ {a : Addr} {h' : Heap}, (∃ o, s.heap.get? a = some o ∧ H a = none) → Heap.SameBut a s.heap h' → HOk X.prog X.w H h' := fun {a h'} ha hs b ob e => by
    obtain ⟨_, _, hfree⟩ := ha
    refine (I.hok b ob e).stay (fun c w' hc q => (hs.2 c ?_).trans q) (fun _ q => q) fun _ _ q => q
    rintro rfl
    rcases hc with rfl | hc
    · rw [hfree] at e; cases e
    · rw [hfree] at hc; cases hc
  rcases hx with hk | hk
  · refine wpAny_storeName_local hk hn (fun h' hn' hs => ?_) hcls
    obtain ⟨oL, _, _, hoL, _⟩ := id hn
    refine h _ ⟨I.ok, I.os, I.bare, ⟨fun b o e n hb hx => ?_, fun b o e n hb hx => ?_, I.base.free, fun b o e hx => ?_, I.base.tups, I.base.frzs, I.base.tbls⟩, ⟨_, hn', fun j y v' e1 e2 e3 => ?_⟩, fun y c e => ?_, I.free, I.freeC, fun p hp => ?_, tracked ⟨oL, hoL, I.free⟩ hs, by simpa using I.len⟩ ⟨_, hs, .inl rfl⟩
    · exact (hs.2 b (Nat.ne_of_lt (Nat.lt_of_lt_of_le (Heap.lt_size e) I.ok.above))).trans (I.base.keep b o e n hb hx)
    · obtain ⟨sl, e1⟩ := I.base.slot b o e n hb hx
      exact ⟨sl, (hs.2 b (Nat.ne_of_lt (Nat.lt_of_lt_of_le (Heap.lt_size e) I.ok.above))).trans e1⟩
    · obtain ⟨o', e1⟩ := I.base.there b o e hx
      exact ⟨o', (hs.2 b (Nat.ne_of_lt (Nat.lt_of_lt_of_le (Heap.lt_size e) I.ok.above))).trans e1⟩
    · by_cases hj : j = i
      · subst hj
        rw [hi] at e1; cases e1
        rw [List.getElem?_set_self hiσ] at e2
        cases e2
        exact ⟨u, r, .inl ⟨hk, by simp⟩⟩
      · rw [List.getElem?_set_ne (Ne.symm hj)] at e2
        obtain ⟨u', r', q⟩ := hl j y v' e1 e2 e3
        refine ⟨u', r', ?_⟩
        rcases q with ⟨k, e⟩ | ⟨k, c, e, z⟩
        · refine .inl ⟨k, ?_⟩
          have : y ≠ x := fun e => hj (nodup_ix hN e1 (e ▸ hi))
          simp [this, e]
        · exact .inr ⟨k, c, e, z.sameBut hs (cne y c e)⟩
    · obtain ⟨w', z⟩ := I.cell y c e
      exact ⟨w', z.sameBut hs (cne y c e)⟩
    · obtain ⟨e, n, ne, nf, d⟩ := I.pin p hp
      exact ⟨(hs.2 p.1 ne).trans e, n, ne, nf, d⟩
  · have hfn : X.fn x = true := by
      rcases hf with z | z
      · exact z
      · rw [z] at hk; cases hk
    obtain ⟨c, hc⟩ := I.ok.has x (.inl hk)
    obtain ⟨w', z⟩ := I.cell x c hc
    refine wpAny_storeName_cell I.ok.kind hk hc z (fun h' hc' hs => ?_)
    obtain ⟨oc, hoc, hocd⟩ := id z
    refine h { s with heap := h' } ⟨I.ok, I.os, I.bare, ⟨fun b o e n hb hx => ?_, fun b o e n hb hx => ?_, I.base.free, fun b o e hx => ?_, I.base.tups, I.base.frzs, I.base.tbls⟩, ⟨m, hn.sameBut hs (Ne.symm (cne x c hc)), fun j y v' e1 e2 e3 => ?_⟩, fun y c' e => ?_, I.free, I.freeC, fun p hp => ?_, tracked ⟨oc, hoc, I.freeC x c hc⟩ hs, by simpa using I.len⟩ ⟨c, hs, .inr hc⟩
    · exact (hs.2 b (Nat.ne_of_lt (Nat.lt_of_lt_of_le (Heap.lt_size e) (I.ok.cab x c hfn hc)))).trans (I.base.keep b o e n hb hx)
    · obtain ⟨sl, e1⟩ := I.base.slot b o e n hb hx
      exact ⟨sl, (hs.2 b (Nat.ne_of_lt (Nat.lt_of_lt_of_le (Heap.lt_size e) (I.ok.cab x c hfn hc)))).trans e1⟩
    · obtain ⟨o', e1⟩ := I.base.there b o e hx
      exact ⟨o', (hs.2 b (Nat.ne_of_lt (Nat.lt_of_lt_of_le (Heap.lt_size e) (I.ok.cab x c hfn hc)))).trans e1⟩
    · by_cases hj : j = i
      · subst hj
        rw [hi] at e1; cases e1
        rw [List.getElem?_set_self hiσ] at e2
        cases e2
        exact ⟨u, r, .inr ⟨.inl hk, c, hc, hc'⟩⟩
      · rw [List.getElem?_set_ne (Ne.symm hj)] at e2
        obtain ⟨u', r', q⟩ := hl j y v' e1 e2 e3
        refine ⟨u', r', ?_⟩
        rcases q with q | ⟨k, c', e, z'⟩
        · exact .inl q
        · refine .inr ⟨k, c', e, z'.sameBut hs ?_⟩
          rintro rfl
          exact hj (nodup_ix hN e1 (I.ok.inj _ _ _ e hc ▸ hi))
    · by_cases hcc : c' = c
      · subst hcc; exact ⟨_, hc'⟩
      · obtain ⟨w2, z2⟩ := I.cell y c' e
        exact ⟨w2, z2.sameBut hs hcc⟩
    · obtain ⟨e, n, ne, nf, d⟩ := I.pin p hp
      refine ⟨(hs.2 p.1 ?_).trans e, n, ne, nf, d⟩
      intro q
      rw [q, hoc] at e
      have q' : oc = p.2 := Option.some.inj e
      exact d w' (by rw [← q']; exact hocd)
theorem store_ok {M : Model} {A : Around} {E : Value → Shared → Prop} {i : Nat} {x : Str} {v : V} {u : Value} {Q : Unit → Shared → Prop} (I : Inv X pins σ H s) (hN : X.N.Nodup) (hi : X.N[i]? = some x) (hx : Loc X.env.scope x) (r : RelV v u)
    (h : ∀ s', Inv X pins (σ.set i (some v)) H s' → Q () s') (hf : X.fn x = true ∨ X.env.scope.names.lookup x = some .local := by first | exact .inl rfl | exact .inr rfl | assumption) : wpAny M A (storeName X.env x u) Q E s :=
  store_ok2 I hN hi hx r (fun s' I' _ => h s' I') hf
/-- behind a call or a block, the state as it is -/
theorem Inv.call' {s' : Shared} {ch : List Addr} (I : Inv X pins σ H s) (ho : s'.os = s.os) (u : Un (frs X.stack) ch H H' s.heap s'.heap) (hok : HOk X.prog X.w H' s'.heap) (hg : AllBare s'.gens)
    (hch : ∀ b ∈ ch, (b ∈ X.ex ∨ X.s_0.heap.objs.size ≤ b) ∧ b ≠ X.env.locals ∧ (∀ x c, X.env.cells.lookup x = some c → c ≠ b) ∧ ∀ p ∈ X.pn ++ pins, p.1 ≠ b) : Inv X pins σ H' s' := by
  obtain ⟨h', g', d', t', o'⟩ := s'
  have e : o' = s.os := ho
  subst e
  exact I.call (g' := g') (t' := t') (d' := d') u hok hg hch
end

/-! ### the judgements -/
/-- an exception: its class, its own dict's address (where it has one), the abstract heap behind it -/
abbrev XK := Value → Option Addr → Hp → Prop
abbrev St := List (Option V)
abbrev VK := V → Hp → Prop
/-- an expression's reading; a test's; an argument list's -/
abbrev TE := St → Hp → VK → Prop
abbrev TT := St → Hp → (Bool → Hp → Prop) → Prop
abbrev TA := St → Hp → (List V → Hp → Prop) → Prop
/-- what is wanted behind a statement -/
structure Ends where
  nx : St → Hp → Prop
  rt : VK
  bk : St → Hp → Prop := fun _ _ => False
  ct : St → Hp → Prop := fun _ _ => False
abbrev TS := Ends → St → Hp → Prop

def EP (X : Cx) (pins : List (Addr × Obj)) (σ : St) (Q : VK) (u : Value) (s' : Shared) : Prop := ∃ v H', Inv X pins σ H' s' ∧ RelV v u ∧ Q v H'
def TP (X : Cx) (pins : List (Addr × Obj)) (σ : St) (Q : Bool → Hp → Prop) (b : Bool) (s' : Shared) : Prop := ∃ H', Inv X pins σ H' s' ∧ Q b H'
def AP (X : Cx) (pins : List (Addr × Obj)) (σ : St) (Q : List V → Hp → Prop) (us : List Value) (s' : Shared) : Prop := ∃ vs H', Inv X pins σ H' s' ∧ Vals vs us ∧ Q vs H'
def SP (X : Cx) (pins : List (Addr × Obj)) (D : Ends) (f : Flow) (s' : Shared) : Prop :=
  match f with
  | .next => ∃ σ' H', Inv X pins σ' H' s' ∧ D.nx σ' H'
  | .brk => ∃ σ' H', Inv X pins σ' H' s' ∧ D.bk σ' H'
  | .cont => ∃ σ' H', Inv X pins σ' H' s' ∧ D.ct σ' H'
  | .ret u => ∃ v σ' H', Inv X pins σ' H' s' ∧ RelV v u ∧ D.rt v H'

def PE (X : Cx) (e : Expr) (t : TE) : Prop :=
  ∀ (pins : List (Addr × Obj)) (s : Shared) (σ : St) (H : Hp) (Q : VK), Inv X pins σ H s → t σ H Q → wpAny (model X.prog X.w) X.A (eval e X.env) (EP X pins σ Q) X.xe s
def PT (X : Cx) (e : Expr) (t : TT) : Prop :=
  ∀ (pins : List (Addr × Obj)) (s : Shared) (σ : St) (H : Hp) (Q : Bool → Hp → Prop), Inv X pins σ H s → t σ H Q → wpAny (model X.prog X.w) X.A (isTrue e X.env (eval e X.env)) (TP X pins σ Q) X.xe s
/-- a test whatever its 'whole' is (and, or) -/
def PW (X : Cx) (e : Expr) (t : TT) : Prop :=
  ∀ (whole : Sem Value) (pins : List (Addr × Obj)) (s : Shared) (σ : St) (H : Hp) (Q : Bool → Hp → Prop), Inv X pins σ H s → t σ H Q → wpAny (model X.prog X.w) X.A (isTrue e X.env whole) (TP X pins σ Q) X.xe s
theorem PW.pt {X : Cx} {e : Expr} {t : TT} (h : PW X e t) : PT X e t := h _
/-- an argument list (no star), from the left -/
def PA (X : Cx) (es : List Expr) (t : TA) : Prop :=
  ∀ (pos : Pos) (pins : List (Addr × Obj)) (s : Shared) (σ : St) (H : Hp) (Q : List V → Hp → Prop), Inv X pins σ H s → t σ H Q → wpAny (model X.prog X.w) X.A (spliced (backTo pos (starEach es X.env))) (AP X pins σ Q) X.xe s
def PS (X : Cx) (st : Stmt) (t : TS) : Prop :=
  ∀ (pins : List (Addr × Obj)) (s : Shared) (σ : St) (H : Hp) (D : Ends), Inv X pins σ H s → t D σ H → wpAny (model X.prog X.w) X.A (exec st X.env) (SP X pins D) X.xe s
def PSs (X : Cx) (st : List Stmt) (t : TS) : Prop :=
  ∀ (pins : List (Addr × Obj)) (s : Shared) (σ : St) (H : Hp) (D : Ends), Inv X pins σ H s → t D σ H → wpAny (model X.prog X.w) X.A (execs st X.env) (SP X pins D) X.xe s
/-- weaken the end -/
theorem thn {α : Type} {t : Sem α} {Q Q' : α → Shared → Prop} {M : Model} {A : Around} {E : Value → Shared → Prop} {s : Shared} (h : wpAny M A t Q E s) (hQ : ∀ a s, Q a s → Q' a s) : wpAny M A t Q' E s := wpAny_mono h hQ fun _ _ x => x
end L2

namespace L2
open PySem PySem.Spec PyProof.Rows
section
variable {X : Cx}

/-! ### names and constants -/
@[reducible] def tVar (i : Nat) : TE := fun σ H Q => ∃ v, σ[i]? = some (some v) ∧ Q v H
@[reducible] def tC (v : V) : TE := fun _ H Q => Q v H
theorem pe_var {i : Nat} {x : Str} {pos : Pos} (hN : X.N[i]? = some x) (hv : Vis X.env.scope x) (hd : (x == ("__debug__" : Str)) = false := by decide) (hcd : (x == ("__classdict__" : Str)) = false := by decide) : PE X (.Name x pos) (tVar i) := by
  intro pins s σ H Q I h
  obtain ⟨v, e, h⟩ := h
  obtain ⟨m, hn, hl⟩ := I.loc
  obtain ⟨u, r, l⟩ := hl i x v hN e hv
  have fin : EP X pins σ Q u s := ⟨v, H, I, r, h⟩
  rcases l with ⟨hk, hm⟩ | ⟨hk, c, hc, hcell⟩
  · exact wpAny_Name (wpAny_loadName_local I.ok.kind hk hn hm fin) hd
  · rcases hk with hk | hk
    · exact wpAny_Name (wpAny_loadName_cell I.ok.kind hk hc hcell fin) hd
    · exact wpAny_Name (wpAny_loadName_free I.ok.kind hk hc hcell fin hcd) hd
theorem pe_int {i j pos} : PE X (.Constant (.int i) j pos) (tC (.int i)) := fun _ _ _ H _ I h => wpAny_Constant_int ⟨.int i, H, I.tok _, ⟨_, rfl⟩, h⟩
theorem pe_bl {b j pos} : PE X (.Constant (.bool b) j pos) (tC (.bl b)) := fun _ _ _ H _ I h => Constant_bool ⟨.bl b, H, I, rfl, h⟩
theorem pe_non {j pos} : PE X (.Constant .none j pos) (tC .non) := fun _ _ _ H _ I h => Constant_none ⟨.non, H, I, rfl, h⟩
theorem pe_str {x j pos} : PE X (.Constant (.str x) j pos) (tC (.str x)) := fun _ _ _ H _ I h => Calls.Constant_str ⟨.str x, H, I.tok _, ⟨_, rfl⟩, h⟩

/-- a global name of the def -/
def Gl (X : Cx) (x : Str) : Prop := X.env.kindOf x = some .globalImplicit
theorem ld_glob {E : Value → Shared → Prop} {pins : List (Addr × Obj)} {s : Shared} {σ : St} {H : Hp} {x : Str} {u : Value} {pos : Pos} {Q : Value → Shared → Prop} (I : Inv X pins σ H s) (hg : Gl X x) (hm : X.mg x = some u) (h : Q u s)
    (hd : (x == ("__debug__" : Str)) = false := by decide) : wpAny (model X.prog X.w) X.A (eval (.Name x pos) X.env) Q E s :=
  Calls.Name_function_global I.ok.kind hg (Calls.loadGlobal_global (by rw [I.ok.glob]; exact I.mod.glob.keeps I.bk) hm h) hd
theorem ld_blt {E : Value → Shared → Prop} {pins : List (Addr × Obj)} {s : Shared} {σ : St} {H : Hp} {x : Str} {u : Value} {pos : Pos} {Q : Value → Shared → Prop} (I : Inv X pins σ H s) (hg : Gl X x) (hm : X.mg x = none) (hv : bootBuiltins x = some u) (h : Q u s)
    (hn : x ≠ "__name__" := by decide) (hd : (x == ("__debug__" : Str)) = false := by decide) : wpAny (model X.prog X.w) X.A (eval (.Name x pos) X.env) Q E s := by
  obtain ⟨mb, h1, h2⟩ := I.mod.blt
  exact Calls.Name_function_global I.ok.kind hg (Calls.loadGlobal_builtin (by rw [I.ok.glob]; exact I.mod.glob.keeps I.bk) hm (by rw [I.ok.blt]; exact h1.keeps I.bk) ((h2 x hn).trans hv) h) hd
/-- a module's constant, a class, a function, as a value -/
theorem pe_glob {x : Str} {v : V} {u : Value} {pos : Pos} (hg : Gl X x) (hm : X.mg x = some u) (r : RelV v u) (hd : (x == ("__debug__" : Str)) = false := by decide) : PE X (.Name x pos) (tC v) :=
  fun _ _ _ H _ I h => ld_glob I hg hm ⟨v, H, I, r, h⟩ hd
theorem pe_bltn {x : Str} {v : V} {u : Value} {pos : Pos} (hg : Gl X x) (hm : X.mg x = none) (hv : bootBuiltins x = some u) (r : RelV v u) (hn : x ≠ "__name__" := by decide) (hd : (x == ("__debug__" : Str)) = false := by decide) : PE X (.Name x pos) (tC v) :=
  fun _ _ _ H _ I h => ld_blt I hg hm hv ⟨v, H, I, r, h⟩ hn hd

/-! ### arithmetic -/
variable {a b : Expr} {ta tb : TE} {pos : Pos}
/-! ### comparisons -/
def PC (X : Cx) (op : CmpOp) (a b : Expr) (t : TE) : Prop :=
  ∀ (pins : List (Addr × Obj)) (s : Shared) (σ : St) (H : Hp) (Q : VK), Inv X pins σ H s → t σ H Q →
    wpAny (model X.prog X.w) X.A (eval a X.env) (fun v s₁ => wpAny (model X.prog X.w) X.A (eval b X.env) (fun u s₂ => wpAny (model X.prog X.w) X.A (compareOp op v u) (EP X pins σ Q) X.xe s₂) X.xe s₁) X.xe s
theorem nobehind (b : Expr) {op : CmpOp} (h : op ≠ .In) (h2 : op ≠ .NotIn) : behindInMarks op b = false := by
  have e1 : (op == CmpOp.In) = false := by cases op <;> first | rfl | exact absurd rfl h
  have e2 : (op == CmpOp.NotIn) = false := by cases op <;> first | rfl | exact absurd rfl h2
  cases b <;> simp [behindInMarks, e1, e2]
/-- a comparison as a value, as a test -/
@[reducible] def tB (t : TE) : TT := fun σ H Q => t σ H fun x H1 => ∃ c, x = .bl c ∧ Q c H1
theorem pt_cmp {op : CmpOp} {t : TE} (h : PC X op a b t) (h1 : behindInMarks op b = false := by first | exact nobehind _ (by decide) (by decide) | rfl) : PT X (.Compare a [op] [b] pos) (tB t) := by
  intro pins s σ H Q I hw
  refine wpAny_isTrue_Compare1 (thn (h pins s σ H _ I hw) fun v s1 h1 => thn h1 fun u s2 h2 => thn h2 fun c s3 ⟨x, H1, I1, r1, q1⟩ => ?_) h1
  obtain ⟨d, rfl, q⟩ := q1
  cases r1
  exact wpAny_truthy_bool ⟨H1, I1, q⟩
/-- an expression whose value is a bool, as a test -/
theorem pt_val {e : Expr} {t : TE} (h : PE X e t) (he : ∀ whole, isTrue e X.env whole = (do let v ← whole; standAt e.pos; holding [v] (truthy v)) := by intro _; rfl) : PT X e (tB t) := by
  intro pins s σ H Q I hw
  refine isTrue_plain (thn (h pins s σ H _ I hw) fun v s1 ⟨x, H1, I1, r1, q1⟩ => ?_) (he _)
  obtain ⟨d, rfl, q⟩ := q1
  cases r1
  exact wpAny_truthy_bool ⟨H1, I1, q⟩

/-! ### and, or, not -/
variable {tA tB' : TT} {rest : List Expr}
@[reducible] def tAnd (t u : TT) : TT := fun σ H Q => t σ H fun c H1 => if c = true then u σ H1 Q else Q false H1
@[reducible] def tOr (t u : TT) : TT := fun σ H Q => t σ H fun c H1 => if c = true then Q true H1 else u σ H1 Q
@[reducible] def tNot (t : TT) : TT := fun σ H Q => t σ H fun c H1 => Q (!c) H1
theorem pw_and1 (ha : PT X a tA) : PW X (.BoolOp .And [a] pos) tA := by
  intro wh pins s σ H Q I h
  refine isTrue_and (thn (ha pins s σ H Q I h) fun c s1 e => ?_)
  cases c with
  | true => exact isTrue_and_nil e
  | false => exact e
theorem pw_or1 (ha : PT X a tA) : PW X (.BoolOp .Or [a] pos) tA := by
  intro wh pins s σ H Q I h
  refine isTrue_or (thn (ha pins s σ H Q I h) fun c s1 e => ?_)
  cases c with
  | false => exact isTrue_or_nil e
  | true => exact e
theorem pw_and (ha : PT X a tA) (hb : PW X (.BoolOp .And (b :: rest) pos) tB') : PW X (.BoolOp .And (a :: b :: rest) pos) (tAnd tA tB') := by
  intro wh pins s σ H Q I h
  refine isTrue_and (thn (ha pins s σ H _ I h) fun c s1 ⟨H1, I1, q1⟩ => ?_)
  cases c with
  | true => exact hb wh pins s1 σ H1 Q I1 q1
  | false => exact ⟨H1, I1, q1⟩
theorem pw_or (ha : PT X a tA) (hb : PW X (.BoolOp .Or (b :: rest) pos) tB') : PW X (.BoolOp .Or (a :: b :: rest) pos) (tOr tA tB') := by
  intro wh pins s σ H Q I h
  refine isTrue_or (thn (ha pins s σ H _ I h) fun c s1 ⟨H1, I1, q1⟩ => ?_)
  cases c with
  | true => exact ⟨H1, I1, q1⟩
  | false => exact hb wh pins s1 σ H1 Q I1 q1
theorem pt_not (ha : PT X a tA) : PT X (.UnaryOp .Not a pos) (tNot tA) := by
  intro pins s σ H Q I h
  exact isTrue_not (ha pins s σ H (fun c H1 => Q (!c) H1) I h)
/-- .. as values (bools) -/
@[reducible] def tAndV (ta tb : TE) : TE := fun σ H Q => ta σ H fun x H1 => ∃ c, x = .bl c ∧ if c = true then tb σ H1 Q else Q (.bl false) H1
@[reducible] def tNotV (ta : TE) : TE := fun σ H Q => ta σ H fun x H1 => ∃ c, x = .bl c ∧ Q (.bl (!c)) H1
theorem pe_one {op} {t : TE} (h : PE X a t) : PE X (.BoolOp op [a] pos) t := fun pins s σ H Q I hw => BoolOp_one (h pins s σ H Q I hw)
theorem pe_and (ha : PE X a ta) (hb : PE X (.BoolOp .And (b :: rest) pos) tb) : PE X (.BoolOp .And (a :: b :: rest) pos) (tAndV ta tb) := by
  intro pins s σ H Q I h
  refine BoolOp_and (thn (ha pins s σ H _ I h) fun v s1 ⟨x, H1, I1, r1, q1⟩ => ?_)
  obtain ⟨c, rfl, q1⟩ := q1
  cases r1
  refine wpAny_truthy_bool ?_
  cases c with
  | true => exact hb pins s1 σ H1 Q I1 q1
  | false => exact ⟨.bl false, H1, I1, rfl, q1⟩
theorem pe_not (ha : PE X a ta) : PE X (.UnaryOp .Not a pos) (tNotV ta) := by
  intro pins s σ H Q I h
  refine UnaryOp_ (thn (ha pins s σ H _ I h) fun v s1 ⟨x, H1, I1, r1, q1⟩ => ?_)
  obtain ⟨c, rfl, q1⟩ := q1
  cases r1
  exact not_of (wpAny_truthy_bool ⟨.bl (!c), H1, I1, rfl, q1⟩)
end
end L2

namespace L2
open PySem PySem.Spec PyProof.Rows

/-! ### a list, a tuple that is read: tracked, frozen, or an object of the module -/
def SqL (K : PySem.W.Frag) (H : Hp) (a : Addr) (xs : List V) : Prop :=
  Rd H a (.lst xs) ∨
    ∃ (o : Obj) (its : Array Value) (n : Nat), K.lookup a = some o ∧ o.cls = .type "list" ∧ o.dict = none ∧ o.data = .seq its n ∧ its.size ≤ sizeLine ∧ Vals xs its.toList
def SqT (K : PySem.W.Frag) (H : Hp) (a : Addr) (xs : List V) : Prop :=
  Rd H a (.tup xs) ∨
    ∃ (o : Obj) (its : Array Value) (n : Nat), K.lookup a = some o ∧ o.cls = .type "tuple" ∧ o.data = .seq its n ∧ its.size ≤ sizeLine ∧ Vals xs its.toList
def absV : Value → Option V
  | .none => some .non
  | .bool b => some (.bl b)
  | .int i _ => some (.int i)
  | .str x _ => some (.str x)
  | .bytes b _ => some (.byt b)
  | .float b _ => some (.flt b)
  | .ref a => some (.ref a)
  | .type n => some (.ty n)
  | _ => none
theorem RelV.abs {x : V} {u : Value} (r : RelV x u) : absV u = some x := by
  cases x with
  | non => cases r; rfl
  | bl _ => cases r; rfl
  | int _ => obtain ⟨t, rfl⟩ := r; rfl
  | str _ => obtain ⟨t, rfl⟩ := r; rfl
  | byt _ => obtain ⟨t, rfl⟩ := r; rfl
  | flt _ => obtain ⟨t, rfl⟩ := r; rfl
  | ref _ => cases r; rfl
  | ty _ => cases r; rfl
theorem RelV.inj {x y : V} {u : Value} (r : RelV x u) (q : RelV y u) : x = y := Option.some.inj (r.abs.symm.trans q.abs)
theorem Vals.inj : ∀ {xs ys : List V} {us : List Value}, Vals xs us → Vals ys us → xs = ys
  | _, _, _, .nil, .nil => rfl
  | _, _, _, .cons r t, .cons r' t' => by rw [r.inj r', Vals.inj t t']
section
variable {X : Cx} {pins : List (Addr × Obj)} {σ : St} {H : Hp} {s : Shared} {a : Addr} {xs ys : List V}
theorem SqL.of {K : PySem.W.Frag} (h : H a = some (.lst xs)) : SqL K H a xs := .inl (.inl h)
theorem SqT.of {K : PySem.W.Frag} (h : H a = some (.tup xs)) : SqT K H a xs := .inl (.inl h)
theorem Inv.list (I : Inv X pins σ H s) (h : SqL X.K H a xs) : ∃ its : List Value, Vals xs its ∧ PlainL s.heap a its.toArray ∧ xs.length ≤ sizeLine := by
  rcases h with h | ⟨o, its, n, hk, hc, hd, hs, hz, r⟩
  · obtain ⟨z, its, n, r, e⟩ := h.ok I.hok
    exact ⟨its, r, ⟨_, n, e, rfl, rfl, rfl⟩, z⟩
  · refine ⟨its.toList, r, ⟨o, n, I.kIn a o hk, hc, hd, by simpa using hs⟩, ?_⟩
    have e := r.length
    simp only [Array.length_toList] at e
    omega
theorem Inv.tuple (I : Inv X pins σ H s) (h : SqT X.K H a xs) : ∃ its : List Value, Vals xs its ∧ IsTup s.heap a its.toArray ∧ xs.length ≤ sizeLine := by
  rcases h with h | ⟨o, its, n, hk, hc, hs, hz, r⟩
  · obtain ⟨z, its, r, p⟩ := h.ok I.hok
    exact ⟨its, r, p.tup, z⟩
  · refine ⟨its.toList, r, ⟨o, I.kIn a o hk, hc, n, by simpa using hs⟩, ?_⟩
    have e := r.length
    simp only [Array.length_toList] at e
    omega
theorem Inv.list_inj (I : Inv X pins σ H s) (h : SqL X.K H a xs) (h' : SqL X.K H a ys) : xs = ys := by
  obtain ⟨its, r, ⟨o, n, e, _, _, d⟩, _⟩ := I.list h
  obtain ⟨its', r', ⟨o', n', e', _, _, d'⟩, _⟩ := I.list h'
  rw [e] at e'; cases e'
  rw [d] at d'
  injection d' with d1 _
  have : its = its' := by simpa using congrArg Array.toList d1
  subst this
  exact r.inj r'
theorem Inv.tuple_inj (I : Inv X pins σ H s) (h : SqT X.K H a xs) (h' : SqT X.K H a ys) : xs = ys := by
  obtain ⟨its, r, ⟨o, e, _, n, d⟩, _⟩ := I.tuple h
  obtain ⟨its', r', ⟨o', e', _, n', d'⟩, _⟩ := I.tuple h'
  rw [e] at e'; cases e'
  rw [d] at d'
  injection d' with d1 _
  have : its = its' := by simpa using congrArg Array.toList d1
  subst this
  exact r.inj r'
end

/-! ### another wish about exceptions -/
abbrev Cx.wish (X : Cx) (E : Value → Shared → Prop) : Cx := { X with xe := E }
/-- no exception leaves -/
abbrev Cx.nox (X : Cx) : Cx := X.wish fun _ _ => False
theorem Cx.Ok.wish {X : Cx} (ok : X.Ok) (E : Value → Shared → Prop) : (X.wish E).Ok :=
  ⟨ok.mod, ok.kind, ok.glob, ok.blt, ok.above, ok.inj, ok.has, ok.cab, ok.hd, ok.frames, ok.stk, ok.exf, ok.bs, ok.bsz, ok.noex, ok.exfs, ok.funs, ok.frf, ok.cnf⟩
theorem Cx.Ok.unwish {X : Cx} {E : Value → Shared → Prop} (ok : (X.wish E).Ok) : X.Ok :=
  ⟨ok.mod, ok.kind, ok.glob, ok.blt, ok.above, ok.inj, ok.has, ok.cab, ok.hd, ok.frames, ok.stk, ok.exf, ok.bs, ok.bsz, ok.noex, ok.exfs, ok.funs, ok.frf, ok.cnf⟩
section
variable {X : Cx} {pins : List (Addr × Obj)} {σ : St} {H : Hp} {s : Shared} {E : Value → Shared → Prop}
theorem Inv.wish (I : Inv X pins σ H s) (E : Value → Shared → Prop) : Inv (X.wish E) pins σ H s := ⟨I.ok.wish E, I.os, I.bare, I.base, I.loc, I.cell, I.free, I.freeC, I.pin, I.hok, I.len⟩
theorem Inv.unwish (I : Inv (X.wish E) pins σ H s) : Inv X pins σ H s := ⟨I.ok.unwish, I.os, I.bare, I.base, I.loc, I.cell, I.free, I.freeC, I.pin, I.hok, I.len⟩
theorem SP.unwish {D : Ends} {f : Flow} {s' : Shared} (h : SP (X.wish E) pins D f s') : SP X pins D f s' := by
  cases f with
  | next => obtain ⟨σ', H', I, q⟩ := h; exact ⟨σ', H', I.unwish, q⟩
  | brk => obtain ⟨σ', H', I, q⟩ := h; exact ⟨σ', H', I.unwish, q⟩
  | cont => obtain ⟨σ', H', I, q⟩ := h; exact ⟨σ', H', I.unwish, q⟩
  | ret u => obtain ⟨v, σ', H', I, r, q⟩ := h; exact ⟨v, σ', H', I.unwish, r, q⟩
theorem PE.nox {e : Expr} {t : TE} (h : PE X.nox e t) : PE X e t := fun pins s σ H Q I hw =>
  wpAny_mono (h pins s σ H Q (I.wish _) hw) (fun _ _ ⟨v, H', I', r, q⟩ => ⟨v, H', I'.unwish, r, q⟩) fun _ _ z => False.elim z
theorem PT.nox {e : Expr} {t : TT} (h : PT X.nox e t) : PT X e t := fun pins s σ H Q I hw =>
  wpAny_mono (h pins s σ H Q (I.wish _) hw) (fun _ _ ⟨H', I', q⟩ => ⟨H', I'.unwish, q⟩) fun _ _ z => False.elim z
theorem PSs.nox {st : List Stmt} {t : TS} (h : PSs X.nox st t) : PSs X st t := fun pins s σ H D I hw =>
  wpAny_mono (h pins s σ H D (I.wish _) hw) (fun _ _ q => q.unwish) fun _ _ z => False.elim z
end

/-! ### blocks and small statements -/
section
variable {X : Cx} {st : Stmt} {rest : List Stmt} {t u : TS} {e : Expr} {te : TE} {pos : Pos}
@[reducible] def tNext : TS := fun D σ H => D.nx σ H
@[reducible] def tSeq (t u : TS) : TS := fun D σ H => t { D with nx := u D } σ H
theorem pss_nil : PSs X [] tNext := fun _ _ σ H _ I h => wpAny_execs_nil ⟨σ, H, I, h⟩
theorem pss_cons (h1 : PS X st t) (h2 : PSs X rest u) : PSs X (st :: rest) (tSeq t u) := by
  intro pins s σ H D I h
  refine wpAny_execs_cons (thn (h1 pins s σ H { D with nx := u D } I h) fun f s1 q => ?_)
  cases f with
  | next =>
    obtain ⟨σ', H', I', q⟩ := q
    exact h2 pins s1 σ' H' D I' q
  | ret v => exact q
  | brk => exact q
  | cont => exact q
theorem pss_one (h1 : PS X st t) : PSs X [st] t := by
  intro pins s σ H D I h
  refine wpAny_execs_cons (thn (h1 pins s σ H D I h) fun f s1 q => ?_)
  cases f with
  | next => exact wpAny_execs_nil q
  | ret v => exact q
  | brk => exact q
  | cont => exact q
/-- in a def's body nothing is shown -/
theorem Inv.quiet {pins : List (Addr × Obj)} {σ : St} {H : Hp} {s : Shared} (I : Inv X pins σ H s) : interactive X.env = false := by simp [interactive, I.ok.kind]
/-- an expression whose value is dropped -/
@[reducible] def tDrop (te : TE) : TS := fun D σ H => te σ H fun _ H1 => D.nx σ H1
theorem ps_expr (he : PE X e te) (hs : swapsWith e none pos.line X.env = pure false := by rfl) : PS X (.Expr e pos) (tDrop te) := by
  intro pins s σ H D I h
  exact wpAny_Expr_any (thn (he pins s σ H _ I h) fun v s1 ⟨x, H1, I1, r1, q1⟩ => ⟨σ, H1, I1, q1⟩) I.quiet hs
@[reducible] def tRet (te : TE) : TS := fun D σ H => te σ H D.rt
theorem ps_ret (he : PE X e te) : PS X (.Return (some e) pos) (tRet te) := by
  intro pins s σ H D I h
  exact wpAny_Return_some (thn (he pins s σ H _ I h) fun v s1 ⟨x, H1, I1, r1, q1⟩ => ⟨x, σ, H1, I1, r1, q1⟩)
@[reducible] def tIfS (c : TT) (t u : TS) : TS := fun D σ H => c σ H fun b H1 => if b = true then t D σ H1 else u D σ H1
theorem ps_if {c : Expr} {a b : List Stmt} {tc : TT} (hc : PT X c tc) (ha : PSs X a t) (hb : PSs X b u) : PS X (.If c a b pos) (tIfS tc t u) := by
  intro pins s σ H D I h
  refine wpAny_If (thn (hc pins s σ H _ I h) fun d s1 ⟨H1, I1, q1⟩ => ?_)
  cases d with
  | true => exact ha pins s1 σ H1 D I1 q1
  | false => exact hb pins s1 σ H1 D I1 q1
end

/-! ### targets -/
abbrev TG := V → St → Hp → (St → Hp → Prop) → Prop
abbrev TGs := List V → St → Hp → (St → Hp → Prop) → Prop
def PG (X : Cx) (target : Expr) (t : TG) : Prop :=
  ∀ (pins : List (Addr × Obj)) (s : Shared) (σ : St) (H : Hp) (v : V) (u : Value) (Q : St → Hp → Prop), Inv X pins σ H s → RelV v u → t v σ H Q →
    wpAny (model X.prog X.w) X.A (assign target X.env u) (fun _ s' => ∃ σ' H', Inv X pins σ' H' s' ∧ Q σ' H') X.xe s
/-- several targets, one after another -/
def PGs (X : Cx) (ts : List Expr) (t : TGs) : Prop :=
  ∀ (pins : List (Addr × Obj)) (s : Shared) (σ : St) (H : Hp) (vs : List V) (us : List Value) (Q : St → Hp → Prop), Inv X pins σ H s → Vals vs us → t vs σ H Q →
    wpAny (model X.prog X.w) X.A (assignInOrder ((assignEach ts X.env).map (·.2)) us) (fun _ s' => ∃ σ' H', Inv X pins σ' H' s' ∧ Q σ' H') X.xe s
/-- o[i] = v, by values -/
abbrev TSet := V → V → V → Hp → (Hp → Prop) → Prop
def PSet (X : Cx) (t : TSet) : Prop :=
  ∀ (pins : List (Addr × Obj)) (s : Shared) (σ : St) (H : Hp) (o i v : V) (ov iv u : Value) (Q : Hp → Prop), Inv X pins σ H s → RelV o ov → RelV i iv → RelV v u → t o i v H Q →
    wpAny (model X.prog X.w) X.A (setItem ov iv u) (fun _ s' => ∃ H', Inv X pins σ H' s' ∧ Q H') X.xe s
section
variable {X : Cx} {pos : Pos}
@[reducible] def gName (i : Nat) : TG := fun v σ H Q => Q (σ.set i (some v)) H
theorem pg_name {i : Nat} {x : Str} (hN : X.N.Nodup) (hi : X.N[i]? = some x) (hx : Loc X.env.scope x) (hf : X.fn x = true ∨ X.env.scope.names.lookup x = some .local := by first | exact .inl rfl | exact .inr rfl | assumption) : PG X (.Name x pos) (gName i) := by
  intro pins s σ H v u Q I r h
  exact wpAny_assign_Name (store_ok I hN hi hx r (fun s' I' => ⟨_, H, I', h⟩) hf)
@[reducible] def gNil : TGs := fun vs σ H Q => vs = [] ∧ Q σ H
@[reducible] def gCons (t : TG) (u : TGs) : TGs := fun vs σ H Q => ∃ v r, vs = v :: r ∧ t v σ H fun σ' H' => u r σ' H' Q
theorem pgs_nil : PGs X [] gNil := by
  intro pins s σ H vs us Q I r h
  obtain ⟨e, h⟩ := h
  subst e
  cases r
  exact assignInOrder_nil ⟨σ, H, I, h⟩
theorem pgs_cons {e : Expr} {es : List Expr} {t : TG} {u : TGs} (h1 : PG X e t) (h2 : PGs X es u)
    (hs : (assignEach (e :: es) X.env).map (·.2) = assign e X.env :: (assignEach es X.env).map (·.2) := by rfl) : PGs X (e :: es) (gCons t u) := by
  intro pins s σ H vs us Q I r h
  obtain ⟨v, vr, e1, h⟩ := h
  subst e1
  cases r with
  | cons r rr =>
    rw [hs]
    refine assignInOrder_cons (thn (h1 pins s σ H _ _ _ I r h) fun _ s1 ⟨σ1, H1, I1, q1⟩ => ?_)
    exact h2 pins s1 σ1 H1 _ _ Q I1 rr q1
/-- (a, b, ..) = a tuple of that length -/
@[reducible] def gTup (K : PySem.W.Frag) (n : Nat) (t : TGs) : TG := fun v σ H Q => ∃ a xs, v = .ref a ∧ SqT K H a xs ∧ xs.length = n ∧ t xs σ H Q
theorem pg_tup {es : List Expr} {k : Nat} {t : TGs} {n : Nat} (hc : X.calm = true) (h : PGs X es t)
    (hn : (assignEach es X.env).length = n := by rfl) (hst : (assignEach es X.env).findIdx? (·.1) = none := by rfl) : PG X (.Tuple es k pos) (gTup X.K n t) := by
  intro pins s σ H v u Q I r hw
  obtain ⟨a, xs, e1, hq, hl, hw⟩ := hw
  subst e1
  cases r
  obtain ⟨its, rv, ht, hz⟩ := I.tuple hq
  refine assign_Tuple_tuple (I.ok.hd hc) ht (by simp [hn, ← hl, rv.length]) hst fun h' hx => ?_
  have I1 : Inv X pins σ H { s with heap := h' } := I.kept (t' := s.toks) fun b o e => hx b o (Nat.ne_of_lt (Heap.lt_size e)) e
  exact h pins _ σ H xs _ Q I1 (by simpa using rv) hw
/-- o[i] = .. -/
@[reducible] def gSub (to ti : TE) (t : TSet) : TG := fun v σ H Q => to σ H fun o H1 => ti σ H1 fun i H2 => t o i v H2 fun H3 => Q σ H3
theorem pg_sub {o i : Expr} {to ti : TE} {t : TSet} (ho : PE X o to) (hi : PE X i ti) (hs : PSet X t)
    (ha : ∀ v, assign (.Subscript o i pos) X.env v = (do
      let ov ← holding [v] (eval o X.env)
      let iv ← holding [v, ov] (eval i X.env)
      standAt pos
      holding [v, ov, iv] (setItem ov iv v)
      release [v, ov, iv] []) := by intro _; rfl) : PG X (.Subscript o i pos) (gSub to ti t) := by
  intro pins s σ H v u Q I r h
  rw [ha]
  refine wpAny_bind (wpAny_holding (thn (ho pins s σ H _ I h) fun ov s1 ⟨x, H1, I1, r1, q1⟩ => ?_))
  refine wpAny_bind (wpAny_holding (thn (hi pins s1 σ H1 _ I1 q1) fun iv s2 ⟨y, H2, I2, r2, q2⟩ => ?_))
  refine wpAny_bind (wpAny_standAt (wpAny_bind (wpAny_holding (thn (hs pins s2 σ H2 x y v ov iv u _ I2 r1 r2 r q2) fun _ s3 ⟨H3, I3, q3⟩ => ?_))))
  exact wpAny_release ⟨σ, H3, I3, q3⟩
/-- target = value -/
@[reducible] def tAsg (te : TE) (g : TG) : TS := fun D σ H => te σ H fun x H1 => g x σ H1 D.nx
theorem ps_asg {tg e : Expr} {te : TE} {g : TG} (he : PE X e te) (hg : PG X tg g) (hs : swapsWithSole [tg] e pos.line X.env = pure false := by rfl) (hw : swappedStores [tg] e X.env = pure none := by rfl)
    (h1 : (assignEach [tg] X.env).map (·.2) = [assign tg X.env] := by rfl) : PS X (.Assign [tg] e pos) (tAsg te g) := by
  intro pins s σ H D I h
  refine wpAny_Assign_stores (thn (he pins s σ H _ I h) fun v s1 ⟨x, H1, I1, r1, q1⟩ => ?_) hs hw
  rw [h1]
  exact thn (hg pins s1 σ H1 x v _ I1 r1 q1) fun _ s2 q => q
/-- name = value -/
theorem ps_set {i : Nat} {x : Str} {e : Expr} {te : TE} {pos' : Pos} (hN : X.N.Nodup) (hi : X.N[i]? = some x) (hx : Loc X.env.scope x) (he : PE X e te) (hs : swapsWith e (some (.Name x pos')) pos.line X.env = pure false := by rfl) (hf : X.fn x = true ∨ X.env.scope.names.lookup x = some .local := by first | exact .inl rfl | exact .inr rfl | assumption) :
    PS X (.Assign [.Name x pos'] e pos) (tAsg te (gName i)) := by
  intro pins s σ H D I h
  refine wpAny_Assign_Name (thn (he pins s σ H _ I h) fun v s1 ⟨y, H1, I1, r1, q1⟩ => ?_) hs
  exact store_ok I1 hN hi hx r1 (fun s2 I2 => ⟨_, H1, I2, q1⟩) hf
end

/-! ### while -/
section
variable {X : Cx} {pos : Pos}
/-- the invariant W with its measure -/
def tWhile (c : TT) (tb : TS) : TS := fun D σ H => ∃ W : Nat → St → Hp → Prop, (∃ m, W m σ H) ∧ ∀ m σ H, W m σ H →
  c σ H fun b H1 => if b = true then ∃ N : St → Hp → Prop, (∀ σ' H', N σ' H' → ∃ m', m' < m ∧ W m' σ' H') ∧ tb { D with nx := N, ct := N, bk := D.nx } σ H1 else D.nx σ H1
theorem ps_while {c : Expr} {body : List Stmt} {tc : TT} {tb : TS} (hp : PassesOwn (model X.prog X.w) X.A X.env X.xe) (hc : PT X c tc) (hb : PSs X body tb) : PS X (.While c body [] pos) (tWhile tc tb) := by
  intro pins s σ H D I h
  obtain ⟨W, ⟨m0, w0⟩, turn⟩ := h
  refine wpAny_While (codeAny_whileLoop (fun n s' => ∃ σ' H', Inv X pins σ' H' s' ∧ W n σ' H') ?_ m0 ⟨σ, H, I, w0⟩)
  rintro n s1 ⟨σ1, H1, I1, w1⟩
  refine wpAny_passesOwn hp (thn (hc pins s1 σ1 H1 _ I1 (turn n σ1 H1 w1)) fun b s2 ⟨H2, I2, q2⟩ => ?_)
  cases b with
  | true =>
    obtain ⟨N, hN, q2⟩ := q2
    rw [if_pos rfl]
    refine wpAny_passesOwn hp (thn (hb pins s2 σ1 H2 _ I2 q2) fun f s3 q3 => ?_)
    cases f with
    | next =>
      obtain ⟨σ3, H3, I3, n3⟩ := q3
      obtain ⟨m', hm, w3⟩ := hN σ3 H3 n3
      exact ⟨m', hm, σ3, H3, I3, w3⟩
    | cont =>
      obtain ⟨σ3, H3, I3, n3⟩ := q3
      obtain ⟨m', hm, w3⟩ := hN σ3 H3 n3
      exact ⟨m', hm, σ3, H3, I3, w3⟩
    | brk => exact q3
    | ret v => exact q3
  | false =>
    rw [if_neg Bool.false_ne_true]
    exact wpAny_execs_nil ⟨σ1, H2, I2, q2⟩
end

/-! ### what a loop or a comprehension walks -/
/-- at turn i: it yields x (the heap may grow), or it stops -/
structure It where
  go : Nat → Hp → Prop
  yld : Nat → Hp → V → Hp → Prop
  stop : Nat → Hp → Prop
/-- the iterator's own objects may turn: they are not the frame's, not pinned, younger than the entry (or a comprehension's own) -/
def FpOk (X : Cx) (pins : List (Addr × Obj)) (H : Hp) (b : Addr) : Prop :=
  H b = none ∧ b ≠ X.env.locals ∧ b ∉ X.fs ∧ (b ∈ X.ex ∨ X.s_0.heap.objs.size ≤ b) ∧ (∀ x c, X.env.cells.lookup x = some c → c ≠ b) ∧ ∀ p ∈ X.pn ++ pins, p.1 ≠ b
theorem Inv.fpOk {X : Cx} {pins : List (Addr × Obj)} {σ : St} {H H' : Hp} {s : Shared} {b : Addr} (I : Inv X pins σ H s) (hb : s.heap.objs.size ≤ b) (hn : H' b = none) : FpOk X pins H' b := by
  refine ⟨hn, Nat.ne_of_gt (Nat.lt_of_lt_of_le I.lt hb), I.nofs hb, .inr (Nat.le_trans I.sz hb), fun x c e z => ?_, fun p hp z => ?_⟩
  · obtain ⟨v, q⟩ := I.cell x c e
    exact absurd (Nat.lt_of_lt_of_le q.lt (by rw [z]; exact hb)) (Nat.lt_irrefl _)
  · exact absurd (Nat.lt_of_lt_of_le (Heap.lt_size (I.pin p hp).1) (by rw [z]; exact hb)) (Nat.lt_irrefl _)
structure Turn (P : Program) (w : World) (K : PySem.W.Frag) (tg : Expr) (J : It) (fp : List Addr) (it : Addr) (tn : Nat → Heap → Prop) : Prop where
  mem : it ∈ fp
  obj : ∀ i h, tn i h → ∀ b ∈ fp, ∃ o, h.get? b = some o ∧ ∀ v, o.data ≠ .cell v
  keep : ∀ i h h', tn i h → (∀ b ∈ fp, ∀ o, h.get? b = some o → h'.get? b = some o) → tn i h'
  item : ∀ (X : Cx), X.prog = P → X.w = w → X.K = K → X.calm = true → ∀ (i : Nat) (pins : List (Addr × Obj)) (s : Shared) (σ : St) (H : Hp) (E : Value → Shared → Prop), Inv X pins σ H s → (∀ b ∈ fp, FpOk X pins H b) → tn i s.heap → J.go i H →
    wpAny (model P w) X.A (pyNext (.ref it)) (fun r s1 => ∃ u, r = some u ∧
      wpAny (model P w) X.A (letOwnedTupleGo tg (.ref it) u) (fun _ s2 => ∃ x H', Inv X pins σ H' s2 ∧ RelV x u ∧ J.yld i H x H' ∧ tn (i + 1) s2.heap ∧ ∀ b ∈ fp, H' b = none) E s1) E s
  done : ∀ (X : Cx), X.prog = P → X.w = w → X.K = K → X.calm = true → ∀ (i : Nat) (pins : List (Addr × Obj)) (s : Shared) (σ : St) (H : Hp) (E : Value → Shared → Prop), Inv X pins σ H s → (∀ b ∈ fp, FpOk X pins H b) → tn i s.heap → J.stop i H →
    wpAny (model P w) X.A (pyNext (.ref it)) (fun r s1 => r = none ∧ Inv X pins σ H s1) E s
  self : ∀ (A : Around) (i : Nat) (s : Shared) (Q : Value → Shared → Prop) (E : Value → Shared → Prop), tn i s.heap → Q (.ref it) s → wpAny (model P w) A (pyIter (.ref it)) Q E s
abbrev TI := St → Hp → (It → Hp → Prop) → Prop
/-- an iterator has come -/
def PIE (X : Cx) (pins : List (Addr × Obj)) (σ : St) (tg : Expr) (R : It → Hp → Prop) (itv : Value) (s2 : Shared) : Prop :=
  ∃ (it : Addr) (fp : List Addr) (tn : Nat → Heap → Prop) (J : It) (H' : Hp), itv = .ref it ∧ Inv X pins σ H' s2 ∧ Turn X.prog X.w X.K tg J fp it tn ∧ tn 0 s2.heap ∧ (∀ b ∈ fp, FpOk X pins H' b) ∧ R J H'
def PI (X : Cx) (tg iter : Expr) (wi : TI) : Prop :=
  ∀ (pins : List (Addr × Obj)) (s : Shared) (σ : St) (H : Hp) (R : It → Hp → Prop), Inv X pins σ H s → wi σ H R →
    wpAny (model X.prog X.w) X.A (eval iter X.env) (fun v s1 => wpAny (model X.prog X.w) X.A (pyIter v) (PIE X pins σ tg R) X.xe s1) X.xe s

/-- the step ahead of the store is nothing for an iterator that keeps no tuple -/
theorem go_of {M : Model} {A : Around} {E : Value → Shared → Prop} {s : Shared} {tg : Expr} {it : Addr} {u : Value} {o : Obj} {n : String} {vs : Array Value} {Q : Unit → Shared → Prop} (ho : s.heap.get? it = some o) (hc : o.cls = .type n) (hd : o.data = .fields vs)
    (hn : ["enumerate", "zip", "dict_itemiterator", "dict_reverseitemiterator", "odict_iterator", "itertools.zip_longest", "itertools.pairwise"].contains n = false) (hQ : Q () s) : wpAny M A (letOwnedTupleGo tg (.ref it) u) Q E s := by
  unfold letOwnedTupleGo
  cases tg <;> first
    | exact wpAny_pure hQ
    | (cases u <;> first
        | exact wpAny_pure hQ
        | (refine wpAny_bind (wpAny_load ho ?_)
           rw [hc, hd]
           show wpAny M A (if (["enumerate", "zip", "dict_itemiterator", "dict_reverseitemiterator", "odict_iterator", "itertools.zip_longest", "itertools.pairwise"].contains n && vs[0]? == some (rawInt _)) = true then _ else _) Q E s
           rw [if_neg (by intro h; rw [hn, Bool.false_and] at h; cases h)]
           exact wpAny_pure hQ))

/-- the list at a, as it stands at each turn (a loop may append to it) -/
def Itl (K : PySem.W.Frag) (a : Addr) : It :=
  ⟨fun i H => ∃ xs x, SqL K H a xs ∧ xs[i]? = some x, fun i H x H' => H' = H ∧ ∀ xs, SqL K H a xs → xs[i]? = some x, fun i H => ∃ xs, SqL K H a xs ∧ xs.length ≤ i⟩
def Itt (K : PySem.W.Frag) (a : Addr) : It :=
  ⟨fun i H => ∃ xs x, SqT K H a xs ∧ xs[i]? = some x, fun i H x H' => H' = H ∧ ∀ xs, SqT K H a xs → xs[i]? = some x, fun i H => ∃ xs, SqT K H a xs ∧ xs.length ≤ i⟩
/-- lo, lo + 1, .. (n of them) -/
def Itr (lo : Int) (n : Nat) : It := ⟨fun i _ => i < n, fun i H x H' => H' = H ∧ x = .int (lo + i), fun i _ => n ≤ i⟩
theorem turn_list {P : Program} {w : World} {K : PySem.W.Frag} {tg : Expr} (a it : Addr) : Turn P w K tg (Itl K a) [it] it (fun i h => h.IsListIter it a i) where
  mem := by simp
  obj := fun i h st b hb => by
    have e : b = it := by simpa using hb
    subst e
    obtain ⟨o, e, c, d⟩ := st
    exact ⟨o, e, fun v z => by rw [d] at z; cases z⟩
  keep := fun i h h' st k => st.at fun o e => k it (by simp) o e
  item := by
    intro X hP hw hK hc i pins s σ H E I hf st hg
    subst hP hw hK
    obtain ⟨xs, x, hq, hx⟩ := hg
    obtain ⟨its, rv, p, hz⟩ := I.list hq
    obtain ⟨u, hu, ru⟩ := rv.get hx
    obtain ⟨f0, f1, f2, f3, f4, f5⟩ := hf it (by simp)
    refine wpAny_pyNext_list_item st p.isList (x := u) (by simpa using hu) fun h' st' sb => ?_
    have I1 : Inv X pins σ H { s with heap := h' } := I.turned (t' := s.toks) (fun b o hb e => (sb.2 b hb).trans e) f0 f1 f3 f4 f5
    obtain ⟨o, e, c, d⟩ := id st'
    exact ⟨u, rfl, go_of (s := { s with heap := h' }) e c d (by decide) ⟨x, H, I1, ru, ⟨rfl, fun ys hy => by rw [I.list_inj hy hq]; exact hx⟩, st', fun b hb => (hf b hb).1⟩⟩
  done := by
    intro X hP hw hK hc i pins s σ H E I hf st hg
    subst hP hw hK
    obtain ⟨xs, hq, hx⟩ := hg
    obtain ⟨its, rv, p, hz⟩ := I.list hq
    obtain ⟨f0, f1, f2, f3, f4, f5⟩ := hf it (by simp)
    have hl := rv.length
    exact wpAny_pyNext_list_end (I.ok.hd hc) st p.isList (by simp; omega) fun h' eb => ⟨rfl, I.turned (t' := s.toks) (fun b o hb e => eb b o hb e) f0 f1 f3 f4 f5⟩
  self := fun _ _ _ _ _ st h => wpAny_pyIter_listiter st h
theorem turn_tuple {P : Program} {w : World} {K : PySem.W.Frag} {tg : Expr} (a it : Addr) : Turn P w K tg (Itt K a) [it] it (fun i h => h.IsTupleIter it a i) where
  mem := by simp
  obj := fun i h st b hb => by
    have e : b = it := by simpa using hb
    subst e
    obtain ⟨o, e, c, d⟩ := st
    exact ⟨o, e, fun v z => by rw [d] at z; cases z⟩
  keep := fun i h h' st k => st.at fun o e => k it (by simp) o e
  item := by
    intro X hP hw hK hc i pins s σ H E I hf st hg
    subst hP hw hK
    obtain ⟨xs, x, hq, hx⟩ := hg
    obtain ⟨its, rv, p, hz⟩ := I.tuple hq
    obtain ⟨u, hu, ru⟩ := rv.get hx
    obtain ⟨f0, f1, f2, f3, f4, f5⟩ := hf it (by simp)
    refine wpAny_pyNext_tuple_item st (show s.heap.IsTuple a its.toArray from p) (x := u) (by simpa using hu) fun h' st' sb => ?_
    have I1 : Inv X pins σ H { s with heap := h' } := I.turned (t' := s.toks) (fun b o hb e => (sb.2 b hb).trans e) f0 f1 f3 f4 f5
    obtain ⟨o, e, c, d⟩ := id st'
    exact ⟨u, rfl, go_of (s := { s with heap := h' }) e c d (by decide) ⟨x, H, I1, ru, ⟨rfl, fun ys hy => by rw [I.tuple_inj hy hq]; exact hx⟩, st', fun b hb => (hf b hb).1⟩⟩
  done := by
    intro X hP hw hK hc i pins s σ H E I hf st hg
    subst hP hw hK
    obtain ⟨xs, hq, hx⟩ := hg
    obtain ⟨its, rv, p, hz⟩ := I.tuple hq
    obtain ⟨f0, f1, f2, f3, f4, f5⟩ := hf it (by simp)
    have hl := rv.length
    exact wpAny_pyNext_tuple_end (I.ok.hd hc) st (show s.heap.IsTuple a its.toArray from p) (by simp; omega) fun h' eb => ⟨rfl, I.turned (t' := s.toks) (fun b o hb e => eb b o hb e) f0 f1 f3 f4 f5⟩
  self := fun _ _ _ _ _ st h => wpAny_pyIter_tupleiter st h
theorem turn_range {P : Program} {w : World} {K : PySem.W.Frag} {tg : Expr} (it : Addr) (lo : Int) (n : Nat) : Turn P w K tg (Itr lo n) [it] it (fun i h => IsRangeIter h it (lo + (i : Nat) * 1) ((n : Int) - (i : Nat)) 1) where
  mem := by simp
  obj := fun i h st b hb => by
    have e : b = it := by simpa using hb
    subst e
    exact ⟨_, st, fun v z => by
      have z' : Data.fields _ = Data.cell v := z
      cases z'⟩
  keep := fun i h h' st k => k it (by simp) _ st
  item := by
    intro X hP hw hK hc i pins s σ H E I hf st hg
    subst hP hw hK
    obtain ⟨f0, f1, f2, f3, f4, f5⟩ := hf it (by simp)
    have W := Walks.range (prog := X.prog) (w := X.w) (I.ok.hd hc) it lo 1 n
    refine W.item i s _ _ hg st fun v h' tk hv st' kk => ?_
    obtain ⟨t, rfl⟩ := hv
    have I1 : Inv X pins σ H { s with heap := h', toks := tk } := I.turned (fun b o hb e => kk b o (by simpa using hb) e) f0 f1 f3 f4 f5
    refine ⟨_, rfl, go_of (s := { s with heap := h', toks := tk }) (n := "range_iterator") st' rfl rfl (by decide) ⟨.int (lo + i), H, I1, ⟨t, ?_⟩, ⟨rfl, rfl⟩, st', fun b hb => (hf b hb).1⟩⟩
    rw [Int.mul_one]
  done := by
    intro X hP hw hK hc i pins s σ H E I hf st hg
    subst hP hw hK
    obtain ⟨f0, f1, f2, f3, f4, f5⟩ := hf it (by simp)
    exact wpAny_pyNext_range_end (I.ok.hd hc) st (by have : n ≤ i := hg; omega) fun h' eb => ⟨rfl, I.turned (t' := s.toks) (fun b o hb e => eb b o hb e) f0 f1 f3 f4 f5⟩
  self := fun _ _ _ _ _ st h => wpAny_pyIter_rangeiter st h
end L2

namespace L2
open PySem PySem.Spec PyProof.Rows
section
variable {X : Cx} {tg : Expr}
@[reducible] def iList (K : PySem.W.Frag) (tl : TE) : TI := fun σ H R => tl σ H fun x H1 => ∃ a, x = .ref a ∧ (∃ xs, SqL K H1 a xs) ∧ R (Itl K a) H1
@[reducible] def iTup (K : PySem.W.Frag) (tl : TE) : TI := fun σ H R => tl σ H fun x H1 => ∃ a, x = .ref a ∧ (∃ xs, SqT K H1 a xs) ∧ R (Itt K a) H1
theorem pi_list {l : Expr} {tl : TE} (hl : PE X l tl) : PI X tg l (iList X.K tl) := by
  intro pins s σ H R I h
  refine thn (hl pins s σ H _ I h) fun v s1 ⟨x, H1, I1, r1, q1⟩ => ?_
  obtain ⟨a, e, ⟨xs, hq⟩, q⟩ := q1
  subst e
  cases r1
  obtain ⟨its, rv, p, hz⟩ := I1.list hq
  refine wpAny_pyIter_list p.isList ?_
  refine ⟨s1.heap.objs.size, [s1.heap.objs.size], _, _, H1, rfl, I1.kept (t' := s1.toks) fun b o e => Heap.get?_push_of_some _ e, turn_list a _, ⟨_, Heap.get?_push_size _ rfl, rfl, rfl⟩, fun b hb => ?_, q⟩
  have e : b = s1.heap.objs.size := by simpa using hb
  subst e
  exact I1.fpOk (Nat.le_refl _) (I1.hok.fresh (Nat.le_refl _))
theorem pi_tup {l : Expr} {tl : TE} (hl : PE X l tl) : PI X tg l (iTup X.K tl) := by
  intro pins s σ H R I h
  refine thn (hl pins s σ H _ I h) fun v s1 ⟨x, H1, I1, r1, q1⟩ => ?_
  obtain ⟨a, e, ⟨xs, hq⟩, q⟩ := q1
  subst e
  cases r1
  obtain ⟨its, rv, p, hz⟩ := I1.tuple hq
  refine wpAny_pyIter_tuple (show s1.heap.IsTuple a its.toArray from p) ?_
  refine ⟨s1.heap.objs.size, [s1.heap.objs.size], _, _, H1, rfl, I1.kept (t' := s1.toks) fun b o e => Heap.get?_push_of_some _ e, turn_tuple a _, ⟨_, Heap.get?_push_size _ rfl, rfl, rfl⟩, fun b hb => ?_, q⟩
  have e : b = s1.heap.objs.size := by simpa using hb
  subst e
  exact I1.fpOk (Nat.le_refl _) (I1.hok.fresh (Nat.le_refl _))
/-- a range object just made, walked -/
theorem range_it {pins : List (Addr × Obj)} {σ : St} {H : Hp} {s : Shared} {R : It → Hp → Prop} {E : Value → Shared → Prop} {lo hi : Int} {t u v : Tok} {tk : Nat} (I : Inv X pins σ H s) (h1 : -(2 ^ 62) ≤ lo) (h2 : lo < 2 ^ 62) (h3 : -(2 ^ 62) ≤ hi) (h4 : hi < 2 ^ 62)
    (q : R (Itr lo (hi - lo).toNat) H) : wpAny (model X.prog X.w) X.A (pyIter (.ref s.heap.objs.size)) (PIE X pins σ tg R) E { s with heap := s.heap.push { cls := .type "range", data := .fields #[.int lo t, .int hi u, .int 1 v] }, toks := tk } := by
  refine wpAny_pyIter_range (IsRange.new ..) (small_one h1 h2 h3 h4) ?_
  have I1 : Inv X pins σ H { s with heap := s.heap.push { cls := .type "range", data := .fields #[.int lo t, .int hi u, .int 1 v] }, toks := tk } := I.kept fun b o e => Heap.get?_push_of_some _ e
  refine ⟨(s.heap.push { cls := .type "range", data := .fields #[.int lo t, .int hi u, .int 1 v] }).objs.size, [(s.heap.push { cls := .type "range", data := .fields #[.int lo t, .int hi u, .int 1 v] }).objs.size], _, _, H, rfl,
    I1.kept (t' := tk) fun b o e => Heap.get?_push_of_some _ e, turn_range _ lo (hi - lo).toNat, ?_, fun b hb => ?_, q⟩
  · have e1 : lo + ((0 : Nat) : Int) * 1 = lo := by simp
    have e2 : (((hi - lo).toNat : Nat) : Int) - ((0 : Nat) : Int) = Builtin.Range.rangeSize lo hi 1 := by rw [rangeSize_one]; split <;> omega
    show IsRangeIter _ _ (lo + ((0 : Nat) : Int) * 1) ((((hi - lo).toNat : Nat) : Int) - ((0 : Nat) : Int)) 1
    rw [e1, e2]
    exact Heap.get?_push_size _ rfl
  · have e : b = (s.heap.push { cls := .type "range", data := .fields #[.int lo t, .int hi u, .int 1 v] }).objs.size := by simpa using hb
    subst e
    exact I1.fpOk (Nat.le_refl _) (I1.hok.fresh (Nat.le_refl _))
@[reducible] def iRng1 (ta : TA) : TI := fun σ H R => ta σ H fun vs H1 => ∃ j : Int, vs = [.int j] ∧ -(2 ^ 62) ≤ j ∧ j < 2 ^ 62 ∧ R (Itr 0 j.toNat) H1
theorem pi_range1 {a : Expr} {ta : TA} {p pos : Pos} (hg : Gl X "range") (hm : X.mg "range" = none) (ha : PA X [a] ta) (hs : starEach [a] X.env = [(false, eval a X.env)] := by rfl) : PI X tg (.Call (.Name "range" p) [a] [] pos) (iRng1 ta) := by
  intro pins s σ H R I h
  refine Call_ (ld_blt I hg hm boot_range (PyProof.Rows.callWith_type1 (thn (ha pos pins s σ H _ I h) fun us s1 ⟨vs, H1, I1, r1, q1⟩ => ?_) hs rfl))
  obtain ⟨j, e, q1, q2, q⟩ := q1
  subst e
  cases r1 with
  | cons r rr =>
    cases rr
    obtain ⟨t, rfl⟩ := r
    exact call_range_1 (range_it I1 (by omega) (by omega) q1 q2 (by simpa using q))
/-! ### for -/
/-- W: the invariant by the turn and a measure; N: what the body is to reach -/
def tFor (wi : TI) (g : TG) (tb : TS) : TS := fun D σ H => wi σ H fun J H1 => ∃ W : Nat → Nat → St → Hp → Prop, (∃ m, W 0 m σ H1) ∧ ∀ i m σ H, W i m σ H →
  (J.stop i H ∧ D.nx σ H) ∨ (J.go i H ∧ ∃ N : St → Hp → Prop, (∀ σ' H', N σ' H' → ∃ m', m' < m ∧ W (i + 1) m' σ' H') ∧ ∀ x H', J.yld i H x H' → g x σ H' fun σ2 H2 => tb { D with nx := N, ct := N, bk := D.nx } σ2 H2)
/-- the records at fp as they stand -/
def pinsAt (fp : List Addr) (h : Heap) : List (Addr × Obj) := fp.filterMap fun b => (h.get? b).map fun o => (b, o)
theorem mem_pinsAt {fp : List Addr} {h : Heap} {b : Addr} {o : Obj} (hb : b ∈ fp) (e : h.get? b = some o) : (b, o) ∈ pinsAt fp h := List.mem_filterMap.mpr ⟨b, hb, by rw [e]; rfl⟩
theorem of_pinsAt {fp : List Addr} {h : Heap} {p : Addr × Obj} (hp : p ∈ pinsAt fp h) : p.1 ∈ fp ∧ h.get? p.1 = some p.2 := by
  obtain ⟨b, hb, e⟩ := List.mem_filterMap.mp hp
  cases q : h.get? b with
  | none => rw [q] at e; cases e
  | some o =>
    rw [q] at e
    have e' : (b, o) = p := Option.some.inj e
    subst e'
    exact ⟨hb, q⟩
theorem Inv.pinned {pins : List (Addr × Obj)} {σ : St} {H : Hp} {s : Shared} {fp : List Addr} (I : Inv X pins σ H s) (hf : ∀ b ∈ fp, FpOk X pins H b) (ho : ∀ b ∈ fp, ∃ o, s.heap.get? b = some o ∧ ∀ v, o.data ≠ .cell v) : Inv X (pins ++ pinsAt fp s.heap) σ H s :=
  I.pins_of fun p hp => (List.mem_append.mp hp).elim (fun z => I.pin p (List.mem_append_right _ z)) fun z => by
    obtain ⟨hb, e⟩ := of_pinsAt z
    obtain ⟨f0, f1, f2, _⟩ := hf p.1 hb
    obtain ⟨o, e', d⟩ := ho p.1 hb
    rw [e] at e'; cases e'
    exact ⟨e, f0, f1, f2, d⟩
theorem Inv.unpinned {pins pl : List (Addr × Obj)} {σ : St} {H : Hp} {s : Shared} (I : Inv X (pins ++ pl) σ H s) : Inv X pins σ H s := I.pins_of fun p hp => I.pin p (List.mem_append_right _ (List.mem_append_left _ hp))
theorem ps_for {iter : Expr} {body : List Stmt} {wi : TI} {g : TG} {tb : TS} {pos : Pos} (hp : PassesOwn (model X.prog X.w) X.A X.env X.xe) (hc : X.calm = true) (hi : PI X tg iter wi) (hg : PG X tg g) (hb : PSs X body tb)
    (hs : ∀ x, foldedSetIterable iter X.env x = pure x := by intro _; rfl) : PS X (.For tg iter body [] pos) (tFor wi g tb) := by
  intro pins s σ H D I h
  refine wpAny_For (thn (hi pins s σ H _ I h) fun v s1 h1 => thn h1 fun itv s2 h2 => ?_) hs
  obtain ⟨it, fp, tn, J, H2, e, I2, T, st2, f2, W, ⟨m0, w0⟩, turn⟩ := h2
  subst e
  -- what stays true of the iterator's objects through the loop
  have stat : ∀ {H' : Hp}, (∀ b ∈ fp, H' b = none) → ∀ b ∈ fp, FpOk X pins H' b := fun hn b hb => ⟨hn b hb, (f2 b hb).2⟩
  refine codeAny_forLoop_any (fun n s' => ∃ i σ' H', Inv X pins σ' H' s' ∧ tn i s'.heap ∧ (∀ b ∈ fp, H' b = none) ∧ W i n σ' H') ?_ m0 ⟨0, σ, H2, I2, st2, fun b hb => (f2 b hb).1, w0⟩
  rintro n s3 ⟨i, σ3, H3, I3, st3, fr3, w3⟩
  rcases turn i n σ3 H3 w3 with ⟨stop, qn⟩ | ⟨go, N, hN, step⟩
  · refine wpAny_passesOwn hp (thn (T.done X rfl rfl rfl hc i pins s3 σ3 H3 X.xe I3 (stat fr3) st3 stop) fun r s4 ⟨hr, I4⟩ => ?_)
    subst hr
    exact wpAny_execs_nil ⟨σ3, H3, I4, qn⟩
  · refine wpAny_passesOwn hp (thn (T.item X rfl rfl rfl hc i pins s3 σ3 H3 X.xe I3 (stat fr3) st3 go) fun r s4 ⟨u, hr, h4⟩ => ?_)
    subst hr
    refine wpAny_passesOwn hp (thn h4 fun _ s5 ⟨x, H5, I5, r5, y5, st5, fr5⟩ => ?_)
    have I5' := I5.pinned (stat fr5) (T.obj _ _ st5)
    refine wpAny_passesOwn hp (thn (hg _ s5 σ3 H5 x u _ I5' r5 (step x H5 y5)) fun _ s6 ⟨σ6, H6, I6, q6⟩ => ?_)
    refine wpAny_passesOwn hp (thn (hb _ s6 σ6 H6 _ I6 q6) fun f s7 q7 => ?_)
    have again : ∀ {σ7 : St} {H7 : Hp}, Inv X (pins ++ pinsAt fp s5.heap) σ7 H7 s7 → N σ7 H7 → ∃ m, m < n ∧ ∃ i σ' H', Inv X pins σ' H' s7 ∧ tn i s7.heap ∧ (∀ b ∈ fp, H' b = none) ∧ W i m σ' H' := fun {σ7 H7} I7 n7 => by
      obtain ⟨m', hm, w7⟩ := hN σ7 H7 n7
      refine ⟨m', hm, i + 1, σ7, H7, I7.unpinned, T.keep _ _ _ st5 fun b hb o e => (I7.pin (b, o) (List.mem_append_right _ (List.mem_append_right _ (mem_pinsAt hb e)))).1, fun b hb => ?_, w7⟩
      obtain ⟨o, e, d⟩ := T.obj _ _ st5 b hb
      exact (I7.pin (b, o) (List.mem_append_right _ (List.mem_append_right _ (mem_pinsAt hb e)))).2.1
    cases f with
    | next => obtain ⟨σ7, H7, I7, n7⟩ := q7; exact again I7 n7
    | cont => obtain ⟨σ7, H7, I7, n7⟩ := q7; exact again I7 n7
    | brk => obtain ⟨σ7, H7, I7, q7⟩ := q7; exact ⟨σ7, H7, I7.unpinned, q7⟩
    | ret v => obtain ⟨x7, σ7, H7, I7, r7, q7⟩ := q7; exact ⟨x7, σ7, H7, I7.unpinned, r7, q7⟩
end

/-! ### the forms one uses -/
/-- over a list that the body leaves as it is -/
theorem for_list {K : PySem.W.Frag} {a : Addr} {xs : List V} {g : TG} {tb : TS} {D : Ends} {σ : St} {H : Hp} (Pv : Nat → St → Hp → Prop) (h0 : Pv 0 σ H) (hl : ∀ i σ H, i ≤ xs.length → Pv i σ H → SqL K H a xs)
    (hs : ∀ i x σ H, xs[i]? = some x → Pv i σ H → g x σ H fun σ2 H2 => tb { D with nx := Pv (i + 1), ct := Pv (i + 1), bk := D.nx } σ2 H2) (hd : ∀ σ H, Pv xs.length σ H → D.nx σ H) :
    ∃ W : Nat → Nat → St → Hp → Prop, (∃ m, W 0 m σ H) ∧ ∀ i m σ H, W i m σ H →
      ((Itl K a).stop i H ∧ D.nx σ H) ∨ ((Itl K a).go i H ∧ ∃ N : St → Hp → Prop, (∀ σ' H', N σ' H' → ∃ m', m' < m ∧ W (i + 1) m' σ' H') ∧ ∀ x H', (Itl K a).yld i H x H' → g x σ H' fun σ2 H2 => tb { D with nx := N, ct := N, bk := D.nx } σ2 H2) := by
  refine ⟨fun i m σ H => m = xs.length - i ∧ i ≤ xs.length ∧ Pv i σ H, ⟨xs.length, by simp, Nat.zero_le _, h0⟩, ?_⟩
  rintro i m σ H ⟨rfl, hi, p⟩
  have q := hl i σ H hi p
  by_cases hlt : i < xs.length
  · refine .inr ⟨⟨xs, xs[i], q, by simp [hlt]⟩, Pv (i + 1), fun σ' H' p' => ⟨xs.length - (i + 1), by omega, rfl, hlt, p'⟩, fun x H' y => ?_⟩
    obtain ⟨e, y⟩ := y
    subst e
    exact hs i x σ _ (y xs q) p
  · have e : i = xs.length := by omega
    subst e
    exact .inl ⟨⟨xs, q, Nat.le_refl _⟩, hd σ H p⟩
theorem for_tup {K : PySem.W.Frag} {a : Addr} {xs : List V} {g : TG} {tb : TS} {D : Ends} {σ : St} {H : Hp} (Pv : Nat → St → Hp → Prop) (h0 : Pv 0 σ H) (hl : ∀ i σ H, i ≤ xs.length → Pv i σ H → SqT K H a xs)
    (hs : ∀ i x σ H, xs[i]? = some x → Pv i σ H → g x σ H fun σ2 H2 => tb { D with nx := Pv (i + 1), ct := Pv (i + 1), bk := D.nx } σ2 H2) (hd : ∀ σ H, Pv xs.length σ H → D.nx σ H) :
    ∃ W : Nat → Nat → St → Hp → Prop, (∃ m, W 0 m σ H) ∧ ∀ i m σ H, W i m σ H →
      ((Itt K a).stop i H ∧ D.nx σ H) ∨ ((Itt K a).go i H ∧ ∃ N : St → Hp → Prop, (∀ σ' H', N σ' H' → ∃ m', m' < m ∧ W (i + 1) m' σ' H') ∧ ∀ x H', (Itt K a).yld i H x H' → g x σ H' fun σ2 H2 => tb { D with nx := N, ct := N, bk := D.nx } σ2 H2) := by
  refine ⟨fun i m σ H => m = xs.length - i ∧ i ≤ xs.length ∧ Pv i σ H, ⟨xs.length, by simp, Nat.zero_le _, h0⟩, ?_⟩
  rintro i m σ H ⟨rfl, hi, p⟩
  have q := hl i σ H hi p
  by_cases hlt : i < xs.length
  · refine .inr ⟨⟨xs, xs[i], q, by simp [hlt]⟩, Pv (i + 1), fun σ' H' p' => ⟨xs.length - (i + 1), by omega, rfl, hlt, p'⟩, fun x H' y => ?_⟩
    obtain ⟨e, y⟩ := y
    subst e
    exact hs i x σ _ (y xs q) p
  · have e : i = xs.length := by omega
    subst e
    exact .inl ⟨⟨xs, q, Nat.le_refl _⟩, hd σ H p⟩
theorem for_range {lo : Int} {n : Nat} {g : TG} {tb : TS} {D : Ends} {σ : St} {H : Hp} (Pv : Nat → St → Hp → Prop) (h0 : Pv 0 σ H)
    (hs : ∀ i σ H, i < n → Pv i σ H → g (.int (lo + i)) σ H fun σ2 H2 => tb { D with nx := Pv (i + 1), ct := Pv (i + 1), bk := D.nx } σ2 H2) (hd : ∀ σ H, Pv n σ H → D.nx σ H) :
    ∃ W : Nat → Nat → St → Hp → Prop, (∃ m, W 0 m σ H) ∧ ∀ i m σ H, W i m σ H →
      ((Itr lo n).stop i H ∧ D.nx σ H) ∨ ((Itr lo n).go i H ∧ ∃ N : St → Hp → Prop, (∀ σ' H', N σ' H' → ∃ m', m' < m ∧ W (i + 1) m' σ' H') ∧ ∀ x H', (Itr lo n).yld i H x H' → g x σ H' fun σ2 H2 => tb { D with nx := N, ct := N, bk := D.nx } σ2 H2) := by
  refine ⟨fun i m σ H => m = n - i ∧ i ≤ n ∧ Pv i σ H, ⟨n, by simp, Nat.zero_le _, h0⟩, ?_⟩
  rintro i m σ H ⟨rfl, hi, p⟩
  by_cases hlt : i < n
  · refine .inr ⟨hlt, Pv (i + 1), fun σ' H' p' => ⟨n - (i + 1), by omega, rfl, hlt, p'⟩, fun x H' y => ?_⟩
    obtain ⟨e, y⟩ := y
    subst e y
    exact hs i σ _ hlt p
  · have e : i = n := by omega
    subst e
    exact .inl ⟨Nat.le_refl _, hd σ H p⟩
end L2

namespace L2
open PySem PySem.Spec PyProof.Rows

abbrev R2 := V → V → Hp → VK → Prop
/-- a two-place operation on values: f is binaryOp op, inplaceOp op or compareOp op -/
def OpR (X : Cx) (f : Value → Value → Sem Value) (r : R2) : Prop :=
  ∀ (pins : List (Addr × Obj)) (s : Shared) (σ : St) (H : Hp) (x y : V) (v u : Value) (Q : VK), Inv X pins σ H s → RelV x v → RelV y u → r x y H Q →
    wpAny (model X.prog X.w) X.A (f v u) (EP X pins σ Q) X.xe s
/-- a one-place operation -/
def UnR (X : Cx) (f : Value → Sem Value) (r : V → Hp → VK → Prop) : Prop :=
  ∀ (pins : List (Addr × Obj)) (s : Shared) (σ : St) (H : Hp) (x : V) (v : Value) (Q : VK), Inv X pins σ H s → RelV x v → r x H Q →
    wpAny (model X.prog X.w) X.A (f v) (EP X pins σ Q) X.xe s
/-- a call of a value that is known (a builtin, a type) with values -/
def CallR (X : Cx) (f : Value) (r : List V → Hp → VK → Prop) : Prop :=
  ∀ (pins : List (Addr × Obj)) (s : Shared) (σ : St) (H : Hp) (xs : List V) (us : List Value) (Q : VK), Inv X pins σ H s → Vals xs us → r xs H Q →
    wpAny (model X.prog X.w) X.A (call f us) (EP X pins σ Q) X.xe s
/-- a value's truth -/
def TruR (X : Cx) (r : V → Hp → (Bool → Hp → Prop) → Prop) : Prop :=
  ∀ (pins : List (Addr × Obj)) (s : Shared) (σ : St) (H : Hp) (x : V) (v : Value) (Q : Bool → Hp → Prop), Inv X pins σ H s → RelV x v → r x H Q →
    wpAny (model X.prog X.w) X.A (truthy v) (TP X pins σ Q) X.xe s

@[reducible] def tOp (r : R2) (ta tb : TE) : TE := fun σ H Q => ta σ H fun x H1 => tb σ H1 fun y H2 => r x y H2 Q
@[reducible] def tUn (r : V → Hp → VK → Prop) (ta : TE) : TE := fun σ H Q => ta σ H fun x H1 => r x H1 Q
/-- ints in, under C, and a value out -/
@[reducible] def rI (C : Int → Int → Prop) (g : Int → Int → V) : R2 := fun x y H Q => ∃ i j, x = .int i ∧ y = .int j ∧ C i j ∧ Q (g i j) H
@[reducible] def rI0 (g : Int → Int → V) : R2 := fun x y H Q => ∃ i j, x = .int i ∧ y = .int j ∧ Q (g i j) H
@[reducible] def rU (g : Int → V) : V → Hp → VK → Prop := fun x H Q => ∃ i, x = .int i ∧ Q (g i) H

section
variable {X : Cx} {a b c : Expr} {ta tb tc : TE} {pos : Pos}

theorem binT (ha : PE X a ta) (hb : PE X b tb) {pins : List (Addr × Obj)} {s : Shared} {σ : St} {H : Hp} {R : V → V → Hp → Prop} (I : Inv X pins σ H s)
    (h : ta σ H fun x H1 => tb σ H1 fun y H2 => R x y H2) {Q : Value → Shared → Prop} {f : Value → Value → Sem Value}
    (hf : ∀ v u s2 x y H2, Inv X pins σ H2 s2 → RelV x v → RelV y u → R x y H2 → wpAny (model X.prog X.w) X.A (f v u) Q X.xe s2) :
    wpAny (model X.prog X.w) X.A (eval a X.env) (fun v s₁ => wpAny (model X.prog X.w) X.A (eval b X.env) (fun u s₂ => wpAny (model X.prog X.w) X.A (f v u) Q X.xe s₂) X.xe s₁) X.xe s := by
  refine thn (ha pins s σ H _ I h) fun v s1 ⟨x, H1, I1, r1, q1⟩ => ?_
  refine thn (hb pins s1 σ H1 _ I1 q1) fun u s2 ⟨y, H2, I2, r2, q2⟩ => ?_
  exact hf v u s2 x y H2 I2 r1 r2 q2

theorem pe_op {op : Operator} {r : R2} (ho : OpR X (binaryOp op) r) (ha : PE X a ta) (hb : PE X b tb) : PE X (.BinOp a op b pos) (tOp r ta tb) := by
  intro pins s σ H Q I h
  exact wpAny_BinOp (binT ha hb I h fun v u s2 x y H2 I2 rx ry q => ho pins s2 σ H2 x y v u Q I2 rx ry q)
theorem pe_un {op : UnaryOp} {r : V → Hp → VK → Prop} (ho : UnR X (unaryOp op) r) (ha : PE X a ta) : PE X (.UnaryOp op a pos) (tUn r ta) := by
  intro pins s σ H Q I h
  exact UnaryOp_ (thn (ha pins s σ H _ I h) fun v s1 ⟨x, H1, I1, r1, q1⟩ => ho pins s1 σ H1 x v Q I1 r1 q1)
/-! ### ints -/
theorem opI {f : Value → Value → Sem Value} {C : Int → Int → Prop} {g : Int → Int → Int}
    (rule : ∀ (i j : Int) (t u : Tok) (s : Shared) (Q : Value → Shared → Prop) (E : Value → Shared → Prop), C i j → Q (.int (g i j) s.toks) { s with toks := s.toks + 1 } → wpAny (model X.prog X.w) X.A (f (.int i t) (.int j u)) Q E s) :
    OpR X f (rI C fun i j => .int (g i j)) := by
  intro pins s σ H x y v u Q I rx ry h
  obtain ⟨i, j, rfl, rfl, hc, q⟩ := h
  obtain ⟨t, rfl⟩ := rx
  obtain ⟨t', rfl⟩ := ry
  exact rule i j t t' s _ _ hc ⟨.int (g i j), H, I.tok _, ⟨_, rfl⟩, q⟩
theorem opI0 {f : Value → Value → Sem Value} {g : Int → Int → Int}
    (rule : ∀ (i j : Int) (t u : Tok) (s : Shared) (Q : Value → Shared → Prop) (E : Value → Shared → Prop), Q (.int (g i j) s.toks) { s with toks := s.toks + 1 } → wpAny (model X.prog X.w) X.A (f (.int i t) (.int j u)) Q E s) :
    OpR X f (rI0 fun i j => .int (g i j)) := by
  intro pins s σ H x y v u Q I rx ry h
  obtain ⟨i, j, rfl, rfl, q⟩ := h
  obtain ⟨t, rfl⟩ := rx
  obtain ⟨t', rfl⟩ := ry
  exact rule i j t t' s _ _ ⟨.int (g i j), H, I.tok _, ⟨_, rfl⟩, q⟩
theorem opB0 {f : Value → Value → Sem Value} {g : Int → Int → Bool}
    (rule : ∀ (i j : Int) (t u : Tok) (s : Shared) (Q : Value → Shared → Prop) (E : Value → Shared → Prop), Q (.bool (g i j)) s → wpAny (model X.prog X.w) X.A (f (.int i t) (.int j u)) Q E s) :
    OpR X f (rI0 fun i j => .bl (g i j)) := by
  intro pins s σ H x y v u Q I rx ry h
  obtain ⟨i, j, rfl, rfl, q⟩ := h
  obtain ⟨t, rfl⟩ := rx
  obtain ⟨t', rfl⟩ := ry
  exact rule i j t t' s _ _ ⟨.bl (g i j), H, I, rfl, q⟩

def CDiv (i j : Int) : Prop := 0 < j ∧ j < 1073741824
def CPow (i j : Int) : Prop := 0 ≤ j ∧ j ≤ 1000000 ∧ i.natAbs < 2 ^ 64
def CMul (i j : Int) : Prop := (-(2 ^ 64) < i ∧ i < 2 ^ 64) ∨ (-(2 ^ 64) < j ∧ j < 2 ^ 64)
theorem CMul.ok {i j : Int} (h : CMul i j) : IntMulOk i j := by
  rcases h with ⟨h1, h2⟩ | ⟨h1, h2⟩
  · exact .of_left (intBits_le_64 h1 h2)
  · exact .of_right (intBits_le_64 h1 h2)
theorem op_add : OpR X (binaryOp .Add) (rI0 fun i j => .int (i + j)) := opI0 fun _ _ _ _ _ _ _ q => add_int q
theorem op_sub : OpR X (binaryOp .Sub) (rI0 fun i j => .int (i - j)) := opI0 fun _ _ _ _ _ _ _ q => sub_int q
theorem op_mul : OpR X (binaryOp .Mult) (rI CMul fun i j => .int (i * j)) := opI fun _ _ _ _ _ _ _ hc q => mul_int q hc.ok
/-- // by a positive divisor -/
theorem op_fdiv : OpR X (binaryOp .FloorDiv) (rI CDiv fun i j => .int (i / j)) := opI fun i j _ _ _ _ _ hc q => by
  have h1 : (0 : Int) < j := hc.1
  have h2 : j < 1073741824 := hc.2
  exact floordiv_int (by omega) (by rw [Int.fdiv_eq_ediv_of_nonneg i (by omega)]; exact q) (.inl (PyProof.noPylong_small (by omega)))
/-- % by a positive divisor of any size -/
theorem op_mod : OpR X (binaryOp .Mod) (rI (fun _ j => 0 < j) fun i j => .int (i % j)) := opI fun i j _ _ _ _ _ hc q => by
  have h1 : (0 : Int) < j := hc
  exact mod_int' (by omega) (by rw [Int.fmod_eq_emod_of_nonneg i (by omega)]; exact q)
theorem unI {f : Value → Sem Value} {g : Int → Int}
    (rule : ∀ (i : Int) (t : Tok) (s : Shared) (Q : Value → Shared → Prop) (E : Value → Shared → Prop), Q (.int (g i) s.toks) { s with toks := s.toks + 1 } → wpAny (model X.prog X.w) X.A (f (.int i t)) Q E s) :
    UnR X f (rU fun i => .int (g i)) := by
  intro pins s σ H x v Q I rx h
  obtain ⟨i, rfl, q⟩ := h
  obtain ⟨t, rfl⟩ := rx
  exact rule i t s _ _ ⟨.int (g i), H, I.tok _, ⟨_, rfl⟩, q⟩
theorem un_neg : UnR X (unaryOp .USub) (rU fun i => .int (-i)) := unI fun _ _ _ _ _ q => neg_int q
/-! ### bools among ints: n += (a < b) -/
end

/-! ### comparisons -/
/-- the scalars that == tells apart as data does -/
def scal : V → V → Bool
  | .non, .non => true | .non, .int _ => true | .int _, .non => true | .non, .bl _ => true | .bl _, .non => true | .non, .str _ => true | .str _, .non => true
  | .int _, .int _ => true | .bl _, .bl _ => true | .str _, .str _ => true | .byt _, .byt _ => true
  | .int _, .str _ => true | .str _, .int _ => true | .bl _, .str _ => true | .str _, .bl _ => true
  | _, _ => false
@[reducible] def rEq : R2 := fun x y H Q => scal x y = true ∧ Q (.bl (decide (x = y))) H
@[reducible] def rNe : R2 := fun x y H Q => scal x y = true ∧ Q (.bl (!decide (x = y))) H

theorem dec_int {i j : Int} : decide (V.int i = V.int j) = (i == j) := by
  rw [Bool.eq_iff_iff]
  simp
theorem dec_bl {i j : Bool} : decide (V.bl i = V.bl j) = (i == j) := by
  rw [Bool.eq_iff_iff]
  simp
theorem dec_str {i j : Str} : decide (V.str i = V.str j) = (i == j) := by
  rw [Bool.eq_iff_iff]
  simp
theorem dec_byt {i j : Array UInt8} : decide (V.byt i = V.byt j) = (i.toList == j.toList) := by
  rw [Bool.eq_iff_iff]
  cases i
  cases j
  simp

section
variable {X : Cx} {a b c : Expr} {ta tb tc : TE} {pos : Pos}
theorem fin_bl {pins : List (Addr × Obj)} {σ : St} {H : Hp} {s : Shared} {Q : VK} {k k' : Bool} (I : Inv X pins σ H s) (q : Q (.bl k) H) (e : k = k') : EP X pins σ Q (.bool k') s := by
  subst e
  exact ⟨.bl k, H, I, rfl, q⟩
theorem op_eq : OpR X (compareOp .Eq) rEq := by
  intro pins s σ H x y v u Q I rx ry h
  obtain ⟨hs, q⟩ := h
  cases x with
  | non =>
    cases rx
    cases y with
    | non => cases ry; exact PySem.EqNone.eq_none_none (fin_bl I q (by simp))
    | bl j => cases ry; exact PySem.EqNone.eq_none_bool (fin_bl I q (by simp))
    | int j => obtain ⟨t', rfl⟩ := ry; exact PySem.EqNone.eq_none_int (fin_bl I q (by simp))
    | str j => obtain ⟨t', rfl⟩ := ry; exact PySem.EqNone.eq_none_str (fin_bl I q (by simp))
    | _ => exact absurd (show false = true from hs) Bool.false_ne_true
  | bl i =>
    cases rx
    cases y with
    | non => cases ry; exact PySem.EqNone.eq_bool_none (fin_bl I q (by simp))
    | bl j => cases ry; exact eq_bool (fin_bl I q dec_bl)
    | str j => obtain ⟨t', rfl⟩ := ry; exact PySem.EqMixed.eq_bool_str (fin_bl I q (by simp))
    | _ => exact absurd (show false = true from hs) Bool.false_ne_true
  | int i =>
    obtain ⟨t, rfl⟩ := rx
    cases y with
    | non => cases ry; exact PySem.EqNone.eq_int_none (fin_bl I q (by simp))
    | int j => obtain ⟨t', rfl⟩ := ry; exact eq_int (fin_bl I q dec_int)
    | str j => obtain ⟨t', rfl⟩ := ry; exact PySem.EqMixed.eq_int_str (fin_bl I q (by simp))
    | _ => exact absurd (show false = true from hs) Bool.false_ne_true
  | str i =>
    obtain ⟨t, rfl⟩ := rx
    cases y with
    | non => cases ry; exact PySem.EqNone.eq_str_none (fin_bl I q (by simp))
    | bl j => cases ry; exact PySem.EqMixed.eq_str_bool (fin_bl I q (by simp))
    | int j => obtain ⟨t', rfl⟩ := ry; exact PySem.EqMixed.eq_str_int (fin_bl I q (by simp))
    | str j => obtain ⟨t', rfl⟩ := ry; exact eq_str (fin_bl I q dec_str)
    | _ => exact absurd (show false = true from hs) Bool.false_ne_true
  | byt i =>
    obtain ⟨t, rfl⟩ := rx
    cases y with
    | byt j => obtain ⟨t', rfl⟩ := ry; exact PySem.W.eq_bytes (fin_bl I q dec_byt)
    | _ => exact absurd (show false = true from hs) Bool.false_ne_true
  | _ => cases y <;> exact absurd (show false = true from hs) Bool.false_ne_true
theorem op_ne : OpR X (compareOp .NotEq) rNe := by
  intro pins s σ H x y v u Q I rx ry h
  obtain ⟨hs, q⟩ := h
  cases x with
  | non =>
    cases rx
    cases y with
    | non => cases ry; exact PySem.EqNone.ne_none_none (fin_bl I q (by simp))
    | bl j => cases ry; exact PySem.EqNone.ne_none_bool (fin_bl I q (by simp))
    | int j => obtain ⟨t', rfl⟩ := ry; exact PySem.EqNone.ne_none_int (fin_bl I q (by simp))
    | str j => obtain ⟨t', rfl⟩ := ry; exact PySem.EqNone.ne_none_str (fin_bl I q (by simp))
    | _ => exact absurd (show false = true from hs) Bool.false_ne_true
  | bl i =>
    cases rx
    cases y with
    | non => cases ry; exact PySem.EqNone.ne_bool_none (fin_bl I q (by simp))
    | bl j => cases ry; exact ne_bool (fin_bl I q (congrArg not dec_bl))
    | str j => obtain ⟨t', rfl⟩ := ry; exact PySem.EqMixed.ne_bool_str (fin_bl I q (by simp))
    | _ => exact absurd (show false = true from hs) Bool.false_ne_true
  | int i =>
    obtain ⟨t, rfl⟩ := rx
    cases y with
    | non => cases ry; exact PySem.EqNone.ne_int_none (fin_bl I q (by simp))
    | int j => obtain ⟨t', rfl⟩ := ry; exact ne_int (fin_bl I q (congrArg not dec_int))
    | str j => obtain ⟨t', rfl⟩ := ry; exact PySem.EqMixed.ne_int_str (fin_bl I q (by simp))
    | _ => exact absurd (show false = true from hs) Bool.false_ne_true
  | str i =>
    obtain ⟨t, rfl⟩ := rx
    cases y with
    | non => cases ry; exact PySem.EqNone.ne_str_none (fin_bl I q (by simp))
    | bl j => cases ry; exact PySem.EqMixed.ne_str_bool (fin_bl I q (by simp))
    | int j => obtain ⟨t', rfl⟩ := ry; exact PySem.EqMixed.ne_str_int (fin_bl I q (by simp))
    | str j => obtain ⟨t', rfl⟩ := ry; exact ne_str (fin_bl I q (congrArg not dec_str))
    | _ => exact absurd (show false = true from hs) Bool.false_ne_true
  | byt i =>
    obtain ⟨t, rfl⟩ := rx
    cases y with
    | byt j => obtain ⟨t', rfl⟩ := ry; exact PySem.W.ne_bytes (fin_bl I q (congrArg not dec_byt))
    | _ => exact absurd (show false = true from hs) Bool.false_ne_true
  | _ => cases y <;> exact absurd (show false = true from hs) Bool.false_ne_true

theorem op_lt : OpR X (compareOp .Lt) (rI0 fun i j => .bl (decide (i < j))) := opB0 fun _ _ _ _ _ _ _ q => lt_int q
/-- is None, is not None: the right side a value none -/
theorem op_isN : OpR X (compareOp .Is) (fun x y H Q => y = .non ∧ Q (.bl (decide (x = .non))) H) := by
  intro pins s σ H x y v u Q I rx ry h
  obtain ⟨rfl, q⟩ := h
  cases ry
  refine is_none_gen (fin_bl I q ?_)
  cases x <;> first
    | (cases rx; rfl)
    | (obtain ⟨t, rfl⟩ := rx; rfl)
theorem op_notN : OpR X (compareOp .IsNot) (fun x y H Q => y = .non ∧ Q (.bl (!decide (x = .non))) H) := by
  intro pins s σ H x y v u Q I rx ry h
  obtain ⟨rfl, q⟩ := h
  cases ry
  refine isnot_none_gen (fin_bl I q ?_)
  cases x <;> first
    | (cases rx; rfl)
    | (obtain ⟨t, rfl⟩ := rx; rfl)

/-- two rules for one operation: by cases -/
theorem OpR.or {f : Value → Value → Sem Value} {r r' : R2} (h : OpR X f r) (h' : OpR X f r') : OpR X f (fun x y H Q => r x y H Q ∨ r' x y H Q) := by
  intro pins s σ H x y v u Q I rx ry q
  rcases q with q | q
  · exact h pins s σ H x y v u Q I rx ry q
  · exact h' pins s σ H x y v u Q I rx ry q

theorem nomark (b : Expr) {op : CmpOp} (h : op ≠ .In := by decide) (h2 : op ≠ .NotIn := by decide) : behindInMarks op b = false := by
  have e1 : (op == CmpOp.In) = false := by cases op <;> first | rfl | exact absurd rfl h
  have e2 : (op == CmpOp.NotIn) = false := by cases op <;> first | rfl | exact absurd rfl h2
  cases b <;> simp [behindInMarks, e1, e2]
/-- a comparison as a value; hm: nomark b, or (for in, not in) by with_unfolding_all rfl -/
theorem pe_cmpR {op : CmpOp} {r : R2} (ho : OpR X (compareOp op) r) (ha : PE X a ta) (hb : PE X b tb) (hm : behindInMarks op b = false) : PE X (.Compare a [op] [b] pos) (tOp r ta tb) := by
  intro pins s σ H Q I h
  exact wpAny_Compare1 (binT ha hb I h fun v u s2 x y H2 I2 rx ry q => ho pins s2 σ H2 x y v u Q I2 rx ry q) hm
/-- a reading of a value as a test -/
@[reducible] def tTest (t : TE) : TT := fun σ H Q => t σ H fun x H' => ∃ k, x = .bl k ∧ Q k H'
theorem pt_cmpR {op : CmpOp} {r : R2} (ho : OpR X (compareOp op) r) (ha : PE X a ta) (hb : PE X b tb) (hm : behindInMarks op b = false) : PT X (.Compare a [op] [b] pos) (tTest (tOp r ta tb)) := by
  intro pins s σ H Q I h
  refine wpAny_isTrue_Compare1 (thn (ha pins s σ H _ I h) fun v s1 ⟨x, H1, I1, r1, q1⟩ => thn (hb pins s1 σ H1 _ I1 q1) fun u s2 ⟨y, H2, I2, r2, q2⟩ =>
    thn (ho pins s2 σ H2 x y v u _ I2 r1 r2 q2) fun c s3 ⟨z, H3, I3, r3, k, e, q3⟩ => ?_) hm
  subst e
  cases r3
  exact wpAny_truthy_bool ⟨H3, I3, q3⟩
/-! ### truth -/
/-- a value's truth by the abstract heap -/
def TruV (K : PySem.W.Frag) (x : V) (H : Hp) (k : Bool) : Prop :=
  match x with
  | .non => k = false
  | .bl b => k = b
  | .int i => k = (i != 0)
  | .str y => y.length ≤ sizeLine ∧ k = ((y.length : Int) != 0)
  | .byt y => y.size ≤ sizeLine ∧ k = ((y.size : Int) != 0)
  | .ref p => (∃ xs, SqL K H p xs ∧ k = !xs.isEmpty) ∨ (∃ xs, SqT K H p xs ∧ k = !xs.isEmpty) ∨ ∃ kvs, H p = some (.dK kvs) ∧ k = !kvs.isEmpty
  | _ => False
theorem isEmpty_kv {κ : Type} {kvs : List (κ × V)} {vs : List (κ × Value)} (r : KV kvs vs) : (!vs.isEmpty) = !kvs.isEmpty := by
  cases r <;> rfl
theorem isEmpty_of {xs : List V} {its : List Value} (r : Vals xs its) : (!its.toArray.isEmpty) = !xs.isEmpty := by
  cases r <;> simp
theorem line63 : (sizeLine : Nat) < 2 ^ 63 := by rw [sizeLine_eq]; decide
theorem tru_ok : TruR X (fun x H Q => ∃ k, TruV X.K x H k ∧ Q k H) := by
  intro pins s σ H x v Q I rx h
  obtain ⟨k, e, q⟩ := h
  have hl := line63
  have hs : sizeLine = 16777216 := sizeLine_eq
  cases x with
  | non =>
    cases rx
    have e' : k = false := e
    subst e'
    exact truthy_none ⟨H, I, q⟩
  | bl b =>
    cases rx
    have e' : k = b := e
    subst e'
    exact wpAny_truthy_bool ⟨H, I, q⟩
  | int i =>
    obtain ⟨t, rfl⟩ := rx
    have e' : k = (i != 0) := e
    subst e'
    exact PySem.P.truthy_int ⟨H, I, q⟩
  | str y =>
    obtain ⟨t, rfl⟩ := rx
    obtain ⟨hy, e'⟩ : y.length ≤ sizeLine ∧ k = ((y.length : Int) != 0) := e
    subst e'
    exact PySem.P.truthy_str (by omega) ⟨H, I.tok _, q⟩
  | byt y =>
    obtain ⟨t, rfl⟩ := rx
    obtain ⟨hy, e'⟩ : y.size ≤ sizeLine ∧ k = ((y.size : Int) != 0) := e
    subst e'
    exact PySem.W.truthy_bytes (by omega) ⟨H, I.tok _, q⟩
  | ref p =>
    cases rx
    have e' : (∃ xs, SqL X.K H p xs ∧ k = !xs.isEmpty) ∨ (∃ xs, SqT X.K H p xs ∧ k = !xs.isEmpty) ∨ ∃ kvs, H p = some (.dK kvs) ∧ k = !kvs.isEmpty := e
    rcases e' with ⟨xs, hx, e'⟩ | ⟨xs, hx, e'⟩ | ⟨kvs, hx, e'⟩
    · subst e'
      obtain ⟨its, r, pl, hz⟩ := I.list hx
      have hlen := r.length
      exact wpAny_truthy_list pl.isList (by simp only [List.size_toArray]; omega) ⟨H, I.tok _, by rw [isEmpty_of r]; exact q⟩
    · subst e'
      obtain ⟨its, r, pl, hz⟩ := I.tuple hx
      have hlen := r.length
      exact truthy_tuple pl (by simp only [List.size_toArray]; omega) ⟨H, I.tok _, by rw [isEmpty_of r]; exact q⟩
    · subst e'
      obtain ⟨hz, hS, vs, r, m⟩ : kvs.length ≤ sizeLine ∧ (p == sysModules) = false ∧ ∃ vs, KV kvs vs ∧ s.heap.DictOf (mixKind X.prog X.w) p vs := I.hok p _ hx
      have hlen : kvs.length = vs.length := Paired.length r
      exact wpAny_truthy_dict hS m (by omega) ⟨H, I.tok _, by rw [isEmpty_kv r]; exact q⟩
  | _ => exact (show False from e).elim
/-! ### strs and bytes -/
theorem op_add_str : OpR X (binaryOp .Add) (fun x y H Q => ∃ i j, x = .str i ∧ y = .str j ∧ i.length + j.length ≤ sizeLine ∧ Q (.str (i ++ j)) H) := by
  intro pins s σ H x y v u Q I rx ry h
  obtain ⟨i, j, rfl, rfl, hz, q⟩ := h
  obtain ⟨t, rfl⟩ := rx
  obtain ⟨t', rfl⟩ := ry
  exact add_str (fun t' tk => ⟨.str (i ++ j), H, I.tok _, ⟨_, rfl⟩, q⟩) hz
/-! ### scalar builtins, by CallR -/
theorem vals1 {x : V} {us : List Value} (r : Vals [x] us) : ∃ u, us = [u] ∧ RelV x u := by
  cases r with
  | cons r1 r2 => cases r2; exact ⟨_, rfl, r1⟩
theorem vals2 {x y : V} {us : List Value} (r : Vals [x, y] us) : ∃ u w', us = [u, w'] ∧ RelV x u ∧ RelV y w' := by
  cases r with
  | cons r1 r2 =>
    cases r2 with
    | cons r3 r4 => cases r4; exact ⟨_, _, rfl, r1, r3⟩
theorem call_max2 (hc : X.calm = true) : CallR X (.builtin "max") (fun xs H Q => ∃ i j, xs = [.int i, .int j] ∧ Q (.int (if j > i then j else i)) H) := by
  intro pins s σ H xs us Q I r h
  obtain ⟨i, j, rfl, q⟩ := h
  obtain ⟨u, w', rfl, ⟨t, rfl⟩, ⟨t', rfl⟩⟩ := vals2 r
  refine max_two_ints (I.ok.hd hc) fun h' tk k => ⟨_, H, I.kept k, ?_, q⟩
  by_cases hj : j > i
  · rw [if_pos hj, if_pos hj]; exact ⟨_, rfl⟩
  · rw [if_neg hj, if_neg hj]; exact ⟨_, rfl⟩
theorem call_int1 : CallR X (.type "int") (fun xs H Q => (∃ i, xs = [.int i] ∧ Q (.int i) H) ∨ ∃ k, xs = [.bl k] ∧ Q (.int (if k then 1 else 0)) H) := by
  intro pins s σ H xs us Q I r h
  rcases h with ⟨i, rfl, q⟩ | ⟨k, rfl, q⟩
  · obtain ⟨u, rfl, t, rfl⟩ := vals1 r
    exact call_int_int ⟨.int i, H, I, ⟨_, rfl⟩, q⟩
  · obtain ⟨u, rfl, r1⟩ := vals1 r
    cases r1
    exact call_int_bool ⟨.int (if k then 1 else 0), H, I.tok _, ⟨_, rfl⟩, q⟩
end
end L2

namespace L2
open PySem PySem.Spec PyProof.Rows

/-! ### an instance, its attributes a map -/
structure ObjM (h : Heap) (x dx C : Addr) (mA : Str → Option Value) : Prop where
  obj : h.get? x = some (PySem.W.instObj C dx)
  ns : h.Ns1 dx mA
  ne : dx ≠ x

theorem lookIn_ns {h : Heap} {dx : Addr} {mA : Str → Option Value} (n : h.Ns1 dx mA) : ∃ od, h.get? dx = some od ∧ ∀ name, PySem.W.lookIn name od = some (mA name) := by
  obtain ⟨o, es, ep, ho, hd, hk, _, hm⟩ := n
  refine ⟨o, ho, fun name => ?_⟩
  have e := hm name
  unfold nsFind findBy at e
  rw [← Array.find?_toList] at e
  unfold PySem.W.lookIn
  rw [hd]
  dsimp only
  split
  · rename_i y q
    rw [q] at e
    exact congrArg some e
  · rename_i q
    rw [q] at e
    have a : es.toList.any (·.refKey) = false := by
      rw [List.any_eq_false]
      intro y hy
      obtain ⟨z, t, hkey⟩ := hk y (Array.mem_toList_iff.mp hy)
      simp [DictEntry.refKey, hkey]
    have a' : ¬ es.toList.any (·.refKey) = true := by rw [a]; exact Bool.false_ne_true
    rw [if_neg a']
    exact congrArg some e

theorem ObjM.look {h : Heap} {x dx C : Addr} {mA : Str → Option Value} (I : ObjM h x dx C mA) : ∃ od, PySem.W.InstAt h x (PySem.W.instObj C dx) C (some od) ∧ ∀ name, PySem.W.lookIn name od = some (mA name) :=
  let ⟨od, ho, hl⟩ := lookIn_ns I.ns
  ⟨od, ⟨I.obj, rfl, rfl, ho⟩, hl⟩

section
variable {prog : Program} {w : World} {A : Around} {E : Value → Shared → Prop} {s : Shared} {K : PySem.W.Frag} {x dx C f : Addr} {mA : Str → Option Value} {name : Str} {v : Value}

end

/-! ### the attributes as a list of pairs -/
def putF (f : Str) (v : V) : List (Str × V) → List (Str × V)
  | [] => [(f, v)]
  | (g, x) :: r => if g = f then (g, v) :: r else (g, x) :: putF f v r
theorem RelO.some_of {v : V} {o : Option Value} (r : RelO (some v) o) : ∃ u, o = some u ∧ RelV v u := by
  cases o with
  | none => exact (show False from r).elim
  | some u => exact ⟨u, rfl, r⟩
theorem handed_of {v : V} {u : Value} (r : RelV v u) : PySem.W.handedIn u = true := by
  cases v with
  | non => cases (show u = Value.none from r); rfl
  | bl b => cases (show u = Value.bool b from r); rfl
  | int i => obtain ⟨t, e⟩ := (show ∃ t, u = Value.int i t from r); cases e; rfl
  | str x => obtain ⟨t, e⟩ := (show ∃ t, u = Value.str x t from r); cases e; rfl
  | byt b => obtain ⟨t, e⟩ := (show ∃ t, u = Value.bytes b t from r); cases e; rfl
  | flt b => obtain ⟨t, e⟩ := (show ∃ t, u = Value.float b t from r); cases e; rfl
  | ref a => cases (show u = Value.ref a from r); rfl
  | ty n => cases (show u = Value.type n from r); rfl

section
variable {P : Program} {w : World} {H H' : Hp} {h h' : Heap} {a C dx : Addr} {fs fs' : List (Str × V)}
end

/-! ### what of the text a class must have -/
structure Cls (K : PySem.W.Frag) (C : Addr) : Prop where
  pg : PySem.W.plainGet K C Str.empty = true
  hd : PySem.W.hasDictIn K C = true
  po : PySem.W.plainOver K C = true
  sa : PySem.W.findIn K (.ref C) "__setattr__" = some (some (.builtin "object.__setattr__"))
theorem Cls.get {K : PySem.W.Frag} {C : Addr} (c : Cls K C) (f : Str) : PySem.W.plainGet K C f = true := c.pg
section
variable {X : Cx} {pins : List (Addr × Obj)} {σ : St} {H : Hp} {s : Shared} {a C dx : Addr} {fs : List (Str × V)} {f : Str} {v : V} {A : Around} {E : Value → Shared → Prop}

/-- a new instance, tracked, without attributes -/
theorem Inv.made (I : Inv X pins σ H s) : Inv X pins σ (upd (upd H s.heap.objs.size (.own (s.heap.objs.size + 1))) (s.heap.objs.size + 1) (.ins C s.heap.objs.size []))
    { s with heap := (s.heap.push PySem.W.emptyDict).push (PySem.W.instObj C s.heap.objs.size) } := by
  have e1 : (s.heap.push PySem.W.emptyDict).get? s.heap.objs.size = some PySem.W.emptyDict := Heap.get?_push_size s.heap rfl
  have e2 : ((s.heap.push PySem.W.emptyDict).push (PySem.W.instObj C s.heap.objs.size)).get? (s.heap.objs.size + 1) = some (PySem.W.instObj C s.heap.objs.size) := by
    have := Heap.get?_push_size (s.heap.push PySem.W.emptyDict) (o := PySem.W.instObj C s.heap.objs.size) rfl
    rwa [Heap.size_push] at this
  have e3 : (s.heap.push PySem.W.emptyDict).Ns s.heap.objs.size (fun _ => none) := ⟨PySem.W.emptyDict, #[], _, e1, rfl, (fun e he => absurd he (by simp)), fun _ => rfl⟩
  have I1 := I.laid (a := s.heap.objs.size) (o := .own (s.heap.objs.size + 1)) (h' := s.heap.push PySem.W.emptyDict) (t' := s.toks) (fun b u q => Heap.get?_push_of_some _ q) (Nat.le_refl _) ⟨_, e1⟩
  refine I1.laid (a := s.heap.objs.size + 1) (o := .ins C s.heap.objs.size []) (t' := s.toks) (fun b u q => Heap.get?_push_of_some _ q) (Nat.le_of_eq (Heap.size_push _ _)) ?_
  have ne : s.heap.objs.size ≠ s.heap.objs.size + 1 := Nat.ne_of_lt (Nat.lt_succ_self _)
  refine ⟨by rw [upd_ne ne, upd_same], Nat.zero_le _, ne, e2, fun _ => none, (Heap.Ns1.of_empty e3).at fun o q => Heap.get?_push_of_some _ q, fun _ => True.intro, fun y hy => absurd rfl hy⟩

/-- e.f where nothing but the object is asked: through attributeBase (super) and the last hold -/
theorem attr_of {prog : Program} {w : World} {env : Env} {e : Expr} {f : Str} {pos : Pos} {s : Shared} {Q : Value → Shared → Prop} (hb : attributeBase e f env (eval e env) = eval e env)
    (h : wpAny (model prog w) A (eval e env) (fun o s₁ => wpAny (model prog w) A (getAttr o f true) Q E s₁) E s) : wpAny (model prog w) A (eval (.Attribute e f pos) env) Q E s :=
  Attribute_any_ h (by rw [arm_eval_Attribute, hb])
end

/-! ### readings and rules -/
section
variable {X : Cx} {o e value : Expr} {f : Str} {pos pos' tpos : Pos} {ta tv : TE}
end

/-! ### isinstance -/
section
variable {X : Cx} {pins : List (Addr × Obj)} {σ : St} {H : Hp} {s : Shared} {A : Around} {E : Value → Shared → Prop} {Q : Value → Shared → Prop} {c : Value} {b : Bool}
/-- the type of a value, as the fragment's deciders take it; for an instance its class -/
inductive TyOf (K : PySem.W.Frag) (H : Hp) : V → Value → Prop where
  | non : TyOf K H .non (.type "NoneType")
  | bl (x : Bool) : TyOf K H (.bl x) (.type "bool")
  | int (i : Int) : TyOf K H (.int i) (.type "int")
  | str (x : Str) : TyOf K H (.str x) (.type "str")
  | flt (x : UInt64) : TyOf K H (.flt x) (.type "float")
  | lst {a : Addr} {xs : List V} (e : H a = some (.lst xs)) : TyOf K H (.ref a) (.type "list")
  | frz {a : Addr} {o : Obj} {xs : List V} (e : H a = some (.frz o (.lst xs))) : TyOf K H (.ref a) (.type "list")
  | tup {a : Addr} {xs : List V} (e : H a = some (.tup xs)) : TyOf K H (.ref a) (.type "tuple")
  | dK {a : Addr} {kvs : List (Key × V)} (e : H a = some (.dK kvs)) : TyOf K H (.ref a) (.type "dict")
  | dT {a : Addr} {kvs : List (List Key × V)} (e : H a = some (.dT kvs)) : TyOf K H (.ref a) (.type "dict")
  | ins {a C dx : Addr} {fs : List (Str × V)} (e : H a = some (.ins C dx fs)) (cl : Cls K C) (ha : PySem.W.findIn K (.ref C) "__class__" = some (some (.builtin "object.__class__")))
      (hn : PySem.W.specialIn K (.builtin "object.__class__") "__get__" = some (some (.builtin "getset_descriptor.__get__"))) (htk : PySem.W.takesIn K (.builtin "object.__class__") = some true)
      (hm : PySem.W.mroIn K C (.type "object") = some true) : TyOf K H (.ref a) (.ref C)
end
end L2

namespace L2
open PySem PySem.Spec PyProof.Rows

/-! ### room -/
structure Room (k : Nat) (A : Around) : Prop where
  hd : A.handled = none
  dp : A.depth + 3 * k + 5 < recursionLimit
  un : A.units + 16 * k + 200 < cLine
theorem Room.mono {j k : Nat} {A : Around} (r : Room k A) (h : j ≤ k) : Room j A := ⟨r.hd, by have := r.dp; omega, by have := r.un; omega⟩
theorem Room.deeper {k : Nat} {A : Around} (r : Room (k + 1) A) (env : Env) : Room k (A.deeper env) :=
  ⟨r.hd, by have := r.dp; show A.depth + 1 + 3 * k + 5 < _; omega, by have := r.un; show A.units + 3 + 16 * k + 200 < _; omega⟩
theorem Room.in1 {k : Nat} {A : Around} (r : Room (k + 1) A) : Room k A.in1 :=
  ⟨r.hd, by have := r.dp; show A.depth + 3 * k + 5 < _; omega, by have := r.un; show A.units + 1 + 16 * k + 200 < _; omega⟩
theorem make_depth {A : Around} {C : Addr} {us : List Value} {kw : List (Str × Value)} : (A.under (.builtin "type.__call__" ⟨.ref C :: us, kw⟩)).depth = A.depth + 1 := by
  first | rfl | simp [Around.under, Code.weight, Code.isCreation, Code.isGuard, Code.isCaller, Code.frames, Code.isFrame, guardIds]
theorem Room.depth {k : Nat} {A : Around} (r : Room k A) : A.depth < recursionLimit := by have := r.dp; omega
theorem Room.units {k : Nat} {A : Around} (r : Room k A) : A.units + 64 < cLine := by have := r.un; omega
/-! ### argument lists and displays -/
@[reducible] def tNil : TA := fun _ H Q => Q [] H
@[reducible] def tCons (ta : TE) (tr : TA) : TA := fun σ H Q => ta σ H fun x H1 => tr σ H1 fun xs H2 => Q (x :: xs) H2
section
variable {X : Cx} {e : Expr} {es : List Expr} {te : TE} {t : TA} {pos : Pos}
theorem pa_nil : PA X [] tNil := fun _ _ _ _ H Q I h => Calls.spliced_nil ⟨[], H, I, .nil, h⟩
theorem pa_cons (ha : PE X e te) (hr : PA X es t) (hs : starEach (e :: es) X.env = (false, eval e X.env) :: starEach es X.env := by rfl) : PA X (e :: es) (tCons te t) := by
  intro pos pins s σ H Q I h
  rw [hs]
  show wpAny _ _ (spliced ((false, eval e X.env) :: backTo pos (starEach es X.env))) _ _ s
  refine Calls.spliced_cons (thn (ha pins s σ H _ I h) fun u s1 ⟨x, H1, I1, r1, q1⟩ => ?_)
  exact thn (hr pos pins s1 σ H1 _ I1 q1) fun us s2 ⟨xs, H2, I2, r2, q2⟩ => ⟨x :: xs, H2, I2, .cons r1 r2, q2⟩

/-- a tuple, a list of written items -/
@[reducible] def tTup (t : TA) : TE := fun σ H Q => t σ H fun xs H1 => xs.length ≤ sizeLine ∧ ∀ p, H1 p = none → Q (.ref p) (upd H1 p (.tup xs))
@[reducible] def tLst (t : TA) : TE := fun σ H Q => t σ H fun xs H1 => xs.length ≤ sizeLine ∧ ∀ p, H1 p = none → Q (.ref p) (upd H1 p (.lst xs))
theorem pe_tup {x1} (h : PA X es t) : PE X (.Tuple es x1 pos) (tTup t) := by
  intro pins s σ H Q I hq
  refine wpAny_Tuple_spliced (thn (h pos pins s σ H _ I hq) fun us s1 ⟨xs, H1, I1, r, z, q⟩ => ⟨by rw [← r.length]; exact z, ?_⟩)
  have hf : H1 s1.heap.objs.size = none := I1.hok.fresh (Nat.le_refl _)
  refine ⟨.ref s1.heap.objs.size, upd H1 s1.heap.objs.size (.tup xs), I1.laid (t' := s1.toks) (fun b u e => Heap.get?_push_of_some _ e) (Nat.le_refl _) ?_, rfl, q _ hf⟩
  exact ⟨z, us, r, ⟨_, Heap.get?_push_size _ rfl, rfl, _, rfl, rfl⟩⟩
theorem pe_lst (h : PA X es t) : PE X (.List es pos) (tLst t) := by
  intro pins s σ H Q I hq
  refine wpAny_List_spliced (thn (h pos pins s σ H _ I hq) fun us s1 ⟨xs, H1, I1, r, z, q⟩ => ⟨by rw [← r.length]; exact z, ?_⟩)
  have hf : H1 s1.heap.objs.size = none := I1.hok.fresh (Nat.le_refl _)
  refine ⟨.ref s1.heap.objs.size, upd H1 s1.heap.objs.size (.lst xs), I1.laid (t' := s1.toks) (fun b u e => Heap.get?_push_of_some _ e) (Nat.le_refl _) ?_, rfl, q _ hf⟩
  exact ⟨z, us, 0, r, Heap.get?_push_size _ rfl⟩
end

/-! ### what a def promises -/
/-- a def's promise: the bound arguments in the parameters' order, the heap, the wanted end, the wanted exception -/
abbrev Sp := List V → Hp → VK → XK → Prop
/-- how an exception lies behind a call (file 08 gives it): the callers' frames, abstract heap and state ahead of the call, the wish, the exception, the state -/
abbrev CXT := List Env → Hp → Shared → XK → Value → Shared → Prop

/-- the state at a call -/
structure Env0 (P : Program) (w : World) (K : PySem.W.Frag) (mg : Str → Option Value) (base : Heap) (A : Around) (outer : List Env) (s : Shared) (H : Hp) : Prop where
  frames : A.frames = some outer
  mod : Mod K mg base
  bs : ∀ b o, base.get? b = some o → s.heap.get? b = some o ∧ H b = none
  bsz : base.objs.size ≤ s.heap.objs.size
  funs : s.heap.FunFrames base outer
  frf : ∀ b ∈ frs outer, H b = none
  hok : HOk P w H s.heap
  bare : AllBare s.gens
/-- a call's end -/
def CE (outer : List Env) (P : Program) (w : World) (H : Hp) (s : Shared) (Q : VK) (u : Value) (s' : Shared) : Prop :=
  ∃ v H', s'.os = s.os ∧ AllBare s'.gens ∧ Un (frs outer) [] H H' s.heap s'.heap ∧ HOk P w H' s'.heap ∧ RelV v u ∧ Q v H'
def CR (CX : CXT) (outer : List Env) (P : Program) (w : World) (H : Hp) (s : Shared) (Q : VK) (E : XK) (r : Result) (s' : Shared) : Prop :=
  match r with
  | .ok (.ret u) => CE outer P w H s Q u s'
  | .ok _ => False
  | .error e => CX outer H s E e s'
structure FnOk (P : Program) (w : World) (K : PySem.W.Frag) (mg : Str → Option Value) (base : Heap) (CX : CXT) (k : Nat) (f : Addr) (fd : FuncData) (ps : List Str) (sp : Sp) : Prop where
  len : ∀ vs H Q E, sp vs H Q E → vs.length = ps.length
  run : ∀ (A : Around) (outer : List Env) (s : Shared) (H : Hp) (args : Args) (us : List Value) (vs : List V) (Q : VK) (E : XK), Room k A → Env0 P w K mg base A outer s H → BindsTo s fd args (ps.zip us) → Vals vs us → sp vs H Q E →
    codeAny (model P w) A (.call (.ref f) args) (CR CX outer P w H s Q E) s
theorem FnOk.mono {P : Program} {w : World} {K : PySem.W.Frag} {mg : Str → Option Value} {base : Heap} {CX : CXT} {j k : Nat} {f : Addr} {fd : FuncData} {ps : List Str} {sp : Sp} (F : FnOk P w K mg base CX j f fd ps sp) (h : j ≤ k) :
    FnOk P w K mg base CX k f fd ps sp := ⟨F.len, fun A outer s H args us vs Q E hr => F.run A outer s H args us vs Q E (hr.mono h)⟩
/-- a weaker promise -/
theorem FnOk.imp {P : Program} {w : World} {K : PySem.W.Frag} {mg : Str → Option Value} {base : Heap} {CX : CXT} {k : Nat} {f : Addr} {fd : FuncData} {ps : List Str} {sp sp' : Sp} (F : FnOk P w K mg base CX k f fd ps sp)
    (h : ∀ vs H Q E, sp' vs H Q E → sp vs H Q E) : FnOk P w K mg base CX k f fd ps sp' :=
  ⟨fun vs H Q E q => F.len vs H Q E (h _ _ _ _ q), fun A outer s H args us vs Q E hr he hb hv hs => F.run A outer s H args us vs Q E hr he hb hv (h _ _ _ _ hs)⟩

theorem Env0.in1 {P : Program} {w : World} {K : PySem.W.Frag} {mg : Str → Option Value} {base : Heap} {A : Around} {outer : List Env} {s : Shared} {H : Hp} (e : Env0 P w K mg base A outer s H) :
    Env0 P w K mg base A.in1 outer s H := ⟨e.frames, e.mod, e.bs, e.bsz, e.funs, e.frf, e.hok, e.bare⟩

section
variable {X : Cx} {pins : List (Addr × Obj)} {σ : St} {H : Hp} {s s' : Shared}
/-- from a body: what a callee wants -/
theorem Inv.env0 (I : Inv X pins σ H s) : Env0 X.prog X.w X.K X.mg X.base X.A X.stack s H :=
  ⟨I.ok.frames, I.ok.mod, I.bs, Nat.le_trans I.ok.bsz I.sz, I.stack, I.stkFree, I.hok, I.bare⟩
/-- behind a call -/
theorem Inv.after {Q : VK} {u : Value} (I : Inv X pins σ H s) (h : CE X.stack X.prog X.w H s Q u s') : EP X pins σ Q u s' := by
  obtain ⟨v, H', os, bare, un, hok, r, q⟩ := h
  obtain ⟨hh, g, d, t, os'⟩ := s'
  obtain rfl : os' = s.os := os
  exact ⟨v, H', I.call (h' := hh) (g' := g) (d' := d) (t' := t) (ch := []) un hok bare (fun b z => absurd z (by simp)), r, q⟩
end

/-! ### calls -/
/-- f(..): the written arguments, then the defaults dvs; E: what is wanted of an exception -/
@[reducible] def tCall (sp : Sp) (dvs : List V) (E : XK) (t : TA) : TE := fun σ H Q => t σ H fun vs H1 => sp (vs ++ dvs) H1 Q E
/-- how the parameters are bound: us the positional arguments, kw the keywords' values by name, ds the defaults that fill up -/
def Binds (K : PySem.W.Frag) (fd : FuncData) (ps : List Str) (ds : List Value) : Prop :=
  ∀ (s : Shared) (us : List Value), K.In s.heap → (us ++ ds).length = ps.length → BindsTo s fd ⟨us, []⟩ (ps.zip (us ++ ds))
/-- every parameter is given -/
theorem Binds.all {K : PySem.W.Frag} {fd : FuncData} {ps : List Str} (h : ∀ us : List Value, us.length = ps.length → bindArgs fd ⟨us, []⟩ = pure (ps.zip us)) : Binds K fd ps [] := fun s us _ hl => by
  rw [List.append_nil] at hl ⊢
  exact .of_eq (h us hl)

/-- an exception of a callee reaches what this body wants of exceptions -/
def Passes (CX : CXT) (X : Cx) (E : XK) : Prop := ∀ (pins : List (Addr × Obj)) (σ : St) (H : Hp) (s : Shared) (e : Value) (s' : Shared), Inv X pins σ H s → CX X.stack H s E e s' → X.xe e s'

section
variable {X : Cx} {CX : CXT} {k : Nat} {f C : Addr} {fd : FuncData} {ps : List Str} {sp : Sp} {dvs : List V} {ds : List Value} {E : XK} {x m : Str} {p pos apos : Pos} {e o : Expr} {es : List Expr} {ta : TE} {t : TA}

/-- the callee runs -/
theorem run_fn {pins : List (Addr × Obj)} {σ : St} {H : Hp} {s : Shared} {Q : VK} {us : List Value} {vs : List V} (F : FnOk X.prog X.w X.K X.mg X.base CX k f fd ps sp) (hr : Room k X.A) (hb : Binds X.K fd ps ds) (hd : Vals dvs ds) (hx : Passes CX X E)
    (I : Inv X pins σ H s) (r : Vals vs us) (h : sp (vs ++ dvs) H Q E) : wpAny (model X.prog X.w) X.A (call (.ref f) us) (EP X pins σ Q) X.xe s := by
  have r2 : Vals (vs ++ dvs) (us ++ ds) := r.append hd
  have hl : (us ++ ds).length = ps.length := by rw [← r2.length]; exact F.len _ _ _ _ h
  refine wpAny_call (codeAny_mono (F.run X.A X.stack s H ⟨us, []⟩ (us ++ ds) (vs ++ dvs) Q E hr I.env0 (hb s us I.kIn hl) r2 h) fun r s' hq => ?_)
  cases r with
  | error e => exact hx pins σ H s e s' I hq
  | ok fl =>
    cases fl with
    | ret u => exact I.after hq
    | next => exact False.elim hq
    | brk => exact False.elim hq
    | cont => exact False.elim hq

theorem pe_call (F : FnOk X.prog X.w X.K X.mg X.base CX k f fd ps sp) (hr : Room k X.A) (hg : Gl X x) (hm : X.mg x = some (.ref f)) (hk : PySem.W.keepIn X.K (.ref f) = true) (hb : Binds X.K fd ps ds) (hd : Vals dvs ds) (hx : Passes CX X E)
    (ha : PA X (e :: es) t) (hdb : (x == ("__debug__" : Str)) = false := by decide) (he : starEach (e :: es) X.env = (false, eval e X.env) :: starEach es X.env := by rfl) (hpl : (backTo pos (starEach es X.env)).any (·.1) = false := by rfl) :
    PE X (.Call (.Name x p) (e :: es) [] pos) (tCall sp dvs E t) := by
  intro pins s σ H Q I h
  refine wpAny_Call_Name_kw (ld_glob I hg hm ?_ hdb)
  refine PySem.W.callWith_K (h₀ := X.base) I.ok.mod.kin hk (thn (ha pos pins s σ H _ I h) fun us s1 ⟨vs, H1, I1, r, q⟩ => ⟨I1.kIn, ?_⟩) he hpl
  exact run_fn F hr hb hd hx I1 r q
end

/-! ### keywords -/
section
variable {X : Cx} {CX : CXT} {k : Nat} {f C : Addr} {fd : FuncData} {ps ks : List Str} {sp : Sp} {E : XK} {x m : Str} {p pos apos kpos : Pos} {e o : Expr} {es : List Expr} {kws : List Keyword} {te ta : TE} {t tk : TA} {nm : Option Str}
variable {g : List Value → List Value → List Value} {gV : List V → List V → List V}
end

/-! ### a def's body keeps its promise -/
/-- names: the parameters first -/
structure FnScope (N P : List Str) (sc : Scope) : Prop where
  kind : sc.kind = .function
  co : sc.isCoroutine = false
  gen : sc.isGenerator = false
  nd : N.Nodup
  pre : N.take P.length = P
  par : ∀ x ∈ P, sc.names.lookup x = some .local ∨ sc.names.lookup x = some .cell
  nofree : ∀ y ∈ sc.names, y.2 ≠ .free

theorem bindL_out {kindOf : Str → Option NameKind} {x : Str} : ∀ {binds : List (Str × Value)} {m : Str → Option Value}, (∀ v, (x, v) ∉ binds) → bindL kindOf binds m x = m x
  | [], _, _ => rfl
  | (n, v) :: r, m, h => by
    unfold bindL
    rw [bindL_out fun w hw => h w (List.mem_cons_of_mem _ hw)]
    split
    · have : x ≠ n := by rintro rfl; exact h v List.mem_cons_self
      simp [this]
    · rfl
theorem bindC_out {kindOf : Str → Option NameKind} {x : Str} : ∀ {binds : List (Str × Value)} {m : Str → Option Value}, (∀ v, (x, v) ∉ binds) → bindC kindOf binds m x = m x
  | [], _, _ => rfl
  | (n, v) :: r, m, h => by
    unfold bindC
    rw [bindC_out fun w hw => h w (List.mem_cons_of_mem _ hw)]
    split
    · rfl
    · have : x ≠ n := by rintro rfl; exact h v List.mem_cons_self
      simp [this]
theorem bindL_get {kindOf : Str → Option NameKind} {x : Str} {v : Value} : ∀ {P : List Str} {vs : List Value} {i : Nat} {m : Str → Option Value}, P.Nodup → P[i]? = some x → vs[i]? = some v → kindOf x = some .local →
    bindL kindOf (P.zip vs) m x = some v
  | [], _, _, _, _, h, _, _ => by simp at h
  | _ :: _, [], _, _, _, _, h, _ => by simp at h
  | p :: P, w :: vs, 0, m, nd, h1, h2, hk => by
    simp at h1 h2; subst h1; subst h2
    show bindL kindOf ((p, w) :: P.zip vs) m p = _
    unfold bindL
    rw [bindL_out fun v hv => (List.nodup_cons.mp nd).1 (List.of_mem_zip hv).1, if_pos hk]
    simp
  | p :: P, w :: vs, i + 1, m, nd, h1, h2, hk => by
    show bindL kindOf ((p, w) :: P.zip vs) m x = _
    unfold bindL
    exact bindL_get (i := i) (List.nodup_cons.mp nd).2 (by simpa using h1) (by simpa using h2) hk
theorem bindC_get {kindOf : Str → Option NameKind} {x : Str} {v : Value} : ∀ {P : List Str} {vs : List Value} {i : Nat} {m : Str → Option Value}, P.Nodup → P[i]? = some x → vs[i]? = some v → kindOf x ≠ some .local →
    bindC kindOf (P.zip vs) m x = some v
  | [], _, _, _, _, h, _, _ => by simp at h
  | _ :: _, [], _, _, _, _, h, _ => by simp at h
  | p :: P, w :: vs, 0, m, nd, h1, h2, hk => by
    simp at h1 h2; subst h1; subst h2
    show bindC kindOf ((p, w) :: P.zip vs) m p = _
    unfold bindC
    rw [bindC_out fun v hv => (List.nodup_cons.mp nd).1 (List.of_mem_zip hv).1, if_neg hk]
    simp
  | p :: P, w :: vs, i + 1, m, nd, h1, h2, hk => by
    show bindC kindOf ((p, w) :: P.zip vs) m x = _
    unfold bindC
    exact bindC_get (i := i) (List.nodup_cons.mp nd).2 (by simpa using h1) (by simpa using h2) hk

/-- the names' values at the entry -/
def start (N : List Str) (vs : List V) : St := vs.map some ++ List.replicate (N.length - vs.length) none

/-- the context of a def's body, at its entry; an exception leaves the frame, then lies as CX says -/
def cxOf (CX : CXT) (P : Program) (w : World) (K : PySem.W.Frag) (mg : Str → Option Value) (base : Heap) (N : List Str) (qual : Str) (scope : Scope) (f : Addr) (cd : Value) (A : Around) (outer : List Env) (s : Shared) (H : Hp) (E : XK) : Cx where
  prog := P
  w := w
  K := K
  mg := mg
  base := base
  A := A.deeper (envOfC qual scope s.heap.objs.size f cd)
  N := N
  s_0 := s
  H_0 := H
  env := envOfC qual scope s.heap.objs.size f cd
  outer := outer
  stack := envOfC qual scope s.heap.objs.size f cd :: outer
  ex := []
  calm := true
  fn := fun _ => true
  pn := []
  xe := fun e s' => wpAny (model P w) (A.deeper (envOfC qual scope s.heap.objs.size f cd)) (leaving (envOfC qual scope s.heap.objs.size f cd) e) (fun _ s'' => CX outer H s E e s'') (fun e' s'' => CX outer H s E e' s'') s'

theorem cell_has {sc : Scope} {n : Nat} {x : Str} (h : sc.names.lookup x = some .cell) : ∃ c, (cellsFrom n sc.names []).lookup x = some c := by
  have q := PySem.W.cellsFrom_some sc.names n [] (.inl h)
  exact Option.isSome_iff_exists.mp q

theorem inv_start {CX : CXT} {P : Program} {w : World} {K : PySem.W.Frag} {mg : Str → Option Value} {base : Heap} {N ps : List Str} {qual : Str} {scope : Scope} {f : Addr} {cd : Value} {A : Around} {outer : List Env} {s s1 : Shared} {H : Hp} {E : XK} {us : List Value} {vs : List V}
    (S : FnScope N ps scope) (hd : A.handled = none) (e0 : Env0 P w K mg base A outer s H) (hl : vs.length = ps.length) (r : Vals vs us)
    (x : InCallC s s.heap.objs.size (bindL (envOfC qual scope s.heap.objs.size f cd).kindOf (ps.zip us) fun _ => none) (cellsFrom (s.heap.objs.size + 1) scope.names []) (bindC (envOfC qual scope s.heap.objs.size f cd).kindOf (ps.zip us) fun _ => none) s1) :
    Inv (cxOf CX P w K mg base N qual scope f cd A outer s H E) [] (start N vs) H s1 := by
  have hpl : ps.length ≤ N.length := by have := congrArg List.length S.pre; rw [List.length_take] at this; omega
  obtain ⟨h1, tk, rfl, hk⟩ := x.done
  have noA : ∀ b : Addr, b ∉ (cxOf CX P w K mg base N qual scope f cd A outer s H E).ex := fun b z => absurd (show b ∈ ([] : List Addr) from z) (by simp)
  refine ⟨⟨e0.mod, S.kind, rfl, rfl, Nat.le_refl _, fun y z c h1 h2 => ?_, fun y hy => ?_, fun y c _ h => ?_, fun _ => hd, Around.frames_deeper e0.frames, .inr ⟨rfl, rfl⟩, fun b z => absurd z (noA b), e0.bs, e0.bsz, fun b _ _ => noA b, fun b z => absurd z (noA b), e0.funs, e0.frf, fun y c h hb => (let ⟨_, o, ho, _⟩ := e0.funs.mem hb; absurd (Heap.lt_size ho) (Nat.not_lt.mpr (Nat.le_of_lt (x.above y c (PySem.mem_of_lookup h)))))⟩,
    rfl, e0.bare, Un.kept hk, ⟨_, x.toInCall.ns, fun i y v h1 h2 h3 => ?_⟩, fun y c h => ⟨_, x.cell y c h⟩, e0.hok.fresh (Nat.le_refl _), fun y c h => ?_, fun p hp => absurd (show p ∈ ([] : List (Addr × Obj)) from hp) (by simp), e0.hok.kept hk, ?_⟩
  · exact name_of_addr x.apart (PySem.mem_of_lookup h1) (PySem.mem_of_lookup h2)
  · have hy : scope.names.lookup y = some .cell ∨ scope.names.lookup y = some .free := hy
    rcases hy with hy | hy
    · exact cell_has hy
    · exact absurd rfl (S.nofree _ (PySem.mem_of_lookup hy))
  · exact Nat.le_of_lt (x.above y c (PySem.mem_of_lookup h))
  · have hi : i < vs.length := by
      unfold start at h2
      by_cases hi : i < vs.length
      · exact hi
      · rw [List.getElem?_append_right (by simpa using hi)] at h2
        rw [List.getElem?_replicate] at h2
        split at h2 <;> cases h2
    have ha : vs[i]? = some v := by
      unfold start at h2
      rw [List.getElem?_append_left (by simpa using hi), List.getElem?_map] at h2
      cases e : vs[i]? with
      | none => rw [e] at h2; cases h2
      | some a => rw [e] at h2; cases h2; rfl
    obtain ⟨u, hu, rv⟩ := r.get ha
    have hp : ps[i]? = some y := by
      rw [← S.pre, List.getElem?_take_of_lt (by omega)]; exact h1
    have ndP : ps.Nodup := by rw [← S.pre]; exact S.nd.sublist (List.take_sublist _ _)
    refine ⟨u, rv, ?_⟩
    rcases S.par y (List.mem_of_getElem? hp) with k | k
    · exact .inl ⟨k, bindL_get ndP hp hu k⟩
    · obtain ⟨c, e⟩ := cell_has (n := s.heap.objs.size + 1) k
      refine .inr ⟨.inl k, c, e, ?_⟩
      have q := x.cell y c e
      rw [bindC_get ndP hp hu (by show scope.names.lookup y ≠ _; rw [k]; decide)] at q
      exact q
  · exact e0.hok.fresh (Nat.le_of_lt (x.above y c (PySem.mem_of_lookup h)))
  · unfold start
    show _ = N.length
    rw [List.length_append, List.length_map, List.length_replicate]
    omega

/-- THE RULE: a def (or a method) of the text, by its body. The body's reading t is chosen for each entry; it is run at the parameters' values -/
theorem fn_of {CX : CXT} {P : Program} {w : World} {K : PySem.W.Frag} {mg : Str → Option Value} {base : Heap} {k : Nat} {f : Addr} {name qual : Str} {params : Arguments} {body : List Stmt} {scope : Scope} {dV kV doc pm cdv ct oc : Value} {an od : Option Addr}
    {osl : Array (Option Value)} {N ps : List Str} {sp : Sp} (lk : K.lookup f = some ⟨oc, od, .func (PySem.W.fnOf name qual params body scope dV kV doc pm an cdv ct), osl⟩) (hcd : PySem.W.codeIn K cdv qual = true) (S : FnScope N ps scope)
    (len : ∀ vs H Q E, sp vs H Q E → vs.length = ps.length)
    (hbody : ∀ (A : Around) (outer : List Env) (s : Shared) (H : Hp) (vs : List V) (Q : VK) (E : XK), Room k (A.deeper (envOfC qual scope s.heap.objs.size f cdv)) → sp vs H Q E →
      ∃ t, PSs (cxOf CX P w K mg base N qual scope f cdv A outer s H E) body t ∧ t { nx := fun _ H' => Q .non H', rt := Q } (start N vs) H) :
    FnOk P w K mg base CX (k + 1) f (PySem.W.fnOf name qual params body scope dV kV doc pm an cdv ct) ps sp := by
  refine ⟨len, fun A outer s H args us vs Q E hr e0 hb r hsp => ?_⟩
  have hl := len _ _ _ _ hsp
  have KX : K.In s.heap := e0.mod.kin.keeps fun b o e => (e0.bs b o e).1
  have lim : s.heap.NoLimit := e0.mod.nolimit.keeps fun b o e => (e0.bs b o e).1
  have hkind : ∀ y ∈ ps.zip us, scope.names.lookup y.1 = some .local ∨ (scope.names.lookup y.1 = some .cell ∧ ((cellsFrom (s.heap.objs.size + 1) scope.names []).lookup y.1).isSome = true) := fun ⟨n, v⟩ hy => by
    rcases S.par n (List.of_mem_zip hy).1 with q | q
    · exact .inl q
    · exact .inr ⟨q, PySem.W.cellsFrom_some _ _ _ (.inl q)⟩
  refine codeAny_call_function hr.depth (KX _ _ lk) rfl S.co S.gen rfl (PySem.W.codeRec_of KX hcd) (hb _ _ _ _ ?_)
  refine wpAny_newFunctionEnv_cells S.kind hkind fun env he s1 x => ?_
  subst he
  refine ⟨lim.keeps x.toInCall.keep, codeAny_func ?_⟩
  obtain ⟨t, ht, hq⟩ := hbody A outer s H vs Q E (hr.deeper _) hsp
  have I : Inv (cxOf CX P w K mg base N qual scope f cdv A outer s H E) [] (start N vs) H s1 := inv_start S hr.hd e0 hl r x
  refine wpAny_mono (ht [] s1 (start N vs) H _ I hq) (fun fl s' hs => ?_) fun e s' hs => hs
  have fin : ∀ {σ' : St} {H' : Hp} {v : V} {u : Value}, Inv (cxOf CX P w K mg base N qual scope f cdv A outer s H E) [] σ' H' s' → RelV v u → Q v H' → CE outer P w H s Q u s' :=
    fun {σ' H' v u} J rv q => ⟨v, H', J.os, J.bare, J.base, J.hok, rv, q⟩
  cases fl with
  | ret u =>
    obtain ⟨v, σ', H', J, rv, q⟩ := hs
    exact fin J rv q
  | next =>
    obtain ⟨σ', H', J, q⟩ := hs
    exact fin (v := V.non) (u := Value.none) J rfl q
  | brk =>
    obtain ⟨_, _, _, q⟩ := hs
    exact False.elim q
  | cont =>
    obtain ⟨_, _, _, q⟩ := hs
    exact False.elim q
end L2

namespace L2
open PySem PySem.Spec PyProof.Rows
section
variable {X : Cx} {x : Str} {p pos : Pos} {e : Expr} {es : List Expr} {t : TA} {id T : String} {r : List V → Hp → VK → Prop}

@[reducible] def tCB (r : List V → Hp → VK → Prop) (t : TA) : TE := fun σ H Q => t σ H fun vs H1 => r vs H1 Q
/-- f(e, ..), f a built-in function -/
theorem pe_callB (hc : CallR X (.builtin id) r) (hg : Gl X x) (hm : X.mg x = none) (hv : bootBuiltins x = some (.builtin id)) (ha : PA X (e :: es) t) (hn : x ≠ "__name__" := by decide) (hdb : (x == ("__debug__" : Str)) = false := by decide)
    (he : starEach (e :: es) X.env = (false, eval e X.env) :: starEach es X.env := by rfl) (hpl : (backTo pos (starEach es X.env)).any (·.1) = false := by rfl) : PE X (.Call (.Name x p) (e :: es) [] pos) (tCB r t) := by
  intro pins s σ H Q I h
  refine wpAny_Call_Name_kw (ld_blt I hg hm hv ?_ hn hdb)
  exact PyProof.Rows.callWith_builtin1 (thn (ha pos pins s σ H _ I h) fun us s1 ⟨vs, H1, I1, r1, q1⟩ => hc pins s1 σ H1 vs us Q I1 r1 q1) he hpl
/-- T(e, ..), T a built-in type -/
theorem pe_callTy (hc : CallR X (.type T) r) (hg : Gl X x) (hm : X.mg x = none) (hv : bootBuiltins x = some (.type T)) (ha : PA X (e :: es) t) (hn : x ≠ "__name__" := by decide) (hdb : (x == ("__debug__" : Str)) = false := by decide)
    (he : starEach (e :: es) X.env = (false, eval e X.env) :: starEach es X.env := by rfl) (hpl : (backTo pos (starEach es X.env)).any (·.1) = false := by rfl) : PE X (.Call (.Name x p) (e :: es) [] pos) (tCB r t) := by
  intro pins s σ H Q I h
  refine wpAny_Call_Name_kw (ld_blt I hg hm hv ?_ hn hdb)
  exact PyProof.Rows.callWith_type1 (thn (ha pos pins s σ H _ I h) fun us s1 ⟨vs, H1, I1, r1, q1⟩ => hc pins s1 σ H1 vs us Q I1 r1 q1) he hpl
end
end L2

namespace HT
open PySem PyProof.Rows

section
open PySem.SeqAt
open PySem.AutoSeq1 (wpAny_loadPart')
open PySem.MeetsSeq PySem.MeetsSeq2 PySem.MeetsSeq3

end

section
variable {prog : Program} {w : World} {A : Around} {E : Value → Shared → Prop} {s : Shared}

/-! ### t[a:b], not the whole -/
/-- a slice's bound as a place among n (d where it is left out) -/
def sIx (n d : Nat) : Option Int → Nat
  | none => d
  | some v => if v < 0 then (v + (n : Int)).toNat else min v.toNat n
theorem sIx_none (n d : Nat) : sIx n d none = d := rfl
theorem sIx_nat (n d k : Nat) : sIx n d (some (k : Int)) = min k n := by
  show (if (k : Int) < 0 then ((k : Int) + (n : Int)).toNat else min (k : Int).toNat n) = min k n
  rw [if_neg (by omega), Int.toNat_natCast]
theorem sIx_le (n d : Nat) (hd : d ≤ n) (o : Option Int) : sIx n d o ≤ n := by
  cases o with
  | none => exact hd
  | some v =>
    show (if v < 0 then (v + (n : Int)).toNat else min v.toNat n) ≤ n
    by_cases hv : v < 0
    · rw [if_pos hv]; omega
    · rw [if_neg hv]; exact Nat.min_le_right _ _
end
end HT

namespace L2
open PySem PySem.Spec PyProof.Rows

/-! ### the parts of a slice -/
abbrev TO := St → Hp → (Option Int → Hp → Prop) → Prop
/-- a slice's part (left out, or an int) -/
def PO (X : Cx) (e : Option Expr) (t : TO) : Prop :=
  ∀ (pins : List (Addr × Obj)) (s : Shared) (σ : St) (H : Hp) (Q : Option Int → Hp → Prop), Inv X pins σ H s → t σ H Q →
    wpAny (model X.prog X.w) X.A (evalPart e X.env) (fun u s' => ∃ o H', Inv X pins σ H' s' ∧ IsPart u o ∧ Q o H') X.xe s
@[reducible] def tNoPart : TO := fun _ H Q => Q none H
@[reducible] def tPart (t : TE) : TO := fun σ H Q => t σ H fun x H1 => ∃ i, x = .int i ∧ Q (some i) H1

section
variable {X : Cx} {e : Expr} {te : TE} {lo hi : Option Expr} {tl th : TO} {pos p2 : Pos}

theorem po_none : PO X none tNoPart := by
  intro pins s σ H Q I h
  rw [evalPart_none]
  exact wpAny_pure ⟨none, H, I, .none, h⟩
theorem po_some (h : PE X e te) : PO X (some e) (tPart te) := by
  intro pins s σ H Q I hw
  rw [evalPart_some]
  refine thn (h pins s σ H _ I hw) fun u s1 ⟨x, H1, I1, r1, q1⟩ => ?_
  obtain ⟨i, rfl, q⟩ := q1
  obtain ⟨t, rfl⟩ := r1
  exact ⟨some i, H1, I1, .int i t, q⟩

/-- what a slice of a value is, by values: the slice object stands at sl -/
def SlR (X : Cx) (r : V → Option Int → Option Int → Hp → VK → Prop) : Prop :=
  ∀ (pins : List (Addr × Obj)) (s : Shared) (σ : St) (H : Hp) (x : V) (v vl vu : Value) (lo hi : Option Int) (sl : Addr) (Q : VK), Inv X pins σ H s → RelV x v → s.heap.IsSliceOf sl vl vu .none → IsPart vl lo → IsPart vu hi → r x lo hi H Q →
    ∃ T id, typeLookup (.type T) "__getitem__" = pure (some (.builtin id)) ∧ s.TypeIs v T ∧ wpAny (model X.prog X.w) X.A (getItem v (.ref sl)) (EP X pins σ Q) X.xe s
theorem SlR.or {r r' : V → Option Int → Option Int → Hp → VK → Prop} (h : SlR X r) (h' : SlR X r') : SlR X (fun x lo hi H Q => r x lo hi H Q ∨ r' x lo hi H Q) := by
  intro pins s σ H x v vl vu lo hi sl Q I rx hs pl pu q
  rcases q with q | q
  · exact h pins s σ H x v vl vu lo hi sl Q I rx hs pl pu q
  · exact h' pins s σ H x v vl vu lo hi sl Q I rx hs pl pu q
@[reducible] def tSl (r : V → Option Int → Option Int → Hp → VK → Prop) (te : TE) (tl th : TO) : TE := fun σ H Q => te σ H fun x H1 => tl σ H1 fun l H2 => th σ H2 fun u H3 => r x l u H3 Q
/-- a[lo:hi], any a -/
theorem pe_slice {r : V → Option Int → Option Int → Hp → VK → Prop} (hr : SlR X r) (he : PE X e te) (hl : PO X lo tl) (hu : PO X hi th) : PE X (.Subscript e (.Slice lo hi none p2) pos) (tSl r te tl th) := by
  intro pins s σ H Q I h
  refine Subscript_ (thn (he pins s σ H _ I h) fun v s1 ⟨x, H1, I1, r1, q1⟩ => ?_)
  refine wpAny_Slice (thn (hl pins s1 σ H1 _ I1 q1) fun vl s2 ⟨l, H2, I2, pl, q2⟩ => thn (hu pins s2 σ H2 _ I2 q2) fun vu s3 ⟨u, H3, I3, pu, q3⟩ => ?_)
  rw [evalPart_none]
  refine wpAny_pure ?_
  have I4 : Inv X pins σ H3 { s3 with heap := s3.heap.push { cls := .type "slice", data := .fields #[vl, vu, .none] } } := I3.kept (t' := s3.toks) fun b ob q => Heap.get?_push_of_some _ q
  obtain ⟨T, id, hT, ht, hg⟩ := hr pins { s3 with heap := s3.heap.push { cls := .type "slice", data := .fields #[vl, vu, .none] } } σ H3 x v vl vu l u s3.heap.objs.size Q I4 r1 (Heap.IsSliceOf.new ..) pl pu q3
  show wpAny (model X.prog X.w) X.A (subscriptTail e (.Slice lo hi none p2) v (.ref s3.heap.objs.size)) (EP X pins σ Q) X.xe { s3 with heap := s3.heap.push { cls := .type "slice", data := .fields #[vl, vu, .none] } }
  exact tail_any (ops := [.ref s3.heap.objs.size, v]) ht hT hg (by with_unfolding_all rfl)

/-- the items of xs[lo:hi] -/
def cutV (xs : List V) (lo hi : Option Int) : List V := (xs.drop (HT.sIx xs.length 0 lo)).take (HT.sIx xs.length xs.length hi - HT.sIx xs.length 0 lo)
theorem cutV_length (xs : List V) (lo hi : Option Int) : (cutV xs lo hi).length ≤ xs.length := by
  unfold cutV
  rw [List.length_take, List.length_drop]
  omega
/-! ### t < u, t + u -/
end
end L2

namespace L2
open PySem PySem.Spec PyProof.Rows

/-! ### places -/
/-- the place that an index of any sign means -/
def ixN (n : Nat) (i : Int) : Option Nat := if 0 ≤ i then (if i < n then some i.toNat else none) else if -(n : Int) ≤ i then some (i + n).toNat else none
def atI {α : Type} (xs : List α) (i : Int) : Option α := (ixN xs.length i).bind fun j => xs[j]?
theorem ixN_seq {n : Nat} {i : Int} {j : Nat} (h : ixN n i = some j) : seqIndex? i n = some j ∧ j < n ∧ -(n : Int) ≤ i ∧ i < n := by
  unfold ixN at h
  by_cases h0 : 0 ≤ i
  · rw [if_pos h0] at h
    by_cases h1 : i < n
    · rw [if_pos h1] at h
      have e : i.toNat = j := Option.some.inj h
      exact ⟨by rw [seqIndex_of h0 h1, e], by omega, by omega, h1⟩
    · rw [if_neg h1] at h; cases h
  · rw [if_neg h0] at h
    by_cases h1 : -(n : Int) ≤ i
    · rw [if_pos h1] at h
      have e : (i + n).toNat = j := Option.some.inj h
      exact ⟨by rw [seqIndex_neg (by omega) h1, e], by omega, h1, by omega⟩
    · rw [if_neg h1] at h; cases h
theorem atI_get {α : Type} {xs : List α} {i : Int} {v : α} (h : atI xs i = some v) : ∃ j, seqIndex? i xs.length = some j ∧ xs[j]? = some v ∧ j < xs.length ∧ -(xs.length : Int) ≤ i ∧ i < xs.length := by
  unfold atI at h
  cases e : ixN xs.length i with
  | none => rw [e] at h; cases h
  | some j =>
    rw [e] at h
    obtain ⟨h1, h2, h3, h4⟩ := ixN_seq e
    exact ⟨j, h1, h, h2, h3, h4⟩
theorem atI_nat {α : Type} {xs : List α} {j : Nat} {v : α} (h : xs[j]? = some v) : atI xs (j : Int) = some v := by
  have hj : j < xs.length := (List.getElem?_eq_some_iff.mp h).1
  have e : ixN xs.length (j : Int) = some j := by
    unfold ixN
    rw [if_pos (by omega), if_pos (by omega)]; simp
  unfold atI; rw [e]; exact h
/-! ### what may be subscripted -/
/-- what stands as an index of a plain subscript -/
def PlainIx (b : Expr) : Prop := ∀ o i, subscripted b false o i = operate [o, i] (getItem o i)
/-- a subscript by values -/
def IxR (X : Cx) (r : R2) : Prop :=
  ∀ (value slice : Expr) (pins : List (Addr × Obj)) (s : Shared) (σ : St) (H : Hp) (x y : V) (v u : Value) (Q : VK), Inv X pins σ H s → RelV x v → RelV y u → r x y H Q →
    subscripted slice false v u = operate [v, u] (getItem v u) → wpAny (model X.prog X.w) X.A (subscriptTail value slice v u) (EP X pins σ Q) X.xe s
/-- a call of a builtin's method by values: the receiver, the arguments -/
def MtR (X : Cx) (id : String) (r : V → List V → Hp → VK → Prop) : Prop :=
  ∀ (pins : List (Addr × Obj)) (s : Shared) (σ : St) (H : Hp) (x : V) (xs : List V) (v : Value) (us : List Value) (Q : VK), Inv X pins σ H s → RelV x v → Vals xs us → r x xs H Q →
    wpAny (model X.prog X.w) X.A (call (.builtin id) (v :: us)) (EP X pins σ Q) X.xe s
section
variable {X : Cx} {a b : Expr} {ta tb : TE} {pos : Pos}
theorem IxR.or {r r' : R2} (h : IxR X r) (h' : IxR X r') : IxR X (fun x y H Q => r x y H Q ∨ r' x y H Q) := by
  intro value slice pins s σ H x y v u Q I rx ry q hs
  rcases q with q | q
  · exact h value slice pins s σ H x y v u Q I rx ry q hs
  · exact h' value slice pins s σ H x y v u Q I rx ry q hs
theorem MtR.or {id : String} {r r' : V → List V → Hp → VK → Prop} (h : MtR X id r) (h' : MtR X id r') : MtR X id (fun x xs H Q => r x xs H Q ∨ r' x xs H Q) := by
  intro pins s σ H x xs v us Q I rx rs q
  rcases q with q | q
  · exact h pins s σ H x xs v us Q I rx rs q
  · exact h' pins s σ H x xs v us Q I rx rs q
/-- a[b] -/
theorem pe_ix {r : R2} (hr : IxR X r) (ha : PE X a ta) (hb : PE X b tb) (hs : PlainIx b) : PE X (.Subscript a b pos) (tOp r ta tb) := by
  intro pins s σ H Q I h
  exact Subscript_ (binT ha hb I h fun v u s2 x y H2 I2 rx ry q => hr a b pins s2 σ H2 x y v u Q I2 rx ry q (hs _ _))

@[reducible] def rIxL (K : PySem.W.Frag) : R2 := fun x y H Q => ∃ p xs i v, x = .ref p ∧ y = .int i ∧ SqL K H p xs ∧ atI xs i = some v ∧ Q v H
@[reducible] def rIxT (K : PySem.W.Frag) : R2 := fun x y H Q => ∃ p xs i v, x = .ref p ∧ y = .int i ∧ SqT K H p xs ∧ atI xs i = some v ∧ Q v H
@[reducible] def rIxS : R2 := fun x y H Q => ∃ z i c, x = .str z ∧ y = .int i ∧ z.length ≤ sizeLine ∧ atI z.cps.toList i = some c ∧ Q (.str ⟨#[c]⟩) H
theorem ix_list : IxR X (rIxL X.K) := by
  intro value slice pins s σ H x y v u Q I rx ry h hs
  obtain ⟨p, xs, i, z, rfl, rfl, hq, he, q⟩ := h
  cases rx
  obtain ⟨t, rfl⟩ := ry
  obtain ⟨its, r, pl, hz⟩ := I.list hq
  obtain ⟨j, h1, h2, h3, h4, h5⟩ := atI_get he
  obtain ⟨w, ew, rw'⟩ := r.get h2
  have hl := r.length
  have hn := line63
  have fin : EP X pins σ Q w s := ⟨z, H, I, rw', q⟩
  by_cases h0 : 0 ≤ i
  · have hj : i.toNat = j := by
      rw [seqIndex_of h0 h5] at h1
      exact Option.some.inj h1
    exact item_listR pl.isList h0 (by omega) (by rw [hj]; simpa using ew) fin hs
  · have hj : (i + (its.toArray.size : Int)).toNat = j := by
      rw [seqIndex_neg (by omega) h4] at h1
      rw [List.size_toArray, ← hl]
      exact Option.some.inj h1
    exact subscriptTail_builtinR (x := w) pl.isList.typeIs slot_list_getitem.lookup
      (wpAny_getItem_list_neg (Q := fun r s' => r = w ∧ EP X pins σ Q r s') pl.isList (by omega) (by rw [List.size_toArray] <;> omega) (by omega) (by rw [hj]; simpa using ew) ⟨rfl, fin⟩) hs
theorem ix_tup : IxR X (rIxT X.K) := by
  intro value slice pins s σ H x y v u Q I rx ry h hs
  obtain ⟨p, xs, i, z, rfl, rfl, hq, he, q⟩ := h
  cases rx
  obtain ⟨t, rfl⟩ := ry
  obtain ⟨its, r, pl, hz⟩ := I.tuple hq
  obtain ⟨j, h1, h2, h3, h4, h5⟩ := atI_get he
  obtain ⟨w, ew, rw'⟩ := r.get h2
  have hl := r.length
  have hn := line63
  have fin : EP X pins σ Q w s := ⟨z, H, I, rw', q⟩
  exact subscriptTail_builtinR (x := w) pl.typeIs slot_tuple_getitem.lookup
    (getItem_tuple (j := j) (Q := fun r s' => r = w ∧ EP X pins σ Q r s') pl (by omega) (by omega) (by rw [List.size_toArray, ← hl]; exact h1) (by simpa using ew) ⟨rfl, fin⟩) hs
theorem ix_str : IxR X rIxS := by
  intro value slice pins s σ H x y v u Q I rx ry h hs
  obtain ⟨z, i, c, rfl, rfl, hz, he, q⟩ := h
  obtain ⟨t, rfl⟩ := rx
  obtain ⟨t', rfl⟩ := ry
  obtain ⟨j, h1, h2, h3, h4, h5⟩ := atI_get he
  have hl : z.cps.toList.length = z.length := by simp [Str.length]
  rw [hl] at h1 h4 h5
  have hn := line63
  exact tail_any (typeIs_str s z t) slot_str_getitem.lookup (getItem_str (c := c) (by
    have e1 : decide (i < -(2 ^ 63 : Int)) = false := decide_eq_false (by omega)
    have e2 : decide (i ≥ 2 ^ 63) = false := decide_eq_false (by omega)
    rw [e1, e2, Bool.or_false]) (by rw [h1]; simpa using h2) ⟨.str ⟨#[c]⟩, H, I.tok _, ⟨_, rfl⟩, q⟩) hs
/-! ### xs[i] = v, any sign -/
/-- the list's object behind a store -/
theorem mapSeq_set (its : List Value) (n j : Nat) (u : Value) : Obj.mapSeq (·.setIfInBounds j u) { cls := .type "list", data := .seq its.toArray n } = { cls := .type "list", data := .seq (its.set j u).toArray n } := by
  simp [Obj.mapSeq]
theorem Inv.lst {pins : List (Addr × Obj)} {σ : St} {H : Hp} {s : Shared} {p : Addr} {xs : List V} (I : Inv X pins σ H s) (h : H p = some (.lst xs)) :
    ∃ (its : List Value) (n : Nat), Vals xs its ∧ s.heap.get? p = some { cls := .type "list", data := .seq its.toArray n } ∧ xs.length ≤ sizeLine := by
  obtain ⟨z, its, n, r, e⟩ := I.hok p _ h
  exact ⟨its, n, r, e, z⟩
/-- the list at p is written by an update of its object -/
theorem Inv.lstUpd {pins : List (Addr × Obj)} {σ : St} {H : Hp} {s : Shared} {p : Addr} {xs ys : List V} {its its' : List Value} {n n' : Nat} {f : Obj → Obj} (I : Inv X pins σ H s) (h : H p = some (.lst xs))
    (ho : s.heap.get? p = some { cls := .type "list", data := .seq its.toArray n }) (hf : f { cls := .type "list", data := .seq its.toArray n } = { cls := .type "list", data := .seq its'.toArray n' }) (r : Vals ys its') (hz : ys.length ≤ sizeLine) (t : Nat) :
    Inv X pins σ (upd H p (.lst ys)) { s with heap := s.heap.update p f, toks := t } := by
  have e : (s.heap.update p f).get? p = some { cls := .type "list", data := .seq its'.toArray n' } := by
    rw [Heap.get?_update_self f ho (by rw [hf] <;> rfl), hf]
  refine I.write (x := p) (e := p) (by rw [h]; trivial) (.inl rfl) (fun b u hb q => (Heap.get?_update_other _ _ (Ne.symm hb)).trans q) ⟨_, e⟩ ?_
  exact ⟨hz, its', n', r, e⟩
@[reducible] def rSetL : V → V → V → Hp → (Hp → Prop) → Prop := fun o i v H Q => ∃ p xs k j, o = .ref p ∧ i = .int k ∧ H p = some (.lst xs) ∧ ixN xs.length k = some j ∧ Q (upd H p (.lst (xs.set j v)))
theorem set_list : PSet X rSetL := by
  intro pins s σ H o i v ov iv u Q I ro ri rv h
  obtain ⟨p, xs, k, j, rfl, rfl, hp, hj, q⟩ := h
  cases ro
  obtain ⟨t, rfl⟩ := ri
  obtain ⟨its, n, r, ho, hz⟩ := I.lst hp
  obtain ⟨h1, h2, h3, h4⟩ := ixN_seq hj
  have hl := r.length
  have hn := line63
  have I' : Inv X pins σ (upd H p (.lst (xs.set j v))) { s with heap := s.heap.update p (Obj.mapSeq (·.setIfInBounds j u)) } :=
    I.lstUpd hp ho (mapSeq_set its n j u) (r.set rv j) (by rw [List.length_set]; exact hz) s.toks
  by_cases h0 : 0 ≤ k
  · have hk : k.toNat = j := by
      rw [seqIndex_of h0 h4] at h1
      exact Option.some.inj h1
    exact PySem.W.ki_setAt ho h0 (by omega) (by rw [List.size_toArray, ← hl]; exact h4) (by rw [hk]; exact ⟨_, I', q⟩)
  · have hk : (k + (its.toArray.size : Int)).toNat = j := by
      rw [seqIndex_neg (by omega) h3] at h1
      rw [List.size_toArray, ← hl]
      exact Option.some.inj h1
    exact PySem.W.ki_setBack ho (by omega) (by rw [List.size_toArray, ← hl]; exact h3) (by omega) (by rw [hk]; exact ⟨_, I', q⟩)

/-! ### slices -/
theorem slice_bounds (lo hi : Option Int) (n : Nat) : (sliceBounds lo hi none n).1 = ((HT.sIx n 0 lo : Nat) : Int) ∧ (sliceBounds lo hi none n).2.1 = ((HT.sIx n n hi : Nat) : Int) ∧ (sliceBounds lo hi none n).2.2 = 1 := by
  refine ⟨?_, ?_, rfl⟩
  · cases lo with
    | none => simp [sliceBounds, HT.sIx]
    | some i =>
      simp only [sliceBounds, HT.sIx, Option.getD_none, show (1 : Int) > 0 by decide, if_true]
      by_cases h : i < 0
      · simp only [h, if_true] <;> omega
      · simp only [h, if_false] <;> omega
  · cases hi with
    | none => simp [sliceBounds, HT.sIx]
    | some i =>
      simp only [sliceBounds, HT.sIx, Option.getD_none, show (1 : Int) > 0 by decide, if_true]
      by_cases h : i < 0
      · simp only [h, if_true] <;> omega
      · simp only [h, if_false] <;> omega
theorem slicePick_cut (its : List Value) (lo hi : Option Int) : slicePick its.toArray lo hi none = ((its.drop (HT.sIx its.length 0 lo)).take (HT.sIx its.length its.length hi - HT.sIx its.length 0 lo)).toArray := by
  obtain ⟨h1, h2, h3⟩ := slice_bounds lo hi its.toArray.size
  unfold slicePick
  rw [h1, h2, h3]
  simp only [sliceRange_one, pick_run, List.size_toArray] <;> rfl
/-- xs[lo:hi] of a list: a new list -/
@[reducible] def rSlL (K : PySem.W.Frag) : V → Option Int → Option Int → Hp → VK → Prop := fun x lo hi H Q => ∃ a xs, x = .ref a ∧ SqL K H a xs ∧ ∀ p, H p = none → Q (.ref p) (upd H p (.lst (cutV xs lo hi)))
theorem sl_list : SlR X (rSlL X.K) := by
  intro pins s σ H x v vl vu lo hi sl Q I rx hs pl pu h
  obtain ⟨a, xs, rfl, hx, q⟩ := h
  cases rx
  obtain ⟨its, r, ht, hz⟩ := I.list hx
  have hlen := r.length
  refine ⟨"list", _, slot_list_getitem.lookup, ht.isList.typeIs, ?_⟩
  refine wpAny_getItem_list_slice ht.isList hs pl pu .none (by simp) ?_ (by rw [List.size_toArray] <;> omega)
  rw [slicePick_cut, ← hlen]
  refine ⟨.ref s.heap.objs.size, _, I.laid (t' := s.toks) (o := .lst (cutV xs lo hi)) (fun b ob q => Heap.get?_push_of_some _ q) (Nat.le_refl _) ?_, rfl, q _ (I.hok.fresh (Nat.le_refl _))⟩
  exact ⟨Nat.le_trans (cutV_length xs lo hi) hz, _, 0, (r.drop (HT.sIx xs.length 0 lo)).take (HT.sIx xs.length xs.length hi - HT.sIx xs.length 0 lo), Heap.get?_push_size _ rfl⟩

/-! ### in, not in: flat items -/
def flatV : V → Bool
  | .non => true
  | .bl _ => true
  | .int _ => true
  | .str _ => true
  | _ => false
/-- == of flat values -/
def eqV : V → V → Bool
  | .non, .non => true
  | .bl a, .bl b => a == b
  | .bl a, .int b => (if a then 1 else 0) == b
  | .int a, .bl b => a == (if b then 1 else 0)
  | .int a, .int b => a == b
  | .str a, .str b => a == b
  | _, _ => false
theorem eqAt_V {A : Around} {s : Shared} {y x : V} {u v : Value} (ry : RelV y u) (rx : RelV x v) (fy : flatV y = true) (fx : flatV x = true) : SeqAt.EqAt A s u v (eqV y x) := by
  cases y with
  | non =>
    cases ry
    cases x with
    | non => cases rx; exact SeqAt.EqAt.same _
    | bl b => cases rx; exact SeqAt.EqAt.none_bool b
    | int b => obtain ⟨t, rfl⟩ := rx; exact SeqAt.EqAt.none_int b t
    | str b => obtain ⟨t, rfl⟩ := rx; exact SeqAt.EqAt.none_str b t
    | _ => exact absurd (show false = true from fx) Bool.false_ne_true
  | bl a =>
    cases ry
    cases x with
    | non => cases rx; exact SeqAt.EqAt.bool_none a
    | bl b => cases rx; exact SeqAt.EqAt.bool_bool a b
    | int b => obtain ⟨t, rfl⟩ := rx; exact SeqAt.EqAt.bool_int a b t
    | str b => obtain ⟨t, rfl⟩ := rx; exact SeqAt.EqAt.bool_str a b t
    | _ => exact absurd (show false = true from fx) Bool.false_ne_true
  | int a =>
    obtain ⟨t', rfl⟩ := ry
    cases x with
    | non => cases rx; exact SeqAt.EqAt.int_none a t'
    | bl b => cases rx; exact SeqAt.EqAt.int_bool a t' b
    | int b => obtain ⟨t, rfl⟩ := rx; exact SeqAt.EqAt.int_int a t' b t
    | str b => obtain ⟨t, rfl⟩ := rx; exact SeqAt.EqAt.int_str a t' b t
    | _ => exact absurd (show false = true from fx) Bool.false_ne_true
  | str a =>
    obtain ⟨t', rfl⟩ := ry
    cases x with
    | non => cases rx; exact SeqAt.EqAt.str_none a t'
    | bl b => cases rx; exact SeqAt.EqAt.str_bool a t' b
    | int b => obtain ⟨t, rfl⟩ := rx; exact SeqAt.EqAt.str_int a t' b t
    | str b => obtain ⟨t, rfl⟩ := rx; exact SeqAt.EqAt.str_str a t' b t
    | _ => exact absurd (show false = true from fx) Bool.false_ne_true
  | _ => exact absurd (show false = true from fy) Bool.false_ne_true
/-- the items' answers, read off the values (a value's own answer does not lean on its token) -/
def eqU (x : V) (u : Value) : Bool := match u with
  | .none => eqV .non x
  | .bool b => eqV (.bl b) x
  | .int i _ => eqV (.int i) x
  | .str z _ => eqV (.str z) x
  | _ => false
theorem eqU_of {x y : V} {u : Value} (r : RelV y u) (f : flatV y = true) : eqU x u = eqV y x := by
  cases y with
  | non => cases r; rfl
  | bl b => cases r; rfl
  | int i => obtain ⟨t, rfl⟩ := r; rfl
  | str z => obtain ⟨t, rfl⟩ := r; rfl
  | _ => exact absurd (show false = true from f) Bool.false_ne_true
theorem any_eqU {x : V} : ∀ {xs : List V} {us : List Value}, Vals xs us → xs.all flatV = true → us.any (eqU x) = xs.any fun y => eqV y x
  | _, _, .nil, _ => rfl
  | y :: xs, u :: us, .cons r t, f => by
    rw [List.all_cons, Bool.and_eq_true] at f
    rw [List.any_cons, List.any_cons, eqU_of r f.1, any_eqU t f.2]
theorem mem_eqAt {A : Around} {s : Shared} {x : V} {v : Value} (rx : RelV x v) (fx : flatV x = true) : ∀ {xs : List V} {us : List Value}, Vals xs us → xs.all flatV = true → ∀ u ∈ us, SeqAt.EqAt A s u v (eqU x u)
  | _, _, .nil, _ => fun u hu => by cases hu
  | y :: xs, u :: us, .cons r t, f => fun u' hu => by
    rw [List.all_cons, Bool.and_eq_true] at f
    rcases List.mem_cons.mp hu with rfl | hu
    · rw [eqU_of r f.1]; exact eqAt_V r rx f.1 fx
    · exact mem_eqAt rx fx t f.2 u' hu
def inV (x : V) (xs : List V) : Bool := xs.any fun y => eqV y x
/-- x in a list or tuple of flat items -/
@[reducible] def rIn (K : PySem.W.Frag) (neg : Bool) : R2 := fun x y H Q => ∃ p xs, y = .ref p ∧ (SqL K H p xs ∨ SqT K H p xs) ∧ flatV x = true ∧ xs.all flatV = true ∧ Q (.bl (if neg then !inV x xs else inV x xs)) H
theorem op_in_seq : OpR X (compareOp .In) (rIn X.K false) := by
  intro pins s σ H x y v u Q I rx ry h
  obtain ⟨p, xs, rfl, hq, fx, fs, q⟩ := h
  cases ry
  rcases hq with hq | hq
  · obtain ⟨its, r, pl, hz⟩ := I.list hq
    refine SeqAt.in_listAt (eqU x) pl.isList (fun w hw => mem_eqAt rx fx r fs w (by simpa using hw)) ⟨.bl _, H, I, rfl, ?_⟩
    rw [show its.toArray.any (eqU x) = its.any (eqU x) by simp, any_eqU r fs]
    exact q
  · obtain ⟨its, r, pl, hz⟩ := I.tuple hq
    refine SeqAt.in_tupleAt (eqU x) pl (fun w hw => mem_eqAt rx fx r fs w (by simpa using hw)) ⟨.bl _, H, I, rfl, ?_⟩
    rw [show its.toArray.any (eqU x) = its.any (eqU x) by simp, any_eqU r fs]
    exact q
theorem op_notIn_seq : OpR X (compareOp .NotIn) (rIn X.K true) := by
  intro pins s σ H x y v u Q I rx ry h
  obtain ⟨p, xs, rfl, hq, fx, fs, q⟩ := h
  cases ry
  rcases hq with hq | hq
  · obtain ⟨its, r, pl, hz⟩ := I.list hq
    refine SeqAt.notIn_listAt (eqU x) pl.isList (fun w hw => mem_eqAt rx fx r fs w (by simpa using hw)) ⟨.bl _, H, I, rfl, ?_⟩
    rw [show its.toArray.any (eqU x) = its.any (eqU x) by simp, any_eqU r fs]
    exact q
  · obtain ⟨its, r, pl, hz⟩ := I.tuple hq
    refine SeqAt.notIn_tupleAt (eqU x) pl (fun w hw => mem_eqAt rx fx r fs w (by simpa using hw)) ⟨.bl _, H, I, rfl, ?_⟩
    rw [show its.toArray.any (eqU x) = its.any (eqU x) by simp, any_eqU r fs]
    exact q
/-! ### len, list(x), tuple(x) of any list or tuple that is read -/
theorem call_len_seq : CallR X (.builtin "len") (fun xs H Q => ∃ p ys, xs = [.ref p] ∧ (SqL X.K H p ys ∨ SqT X.K H p ys) ∧ Q (.int ys.length) H) := by
  intro pins s σ H xs us Q I r h
  obtain ⟨p, ys, rfl, hq, q⟩ := h
  obtain ⟨u, rfl, rx⟩ := vals1 r
  cases rx
  have hn := line63
  rcases hq with hq | hq
  · obtain ⟨its, r', pl, hz⟩ := I.list hq
    have hlen := r'.length
    exact Calls.call_len_list pl.isList (by simp only [List.size_toArray] <;> omega) ⟨.int ys.length, H, I.tok _, ⟨s.toks + 1, by rw [List.size_toArray, hlen]⟩, q⟩
  · obtain ⟨its, r', pl, hz⟩ := I.tuple hq
    have hlen := r'.length
    exact len_tuple pl (by simp only [List.size_toArray] <;> omega) ⟨.int ys.length, H, I.tok _, ⟨s.toks + 1, by rw [List.size_toArray, hlen]⟩, q⟩
theorem CallR.or {f : Value} {r r' : List V → Hp → VK → Prop} (h : CallR X f r) (h' : CallR X f r') : CallR X f (fun xs H Q => r xs H Q ∨ r' xs H Q) := by
  intro pins s σ H xs us Q I rs q
  rcases q with q | q
  · exact h pins s σ H xs us Q I rs q
  · exact h' pins s σ H xs us Q I rs q
theorem call_list_of : CallR X (.type "list") (fun xs H Q => ∃ p ys, xs = [.ref p] ∧ (SqL X.K H p ys ∨ SqT X.K H p ys) ∧ ∀ l, H l = none → Q (.ref l) (upd H l (.lst ys))) := by
  intro pins s σ H xs us Q I r h
  obtain ⟨p, ys, rfl, hq, q⟩ := h
  obtain ⟨u, rfl, rx⟩ := vals1 r
  cases rx
  have fin : ∀ (its : List Value), Vals ys its → ys.length ≤ sizeLine → ∀ (h' : Heap) (c' : Nat), (∀ b o', s.heap.get? b = some o' → h'.get? b = some o') →
      h'.get? s.heap.objs.size = some { cls := .type "list", dict := none, data := .seq its.toArray c', slots := #[] } → EP X pins σ Q (.ref s.heap.objs.size) { s with heap := h' } := fun its r' hz h' c' kp e =>
    ⟨.ref s.heap.objs.size, _, I.laid (t' := s.toks) kp (Nat.le_refl _) (show ObjOk X.prog X.w _ h' _ (.lst ys) from ⟨hz, its, c', r', e⟩), rfl, q _ (I.hok.fresh (Nat.le_refl _))⟩
  rcases hq with hq | hq
  · obtain ⟨its, r', pl, hz⟩ := I.list hq
    have hlen := r'.length
    obtain ⟨o, ho, hc, n, hd⟩ := pl.isList
    exact call_list_seq p (.inl rfl) ho hc hd (fun h' c' kp e => fin its r' hz h' c' kp e) (by simp only [List.size_toArray] <;> omega)
  · obtain ⟨its, r', pl, hz⟩ := I.tuple hq
    have hlen := r'.length
    obtain ⟨o, ho, hc, n, hd⟩ := pl
    exact call_list_seq p (.inr rfl) ho hc hd (fun h' c' kp e => fin its r' hz h' c' kp e) (by simp only [List.size_toArray] <;> omega)
theorem call_tuple_of : CallR X (.type "tuple") (fun xs H Q => ∃ p ys, xs = [.ref p] ∧ ((SqL X.K H p ys ∧ ∀ l, H l = none → Q (.ref l) (upd H l (.tup ys))) ∨ (SqT X.K H p ys ∧ Q (.ref p) H))) := by
  intro pins s σ H xs us Q I r h
  obtain ⟨p, ys, rfl, h⟩ := h
  obtain ⟨u, rfl, rx⟩ := vals1 r
  cases rx
  rcases h with ⟨hq, q⟩ | ⟨hq, q⟩
  · obtain ⟨its, r', pl, hz⟩ := I.list hq
    have hlen := r'.length
    refine call_tuple_list pl.isList (fun h' kp => ?_) (by simp only [List.size_toArray] <;> omega)
    have I1 : Inv X pins σ H { s with heap := h' } := I.kept (t' := s.toks) kp
    have I2 : Inv X pins σ (upd H h'.objs.size (.tup ys)) { s with heap := h'.push { cls := .type "tuple", data := .seq its.toArray } } :=
      I1.laid (t' := s.toks) (fun b o e => Heap.get?_push_of_some _ e) (Nat.le_refl _) (show ObjOk X.prog X.w _ _ _ (.tup ys) from ⟨hz, its, r', IsTup2.new _ _⟩)
    exact ⟨.ref h'.objs.size, _, I2, rfl, q _ (I1.hok.fresh (Nat.le_refl _))⟩
  · obtain ⟨its, r', pl, hz⟩ := I.tuple hq
    exact call_tuple_same pl ⟨.ref p, H, I, rfl, q⟩

/-! ### the call of a builtin's method: o.m(..) -/
/-- the value is of that builtin type -/
def tyV (K : PySem.W.Frag) (T : String) (x : V) (H : Hp) : Prop := match x with
  | .str _ => T = "str"
  | .int _ => T = "int"
  | .ref p => (T = "list" ∧ ∃ xs, SqL K H p xs) ∨ (T = "tuple" ∧ ∃ o, K.lookup p = some o ∧ o.cls = .type "tuple" ∧ o.dict = none) ∨
      (T = "dict" ∧ ((∃ kvs, H p = some (.dK kvs)) ∨ ∃ kvs, H p = some (.dT kvs))) ∨ (T = "set" ∧ ∃ S n, H p = some (.set S n))
  | _ => False
theorem tyV_is {pins : List (Addr × Obj)} {σ : St} {H : Hp} {s : Shared} {T : String} {x : V} {v : Value} (I : Inv X pins σ H s) (r : RelV x v) (ty : tyV X.K T x H) :
    s.TypeIs v T ∧ ∀ a, v = .ref a → ∃ ob, s.heap.get? a = some ob ∧ ob.dict = none := by
  cases x with
  | str z =>
    obtain ⟨t, rfl⟩ := r
    cases (show T = "str" from ty)
    exact ⟨typeIs_str s z t, fun _ e => nomatch e⟩
  | int i =>
    obtain ⟨t, rfl⟩ := r
    cases (show T = "int" from ty)
    exact ⟨typeIs_int s i t, fun _ e => nomatch e⟩
  | ref p =>
    cases r
    rcases ty with ⟨rfl, xs, hq⟩ | ⟨rfl, o, hk, hc, hd⟩ | ⟨rfl, hk⟩ | ⟨rfl, S, n, hk⟩
    · obtain ⟨its, _, pl, _⟩ := I.list hq
      refine ⟨pl.isList.typeIs, fun a e => ?_⟩
      cases e
      obtain ⟨o, n, e, c, hd, _⟩ := pl
      exact ⟨o, e, hd⟩
    · refine ⟨⟨o, I.kIn p o hk, hc⟩, fun a e => ?_⟩
      cases e
      exact ⟨o, I.kIn _ o hk, hd⟩
    · have z : ∃ o, s.heap.get? p = some o ∧ o.ExactDict := by
        rcases hk with ⟨kvs, hk⟩ | ⟨kvs, hk⟩
        · obtain ⟨_, _, _, _, o, _, _, e, ex, _⟩ := I.hok p _ hk
          exact ⟨o, e, ex⟩
        · obtain ⟨_, _, _, _, o, _, _, e, ex, _⟩ := I.hok p _ hk
          exact ⟨o, e, ex⟩
      obtain ⟨o, e, ex⟩ := z
      refine ⟨⟨o, e, ex.1⟩, fun a e2 => ?_⟩
      cases e2
      exact ⟨o, e, ex.2.1⟩
    · obtain ⟨o, _, _, _, e, ex, _⟩ := I.hok p _ hk
      refine ⟨⟨o, e, ex.1⟩, fun a e2 => ?_⟩
      cases e2
      exact ⟨o, e, ex.2.1⟩
  | _ => exact False.elim ty
@[reducible] def tBM (K : PySem.W.Frag) (T : String) (r : V → List V → Hp → VK → Prop) (to : TE) (t : TA) : TE := fun σ H Q => to σ H fun x H1 => tyV K T x H1 ∧ t σ H1 fun xs H2 => r x xs H2 Q
variable {o e : Expr} {es : List Expr} {to : TE} {t : TA} {name : Str} {apos cpos : Pos} {T id : String} {r : V → List V → Hp → VK → Prop}
theorem pe_bm (pa : PlainAttrs T) (slot : Slot T name id) (hty : typeOf (.builtin id) = pure (.type "method_descriptor")) (hm : MtR X id r) (ho : PE X o to) (ha : PA X (e :: es) t)
    (hbase : attributeBase o name X.env (eval o X.env) = eval o X.env := by rfl)
    (hfew : ((backTo cpos (starEach (e :: es) X.env)).all (fun x => !x.1) && (backToKw cpos (keywordEach [] X.env)).all (fun x => x.1.isSome)
      && decide ((e :: es).length + ([] : List Keyword).length + (if ([] : List Keyword).isEmpty then 0 else 1) < 30)) = true := by rfl)
    (hline : (apos.endLine == cpos.line) = true := by rfl) (hs : starEach (e :: es) X.env = (false, eval e X.env) :: starEach es X.env := by rfl) (hplain : (backTo cpos (starEach es X.env)).any (·.1) = false := by rfl) :
    PE X (.Call (.Attribute o name apos) (e :: es) [] cpos) (tBM X.K T r to t) := by
  intro pins s σ H Q I h
  refine wpAny_Call_method_late hbase hfew hline rfl (thn (ho pins s σ H _ I h) fun v s1 ⟨x, H1, I1, r1, ty, q1⟩ => ?_)
  obtain ⟨h1, h2⟩ := tyV_is I1 r1 ty
  refine ⟨T, id, pa, slot, hty, h1, h2, ?_⟩
  have hA := ha cpos pins s1 σ H1 _ I1 q1
  rw [hs] at hA ⊢
  refine Calls.callWith_builtin (by show (false || (backTo cpos (starEach es X.env)).any (·.1)) = false; rw [hplain] <;> rfl) (Calls.evalArgs_plain ?_)
  exact thn hA fun us s2 ⟨vs, H2, I2, r2, q2⟩ => hm pins s2 σ H2 x vs v us Q I2 r1 r2 q2
/- xs.append(e), list.index on a module's tuple .. are MtR facts of 06m -/
end
end L2

namespace L2
open PySem PySem.Spec PyProof.Rows

def MtM (X : Cx) (id : String) (r : V → List V → Hp → VK → Prop) : Prop :=
  ∀ (pins : List (Addr × Obj)) (s : Shared) (σ : St) (H : Hp) (x : V) (xs : List V) (v : Value) (us : List Value) (Q : VK), Inv X pins σ H s → RelV x v → Vals xs us → r x xs H Q →
    wpAny (model X.prog X.w) X.A (call (.builtin id) (v :: us)) (EP X pins σ Q) X.xe s

/-! ### lists of values -/
theorem Vals.one : ∀ {x : V} {us : List Value}, Vals [x] us → ∃ u, us = [u] ∧ RelV x u
  | _, _, .cons r .nil => ⟨_, rfl, r⟩
theorem Vals.two : ∀ {x y : V} {us : List Value}, Vals [x, y] us → ∃ u v, us = [u, v] ∧ RelV x u ∧ RelV y v
  | _, _, _, .cons r (.cons q .nil) => ⟨_, _, rfl, r, q⟩
theorem Vals.zero : ∀ {us : List Value}, Vals [] us → us = []
  | _, .nil => rfl
theorem Vals.dropLast {xs : List V} {us : List Value} (h : Vals xs us) : Vals xs.dropLast us.dropLast := by
  induction h with
  | nil => exact .nil
  | cons r t ih =>
    cases t with
    | nil => exact .nil
    | cons q t' => exact .cons r ih
theorem Vals.eraseIdx : ∀ {xs : List V} {us : List Value} (i : Nat), Vals xs us → Vals (xs.eraseIdx i) (us.eraseIdx i)
  | _, _, _, .nil => .nil
  | _, _, 0, .cons _ t => t
  | _, _, i + 1, .cons r t => .cons r (Vals.eraseIdx i t)
theorem Vals.reverse {xs : List V} {us : List Value} (h : Vals xs us) : Vals xs.reverse us.reverse := by
  induction h with
  | nil => exact .nil
  | cons r t ih => rw [List.reverse_cons, List.reverse_cons]; exact Vals.append ih (.cons r .nil)
theorem Vals.rep {xs : List V} {us : List Value} (h : Vals xs us) : ∀ k : Nat, Vals (List.replicate k xs).flatten (List.replicate k us).flatten
  | 0 => .nil
  | k + 1 => by
    rw [List.replicate_succ, List.replicate_succ, List.flatten_cons, List.flatten_cons]
    exact Vals.append h (Vals.rep h k)
theorem erase_last {α : Type} (l : List α) : l.eraseIdx (l.length - 1) = l.dropLast := by
  induction l with
  | nil => rfl
  | cons a r ih =>
    cases r with
    | nil => rfl
    | cons b r =>
      have e : (a :: b :: r).length - 1 = ((b :: r).length - 1) + 1 := by
        have h1 : (a :: b :: r).length = r.length + 2 := rfl
        have h2 : (b :: r).length = r.length + 1 := rfl
        omega
      rw [e, List.eraseIdx_cons_succ, ih]
      all_goals rfl
theorem len_erase {α : Type} : ∀ (l : List α) (i : Nat), (l.eraseIdx i).length ≤ l.length
  | [], _ => Nat.le_refl _
  | _ :: _, 0 => Nat.le_succ _
  | _ :: r, i + 1 => Nat.succ_le_succ (len_erase r i)
theorem foldl_rep (its : List Value) : ∀ (k : Nat) (acc : List Value),
    List.foldl (fun x1 x2 => x1 ++ x2) acc.toArray (List.replicate k its.toArray) = (acc ++ (List.replicate k its).flatten).toArray
  | 0, acc => by simp
  | k + 1, acc => by
    have e : acc.toArray ++ its.toArray = (acc ++ its).toArray := by simp
    have e2 : (acc ++ its) ++ (List.replicate k its).flatten = acc ++ (List.replicate (k + 1) its).flatten := by
      rw [List.replicate_succ, List.flatten_cons, List.append_assoc]
    rw [← e2, ← foldl_rep its k (acc ++ its), ← e, List.replicate_succ, List.foldl_cons]

section
variable {X : Cx} {pins : List (Addr × Obj)} {σ : St} {H : Hp} {s : Shared} {l b : Addr} {xs ys zs : List V}

/-! ### the two steps: a tracked list is rewritten, a new list is laid -/
theorem Inv.lset {its its' : List Value} {n : Nat} {f : Array Value → Array Value} {t' : Nat} (I : Inv X pins σ H s) (hH : H l = some (.lst xs))
    (e : s.heap.get? l = some { cls := .type "list", data := .seq its.toArray n }) (hf : f its.toArray = its'.toArray) (hv : Vals ys its') (hz : ys.length ≤ sizeLine) :
    Inv X pins σ (upd H l (.lst ys)) { s with heap := s.heap.update l (Obj.mapSeq f), toks := t' } := by
  have q := PySem.IsL.update e f
  rw [hf] at q
  refine I.write (x := l) (e := l) (by rw [hH]; exact trivial) (.inl rfl) (fun b' u hb hu => (Heap.get?_update_other s.heap (Obj.mapSeq f) (Ne.symm hb)).trans hu) ⟨_, q⟩ ?_
  exact ⟨hz, its', _, hv, q⟩
theorem Inv.lnew {its : List Value} {t' : Nat} (I : Inv X pins σ H s) (hv : Vals ys its) (hz : ys.length ≤ sizeLine) :
    Inv X pins σ (upd H s.heap.objs.size (.lst ys)) { s with heap := s.heap.push { cls := .type "list", data := .seq its.toArray }, toks := t' } :=
  I.laid (fun _ _ q => Heap.get?_push_of_some _ q) (Nat.le_refl _) ⟨hz, its, 0, hv, Heap.get?_push_size _ rfl⟩
theorem Inv.fresh (I : Inv X pins σ H s) : H s.heap.objs.size = none := I.hok.fresh (Nat.le_refl _)
theorem Inv.lstM (I : Inv X pins σ H s) (hH : H l = some (.lst xs)) : xs.length ≤ sizeLine ∧ ∃ (its : List Value) (n : Nat), Vals xs its ∧ xs.length = its.length ∧ s.heap.get? l = some { cls := .type "list", data := .seq its.toArray n } := by
  obtain ⟨z, its, n, r, e⟩ := I.hok l _ hH
  exact ⟨z, its, n, r, r.length, e⟩

theorem notLongL {n : Nat} (h : n ≤ sizeLine) : Builtin.List.listTooLong n = false := by
  unfold Builtin.List.listTooLong
  exact decide_eq_false (by omega)
end

section
variable {X : Cx}

/-! ### methods -/
@[reducible] def rAppend : V → List V → Hp → VK → Prop := fun x vs H Q => ∃ l xs y, x = .ref l ∧ vs = [y] ∧ H l = some (.lst xs) ∧ xs.length < sizeLine ∧ Q .non (upd H l (.lst (xs ++ [y])))
theorem mt_append : MtM X "list.append" rAppend := by
  intro pins s σ H x vs v us Q I rx rv h
  obtain ⟨l, xs, y, rfl, rfl, hH, hz, q⟩ := h
  cases rx
  obtain ⟨u, rfl, ru⟩ := rv.one
  obtain ⟨z, its, n, r, hl, e⟩ := I.lstM hH
  refine call_meets F.slot_list_append ⟨_, e, rfl⟩ F.entry_list_append (F.args_list_append_2 _ _) (PySem.list_append l its.toArray n u (by rw [List.size_toArray]; omega)) ⟨e, ?_⟩
  refine ⟨.non, _, I.lset (its' := its ++ [u]) hH e (by simp) (r.append (.cons ru .nil)) ?_, rfl, q⟩
  rw [List.length_append, List.length_singleton]
  omega

@[reducible] def rExtend : V → List V → Hp → VK → Prop := fun x vs H Q => ∃ l b xs zs, x = .ref l ∧ vs = [.ref b] ∧ H l = some (.lst xs) ∧ H b = some (.lst zs) ∧ xs.length + zs.length ≤ sizeLine ∧ Q .non (upd H l (.lst (xs ++ zs)))
theorem mt_extend : MtM X "list.extend" rExtend := by
  intro pins s σ H x vs v us Q I rx rv h
  obtain ⟨l, b, xs, zs, rfl, rfl, hH, hB, hz, q⟩ := h
  cases rx
  obtain ⟨u, rfl, ru⟩ := rv.one
  cases ru
  obtain ⟨z, its, n, r, hl, e⟩ := I.lstM hH
  obtain ⟨z2, its2, n2, r2, hl2, e2⟩ := I.lstM hB
  have hsz : its.toArray.size + its2.toArray.size ≤ sizeLine := by rw [List.size_toArray, List.size_toArray]; omega
  have hlong : ¬ (!its.toArray.isEmpty && Builtin.List.listTooLong (its.toArray.size + its2.toArray.size)) = true := by
    rw [notLongL hsz, Bool.and_false]
    exact Bool.false_ne_true
  refine call_meets F.slot_list_extend ⟨_, e, rfl⟩ F.entry_list_extend (F.args_list_extend_2 _ _)
    (AutoSeq1.list_extend_list_list_0 l its.toArray n b its2.toArray n2 hlong (by rw [List.size_toArray]; omega) (by omega)) ⟨e, e2, ?_⟩
  refine ⟨.non, _, I.lset (its' := its ++ its2) hH e (by simp) (r.append r2) ?_, rfl, q⟩
  rw [List.length_append]
  omega

@[reducible] def rPop : V → List V → Hp → VK → Prop := fun x vs H Q => ∃ l xs y, x = .ref l ∧ vs = [] ∧ H l = some (.lst xs) ∧ xs[xs.length - 1]? = some y ∧ Q y (upd H l (.lst xs.dropLast))
theorem mt_pop : MtM X "list.pop" rPop := by
  intro pins s σ H x vs v us Q I rx rv h
  obtain ⟨l, xs, y, rfl, rfl, hH, hy, q⟩ := h
  cases rx
  have hus := rv.zero
  subst hus
  obtain ⟨z, its, n, r, hl, e⟩ := I.lstM hH
  obtain ⟨u, hu, ru⟩ := r.get hy
  have hy' : its.toArray[its.toArray.size - 1]? = some u := by
    show its.toArray[its.length - 1]? = some u
    rw [← Array.getElem?_toList, ← hl]
    exact hu
  refine call_meets F.slot_list_pop ⟨_, e, rfl⟩ F.entry_list_pop (F.args_list_pop_1 _) (MeetsSeq.list_pop_last l its.toArray n u hy' (by rw [List.size_toArray]; omega)) ⟨e, ?_⟩
  refine ⟨y, _, I.lset (its' := its.dropLast) hH e ?_ r.dropLast ?_, ru, q⟩
  · show its.toArray.eraseIdxIfInBounds (its.toArray.size - 1) = its.dropLast.toArray
    rw [List.size_toArray, List.eraseIdxIfInBounds_toArray, erase_last]
  · rw [List.length_dropLast]
    omega

@[reducible] def rPopAt : V → List V → Hp → VK → Prop := fun x vs H Q => ∃ l xs i k y, x = .ref l ∧ vs = [.int i] ∧ H l = some (.lst xs) ∧ -(2 ^ 63) ≤ i ∧ i < 2 ^ 63 ∧ seqIndex? i xs.length = some k ∧ xs[k]? = some y ∧ Q y (upd H l (.lst (xs.eraseIdx k)))
theorem mt_popAt : MtM X "list.pop" rPopAt := by
  intro pins s σ H x vs v us Q I rx rv h
  obtain ⟨l, xs, i, k, y, rfl, rfl, hH, h1, h2, hk, hy, q⟩ := h
  cases rx
  obtain ⟨u, rfl, ru⟩ := rv.one
  obtain ⟨t, rfl⟩ := ru
  obtain ⟨z, its, n, r, hl, e⟩ := I.lstM hH
  obtain ⟨w, hw, rw'⟩ := r.get hy
  refine call_meets F.slot_list_pop ⟨_, e, rfl⟩ F.entry_list_pop (F.args_list_pop_2 _ _)
    (MeetsSeq.list_pop_at l its.toArray n i t k w (fitsIndex_both h1 h2) (by rw [List.size_toArray, ← hl]; exact hk) (by rw [← Array.getElem?_toList]; exact hw) (by rw [List.size_toArray]; omega)) ⟨e, ?_⟩
  refine ⟨y, _, I.lset (its' := its.eraseIdx k) hH e ?_ (r.eraseIdx k) ?_, rw', q⟩
  · show its.toArray.eraseIdxIfInBounds k = (its.eraseIdx k).toArray
    rw [List.eraseIdxIfInBounds_toArray]
  · have := len_erase xs k
    omega

/-! ### list + list, list += list, list * int -/
@[reducible] def rCat : R2 := fun x y H Q => ∃ l b xs zs, x = .ref l ∧ y = .ref b ∧ H l = some (.lst xs) ∧ H b = some (.lst zs) ∧ xs.length + zs.length ≤ sizeLine ∧ ∀ p, H p = none → Q (.ref p) (upd H p (.lst (xs ++ zs)))
theorem op_cat : OpR X (binaryOp .Add) rCat := by
  intro pins s σ H x y v u Q I rx ry h
  obtain ⟨l, b, xs, zs, rfl, rfl, hH, hB, hz, q⟩ := h
  cases rx
  cases ry
  obtain ⟨z, its, n, r, hl, e⟩ := I.lstM hH
  obtain ⟨z2, its2, n2, r2, hl2, e2⟩ := I.lstM hB
  refine PySem.P.add_list e e2 ?_ (by rw [List.size_toArray, List.size_toArray]; omega)
  have ea : its.toArray ++ its2.toArray = (its ++ its2).toArray := by simp
  rw [ea]
  exact ⟨.ref _, _, I.lnew (t' := s.toks) (r.append r2) (by rw [List.length_append]; omega), rfl, q _ I.fresh⟩
/-- a list times an int (a negative one is nothing) -/
@[reducible] def rRep : R2 := fun x y H Q => ∃ l k xs, x = .ref l ∧ y = .int k ∧ H l = some (.lst xs) ∧ -(2 ^ 63) ≤ k ∧ k < 2 ^ 63 ∧ xs.length * k.toNat ≤ sizeLine ∧
  ∀ p, H p = none → Q (.ref p) (upd H p (.lst (List.replicate k.toNat xs).flatten))
theorem len_rep {α : Type} (xs : List α) (k : Nat) : (List.replicate k xs).flatten.length = k * xs.length := by
  induction k with
  | zero => simp
  | succ k ih => rw [List.replicate_succ, List.flatten_cons, List.length_append, ih, Nat.succ_mul, Nat.add_comm]
theorem op_rep : OpR X (binaryOp .Mult) rRep := by
  intro pins s σ H x y v u Q I rx ry h
  obtain ⟨l, k, xs, rfl, rfl, hH, h1, h2, hz, q⟩ := h
  cases rx
  obtain ⟨t, rfl⟩ := ry
  obtain ⟨z, its, n, r, hl, e⟩ := I.lstM hH
  have hlen : its.toArray.size * k.toNat ≤ sizeLine := by rw [List.size_toArray, ← hl]; exact hz
  have hcap : ¬ its.toArray.size * k.toNat > (2 ^ 63 - 1) / 8 := by
    have : (sizeLine : Nat) ≤ (2 ^ 63 - 1) / 8 := by decide
    omega
  have hfit : ¬ (!Builtin.List.listFitsIndex k) = true := by
    rw [fitsIndex_both h1 h2]
    exact Bool.false_ne_true
  have hlong : ¬ Builtin.List.listTooLong (its.toArray.size * k.toNat) = true := by
    rw [notLongL hlen]
    exact Bool.false_ne_true
  have hnew : List.foldl (fun x1 x2 => x1 ++ x2) #[] (List.replicate (if its.toArray.isEmpty = true then 0 else k.toNat) its.toArray) = (List.replicate k.toNat its).flatten.toArray := by
    have f0 : ∀ m : Nat, List.foldl (fun x1 x2 => x1 ++ x2) #[] (List.replicate m its.toArray) = (List.replicate m its).flatten.toArray := fun m => by
      have := foldl_rep its m []
      rw [List.nil_append] at this
      exact this
    rw [f0]
    cases its with
    | nil => simp
    | cons a r' => rw [if_neg (by simp)]
  refine wpAny_binaryOp_repeat_ref (T := "list") (U := "int") (by decide) ⟨_, e, rfl⟩ (fun s' => typeIs_int s' k t) noFill_list_mul F.fills_int_mul F.slot_int_rmul repeat_list F.slot_int_index.lookup
    (call_meets F.slot_int_rmul (typeIs_int s k t) F.entry_int_rmul (F.args_int_rmul_2 _ _) (int___rmul___int_list k t l its.toArray n)
      ⟨e, rfl, ⟨_, e, rfl⟩, call_meets F.slot_list_mul ⟨_, e, rfl⟩ F.entry_list_mul (F.args_list_mul_2 _ _) (AutoListH.list___mul___list_int_3 l its.toArray n k t hfit hcap hlong) ⟨e, ?_⟩⟩)
  rw [hnew]
  exact ⟨.ref _, _, I.lnew (t' := s.toks) (r.rep k.toNat) (by rw [len_rep, Nat.mul_comm]; exact hz), rfl, q _ I.fresh⟩

/-! ### del xs[i] -/
end

/-! ### xs[a:b] = ys -/
section
variable {prog : Program} {w : World} {A : Around} {E : Value → Shared → Prop} {s : Shared}
end

section
variable {X : Cx}
end
end L2

namespace L2
open PySem PySem.Spec PyProof.Rows

theorem Vals.ints : ∀ {ns : List Int} {us : List Value}, Vals (ns.map V.int) us → IntsAre us ns
  | [], us, h => by
    rw [List.map_nil] at h
    cases h
    exact IntsAre.nil
  | n :: ns, us, h => by
    rw [List.map_cons] at h
    cases h with
    | cons r t =>
      obtain ⟨k, rfl⟩ := r
      exact IntsAre.cons n k (Vals.ints t)
theorem vals_of_ints : ∀ {us : List Value} {ns : List Int}, IntsAre us ns → Vals (ns.map V.int) us
  | _, _, .nil => by rw [List.map_nil]; exact Paired.nil
  | _, _, .cons n t h => by rw [List.map_cons]; exact Paired.cons (show RelV (V.int n) (Value.int n t) from ⟨t, rfl⟩) (vals_of_ints h)
theorem Vals.strs : ∀ {xs : List Str} {us : List Value}, Vals (xs.map V.str) us → StrsAre us xs
  | [], us, h => by
    rw [List.map_nil] at h
    cases h
    exact StrsAre.nil
  | x :: xs, us, h => by
    rw [List.map_cons] at h
    cases h with
    | cons r t =>
      obtain ⟨k, rfl⟩ := r
      exact StrsAre.cons x k (Vals.strs t)
theorem Vals.bls : ∀ {bs : List Bool} {us : List Value}, Vals (bs.map V.bl) us → us = bs.map Value.bool
  | [], us, h => by
    rw [List.map_nil] at h
    cases h
    rfl
  | b :: bs, us, h => by
    rw [List.map_cons] at h
    cases h with
    | cons r t =>
      cases r
      rw [Vals.bls t, List.map_cons]
theorem Vals.ref1 {a : Addr} {us : List Value} (r : Vals [V.ref a] us) : us = [Value.ref a] := by
  cases r with
  | cons r t =>
    cases t
    cases r
    rfl
/-! ### the library's walks over a list of ints, kept objects alone -/
section
variable {prog : Program} {w : World} {A : Around} {E : Value → Shared → Prop} {s : Shared} {l : Addr} {its : List Value} {ns : List Int} {Q : Value → Shared → Prop}
theorem sum_raw (hh : A.handled = none) (hl : s.heap.IsList l its.toArray) (hi : IntsAre its ns)
    (h : ∀ h' tk t', (∀ b o, s.heap.get? b = some o → h'.get? b = some o) → Q (.int ns.sum t') { s with heap := h', toks := tk }) : wpAny (model prog w) A (call (.builtin "sum") [.ref l]) Q E s := by
  obtain ⟨xs, e⟩ := hi.allInts.items
  have hn : numsOf (intItems xs).toList = ns := by rw [← e]; exact hi.numsOf
  rw [nums_intItems] at hn
  rw [e] at hl
  refine PySem.sum_intListG hh hl fun h' tk t' hk => ?_
  have := h h' tk t' hk
  rw [preSum_eq, List.take_of_length_le (by simp), hn]; exact this
end

/-! ### the calls, by values (CallR of 03t; MtR of 06l) -/
section
variable {X : Cx}
/-- sum(xs) of a list of ints -/
@[reducible] def rSum (K : PySem.W.Frag) : List V → Hp → VK → Prop := fun vs H Q => ∃ (a : Addr) (ns : List Int), vs = [V.ref a] ∧ SqL K H a (ns.map V.int) ∧ Q (.int ns.sum) H
theorem cr_sum (hc : X.calm = true) : CallR X (.builtin "sum") (rSum X.K) := by
  intro pins s σ H vs us Q I r h
  obtain ⟨a, ns, rfl, hs, q⟩ := h
  obtain ⟨its, rv, hl, _⟩ := I.list hs
  rw [Vals.ref1 r]
  exact sum_raw (I.ok.hd hc) hl.isList rv.ints fun h' tk t' hk => ⟨.int _, H, I.kept hk, ⟨_, rfl⟩, q⟩
/-! sorted, sort (fewer than 64 items: the library's own bound) -/
@[reducible] def rSorted (K : PySem.W.Frag) : List V → Hp → VK → Prop := fun vs H Q => ∃ (a : Addr) (ns : List Int), vs = [V.ref a] ∧ SqL K H a (ns.map V.int) ∧ ns.length < 64 ∧
  ∀ (ns' : List Int) (p : Addr), ns'.Perm ns → ns'.Pairwise (· ≤ ·) → H p = none → Q (.ref p) (upd H p (.lst (ns'.map V.int)))
theorem small64 {n : Nat} (h : n < 64) : n ≤ sizeLine := by rw [sizeLine_eq]; omega
theorem cr_sorted : CallR X (.builtin "sorted") (rSorted X.K) := by
  intro pins s σ H vs us Q I r h
  obtain ⟨a, ns, rfl, hs, h64, q⟩ := h
  obtain ⟨its, rv, hl, _⟩ := I.list hs
  rw [Vals.ref1 r]
  have hi := rv.ints
  refine PyProof.Rows.sorted_ints hl.isList hi (by rw [hi.length]; exact h64) fun out ns' h1 h2 h3 => ?_
  obtain ⟨ep, he'⟩ := PyProof.Rows.sortedAll_at s.heap its out
  have hlen : (ns'.map V.int).length ≤ sizeLine := by rw [List.length_map, h2.length_eq]; exact small64 h64
  exact ⟨.ref _, upd H (s.heap.objs.size + 1) (.lst (ns'.map V.int)), I.laid (t' := s.toks) (fun _ _ => PyProof.Rows.sortedAll_old) (Nat.le_succ _) ⟨hlen, out.toList, ep, vals_of_ints h1, he'⟩, rfl, q ns' _ h2 h3 (I.hok.fresh (Nat.le_succ _))⟩
end

/-! ### list.index, flat items -/
section
variable {X : Cx}
@[reducible] def rIndex (K : PySem.W.Frag) : V → List V → Hp → VK → Prop := fun x xs H Q => ∃ (a : Addr) (ys : List V) (y : V) (j : Nat) (z : V), x = V.ref a ∧ xs = [y] ∧ SqL K H a ys ∧ flatV y = true ∧ ys.all flatV = true ∧ ys[j]? = some z ∧ eqV z y = true ∧
  (∀ (m : Nat) (z' : V), m < j → ys[m]? = some z' → eqV z' y = false) ∧ Q (.int (j : Nat)) H
theorem flat_at {ys : List V} (f : ys.all flatV = true) {j : Nat} {z : V} (h : ys[j]? = some z) : flatV z = true := List.all_eq_true.mp f z (List.mem_of_getElem? h)
theorem mt_index : MtR X "list.index" (rIndex X.K) := by
  intro pins s σ H x xs v us Q I rx rxs h
  obtain ⟨a, ys, y, j, z, rfl, rfl, hs, fy, fys, hz, hzj, hno, q⟩ := h
  cases rx
  cases rxs with
  | cons ry rt =>
    rename_i uy ut
    cases rt
    obtain ⟨its, rv, ⟨⟨cls, dd, data, sl⟩, n, ho, hc, hdn, hd⟩, hlen⟩ := I.list hs
    simp only at hc hd
    subst hc hd
    obtain ⟨u, hu, ru⟩ := rv.get hz
    obtain ⟨hjl, hje⟩ := List.getElem?_eq_some_iff.mp hu
    have hvl := rv.length
    have hj : j < its.toArray.size := by simpa using hjl
    have hsl := sizeLine_eq
    refine call_meets PySem.F.slot_list_index ⟨_, ho, rfl⟩ PySem.F.entry_list_index (PySem.F.args_list_index_2 _ _)
      (SeqAt.list_indexAt a its.toArray n dd sl uy (eqU y) j hj (by omega) ?_ ?_) ⟨ho, fun u' hu' => mem_eqAt ry fy rv fys u' (by simpa using hu'), ?_⟩
    · have e1 : its.toArray[j] = u := by simpa using hje
      rw [e1, eqU_of ru (flat_at fys hz)]
      exact hzj
    · intro m hm hmj
      have hml : m < its.length := by simpa using hm
      have hmy : m < ys.length := by omega
      have hy' : ys[m]? = some ys[m] := List.getElem?_eq_getElem hmy
      obtain ⟨u2, hu2, ru2⟩ := rv.get hy'
      obtain ⟨_, hme⟩ := List.getElem?_eq_some_iff.mp hu2
      have e1 : its.toArray[m] = u2 := by simpa using hme
      rw [e1, eqU_of ru2 (flat_at fys hy')]
      exact hno m _ hmj hy'
    · exact ⟨.int (j : Nat), H, I.tok _, ⟨_, rfl⟩, q⟩
end

/-! ### type(x) of an own instance; is, is not of a module's class -/
section
variable {X : Cx}
end

/-! ### any(xs), all(xs) of a list of bools -/
theorem iter_any {prog : Program} {w : World} {A : Around} {E : Value → Shared → Prop} {s : Shared} {l : Addr} {items : Array Value} {Q : Value → Shared → Prop} (hl : s.heap.IsList l items)
    (h : ∀ s₂ : Shared, s₂ = { s with heap := s.heap.push { cls := .type "list_iterator", data := .fields #[.ref l, .int 0 0] } } →
      (s₂.heap.IsListIter s.heap.objs.size l 0 ∧ s₂.heap.IsList l items) → l ≠ s.heap.objs.size → Q (.ref s.heap.objs.size) s₂) : wpAny (model prog w) A (pyIter (.ref l)) Q E s := by
  have hlt : l < s.heap.objs.size := by obtain ⟨_, e, _⟩ := hl; exact Heap.lt_size e
  exact wpAny_pyIter_list hl (h _ rfl ⟨⟨_, Heap.get?_push_size _ rfl, rfl, rfl⟩, hl.push _⟩ (Nat.ne_of_lt hlt))
theorem truth_bools {prog : Program} {w : World} {A : Around} {bs : List Bool} {its : List Value} (e : its = bs.map Value.bool) :
    TruthOf prog w A (fun i v => its.toArray[i]? = some v) (fun i => bs.getD i false) := fun i v s Q E hv hq => by
  have hv' : its[i]? = some v := by simpa using hv
  rw [e, List.getElem?_map] at hv'
  obtain ⟨b, hb, rfl⟩ := Option.map_eq_some_iff.mp hv'
  have hg : bs.getD i false = b := by rw [List.getD_eq_getElem?_getD, hb] <;> rfl
  have hq' : Q (bs.getD i false) s := hq
  rw [hg] at hq'
  exact wpAny_truthy_bool hq'
theorem any_range : ∀ bs : List Bool, (List.range bs.length).any (fun i => bs.getD i false) = bs.any id
  | [] => rfl
  | b :: bs => by
    rw [List.length_cons, List.range_succ_eq_map, List.any_cons, List.any_map, List.any_cons, ← any_range bs]
    all_goals rfl
theorem all_range : ∀ bs : List Bool, (List.range bs.length).all (fun i => bs.getD i false) = bs.all id
  | [] => rfl
  | b :: bs => by
    rw [List.length_cons, List.range_succ_eq_map, List.all_cons, List.all_map, List.all_cons, ← all_range bs]
    all_goals rfl
section
variable {X : Cx}
@[reducible] def rAny (K : PySem.W.Frag) : List V → Hp → VK → Prop := fun vs H Q => ∃ (a : Addr) (bs : List Bool), vs = [V.ref a] ∧ SqL K H a (bs.map V.bl) ∧ Q (.bl (bs.any id)) H
@[reducible] def rAll (K : PySem.W.Frag) : List V → Hp → VK → Prop := fun vs H Q => ∃ (a : Addr) (bs : List Bool), vs = [V.ref a] ∧ SqL K H a (bs.map V.bl) ∧ Q (.bl (bs.all id)) H
theorem cr_any (hc : X.calm = true) : CallR X (.builtin "any") (rAny X.K) := by
  intro pins s σ H vs us Q I r h
  obtain ⟨a, bs, rfl, hs, q⟩ := h
  obtain ⟨its, rv, hl, _⟩ := I.list hs
  rw [Vals.ref1 r]
  have hb := rv.bls
  refine call_any_walk (iter_any hl.isList fun s₂ e2 st hne => ?_)
  subst e2
  refine ⟨_, _, _, _, _, _, _, rfl, Walks.list (A := X.A.in1) (I.ok.hd hc) _ a hne its.toArray, st, truth_bools hb, fun h' tk hk => ?_⟩
  refine ⟨.bl _, H, I.kept fun b o eo => hk b o (fun hmem => ?_) (Heap.get?_push_of_some _ eo), ?_, q⟩
  · rcases List.mem_cons.mp hmem with e1 | hmem
    · exact absurd (e1 ▸ Heap.lt_size eo) (Nat.lt_irrefl _)
    · cases hmem
  · show Value.bool _ = Value.bool _
    rw [← any_range, hb, List.size_toArray, List.length_map]
theorem cr_all (hc : X.calm = true) : CallR X (.builtin "all") (rAll X.K) := by
  intro pins s σ H vs us Q I r h
  obtain ⟨a, bs, rfl, hs, q⟩ := h
  obtain ⟨its, rv, hl, _⟩ := I.list hs
  rw [Vals.ref1 r]
  have hb := rv.bls
  refine call_all_walk (iter_any hl.isList fun s₂ e2 st hne => ?_)
  subst e2
  refine ⟨_, _, _, _, _, _, _, rfl, Walks.list (A := X.A.in1) (I.ok.hd hc) _ a hne its.toArray, st, truth_bools hb, fun h' tk hk => ?_⟩
  refine ⟨.bl _, H, I.kept fun b o eo => hk b o (fun hmem => ?_) (Heap.get?_push_of_some _ eo), ?_, q⟩
  · rcases List.mem_cons.mp hmem with e1 | hmem
    · exact absurd (e1 ▸ Heap.lt_size eo) (Nat.lt_irrefl _)
    · cases hmem
  · show Value.bool _ = Value.bool _
    rw [← all_range, hb, List.size_toArray, List.length_map]
end

/-! ### == and != of data at any depth: none, bools, ints, texts, lists, tuples -/
mutual
inductive Dp (K : PySem.W.Frag) (H : Hp) : V → PyData → Prop
  | non : Dp K H .non .none
  | bl (b : Bool) : Dp K H (.bl b) (.bool b)
  | int (i : Int) : Dp K H (.int i) (.int i)
  | str (x : Str) : Dp K H (.str x) (.str x)
  | lst {a : Addr} {xs : List V} {ds : List PyData} : SqL K H a xs → DpAll K H xs ds → Dp K H (.ref a) (.list ds)
  | tup {a : Addr} {xs : List V} {ds : List PyData} : SqT K H a xs → DpAll K H xs ds → Dp K H (.ref a) (.tuple ds)
inductive DpAll (K : PySem.W.Frag) (H : Hp) : List V → List PyData → Prop
  | nil : DpAll K H [] []
  | cons {v : V} {vs : List V} {d : PyData} {ds : List PyData} : Dp K H v d → DpAll K H vs ds → DpAll K H (v :: vs) (d :: ds)
end
section
variable {X : Cx} {pins : List (Addr × Obj)} {σ : St} {H : Hp} {s : Shared}
mutual
theorem Dp.reads (I : Inv X pins σ H s) : ∀ (d : PyData) (v : V) (u : Value), Dp X.K H v d → RelV v u → ∃ as, Reads s.heap u d as
  | .none, _, _, h, r => by
    cases h
    cases r
    exact ⟨_, Reads.none⟩
  | .bool b, _, _, h, r => by
    cases h
    cases r
    exact ⟨_, Reads.bool b⟩
  | .int i, _, _, h, r => by
    cases h
    obtain ⟨t, rfl⟩ := r
    exact ⟨_, Reads.int i t⟩
  | .str x, _, _, h, r => by
    cases h
    obtain ⟨t, rfl⟩ := r
    exact ⟨_, Reads.str x t⟩
  | .list ds, _, _, h, r => by
    cases h with
    | lst hs ha =>
      cases r
      obtain ⟨its, rv, ⟨o, n, ho, hc, _, hd⟩, _⟩ := I.list hs
      obtain ⟨as, hr⟩ := Dp.readsAll I ds _ its ha rv
      exact ⟨_, Reads.list ho hc hd hr⟩
  | .tuple ds, _, _, h, r => by
    cases h with
    | tup hs ha =>
      cases r
      obtain ⟨its, rv, ⟨o, ho, hc, n, hd⟩, _⟩ := I.tuple hs
      obtain ⟨as, hr⟩ := Dp.readsAll I ds _ its ha rv
      exact ⟨_, Reads.tuple ho hc hd hr⟩
  | .dict _, _, _, h, _ => by cases h
theorem Dp.readsAll (I : Inv X pins σ H s) : ∀ (ds : List PyData) (vs : List V) (us : List Value), DpAll X.K H vs ds → Vals vs us → ∃ as, ReadsAll s.heap us ds as
  | [], _, _, h, r => by
    cases h
    cases r
    exact ⟨_, ReadsAll.nil⟩
  | d :: ds, _, _, h, r => by
    cases h with
    | cons h1 h2 =>
      cases r with
      | cons r1 r2 =>
        obtain ⟨as, q1⟩ := Dp.reads I d _ _ h1 r1
        obtain ⟨bs, q2⟩ := Dp.readsAll I ds _ _ h2 r2
        exact ⟨_, ReadsAll.cons q1 q2⟩
end
end
section
variable {X : Cx}
@[reducible] def rEqD (K : PySem.W.Frag) : R2 := fun x y H Q => ∃ d e, Dp K H x d ∧ Dp K H y e ∧ SeqAt.shaped d = true ∧ SeqAt.shaped e = true ∧ Q (.bl (PyData.eqv d e)) H
@[reducible] def rNeD (K : PySem.W.Frag) : R2 := fun x y H Q => ∃ d e, Dp K H x d ∧ Dp K H y e ∧ SeqAt.shaped d = true ∧ SeqAt.shaped e = true ∧ Q (.bl (!PyData.eqv d e)) H
theorem op_eqD (hu : X.A.units + 64 < cLine) : OpR X (compareOp .Eq) (rEqD X.K) := by
  intro pins s σ H x y v u Q I rx ry h
  obtain ⟨d, e, hd, he, sd, se, q⟩ := h
  obtain ⟨as, r1⟩ := Dp.reads I d x v hd rx
  obtain ⟨bs, r2⟩ := Dp.reads I e y u he ry
  exact SeqAt.compareEq_shaped r1 r2 sd se hu ⟨.bl _, H, I, rfl, q⟩
theorem op_neD (hu : X.A.units + 64 < cLine) : OpR X (compareOp .NotEq) (rNeD X.K) := by
  intro pins s σ H x y v u Q I rx ry h
  obtain ⟨d, e, hd, he, sd, se, q⟩ := h
  obtain ⟨as, r1⟩ := Dp.reads I d x v hd rx
  obtain ⟨bs, r2⟩ := Dp.reads I e y u he ry
  exact SeqAt.compareNe_shaped r1 r2 sd se hu ⟨.bl _, H, I, rfl, q⟩
end
end L2

namespace L2
open PySem PySem.Spec PyProof.Rows
abbrev CellAt (h : Heap) (c : Addr) (v : Option Value) : Prop := h.IsCell c v
def relS (scope sc : Scope) : Scope :=
  { scope with names := scope.names.map fun (n, k) => if (k == .free && sc.kind == .function && sc.names.lookup n == some .cell) then (n, .cell) else (n, k) }

def cloFrom (cells : List (Str × Addr)) : List (Str × NameKind) → List (Str × Addr) → List (Str × Addr)
  | [], acc => acc
  | (n, k) :: r, acc => if k == .free then cloFrom cells r ((n, (cells.lookup n).getD 0) :: acc) else cloFrom cells r acc

theorem closure_loop (env : Env) (f : Str × NameKind → List (Str × Addr) → Sem (ForInStep (List (Str × Addr))))
    (hf : ∀ n k c, f (n, k) c = if k == .free then (do let a ← cellOf env n; pure (.yield ((n, a) :: c))) else pure (.yield c)) :
    ∀ (names : List (Str × NameKind)) (acc : List (Str × Addr)), (∀ y ∈ names, y.2 = .free → ∃ c, env.cells.lookup y.1 = some c) → forIn names acc f = pure (cloFrom env.cells names acc)
  | [], acc, _ => by rw [List.forIn_nil]; rfl
  | (n, k) :: r, acc, h => by
    rw [List.forIn_cons, hf]
    have ih := fun acc => closure_loop env f hf r acc fun y hy => h y (List.mem_cons_of_mem _ hy)
    unfold cloFrom
    by_cases hk : (k == NameKind.free) = true
    · rw [if_pos hk, if_pos hk]
      obtain ⟨c, hc⟩ := h (n, k) List.mem_cons_self (by simpa using hk)
      have e : cellOf env n = pure c := by unfold cellOf; rw [hc]
      rw [e]
      have e2 : (env.cells.lookup n).getD 0 = c := by rw [hc]; rfl
      rw [e2]
      exact ih _
    · rw [if_neg hk, if_neg hk]
      exact ih _
theorem closure_ok {scope : Scope} {env : Env} (h : ∀ y ∈ scope.names, y.2 = .free → ∃ c, env.cells.lookup y.1 = some c) : closureFor scope env = pure (cloFrom env.cells scope.names []) := by
  simp only [closureFor]
  rw [closure_loop env _ (fun n k c => rfl) scope.names [] h]
  rfl

theorem mem_lookup {α : Type} : ∀ {l : List (Str × α)} {n : Str} {c : α}, (n, c) ∈ l → ∃ c', l.lookup n = some c'
  | (k, v) :: r, n, c, h => by
    rw [List.lookup_cons]
    cases hb : n == k with
    | true => exact ⟨_, rfl⟩
    | false =>
      rcases List.mem_cons.mp h with e | h
      · cases e; simp at hb
      · exact mem_lookup h

theorem cloFrom_mem {cells : List (Str × Addr)} : ∀ {names : List (Str × NameKind)} {acc : List (Str × Addr)} {n : Str} {c : Addr}, (n, c) ∈ cloFrom cells names acc → (n, c) ∈ acc ∨ ((n, .free) ∈ names ∧ c = (cells.lookup n).getD 0)
  | [], _, _, _, h => .inl h
  | (m, k) :: r, acc, n, c, h => by
    unfold cloFrom at h
    split at h
    · rename_i hk
      have hk : k = .free := by simpa using hk
      rcases cloFrom_mem h with h | ⟨h1, h2⟩
      · rcases List.mem_cons.mp h with e | h
        · cases e; exact .inr ⟨hk ▸ List.mem_cons_self, rfl⟩
        · exact .inl h
      · exact .inr ⟨List.mem_cons_of_mem _ h1, h2⟩
    · rcases cloFrom_mem h with h | ⟨h1, h2⟩
      · exact .inl h
      · exact .inr ⟨List.mem_cons_of_mem _ h1, h2⟩
theorem cloFrom_acc {cells : List (Str × Addr)} : ∀ {names : List (Str × NameKind)} {acc : List (Str × Addr)} {p : Str × Addr}, p ∈ acc → p ∈ cloFrom cells names acc
  | [], _, _, h => h
  | (m, k) :: r, acc, p, h => by
    unfold cloFrom
    split
    · exact cloFrom_acc (List.mem_cons_of_mem _ h)
    · exact cloFrom_acc h
theorem cloFrom_has {cells : List (Str × Addr)} : ∀ {names : List (Str × NameKind)} {acc : List (Str × Addr)} {n : Str}, (n, .free) ∈ names → (n, (cells.lookup n).getD 0) ∈ cloFrom cells names acc
  | (m, k) :: r, acc, n, h => by
    unfold cloFrom
    rcases List.mem_cons.mp h with e | h
    · cases e
      exact cloFrom_acc List.mem_cons_self
    · split
      · exact cloFrom_has h
      · exact cloFrom_has h

theorem cells_mem : ∀ {names : List (Str × NameKind)} {h : Heap} {acc : List (Str × Addr)} {x : Str} {c : Addr}, (x, c) ∈ cellsFrom h.objs.size names acc →
    (x, c) ∈ acc ∨ ((x, .cell) ∈ names ∧ h.objs.size ≤ c ∧ CellAt (pushCells h names) c none)
  | [], _, _, _, _, h => .inl h
  | (n, k) :: r, h, acc, x, c, hm => by
    unfold cellsFrom at hm
    unfold pushCells
    split at hm
    · rename_i hk
      rw [if_pos hk]
      have hk : k = .cell := by simpa using hk
      rw [← Heap.size_push h { cls := .type "cell", data := .cell none }] at hm
      rcases cells_mem hm with hm | ⟨h1, h2, h3⟩
      · rcases List.mem_cons.mp hm with e | hm
        · cases e
          exact .inr ⟨hk ▸ List.mem_cons_self, Nat.le_refl _, _, pushCells_keeps r _ _ _ (Heap.get?_push_size _ rfl), rfl⟩
        · exact .inl hm
      · rw [Heap.size_push] at h2
        exact .inr ⟨List.mem_cons_of_mem _ h1, Nat.le_of_succ_le h2, h3⟩
    · rename_i hk
      rw [if_neg hk]
      rcases cells_mem hm with hm | ⟨h1, h2, h3⟩
      · exact .inl hm
      · exact .inr ⟨List.mem_cons_of_mem _ h1, h2, h3⟩
theorem cells_acc : ∀ {names : List (Str × NameKind)} {n : Nat} {acc : List (Str × Addr)} {p : Str × Addr}, p ∈ acc → p ∈ cellsFrom n names acc
  | [], _, _, _, h => h
  | (m, k) :: r, n, acc, p, h => by
    unfold cellsFrom
    split
    · exact cells_acc (List.mem_cons_of_mem _ h)
    · exact cells_acc h
theorem cells_has : ∀ {names : List (Str × NameKind)} {n : Nat} {acc : List (Str × Addr)} {x : Str}, (x, .cell) ∈ names → ∃ c, (x, c) ∈ cellsFrom n names acc
  | (m, k) :: r, n, acc, x, h => by
    unfold cellsFrom
    rcases List.mem_cons.mp h with e | h
    · cases e
      exact ⟨n, cells_acc List.mem_cons_self⟩
    · split
      · exact cells_has h
      · exact cells_has h
theorem cells_inj : ∀ {names : List (Str × NameKind)} {h : Heap} {acc : List (Str × Addr)} {x y : Str} {c : Addr}, (∀ p ∈ acc, p.2 < h.objs.size) → (∀ x y c, (x, c) ∈ acc → (y, c) ∈ acc → x = y) →
    (x, c) ∈ cellsFrom h.objs.size names acc → (y, c) ∈ cellsFrom h.objs.size names acc → x = y
  | [], _, _, _, _, _, _, hi, h1, h2 => hi _ _ _ h1 h2
  | (n, k) :: r, h, acc, x, y, c, hl, hi, h1, h2 => by
    unfold cellsFrom at h1 h2
    split at h1
    · rename_i hk
      rw [if_pos hk] at h2
      rw [← Heap.size_push h { cls := .type "cell", data := .cell none }] at h1 h2
      refine cells_inj (h := h.push _) (fun p hp => ?_) (fun x y c a b => ?_) h1 h2
      · rw [Heap.size_push]
        rcases List.mem_cons.mp hp with rfl | hp
        · exact Nat.lt_succ_self _
        · exact Nat.lt_succ_of_lt (hl p hp)
      · rcases List.mem_cons.mp a with e | a <;> rcases List.mem_cons.mp b with e' | b
        · cases e; cases e'; rfl
        · cases e; exact absurd (hl _ b) (Nat.lt_irrefl _)
        · cases e'; exact absurd (hl _ a) (Nat.lt_irrefl _)
        · exact hi _ _ _ a b
    · rename_i hk
      rw [if_neg hk] at h2
      exact cells_inj hl hi h1 h2

theorem newEnv_comp {M : Model} {A : Around} {E : Value → Shared → Prop} {s : Shared} {scope : Scope} {globals : Addr} {closure : List (Str × Addr)} {qual : Str} {func : Option Addr} {code : Value} {around : Env} {builtins : Addr} {Q : Env → Shared → Prop}
    (h : Q (newEnv scope s.heap.objs.size globals (cellsFrom (s.heap.objs.size + 1) scope.names closure) qual func code (some around) builtins)
      { s with heap := pushCells (s.heap.push { cls := .type "dict", data := .dict #[] }) scope.names }) :
    wpAny M A (newFunctionEnv scope globals closure [] qual func code (some around) builtins) Q E s := by
  simp only [newFunctionEnv, Option.isSome_some, if_true]
  refine wpAny_bind (wpAny_alloc ?_)
  refine wpAny_bind (wpAny_layCells _ (fun n k c => rfl) scope.names closure _ _ ?_)
  rw [show ({ s with heap := s.heap.push { cls := .type "dict", data := .dict #[] } } : Shared).heap.objs.size = s.heap.objs.size + 1 from Heap.size_push ..]
  rw [List.forIn_nil]
  exact wpAny_bind (wpAny_pure (wpAny_pure h))

/-- every name of the written scope, in the scope that runs -/
theorem lookup_relS {sc : Scope} : ∀ {names : List (Str × NameKind)} {x : Str} {k : NameKind},
    (names.map fun (n, k) => if (k == NameKind.free && sc.kind == .function && sc.names.lookup n == some .cell) then (n, NameKind.cell) else (n, k)).lookup x = some k →
    ∃ k', names.lookup x = some k' ∧ (k = k' ∨ (k' = .free ∧ k = .cell))
  | [], _, _, h => by simp at h
  | (n, k₀) :: r, x, k, h => by
    have ih := @lookup_relS sc r x k
    have h' : List.lookup x ((if (k₀ == NameKind.free && sc.kind == .function && sc.names.lookup n == some .cell) = true then (n, NameKind.cell) else (n, k₀)) :: (r.map _)) = some k := h
    cases hx : x == n with
    | true =>
      simp only [List.lookup_cons, hx]
      by_cases hc : (k₀ == NameKind.free && sc.kind == .function && sc.names.lookup n == some .cell) = true
      · rw [if_pos hc] at h'
        simp only [List.lookup_cons, hx] at h'
        cases h'
        simp only [Bool.and_eq_true, beq_iff_eq] at hc
        exact ⟨k₀, rfl, .inr ⟨hc.1.1, rfl⟩⟩
      · rw [if_neg hc] at h'
        simp only [List.lookup_cons, hx] at h'
        cases h'
        exact ⟨_, rfl, .inl rfl⟩
    | false =>
      simp only [List.lookup_cons, hx]
      by_cases hc : (k₀ == NameKind.free && sc.kind == .function && sc.names.lookup n == some .cell) = true
      · rw [if_pos hc] at h'
        simp only [List.lookup_cons, hx] at h'
        exact ih h'
      · rw [if_neg hc] at h'
        simp only [List.lookup_cons, hx] at h'
        exact ih h'
/-- the names of a comprehension's block: its own (with their places in N), or captured -/
structure BlkOk (N : List Str) (sc scope : Scope) (own : List (Str × Nat)) : Prop where
  kind : scope.kind = .function
  uniq : ∀ y ∈ scope.names, scope.names.lookup y.1 = some y.2
  ix : ∀ p ∈ own, N[p.2]? = some p.1
  free : ∀ y ∈ scope.names, y.2 = .free → sc.names.lookup y.1 = some .cell ∨ sc.names.lookup y.1 = some .free
  own : ∀ y ∈ scope.names, y.2 = .local ∨ y.2 = .cell → y.1 ∈ own.map (·.1) ∨ y.1 ∉ N
/-- the slots of the block's own names forgotten -/
def wipe (σ : St) : List Nat → St
  | [] => σ
  | v :: vs => (wipe σ vs).set v none
theorem wipe_length (σ : St) : ∀ vs : List Nat, (wipe σ vs).length = σ.length
  | [] => rfl
  | v :: vs => by unfold wipe; rw [List.length_set, wipe_length σ vs]
theorem wipe_some {σ : St} {i : Nat} {x : V} : ∀ {vs : List Nat}, (wipe σ vs)[i]? = some (some x) → σ[i]? = some (some x) ∧ i ∉ vs
  | [], h => ⟨h, by simp⟩
  | v :: vs, h => by
    unfold wipe at h
    by_cases hi : v = i
    · subst hi
      by_cases hv : v < (wipe σ vs).length
      · rw [List.getElem?_set_self hv] at h; cases h
      · rw [List.getElem?_eq_none (by simpa using hv)] at h; cases h
    · rw [List.getElem?_set_ne hi] at h
      obtain ⟨h1, h2⟩ := wipe_some h
      exact ⟨h1, by simp only [List.mem_cons, not_or]; exact ⟨fun e => hi e.symm, h2⟩⟩

/-- the context of a block that starts at s, its iterator's objects at fp -/
abbrev Cx.blk (X : Cx) (s : Shared) (H : Hp) (scope : Scope) (cenv : Env) (fp : List Addr) : Cx := { X with s_0 := s, H_0 := H, env := cenv, outer := X.stack, ex := fp, fn := fun x => scope.names.lookup x == some .cell, pn := [], xe := fun _ _ => False }
section
variable {X : Cx} {pins : List (Addr × Obj)} {σ : St} {H : Hp} {s : Shared}
theorem block_start {scope : Scope} {own : List (Str × Nat)} {fp : List Addr} (I : Inv X pins σ H s) (ok : BlkOk X.N X.env.scope scope own) (hN : X.N.Nodup) (hfp : ∀ b ∈ fp, FpOk X pins H b ∧ b < s.heap.objs.size) :
    Inv (X.blk s H scope (compEnvC scope (cellsFrom (s.heap.objs.size + 1) scope.names (cloFrom X.env.cells scope.names [])) s.heap.objs.size X.env) fp) [] (wipe σ (own.map (·.2))) H { s with heap := pushCells (s.heap.push { cls := .type "dict", data := .dict #[] }) scope.names } := by
  have hfree : ∀ y ∈ scope.names, y.2 = .free → ∃ c, X.env.cells.lookup y.1 = some c := fun y hy e => by
    rcases ok.free y hy e with k | k
    · exact I.ok.has _ (.inl k)
    · exact I.ok.has _ (.inr k)
  generalize hcenv : compEnvC scope (cellsFrom (s.heap.objs.size + 1) scope.names (cloFrom X.env.cells scope.names [])) s.heap.objs.size X.env = cenv
  have kp : ∀ b o, s.heap.get? b = some o → (pushCells (s.heap.push { cls := .type "dict", data := .dict #[] }) scope.names).get? b = some o := fun b o e => pushCells_keeps _ _ _ _ (Heap.get?_push_of_some _ e)
  have hL : cenv.locals = s.heap.objs.size := by rw [← hcenv]; rfl
  have hcl : cenv.cells = cellsFrom (s.heap.objs.size + 1) scope.names (cloFrom X.env.cells scope.names []) := by rw [← hcenv]; rfl
  have hsc : cenv.scope = relS scope X.env.scope := by rw [← hcenv]; rfl
  rw [← Heap.size_push s.heap { cls := .type "dict", data := .dict #[] }] at hcl
  have cm : ∀ {y c}, (y, c) ∈ cloFrom X.env.cells scope.names [] → X.env.cells.lookup y = some c ∧ c < s.heap.objs.size := fun {y c} hm => by
    rcases cloFrom_mem hm with hm | ⟨h1, rfl⟩
    · cases hm
    · obtain ⟨c, hc⟩ := hfree _ h1 rfl
      rw [hc]
      obtain ⟨w, z⟩ := I.cell _ _ hc
      exact ⟨rfl, z.lt⟩
  have mem : ∀ {y c}, cenv.cells.lookup y = some c → (X.env.cells.lookup y = some c ∧ c < s.heap.objs.size) ∨ (s.heap.objs.size + 1 ≤ c ∧ CellAt (pushCells (s.heap.push { cls := .type "dict", data := .dict #[] }) scope.names) c none) := fun {y c} e => by
    rw [hcl] at e
    rcases cells_mem (PySem.mem_of_lookup e) with hm | ⟨_, h2, h3⟩
    · exact .inl (cm hm)
    · rw [Heap.size_push] at h2; exact .inr ⟨h2, h3⟩
  have look : ∀ {y}, scope.names.lookup y = some .free → ∃ c, cenv.cells.lookup y = some c ∧ X.env.cells.lookup y = some c := fun {y} hl => by
    have hy : (y, NameKind.free) ∈ scope.names := PySem.mem_of_lookup hl
    obtain ⟨c', e'⟩ := mem_lookup (cells_acc (names := scope.names) (n := (s.heap.push { cls := .type "dict", data := .dict #[] }).objs.size) (cloFrom_has (cells := X.env.cells) (acc := []) hy))
    rw [← hcl] at e'
    refine ⟨c', e', ?_⟩
    rw [hcl] at e'
    rcases cells_mem (PySem.mem_of_lookup e') with hm | ⟨h1, _, _⟩
    · exact (cm hm).1
    · have := ok.uniq _ h1
      rw [hl] at this; cases this
  have okB : (X.blk s H scope cenv fp).Ok := by
    refine ⟨I.ok.mod, by show cenv.scope.kind = _; rw [hsc]; exact ok.kind, by show cenv.globals = _; rw [← hcenv]; exact I.ok.glob, by show cenv.builtins = _; rw [← hcenv]; exact I.ok.blt, by show s.heap.objs.size ≤ cenv.locals; rw [hL]; exact Nat.le_refl _,
      fun y z c e1 e2 => ?_, fun y hy => ?_, fun y c z e => ?_, I.ok.hd, I.ok.frames, .inl rfl, fun b hb => ⟨?_, fun y c e z => ?_⟩, I.bs, Nat.le_trans I.ok.bsz I.sz, fun b o e hb => ?_, fun b hb z => ?_, I.stack, I.stkFree, fun y c e hb => (by
        rcases mem e with ⟨h1, _⟩ | ⟨h1, _⟩
        · exact I.cnfS y c h1 hb
        · obtain ⟨_, o, ho, _⟩ := I.stack.mem hb
          exact absurd (Heap.lt_size ho) (Nat.not_lt.mpr (Nat.le_of_succ_le h1)))⟩
    · have e1 : cenv.cells.lookup y = some c := e1
      have e2 : cenv.cells.lookup z = some c := e2
      rw [hcl] at e1 e2
      refine cells_inj (fun p hp => ?_) (fun y z c a b => I.ok.inj y z c (cm a).1 (cm b).1) (PySem.mem_of_lookup e1) (PySem.mem_of_lookup e2)
      rw [Heap.size_push]
      exact Nat.lt_succ_of_lt (cm (y := p.1) (c := p.2) hp).2
    · show ∃ c, cenv.cells.lookup y = some c
      have key : ∀ k, cenv.kindOf y = some k → (k = .cell ∨ k = .free) → ∃ c, cenv.cells.lookup y = some c := fun k hk hk' => by
        unfold Env.kindOf at hk
        rw [hsc] at hk
        obtain ⟨k', e, r⟩ := lookup_relS hk
        have : k' = .cell ∨ k' = .free := by
          rcases r with rfl | ⟨rfl, _⟩
          · exact hk'
          · exact .inr rfl
        rcases this with rfl | rfl
        · obtain ⟨c, hm⟩ := cells_has (n := (s.heap.push { cls := .type "dict", data := .dict #[] }).objs.size) (acc := cloFrom X.env.cells scope.names []) (PySem.mem_of_lookup e)
          obtain ⟨c', e'⟩ := mem_lookup hm
          exact ⟨c', by rw [hcl]; exact e'⟩
        · obtain ⟨c, h1, _⟩ := look e
          exact ⟨c, h1⟩
      rcases hy with hy | hy
      · exact key _ hy (.inl rfl)
      · exact key _ hy (.inr rfl)
    · have z : (scope.names.lookup y == some NameKind.cell) = true := z
      have z : scope.names.lookup y = some .cell := by simpa using z
      have e : cenv.cells.lookup y = some c := e
      rw [hcl] at e
      rcases cells_mem (PySem.mem_of_lookup e) with hm | ⟨_, h2, _⟩
      · rcases cloFrom_mem hm with hm | ⟨h1, _⟩
        · cases hm
        · have q := ok.uniq _ h1
          rw [z] at q; cases q
      · rw [Heap.size_push] at h2
        exact Nat.le_of_succ_le h2
    · show b ≠ cenv.locals
      rw [hL]; exact Nat.ne_of_lt (hfp b hb).2
    · have e : cenv.cells.lookup y = some c := e
      rcases mem e with ⟨h1, _⟩ | ⟨h1, _⟩
      · exact (hfp b hb).1.2.2.2.2.1 y c h1 z
      · have h2 : s.heap.objs.size + 1 ≤ b := by rw [← z]; exact h1
        exact absurd (Nat.lt_of_lt_of_le (hfp b hb).2 (Nat.le_of_succ_le h2)) (Nat.lt_irrefl _)
    · rcases (hfp b hb).1.2.2.2.1 with z | z
      · exact I.ok.noex b o e z
      · exact absurd (Nat.lt_of_lt_of_le (Heap.lt_size e) (Nat.le_trans I.ok.bsz z)) (Nat.lt_irrefl _)
    · rcases List.mem_cons.mp (I.stkSub b z) with z | z
      · exact (hfp b hb).1.2.1 z
      · exact (hfp b hb).1.2.2.1 z
  refine ⟨okB, rfl, I.bare, Un.kept kp, ⟨fun _ => none, ?_, fun i y av e1 e2 e3 => ?_⟩, fun y c e => ?_, ?_, fun y c e => ?_, fun p hp => ?_, I.hok.kept kp, by rw [wipe_length]; exact I.len⟩
  · show Heap.Ns _ cenv.locals _
    rw [hL]
    exact Heap.Ns.keeps (Heap.Ns.new ..) fun b o e => pushCells_keeps _ _ _ _ e
  · obtain ⟨e2, hne⟩ := wipe_some e2
    have hfr : scope.names.lookup y = some .free ∧ (cenv.kindOf y = some .cell ∨ cenv.kindOf y = some .free) := by
      have key : ∀ k, cenv.scope.names.lookup y = some k → k = .local ∨ k = .cell ∨ k = .free → scope.names.lookup y = some .free ∧ (cenv.kindOf y = some .cell ∨ cenv.kindOf y = some .free) := fun k hk hk' => by
        have hk0 := hk
        rw [hsc] at hk
        obtain ⟨k', e, r⟩ := lookup_relS hk
        have no : ¬ (k' = .local ∨ k' = .cell) := fun hh => by
          rcases ok.own _ (PySem.mem_of_lookup e) hh with e' | e'
          · obtain ⟨p, hp, hpy⟩ := List.mem_map.mp e'
            have e3 := ok.ix p hp
            have : p.1 = y := hpy
            rw [this] at e3
            exact hne (List.mem_map.mpr ⟨p, hp, nodup_ix hN e3 e1⟩)
          · exact e' (List.mem_of_getElem? e1)
        rcases r with rfl | ⟨rfl, rfl⟩
        · rcases hk' with rfl | rfl | rfl
          · exact absurd (.inl rfl) no
          · exact absurd (.inr rfl) no
          · exact ⟨e, .inr hk0⟩
        · exact ⟨e, .inl hk0⟩
      have e3 : Vis cenv.scope y := e3
      rcases e3 with e3 | e3 | e3
      · exact key _ e3 (.inl rfl)
      · exact key _ e3 (.inr (.inl rfl))
      · exact key _ e3 (.inr (.inr rfl))
    obtain ⟨m, hn, hl⟩ := I.loc
    have hvis : Vis X.env.scope y := (ok.free _ (PySem.mem_of_lookup hfr.1) rfl).elim (fun k => .inr (.inl k)) (fun k => .inr (.inr k))
    obtain ⟨w, r, q⟩ := hl i y av e1 e2 hvis
    refine ⟨w, r, .inr ⟨hfr.2, ?_⟩⟩
    obtain ⟨c, h1, h2⟩ := look hfr.1
    rcases q with ⟨k, _⟩ | ⟨_, c', e', z⟩
    · have k : X.env.scope.names.lookup y = some .local := k
      rcases ok.free _ (PySem.mem_of_lookup hfr.1) rfl with k' | k' <;> rw [show X.env.scope.names.lookup y = _ from k'] at k <;> cases k
    · rw [h2] at e'; cases e'
      exact ⟨c, h1, z.keeps kp⟩
  · have e : cenv.cells.lookup y = some c := e
    rcases mem e with ⟨h1, _⟩ | ⟨_, z⟩
    · obtain ⟨w, z⟩ := I.cell y c h1
      exact ⟨w, z.keeps kp⟩
    · exact ⟨_, z⟩
  · show H cenv.locals = none
    rw [hL]; exact I.hok.fresh (Nat.le_refl _)
  · have e : cenv.cells.lookup y = some c := e
    rcases mem e with ⟨h1, _⟩ | ⟨h1, _⟩
    · exact I.freeC y c h1
    · exact I.hok.fresh (Nat.le_of_succ_le h1)
  · exact absurd (show p ∈ ([] : List (Addr × Obj)) ++ [] from hp) (by simp)

/-- an item appended to a tracked list -/
theorem app_ok {E : Value → Shared → Prop} {D : Addr} {xs : List V} {y : V} {v : Value} {Q : Value → Shared → Prop} (I : Inv X pins σ H s) (hD : H D = some (.lst xs)) (hz : xs.length < sizeLine) (r : RelV y v)
    (h : ∀ s', Inv X pins σ (upd H D (.lst (xs ++ [y]))) s' → Q .none s') : wpAny (model X.prog X.w) X.A (call (.builtin "list.append") [.ref D, v]) Q E s := by
  obtain ⟨hz', its, n, ri, e⟩ := I.hok D _ hD
  have hl := ri.length
  refine append_at (hsz := by rw [List.size_toArray]; omega) e fun h' sb ho' => ?_
  refine h { s with heap := h' } (I.write (t' := s.toks) (by rw [hD]; trivial) (.inl rfl) (fun b u hb q => (sb.2 b hb).trans q) ⟨_, ho'⟩ ⟨by rw [List.length_append]; exact hz, its ++ [v], n + 1, ri.append (.cons r .nil), ?_⟩)
  rw [ho']
  simp

/-- a clause's tests -/
def PTs (X : Cx) (ifs : List Expr) (t : TT) : Prop :=
  ∀ (pins : List (Addr × Obj)) (s : Shared) (σ : St) (H : Hp) (Q : Bool → Hp → Prop), Inv X pins σ H s → t σ H Q →
    wpAny (model X.prog X.w) X.A (forIn ifs true fun c r => if r = true then do let ok ← isTrue c X.env (eval c X.env); pure (ForInStep.yield ok) else pure (ForInStep.yield r)) (TP X pins σ Q) X.xe s
@[reducible] def tYes : TT := fun _ H Q => Q true H
theorem pts_nil : PTs X [] tYes := fun _ _ _ H _ I h => wpAny_tests_nil ⟨H, I, h⟩
theorem pts_one {c : Expr} {t : TT} (h : PT X c t) : PTs X [c] t := fun pins s σ H Q I hw => wpAny_tests_one (h pins s σ H Q I hw)
end

theorem thnF {α : Type} {t : Sem α} {Q Q' : α → Shared → Prop} {M : Model} {A : Around} {E : Value → Shared → Prop} {s : Shared} (h : wpAny M A t Q (fun _ _ => False) s) (hQ : ∀ a s, Q a s → Q' a s) : wpAny M A t Q' E s := wpAny_mono h hQ fun _ _ z => False.elim z

/-- the loop of a list comprehension's block, the target of any form (codeAny_compLoop_tests asks a target that no tuple goes to; statement and proof follow it, PyProof/CompMap.lean:41-61, with the step letOwnedTupleGo kept) -/
theorem compLoop_any {prog : Program} {w : World} {A : Around} {R : Result → Shared → Prop} {s : Shared} {elt target iter : Expr} {ifs : List Expr} {scope : Scope} {pos : Pos} {it acc : Value} {env : Env} (I : Nat → Shared → Prop)
    (turn : ∀ n s, I n s → wpAny (model prog w) A (pyNext it) (fun r s₁ => match r with
      | none => R (.ok .next) s₁
      | some v => wpAny (model prog w) A (letOwnedTupleGo target it v) (fun _ s₁' => wpAny (model prog w) A (assign target env v) (fun _ s₂ =>
          wpAny (model prog w) A (forIn ifs true fun c r => if r = true then do let ok ← isTrue c env (eval c env); pure (ForInStep.yield ok) else pure (ForInStep.yield r)) (fun ok s₃ =>
            if ok = true then wpAny (model prog w) A (eval elt env) (fun x s₄ =>
              wpAny (model prog w) A (call (.builtin "list.append") [acc, x]) (fun _ s₅ => ∃ m, m < n ∧ I m s₅) (notedBy (model prog w) A env fun e s' => R (.error e) s') s₄) (notedBy (model prog w) A env fun e s' => R (.error e) s') s₃
            else ∃ m, m < n ∧ I m s₃) (notedBy (model prog w) A env fun e s' => R (.error e) s') s₂) (notedBy (model prog w) A env fun e s' => R (.error e) s') s₁') (notedBy (model prog w) A env fun e s' => R (.error e) s') s₁) (notedBy (model prog w) A env fun e s' => R (.error e) s') s)
    (n : Nat) (h : I n s) :
    codeAny (model prog w) A (.compLoop (.ListComp elt [⟨target, iter, ifs, 0⟩] scope pos) 0 it acc env) R s := by
  refine codeAny_loop rfl I (fun n s hI => ?_) n h
  show wpAny _ A ((compTurn (.ListComp elt [⟨target, iter, ifs, 0⟩] scope pos) 0 it acc env).onRaise (fun x => do noteFrame x env; theTreesLotGoes x)) _ _ s
  refine wpAny_noted ?_
  rw [compTurn_list]
  refine wpAny_bind (wpAny_standAt (wpAny_bind (wpAny_mono (turn n s hI) (fun r s₁ h₁ => ?_) fun _ _ h' => h')))
  cases r with
  | none => exact wpAny_pure h₁
  | some v =>
    refine wpAny_bind (wpAny_mono h₁ (fun _ s₁' h₁' => ?_) fun _ _ h' => h')
    refine wpAny_bind (wpAny_mono h₁' (fun _ s₂ h₂ => wpAny_bind (wpAny_mono h₂ (fun ok s₃ h₃ => ?_) fun _ _ h' => h')) fun _ _ h' => h')
    cases ok with
    | false => exact wpAny_pure ⟨rfl, h₃⟩
    | true =>
      exact wpAny_bind (wpAny_bind (wpAny_mono h₃ (fun x s₄ h₄ => wpAny_bind (wpAny_mono h₄ (fun _ s₅ h₅ => wpAny_pure (wpAny_pure ⟨rfl, h₅⟩)) fun _ _ h' => h')) fun _ _ h' => h'))

section
variable {X : Cx}
/-- [elt for target in iter if ..]: D the new list; W by the turn and a measure, Nx what a turn is to reach -/
def tLc (wi : TI) (g : TG) (tt : TT) (te : TE) (vs : List Nat) : TE := fun σ H Q => wi σ H fun J H1 => ∀ D, H1 D = none → ∃ W : Nat → Nat → Hp → Prop, (∃ m, W 0 m (upd H1 D (.lst []))) ∧ ∀ i m H, W i m H →
  (J.stop i H ∧ Q (.ref D) H) ∨ (J.go i H ∧ ∃ Nx : Hp → Prop, (∀ H', Nx H' → ∃ m', m' < m ∧ W (i + 1) m' H') ∧ ∀ x H', J.yld i H x H' → g x (wipe σ vs) H' fun σ2 H2 => wipe σ2 vs = wipe σ vs ∧ tt σ2 H2 fun b H3 =>
    if b = true then te σ2 H3 fun y H4 => ∃ acc, H4 D = some (.lst acc) ∧ acc.length < sizeLine ∧ Nx (upd H4 D (.lst (acc ++ [y]))) else Nx H3)
theorem lc_core {pins : List (Addr × Obj)} {s : Shared} {σ : St} {H : Hp} {Q : VK} {elt tg iter : Expr} {ifs : List Expr} {scope : Scope} {own : List (Str × Nat)} {pos pos' : Pos} {wi : TI} {g : TG} {tt : TT} {te : TE} {use : Option (Value → Sem Unit)} {Qf : Value → Shared → Prop}
    (hc : X.calm = true) (hN : X.N.Nodup) (I : Inv X pins σ H s) (hi : PI X tg iter wi) (ok : BlkOk X.N X.env.scope scope own)
    (hg : ∀ (s : Shared) (H : Hp) (C : Addr) (cl : List (Str × Addr)) (fp : List Addr), PG (X.blk s H scope (compEnvC scope cl C X.env) fp) tg g) (ht : ∀ (s : Shared) (H : Hp) (C : Addr) (cl : List (Str × Addr)) (fp : List Addr), PTs (X.blk s H scope (compEnvC scope cl C X.env) fp) ifs tt)
    (he : ∀ (s : Shared) (H : Hp) (C : Addr) (cl : List (Str × Addr)) (fp : List Addr), PE (X.blk s H scope (compEnvC scope cl C X.env) fp) elt te) (hs : ∀ x, foldedSetIterable iter X.env x = pure x)
    (h : tLc wi g tt te (own.map (·.2)) σ H Q)
    (hRR : ∀ D C s' m H', Inv X pins σ H' s' → Q (.ref D) H' → s'.heap.Ns C m → FpOk X pins H' C → compPost (model X.prog X.w) X.A X.xe use Qf (.ref D) C (.ok .next) s') :
    wpAny (model X.prog X.w) X.A (comprehension (.ListComp elt [⟨tg, iter, ifs, 0⟩] scope pos) scope X.env pos' (newList []) false (eval iter X.env) use) Qf X.xe s := by
  have hfree : ∀ y ∈ scope.names, y.2 = .free → ∃ c, X.env.cells.lookup y.1 = some c := fun y hy e => by
    rcases ok.free y hy e with k | k
    · exact I.ok.has _ (.inl k)
    · exact I.ok.has _ (.inr k)
  refine wpAny_comprehension_free (use := use) rfl hs (closure_ok hfree) ok.kind (fun y hy e => by rw [ok.uniq y hy, e])
    (thn (hi pins s σ H _ I h) fun xv s1 hx => thn hx fun itv s2 h2 => ?_)
  obtain ⟨it, fp, tn, J, H2, e, I2, T, st2, f2, q⟩ := h2
  subst e
  refine wpAny_newObj_type (newEnv_comp ?_) (by show 0 ≤ sizeLine; decide)
  generalize hD : s2.heap.objs.size = D
  have hDn : H2 D = none := I2.hok.fresh (Nat.le_of_eq hD)
  obtain ⟨W, ⟨m0, w0⟩, turn⟩ := q D hDn
  -- the new list
  generalize hs3 : ({ s2 with heap := s2.heap.push { cls := .type "list", data := .seq ([] : List Value).toArray } } : Shared) = s3
  have I3 : Inv X pins σ (upd H2 D (.lst [])) s3 := by
    rw [← hs3]
    refine I2.laid (t' := s2.toks) (fun b o e => Heap.get?_push_of_some _ e) (Nat.le_of_eq hD) ⟨Nat.zero_le _, [], 0, .nil, ?_⟩
    rw [← hD]
    exact Heap.get?_push_size _ rfl
  have h3 : s3.heap = s2.heap.push { cls := .type "list", data := .seq ([] : List Value).toArray } := by rw [← hs3]
  have sz : ∀ b ∈ fp, b < s2.heap.objs.size := fun b hb => by
    obtain ⟨o, e, _⟩ := T.obj _ _ st2 b hb
    exact Heap.lt_size e
  have f3 : ∀ b ∈ fp, FpOk X pins (upd H2 D (.lst [])) b ∧ b < s3.heap.objs.size := fun b hb => by
    have hlt := sz b hb
    refine ⟨⟨?_, (f2 b hb).2⟩, by rw [h3, Heap.size_push]; exact Nat.lt_succ_of_lt hlt⟩
    rw [upd_ne (by rw [← hD]; exact Nat.ne_of_lt hlt)]
    exact (f2 b hb).1
  have st3 : tn 0 s3.heap := T.keep _ _ _ st2 fun b _ o e => by rw [h3]; exact Heap.get?_push_of_some _ e
  have I4 := block_start I3 ok hN f3
  have pg := hg s3 (upd H2 D (.lst [])) s3.heap.objs.size (cellsFrom (s3.heap.objs.size + 1) scope.names (cloFrom X.env.cells scope.names [])) fp
  have pt := ht s3 (upd H2 D (.lst [])) s3.heap.objs.size (cellsFrom (s3.heap.objs.size + 1) scope.names (cloFrom X.env.cells scope.names [])) fp
  have pe := he s3 (upd H2 D (.lst [])) s3.heap.objs.size (cellsFrom (s3.heap.objs.size + 1) scope.names (cloFrom X.env.cells scope.names [])) fp
  show codeAny _ _ (.compStart (.ListComp elt [⟨tg, iter, ifs, 0⟩] scope pos) 0 (.ref it) (.ref D) (compEnvC scope (cellsFrom (s3.heap.objs.size + 1) scope.names (cloFrom X.env.cells scope.names [])) s3.heap.objs.size X.env)) (compPost (model X.prog X.w) X.A X.xe use Qf (.ref D) s3.heap.objs.size) { s3 with heap := pushCells (s3.heap.push { cls := .type "dict", data := .dict #[] }) scope.names }
  have nfp : ∀ b ∈ fp, (upd H2 D (.lst [])) b = none := fun b hb => (f3 b hb).1.1
  generalize hce : compEnvC scope (cellsFrom (s3.heap.objs.size + 1) scope.names (cloFrom X.env.cells scope.names [])) s3.heap.objs.size X.env = ce at I4 pg pt pe ⊢
  have cL : ce.locals = s3.heap.objs.size := by subst hce; rfl
  generalize hH3 : upd H2 D (.lst []) = H3 at I3 I4 pg pt pe w0 nfp f3
  generalize hs4 : ({ s3 with heap := pushCells (s3.heap.push { cls := .type "dict", data := .dict #[] }) scope.names } : Shared) = s4 at I4 ⊢
  have st4 : tn 0 s4.heap := T.keep _ _ _ st3 fun b _ o e => by rw [← hs4]; exact pushCells_keeps _ _ _ _ (Heap.get?_push_of_some _ e)
  have stat : ∀ {σ' : St} {H' : Hp} {s' : Shared}, Inv (X.blk s3 H3 scope ce fp) [] σ' H' s' → (∀ b ∈ fp, H' b = none) → ∀ b ∈ fp, FpOk (X.blk s3 H3 scope ce fp) [] H' b := fun {σ' H' s'} I' hn b hb =>
    ⟨hn b hb, (I'.ok.exf b hb).1, I'.ok.exfs b hb, .inl hb, fun x c e => (I'.ok.exf b hb).2 x c e, fun p hp => absurd (show p ∈ ([] : List (Addr × Obj)) ++ [] from hp) (by simp)⟩
  have loop : codeAny (model X.prog X.w) X.A (.compLoop (.ListComp elt [⟨tg, iter, ifs, 0⟩] scope pos) 0 (.ref it) (.ref D) ce) (compPost (model X.prog X.w) X.A X.xe use Qf (.ref D) s3.heap.objs.size) s4 := by
    refine compLoop_any (fun n s' => ∃ i H', Inv (X.blk s3 H3 scope ce fp) [] (wipe σ (own.map (·.2))) H' s' ∧ tn i s'.heap ∧ (∀ b ∈ fp, H' b = none) ∧ W i n H') ?_ m0 ⟨0, H3, I4, st4, nfp, w0⟩
    rintro n s5 ⟨i, H5, I5, st5, n5, w5⟩
    rcases turn i n H5 w5 with ⟨stop, qq⟩ | ⟨go, Nx, hNx, step⟩
    · have td := T.done (X.blk s3 H3 scope ce fp) rfl rfl rfl hc i [] s5 _ H5 (fun _ _ => False) I5 (stat I5 n5) st5 stop
      refine thnF td fun r s6 ⟨hr, I6⟩ => ?_
      subst hr
      -- back in the def's context
      have I7 : Inv X pins σ H5 s6 := I3.call' (ch := fp) I6.os I6.base I6.hok I6.bare fun b hb => ⟨(f3 b hb).1.2.2.2.1, (f3 b hb).1.2.1, (f3 b hb).1.2.2.2.2.1, (f3 b hb).1.2.2.2.2.2⟩
      have nC : H5 s3.heap.objs.size = none := by
        have z : H5 ce.locals = none := I6.free
        rw [cL] at z
        exact z
      obtain ⟨m, hn, _⟩ := I6.loc
      have hn : s6.heap.Ns ce.locals m := hn
      rw [cL] at hn
      exact hRR D s3.heap.objs.size s6 m H5 I7 qq hn (I3.fpOk (Nat.le_refl _) nC)
    · have ti := T.item (X.blk s3 H3 scope ce fp) rfl rfl rfl hc i [] s5 _ H5 (fun _ _ => False) I5 (stat I5 n5) st5 go
      refine thnF ti fun r s6 ⟨u, hr, h6⟩ => ?_
      subst hr
      refine thnF h6 fun _ s7 ⟨x, H7, I7, r7, y7, st7, n7⟩ => ?_
      have I7' := I7.pinned (stat I7 n7) (T.obj _ _ st7)
      refine thnF (pg _ s7 _ H7 x u _ I7' r7 (step x H7 y7)) fun _ s8 ⟨σ8, H8, I8, hw8, q8⟩ => ?_
      refine thnF (pt _ s8 σ8 H8 _ I8 q8) fun b s9 ⟨H9, I9, q9⟩ => ?_
      -- the turn's end
      have fin : ∀ {s' : Shared} {H' : Hp}, Inv (X.blk s3 H3 scope ce fp) ([] ++ pinsAt fp s7.heap) σ8 H' s' → Nx H' → ∃ m, m < n ∧ ∃ i H', Inv (X.blk s3 H3 scope ce fp) [] (wipe σ (own.map (·.2))) H' s' ∧ tn i s'.heap ∧ (∀ b ∈ fp, H' b = none) ∧ W i m H' := fun {s' H'} I' nx => by
        obtain ⟨m', hm, w'⟩ := hNx H' nx
        have pin' : ∀ b ∈ fp, ∀ o, s7.heap.get? b = some o → s'.heap.get? b = some o ∧ H' b = none := fun b hb o e =>
          let z := I'.pin (b, o) (List.mem_append_right _ (List.mem_append_right _ (mem_pinsAt hb e)))
          ⟨z.1, z.2.1⟩
        have hl : (wipe σ (own.map (·.2))).length = σ8.length := by rw [← hw8, wipe_length]
        refine ⟨m', hm, i + 1, H', (I'.unpinned (pins := [])).weak hl (fun j v e => ?_), T.keep _ _ _ st7 fun b hb o e => (pin' b hb o e).1, fun b hb => ?_, w'⟩
        · rw [← hw8] at e
          exact (wipe_some e).1
        · obtain ⟨o, e, _⟩ := T.obj _ _ st7 b hb
          exact (pin' b hb o e).2
      cases b with
      | false =>
        simp only [Bool.false_eq_true, if_false] at q9 ⊢
        exact fin I9 q9
      | true =>
        simp only [if_true] at q9 ⊢
        refine thnF (pe _ s9 σ8 H9 _ I9 q9) fun z s10 ⟨yv, H10, I10, r10, acc, hD10, hz10, nx⟩ => ?_
        exact app_ok (X := X.blk s3 H3 scope ce fp) I10 hD10 hz10 r10 fun s11 I11 => fin I11 nx
  exact codeAny_compStart_list loop (T.self X.A 0 _ _ _ st4 loop)
/-- as a value -/
theorem pe_lc {elt tg iter : Expr} {ifs : List Expr} {scope : Scope} {own : List (Str × Nat)} {pos : Pos} {wi : TI} {g : TG} {tt : TT} {te : TE} (hc : X.calm = true) (hN : X.N.Nodup) (hi : PI X tg iter wi) (ok : BlkOk X.N X.env.scope scope own)
    (hg : ∀ (s : Shared) (H : Hp) (C : Addr) (cl : List (Str × Addr)) (fp : List Addr), PG (X.blk s H scope (compEnvC scope cl C X.env) fp) tg g) (ht : ∀ (s : Shared) (H : Hp) (C : Addr) (cl : List (Str × Addr)) (fp : List Addr), PTs (X.blk s H scope (compEnvC scope cl C X.env) fp) ifs tt)
    (he : ∀ (s : Shared) (H : Hp) (C : Addr) (cl : List (Str × Addr)) (fp : List Addr), PE (X.blk s H scope (compEnvC scope cl C X.env) fp) elt te) (hs : ∀ x, foldedSetIterable iter X.env x = pure x := by intro _; rfl) :
    PE X (.ListComp elt [⟨tg, iter, ifs, 0⟩] scope pos) (tLc wi g tt te (own.map (·.2))) := by
  intro pins s σ H Q I h
  rw [eval_ListComp]
  refine lc_core hc hN I hi ok hg ht he hs h fun D C s' m H' I' q hn f => ⟨m, hn, fun h'' sb => ?_⟩
  obtain ⟨f0, f1, f2, f3, f4, f5⟩ := f
  exact ⟨.ref D, H', I'.turned (t' := s'.toks) (fun b o hb e => (sb.2 b hb).trans e) f0 f1 f3 f4 f5, rfl, q⟩
/-- name = [..] on one line, the name a local -/
theorem ps_setLc {i : Nat} {y : Str} {py : Pos} {elt tg iter : Expr} {ifs : List Expr} {scope : Scope} {own : List (Str × Nat)} {pos spos : Pos} {wi : TI} {g : TG} {tt : TT} {te : TE} (hc : X.calm = true) (hN : X.N.Nodup) (hy : X.N[i]? = some y) (hyl : X.env.scope.names.lookup y = some .local)
    (hsw : swapsWith (.ListComp elt [⟨tg, iter, ifs, 0⟩] scope pos) (some (.Name y py)) spos.line X.env = pure true) (hi : PI X tg iter wi) (ok : BlkOk X.N X.env.scope scope own)
    (hg : ∀ (s : Shared) (H : Hp) (C : Addr) (cl : List (Str × Addr)) (fp : List Addr), PG (X.blk s H scope (compEnvC scope cl C X.env) fp) tg g) (ht : ∀ (s : Shared) (H : Hp) (C : Addr) (cl : List (Str × Addr)) (fp : List Addr), PTs (X.blk s H scope (compEnvC scope cl C X.env) fp) ifs tt)
    (he : ∀ (s : Shared) (H : Hp) (C : Addr) (cl : List (Str × Addr)) (fp : List Addr), PE (X.blk s H scope (compEnvC scope cl C X.env) fp) elt te) (hs : ∀ x, foldedSetIterable iter X.env x = pure x := by intro _; rfl) :
    PS X (.Assign [.Name y py] (.ListComp elt [⟨tg, iter, ifs, 0⟩] scope pos) spos) (tAsg (tLc wi g tt te (own.map (·.2))) (gName i)) := by
  intro pins s σ H D I h
  rw [exec_Assign_Name_used _ _ _ _ hsw]
  refine wpAny_bind (wpAny_standAt (wpAny_bind ?_))
  show wpAny _ X.A (do let _ ← comprehension (.ListComp elt [⟨tg, iter, ifs, 0⟩] scope pos) scope X.env (firstIterPos [⟨tg, iter, ifs, 0⟩] pos) (newList []) false (eval iter X.env) (some (assign (.Name y py) X.env))) _ _ s
  have h : tLc wi g tt te (own.map (·.2)) σ H (fun x H1 => gName i x σ H1 D.nx) := h
  refine wpAny_bind (thn (lc_core (Qf := fun _ s' => SP X pins D .next s') hc hN I hi ok hg ht he hs h fun L C s' m H' I' q hn f => ?_) fun _ s' hq => wpAny_pure (wpAny_pure hq))
  show wpAny _ _ (assign (.Name y py) X.env (.ref L)) _ _ _
  refine wpAny_assign_Name (store_ok2 (v := V.ref L) I' hN hy (.inl hyl) rfl (fun s2 I2 ⟨a, sb, ha⟩ => ?_) (.inr hyl))
  obtain ⟨f0, f1, f2, f3, f4, f5⟩ := f
  have haC : C ≠ a := by
    rcases ha with z | z
    · rw [z]; exact f1
    · exact fun e => f4 y a z e.symm
  refine ⟨m, hn.sameBut sb haC, fun h3 sb3 => ?_⟩
  exact ⟨_, H', I2.turned (t' := s2.toks) (fun b o hb e => (sb3.2 b hb).trans e) f0 f1 f3 f4 f5, q⟩
theorem sw_true {elt : Expr} {gs : List Comprehension} {scope : Scope} {pos py : Pos} {y : Str} {l : Nat} {env : Env} (hk : env.scope.kind = .function) (hy : env.scope.names.lookup y = some .local) (hl : (py.line == pos.line) = true)
    (ha : (scope.names.any fun (n, k) => n == y && (k == .local || k == .cell)) = false) : swapsWith (.ListComp elt gs scope pos) (some (.Name y py)) l env = pure true := by
  have ky : env.kindOf y = some .local := hy
  have hb : env.blockKind = .function := by unfold Env.blockKind; rw [hk]; rfl
  unfold swapsWith
  simp only [hb, ky, ha, Expr.pos, hl]
  rfl
end

/-! ### the forms one uses -/
/-- over a range: Pv by the turn and the heap (the new list at D within) -/
theorem lc_range {lo : Int} {n : Nat} {g : TG} {tt : TT} {te : TE} {vs : List Nat} {σ : St} {H1 : Hp} {D : Addr} {Qd : Hp → Prop} (Pv : Nat → Hp → Prop) (h0 : Pv 0 (upd H1 D (.lst [])))
    (hs : ∀ i H, i < n → Pv i H → g (.int (lo + i)) (wipe σ vs) H fun σ2 H2 => wipe σ2 vs = wipe σ vs ∧ tt σ2 H2 fun b H3 =>
      if b = true then te σ2 H3 fun y H4 => ∃ acc, H4 D = some (.lst acc) ∧ acc.length < sizeLine ∧ Pv (i + 1) (upd H4 D (.lst (acc ++ [y]))) else Pv (i + 1) H3) (hd : ∀ H, Pv n H → Qd H) :
    ∃ W : Nat → Nat → Hp → Prop, (∃ m, W 0 m (upd H1 D (.lst []))) ∧ ∀ i m H, W i m H →
      ((Itr lo n).stop i H ∧ Qd H) ∨ ((Itr lo n).go i H ∧ ∃ Nx : Hp → Prop, (∀ H', Nx H' → ∃ m', m' < m ∧ W (i + 1) m' H') ∧ ∀ x H', (Itr lo n).yld i H x H' → g x (wipe σ vs) H' fun σ2 H2 => wipe σ2 vs = wipe σ vs ∧ tt σ2 H2 fun b H3 =>
        if b = true then te σ2 H3 fun y H4 => ∃ acc, H4 D = some (.lst acc) ∧ acc.length < sizeLine ∧ Nx (upd H4 D (.lst (acc ++ [y]))) else Nx H3) := by
  refine ⟨fun i m H => m = n - i ∧ i ≤ n ∧ Pv i H, ⟨n, by simp, Nat.zero_le _, h0⟩, ?_⟩
  rintro i m H ⟨rfl, hi, p⟩
  by_cases hlt : i < n
  · refine .inr ⟨hlt, Pv (i + 1), fun H' p' => ⟨n - (i + 1), by omega, rfl, hlt, p'⟩, fun x H' y => ?_⟩
    obtain ⟨e, y⟩ := y
    subst e y
    exact hs i _ hlt p
  · have e : i = n := by omega
    subst e
    exact .inl ⟨Nat.le_refl _, hd H p⟩
/-- over a list that the block leaves as it is -/
theorem lc_list {K : PySem.W.Frag} {a : Addr} {xs : List V} {g : TG} {tt : TT} {te : TE} {vs : List Nat} {σ : St} {H1 : Hp} {D : Addr} {Qd : Hp → Prop} (Pv : Nat → Hp → Prop) (h0 : Pv 0 (upd H1 D (.lst []))) (hl : ∀ i H, i ≤ xs.length → Pv i H → SqL K H a xs)
    (hs : ∀ i x H, xs[i]? = some x → Pv i H → g x (wipe σ vs) H fun σ2 H2 => wipe σ2 vs = wipe σ vs ∧ tt σ2 H2 fun b H3 =>
      if b = true then te σ2 H3 fun y H4 => ∃ acc, H4 D = some (.lst acc) ∧ acc.length < sizeLine ∧ Pv (i + 1) (upd H4 D (.lst (acc ++ [y]))) else Pv (i + 1) H3) (hd : ∀ H, Pv xs.length H → Qd H) :
    ∃ W : Nat → Nat → Hp → Prop, (∃ m, W 0 m (upd H1 D (.lst []))) ∧ ∀ i m H, W i m H →
      ((Itl K a).stop i H ∧ Qd H) ∨ ((Itl K a).go i H ∧ ∃ Nx : Hp → Prop, (∀ H', Nx H' → ∃ m', m' < m ∧ W (i + 1) m' H') ∧ ∀ x H', (Itl K a).yld i H x H' → g x (wipe σ vs) H' fun σ2 H2 => wipe σ2 vs = wipe σ vs ∧ tt σ2 H2 fun b H3 =>
        if b = true then te σ2 H3 fun y H4 => ∃ acc, H4 D = some (.lst acc) ∧ acc.length < sizeLine ∧ Nx (upd H4 D (.lst (acc ++ [y]))) else Nx H3) := by
  refine ⟨fun i m H => m = xs.length - i ∧ i ≤ xs.length ∧ Pv i H, ⟨xs.length, by simp, Nat.zero_le _, h0⟩, ?_⟩
  rintro i m H ⟨rfl, hi, p⟩
  have q := hl i H hi p
  by_cases hlt : i < xs.length
  · refine .inr ⟨⟨xs, xs[i], q, by simp [hlt]⟩, Pv (i + 1), fun H' p' => ⟨xs.length - (i + 1), by omega, rfl, hlt, p'⟩, fun x H' y => ?_⟩
    obtain ⟨e, y⟩ := y
    subst e
    exact hs i x _ (y xs q) p
  · have e : i = xs.length := by omega
    subst e
    exact .inl ⟨⟨xs, q, Nat.le_refl _⟩, hd H p⟩
/-- over a tuple -/
theorem lc_tup {K : PySem.W.Frag} {a : Addr} {xs : List V} {g : TG} {tt : TT} {te : TE} {vs : List Nat} {σ : St} {H1 : Hp} {D : Addr} {Qd : Hp → Prop} (Pv : Nat → Hp → Prop) (h0 : Pv 0 (upd H1 D (.lst []))) (hl : ∀ i H, i ≤ xs.length → Pv i H → SqT K H a xs)
    (hs : ∀ i x H, xs[i]? = some x → Pv i H → g x (wipe σ vs) H fun σ2 H2 => wipe σ2 vs = wipe σ vs ∧ tt σ2 H2 fun b H3 =>
      if b = true then te σ2 H3 fun y H4 => ∃ acc, H4 D = some (.lst acc) ∧ acc.length < sizeLine ∧ Pv (i + 1) (upd H4 D (.lst (acc ++ [y]))) else Pv (i + 1) H3) (hd : ∀ H, Pv xs.length H → Qd H) :
    ∃ W : Nat → Nat → Hp → Prop, (∃ m, W 0 m (upd H1 D (.lst []))) ∧ ∀ i m H, W i m H →
      ((Itt K a).stop i H ∧ Qd H) ∨ ((Itt K a).go i H ∧ ∃ Nx : Hp → Prop, (∀ H', Nx H' → ∃ m', m' < m ∧ W (i + 1) m' H') ∧ ∀ x H', (Itt K a).yld i H x H' → g x (wipe σ vs) H' fun σ2 H2 => wipe σ2 vs = wipe σ vs ∧ tt σ2 H2 fun b H3 =>
        if b = true then te σ2 H3 fun y H4 => ∃ acc, H4 D = some (.lst acc) ∧ acc.length < sizeLine ∧ Nx (upd H4 D (.lst (acc ++ [y]))) else Nx H3) := by
  refine ⟨fun i m H => m = xs.length - i ∧ i ≤ xs.length ∧ Pv i H, ⟨xs.length, by simp, Nat.zero_le _, h0⟩, ?_⟩
  rintro i m H ⟨rfl, hi, p⟩
  have q := hl i H hi p
  by_cases hlt : i < xs.length
  · refine .inr ⟨⟨xs, xs[i], q, by simp [hlt]⟩, Pv (i + 1), fun H' p' => ⟨xs.length - (i + 1), by omega, rfl, hlt, p'⟩, fun x H' y => ?_⟩
    obtain ⟨e, y⟩ := y
    subst e
    exact hs i x _ (y xs q) p
  · have e : i = xs.length := by omega
    subst e
    exact .inl ⟨⟨xs, q, Nat.le_refl _⟩, hd H p⟩
def blkC (N : List Str) (sc scope : Scope) (own : List (Str × Nat)) : Bool :=
  (match scope.kind with | .function => true | _ => false) && (scope.names.all fun y => decide (scope.names.lookup y.1 = some y.2)) && (own.all fun p => decide (N[p.2]? = some p.1)) &&
    (scope.names.all fun y => match y.2 with
      | .free => (match sc.names.lookup y.1 with | some .cell => true | some .free => true | _ => false)
      | .local => decide (y.1 ∈ own.map (·.1)) || decide (y.1 ∉ N)
      | .cell => decide (y.1 ∈ own.map (·.1)) || decide (y.1 ∉ N)
      | _ => true)
theorem blkOk_by {N : List Str} {sc scope : Scope} {own : List (Str × Nat)} (h : blkC N sc scope own = true) : BlkOk N sc scope own := by
  unfold blkC at h
  simp only [Bool.and_eq_true, List.all_eq_true, decide_eq_true_eq] at h
  obtain ⟨⟨⟨h1, h2⟩, h3⟩, h4⟩ := h
  refine ⟨?_, h2, h3, fun y hy e => ?_, fun y hy e => ?_⟩
  · split at h1
    · assumption
    · cases h1
  · have q := h4 y hy
    simp only [e] at q
    split at q <;> first | exact .inl (by assumption) | exact .inr (by assumption) | cases q
  · have q := h4 y hy
    rcases e with e | e <;> (simp only [e, Bool.or_eq_true, decide_eq_true_eq] at q; exact q)
end L2

namespace L2
open PySem PySem.Spec PyProof.Rows

section
variable {prog : Program} {w : World} {A : Around} {R : Result → Shared → Prop} {s : Shared} {elt t0 i0 t1 i1 : Expr} {ifs0 ifs1 : List Expr} {scope : Scope} {pos : Pos} {it acc : Value} {env : Env}
end

section
variable {X : Cx}
end
end L2

namespace L2
open PySem PySem.Spec PyProof.Rows

/-! ### lists of pairs as tables -/
section
variable {κ : Type} [DecidableEq κ]
def valV (kvs : List (κ × V)) (k : κ) : Option V := (kvs.find? fun kv => decide (kv.1 = k)).map (·.2)
/-- in its place, or at the end -/
def putK (kvs : List (κ × V)) (k : κ) (v : V) : List (κ × V) :=
  if (kvs.any fun kv => decide (kv.1 = k)) = true then kvs.map (fun kv => if kv.1 = k then (kv.1, v) else kv) else kvs ++ [(k, v)]
def dropK (kvs : List (κ × V)) (k : κ) : List (κ × V) := kvs.filter fun kv => decide (kv.1 ≠ k)

theorem valV_pos {p : κ × V} {r : List (κ × V)} {k : κ} (e : p.1 = k) : valV (p :: r) k = some p.2 := by simp [valV, List.find?_cons, e]
theorem valV_neg {p : κ × V} {r : List (κ × V)} {k : κ} (e : ¬ p.1 = k) : valV (p :: r) k = valV r k := by simp [valV, List.find?_cons, e]
theorem valV_any (k : κ) : ∀ kvs : List (κ × V), (kvs.any fun kv => decide (kv.1 = k)) = (valV kvs k).isSome
  | [] => rfl
  | p :: r => by
    rw [List.any_cons]
    by_cases e : p.1 = k
    · simp only [valV_pos e, decide_eq_true e, Bool.true_or, Option.isSome_some]
    · rw [valV_neg e, decide_eq_false e, Bool.false_or]; exact valV_any k r
theorem valV_map (k j : κ) (y : V) : ∀ kvs : List (κ × V), valV (kvs.map fun kv => if kv.1 = k then (kv.1, y) else kv) j = (valV kvs j).map fun x => if j = k then y else x
  | [] => rfl
  | p :: r => by
    have ih := valV_map k j y r
    rw [List.map_cons]
    by_cases h : p.1 = k
    · rw [if_pos h]
      by_cases e : p.1 = j
      · rw [valV_pos (p := (p.1, y)) e, valV_pos e, Option.map_some, if_pos (e.symm.trans h)]
      · rw [valV_neg (p := (p.1, y)) e, valV_neg e, ih]
    · rw [if_neg h]
      by_cases e : p.1 = j
      · rw [valV_pos (p := p) e, valV_pos e, Option.map_some, if_neg (fun z => h (e.trans z))]
      · rw [valV_neg (p := p) e, valV_neg e, ih]
theorem valV_snoc (k j : κ) (y : V) : ∀ kvs : List (κ × V), valV kvs k = none → valV (kvs ++ [(k, y)]) j = if j = k then some y else valV kvs j
  | [], _ => by
    by_cases e : k = j
    · rw [if_pos e.symm]; exact valV_pos (p := (k, y)) e
    · rw [if_neg (fun z => e z.symm)]; exact valV_neg (p := (k, y)) e
  | p :: r, hn => by
    rw [List.cons_append]
    have hk : ¬ p.1 = k := fun z => by rw [valV_pos z] at hn; cases hn
    rw [valV_neg hk] at hn
    have ih := valV_snoc k j y r hn
    by_cases e : p.1 = j
    · rw [valV_pos e, valV_pos e, if_neg (fun z => hk (e.trans z))]
    · rw [valV_neg e, valV_neg e, ih]
theorem valV_put (kvs : List (κ × V)) (k j : κ) (y : V) : valV (putK kvs k y) j = if j = k then some y else valV kvs j := by
  unfold putK
  by_cases a : (kvs.any fun kv => decide (kv.1 = k)) = true
  · rw [if_pos a, valV_map]
    rw [valV_any] at a
    by_cases e : j = k
    · obtain ⟨x, hx⟩ := Option.isSome_iff_exists.mp a
      rw [if_pos e, e, hx, Option.map_some, if_pos rfl]
    · rw [if_neg e]
      cases valV kvs j with
      | none => rfl
      | some x => rw [Option.map_some, if_neg e]
  · rw [if_neg a]
    refine valV_snoc k j y kvs ?_
    rw [valV_any] at a
    cases q : valV kvs k with
    | none => rfl
    | some x => rw [q] at a; exact (a rfl).elim
theorem length_putK (kvs : List (κ × V)) (k : κ) (v : V) : (putK kvs k v).length ≤ kvs.length + 1 := by
  unfold putK
  split
  · rw [List.length_map]; omega
  · rw [List.length_append, List.length_cons, List.length_nil]; omega
theorem putK_new {kvs : List (κ × V)} {k : κ} (v : V) (h : valV kvs k = none) : putK kvs k v = kvs ++ [(k, v)] := by
  unfold putK
  rw [valV_any, h]
  exact if_neg (by decide)

theorem RelO.isSome_eq {o : Option V} {u : Option Value} (r : RelO o u) : o.isSome = u.isSome := by
  cases o with
  | none => cases u with
    | none => rfl
    | some _ => exact (show False from r).elim
  | some _ => cases u with
    | none => exact (show False from r).elim
    | some _ => rfl
theorem RelO.getD {o : Option V} {u : Option Value} {d : V} {d' : Value} (r : RelO o u) (rd : RelV d d') : RelV (o.getD d) (u.getD d') := by
  cases o with
  | none => cases u with
    | none => exact rd
    | some _ => exact (show False from r).elim
  | some _ => cases u with
    | none => exact (show False from r).elim
    | some _ => exact r

/-- raw tables of the same keys -/
theorem KV.val {kvs : List (κ × V)} {vs : List (κ × Value)} (r : KV kvs vs) (k : κ) : RelO (valV kvs k) (valueAt vs k) := by
  unfold KV at r
  induction r with
  | nil => exact True.intro
  | @cons p q ps qs h t ih =>
    obtain ⟨h1, h2⟩ := h
    by_cases e : p.1 = k
    · have e' : q.1 = k := h1.symm.trans e
      have b : valueAt (q :: qs) k = some q.2 := by simp [valueAt, List.find?_cons, e']
      rw [valV_pos e, b]; exact h2
    · have e' : ¬ q.1 = k := fun z => e (h1.trans z)
      have b : valueAt (q :: qs) k = valueAt qs k := by simp [valueAt, List.find?_cons, e']
      rw [valV_neg e, b]; exact ih
theorem KV.any {kvs : List (κ × V)} {vs : List (κ × Value)} (r : KV kvs vs) (k : κ) : (kvs.any fun kv => decide (kv.1 = k)) = vs.any fun kv => decide (kv.1 = k) := by
  unfold KV at r
  induction r with
  | nil => rfl
  | cons h t ih => rw [List.any_cons, List.any_cons, ih, h.1]
theorem KV.repl {kvs : List (κ × V)} {vs : List (κ × Value)} (r : KV kvs vs) (k : κ) {y : V} {u : Value} (ry : RelV y u) :
    KV (kvs.map fun kv => if kv.1 = k then (kv.1, y) else kv) (vs.map fun kv => if kv.1 = k then (kv.1, u) else kv) := by
  unfold KV at r ⊢
  induction r with
  | nil => exact .nil
  | @cons p q ps qs h t ih =>
    rw [List.map_cons, List.map_cons]
    refine .cons ?_ ih
    obtain ⟨h1, h2⟩ := h
    by_cases e : p.1 = k
    · rw [if_pos e, if_pos (h1.symm.trans e)]; exact ⟨h1, ry⟩
    · rw [if_neg e, if_neg (fun z => e (h1.trans z))]; exact ⟨h1, h2⟩
theorem KV.put {kvs : List (κ × V)} {vs : List (κ × Value)} (r : KV kvs vs) (k : κ) {y : V} {u : Value} (ry : RelV y u) : KV (putK kvs k y) (stored vs k u) := by
  unfold putK stored
  rw [r.any k]
  by_cases e : (vs.any fun kv => decide (kv.1 = k)) = true
  · rw [if_pos e, if_pos e]; exact r.repl k ry
  · rw [if_neg e, if_neg e]; exact Paired.snoc r ⟨rfl, ry⟩
theorem KV.drop {kvs : List (κ × V)} {vs : List (κ × Value)} (r : KV kvs vs) (k : κ) : KV (dropK kvs k) (without vs k) := by
  unfold KV at r ⊢
  unfold dropK without
  induction r with
  | nil => exact .nil
  | @cons p q ps qs h t ih =>
    obtain ⟨h1, h2⟩ := h
    rw [List.filter_cons, List.filter_cons]
    by_cases e : p.1 = k
    · have a : ¬ decide (p.1 ≠ k) = true := by simp [e]
      have b : ¬ decide (q.1 ≠ k) = true := by simp [h1.symm.trans e]
      rw [if_neg a, if_neg b]; exact ih
    · have e' : ¬ q.1 = k := fun z => e (h1.trans z)
      have a : decide (p.1 ≠ k) = true := by simp [e]
      have b : decide (q.1 ≠ k) = true := by simp [e']
      rw [if_pos a, if_pos b]; exact .cons ⟨h1, h2⟩ ih
theorem KV.keys {kvs : List (κ × V)} {vs : List (κ × Value)} (r : KV kvs vs) : kvs.map (·.1) = vs.map (·.1) := by
  unfold KV at r
  induction r with
  | nil => rfl
  | cons h t ih => rw [List.map_cons, List.map_cons, ih, h.1]
theorem KV.length {kvs : List (κ × V)} {vs : List (κ × Value)} (r : KV kvs vs) : kvs.length = vs.length := Paired.length r
end


/-! ### a tracked dict, its keys ints and texts or tuples of these -/
theorem kV_is {P : Program} {w : World} {k : Key} {u : Value} (r : RelV (kV k) u) : (mixKind P w).is k u = true := by
  cases k with
  | inl i => obtain ⟨t, e⟩ := (show ∃ t, u = Value.int i t from r); subst e; exact mixKind_int P w i t
  | inr x => obtain ⟨t, e⟩ := (show ∃ t, u = Value.str x t from r); subst e; exact mixKind_str P w x t
theorem items_are {P : Program} {w : World} : ∀ {ks : List Key} {us : List Value}, Vals (ks.map kV) us → ItemsAre (mixKind P w) ks us
  | [], _, r => by rw [List.map_nil] at r; cases r; exact .nil
  | k :: ks, _, r => by
    rw [List.map_cons] at r
    cases r with
    | cons h t => exact .cons (kV_is h) (items_are t)

/-- raw entries of a dict with tuple keys -/
abbrev KT (H : Hp) : List (List Key × V) → List (List Key × Addr × Value) → Prop := Paired fun p q => p.1 = q.1 ∧ H q.2.1 = some (.tup (p.1.map kV)) ∧ RelV p.2 q.2.2
theorem KT.val {H : Hp} {kvs : List (List Key × V)} {xs : List (List Key × Addr × Value)} (r : KT H kvs xs) (k : List Key) : RelO (valV kvs k) ((atKey xs k).map (·.2)) := by
  induction r with
  | nil => exact True.intro
  | @cons p q ps qs h t ih =>
    obtain ⟨h1, _, h2⟩ := h
    by_cases e : p.1 = k
    · have e' : q.1 = k := h1.symm.trans e
      have b : atKey (q :: qs) k = some q.2 := by simp [atKey, List.find?_cons, e']
      rw [valV_pos e, b]; exact h2
    · have e' : ¬ q.1 = k := fun z => e (h1.trans z)
      have b : atKey (q :: qs) k = atKey qs k := by simp [atKey, List.find?_cons, e']
      rw [valV_neg e, b]; exact ih
theorem KT.repl {H : Hp} {kvs : List (List Key × V)} {xs : List (List Key × Addr × Value)} (r : KT H kvs xs) (k : List Key) {y : V} {u : Value} (ry : RelV y u) :
    KT H (kvs.map fun kv => if kv.1 = k then (kv.1, y) else kv) (xs.map (putAt k u)) := by
  induction r with
  | nil => exact .nil
  | @cons p q ps qs h t ih =>
    rw [List.map_cons, List.map_cons]
    refine .cons ?_ ih
    obtain ⟨h1, h2, h3⟩ := h
    unfold putAt
    by_cases e : p.1 = k
    · rw [if_pos e, if_pos (h1.symm.trans e)]; exact ⟨h1, h2, ry⟩
    · rw [if_neg e, if_neg (fun z => e (h1.trans z))]; exact ⟨h1, h2, h3⟩
theorem KT.put {H : Hp} {kvs : List (List Key × V)} {xs : List (List Key × Addr × Value)} (r : KT H kvs xs) (k : List Key) {b : Addr} {y : V} {u : Value} (hb : H b = some (.tup (k.map kV))) (ry : RelV y u) :
    KT H (putK kvs k y) (storedH xs k b u) := by
  have e : (kvs.any fun kv => decide (kv.1 = k)) = (atKey xs k).isSome := by
    rw [valV_any, (r.val k).isSome_eq, Option.isSome_map]
  unfold putK storedH
  rw [e]
  by_cases q : (atKey xs k).isSome = true
  · rw [if_pos q, if_pos q]; exact r.repl k ry
  · rw [if_neg q, if_neg q]; exact Paired.snoc r ⟨rfl, hb, ry⟩
theorem KT.keeps {H H' : Hp} {kvs : List (List Key × V)} {xs : List (List Key × Addr × Value)} (r : KT H kvs xs) (ht : ∀ b ys, H b = some (.tup ys) → H' b = some (.tup ys)) : KT H' kvs xs :=
  Paired.mapP r fun _ _ z => ⟨z.1, ht _ _ z.2.1, z.2.2⟩

section
variable {P : Program} {w : World} {H : Hp} {h : Heap} {a : Addr}
theorem rd_of {u : HO} (ok : HOk P w H h) (e : Rd H a u) : ObjOk P w H h a u := e.ok ok
theorem dk_rd {kvs : List (Key × V)} (ok : HOk P w H h) (e : Rd H a (.dK kvs)) : kvs.length ≤ sizeLine ∧ (a == sysModules) = false ∧ ∃ vs, KV kvs vs ∧ h.DictOf (mixKind P w) a vs :=
  show ObjOk P w H h a (.dK kvs) from rd_of ok e
theorem dk_of {kvs : List (Key × V)} (ok : HOk P w H h) (e : H a = some (.dK kvs)) : kvs.length ≤ sizeLine ∧ (a == sysModules) = false ∧ ∃ vs, KV kvs vs ∧ h.DictOf (mixKind P w) a vs := dk_rd ok (.inl e)
/-- a tracked tuple of ints and texts is a key -/
theorem key_of {ks : List Key} (ok : HOk P w H h) (e : H a = some (.tup (ks.map kV))) : (tupleKind (mixKind P w)).is h ks a := by
  obtain ⟨_, its, r, o, h1, h2, n, h3, _⟩ := (show ObjOk P w H h a (.tup (ks.map kV)) from ok a _ e)
  exact ⟨o, its.toArray, n, h1, h2, h3, by simpa using items_are r⟩
theorem dt_rd {kvs : List (List Key × V)} (ok : HOk P w H h) (e : Rd H a (.dT kvs)) : kvs.length ≤ sizeLine ∧ (a == sysModules) = false ∧
    ∃ xs, KT H kvs xs ∧ h.DictOfH (tupleKind (mixKind P w)) a xs := by
  obtain ⟨z, y, xs, r, o, es, ep, h1, h2, h3, h4, h5⟩ := (show ObjOk P w H h a (.dT kvs) from rd_of ok e)
  refine ⟨z, y, xs, r, o, es, ep, h1, h2, h3, h4, fun x hx => ?_, h5⟩
  have all : ∀ {l : List (List Key × V)} {m : List (List Key × Addr × Value)}, KT H l m → ∀ x ∈ m, (tupleKind (mixKind P w)).is h x.1 x.2.1 := by
    intro l m q
    induction q with
    | nil => intro x hx; exact nomatch hx
    | @cons p q ps qs hq t ih =>
      intro x hx
      rcases List.mem_cons.mp hx with e | hx
      · subst e
        exact key_of ok (by rw [← hq.1]; exact hq.2.1)
      · exact ih x hx
  exact all r x hx
theorem dt_of {kvs : List (List Key × V)} (ok : HOk P w H h) (e : H a = some (.dT kvs)) : kvs.length ≤ sizeLine ∧ (a == sysModules) = false ∧
    ∃ xs, KT H kvs xs ∧ h.DictOfH (tupleKind (mixKind P w)) a xs := dt_rd ok (.inl e)
end

/-- what the dict at a holds at the key y -/
def DGet (H : Hp) (a : Addr) (y : V) (r : Option V) : Prop :=
  (∃ kvs k, Rd H a (.dK kvs) ∧ y = kV k ∧ r = valV kvs k) ∨ ∃ kvs k b, Rd H a (.dT kvs) ∧ y = .ref b ∧ H b = some (.tup (k.map kV)) ∧ r = valV kvs k
/-- the heap behind a[y] = v -/
def DPut (H : Hp) (a : Addr) (y v : V) (H' : Hp) : Prop :=
  (∃ kvs k, H a = some (.dK kvs) ∧ y = kV k ∧ kvs.length < sizeLine ∧ H' = upd H a (.dK (putK kvs k v))) ∨
  ∃ kvs k b, H a = some (.dT kvs) ∧ y = .ref b ∧ H b = some (.tup (k.map kV)) ∧ kvs.length < sizeLine ∧ H' = upd H a (.dT (putK kvs k v))
theorem DGet.k {H : Hp} {a : Addr} {kvs : List (Key × V)} {k : Key} (e : H a = some (.dK kvs)) : DGet H a (kV k) (valV kvs k) := .inl ⟨kvs, k, .inl e, rfl, rfl⟩
theorem DGet.t {H : Hp} {a b : Addr} {kvs : List (List Key × V)} {k : List Key} (e : H a = some (.dT kvs)) (eb : H b = some (.tup (k.map kV))) : DGet H a (.ref b) (valV kvs k) := .inr ⟨kvs, k, b, .inl e, rfl, eb, rfl⟩
theorem DPut.k {H : Hp} {a : Addr} {kvs : List (Key × V)} {k : Key} {v : V} (e : H a = some (.dK kvs)) (hl : kvs.length < sizeLine) : DPut H a (kV k) v (upd H a (.dK (putK kvs k v))) := .inl ⟨kvs, k, e, rfl, hl, rfl⟩
theorem DPut.t {H : Hp} {a b : Addr} {kvs : List (List Key × V)} {k : List Key} {v : V} (e : H a = some (.dT kvs)) (eb : H b = some (.tup (k.map kV))) (hl : kvs.length < sizeLine) :
    DPut H a (.ref b) v (upd H a (.dT (putK kvs k v))) := .inr ⟨kvs, k, b, e, rfl, eb, hl, rfl⟩


section
variable {X : Cx} {pins : List (Addr × Obj)} {σ : St} {H : Hp} {s : Shared} {a : Addr} {y v : V} {u r : Value} {o : Option V} {A : Around} {E : Value → Shared → Prop}

theorem Inv.big (I : Inv X pins σ H s) : sysModules < s.heap.objs.size := by
  have h : mainGlobals < s.heap.objs.size := (I.mod.glob.keeps I.bk).lt
  exact Nat.lt_trans (by decide) h

/-- d[y], there -/
theorem d_getItem {Q : Value → Shared → Prop} (hu : A.units + 1 < cLine) (I : Inv X pins σ H s) (g : DGet H a y (some v)) (ry : RelV y u) (h : ∀ w' s', Inv X pins σ H s' → RelV v w' → Q w' s') :
    wpAny (model X.prog X.w) A (getItem (.ref a) u) Q E s := by
  rcases g with ⟨kvs, k, e, ey, l⟩ | ⟨kvs, k, b, e, ey, eb, l⟩
  · subst ey
    obtain ⟨z, hd, vs, rel, dd⟩ := dk_rd I.hok e
    obtain ⟨w', hw, rw'⟩ := RelO.some_of (v := v) (o := valueAt vs k) (by rw [l]; exact rel.val k)
    exact wpAny_getItem_of (kV_is ry) dd.mapOf hw (h w' _ (I.tok _) rw')
  · subst ey
    cases (show u = Value.ref b from ry)
    obtain ⟨z, hd, xs, rel, dd⟩ := dt_rd I.hok e
    obtain ⟨w', hw, rw'⟩ := RelO.some_of (v := v) (o := (atKey xs k).map (·.2)) (by rw [l]; exact rel.val k)
    obtain ⟨p, hp, hp2⟩ := Option.map_eq_some_iff.mp hw
    refine wpAny_getItem_heap (tupleKind_room_in1 hu) (key_of I.hok eb) dd hp ?_
    rw [hp2]
    exact h w' _ (I.tok _) rw'
theorem d_notIn {Q : Value → Shared → Prop} (hu : A.units + 1 < cLine) (I : Inv X pins σ H s) (g : DGet H a y o) (ry : RelV y u) (h : ∀ s', Inv X pins σ H s' → Q (.bool (!o.isSome)) s') :
    wpAny (model X.prog X.w) A (compareOp .NotIn u (.ref a)) Q E s := by
  rcases g with ⟨kvs, k, e, ey, l⟩ | ⟨kvs, k, b, e, ey, eb, l⟩
  · subst ey
    obtain ⟨z, hd, vs, rel, dd⟩ := dk_rd I.hok e
    refine wpAny_notIn_of (kV_is ry) hd dd.mapOf ?_
    rw [← (rel.val k).isSome_eq, ← l]
    exact h _ (I.tok _)
  · subst ey
    cases (show u = Value.ref b from ry)
    obtain ⟨z, hd, xs, rel, dd⟩ := dt_rd I.hok e
    refine wpAny_notIn_heap (tupleKind_room_in1 hu) (key_of I.hok eb) hd dd ?_
    have q := (rel.val k).isSome_eq
    rw [Option.isSome_map] at q
    rw [← q, ← l]
    exact h _ (I.tok _)
/-- a dict's object is replaced -/
theorem d_write {h' : Heap} {t' : Nat} {ob : HO} (I : Inv X pins σ H s) (mu : Mut (H a)) (hs : Heap.SameBut a s.heap h') (he : ∃ q, h'.get? a = some q) (new : ObjOk X.prog X.w (upd H a ob) h' a ob) :
    Inv X pins σ (upd H a ob) { s with heap := h', toks := t' } :=
  I.write (x := a) (e := a) mu (.inl rfl) (fun b q hb z => (hs.2 b hb).trans z) he new
theorem dk_new {P : Program} {w : World} {H' : Hp} {h' : Heap} {kvs : List (Key × V)} {vs : List (Key × Value)} (z : kvs.length ≤ sizeLine) (hd : (a == sysModules) = false) (rel : KV kvs vs) (dd : h'.DictOf (mixKind P w) a vs) :
    ObjOk P w H' h' a (.dK kvs) := ⟨z, hd, vs, rel, dd⟩
/-- d[y] = v -/
theorem d_setItem {H' : Hp} {Q : Unit → Shared → Prop} (hu : A.units + 1 < cLine) (I : Inv X pins σ H s) (g : DPut H a y v H') (ry : RelV y u) (rv : RelV v r) (h : ∀ s', Inv X pins σ H' s' → Q () s') :
    wpAny (model X.prog X.w) A (setItem (.ref a) u r) Q E s := by
  rcases g with ⟨kvs, k, e, ey, l, eH⟩ | ⟨kvs, k, b, e, ey, eb, l, eH⟩
  · subst ey eH
    obtain ⟨z, hd, vs, rel, dd⟩ := dk_of I.hok e
    have hz : vs.length ≤ sizeLine := by rw [← rel.length]; exact z
    have hl : (putK kvs k v).length ≤ sizeLine := by have := length_putK kvs k v; omega
    refine wpAny_setItem_pairs (hsz := hz) (kV_is ry) dd fun h' dd' hs => h _ ?_
    have he : ∃ q, h'.get? a = some q := let ⟨q, _, _, hq, _⟩ := dd'; ⟨q, hq⟩
    exact d_write I (by rw [e]; exact True.intro) hs he (dk_new hl hd (rel.put k rv) dd')
  · subst ey eH
    cases (show u = Value.ref b from ry)
    obtain ⟨z, hd, xs, rel, dd⟩ := dt_of I.hok e
    have hz : xs.length ≤ sizeLine := by rw [← Paired.length rel]; exact z
    have hl : (putK kvs k v).length ≤ sizeLine := by have := length_putK kvs k v; omega
    refine wpAny_setItem_heap (hsz := hz) (tupleKind_room_in1 hu) (key_of I.hok eb) dd fun h' dd' hs => h _ ?_
    obtain ⟨q, es, ep, hq, h2, h3, h4, _, h5⟩ := dd'
    refine d_write I (by rw [e]; exact True.intro) hs ⟨q, hq⟩ ⟨hl, hd, _, (rel.put k eb rv).keeps fun c ys ec => ?_, q, es, ep, hq, h2, h3, h4, h5⟩
    rw [upd_ne (ne_of ec e (fun z => nomatch z))]
    exact ec
end

section
variable {X : Cx} {pins : List (Addr × Obj)} {σ : St} {H : Hp} {s : Shared} {a : Addr} {kvs : List (Key × V)} {k : Key} {u : Value} {A : Around} {E : Value → Shared → Prop}
end


/-! ### readings and rules -/
/-- the element of a subscription, not a slice -/
def NoSl (i : Expr) : Prop := ∀ ov iv, subscripted i false ov iv = operate [ov, iv] (getItem ov iv)
theorem subD_of {prog : Program} {w : World} {A : Around} {E : Value → Shared → Prop} {s : Shared} {env : Env} {value slice : Expr} {pos : Pos} {T id : String} {Q : Value → Shared → Prop}
    (hl : typeLookup (.type T) "__getitem__" = pure (some (.builtin id))) (hs : NoSl slice)
    (h : wpAny (model prog w) A (eval value env) (fun o s₁ => wpAny (model prog w) A (eval slice env) (fun i s₂ => s₂.TypeIs o T ∧ wpAny (model prog w) A (getItem o i) Q E s₂) E s₁) E s) :
    wpAny (model prog w) A (eval (.Subscript value slice pos) env) Q E s := by
  refine Subscript_ (wpAny_mono h (fun o s₁ h₁ => wpAny_mono h₁ (fun i s₂ h₂ => ?_) fun _ _ x => x) fun _ _ x => x)
  obtain ⟨hT, h₂⟩ := h₂
  unfold subscriptTail
  refine wpAny_bind ?_
  rw [getitemInPython_of_ne hT.not_modules]
  refine wpAny_bind (wpAny_specialOf hT hl ?_)
  have fin : wpAny (model prog w) A (subscripted slice false o i) (fun r s₃ => wpAny (model prog w) A (letTemporaryGo value o r >>= fun _ => pure r) Q E s₃) E s₂ := by
    rw [hs o i]
    exact wpAny_operating (wpAny_mono h₂ (fun r s₃ h₃ => wpAny_bind (wpAny_letTemporaryGo (wpAny_pure h₃))) fun _ _ x => x)
  first
    | exact wpAny_pure (wpAny_bind fin)
    | exact wpAny_bind (wpAny_pure (wpAny_bind fin))
    | exact wpAny_bind fin

theorem dict_typeIs {X : Cx} {pins : List (Addr × Obj)} {σ : St} {H : Hp} {s : Shared} {a : Addr} {y : V} {o : Option V} (I : Inv X pins σ H s) (g : DGet H a y o) : s.TypeIs (.ref a) "dict" := by
  rcases g with ⟨kvs, k, e, _, _⟩ | ⟨kvs, k, b, e, _, _, _⟩
  · obtain ⟨_, _, vs, _, dd⟩ := dk_rd I.hok e
    exact dd.typeIs
  · obtain ⟨_, _, xs, _, dd⟩ := dt_rd I.hok e
    exact dd.typeIs
/-- d[y] -/
@[reducible] def tDGet (td ty : TE) : TE := fun σ H Q => td σ H fun x H1 => ty σ H1 fun y H2 => ∃ a v, x = .ref a ∧ DGet H2 a y (some v) ∧ Q v H2
@[reducible] def tDNotIn (ty td : TE) : TE := fun σ H Q => ty σ H fun y H1 => td σ H1 fun x H2 => ∃ a o, x = .ref a ∧ DGet H2 a y o ∧ Q (.bl (!o.isSome)) H2
/-- d[y] = v -/
def sDPut (td ty tv : TE) : TS := fun D σ H => tv σ H fun v H1 => td σ H1 fun x H2 => ty σ H2 fun y H3 => ∃ a H4, x = .ref a ∧ DPut H3 a y v H4 ∧ D.nx σ H4
section
variable {X : Cx} {o i e value : Expr} {pos pos' tpos : Pos} {td ty tv : TE}
theorem pe_dget (hu : X.A.units + 1 < cLine) (ho : PE X o td) (hi : PE X i ty) (hs : NoSl i) : PE X (.Subscript o i pos) (tDGet td ty) := by
  intro pins s σ H Q I h
  refine subD_of PySem.F.slot_dict_getitem.lookup hs (thn (ho pins s σ H _ I h) fun u s1 ⟨x, H1, I1, rx, q1⟩ => thn (hi pins s1 σ H1 _ I1 q1) fun iv s2 ⟨y, H2, I2, ry, a, v, ex, g, q2⟩ => ?_)
  subst ex
  obtain rfl : u = Value.ref a := rx
  exact ⟨dict_typeIs I2 g, d_getItem hu I2 g ry fun w' s3 I3 rw' => ⟨v, H2, I3, rw', q2⟩⟩
theorem pc_dnotin (hu : X.A.units + 1 < cLine) (hi : PE X i ty) (ho : PE X o td) : PC X .NotIn i o (tDNotIn ty td) := by
  intro pins s σ H Q I h
  refine thn (hi pins s σ H _ I h) fun iv s1 ⟨y, H1, I1, ry, q1⟩ => thn (ho pins s1 σ H1 _ I1 q1) fun u s2 ⟨x, H2, I2, rx, a, ov, ex, g, q2⟩ => ?_
  subst ex
  obtain rfl : u = Value.ref a := rx
  exact d_notIn hu I2 g ry fun s3 I3 => ⟨.bl (!ov.isSome), H2, I3, rfl, q2⟩
theorem ps_dput (hu : X.A.units + 1 < cLine) (ho : PE X o td) (hi : PE X i ty) (hv : PE X value tv) (hs : swapsWith value (some (.Subscript o i pos')) pos.line X.env = pure false) :
    PS X (.Assign [.Subscript o i pos'] value pos) (sDPut td ty tv) := by
  intro pins s σ H D I h
  refine wpAny_Assign_Subscript (thn (hv pins s σ H _ I h) fun r s1 ⟨v, H1, I1, rv, q1⟩ => thn (ho pins s1 σ H1 _ I1 q1) fun u s2 ⟨x, H2, I2, rx, q2⟩ => thn (hi pins s2 σ H2 _ I2 q2) fun iv s3 ⟨y, H3, I3, ry, a, H4, ex, g, q3⟩ => ?_) hs
  subst ex
  obtain rfl : u = Value.ref a := rx
  exact d_setItem hu I3 g ry rv fun s4 I4 => ⟨σ, H4, I4, q3⟩
end


/-! ### displays -/
theorem dk_empty {P : Program} {w : World} {H : Hp} (h : Heap) (hb : sysModules < h.objs.size) : ObjOk P w H (h.push { cls := .type "dict", data := .dict #[] }) h.objs.size (.dK []) :=
  ⟨Nat.zero_le _, beq_eq_false_iff_ne.mpr (Ne.symm (Nat.ne_of_lt hb)), [], .nil, Heap.DictOf.new h⟩
theorem dt_empty {P : Program} {w : World} {H : Hp} (h : Heap) (hb : sysModules < h.objs.size) : ObjOk P w H (h.push { cls := .type "dict", data := .dict #[] }) h.objs.size (.dT []) :=
  ⟨Nat.zero_le _, beq_eq_false_iff_ne.mpr (Ne.symm (Nat.ne_of_lt hb)), [], .nil, _, #[], 0, Heap.get?_push_size _ rfl, ⟨rfl, rfl, rfl⟩, rfl, rfl, List.nodup_nil⟩
@[reducible] def tDNewT : TE := fun _ H Q => ∀ p, H p = none → Q (.ref p) (upd H p (.dT []))
section
variable {X : Cx} {pos : Pos}
theorem pe_dnewT : PE X (.Dict [] [] pos) tDNewT := fun pins s σ H Q I h =>
  wpAny_Dict_empty ⟨.ref s.heap.objs.size, _, I.laid (a := s.heap.objs.size) (o := .dT []) (t' := s.toks) (fun _ _ q => Heap.get?_push_of_some _ q) (Nat.le_refl _) (dt_empty s.heap I.big), rfl, h _ (I.hok.fresh (Nat.le_refl _))⟩
end

/-! ### methods -/
section
variable {X : Cx} {pins : List (Addr × Obj)} {σ : St} {H : Hp} {s : Shared} {a : Addr} {y d : V} {u r : Value} {o : Option V} {A : Around} {E : Value → Shared → Prop}
end

section
variable {X : Cx} {o e f : Expr} {apos cpos : Pos} {td ty tx : TE}
end

/-! ### dict(d): a copy -/
section
variable {X : Cx} {pins : List (Addr × Obj)} {σ : St} {H : Hp} {s : Shared} {a : Addr} {kvs : List (Key × V)} {A : Around} {E : Value → Shared → Prop}
end


section
variable {X : Cx} {pins : List (Addr × Obj)} {σ : St} {H : Hp} {s : Shared} {a : Addr} {y : V} {u : Value} {A : Around} {E : Value → Shared → Prop}
end
end L2

namespace L2
open PySem PySem.Spec PyProof.Rows

section
variable {prog : Program} {w : World} {A : Around} {E : Value → Shared → Prop}
end

section
variable {X : Cx}
end
end L2

namespace L2
open PySem PySem.Spec PyProof.Rows

section
variable {X : Cx} {pins : List (Addr × Obj)} {σ : St} {H : Hp} {s : Shared} {h' : Heap}
/-- .. and one new object is laid -/
theorem Inv.turnedNew {t' : Nat} {ch : List Addr} {T : Addr} {ob : HO} (I : Inv X pins σ H s) (k : ∀ b o, b ∉ ch → s.heap.get? b = some o → h'.get? b = some o) (hf : ∀ b ∈ ch, FpOk X pins H b) (hT : s.heap.objs.size ≤ T)
    (new : ObjOk X.prog X.w (upd H T ob) h' T ob) : Inv X pins σ (upd H T ob) { s with heap := h', toks := t' } := by
  have hn : H T = none := I.hok.fresh hT
  have nit : ∀ b u, H b = some u → b ∉ ch := fun b u e z => by
    have q := (hf b z).1
    rw [q] at e; cases e
  refine I.step (g' := s.gens) (d' := s.drawn) (ch := ch) (fun b hb => ⟨(hf b hb).2.2.2.1, (hf b hb).2.1, (hf b hb).2.2.2.2.1, (hf b hb).2.2.2.2.2⟩) (fun b o _ _ hc e _ => k b o hc e) (fun b o _ _ hc e _ => ⟨o.slots, k b o hc e⟩)
    (fun b o _ e n => ?_) (fun b o hc e => ⟨o, k b o hc e⟩) (fun b xs e => ?_) (fun b o u e => ?_) (fun b ps e => ⟨#[], ?_⟩) (fun m hm => ?_) (fun b u e => ?_) I.bare
  · rw [upd_ne (Nat.ne_of_lt (Nat.lt_of_lt_of_le (Heap.lt_size e) hT))]; exact n
  · rw [upd_ne (ne_of_none e hn)]; exact e
  · rw [upd_ne (ne_of_none e hn)]; exact e
  · rw [upd_ne (ne_of_none e hn), e]; simp
  · obtain ⟨o, es, ep, ho, r⟩ := hm
    exact ⟨o, es, ep, k _ o (fun z => (hf _ z).2.1 rfl) ho, r⟩
  · by_cases hb : b = T
    · subst hb
      rw [upd_same] at e
      cases e
      exact new
    · rw [upd_ne hb] at e
      refine (I.hok b u e).stay (fun c v hc q => k c v ?_ q) (fun c q => by rw [upd_ne (ne_of_none q hn)]; exact q) fun c xs q => by rw [upd_ne (ne_of_none q hn)]; exact q
      rcases hc with z | z
      · rw [z]; exact nit b u e
      · exact nit c _ z

/-! ### locking a thing while a statement runs -/
theorem Inv.lock {d : Addr} {u : HO} (I : Inv X pins σ H s) (h : H d = some u) (mu : Mut (some u)) : ∃ od, Inv X pins σ (upd H d (.frz od u)) s := by
  have x := I.hok d u h
  have ex : ∃ od, s.heap.get? d = some od := by
    cases u with
    | lst xs => obtain ⟨_, _, _, _, e⟩ := x; exact ⟨_, e⟩
    | dK kvs => obtain ⟨_, _, _, _, o, _, _, e, _⟩ := x; exact ⟨o, e⟩
    | dT kvs => obtain ⟨_, _, _, _, o, _, _, e, _⟩ := x; exact ⟨o, e⟩
    | set S n => obtain ⟨o, _, _, _, e, _⟩ := x; exact ⟨o, e⟩
    | ins C dx fs => obtain ⟨_, _, _, e, _⟩ := x; exact ⟨_, e⟩
    | ext φ => obtain ⟨_, ⟨_, e⟩, _⟩ := x; exact ⟨_, e⟩
    | _ => exact False.elim mu
  obtain ⟨od, e⟩ := ex
  have new : ObjOk X.prog X.w (upd H d (.frz od u)) s.heap d (.frz od u) := by
    refine ⟨e, x.stay (fun b v _ q => q) (fun b q => ?_) fun b xs q => ?_⟩
    · rw [upd_ne (fun z => by rw [z, h] at q; cases q; exact mu)]; exact q
    · rw [upd_ne (fun z => by rw [z, h] at q; cases q; exact mu)]; exact q
  exact ⟨od, I.write (x := d) (e := d) (t' := s.toks) (h' := s.heap) (by rw [h]; exact mu) (.inl rfl) (fun b v _ q => q) ⟨od, e⟩ new⟩
end
/-- the statement runs while the thing at d is locked (read, not written); d and what stands there are the reading's choice -/
@[reducible] def tLock (t : TS) : TS := fun D σ H => ∃ d u, H d = some u ∧ Mut (some u) ∧ ∀ od, t ⟨fun σ' H' => H' d = some (.frz od u) ∧ D.nx σ' (upd H' d u), fun v H' => H' d = some (.frz od u) ∧ D.rt v (upd H' d u), fun σ' H' => H' d = some (.frz od u) ∧ D.bk σ' (upd H' d u), fun σ' H' => H' d = some (.frz od u) ∧ D.ct σ' (upd H' d u)⟩ σ (upd H d (.frz od u))
section
variable {X : Cx}
/-! ### one iterator just laid -/
theorem pi_one {tg : Expr} {pins : List (Addr × Obj)} {σ : St} {H : Hp} {s : Shared} {R : It → Hp → Prop} {J : It} {tn : Nat → Heap → Prop} {tk : Nat} (I : Inv X pins σ H s) (o : Obj)
    (T : Turn X.prog X.w X.K tg J [s.heap.objs.size] s.heap.objs.size tn) (st : tn 0 (s.heap.push o)) (q : R J H) : PIE X pins σ tg R (.ref s.heap.objs.size) { s with heap := s.heap.push o, toks := tk } := by
  refine ⟨s.heap.objs.size, [s.heap.objs.size], tn, J, H, rfl, I.kept fun b ob e => Heap.get?_push_of_some _ e, T, st, fun b hb => ?_, q⟩
  have e : b = s.heap.objs.size := by simpa using hb
  subst e
  exact I.fpOk (Nat.le_refl _) (I.hok.fresh (Nat.le_refl _))
end

/-! ### range with a step -/
/-- range(i, j, c): small bounds, n items -/
def RgC (i j c : Int) (n : Nat) : Prop := c ≠ 0 ∧ c.natAbs < 1073741824 ∧ Builtin.Range.small i j c = true ∧ Builtin.Range.rangeSize i j c = n
theorem RgC.neg {i j : Int} (ha : -(2 ^ 62) ≤ i) (ha' : i < 2 ^ 62) (hb : -(2 ^ 62) ≤ j) (hb' : j < 2 ^ 62) : RgC i j (-1) (i - j).toNat :=
  ⟨by decide, by decide, PySem.W.small_down ha ha' hb hb', PySem.W.rangeSize_downNat i j⟩
section
variable {X : Cx} {tg : Expr}
end
/-! ### reversed(list) -/
section
variable {X : Cx} {tg : Expr}
end

/-! ### a str -/
/-! ### a dict's keys: any dict's entries -/
section
variable {prog : Program} {w : World} {A : Around} {E : Value → Shared → Prop} {s : Shared}
theorem iter_keys {d : Addr} {o : Obj} {es : Array DictEntry} {ep : Nat} {Q : Value → Shared → Prop} (hd : (d == sysModules) = false) (ho : s.heap.get? d = some o) (hc : o.ExactDict) (hdat : o.data = .dict es ep)
    (hQ : Q (.ref s.heap.objs.size) { s with heap := s.heap.push { cls := .type "dict_keyiterator", data := .fields #[.ref d, .int 0 0, .int es.size 0, .int ep 0] } }) :
    wpAny (model prog w) A (pyIter (.ref d)) Q E s := by
  have hT : s.TypeIs (.ref d) "dict" := ⟨o, ho, hc.1⟩
  refine wpAny_pyIter_slot hT F.slot_dict_iter (wpAny_call_entry F.slot_dict_iter hT F.entry_dict_iter ?_ (F.args_dict_iter_1 _))
  unfold Builtin.«dict.__iter__»
  refine wpAny_bind ?_
  unfold Builtin.Dict.dictSlotNone
  refine wpAny_bind (wpAny_notOrdered_dict hT ?_)
  show wpAny _ _ (pure (Value.ref d)) _ _ s
  refine wpAny_pure ?_
  show wpAny _ _ (Builtin.Dict.showsAll d >>= _) _ _ s
  unfold Builtin.Dict.showsAll
  rw [if_neg (by rw [hd]; exact Bool.false_ne_true)]
  refine wpAny_bind (wpAny_pure ?_)
  refine wpAny_bind (wpAny_dictEntries ho hdat ?_)
  refine wpAny_bind (wpAny_dictEpoch ho hdat ?_)
  refine wpAny_bind (wpAny_newObj_type (wpAny_pure ⟨_, rfl, "dict_keyiterator", _, ⟨_, Heap.get?_push_size _ rfl, rfl⟩, F.slot_dict_keyiterator_next.lookup, ?_⟩))
  simpa [rawInt] using hQ
theorem next_key_item {it d : Addr} {i n ep : Nat} {od : Obj} {es : Array DictEntry} {en : DictEntry} {Q : Option Value → Shared → Prop} (hit : s.heap.IsKeyIter it d i n ep) (hod : s.heap.get? d = some od) (hdd : od.data = .dict es ep)
    (hsz : es.size = n) (hx : es[i]? = some en) (hQ : ∀ h', h'.IsKeyIter it d (i + 1) n ep → Heap.SameBut it s.heap h' → Q (some en.key) { s with heap := h' }) : wpAny (model prog w) A (pyNext (.ref it)) Q E s := by
  obtain ⟨o, ho, hc, hd⟩ := id hit
  unfold pyNext
  refine wpAny_bind (wpAny_attempt (wpAny_callSpecial?_slot (name := Str.ofString "__next__") hit.typeIs F.slot_dict_keyiterator_next
    (wpAny_call_entry F.slot_dict_keyiterator_next hit.typeIs F.entry_dict_keyiterator_next ?_ (F.args_dict_keyiterator_next_1 _))))
  refine wpAny_bind (wpAny_pure ?_)
  refine wpAny_bind ?_
  refine wpAny_bind ?_
  first | refine wpAny_bind (wpAny_typeNameOfWhole_keyiter hit.typeIs (wpAny_pure ?_)) | refine wpAny_bind (wpAny_typeNameOf_keyiter hit.typeIs (wpAny_pure ?_))
  refine wpAny_bind (wpAny_fieldsOf ho hd ?_)
  have hown : Builtin.Dict_items.ownsTuple "dict_keyiterator" = false := by decide
  simp only [hown, Bool.false_eq_true, if_false]
  show wpAny _ _ (if (Value.ref d == Value.none) = true then _ else _) _ _ s
  rw [if_neg (show ¬ ((Value.ref d == Value.none) = true) from Bool.false_ne_true)]
  refine wpAny_bind (wpAny_pure ?_)
  refine wpAny_bind (wpAny_dictEntries hod hdd ?_)
  rw [if_neg (by rw [hsz]; simp)]
  refine wpAny_bind (wpAny_pure ?_)
  refine wpAny_bind (wpAny_dictEpoch hod hdd ?_)
  rw [if_neg (by simp)]
  refine wpAny_pure ?_
  obtain ⟨hlt', hen⟩ := Array.getElem?_eq_some_iff.mp hx
  simp only [show ¬ ((i : Int) < 0) from by omega, if_false, Int.toNat_natCast, Array.getElem?_eq_getElem hlt']
  refine wpAny_bind ?_
  first | refine wpAny_bind (wpAny_typeNameOfWhole_keyiter hit.typeIs (wpAny_pure ?_)) | refine wpAny_bind (wpAny_typeNameOf_keyiter hit.typeIs (wpAny_pure ?_))
  refine wpAny_bind (wpAny_isOneOf_keyiter hit.typeIs ?_)
  show wpAny _ _ (setField (.ref it) 1 (rawInt ((i : Int) + 1)) >>= _) _ _ s
  refine wpAny_bind (wpAny_setField ho hd (by simp) ?_)
  have hit' : (s.heap.update it (Obj.mapFields (·.setIfInBounds 1 (rawInt ((i : Int) + 1))))).IsKeyIter it d (i + 1) n ep :=
    ⟨_, Heap.get?_update_self _ ho (Obj.isFreed_of_fields (Obj.data_mapFields hd _)), (Obj.cls_mapFields ..).trans hc, by rw [Obj.data_mapFields hd]; simp [rawInt]⟩
  refine wpAny_bind (wpAny_holding ?_)
  refine wpAny_bind (wpAny_isOneOf_keyiter (s := { s with heap := s.heap.update it (Obj.mapFields (·.setIfInBounds 1 (rawInt ((i : Int) + 1)))) }) hit'.typeIs ?_)
  show wpAny _ _ (pure es[i].key) _ _ _
  rw [hen]
  exact wpAny_pure (wpAny_pure ⟨_, rfl, wpAny_pure (hQ _ hit' (Heap.SameBut.update ..))⟩)
theorem next_key_end {it d : Addr} {i n ep : Nat} {od : Obj} {es : Array DictEntry} {Q : Option Value → Shared → Prop} (hh : A.handled = none) (hit : s.heap.IsKeyIter it d i n ep) (hod : s.heap.get? d = some od) (hdd : od.data = .dict es ep)
    (hsz : es.size = n) (hge : n ≤ i) (hQ : ∀ h', Heap.ExtBut it s.heap h' → Q none { s with heap := h' }) : wpAny (model prog w) A (pyNext (.ref it)) Q E s := by
  obtain ⟨o, ho, hc, hd⟩ := id hit
  unfold pyNext
  refine wpAny_bind (wpAny_attempt (wpAny_callSpecial?_slot (name := Str.ofString "__next__") hit.typeIs F.slot_dict_keyiterator_next
    (wpAny_call_entry F.slot_dict_keyiterator_next hit.typeIs F.entry_dict_keyiterator_next ?_ (F.args_dict_keyiterator_next_1 _))))
  refine wpAny_bind (wpAny_pure ?_)
  refine wpAny_bind ?_
  refine wpAny_bind ?_
  first | refine wpAny_bind (wpAny_typeNameOfWhole_keyiter hit.typeIs (wpAny_pure ?_)) | refine wpAny_bind (wpAny_typeNameOf_keyiter hit.typeIs (wpAny_pure ?_))
  refine wpAny_bind (wpAny_fieldsOf ho hd ?_)
  have hown : Builtin.Dict_items.ownsTuple "dict_keyiterator" = false := by decide
  simp only [hown, Bool.false_eq_true, if_false]
  show wpAny _ _ (if (Value.ref d == Value.none) = true then _ else _) _ _ s
  rw [if_neg (show ¬ ((Value.ref d == Value.none) = true) from Bool.false_ne_true)]
  refine wpAny_bind (wpAny_pure ?_)
  refine wpAny_bind (wpAny_dictEntries hod hdd ?_)
  rw [if_neg (by rw [hsz]; simp)]
  refine wpAny_bind (wpAny_pure ?_)
  refine wpAny_bind (wpAny_dictEpoch hod hdd ?_)
  rw [if_neg (by simp)]
  refine wpAny_pure ?_
  have hge' : es.size ≤ i := by rw [hsz]; exact hge
  simp only [show ¬ ((i : Int) < 0) from by omega, if_false, Int.toNat_natCast, Array.getElem?_eq_none hge']
  refine wpAny_bind ?_
  first | refine wpAny_bind (wpAny_typeNameOfWhole_keyiter hit.typeIs (wpAny_pure ?_)) | refine wpAny_bind (wpAny_typeNameOf_keyiter hit.typeIs (wpAny_pure ?_))
  show wpAny _ _ (setField (.ref it) 0 .none >>= _) _ _ s
  refine wpAny_bind (wpAny_setField ho hd (by simp) ?_)
  show wpAny _ _ (newExc (.type "StopIteration") [] >>= _) _ _ _
  refine wpAny_bind ?_
  simp only [newExc, newTuple]
  refine wpAny_bind (wpAny_newObj_type ?_ (by size_fits))
  refine wpAny_bind (m := firstArgMember _ _) (wpAny_of_eq (a := Value.none) (by first | rfl | (simp only [firstArgMember]; rfl)) ?_)
  refine wpAny_newObj_type ?_ (by size_fits)
  simp only [raiseNew]
  refine wpAny_bind (wpAny_handled ?_)
  rw [show A.in1.handled = none from hh]
  refine wpAny_bind (wpAny_pure (wpAny_throw ?_))
  refine wpAny_bind (wpAny_isInstance (T := "StopIteration") (b := true) ⟨_, Heap.get?_push_size _ rfl, rfl⟩ isSubtype_stop ?_)
  exact wpAny_pure (hQ _ (((Heap.SameBut.update ..).extBut.push _).push _))
end

/-! ### a locked dict -/
theorem kv_get {κ : Type} {kvs : List (κ × V)} {vs : List (κ × Value)} (h : KV kvs vs) : ∀ {i : Nat} {k : κ} {v : V}, kvs[i]? = some (k, v) → ∃ u, vs[i]? = some (k, u) ∧ RelV v u := by
  unfold KV at h
  induction h with
  | nil => intro i k v e; simp at e
  | @cons a b l₁ l₂ r t ih =>
    intro i k v e
    cases i with
    | zero =>
      simp only [List.getElem?_cons_zero, Option.some.injEq] at e
      subst e
      refine ⟨b.2, ?_, r.2⟩
      simp only [List.getElem?_cons_zero]
      exact congrArg some (Prod.ext r.1.symm rfl)
    | succ j =>
      simp only [List.getElem?_cons_succ] at e ⊢
      exact ih e
theorem paired_get {α β : Type} {G : α → β → Prop} {l₁ : List α} {l₂ : List β} (h : Paired G l₁ l₂) : ∀ {i : Nat} {a : α}, l₁[i]? = some a → ∃ b, l₂[i]? = some b ∧ G a b := by
  induction h with
  | nil => intro i a e; simp at e
  | @cons a b l₁ l₂ r t ih =>
    intro i a' e
    cases i with
    | zero =>
      simp only [List.getElem?_cons_zero, Option.some.injEq] at e
      subst e
      exact ⟨b, rfl, r⟩
    | succ j =>
      simp only [List.getElem?_cons_succ] at e ⊢
      exact ih e
theorem relV_key {k : Key} {u : Value} (h : keyIs k u = true) : RelV (kV k) u := by
  rcases keyIs_shape h with ⟨i, t, rfl, rfl⟩ | ⟨x, t, rfl, rfl⟩
  · exact ⟨t, rfl⟩
  · exact ⟨t, rfl⟩
section
variable {X : Cx} {pins : List (Addr × Obj)} {σ : St} {H : Hp} {s : Shared} {d : Addr} {o : Obj}
theorem Inv.frzK {kvs : List (Key × V)} (I : Inv X pins σ H s) (h : H d = some (.frz o (.dK kvs))) :
    (d == sysModules) = false ∧ s.heap.get? d = some o ∧ o.ExactDict ∧ ∃ (es : Array DictEntry) (ep : Nat) (vs : List (Key × Value)), o.data = .dict es ep ∧ es.size = kvs.length ∧ KV kvs vs ∧ s.heap.DictAt (mixKind X.prog X.w) d vs ep := by
  obtain ⟨hd, z, hs, vs, kv, o', es, ep, ho, hx, hdt, r⟩ := I.hok d _ h
  rw [hd] at ho
  cases ho
  refine ⟨hs, hd, hx, es, ep, vs, hdt, ?_, kv, o, es, hd, hx, hdt, r⟩
  have l1 := r.2.1.length
  have l2 : kvs.length = vs.length := Paired.length kv
  rw [Array.length_toList] at l1
  omega
/-- the same for tuple keys -/
theorem Inv.frzT {kvs : List (List Key × V)} (I : Inv X pins σ H s) (h : H d = some (.frz o (.dT kvs))) :
    (d == sysModules) = false ∧ s.heap.get? d = some o ∧ o.ExactDict ∧ ∃ (es : Array DictEntry) (ep : Nat), o.data = .dict es ep ∧ es.size = kvs.length ∧
      ∀ (i : Nat) (k : List Key) (v : V), kvs[i]? = some (k, v) → ∃ (en : DictEntry) (q : Addr), es[i]? = some en ∧ en.key = .ref q ∧ H q = some (.tup (k.map kV)) := by
  obtain ⟨hd, z, hs, xs, pr, o', es, ep, ho, hx, hdt, he, _⟩ := I.hok d _ h
  rw [hd] at ho
  cases ho
  refine ⟨hs, hd, hx, es, ep, hdt, ?_, fun i k v e => ?_⟩
  · have l1 : es.size = xs.length := size_of_entries he
    have l2 : kvs.length = xs.length := Paired.length pr
    omega
  · obtain ⟨b, hb, e1, e2, _⟩ := paired_get pr e
    have q := entry_at he i
    rw [hb] at q
    exact ⟨_, b.2.1, q, rfl, e2⟩
end

/-- the keys of the locked dict at d, in their order -/
def Itk (d : Addr) (o : Obj) (kvs : List (Key × V)) : It :=
  ⟨fun i H => H d = some (.frz o (.dK kvs)) ∧ i < kvs.length, fun i H x H' => H' = H ∧ ∃ k v, kvs[i]? = some (k, v) ∧ x = kV k, fun i H => H d = some (.frz o (.dK kvs)) ∧ kvs.length ≤ i⟩
/-- .. of tuple keys: the key's own tuple -/
def Itkt (d : Addr) (o : Obj) (kvs : List (List Key × V)) : It :=
  ⟨fun i H => H d = some (.frz o (.dT kvs)) ∧ i < kvs.length, fun i H x H' => H' = H ∧ ∃ (k : List Key) (v : V) (q : Addr), kvs[i]? = some (k, v) ∧ x = .ref q ∧ H q = some (.tup (k.map kV)), fun i H => H d = some (.frz o (.dT kvs)) ∧ kvs.length ≤ i⟩
theorem dict_ep {o : Obj} {es es' : Array DictEntry} {ep ep' : Nat} (h : o.data = .dict es ep) (h' : o.data = .dict es' ep') : es' = es ∧ ep' = ep := by
  rw [h] at h'
  cases h'
  exact ⟨rfl, rfl⟩
section
variable {P : Program} {w : World} {K : PySem.W.Frag} {tg : Expr} {d : Addr} {o : Obj} {es : Array DictEntry} {ep : Nat}
theorem turn_keys {kvs : List (Key × V)} (it : Addr) (hod : o.data = .dict es ep) : Turn P w K tg (Itk d o kvs) [it] it (fun i h => h.IsKeyIter it d i kvs.length ep) where
  mem := by simp
  obj := fun i h st b hb => by
    have e : b = it := by simpa using hb
    subst e
    obtain ⟨oi, e, c, dd⟩ := st
    exact ⟨oi, e, fun v z => by rw [dd] at z; cases z⟩
  keep := fun i h h' st k => st.at fun oi e => k it (by simp) oi e
  item := by
    intro X hP hw hK hc i pins s σ H E I hf st hg
    subst hP hw hK
    obtain ⟨hd, hi⟩ := hg
    obtain ⟨f0, f1, f2, f3, f4, f5⟩ := hf it (by simp)
    obtain ⟨hs, hgd, hx, es', ep', vs, hdt, hsz, kv, hm⟩ := I.frzK hd
    obtain ⟨rfl, rfl⟩ := dict_ep hod hdt
    obtain ⟨⟨k, v⟩, hkv⟩ : ∃ p, kvs[i]? = some p := ⟨kvs[i], List.getElem?_eq_getElem hi⟩
    obtain ⟨u, hu, ru⟩ := kv_get kv hkv
    have hl : kvs.length = vs.length := Paired.length kv
    rw [hl] at st
    refine wpAny_pyNext_dict_item st hm hu fun key h' hkey st' sb => ?_
    have I1 : Inv X pins σ H { s with heap := h' } := I.turned (t' := s.toks) (fun b ob hb e => (sb.2 b hb).trans e) f0 f1 f3 f4 f5
    obtain ⟨oi, e, c, dd⟩ := id st'
    refine ⟨key, rfl, go_of (s := { s with heap := h' }) e c dd (by decide) ⟨kV k, H, I1, relV_key (show keyIs k key = true from hkey), ⟨rfl, k, v, hkv, rfl⟩, ?_, fun b hb => (hf b hb).1⟩⟩
    show h'.IsKeyIter it d (i + 1) kvs.length _
    rw [hl]
    exact st'
  done := by
    intro X hP hw hK hc i pins s σ H E I hf st hg
    subst hP hw hK
    obtain ⟨hd, hi⟩ := hg
    obtain ⟨f0, f1, f2, f3, f4, f5⟩ := hf it (by simp)
    obtain ⟨hs, hgd, hx, es', ep', vs, hdt, hsz, kv, hm⟩ := I.frzK hd
    obtain ⟨rfl, rfl⟩ := dict_ep hod hdt
    exact next_key_end (I.ok.hd hc) st hgd hdt hsz hi fun h' eb => ⟨rfl, I.turned (t' := s.toks) (fun b ob hb e => eb b ob hb e) f0 f1 f3 f4 f5⟩
  self := fun A i s Q E st h => wpAny_pyIter_keyiter st h
theorem turn_keysT {kvs : List (List Key × V)} (it : Addr) (hod : o.data = .dict es ep) : Turn P w K tg (Itkt d o kvs) [it] it (fun i h => h.IsKeyIter it d i kvs.length ep) where
  mem := by simp
  obj := fun i h st b hb => by
    have e : b = it := by simpa using hb
    subst e
    obtain ⟨oi, e, c, dd⟩ := st
    exact ⟨oi, e, fun v z => by rw [dd] at z; cases z⟩
  keep := fun i h h' st k => st.at fun oi e => k it (by simp) oi e
  item := by
    intro X hP hw hK hc i pins s σ H E I hf st hg
    subst hP hw hK
    obtain ⟨hd, hi⟩ := hg
    obtain ⟨f0, f1, f2, f3, f4, f5⟩ := hf it (by simp)
    obtain ⟨hs, hgd, hx, es', ep', hdt, hsz, ent⟩ := I.frzT hd
    obtain ⟨rfl, rfl⟩ := dict_ep hod hdt
    obtain ⟨⟨k, v⟩, hkv⟩ : ∃ p, kvs[i]? = some p := ⟨kvs[i], List.getElem?_eq_getElem hi⟩
    obtain ⟨en, q, hen, hkey, hq⟩ := ent i k v hkv
    refine next_key_item st hgd hdt hsz hen fun h' st' sb => ?_
    have I1 : Inv X pins σ H { s with heap := h' } := I.turned (t' := s.toks) (fun b ob hb e => (sb.2 b hb).trans e) f0 f1 f3 f4 f5
    obtain ⟨oi, e, c, dd⟩ := id st'
    exact ⟨en.key, rfl, go_of (s := { s with heap := h' }) e c dd (by decide) ⟨.ref q, H, I1, hkey, ⟨rfl, k, v, q, hkv, rfl, hq⟩, st', fun b hb => (hf b hb).1⟩⟩
  done := by
    intro X hP hw hK hc i pins s σ H E I hf st hg
    subst hP hw hK
    obtain ⟨hd, hi⟩ := hg
    obtain ⟨f0, f1, f2, f3, f4, f5⟩ := hf it (by simp)
    obtain ⟨hs, hgd, hx, es', ep', hdt, hsz, ent⟩ := I.frzT hd
    obtain ⟨rfl, rfl⟩ := dict_ep hod hdt
    exact next_key_end (I.ok.hd hc) st hgd hdt hsz hi fun h' eb => ⟨rfl, I.turned (t' := s.toks) (fun b ob hb e => eb b ob hb e) f0 f1 f3 f4 f5⟩
  self := fun A i s Q E st h => by
    refine wpAny_pyIter_slot st.typeIs F.slot_dict_keyiterator_iter (wpAny_call_entry F.slot_dict_keyiterator_iter st.typeIs F.entry_dict_keyiterator_iter ?_ (F.args_dict_keyiterator_iter_1 _))
    show wpAny _ _ (ret (.ref it)) _ _ s
    exact wpAny_pure ⟨_, rfl, "dict_keyiterator", _, st.typeIs, F.slot_dict_keyiterator_next.lookup, h⟩
end

/-! ### for k in d, d.keys(), d.values(), d.items() -/
/-- the dict is locked (tLock, or by the caller) -/
@[reducible] def iKeys (td : TE) : TI := fun σ H R => td σ H fun x H1 => ∃ d o, x = .ref d ∧ ((∃ kvs, H1 d = some (.frz o (.dK kvs)) ∧ R (Itk d o kvs) H1) ∨ ∃ kvs, H1 d = some (.frz o (.dT kvs)) ∧ R (Itkt d o kvs) H1)
section
variable {X : Cx} {tg e : Expr} {td : TE} {apos cpos : Pos}
theorem pi_keys (he : PE X e td) : PI X tg e (iKeys td) := by
  intro pins s σ H R I h
  refine thn (he pins s σ H _ I h) fun u s1 ⟨x, H1, I1, rx, d, o, ex, q⟩ => ?_
  subst ex
  obtain rfl : u = Value.ref d := rx
  rcases q with ⟨kvs, hd, q⟩ | ⟨kvs, hd, q⟩
  · obtain ⟨hs, hgd, hx, es, ep, vs, hdt, hsz, kv, hm⟩ := I1.frzK hd
    refine iter_keys hs hgd hx hdt (pi_one (tk := s1.toks) I1 _ (turn_keys _ hdt) ⟨_, Heap.get?_push_size _ rfl, rfl, ?_⟩ q)
    rw [hsz] <;> rfl
  · obtain ⟨hs, hgd, hx, es, ep, hdt, hsz, ent⟩ := I1.frzT hd
    refine iter_keys hs hgd hx hdt (pi_one (tk := s1.toks) I1 _ (turn_keysT _ hdt) ⟨_, Heap.get?_push_size _ rfl, rfl, ?_⟩ q)
    rw [hsz] <;> rfl
end

/-! ### enumerate(list) -/
/-! ### zip(list, list) -/
end L2

section 
namespace Bits
open PySem PyProof.Rows

end Bits
end 

section 
namespace TL
open PySem PySem.Builtin PySem.Builtin.Str PySem.StrLaws

abbrev tl (x : Str) : List Nat := x.cps.toList
theorem len_tl (x : Str) : x.length = (tl x).length := by simp [tl, Str.length]
theorem ext_tl {x y : Str} (h : tl x = tl y) : x = y := Str.ext' (Array.toList_inj.mp h)
theorem tl_append (x y : Str) : tl (x ++ y) = tl x ++ tl y := by
  show (x ++ y).cps.toList = _
  rw [Str.cps_append, Array.toList_append]
theorem map_tl_inj : ∀ {l m : List Str}, l.map tl = m.map tl → l = m
  | [], [], _ => rfl
  | [], _ :: _, h => by simp at h
  | _ :: _, [], h => by simp at h
  | x :: l, y :: m, h => by
    rw [List.map_cons, List.map_cons] at h
    injection h with h1 h2
    rw [ext_tl h1, map_tl_inj h2]
/-! ### the list functions -/
/-- S stands at the head of l -/
def pre (S l : List Nat) : Bool := l.take S.length == S
/-- l cut at each S from the left; k signs are still to be passed over -/
def spl (S : List Nat) : Nat → List Nat → List Nat → List (List Nat)
  | _, acc, [] => [acc]
  | 0, acc, c :: r => if pre S (c :: r) = true then acc :: spl S (S.length - 1) [] r else spl S 0 (acc ++ [c]) r
  | k + 1, acc, _ :: r => spl S k acc r
/-- what stands before the first S, and behind it -/
def par (S : List Nat) : List Nat → List Nat → Option (List Nat × List Nat)
  | _, [] => none
  | acc, c :: r => if pre S (c :: r) = true then some (acc, (c :: r).drop S.length) else par S (acc ++ [c]) r

theorem spl_nil (S : List Nat) (k : Nat) (acc : List Nat) : spl S k acc [] = [acc] := by cases k <;> rfl
theorem spl_hit {S acc r : List Nat} {c : Nat} (h : pre S (c :: r) = true) : spl S 0 acc (c :: r) = acc :: spl S (S.length - 1) [] r := by
  show (if pre S (c :: r) = true then acc :: spl S (S.length - 1) [] r else spl S 0 (acc ++ [c]) r) = _
  rw [if_pos h]
theorem spl_miss {S acc r : List Nat} {c : Nat} (h : pre S (c :: r) = false) : spl S 0 acc (c :: r) = spl S 0 (acc ++ [c]) r := by
  show (if pre S (c :: r) = true then acc :: spl S (S.length - 1) [] r else spl S 0 (acc ++ [c]) r) = _
  rw [if_neg (by rw [h]; exact Bool.false_ne_true)]
theorem spl_pass (S : List Nat) : ∀ (k : Nat) (acc l : List Nat), spl S k acc l = spl S 0 acc (l.drop k)
  | 0, _, _ => by rw [List.drop_zero]
  | k + 1, acc, [] => by rw [List.drop_nil, spl_nil, spl_nil]
  | k + 1, acc, c :: r => by
    show spl S k acc r = spl S 0 acc (r.drop k)
    exact spl_pass S k acc r
theorem pre_nil {S : List Nat} (hS : S ≠ []) : pre S [] = false := by
  cases S with
  | nil => exact absurd rfl hS
  | cons s S => rfl
theorem pre_of_head {s c : Nat} (S r : List Nat) (h : c ≠ s) : pre (s :: S) (c :: r) = false := by
  cases hp : pre (s :: S) (c :: r) with
  | false => rfl
  | true =>
    have e : (c :: r).take (s :: S).length = s :: S := eq_of_beq hp
    rw [List.length_cons, List.take_succ_cons] at e
    injection e with e1 e2
    exact absurd e1 h
theorem pre_self (S r : List Nat) : pre S (S ++ r) = true := by
  show ((S ++ r).take S.length == S) = true
  have e : (S ++ r).take S.length = S := List.take_left
  rw [e] <;> exact beq_self_eq_true S

theorem getElem_drop_cons {L : List Nat} {a : Nat} (h : a < L.length) : ∃ c, L.drop a = c :: L.drop (a + 1) := ⟨L[a], List.drop_eq_getElem_cons h⟩
theorem spl_run (S L : List Nat) : ∀ (m a : Nat) (acc : List Nat), a + m ≤ L.length → (∀ k, a ≤ k → k < a + m → pre S (L.drop k) = false) →
    spl S 0 acc (L.drop a) = spl S 0 (acc ++ (L.drop a).take m) (L.drop (a + m))
  | 0, a, acc, _, _ => by rw [List.take_zero, List.append_nil, Nat.add_zero]
  | m + 1, a, acc, h, hn => by
    have hlt : a < L.length := by omega
    obtain ⟨c, e⟩ := getElem_drop_cons hlt
    have h0 := hn a (Nat.le_refl _) (by omega)
    have ih := spl_run S L m (a + 1) (acc ++ [c]) (by omega) (fun k h1 h2 => hn k (by omega) (by omega))
    have e2 : a + 1 + m = a + (m + 1) := by omega
    rw [e2] at ih
    rw [e] at h0
    rw [e, spl_miss h0, ih, List.take_succ_cons, List.append_assoc] <;> rfl
theorem drop_two (L : List Nat) (a b : Nat) : (L.drop a).drop b = L.drop (a + b) := by
  first
    | rw [List.drop_drop]
    | rw [List.drop_drop, Nat.add_comm]
theorem spl_at {S L : List Nat} (hS : S ≠ []) {c : Nat} {acc : List Nat} (h : pre S (L.drop c) = true) : spl S 0 acc (L.drop c) = acc :: spl S 0 [] (L.drop (c + S.length)) := by
  rw [← drop_two]
  cases e : L.drop c with
  | nil => rw [e, pre_nil hS] at h; cases h
  | cons d r =>
    rw [e] at h
    rw [spl_hit h, spl_pass]
    cases S with
    | nil => exact absurd rfl hS
    | cons s S => rfl
/-! ### the model's split and partition are these -/
theorem at_iff {x y : Str} (hy : tl y ≠ []) (i : Nat) : At x y x.length i ↔ pre (tl y) ((tl x).drop i) = true := by
  have hx := len_tl x
  have hl := len_tl y
  constructor
  · intro h
    have h2 := h.2
    rw [subAt_eq, hl] at h2
    exact h2
  · intro h
    have e : ((tl x).drop i).take (tl y).length = tl y := eq_of_beq h
    have e1 := congrArg List.length e
    rw [List.length_take, List.length_drop] at e1
    have e2 : 0 < (tl y).length := List.length_pos_iff.mpr hy
    refine ⟨by omega, ?_⟩
    rw [subAt_eq, hl]
    exact h
theorem no_at {x y : Str} (hy : tl y ≠ []) {i : Nat} (h : ¬ At x y x.length i) : pre (tl y) ((tl x).drop i) = false := by
  cases hp : pre (tl y) ((tl x).drop i) with
  | false => rfl
  | true => exact absurd ((at_iff hy i).mpr hp) h
theorem len1 {y : Str} (hy : tl y ≠ []) : 1 ≤ y.length := by
  have e2 : 0 < (tl y).length := List.length_pos_iff.mpr hy
  rw [len_tl y]
  exact e2
theorem tl_strSub (x : Str) (i j : Nat) : tl (strSub x i j) = ((tl x).drop i).take (j - i) := strSub_toList x i j
theorem tl_strSub_end (x : Str) (i : Nat) : tl (strSub x i x.length) = (tl x).drop i := by
  rw [tl_strSub, len_tl x]
  exact List.take_of_length_le (by rw [List.length_drop] <;> omega)

theorem parts_spl {x y : Str} (hy : tl y ≠ []) : ∀ (cuts : List Nat) (a f : Nat), a ≤ (tl x).length → ChainG x y x.length a cuts f → (∀ k, f ≤ k → ¬ At x y x.length k) →
    (partsFrom x y.length a cuts).map tl = spl (tl y) 0 [] ((tl x).drop a)
  | [], a, f, ha, h, hn => by
    have e : f = a := h
    subst e
    show [tl (strSub x f x.length)] = _
    have run := spl_run (tl y) (tl x) ((tl x).length - f) f [] (by omega) (fun k h1 _ => no_at hy (hn k h1))
    have e2 : f + ((tl x).length - f) = (tl x).length := by omega
    rw [e2, List.drop_length, spl_nil, List.nil_append, List.take_of_length_le (by rw [List.length_drop] <;> omega)] at run
    rw [run, tl_strSub_end]
  | c :: r, a, f, ha, h, hn => by
    obtain ⟨h1, h2, h3, h4⟩ := h
    have hc : c + y.length ≤ x.length := h2.1
    have hx := len_tl x
    have hl := len_tl y
    have ih := parts_spl hy r (c + y.length) f (by omega) h4 hn
    show tl (strSub x a c) :: (partsFrom x y.length (c + y.length) r).map tl = _
    have run := spl_run (tl y) (tl x) (c - a) a [] (by omega) (fun k k1 k2 => no_at hy (h3 k k1 (by omega)))
    have e2 : a + (c - a) = c := by omega
    rw [e2, List.nil_append, spl_at hy ((at_iff hy c).mp h2)] at run
    rw [run, ih, tl_strSub, hl]

/-- hk: by kind_ok where the separator is plain -/
theorem split_spl (x y : Str) (hy : tl y ≠ []) (hk : ¬ Builtin.Str.strKind x < Builtin.Str.strKind y) : (Txt.split x y).map tl = spl (tl y) 0 [] (tl x) := by
  obtain ⟨f, g, hn⟩ := occ_tight x y (len1 hy)
  have key := parts_spl hy _ 0 f (Nat.zero_le _) g hn
  rw [List.drop_zero] at key
  have none_case : occurrences x y 0 x.length (x.length + 1) = [] → [x].map tl = spl (tl y) 0 [] (tl x) := fun ho => by
    rw [ho] at key
    rw [← key]
    show [tl x] = [tl (strSub x 0 x.length)]
    rw [sub_whole]
  unfold Txt.split
  by_cases h1 : (decide (x.length < y.length) || decide (Builtin.Str.strKind x < Builtin.Str.strKind y)) = true
  · rw [if_pos h1]
    have hlt : x.length < y.length := by
      simp only [Bool.or_eq_true, decide_eq_true_eq] at h1
      rcases h1 with h | h
      · exact h
      · exact absurd h hk
    refine none_case ?_
    cases ho : occurrences x y 0 x.length (x.length + 1) with
    | nil => rfl
    | cons c r =>
      rw [ho] at g
      have hc : c + y.length ≤ x.length := g.2.1.1
      omega
  · rw [if_neg h1]
    by_cases h2 : (occurrences x y 0 x.length (x.length + 1)).isEmpty = true
    · rw [if_pos h2]
      exact none_case (List.isEmpty_iff.mp h2)
    · rw [if_neg h2, partsBetween_eq]
      exact key
theorem kind_ok {x y : Str} (h : y.cps.all (· < 256) = true) : ¬ Builtin.Str.strKind x < Builtin.Str.strKind y := by
  have e : Builtin.Str.strKind y = 1 := by unfold PySem.Builtin.Str.strKind; rw [if_pos h]
  rw [e]
  unfold PySem.Builtin.Str.strKind
  split
  · omega
  · split <;> omega

/-! ### computing spl and par -/
/-- a part that the separator does not begin in, then the separator -/
theorem spl_part {S p rest acc : List Nat} (hS : S ≠ []) (h : ∀ i, i < p.length → pre S ((p ++ (S ++ rest)).drop i) = false) :
    spl S 0 acc (p ++ (S ++ rest)) = (acc ++ p) :: spl S 0 [] rest := by
  have run := spl_run S (p ++ (S ++ rest)) p.length 0 acc (by rw [List.length_append]; omega) (fun k _ k2 => h k (by omega))
  have ed : (p ++ (S ++ rest)).drop p.length = S ++ rest := List.drop_left
  rw [List.drop_zero, Nat.zero_add, List.take_left] at run
  rw [run, spl_at hS (by rw [ed]; exact pre_self S rest), ← drop_two, ed, List.drop_left]
theorem spl_last {S p acc : List Nat} (h : ∀ i, i < p.length → pre S (p.drop i) = false) : spl S 0 acc p = [acc ++ p] := by
  have run := spl_run S p p.length 0 acc (by omega) (fun k _ k2 => h k (by omega))
  rw [List.drop_zero, Nat.zero_add, List.drop_length, spl_nil, List.take_length] at run
  exact run
/-- the separator's first sign is not in the part -/
theorem free_of {s : Nat} {S p q : List Nat} (h : s ∉ p) : ∀ i, i < p.length → pre (s :: S) ((p ++ q).drop i) = false := fun i hi => by
  have hlt : i < (p ++ q).length := by rw [List.length_append]; omega
  have e : (p ++ q).drop i = (p ++ q)[i] :: (p ++ q).drop (i + 1) := List.drop_eq_getElem_cons hlt
  rw [e]
  refine pre_of_head _ _ fun z => h ?_
  have e1 : (p ++ q)[i] = p[i] := List.getElem_append_left hi
  rw [← z, e1]
  exact List.getElem_mem hi
theorem spl_part1 {s : Nat} {S p rest acc : List Nat} (h : s ∉ p) : spl (s :: S) 0 acc (p ++ (s :: S ++ rest)) = (acc ++ p) :: spl (s :: S) 0 [] rest :=
  spl_part (by simp) (free_of h)
theorem spl_last1 {s : Nat} {S p acc : List Nat} (h : s ∉ p) : spl (s :: S) 0 acc p = [acc ++ p] := spl_last fun i hi => by
  have z := free_of (S := S) (q := []) h i hi
  rw [List.append_nil] at z
  exact z
/-- joined lists -/
def joinL (S : List Nat) : List (List Nat) → List Nat
  | [] => []
  | [p] => p
  | p :: q :: r => p ++ (S ++ joinL S (q :: r))
theorem tl_join (y : Str) : ∀ parts : List Str, tl (Str.join y parts) = joinL (tl y) (parts.map tl)
  | [] => rfl
  | [_] => rfl
  | x :: z :: r => by
    show tl (x ++ y ++ Str.join y (z :: r)) = tl x ++ (tl y ++ joinL (tl y) ((z :: r).map tl))
    rw [tl_append, tl_append, tl_join y (z :: r), List.append_assoc]
theorem spl_join {s : Nat} {S : List Nat} : ∀ {parts : List (List Nat)}, parts ≠ [] → (∀ p ∈ parts, s ∉ p) → spl (s :: S) 0 [] (joinL (s :: S) parts) = parts
  | [], h, _ => absurd rfl h
  | [p], _, hp => by
    show spl (s :: S) 0 [] p = [p]
    rw [spl_last1 (hp p (List.mem_singleton.mpr rfl)), List.nil_append]
  | p :: q :: r, _, hp => by
    show spl (s :: S) 0 [] (p ++ (s :: S ++ joinL (s :: S) (q :: r))) = p :: q :: r
    rw [spl_part1 (hp p (List.mem_cons_self ..)), List.nil_append, spl_join (by simp) fun z hz => hp z (List.mem_cons_of_mem _ hz)]
theorem join_eq (y : Str) (parts : List Str) : Txt.join y parts = Str.join y parts := glued_eq_join y parts
/-- THE READ-BACK: a joined text, split -/
theorem split_join {y : Str} {s : Nat} {S : List Nat} (ey : tl y = s :: S) (hk : y.cps.all (· < 256) = true) {parts : List Str} (hne : parts ≠ []) (hp : ∀ p ∈ parts, s ∉ tl p) :
    Txt.split (Txt.join y parts) y = parts := by
  refine map_tl_inj ?_
  rw [split_spl _ y (by rw [ey]; simp) (kind_ok hk), join_eq, tl_join, ey]
  refine spl_join (fun e => hne (List.map_eq_nil_iff.mp e)) fun p h => ?_
  obtain ⟨z, hz, rfl⟩ := List.mem_map.mp h
  exact hp z hz
/-! ### digits -/
/-! ### words: x.split() -/
end TL
end 

namespace L2
open PySem PySem.Spec PyProof.Rows

theorem strs_of_vals : ∀ {ys : List Str} {us : List Value}, Vals (ys.map V.str) us → StrsAre us ys
  | [], _, .nil => .nil
  | y :: ys, _, .cons r t => by
    obtain ⟨k, rfl⟩ := r
    exact .cons y k (strs_of_vals t)

section
variable {X : Cx} {pins : List (Addr × Obj)} {σ : St} {H : Hp} {s : Shared} {Q : VK}
end

section
variable {X : Cx}

/-- sep.join(a list | a tuple of texts) -/
theorem mt_join : MtR X "str.join" (fun x xs H Q => ∃ a p, ∃ ys : List Str, x = .str a ∧ xs = [.ref p] ∧ (SqL X.K H p (ys.map V.str) ∨ SqT X.K H p (ys.map V.str)) ∧
    (ys.map (·.length)).sum + ys.length * a.length ≤ 16777216 ∧ Q (.str (Txt.join a ys)) H) := by
  intro pins s σ H x xs v us Q I rx rs h
  obtain ⟨a, p, ys, rfl, rfl, hp, hz, h⟩ := h
  obtain ⟨t, rfl⟩ := rx
  cases rs with
  | cons r1 rs =>
    cases rs
    cases r1
    rcases hp with hp | hp
    · obtain ⟨its, r, ⟨o, n, ho, hc, _, hd⟩, _⟩ := I.list hp
      exact PyProof.Rows.join_list (items := its.toArray) ⟨o, ho, hc, n, hd⟩ (by rw [List.toList_toArray]; exact strs_of_vals r) hz fun t' k => ⟨.str _, H, I.tok k, ⟨t', rfl⟩, h⟩
    · obtain ⟨its, r, ht, _⟩ := I.tuple hp
      exact PyProof.Rows.join_tuple (items := its.toArray) ht (by rw [List.toList_toArray]; exact strs_of_vals r) hz fun t' k => ⟨.str _, H, I.tok k, ⟨t', rfl⟩, h⟩

/-! ### of a text alone -/
/-! ### of a text and a text -/
end

section
variable {X : Cx} {o e : Expr} {to te : TE}
@[reducible] def tM1 (r : V → List V → Hp → VK → Prop) (to te : TE) : TE := fun σ H Q => to σ H fun x H1 => (∃ a, x = .str a) ∧ te σ H1 fun y H2 => r x [y] H2 Q
theorem pe_m1 {id : String} {name : Str} {apos pos : Pos} {r : V → List V → Hp → VK → Prop} (slot : Slot "str" name id) (ty : typeOf (.builtin id) = pure (.type "method_descriptor")) (rule : MtR X id r) (ho : PE X o to) (he : PE X e te)
    (hs : starEach [e] X.env = [(false, eval e X.env)] := by rfl) (hbase : attributeBase o name X.env (eval o X.env) = eval o X.env := by rfl) (hline : (apos.endLine == pos.line) = true := by rfl) :
    PE X (.Call (.Attribute o name apos) [e] [] pos) (tM1 r to te) := by
  intro pins s σ H Q I h
  refine PySem.Call_method1 hbase hs hline (thn (ho pins s σ H _ I h) fun v s1 ⟨x, H1, I1, r1, q1⟩ => ?_)
  obtain ⟨⟨a, rfl⟩, q1⟩ := q1
  obtain ⟨t, rfl⟩ := _root_.id r1
  refine ⟨"str", _, F.plainAttrs_str, slot, ty, typeIs_str _ _ _, (fun _ e => nomatch e), Calls.callWith_builtin rfl (Calls.evalArgs_plain (Calls.spliced_cons ?_))⟩
  exact thn (he pins s1 σ H1 _ I1 q1) fun u s2 ⟨y, H2, I2, r2, q2⟩ => Calls.spliced_nil (rule pins s2 σ H2 _ [y] _ [u] Q I2 r1 (.cons r2 .nil) q2)

end
end L2

namespace L2
open PySem PySem.Spec PyProof.Rows

section
variable {X : Cx}
end

/-! ### slices of a text -/
theorem IsPart.raw {v : Value} {o : Option Int} (p : IsPart v o) : ∃ l : Option (Int × Tok), v = partValue l ∧ l.map (·.1) = o := by
  cases p with
  | none => exact ⟨none, rfl, rfl⟩
  | int i t => exact ⟨some (i, t), rfl, rfl⟩

/-- a part, clipped, as the text's slice reckons it -/
def clipS (n d : Nat) : Option Int → Int
  | none => (d : Int)
  | some i => max 0 (min (if i < 0 then i + (n : Int) else i) (n : Int))
theorem clipS_eq (n d : Nat) (o : Option Int) : clipS n d o = ((HT.sIx n d o : Nat) : Int) := by
  cases o with
  | none => rfl
  | some v =>
    show max (0 : Int) (min (if v < 0 then v + (n : Int) else v) (n : Int)) = (((if v < 0 then (v + (n : Int)).toNat else min v.toNat n) : Nat) : Int)
    by_cases hv : v < 0
    · simp only [if_pos hv]
      omega
    · simp only [if_neg hv]
      omega
theorem sidx_clip (a b : Option Int) (n : Nat) : Builtin.Str.strSliceIndices a b 1 n = sliceRange (clipS n 0 a) (clipS n n b) 1 := by
  have h1 : ((1 : Int) > 0) = True := by simp
  cases a <;> cases b <;> first
    | rfl
    | (simp only [Builtin.Str.strSliceIndices, clipS, h1, if_true]; rfl)
    | simp [Builtin.Str.strSliceIndices, clipS]
theorem sidx (a b : Option Int) (n : Nat) : Builtin.Str.strSliceIndices a b 1 n = (List.range (HT.sIx n n b - HT.sIx n 0 a)).map (fun k => HT.sIx n 0 a + k) := by
  rw [sidx_clip, clipS_eq, clipS_eq]
  generalize HT.sIx n 0 a = p
  generalize HT.sIx n n b = q
  simp only [sliceRange, show ((1 : Int) > 0) = True from by simp, if_true]
  by_cases hlt : (p : Int) < q
  · have e3 : (((q : Int) - p + 1 - 1) / 1).toNat = q - p := by first | omega | (simp; done) | (simp; omega)
    simp only [hlt, if_true, e3]
    refine List.map_congr_left fun k _ => ?_
    omega
  · have : q - p = 0 := by omega
    simp [hlt, this]

/-- z[lo:hi] -/
def cutS (z : Str) (lo hi : Option Int) : Str :=
  ⟨((z.cps.toList.drop (HT.sIx z.length 0 lo)).take (HT.sIx z.length z.length hi - HT.sIx z.length 0 lo)).toArray⟩
theorem sliceText_cut (z : Str) (lo hi : Option Int) : PySem.StrLaws.sliceText z lo hi = cutS z lo hi := by
  have h1 : HT.sIx z.length 0 lo ≤ z.length := HT.sIx_le _ _ (Nat.zero_le _) _
  have h2 : HT.sIx z.length z.length hi ≤ z.length := HT.sIx_le _ _ (Nat.le_refl _) _
  have hp : HT.sIx z.length 0 lo ≤ max (HT.sIx z.length 0 lo) (HT.sIx z.length z.length hi) := Nat.le_max_left _ _
  have hq : max (HT.sIx z.length 0 lo) (HT.sIx z.length z.length hi) ≤ z.length := Nat.max_le.mpr ⟨h1, h2⟩
  have hd : max (HT.sIx z.length 0 lo) (HT.sIx z.length z.length hi) - HT.sIx z.length 0 lo = HT.sIx z.length z.length hi - HT.sIx z.length 0 lo := by omega
  have e : Builtin.Str.strSliceIndices lo hi 1 z.length =
      Builtin.Str.strSliceIndices (some ((HT.sIx z.length 0 lo : Nat) : Int)) (some ((max (HT.sIx z.length 0 lo) (HT.sIx z.length z.length hi) : Nat) : Int)) 1 z.length := by
    rw [PySem.StrLaws.strSliceIndices_plain hp hq, hd, sidx]
  have e2 : PySem.StrLaws.sliceText z lo hi =
      PySem.StrLaws.sliceText z (some ((HT.sIx z.length 0 lo : Nat) : Int)) (some ((max (HT.sIx z.length 0 lo) (HT.sIx z.length z.length hi) : Nat) : Int)) := by
    unfold PySem.StrLaws.sliceText
    rw [e]
  rw [e2, PySem.StrLaws.sliceText_nat z hp hq, hd]
  rfl
theorem cutS_length (z : Str) (lo hi : Option Int) : (cutS z lo hi).length ≤ z.length := by
  show (((z.cps.toList.drop (HT.sIx z.length 0 lo)).take (HT.sIx z.length z.length hi - HT.sIx z.length 0 lo)).toArray).size ≤ z.cps.size
  rw [List.size_toArray, List.length_take, List.length_drop, Array.length_toList]
  omega
@[reducible] def rSlS : V → Option Int → Option Int → Hp → VK → Prop := fun x lo hi H Q => ∃ z, x = .str z ∧ z.length ≤ sizeLine ∧ Q (.str (cutS z lo hi)) H
theorem sl_str {X : Cx} : SlR X rSlS := by
  intro pins s σ H x v vl vu lo hi sl Q I rx hs pl pu h
  obtain ⟨z, rfl, hz, q⟩ := h
  obtain ⟨t, rfl⟩ := rx
  obtain ⟨os, hos, hcs, hds⟩ := hs
  obtain ⟨l, rfl, rfl⟩ := IsPart.raw pl
  obtain ⟨u, rfl, rfl⟩ := IsPart.raw pu
  refine ⟨"str", _, F.slot_str_getitem.lookup, typeIs_str _ _ _, ?_⟩
  refine wpAny_getItem_str_slice (l := l) (u := u) (st := none) ⟨os, hos, hcs, hds⟩ rfl ?_
  have hl : (PySem.StrLaws.sliceText z (l.map (·.1)) (u.map (·.1))).length ≤ sizeLine := by
    rw [sliceText_cut]
    exact Nat.le_trans (cutS_length z _ _) hz
  rw [← sliceText_cut] at q
  unfold PySem.StrLaws.sliceText at q hl
  show Made.post (if ((1 : Int) == 1 && (Builtin.Str.strSliceIndices (l.map (·.1)) (u.map (·.1)) 1 z.length).length == z.length) = true then Made.val (.str z t)
    else Made.str ⟨((Builtin.Str.strSliceIndices (l.map (·.1)) (u.map (·.1)) 1 z.length).filterMap (z.cps[·]?)).toArray⟩) (EP X pins σ Q) s
  by_cases c : ((1 : Int) == 1 && (Builtin.Str.strSliceIndices (l.map (·.1)) (u.map (·.1)) 1 z.length).length == z.length) = true
  · rw [if_pos c] at q ⊢
    exact ⟨.str z, H, I, ⟨t, rfl⟩, q⟩
  · rw [if_neg c] at q hl ⊢
    exact ⟨hl, .str _, H, I.tok _, ⟨_, rfl⟩, q⟩
end L2

namespace Att
open PySem PySem.W PySem.Calls PyProof.Rows

/-! ### the script -/
theorem ints_of_wellAll {P : Params} {h : Heap} : ∀ (ns : List Int) (vs : List Value), WellAll P h vs (ns.map WData.int) → IntsAre vs ns := by
  intro ns
  induction ns with
  | nil =>
    intro vs w
    rw [List.map_nil] at w
    cases w
    exact .nil
  | cons n ns ih =>
    intro vs w
    rw [List.map_cons] at w
    cases w with
    | cons a b =>
      cases a
      exact .cons _ _ (ih _ b)

theorem script_of {l : OpenLaw} {n : Nat} (hn : l.most = some n) {P : Params} {h : Heap} {args : List WData} {vals : List Value}
    (hpre : l.row.toRowW.claim.pre args = true) (hwl : WellAll P h vals args) :
    ∃ a vs ns, vals = [Value.ref a] ∧ args = [WData.list (ns.map WData.int)] ∧ h.get? a = some { cls := .type "list", data := .seq vs.toArray } ∧ IntsAre vs ns ∧ ns.length ≤ n := by
  have hsh : WShape.hasAll [] args [.list .int] = true := (pre_splitW hpre).1
  have hc : l.pre.holds [] { args := args } = true := (pre_splitW hpre).2
  obtain ⟨d, r, rfl, h1, h2⟩ := hasAllW_cons hsh
  obtain rfl := hasAllW_nil h2
  obtain ⟨xs, rfl, h3⟩ := hasW_list h1
  obtain ⟨ns, rfl⟩ := items_int h3
  have hlen : ns.length ≤ n := by
    unfold OpenLaw.pre at hc
    have h4 : (WTm.not (.lt (.lit (.int (n : Int))) (.len (.arg 0)))).holds [] { args := [.list (ns.map .int)] } = true := by
      have h4 := (holds_andW hc).1
      rw [hn] at h4
      exact h4
    have h5 := condW_of h4 (w_not (w_lt w_lit (w_len_list (w_arg rfl))))
    rw [List.length_map] at h5
    refine Nat.le_of_not_lt fun q => ?_
    have q' : (n : Int) < ((ns.length : Nat) : Int) := by omega
    first
      | (rw [decide_eq_true q'] at h5; exact absurd h5 (by decide))
      | (simp at h5; omega)
  cases hwl with
  | cons w1 w2 =>
    cases w2
    cases w1 with
    | list ho hall => exact ⟨_, _, ns, rfl, rfl, ho, ints_of_wellAll ns _ hall, hlen⟩

theorem post_true (l : OpenLaw) (args : List WData) : l.row.toRowW.claim.post args (.bool true) args = true :=
  postW_of (r := l.row.toRowW) (X := (true == true))
    (show WShape.has [] (.bool true) .bool = true by first | rfl | decide | simp [WShape.has, WShape.arms, WShape.armsAll])
    (show (WTm.eq .res (.lit (.bool true))).value [] { args := args, res := some (.bool true), after := args } = some (.bool (true == true)) from w_eq_bool (w_res rfl) w_lit) rfl

/-! ### the attachment: holds_open's last premise (the goal 'hc' behind k_head) from a wpAny of the law's body -/
/-- the same from a codeAny of the CALL (for a layer whose function contracts speak of calls) -/
theorem attach_call {l : OpenLaw} {n : Nat} {q : Program} {loose : List Str} {XP : (Str → Option Value) → Heap → Prop} {YP : World → Heap → Prop} {d : DefRec}
    (hn : l.most = some n) (hdf : d.params.defaults = [])
    (call : ∀ (w : World) (s₀ s₁ : Shared) (mg mb : Str → Option Value) (fa : Addr) (o : Obj) (pm cd doc : Value) (a : Addr) (vs : List Value) (ns : List Int),
      Ground q loose [] XP w s₀ mg mb s₁.heap → YP w s₁.heap →
      s₁.heap.get? fa = some o → o.data = .func (docDef d.name d.params d.body d.scope pm cd doc) → s₁.heap.CodeRec cd d.name → mg d.name = some (.ref fa) →
      s₁.heap.get? a = some { cls := .type "list", data := .seq vs.toArray } → IntsAre vs ns → ns.length ≤ n → s₁.gens = #[] →
      codeAny (model l.prog w) callerA (.call (.ref fa) ⟨[.ref a], []⟩) (fun r s' => r = .ok (.ret (.bool true)) ∧ OldK s₁.heap s'.heap ∧ s'.os = s₁.os ∧ AllBare s'.gens) s₁) :
    WalkO q loose XP YP l.row.toRowW d [] (fun f vs => PySem.call f vs) := by
  intro w s₀ s₁ mg mb G Y fa o pm cd doc dV kV ho hd hcd hD hmg hg args vals as hpre hlay hrd hwl hlo
  obtain rfl : dV = .none := Dflts.none hD hdf
  obtain rfl : kV = .none := Dflts.noKw hD
  obtain ⟨a, vs, ns, rfl, rfl, hobj, hints, hlen⟩ := script_of hn hpre hwl
  refine enter_call (codeAny_mono (call w s₀ s₁ mg mb fa o pm cd doc a vs ns G Y ho (fd_plain hd) hcd hmg hobj hints hlen hg) fun r s' hq => ?_)
  obtain ⟨rfl, h2, h3, h4⟩ := hq
  exact ⟨.inl ⟨.bool true, .bool true, [], rfl, fun _ => rfl, .bool true, post_true l _, fun _ => ⟨List.Pairwise.nil, fun _ hm => (nomatch hm)⟩⟩, h2, h3, h4⟩

/-! ### rules over ANY heap (no ledger) from facts about the written part K: the library's own take a ledger (News) for what they write -/
section
variable {prog : Program} {w : World} {A : Around} {E : Value → Shared → Prop} {s : Shared} {K : Frag}

/-! the whole heap as the ledger: makes every rule that writes through a ledger a rule over any heap -/
def ledger (h : Heap) (L d : Addr) : List (Addr × Obj) := (List.range h.objs.size).filterMap fun a => if a = L ∨ a = d then none else (h.get? a).map fun o => (a, o)
end
end Att

namespace L2
open PySem PySem.Spec PyProof.Rows

theorem vals_ints : ∀ {vs : List Value} {ns : List Int}, IntsAre vs ns → Vals (ns.map V.int) vs
  | _, _, .nil => .nil
  | _, _, .cons n t h => .cons ⟨t, rfl⟩ (vals_ints h)

/-- nothing is tracked but the script, known to the object (or it is an object of the module) -/
def Only (H : Hp) : Prop := ∀ b, H b = none ∨ ∃ o xs, H b = some (.frz o (.lst xs))

/-- THE HEAD: the law's promise, at the heap behind the top. F, the promise of the law's def, may use that base is part of the heap (so K.In base, base.Ns mainGlobals mg stand in Mod) -/
theorem law_call {P : Program} {w : World} {K : PySem.W.Frag} {mg mb : Str → Option Value} {CX : CXT} {k : Nat} {fa a : Addr} {fd : FuncData} {x : Str} {sp : Sp} {s₁ : Shared} {vs : List Value} {ns : List Int}
    (KX : K.In s₁.heap) (hns : s₁.heap.Ns mainGlobals mg) (hb : s₁.heap.Ns builtinsNs mb) (hbb : ∀ x : Str, x ≠ "__name__" → mb x = bootBuiltins x) (hlim : s₁.heap.NoLimit) (hg : s₁.gens = #[])
    (ha : s₁.heap.get? a = some { cls := .type "list", data := .seq vs.toArray }) (hi : IntsAre vs ns) (hl : ns.length ≤ sizeLine) (hr : Room k callerA)
    (F : ∀ base : Heap, K.In base → base.Ns mainGlobals mg → FnOk P w K mg base CX k fa fd [x] sp) (hbind : ∀ (s : Shared) (u : Value), BindsTo s fd ⟨[u], []⟩ [(x, u)])
    (hsp : ∀ H : Hp, Only H → SqL K H a (ns.map V.int) → sp [.ref a] H (fun v _ => v = .bl true) fun _ _ _ => False)
    (hCX : ∀ H e s', CX [] H s₁ (fun _ _ _ => False) e s' → False) :
    codeAny (model P w) callerA (.call (.ref fa) ⟨[.ref a], []⟩) (fun r s' => r = .ok (.ret (.bool true)) ∧ OldK s₁.heap s'.heap ∧ s'.os = s₁.os ∧ AllBare s'.gens) s₁ := by
  have rv := vals_ints hi
  have lenV := hi.length
  -- from an abstract heap in which nothing but the script may be tracked
  have core : ∀ H : Hp, Only H → SqL K H a (ns.map V.int) → HOk P w H s₁.heap → (∀ b, H b ≠ none → b = a) → (H a ≠ none → K.lookup a = none) →
      codeAny (model P w) callerA (.call (.ref fa) ⟨[.ref a], []⟩) (fun r s' => r = .ok (.ret (.bool true)) ∧ OldK s₁.heap s'.heap ∧ s'.os = s₁.os ∧ AllBare s'.gens) s₁ := by
    intro H hO hS hok hA hK
    have base_of : ∀ {b : Addr} {o : Obj}, s₁.heap.get? b = some o → H b = none → (hidT s₁.heap H).get? b = some o := fun e n => hidT_get e n
    have noA : ∀ {b : Addr} {o : Obj} {es : Array DictEntry} {ep : Nat}, s₁.heap.get? b = some o → o.data = .dict es ep → H b = none := fun {b o es ep} e d => by
      cases q : H b with
      | none => rfl
      | some u =>
        have e' : b = a := hA b (by rw [q]; simp)
        subst e'
        rw [ha] at e; cases e
        have d' : Data.seq vs.toArray _ = Data.dict es ep := d
        cases d'
    have nsK : ∀ {b : Addr} {m : Str → Option Value}, s₁.heap.Ns b m → (hidT s₁.heap H).Ns b m := fun {b m} ⟨o, es, ep, e, d, r⟩ => ⟨o, es, ep, base_of e (noA e d), d, r⟩
    have hKb : K.In (hidT s₁.heap H) := fun b o e => base_of (KX b o e) (by
      cases q : H b with
      | none => rfl
      | some u =>
        have e' : b = a := hA b (by rw [q]; simp)
        subst e'
        rw [hK (by rw [q]; simp)] at e; cases e)
    have hM : Mod K mg (hidT s₁.heap H) := ⟨hKb, nsK hns, ⟨mb, nsK hb, hbb⟩, let ⟨mc, h1, h2⟩ := hlim; ⟨mc, nsK h1, h2⟩⟩
    have e0 : Env0 P w K mg (hidT s₁.heap H) callerA [] s₁ H := ⟨rfl, hM, fun b o e => of_hidT e, Nat.le_of_eq (hidT_size _ _), trivial, fun b hb => absurd (show b ∈ ([] : List Addr) from hb) (by simp), hok, .of_eq hg⟩
    refine codeAny_mono ((F _ hKb (nsK hns)).run callerA [] s₁ H ⟨[.ref a], []⟩ [.ref a] [.ref a] _ _ hr e0 (hbind s₁ (.ref a)) (.cons rfl .nil) (hsp H hO hS)) fun r s' h => ?_
    cases r with
    | error e => exact (hCX H e s' h).elim
    | ok fl =>
      cases fl with
      | next => exact False.elim h
      | brk => exact False.elim h
      | cont => exact False.elim h
      | ret u =>
        obtain ⟨v, H', os, bare, un, hok', r', q⟩ := h
        have q' : v = .bl true := q
        subst q'
        obtain rfl : u = Value.bool true := r'
        refine ⟨rfl, OldK.of_keep fun b o e => ?_, os, bare⟩
        cases q : H b with
        | none => exact un.keep b o e q (by intro z; exact absurd (show b ∈ ([] : List Addr) from z) (by simp)) (by simp)
        | some u =>
          rcases hO b with z | ⟨ob, xs, z⟩
          · rw [q] at z; cases z
          · have z2 := un.frzs b ob _ z
            obtain ⟨e1, _⟩ := hok b _ z
            obtain ⟨e2, _⟩ := hok' b _ z2
            rw [e] at e1; cases e1
            exact e2
  cases hk : K.lookup a with
  | some o =>
    -- the script is one of the module's own objects
    have e := KX a o hk
    rw [ha] at e
    cases e
    refine core (fun _ => none) (fun _ => .inl rfl) (.inr ⟨_, vs.toArray, _, hk, rfl, rfl, rfl, by rw [List.size_toArray, lenV]; exact hl, by simpa using rv⟩) (fun b u z => by have z' : (none : Option HO) = some u := z; cases z') (fun b z => absurd rfl z) fun z => absurd rfl z
  | none =>
    refine core (fun b => if b = a then some (.frz { cls := .type "list", data := .seq vs.toArray } (.lst (ns.map V.int))) else none) (fun b => ?_) (.inl (.inr ⟨{ cls := .type "list", data := .seq vs.toArray }, if_pos rfl⟩)) (fun b u z => ?_) (fun b z => ?_) fun _ => hk
    · by_cases hb : b = a
      · exact .inr ⟨_, _, if_pos hb⟩
      · exact .inl (if_neg hb)
    · by_cases hb : b = a
      · have z' := (if_pos hb).symm.trans z
        cases z'
        subst hb
        exact ⟨ha, by rw [List.length_map]; exact hl, vs, _, rv, ha⟩
      · have z' := (if_neg hb).symm.trans z
        cases z'
    · by_cases hb : b = a
      · exact hb
      · exact absurd (if_neg hb) z
end L2

namespace L2
open PySem PySem.Spec PyProof.Rows

abbrev KOf {K : PySem.W.Frag} {h : Heap} (_ : K.In h) : PySem.W.Frag := K

/-- the goal that k_head leaves (case hc), from the law's promise. F gives the function object fd (K's own) once, then the promise over every base -/
theorem walk_of {l : PySem.W.OpenLaw} {n k : Nat} {q : Program} {loose : List Str} {XP : (Str → Option Value) → Heap → Prop} {YP : World → Heap → Prop} {d : DefRec} {K : Params → PySem.W.Frag} {CX : World → CXT} {sp : World → Sp} {x : Str}
    (hn : l.most = some n) (hn2 : n ≤ sizeLine) (hdf : d.params.defaults = []) (hr : Room k callerA)
    (hY : ∀ (w : World) (h : Heap), YP w h → (K w.params).In h)
    (F : ∀ (w : World) (mg : Str → Option Value) (fa : Addr) (h : Heap), (K w.params).In h → h.Ns mainGlobals mg → mg d.name = some (.ref fa) →
      ∃ fd : FuncData, (∀ (s : Shared) (u : Value), BindsTo s fd ⟨[u], []⟩ [(x, u)]) ∧
        ∀ base : Heap, (K w.params).In base → base.Ns mainGlobals mg → FnOk l.prog w (K w.params) mg base (CX w) k fa fd [x] (sp w))
    (hsp : ∀ (w : World) (H : Hp) (a : Addr) (ns : List Int), ns.length ≤ n → Only H → SqL (K w.params) H a (ns.map V.int) → sp w [.ref a] H (fun v _ => v = .bl true) fun _ _ _ => False)
    (hCX : ∀ (w : World) (H : Hp) (s : Shared) (e : Value) (s' : Shared), CX w [] H s (fun _ _ _ => False) e s' → False) :
    PySem.W.WalkO q loose XP YP l.row.toRowW d [] (fun f vs => PySem.call f vs) := by
  refine Att.attach_call hn hdf fun w s₀ s₁ mg mb fa o pm cd doc a vs ns G Y ho hd hcd hmg hobj hints hlen hg => ?_
  have KX := hY w _ Y
  obtain ⟨fd, hb, hF⟩ := F w mg fa _ KX G.T.g hmg
  exact law_call KX G.T.g G.T.b G.T.builtins G.T.nolimit hg hobj hints (Nat.le_trans hlen hn2) hr hF hb (fun H hO hS => hsp w H a ns hlen hO hS) fun H e s' => hCX w H s₁ e s'
end L2

/- THE LAST THEOREM (shape; LID, My.* are yours):
   My.Adr: a structure of the addresses that your layer names (classes, functions); My.Txt K t: a structure (Prop) of the equations over K;
   My.txt_mk : {K} {implicit addresses ..} (e1 : nsIn K mainGlobals "law" = some (some (.ref f))) (e2 : K.lookup f = some ⟨oc, od, .func (fnOf "law" "law" params body scope dV kV doc pm an cdv ct), sl⟩) (e3 : codeIn K cdv "law" = true) .. : ∃ t, My.Txt K t

set_option maxRecDepth 100000 in
set_option maxHeartbeats 0 in
theorem PySem.Challenge.cw_LID_holds : PySem.Challenge.rw_LID.Holds := by
  w_on; o_law; k_head; (case hw => w_witness2)
  k_fill
  refine L2.walk_of (l := PySem.Challenge.rw_LID) (n := 63) (k := 40) (x := "script") (CX := fun w => ..) (sp := fun _ => My.sp_law) rfl (by decide) rfl ⟨rfl, by decide, by decide⟩ (fun w h Y => PySem.W.kIn_of Y) ?F ?S ?C
  case F =>
    intro w mg fa h KX G hmg
    have T : ∃ t, My.Txt (L2.KOf KX) t := by
      dsimp only [L2.KOf]                          -- K must stand as «<heap const> w.params» for k_is
      refine' My.txt_mk ?e1 ?e2 ?e3 ..
      (case e1 => PySem.W.k_is)                    -- in the order: a name -> its address -> its object -> its parts
      (case e2 => PySem.W.k_is)
      ..
    obtain ⟨t, T⟩ := T
    have e0 := hmg.symm.trans (PySem.W.mg_of KX G T.law)
    cases e0                                       -- fa is the law's own address
    exact ⟨_, fun s u => .of_eq rfl, fun base kb nb => My.law_fn T kb nb⟩     -- if «.of_eq rfl» comes too early: refine' ⟨_, ?b, fun base kb nb => My.law_fn T kb nb⟩; exact fun s u => .of_eq rfl
  case S => exact fun w H a ns hl hO hS => ..
  case C => exact ..
(the tactic k_is has no namespace: write k_is) -/

/-! SHORT WORDS over the layer: a def of the text, its body, what a loop and a test want. -/
namespace L2
open PySem PySem.Spec PyProof.Rows

/-! ### the text by places -/
def defArgs (s : Stmt) : Arguments := match s with
  | .FunctionDef _ a _ _ _ _ _ _ _ _ => a
  | _ => { posonlyargs := [], args := [], vararg := none, kwonlyargs := [], kw_defaults := [], kwarg := none, defaults := [] }
def defBody (s : Stmt) : List Stmt := match s with
  | .FunctionDef _ _ b _ _ _ _ _ _ _ => b
  | _ => []
def defScope (s : Stmt) : Scope := match s with
  | .FunctionDef _ _ _ _ _ _ sc _ _ _ => sc
  | _ => { kind := .function, names := [], isGenerator := false, isCoroutine := false }

/-! ### no exception leaves a def -/
abbrev CX0 : CXT := fun _ _ _ _ _ _ => False
abbrev E0 : XK := fun _ _ _ => False
theorem pass0 {X : Cx} : Passes CX0 X E0 := fun _ _ _ _ _ _ _ h => h.elim

/-! ### a def (or method) of the text as it stands behind the top -/
structure Fun (K : PySem.W.Frag) (x qual : Str) (st : Stmt) (f : Addr) (fd : FuncData) : Prop where
  ex : ∃ (oc : Value) (od : Option Addr) (kV doc pm : Value) (an : Option Addr) (cdv ct : Value) (osl : Array (Option Value)),
    fd = PySem.W.fnOf x qual (defArgs st) (defBody st) (defScope st) .none kV doc pm an cdv ct ∧ K.lookup f = some ⟨oc, od, .func fd, osl⟩ ∧ PySem.W.codeIn K cdv qual = true
  kp : PySem.W.keepIn K (.ref f) = true
section
variable {P : Program} {w : World} {K : PySem.W.Frag} {mg : Str → Option Value} {base : Heap}
/-- THE RULE for a def: its body as a term of rules, and the reading of that term -/
theorem Fun.ok {x qual : Str} {st : Stmt} {f : Addr} {fd : FuncData} {N ps : List Str} {k : Nat} {sp : Sp} (F : Fun K x qual st f fd) (S : FnScope N ps (defScope st)) (len : ∀ vs H Q E, sp vs H Q E → vs.length = ps.length)
    (hbody : ∀ (cdv : Value) (A : Around) (outer : List Env) (s : Shared) (H : Hp) (vs : List V) (Q : VK) (E : XK), Room k (A.deeper (envOfC qual (defScope st) s.heap.objs.size f cdv)) → sp vs H Q E →
      ∃ t, PSs (cxOf CX0 P w K mg base N qual (defScope st) f cdv A outer s H E).nox (defBody st) t ∧ t { nx := fun _ H' => Q .non H', rt := Q } (start N vs) H) : FnOk P w K mg base CX0 (k + 1) f fd ps sp := by
  obtain ⟨oc, od, kV, doc, pm, an, cdv, ct, osl, rfl, lk, hcd⟩ := F.ex
  refine fn_of lk hcd S len fun A outer s H vs Q E hr hsp => ?_
  obtain ⟨t, h, q⟩ := hbody cdv A outer s H vs Q E hr hsp
  exact ⟨t, h.nox, q⟩
/-- how its arguments bind (no defaults): h is «fun _ _ _ _ _ _ us hl => match us, hl with | [_, _], _ => rfl», one _ a parameter -/
theorem Fun.binds {x qual : Str} {st : Stmt} {f : Addr} {fd : FuncData} {ps : List Str} (F : Fun K x qual st f fd)
    (h : ∀ (kV doc pm : Value) (an : Option Addr) (cdv ct : Value) (us : List Value), us.length = ps.length → bindArgs (PySem.W.fnOf x qual (defArgs st) (defBody st) (defScope st) .none kV doc pm an cdv ct) ⟨us, []⟩ = pure (ps.zip us)) : Binds K fd ps [] := by
  obtain ⟨oc, od, kV, doc, pm, an, cdv, ct, osl, rfl, lk, hcd⟩ := F.ex
  exact .all (h kV doc pm an cdv ct)
theorem fun_mk {x qual : Str} {st : Stmt} {f : Addr} {oc : Value} {od an : Option Addr} {osl : Array (Option Value)} {kV doc pm cdv ct : Value} (l : K.lookup f = some ⟨oc, od, .func (PySem.W.fnOf x qual (defArgs st) (defBody st) (defScope st) .none kV doc pm an cdv ct), osl⟩)
    (c : PySem.W.codeIn K cdv qual = true) (k : PySem.W.keepIn K (.ref f) = true) : Fun K x qual st f (PySem.W.fnOf x qual (defArgs st) (defBody st) (defScope st) .none kV doc pm an cdv ct) := ⟨⟨oc, od, kV, doc, pm, an, cdv, ct, osl, rfl, l, c⟩, k⟩
end
theorem small1000 {n : Nat} (h : n ≤ 1000) : n < sizeLine := Nat.lt_of_le_of_lt h (by decide)

/-! ### expressions in short: the name that stands in the i-th slot -/
section
variable {X : Cx}
theorem pv (i : Nat) {x : Str} {pos : Pos} (hN : X.N[i]? = some x := by rfl) (hv : Vis X.env.scope x := by first | exact Or.inl rfl | exact Or.inr (Or.inl rfl) | exact Or.inr (Or.inr rfl)) (hd : (x == ("__debug__" : Str)) = false := by decide)
    (hcd : (x == ("__classdict__" : Str)) = false := by decide) : PE X (.Name x pos) (tVar i) := pe_var hN hv hd hcd
end

/-! ### tests -/
theorem iteF {A B : Prop} (h : B) : if false = true then A else B := by
  rw [if_neg Bool.false_ne_true]
  exact h
theorem iteT {A B : Prop} (h : A) : if true = true then A else B := by
  rw [if_pos rfl]
  exact h
/-! ### heaps -/
/-- all that was tracked is as it was -/
def Same (H H' : Hp) : Prop := ∀ b o, H b = some o → H' b = some o
theorem Same.refl (H : Hp) : Same H H := fun _ _ h => h
theorem Same.trans {H H1 H2 : Hp} (a : Same H H1) (b : Same H1 H2) : Same H H2 := fun c o h => b c o (a c o h)
theorem Same.free {H H' : Hp} (e : Same H H') {l : Addr} (h : H' l = Option.none) : H l = Option.none := by
  cases q : H l with
  | none => rfl
  | some o =>
    rw [e l o q] at h
    cases h
theorem Same.seq {K : PySem.W.Frag} {H H' : Hp} {a : Addr} {xs : List V} (e : Same H H') (h : SqL K H a xs) : SqL K H' a xs := by
  rcases h with (h | ⟨o, h⟩) | h
  · exact .inl (.inl (e _ _ h))
  · exact .inl (.inr ⟨o, e _ _ h⟩)
  · exact .inr h

/-! ### a dict's pairs: keys that differ -/
section
variable {κ : Type} [DecidableEq κ]
theorem valV_not {kvs : List (κ × V)} {k : κ} (h : valV kvs k = none) : ¬ k ∈ kvs.map (·.1) := by
  intro m
  obtain ⟨p, hp, e⟩ := List.mem_map.mp m
  have q : (kvs.any fun kv => decide (kv.1 = k)) = true := List.any_eq_true.mpr ⟨p, hp, decide_eq_true e⟩
  rw [valV_any, h] at q
  exact absurd q (by simp)
theorem valV_in {kvs : List (κ × V)} {k : κ} {v : V} (h : valV kvs k = some v) : k ∈ kvs.map (·.1) := by
  have q : (kvs.any fun kv => decide (kv.1 = k)) = true := by
    rw [valV_any, h]
    all_goals rfl
  obtain ⟨p, hp, e⟩ := List.any_eq_true.mp q
  exact List.mem_map.mpr ⟨p, hp, of_decide_eq_true e⟩
theorem nd_snoc : ∀ {l : List κ} {k : κ}, l.Nodup → ¬ k ∈ l → (l ++ [k]).Nodup
  | [], k, _, _ => by simp
  | a :: r, k, h, hk => by
    obtain ⟨h1, h2⟩ := List.nodup_cons.mp h
    show (a :: (r ++ [k])).Nodup
    refine List.nodup_cons.mpr ⟨fun m => ?_, nd_snoc h2 fun m => hk (List.mem_cons.mpr (Or.inr m))⟩
    rcases List.mem_append.mp m with q | q
    · exact h1 q
    · exact hk (List.mem_cons.mpr (Or.inl (List.mem_singleton.mp q).symm))
end
/-! ### lists -/
/-- a new instance and its __init__ leave all that was tracked as it was -/
theorem Same.made {H H1 : Hp} {x dx C : Addr} (nx : H x = Option.none) (nd : H dx = Option.none) (k : ∀ b o, (upd (upd H dx (.own x)) x (.ins C dx [])) b = some o → b ≠ x → H1 b = some o) : Same H H1 := fun b o e =>
  k b o (by rw [upd_ne (ne_of_none e nx), upd_ne (ne_of_none e nd)]; exact e) (ne_of_none e nx)
end L2

namespace L2
open PySem PySem.Spec PyProof.Rows

/-! ### loops and comprehensions, the walked thing apart from the invariant -/
def ForW (J : It) (g : TG) (tb : TS) (D : Ends) (σ : St) (H1 : Hp) : Prop := ∃ W : Nat → Nat → St → Hp → Prop, (∃ m, W 0 m σ H1) ∧ ∀ i m σ H, W i m σ H →
  (J.stop i H ∧ D.nx σ H) ∨ (J.go i H ∧ ∃ N : St → Hp → Prop, (∀ σ' H', N σ' H' → ∃ m', m' < m ∧ W (i + 1) m' σ' H') ∧ ∀ x H', J.yld i H x H' → g x σ H' fun σ2 H2 => tb { D with nx := N, ct := N, bk := D.nx } σ2 H2)
@[reducible] def tForR (wi : TI) (g : TG) (tb : TS) : TS := fun D σ H => wi σ H fun J H1 => ForW J g tb D σ H1
def WhW (c : TT) (tb : TS) (D : Ends) (σ : St) (H : Hp) : Prop := tWhile c tb D σ H
@[reducible] def tWhR (c : TT) (tb : TS) : TS := fun D σ H => WhW c tb D σ H
def LcW (J : It) (g : TG) (tt : TT) (te : TE) (vs : List Nat) (σ : St) (H1 : Hp) (Q : VK) : Prop := ∀ D, H1 D = none → ∃ W : Nat → Nat → Hp → Prop, (∃ m, W 0 m (upd H1 D (.lst []))) ∧ ∀ i m H, W i m H →
  (J.stop i H ∧ Q (.ref D) H) ∨ (J.go i H ∧ ∃ Nx : Hp → Prop, (∀ H', Nx H' → ∃ m', m' < m ∧ W (i + 1) m' H') ∧ ∀ x H', J.yld i H x H' → g x (wipe σ vs) H' fun σ2 H2 => wipe σ2 vs = wipe σ vs ∧ tt σ2 H2 fun b H3 =>
    if b = true then te σ2 H3 fun y H4 => ∃ acc, H4 D = some (.lst acc) ∧ acc.length < sizeLine ∧ Nx (upd H4 D (.lst (acc ++ [y]))) else Nx H3)
@[reducible] def tLcR (wi : TI) (g : TG) (tt : TT) (te : TE) (vs : List Nat) : TE := fun σ H Q => wi σ H fun J H1 => LcW J g tt te vs σ H1 Q
section
variable {X : Cx} {tg : Expr}
theorem ps_forR {iter : Expr} {body : List Stmt} {wi : TI} {g : TG} {tb : TS} {pos : Pos} (hi : PI X tg iter wi) (hg : PG X tg g) (hb : PSs X body tb)
    (hp : PassesOwn (model X.prog X.w) X.A X.env X.xe := by exact PassesOwn.never) (hc : X.calm = true := by rfl)
    (hs : ∀ x, foldedSetIterable iter X.env x = pure x := by intro _; rfl) : PS X (.For tg iter body [] pos) (tForR wi g tb) := ps_for hp hc hi hg hb hs
theorem ps_whR {c : Expr} {body : List Stmt} {tc : TT} {tb : TS} {pos : Pos} (hc : PT X c tc) (hb : PSs X body tb) (hp : PassesOwn (model X.prog X.w) X.A X.env X.xe := by exact PassesOwn.never) : PS X (.While c body [] pos) (tWhR tc tb) := ps_while hp hc hb
theorem pe_lcR {elt iter : Expr} {ifs : List Expr} {scope : Scope} {own : List (Str × Nat)} {pos : Pos} {wi : TI} {g : TG} {tt : TT} {te : TE} (hN : X.N.Nodup) (hi : PI X tg iter wi) (ok : BlkOk X.N X.env.scope scope own)
    (hg : ∀ (s : Shared) (H : Hp) (C : Addr) (cl : List (Str × Addr)) (fp : List Addr), PG (X.blk s H scope (compEnvC scope cl C X.env) fp) tg g) (ht : ∀ (s : Shared) (H : Hp) (C : Addr) (cl : List (Str × Addr)) (fp : List Addr), PTs (X.blk s H scope (compEnvC scope cl C X.env) fp) ifs tt)
    (he : ∀ (s : Shared) (H : Hp) (C : Addr) (cl : List (Str × Addr)) (fp : List Addr), PE (X.blk s H scope (compEnvC scope cl C X.env) fp) elt te) (hc : X.calm = true := by rfl) (hs : ∀ x, foldedSetIterable iter X.env x = pure x := by intro _; rfl) :
    PE X (.ListComp elt [⟨tg, iter, ifs, 0⟩] scope pos) (tLcR wi g tt te (own.map (·.2))) := pe_lc hc hN hi ok hg ht he hs
theorem ps_setLcR {i : Nat} {y : Str} {py : Pos} {elt iter : Expr} {ifs : List Expr} {scope : Scope} {own : List (Str × Nat)} {pos spos : Pos} {wi : TI} {g : TG} {tt : TT} {te : TE} (hN : X.N.Nodup) (hy : X.N[i]? = some y) (hyl : X.env.scope.names.lookup y = some .local)
    (hsw : swapsWith (.ListComp elt [⟨tg, iter, ifs, 0⟩] scope pos) (some (.Name y py)) spos.line X.env = pure true) (hi : PI X tg iter wi) (ok : BlkOk X.N X.env.scope scope own)
    (hg : ∀ (s : Shared) (H : Hp) (C : Addr) (cl : List (Str × Addr)) (fp : List Addr), PG (X.blk s H scope (compEnvC scope cl C X.env) fp) tg g) (ht : ∀ (s : Shared) (H : Hp) (C : Addr) (cl : List (Str × Addr)) (fp : List Addr), PTs (X.blk s H scope (compEnvC scope cl C X.env) fp) ifs tt)
    (he : ∀ (s : Shared) (H : Hp) (C : Addr) (cl : List (Str × Addr)) (fp : List Addr), PE (X.blk s H scope (compEnvC scope cl C X.env) fp) elt te) (hc : X.calm = true := by rfl) (hs : ∀ x, foldedSetIterable iter X.env x = pure x := by intro _; rfl) :
    PS X (.Assign [.Name y py] (.ListComp elt [⟨tg, iter, ifs, 0⟩] scope pos) spos) (tAsg (tLcR wi g tt te (own.map (·.2))) (gName i)) := ps_setLc hc hN hy hyl hsw hi ok hg ht he hs
end
theorem forR_list {K : PySem.W.Frag} {a : Addr} {xs : List V} {g : TG} {tb : TS} {D : Ends} {σ : St} {H : Hp} (Pv : Nat → St → Hp → Prop) (h0 : Pv 0 σ H) (hl : ∀ i σ H, i ≤ xs.length → Pv i σ H → H a = some (.lst xs))
    (hs : ∀ i x σ H, xs[i]? = some x → Pv i σ H → g x σ H fun σ2 H2 => tb { D with nx := Pv (i + 1), ct := Pv (i + 1), bk := D.nx } σ2 H2) (hd : ∀ σ H, Pv xs.length σ H → D.nx σ H) : ForW (Itl K a) g tb D σ H :=
  for_list Pv h0 (fun i σ H hi p => SqL.of (hl i σ H hi p)) hs hd
theorem forR_tup {K : PySem.W.Frag} {a : Addr} {xs : List V} {g : TG} {tb : TS} {D : Ends} {σ : St} {H : Hp} (Pv : Nat → St → Hp → Prop) (h0 : Pv 0 σ H) (hl : ∀ i σ H, i ≤ xs.length → Pv i σ H → H a = some (.tup xs))
    (hs : ∀ i x σ H, xs[i]? = some x → Pv i σ H → g x σ H fun σ2 H2 => tb { D with nx := Pv (i + 1), ct := Pv (i + 1), bk := D.nx } σ2 H2) (hd : ∀ σ H, Pv xs.length σ H → D.nx σ H) : ForW (Itt K a) g tb D σ H :=
  for_tup Pv h0 (fun i σ H hi p => SqT.of (hl i σ H hi p)) hs hd
theorem forR_range {lo : Int} {n : Nat} {g : TG} {tb : TS} {D : Ends} {σ : St} {H : Hp} (Pv : Nat → St → Hp → Prop) (h0 : Pv 0 σ H)
    (hs : ∀ i σ H, i < n → Pv i σ H → g (.int (lo + i)) σ H fun σ2 H2 => tb { D with nx := Pv (i + 1), ct := Pv (i + 1), bk := D.nx } σ2 H2) (hd : ∀ σ H, Pv n σ H → D.nx σ H) : ForW (Itr lo n) g tb D σ H :=
  for_range Pv h0 hs hd
theorem whR_by {c : TT} {tb : TS} {D : Ends} {σ : St} {H : Hp} (Pv : St → Hp → Prop) (μ : St → Hp → Nat) (h0 : Pv σ H)
    (hs : ∀ σ H, Pv σ H → c σ H fun b H1 => if b = true then ∃ N : St → Hp → Prop, (∀ σ' H', N σ' H' → ∃ m', m' < μ σ H ∧ m' = μ σ' H' ∧ Pv σ' H') ∧ tb { D with nx := N, ct := N, bk := D.nx } σ H1 else D.nx σ H1) : WhW c tb D σ H := by
  refine ⟨fun m σ H => m = μ σ H ∧ Pv σ H, ⟨_, rfl, h0⟩, ?_⟩
  rintro m σ H ⟨rfl, p⟩
  exact hs σ H p
/-- one turn of a comprehension, in short -/
@[reducible] def LcT (D : Addr) (g : TG) (tt : TT) (te : TE) (vs : List Nat) (σ : St) (x : V) (H : Hp) (Nx : Hp → Prop) : Prop :=
  g x (wipe σ vs) H fun σ2 H2 => wipe σ2 vs = wipe σ vs ∧ tt σ2 H2 fun b H3 => if b = true then te σ2 H3 fun y H4 => ∃ acc, H4 D = some (.lst acc) ∧ acc.length < sizeLine ∧ Nx (upd H4 D (.lst (acc ++ [y]))) else Nx H3
theorem lcR_range {lo : Int} {n : Nat} {g : TG} {tt : TT} {te : TE} {vs : List Nat} {σ : St} {H1 : Hp} {Q : VK} (h : ∀ D, H1 D = none → ∃ Pv : Nat → Hp → Prop, Pv 0 (upd H1 D (.lst [])) ∧
    (∀ i H, i < n → Pv i H → LcT D g tt te vs σ (.int (lo + i)) H (Pv (i + 1))) ∧ (∀ H, Pv n H → Q (.ref D) H)) : LcW (Itr lo n) g tt te vs σ H1 Q := by
  intro D hD
  obtain ⟨Pv, h0, hs, hd⟩ := h D hD
  exact lc_range Pv h0 hs hd
theorem lcR_list {K : PySem.W.Frag} {a : Addr} {xs : List V} {g : TG} {tt : TT} {te : TE} {vs : List Nat} {σ : St} {H1 : Hp} {Q : VK} (h : ∀ D, H1 D = none → ∃ Pv : Nat → Hp → Prop, Pv 0 (upd H1 D (.lst [])) ∧ (∀ i H, i ≤ xs.length → Pv i H → H a = some (.lst xs)) ∧
    (∀ i x H, xs[i]? = some x → Pv i H → LcT D g tt te vs σ x H (Pv (i + 1))) ∧ (∀ H, Pv xs.length H → Q (.ref D) H)) : LcW (Itl K a) g tt te vs σ H1 Q := by
  intro D hD
  obtain ⟨Pv, h0, hl, hs, hd⟩ := h D hD
  exact lc_list Pv h0 (fun i H hi p => SqL.of (hl i H hi p)) hs hd
theorem lcR_tup {K : PySem.W.Frag} {a : Addr} {xs : List V} {g : TG} {tt : TT} {te : TE} {vs : List Nat} {σ : St} {H1 : Hp} {Q : VK} (h : ∀ D, H1 D = none → ∃ Pv : Nat → Hp → Prop, Pv 0 (upd H1 D (.lst [])) ∧ (∀ i H, i ≤ xs.length → Pv i H → H a = some (.tup xs)) ∧
    (∀ i x H, xs[i]? = some x → Pv i H → LcT D g tt te vs σ x H (Pv (i + 1))) ∧ (∀ H, Pv xs.length H → Q (.ref D) H)) : LcW (Itt K a) g tt te vs σ H1 Q := by
  intro D hD
  obtain ⟨Pv, h0, hl, hs, hd⟩ := h D hD
  exact lc_tup Pv h0 (fun i H hi p => SqT.of (hl i H hi p)) hs hd

/-! ### simple rules over tracked things (no SqL, SqT in the reading) -/
section
variable {X : Cx} {e : Expr} {es : List Expr} {te : TE} {t : TA} {pos : Pos}
end
section
variable {X : Cx}
end
end L2

namespace L2
open PySem PySem.Spec PyProof.Rows
/-! ### argument lists without stars, whatever their parts are -/
def notStar : Expr → Bool
  | .Starred _ _ => false
  | _ => true
theorem star_plain {e : Expr} {es : List Expr} {env : Env} (h : notStar e = true) : starEach (e :: es) env = (false, eval e env) :: starEach es env := by
  cases e <;> first
    | rfl
    | cases h
theorem any_plain {pos : Pos} {env : Env} : ∀ {es : List Expr}, es.all notStar = true → (backTo pos (starEach es env)).any (·.1) = false
  | [], _ => rfl
  | e :: es, h => by
    rw [List.all_cons, Bool.and_eq_true] at h
    rw [star_plain h.1]
    show (false || (backTo pos (starEach es env)).any (·.1)) = false
    rw [any_plain h.2]
    rfl
theorem pa_c {X : Cx} {e : Expr} {es : List Expr} {te : TE} {t : TA} (ha : PE X e te) (hr : PA X es t) (h : notStar e = true := by rfl) : PA X (e :: es) (tCons te t) := pa_cons ha hr (star_plain h)
section
variable {X : Cx} {x : Str} {p pos : Pos} {e : Expr} {es : List Expr} {t : TA} {id T : String} {r : List V → Hp → VK → Prop}
theorem pe_cB (hc : CallR X (.builtin id) r) (hg : Gl X x) (hm : X.mg x = none) (hv : bootBuiltins x = some (.builtin id)) (ha : PA X (e :: es) t) (h : (e :: es).all notStar = true := by rfl) (hn : x ≠ "__name__" := by decide) (hdb : (x == ("__debug__" : Str)) = false := by decide) :
    PE X (.Call (.Name x p) (e :: es) [] pos) (tCB r t) := by
  rw [List.all_cons, Bool.and_eq_true] at h
  exact pe_callB hc hg hm hv ha hn hdb (star_plain h.1) (any_plain h.2)
theorem pe_cT (hc : CallR X (.type T) r) (hg : Gl X x) (hm : X.mg x = none) (hv : bootBuiltins x = some (.type T)) (ha : PA X (e :: es) t) (h : (e :: es).all notStar = true := by rfl) (hn : x ≠ "__name__" := by decide) (hdb : (x == ("__debug__" : Str)) = false := by decide) :
    PE X (.Call (.Name x p) (e :: es) [] pos) (tCB r t) := by
  rw [List.all_cons, Bool.and_eq_true] at h
  exact pe_callTy hc hg hm hv ha hn hdb (star_plain h.1) (any_plain h.2)
end
/-! ### rules over tracked lists and tuples alone: their readings do not speak of the written part -/
theorem OpR.imp {X : Cx} {f : Value → Value → Sem Value} {r r' : R2} (h : OpR X f r) (i : ∀ x y H Q, r' x y H Q → r x y H Q) : OpR X f r' := fun pins s σ H x y v u Q I rx ry q => h pins s σ H x y v u Q I rx ry (i x y H Q q)
theorem IxR.imp {X : Cx} {r r' : R2} (h : IxR X r) (i : ∀ x y H Q, r' x y H Q → r x y H Q) : IxR X r' := fun value slice pins s σ H x y v u Q I rx ry q hs => h value slice pins s σ H x y v u Q I rx ry (i x y H Q q) hs
theorem CallR.imp {X : Cx} {f : Value} {r r' : List V → Hp → VK → Prop} (h : CallR X f r) (i : ∀ xs H Q, r' xs H Q → r xs H Q) : CallR X f r' := fun pins s σ H xs us Q I rv q => h pins s σ H xs us Q I rv (i xs H Q q)
theorem SlR.imp {X : Cx} {r r' : V → Option Int → Option Int → Hp → VK → Prop} (h : SlR X r) (i : ∀ x lo hi H Q, r' x lo hi H Q → r x lo hi H Q) : SlR X r' := fun pins s σ H x v vl vu lo hi sl Q I rx hs pl pu q => h pins s σ H x v vl vu lo hi sl Q I rx hs pl pu (i x lo hi H Q q)
theorem MtR.imp {X : Cx} {id : String} {r r' : V → List V → Hp → VK → Prop} (h : MtR X id r) (i : ∀ x xs H Q, r' x xs H Q → r x xs H Q) : MtR X id r' := fun pins s σ H x xs v us Q I rx rv q => h pins s σ H x xs v us Q I rx rv (i x xs H Q q)
section
variable {X : Cx}
@[reducible] def rIxL0 : R2 := fun x y H Q => ∃ p xs i v, x = .ref p ∧ y = .int i ∧ H p = some (.lst xs) ∧ atI xs i = some v ∧ Q v H
@[reducible] def rIxT0 : R2 := fun x y H Q => ∃ p xs i v, x = .ref p ∧ y = .int i ∧ H p = some (.tup xs) ∧ atI xs i = some v ∧ Q v H
theorem ixL : IxR X rIxL0 := ix_list.imp fun _ _ _ _ ⟨p, xs, i, v, a, b, c, d⟩ => ⟨p, xs, i, v, a, b, SqL.of c, d⟩
theorem ixT : IxR X rIxT0 := ix_tup.imp fun _ _ _ _ ⟨p, xs, i, v, a, b, c, d⟩ => ⟨p, xs, i, v, a, b, SqT.of c, d⟩
@[reducible] def rSlL0 : V → Option Int → Option Int → Hp → VK → Prop := fun x lo hi H Q => ∃ a xs, x = .ref a ∧ H a = some (.lst xs) ∧ ∀ p, H p = none → Q (.ref p) (upd H p (.lst (cutV xs lo hi)))
theorem slL : SlR X rSlL0 := sl_list.imp fun _ _ _ _ _ ⟨a, xs, e, h, q⟩ => ⟨a, xs, e, SqL.of h, q⟩
theorem call_lenL : CallR X (.builtin "len") (fun xs H Q => ∃ p ys, xs = [.ref p] ∧ H p = some (.lst ys) ∧ Q (.int ys.length) H) := call_len_seq.imp fun _ _ _ ⟨p, ys, e, h, q⟩ => ⟨p, ys, e, .inl (SqL.of h), q⟩
theorem call_lenT : CallR X (.builtin "len") (fun xs H Q => ∃ p ys, xs = [.ref p] ∧ H p = some (.tup ys) ∧ Q (.int ys.length) H) := call_len_seq.imp fun _ _ _ ⟨p, ys, e, h, q⟩ => ⟨p, ys, e, .inr (SqT.of h), q⟩
theorem call_tupL : CallR X (.type "tuple") (fun xs H Q => ∃ p ys, xs = [.ref p] ∧ H p = some (.lst ys) ∧ ∀ l, H l = none → Q (.ref l) (upd H l (.tup ys))) := call_tuple_of.imp fun _ _ _ ⟨p, ys, e, h, q⟩ => ⟨p, ys, e, .inl ⟨SqL.of h, q⟩⟩
theorem inL : OpR X (compareOp .In) (fun x y H Q => ∃ p xs, y = .ref p ∧ H p = some (.lst xs) ∧ flatV x = true ∧ xs.all flatV = true ∧ Q (.bl (inV x xs)) H) := op_in_seq.imp fun _ _ _ _ ⟨p, xs, e, h, a, b, q⟩ => ⟨p, xs, e, .inl (SqL.of h), a, b, q⟩
theorem inT : OpR X (compareOp .In) (fun x y H Q => ∃ p xs, y = .ref p ∧ H p = some (.tup xs) ∧ flatV x = true ∧ xs.all flatV = true ∧ Q (.bl (inV x xs)) H) := op_in_seq.imp fun _ _ _ _ ⟨p, xs, e, h, a, b, q⟩ => ⟨p, xs, e, .inr (SqT.of h), a, b, q⟩
theorem notInL : OpR X (compareOp .NotIn) (fun x y H Q => ∃ p xs, y = .ref p ∧ H p = some (.lst xs) ∧ flatV x = true ∧ xs.all flatV = true ∧ Q (.bl (!inV x xs)) H) := op_notIn_seq.imp fun _ _ _ _ ⟨p, xs, e, h, a, b, q⟩ => ⟨p, xs, e, .inl (SqL.of h), a, b, q⟩
theorem notInT : OpR X (compareOp .NotIn) (fun x y H Q => ∃ p xs, y = .ref p ∧ H p = some (.tup xs) ∧ flatV x = true ∧ xs.all flatV = true ∧ Q (.bl (!inV x xs)) H) := op_notIn_seq.imp fun _ _ _ _ ⟨p, xs, e, h, a, b, q⟩ => ⟨p, xs, e, .inr (SqT.of h), a, b, q⟩
@[reducible] def gTup0 (n : Nat) (t : TGs) : TG := fun v σ H Q => ∃ a xs, v = .ref a ∧ H a = some (.tup xs) ∧ xs.length = n ∧ t xs σ H Q
theorem pgT {es : List Expr} {k : Nat} {t : TGs} {n : Nat} {pos : Pos} (h : PGs X es t) (hc : X.calm = true := by rfl)
    (hn : (assignEach es X.env).length = n := by rfl) (hst : (assignEach es X.env).findIdx? (·.1) = none := by rfl) : PG X (.Tuple es k pos) (gTup0 n t) := fun pins s σ H v u Q I r ⟨a, xs, e, hq, hl, hw⟩ => pg_tup hc h hn hst pins s σ H v u Q I r ⟨a, xs, e, SqT.of hq, hl, hw⟩
variable {o e : Expr} {to te : TE} {apos cpos pos : Pos}
@[reducible] def rJoinL : V → List V → Hp → VK → Prop := fun x xs H Q => ∃ a p, ∃ ys : List Str, x = .str a ∧ xs = [.ref p] ∧ H p = some (.lst (ys.map V.str)) ∧ (ys.map (·.length)).sum + ys.length * a.length ≤ 16777216 ∧ Q (.str (Txt.join a ys)) H
theorem pe_joinL (ho : PE X o to) (he : PE X e te) (hs : starEach [e] X.env = [(false, eval e X.env)] := by exact star_plain rfl) (hbase : attributeBase o "join" X.env (eval o X.env) = eval o X.env := by rfl) (hline : (apos.endLine == cpos.line) = true := by rfl) :
    PE X (.Call (.Attribute o "join" apos) [e] [] cpos) (tM1 rJoinL to te) :=
  pe_m1 F.slot_str_join F.type_str_join (mt_join.imp fun _ _ _ _ ⟨a, p, ys, h1, h2, h3, h4⟩ => ⟨a, p, ys, h1, h2, .inl (SqL.of h3), h4⟩) ho he hs hbase hline
/-- a method of a tracked list -/
@[reducible] def tBML (r : V → List V → Hp → VK → Prop) (to : TE) (t : TA) : TE := fun σ H Q => to σ H fun x H1 => ∃ p xs, x = .ref p ∧ H1 p = some (.lst xs) ∧ t σ H1 fun ys H2 => r x ys H2 Q
variable {es : List Expr} {t : TA} {name : Str} {id : String} {r : V → List V → Hp → VK → Prop}
theorem pe_bmL (slot : Slot "list" name id) (hty : typeOf (.builtin id) = pure (.type "method_descriptor")) (hm : MtR X id r) (ho : PE X o to) (ha : PA X (e :: es) t)
    (hbase : attributeBase o name X.env (eval o X.env) = eval o X.env := by rfl)
    (hfew : ((backTo cpos (starEach (e :: es) X.env)).all (fun x => !x.1) && (backToKw cpos (keywordEach [] X.env)).all (fun x => x.1.isSome)
      && decide ((e :: es).length + ([] : List Keyword).length + (if ([] : List Keyword).isEmpty then 0 else 1) < 30)) = true := by rfl)
    (hline : (apos.endLine == cpos.line) = true := by rfl) (hs : starEach (e :: es) X.env = (false, eval e X.env) :: starEach es X.env := by rfl) (hplain : (backTo cpos (starEach es X.env)).any (·.1) = false := by rfl) :
    PE X (.Call (.Attribute o name apos) (e :: es) [] cpos) (tBML r to t) := by
  intro pins s σ H Q I h
  refine wpAny_Call_method_late hbase hfew hline rfl (thn (ho pins s σ H _ I h) fun v s1 ⟨x, H1, I1, r1, p, xs, ex, hp, q1⟩ => ?_)
  obtain ⟨h1, h2⟩ := tyV_is I1 r1 (T := "list") (by rw [ex]; exact .inl ⟨rfl, xs, SqL.of hp⟩)
  refine ⟨"list", id, PySem.F.plainAttrs_list, slot, hty, h1, h2, ?_⟩
  have hA := ha cpos pins s1 σ H1 _ I1 q1
  rw [hs] at hA ⊢
  refine Calls.callWith_builtin (by show (false || (backTo cpos (starEach es X.env)).any (·.1)) = false; rw [hplain] <;> rfl) (Calls.evalArgs_plain ?_)
  exact thn hA fun us s2 ⟨vs, H2, I2, r2, q2⟩ => hm pins s2 σ H2 x vs v us Q I2 r1 r2 q2
theorem pe_append (ho : PE X o to) (he : PE X e te) (hs : starEach [e] X.env = [(false, eval e X.env)] := by exact star_plain rfl)
    (hbase : attributeBase o "append" X.env (eval o X.env) = eval o X.env := by rfl)
    (hfew : ((backTo cpos (starEach [e] X.env)).all (fun x => !x.1) && (backToKw cpos (keywordEach [] X.env)).all (fun x => x.1.isSome)
      && decide ([e].length + ([] : List Keyword).length + (if ([] : List Keyword).isEmpty then 0 else 1) < 30)) = true := by rfl)
    (hline : (apos.endLine == cpos.line) = true := by rfl) : PE X (.Call (.Attribute o "append" apos) [e] [] cpos) (tBML rAppend to (tCons te tNil)) :=
  pe_bmL PySem.F.slot_list_append PySem.F.type_list_append mt_append ho (pa_cons he pa_nil hs) hbase hfew hline hs
theorem pe_popAt (ho : PE X o to) (he : PE X e te) (hs : starEach [e] X.env = [(false, eval e X.env)] := by exact star_plain rfl)
    (hbase : attributeBase o "pop" X.env (eval o X.env) = eval o X.env := by rfl)
    (hfew : ((backTo cpos (starEach [e] X.env)).all (fun x => !x.1) && (backToKw cpos (keywordEach [] X.env)).all (fun x => x.1.isSome)
      && decide ([e].length + ([] : List Keyword).length + (if ([] : List Keyword).isEmpty then 0 else 1) < 30)) = true := by rfl)
    (hline : (apos.endLine == cpos.line) = true := by rfl) : PE X (.Call (.Attribute o "pop" apos) [e] [] cpos) (tBML rPopAt to (tCons te tNil)) :=
  pe_bmL PySem.F.slot_list_pop PySem.F.type_list_pop mt_popAt ho (pa_cons he pa_nil hs) hbase hfew hline hs
end
end L2

namespace L2
open PySem PySem.Spec PyProof.Rows

/-- a def of the text, as its callers see it -/
structure Fn (P : Program) (w : World) (K : PySem.W.Frag) (mg : Str → Option Value) (base : Heap) (x : Str) (k : Nat) (ps : List Str) (sp : Sp) : Prop where
  ex : ∃ (f : Addr) (fd : FuncData), FnOk P w K mg base CX0 k f fd ps sp ∧ mg x = some (.ref f) ∧ PySem.W.keepIn K (.ref f) = true ∧ Binds K fd ps []
theorem pe_fn {X : Cx} {x : Str} {k : Nat} {ps : List Str} {sp : Sp} {p pos : Pos} {e : Expr} {es : List Expr} {t : TA} (F : Fn X.prog X.w X.K X.mg X.base x k ps sp) (hr : Room k X.A) (hg : Gl X x)
    (ha : PA X (e :: es) t) (h : (e :: es).all notStar = true := by rfl) (hdb : (x == ("__debug__" : Str)) = false := by decide) :
    PE X (.Call (.Name x p) (e :: es) [] pos) (tCall sp [] E0 t) := by
  obtain ⟨f, fd, F, hm, hk, hb⟩ := F.ex
  rw [List.all_cons, Bool.and_eq_true] at h
  exact pe_call F hr hg hm hk hb .nil pass0 ha hdb (star_plain h.1) (any_plain h.2)
theorem Fun.fn {P : Program} {w : World} {K : PySem.W.Frag} {mg : Str → Option Value} {base : Heap} {x qual : Str} {st : Stmt} {f : Addr} {fd : FuncData} {k : Nat} {ps : List Str} {sp : Sp} (F : Fun K x qual st f fd) (hm : mg x = some (.ref f)) (hb : Binds K fd ps [])
    (G : FnOk P w K mg base CX0 k f fd ps sp) : Fn P w K mg base x k ps sp := ⟨f, fd, G, hm, F.kp, hb⟩

/-- the built-in names that the text leaves as they are -/
structure Bl (mg : Str → Option Value) : Prop where
  b_len : mg "len" = none
  b_range : mg "range" = none
  b_list : mg "list" = none
  b_tuple : mg "tuple" = none
  b_sum : mg "sum" = none
  b_str : mg "str" = none
  b_int : mg "int" = none
  b_bool : mg "bool" = none
  b_dict : mg "dict" = none
  b_set : mg "set" = none
  b_isinstance : mg "isinstance" = none
  b_min : mg "min" = none
  b_max : mg "max" = none
  b_zip : mg "zip" = none
  b_all : mg "all" = none
  b_enumerate : mg "enumerate" = none
  b_reversed : mg "reversed" = none

theorem ne_of_none' {H : Hp} {a b : Addr} {o : HO} (h' : H b = none) (h : H a = some o) : a ≠ b := ne_of_none h h'
theorem cmulL {i j : Int} (h1 : -18446744073709551616 < i) (h2 : i < 18446744073709551616) : CMul i j := .inl ⟨h1, h2⟩
theorem cmulR {i j : Int} (h1 : -18446744073709551616 < j) (h2 : j < 18446744073709551616) : CMul i j := .inr ⟨h1, h2⟩
theorem cdivI {i j : Int} (h1 : 0 < j) (h2 : j < 1073741824) : CDiv i j := ⟨h1, h2⟩
theorem cpowI : CPow 10 18 := ⟨by decide, by decide, by decide⟩
/-! ### what stays -/
def Keep (d : Addr) (H H' : Hp) : Prop := ∀ b o, H b = some o → b ≠ d → H' b = some o
theorem Keep.refl {d : Addr} {H : Hp} : Keep d H H := fun _ _ h _ => h
theorem Keep.trans {d : Addr} {H H1 H2 : Hp} (a : Keep d H H1) (b : Keep d H1 H2) : Keep d H H2 := fun c o h n => b c o (a c o h n) n
theorem Keep.get {d : Addr} {H H' : Hp} {b : Addr} {o : HO} (k : Keep d H H') (h : H b = some o) (n : b ≠ d) : H' b = some o := k b o h n
theorem Keep.new {d p : Addr} {H H' : Hp} {o : HO} (k : Keep d H H') (hp : H' p = none) : Keep d H (upd H' p o) := fun c u h n => by
  have q := k c u h n
  rw [upd_ne (ne_of_none q hp)]
  exact q
theorem Keep.at {d : Addr} {H H' : Hp} {o : HO} (k : Keep d H H') : Keep d H (upd H' d o) := fun c u h n => by
  rw [upd_ne n]
  exact k c u h n
theorem Keep.put {d p : Addr} {H H' : Hp} {o : HO} (k : Keep d H H') (hp : H p = none) : Keep d H (upd H' p o) := fun c u h n => by
  rw [upd_ne (ne_of_none h hp)]
  exact k c u h n
theorem Keep.free {d : Addr} {H H' : Hp} {p : Addr} (k : Keep d H H') (h : H' p = none) (n : p ≠ d) : H p = none := by
  cases q : H p with
  | none => rfl
  | some o => rw [k p o q n] at h; cases h
theorem Same.new {p : Addr} {H H' : Hp} {o : HO} (k : Same H H') (hp : H' p = none) : Same H (upd H' p o) := fun c u h => by
  have q := k c u h
  rw [upd_ne (ne_of_none q hp)]
  exact q
theorem Same.put {p : Addr} {H H' : Hp} {o : HO} (k : Same H H') (hp : H p = none) : Same H (upd H' p o) := fun c u h => by
  rw [upd_ne (ne_of_none h hp)]
  exact k c u h
theorem Same.keep {d : Addr} {H H' : Hp} (k : Same H H') : Keep d H H' := fun c o h _ => k c o h
theorem iteD {c A B : Prop} [Decidable c] (h1 : c → A) (h2 : ¬ c → B) : if decide c = true then A else B := by
  by_cases h : c
  · rw [decide_eq_true h]
    exact iteT (h1 h)
  · rw [decide_eq_false h]
    exact iteF (h2 h)
theorem iteN {c A B : Prop} [Decidable c] (h1 : ¬ c → A) (h2 : c → B) : if (!decide c) = true then A else B := by
  by_cases h : c
  · rw [decide_eq_true h]
    exact iteF (h2 h)
  · rw [decide_eq_false h]
    exact iteT (h1 h)
theorem iteB {c : Bool} {A B : Prop} (h1 : c = true → A) (h2 : c = false → B) : if c = true then A else B := by
  cases c with
  | true => exact iteT (h1 rfl)
  | false => exact iteF (h2 rfl)
/-! ### the deck of the laws' draws -/
structure Deck (H : Hp) (d a : Addr) (n : Nat) : Prop where
  ex : ∃ (ns : List Int) (i c j t : Int), H d = some (.lst [.ref a, .int i, .int c, .int j, .int t]) ∧ H a = some (.lst (ns.map V.int)) ∧ ns.length ≤ 63 ∧ 0 ≤ i ∧ 0 ≤ c ∧ 0 ≤ j ∧ j ≤ n ∧ i ≤ 63
section
variable {H H' : Hp} {d a p : Addr} {n m : Nat} {o : HO}
theorem Deck.mono (D : Deck H d a n) (h : n ≤ m) : Deck H d a m := by
  obtain ⟨ns, i, c, j, t, h1, h2, h3, h4, h5, h6, h7, h8⟩ := D.ex
  exact ⟨ns, i, c, j, t, h1, h2, h3, h4, h5, h6, by omega, h8⟩
theorem Deck.lst (D : Deck H d a n) : ∃ xs, H d = some (.lst xs) := by
  obtain ⟨ns, i, c, j, t, h1, _⟩ := D.ex
  exact ⟨_, h1⟩
theorem Deck.lst2 (D : Deck H d a n) : ∃ xs, H a = some (.lst xs) := by
  obtain ⟨ns, i, c, j, t, h1, h2, _⟩ := D.ex
  exact ⟨_, h2⟩
theorem Deck.nad (D : Deck H d a n) : a ≠ d := by
  obtain ⟨ns, i, c, j, t, h1, h2, _⟩ := D.ex
  exact ne_of h2 h1 (by intro z; cases ns <;> cases z)
theorem Deck.same (D : Deck H d a n) (k : Same H H') : Deck H' d a n := by
  obtain ⟨ns, i, c, j, t, h1, h2, h⟩ := D.ex
  exact ⟨ns, i, c, j, t, k _ _ h1, k _ _ h2, h⟩
theorem Deck.new (D : Deck H d a n) (hp : H p = none) : Deck (upd H p o) d a n := D.same (Same.new (Same.refl H) hp)
theorem Deck.put (D : Deck H d a n) (hd : p ≠ d) (ha : p ≠ a) : Deck (upd H p o) d a n := by
  obtain ⟨ns, i, c, j, t, h1, h2, h⟩ := D.ex
  exact ⟨ns, i, c, j, t, (upd_ne (Ne.symm hd)).trans h1, (upd_ne (Ne.symm ha)).trans h2, h⟩
theorem Deck.ne_tup {xs : List V} (D : Deck H d a n) (h : H p = some (.tup xs)) : p ≠ d := by
  obtain ⟨ys, hd⟩ := D.lst
  exact ne_of h hd (by intro z; cases z)
/-- what is free here is neither of the deck's lists -/
theorem Deck.free1 (D : Deck H d a n) (h : H p = none) : p ≠ d := by
  obtain ⟨ys, hd⟩ := D.lst
  exact (ne_of_none hd h).symm
theorem Deck.free2 (D : Deck H d a n) (h : H p = none) : p ≠ a := by
  obtain ⟨ys, hd⟩ := D.lst2
  exact (ne_of_none hd h).symm
end

theorem atI_some {α : Type} {xs : List α} {i : Int} (h0 : 0 ≤ i) (h1 : i < xs.length) : ∃ v, atI xs i = some v ∧ v ∈ xs := by
  obtain ⟨k, rfl⟩ := Int.eq_ofNat_of_zero_le h0
  have hk : k < xs.length := by omega
  exact ⟨xs[k], atI_nat (by simp [hk]), List.getElem_mem hk⟩
theorem atI_ints {ns : List Int} {i : Int} (h0 : 0 ≤ i) (h1 : i < (ns.map V.int).length) : ∃ z, atI (ns.map V.int) i = some (.int z) := by
  obtain ⟨v, e, m⟩ := atI_some h0 h1
  obtain ⟨z, _, rfl⟩ := List.mem_map.mp m
  exact ⟨z, e⟩
end L2

namespace L2
open PySem PySem.Spec PyProof.Rows
/-! ### a cut between two statements: what holds there -/
def CutW (t u : TS) (D : Ends) (σ : St) (H : Hp) : Prop := ∃ R : St → Hp → Prop, t { D with nx := R } σ H ∧ ∀ σ' H', R σ' H' → u D σ' H'
@[reducible] def tCut (t u : TS) : TS := fun D σ H => CutW t u D σ H
theorem pss_cut {X : Cx} {st : Stmt} {rest : List Stmt} {t u : TS} (h1 : PS X st t) (h2 : PSs X rest u) : PSs X (st :: rest) (tCut t u) := by
  intro pins s σ H D I h
  obtain ⟨R, a, b⟩ := h
  refine wpAny_execs_cons (thn (h1 pins s σ H { D with nx := R } I a) fun f s1 q => ?_)
  cases f with
  | next =>
    obtain ⟨σ', H', I', q⟩ := q
    exact h2 pins s1 σ' H' D I' (b σ' H' q)
  | ret v => exact q
  | brk => exact q
  | cont => exact q
theorem cut_by {t u : TS} {D : Ends} {σ : St} {H : Hp} (R : St → Hp → Prop) (a : t { D with nx := R } σ H) (b : ∀ σ' H', R σ' H' → u D σ' H') : CutW t u D σ H := ⟨R, a, b⟩

/-! ### texts -/
theorem ltrs_list : (Str.ofString "abcdefghijklmnopqrstuvwxyz").cps.toList = (List.range 26).map (fun k => 97 + k) := by decide +kernel
theorem ltrs_len : (Str.ofString "abcdefghijklmnopqrstuvwxyz").length ≤ sizeLine := by decide +kernel
theorem ltrs_at {z : Int} (h0 : 0 ≤ z) (h1 : z < 26) : ∃ c : Nat, atI (Str.ofString "abcdefghijklmnopqrstuvwxyz").cps.toList z = some c ∧ 97 ≤ c ∧ c ≤ 122 ∧ (c : Int) = 97 + z := by
  obtain ⟨k, rfl⟩ := Int.eq_ofNat_of_zero_le h0
  have hk : k < 26 := by omega
  refine ⟨97 + k, atI_nat ?_, by omega, by omega, by omega⟩
  rw [ltrs_list, List.getElem?_map, List.getElem?_range hk]
  rfl
def Low (x : Str) : Prop := ∀ c ∈ x.cps.toList, 97 ≤ c ∧ c ≤ 122
def IsName (x : Str) : Prop := 1 ≤ x.length ∧ x.length ≤ 8 ∧ Low x
def Sign (x : Str) : Prop := ∃ c : Nat, x = ⟨#[c]⟩ ∧ 97 ≤ c ∧ c ≤ 122
theorem Sign.len {x : Str} (h : Sign x) : x.length = 1 := by obtain ⟨c, rfl, _⟩ := h; rfl
theorem Sign.low {x : Str} (h : Sign x) : Low x := by
  obtain ⟨c, rfl, h1, h2⟩ := h
  intro d hd
  have : d = c := by simpa using hd
  subst this
  exact ⟨h1, h2⟩
theorem sign_of {c : Nat} (h1 : 97 ≤ c) (h2 : c ≤ 122) : Sign ⟨#[c]⟩ := ⟨c, rfl, h1, h2⟩
theorem str_len (x : Str) : x.cps.toList.length = x.length := by simp [Str.length]
theorem str_app (x y : Str) : (x ++ y).cps.toList = x.cps.toList ++ y.cps.toList := by
  show (x.cps ++ y.cps).toList = _
  simp
theorem str_app_len (x y : Str) : (x ++ y).length = x.length + y.length := Str.length_append x y
theorem str_ext {x y : Str} (h : x.cps.toList = y.cps.toList) : x = y := by
  cases x; cases y
  congr 1
  exact Array.toList_inj.mp h
theorem Low.app {x y : Str} (hx : Low x) (hy : Low y) : Low (x ++ y) := fun c hc => by
  rw [str_app] at hc
  rcases List.mem_append.mp hc with h | h
  · exact hx c h
  · exact hy c h
theorem Low.empty : Low Str.empty := fun c hc => by simp [Str.empty] at hc
theorem emp_eq : Str.ofString "" = Str.empty := by decide +kernel
theorem join_eq (sep : Str) (ys : List Str) : Txt.join sep ys = Str.join sep ys := StrLaws.glued_eq_join sep ys
theorem join_low : ∀ {ys : List Str}, (∀ y ∈ ys, Sign y) → (Str.join Str.empty ys).length = ys.length ∧ Low (Str.join Str.empty ys)
  | [], _ => ⟨rfl, Low.empty⟩
  | [y], h => by
    have hy := h y List.mem_cons_self
    exact ⟨hy.len, hy.low⟩
  | y :: z :: r, h => by
    have hy := h y List.mem_cons_self
    have ih := join_low (ys := z :: r) fun x hx => h x (List.mem_cons_of_mem _ hx)
    have e : Str.join Str.empty (y :: z :: r) = y ++ Str.empty ++ Str.join Str.empty (z :: r) := rfl
    rw [e]
    refine ⟨?_, (hy.low.app Low.empty).app ih.2⟩
    rw [str_app_len, str_app_len, ih.1, hy.len]
    show 1 + 0 + (r.length + 1) = r.length + 1 + 1
    omega
theorem join_signs {ys : List Str} (h : ∀ y ∈ ys, Sign y) : (Txt.join (Str.ofString "") ys).length = ys.length ∧ Low (Txt.join (Str.ofString "") ys) := by
  rw [join_eq, emp_eq]
  exact join_low h
theorem sum_signs : ∀ {ys : List Str}, (∀ y ∈ ys, Sign y) → (ys.map (·.length)).sum = ys.length
  | [], _ => rfl
  | y :: r, h => by
    rw [List.map_cons, List.sum_cons, sum_signs fun x hx => h x (List.mem_cons_of_mem _ hx), (h y List.mem_cons_self).len, List.length_cons]
    omega
theorem cutS_low {z : Str} {lo hi : Option Int} (h : Low z) : Low (cutS z lo hi) := fun c hc => by
  have e : (cutS z lo hi).cps.toList = (z.cps.toList.drop (HT.sIx z.length 0 lo)).take (HT.sIx z.length z.length hi - HT.sIx z.length 0 lo) := rfl
  rw [e] at hc
  exact h c (List.mem_of_mem_drop (List.mem_of_mem_take hc))
theorem cutS_len (z : Str) (lo hi : Option Int) : (cutS z lo hi).length = min (HT.sIx z.length z.length hi - HT.sIx z.length 0 lo) (z.length - HT.sIx z.length 0 lo) := by
  show (((z.cps.toList.drop (HT.sIx z.length 0 lo)).take (HT.sIx z.length z.length hi - HT.sIx z.length 0 lo)).toArray).size = _
  rw [List.size_toArray, List.length_take, List.length_drop, str_len]
theorem sIx_pos {n d : Nat} {i : Int} (h : 0 ≤ i) : HT.sIx n d (some i) = min i.toNat n := by
  obtain ⟨k, rfl⟩ := Int.eq_ofNat_of_zero_le h
  exact HT.sIx_nat n d k
/-! ### lists of texts -/
theorem flat_strs (xs : List Str) : (xs.map V.str).all flatV = true := by
  rw [List.all_eq_true]
  intro v hv
  obtain ⟨x, _, rfl⟩ := List.mem_map.mp hv
  rfl
theorem inV_strs (x : Str) (xs : List Str) : inV (.str x) (xs.map V.str) = decide (x ∈ xs) := by
  unfold inV
  rw [List.any_map, Bool.eq_iff_iff, List.any_eq_true, decide_eq_true_iff]
  constructor
  · rintro ⟨y, hy, e⟩
    have e' : (y == x) = true := e
    have := eq_of_beq e'
    subst this
    exact hy
  · intro h
    exact ⟨x, h, (beq_self_eq_true x : (x == x) = true)⟩
/-- the names that stand in for one that is there -/
def cand (base : Str) (t : Nat) : Str := ⟨#[97 + t]⟩ ++ ⟨#[97]⟩ ++ cutS base none (some 4)
theorem cand_inj {b : Str} {s t : Nat} (h : cand b s = cand b t) : s = t := by
  have e := congrArg (fun x : Str => x.cps.toList.head?) h
  simp only [cand, str_app] at e
  simpa using e
theorem cand_count {b : Str} {xs : List Str} {t : Nat} (h : ∀ s, s < t → cand b s ∈ xs) : t ≤ xs.length := by
  have nd : ((List.range t).map (cand b)).Nodup := by
    have := List.nodup_range (n := t)
    rw [List.nodup_iff_pairwise_ne] at this ⊢
    rw [List.pairwise_map]
    exact this.imp fun hne e => hne (cand_inj e)
  have := nd.length_le_of_subset (l₂ := xs) fun x hx => by
    obtain ⟨s, hs, rfl⟩ := List.mem_map.mp hx
    exact h s (List.mem_range.mp hs)
  simpa using this
theorem erase_perm {α : Type} : ∀ {l : List α} {i : Nat} {x : α}, l[i]? = some x → (x :: l.eraseIdx i).Perm l
  | [], _, _, h => by simp at h
  | a :: r, 0, x, h => by
    have : a = x := by simpa using h
    subst this
    exact List.Perm.refl _
  | a :: r, i + 1, x, h => by
    have h' : r[i]? = some x := by simpa using h
    rw [List.eraseIdx_cons_succ]
    exact (List.Perm.swap a x _).trans ((erase_perm h').cons a)
theorem small {n : Nat} (h : n ≤ 1000) : n < sizeLine := small1000 h
theorem sl_eq : sizeLine = 16777216 := rfl
local macro_rules | `(tactic| walk_at "hp") => `(tactic| first
  | assumption
  | exact upd_same
  | ((refine Eq.trans (upd_ne ?_) ?_); (walk_at "ne"); (walk_at "hp"))
  | ((refine Keep.get (by assumption) ?_ ?_); (walk_at "hp"); (walk_at "ne"))
  | ((refine (by assumption : Same _ _) _ _ ?_); (walk_at "hp")))
local macro_rules | `(tactic| walk_at "ne") => `(tactic| first
  | assumption
  | exact Ne.symm (by assumption)
  | ((apply ne_of_none'); assumption; (walk_at "hp"))
  | ((apply Ne.symm); (apply ne_of_none'); assumption; (walk_at "hp")))
local macro_rules | `(tactic| walk_at "cl") => `(tactic| first
  | ((with_reducible refine (?_ : PySem.W.kitOne _ _ _ = some _)); assumption)
  | rfl
  | assumption
  | ((apply SqL.of); (walk_at "hp"))
  | ((apply SqT.of); (walk_at "hp"))
  | ((with_reducible apply Or.inl); (apply SqL.of); (walk_at "hp"))
  | ((with_reducible apply Or.inr); (apply SqT.of); (walk_at "hp"))
  | ((with_reducible apply Exists.intro); (apply SqL.of); (walk_at "hp"))
  | ((with_reducible apply Exists.intro); (apply SqT.of); (walk_at "hp"))
  | ((with_reducible apply Or.inl); (walk_at "hp"))
  | ((with_reducible apply Or.inr); (walk_at "hp"))
  | exact ⟨_, rfl⟩
  | exact TyOf.str _
  | exact TyOf.int _
  | exact TyOf.bl _
  | ((apply TyOf.tup); (walk_at "hp"))
  | ((apply TyOf.lst); (walk_at "hp"))
  | exact Nat.le_of_ble_eq_true rfl
  | decide
  | omega
  | ((show (0 : Int) < _); first | decide | omega)
  | ((apply cdivI); (first | decide | omega); (first | decide | omega))
  | ((apply cmulL); omega; omega)
  | ((apply cmulR); omega; omega)
  | exact cpowI
  | walk_at "hp")
local macro_rules | `(tactic| walk_at "rd") => `(tactic| repeat (first
  | (with_reducible apply Exists.intro)
  | ((with_reducible apply And.intro); (walk_at "cl"))))

theorem set_back (σ : L2.St) (i : Nat) (x : Option V) : wipe ((wipe σ [i]).set i x) [i] = wipe σ [i] := by
  show ((σ.set i none).set i x).set i none = σ.set i none
  rw [List.set_set, List.set_set]
theorem get_back {σ : L2.St} {i j : Nat} {x : Option V} (h : i ≠ j) : ((wipe σ [i]).set i x)[j]? = σ[j]? := by
  show ((σ.set i none).set i x)[j]? = σ[j]?
  rw [List.set_set, List.getElem?_set_ne h]
theorem app_map {α β : Type} (f : α → β) (l : List α) (x : α) : l.map f ++ [f x] = (l ++ [x]).map f := by simp
@[reducible] def rLenL : List V → Hp → VK → Prop := fun xs H Q => ∃ p ys, xs = [.ref p] ∧ H p = some (.lst ys) ∧ Q (.int ys.length) H
/-- the whole of a list popped, item by item -/
theorem pop_all {ys zs xs : List V} {k : Nat} {y : V} (p : (ys ++ zs).Perm xs) (h : zs[k]? = some y) : (ys ++ [y] ++ zs.eraseIdx k).Perm xs := by
  have e := erase_perm h
  rw [List.append_assoc]
  exact ((e.append_left ys)).trans p
theorem perm_strs : ∀ {ys : List V} {xs : List Str}, ys.Perm (xs.map V.str) → ∃ zs : List Str, ys = zs.map V.str ∧ zs.Perm xs := by
  intro ys xs h
  have hv : ∀ y ∈ ys, ∃ x, y = V.str x := fun y hy => by
    obtain ⟨x, _, e⟩ := List.mem_map.mp (h.mem_iff.mp hy)
    exact ⟨x, e.symm⟩
  let g : V → Str := fun v => match v with
    | .str x => x
    | _ => Str.empty
  have e1 : ys = (ys.map g).map V.str := by
    rw [List.map_map]
    conv => lhs; rw [← List.map_id ys]
    refine List.map_congr_left fun y hy => ?_
    obtain ⟨x, rfl⟩ := hv y hy
    rfl
  have e2 : (xs.map V.str).map g = xs := by
    rw [List.map_map]
    conv => rhs; rw [← List.map_id xs]
    exact List.map_congr_left fun y hy => rfl
  exact ⟨ys.map g, e1, by rw [← e2]; exact h.map g⟩
end L2

namespace L2
open PySem PySem.Spec PyProof.Rows
local macro_rules | `(tactic| walk_at "hp") => `(tactic| first
  | assumption
  | exact upd_same
  | ((refine Eq.trans (upd_ne ?_) ?_); (walk_at "ne"); (walk_at "hp"))
  | ((refine Keep.get (by assumption) ?_ ?_); (walk_at "hp"); (walk_at "ne"))
  | ((refine (by assumption : Same _ _) _ _ ?_); (walk_at "hp")))
local macro_rules | `(tactic| walk_at "ne") => `(tactic| first
  | assumption
  | exact Ne.symm (by assumption)
  | ((apply ne_of_none'); assumption; (walk_at "hp"))
  | ((apply Ne.symm); (apply ne_of_none'); assumption; (walk_at "hp")))
local macro_rules | `(tactic| walk_at "cl") => `(tactic| first
  | ((with_reducible refine (?_ : PySem.W.kitOne _ _ _ = some _)); assumption)
  | rfl
  | assumption
  | ((apply SqL.of); (walk_at "hp"))
  | ((apply SqT.of); (walk_at "hp"))
  | ((with_reducible apply Or.inl); (apply SqL.of); (walk_at "hp"))
  | ((with_reducible apply Or.inr); (apply SqT.of); (walk_at "hp"))
  | ((with_reducible apply Exists.intro); (apply SqL.of); (walk_at "hp"))
  | ((with_reducible apply Exists.intro); (apply SqT.of); (walk_at "hp"))
  | ((with_reducible apply Or.inl); (walk_at "hp"))
  | ((with_reducible apply Or.inr); (walk_at "hp"))
  | exact ⟨_, rfl⟩
  | exact TyOf.str _
  | exact TyOf.int _
  | exact TyOf.bl _
  | ((apply TyOf.tup); (walk_at "hp"))
  | ((apply TyOf.lst); (walk_at "hp"))
  | exact Nat.le_of_ble_eq_true rfl
  | decide
  | omega
  | ((show (0 : Int) < _); first | decide | omega)
  | ((apply cdivI); (first | decide | omega); (first | decide | omega))
  | ((apply cmulL); omega; omega)
  | ((apply cmulR); omega; omega)
  | exact cpowI
  | walk_at "hp")
local macro_rules | `(tactic| walk_at "rd") => `(tactic| repeat (first
  | (with_reducible apply Exists.intro)
  | ((with_reducible apply And.intro); (walk_at "cl"))))

/-! ### webs -/
structure Wb where
  states : List Str
  moves : List (Str × Int × List Str)
def MoveAt (H : Hp) (p : Addr) (m : Str × Int × List Str) : Prop := ∃ b, H p = some (.tup [.str m.1, .int m.2.1, .ref b]) ∧ H b = some (.tup (m.2.2.map V.str))
def WebAt (H : Hp) (p : Addr) (w : Wb) : Prop := ∃ (ps pm : Addr) (as : List Addr), H p = some (.tup [.ref ps, .ref pm]) ∧ H ps = some (.tup (w.states.map V.str)) ∧ H pm = some (.tup (as.map V.ref)) ∧ Paired (MoveAt H) as w.moves
structure GoodM (ss : List Str) (m : Str × Int × List Str) : Prop where
  nm : IsName m.1
  lo : 1 ≤ m.2.1
  hi : m.2.1 ≤ 99
  len : m.2.2.length = ss.length
  img : ∀ x ∈ m.2.2, x ∈ ss
structure Good (w : Wb) : Prop where
  s1 : 1 ≤ w.states.length
  s8 : w.states.length ≤ 8
  snd : w.states.Nodup
  snm : ∀ x ∈ w.states, IsName x
  m1 : 1 ≤ w.moves.length
  m8 : w.moves.length ≤ 8
  mnd : (w.moves.map (·.1)).Nodup
  mv : ∀ m ∈ w.moves, GoodM w.states m
/-- the tuples stay -/
def KeepT (H H' : Hp) : Prop := ∀ b xs, H b = some (.tup xs) → H' b = some (.tup xs)
theorem KeepT.refl (H : Hp) : KeepT H H := fun _ _ h => h
theorem KeepT.trans {H H1 H2 : Hp} (a : KeepT H H1) (b : KeepT H1 H2) : KeepT H H2 := fun c xs h => b c xs (a c xs h)
theorem Same.keepT {H H' : Hp} (k : Same H H') : KeepT H H' := fun b xs h => k b _ h
theorem Keep.keepT {d a : Addr} {n : Nat} {H H' : Hp} (k : Keep d H H') (D : Deck H d a n) : KeepT H H' := fun b xs h => k b _ h (D.ne_tup h)
theorem MoveAt.mono {H H' : Hp} {p : Addr} {m : Str × Int × List Str} (k : KeepT H H') (h : MoveAt H p m) : MoveAt H' p m := by
  obtain ⟨b, h1, h2⟩ := h
  exact ⟨b, k _ _ h1, k _ _ h2⟩
theorem WebAt.mono {H H' : Hp} {p : Addr} {w : Wb} (k : KeepT H H') (h : WebAt H p w) : WebAt H' p w := by
  obtain ⟨ps, pm, as, h1, h2, h3, h4⟩ := h
  exact ⟨ps, pm, as, k _ _ h1, k _ _ h2, k _ _ h3, Paired.mapP h4 fun _ _ z => z.mono k⟩
theorem pair_get {α β : Type} {R : α → β → Prop} : ∀ {l : List α} {r : List β} {i : Nat} {x : α}, Paired R l r → l[i]? = some x → ∃ y, r[i]? = some y ∧ R x y
  | _, _, _, _, .nil, h => by simp at h
  | _, _, 0, _, .cons q _, h => ⟨_, rfl, by simp at h; subst h; exact q⟩
  | _, _, i + 1, x, .cons _ t, h => by
    obtain ⟨y, h1, h2⟩ := pair_get (i := i) (x := x) t (by simpa using h)
    exact ⟨y, by simpa using h1, h2⟩
theorem refs_get {as : List Addr} {i : Nat} {x : V} (h : (as.map V.ref)[i]? = some x) : ∃ a, as[i]? = some a ∧ x = .ref a := by
  rw [List.getElem?_map] at h
  cases e : as[i]? with
  | none => rw [e] at h; cases h
  | some a => rw [e] at h; exact ⟨a, rfl, (Option.some.inj h).symm⟩
theorem take_snoc {α : Type} {l : List α} {i : Nat} {x : α} (h : l[i]? = some x) : l.take (i + 1) = l.take i ++ [x] := by
  rw [List.take_add_one, h]
  rfl
/-! ### texts of webs -/
def toS (n : Int) : Str := Str.ofString (toString n)
def rowOf (m : Str × Int × List Str) : Str := Str.join (Str.ofString " ") (m.1 :: toS m.2.1 :: m.2.2)
def rowsOf (w : Wb) : List Str := Str.join (Str.ofString " ") w.states :: w.moves.map rowOf
def shown (w : Wb) : Str := Str.join (Str.ofString "\n") (rowsOf w)
theorem toS_all : ∀ k : Fin 100, Str.ofString (toString ((k.val : Nat) : Int)) = if 9 < k.val then (⟨#[48 + k.val / 10]⟩ ++ ⟨#[48 + k.val % 10]⟩ : Str) else ⟨#[48 + k.val % 10]⟩ := by decide +kernel
theorem toS_one {n : Int} (h0 : 0 ≤ n) (h1 : n ≤ 9) : (⟨#[48 + (n % 10).toNat]⟩ : Str) = toS n := by
  obtain ⟨k, rfl⟩ := Int.eq_ofNat_of_zero_le h0
  have := toS_all ⟨k, by omega⟩
  rw [if_neg (by show ¬ 9 < k; omega)] at this
  show _ = Str.ofString (toString ((k : Nat) : Int))
  rw [this]
  congr 3
theorem toS_two {n : Int} (h0 : 9 < n) (h1 : n ≤ 99) : (⟨#[48 + (n / 10).toNat]⟩ ++ ⟨#[48 + (n % 10).toNat]⟩ : Str) = toS n := by
  obtain ⟨k, rfl⟩ := Int.eq_ofNat_of_zero_le (show 0 ≤ n by omega)
  have := toS_all ⟨k, by omega⟩
  rw [if_pos (by show 9 < k; omega)] at this
  show _ = Str.ofString (toString ((k : Nat) : Int))
  rw [this]
  congr 4
theorem join_cons2 (sep x y : Str) (r : List Str) : Str.join sep (x :: y :: r) = x ++ sep ++ Str.join sep (y :: r) := rfl
section
variable {w : Wb}
end
end L2

namespace L2
open PySem PySem.Spec PyProof.Rows
local macro_rules | `(tactic| walk_at "hp") => `(tactic| first
  | assumption
  | exact upd_same
  | ((refine Eq.trans (upd_ne ?_) ?_); (walk_at "ne"); (walk_at "hp"))
  | ((refine Keep.get (by assumption) ?_ ?_); (walk_at "hp"); (walk_at "ne"))
  | ((refine (by assumption : Same _ _) _ _ ?_); (walk_at "hp")))
local macro_rules | `(tactic| walk_at "ne") => `(tactic| first
  | assumption
  | exact Ne.symm (by assumption)
  | ((apply ne_of_none'); assumption; (walk_at "hp"))
  | ((apply Ne.symm); (apply ne_of_none'); assumption; (walk_at "hp")))
local macro_rules | `(tactic| walk_at "cl") => `(tactic| first
  | ((with_reducible refine (?_ : PySem.W.kitOne _ _ _ = some _)); assumption)
  | rfl
  | assumption
  | ((apply SqL.of); (walk_at "hp"))
  | ((apply SqT.of); (walk_at "hp"))
  | ((with_reducible apply Or.inl); (apply SqL.of); (walk_at "hp"))
  | ((with_reducible apply Or.inr); (apply SqT.of); (walk_at "hp"))
  | ((with_reducible apply Exists.intro); (apply SqL.of); (walk_at "hp"))
  | ((with_reducible apply Exists.intro); (apply SqT.of); (walk_at "hp"))
  | ((with_reducible apply Or.inl); (walk_at "hp"))
  | ((with_reducible apply Or.inr); (walk_at "hp"))
  | exact ⟨_, rfl⟩
  | exact TyOf.str _
  | exact TyOf.int _
  | exact TyOf.bl _
  | ((apply TyOf.tup); (walk_at "hp"))
  | ((apply TyOf.lst); (walk_at "hp"))
  | exact Nat.le_of_ble_eq_true rfl
  | decide
  | omega
  | ((show (0 : Int) < _); first | decide | omega)
  | ((apply cdivI); (first | decide | omega); (first | decide | omega))
  | ((apply cmulL); omega; omega)
  | ((apply cmulR); omega; omega)
  | exact cpowI
  | walk_at "hp")
local macro_rules | `(tactic| walk_at "rd") => `(tactic| repeat (first
  | (with_reducible apply Exists.intro)
  | ((with_reducible apply And.intro); (walk_at "cl"))))

theorem strs_at {xs : List Str} {z : Int} (h0 : 0 ≤ z) (h1 : z < xs.length) : ∃ x, atI (xs.map V.str) z = some (.str x) ∧ x ∈ xs := by
  obtain ⟨v, e, m⟩ := atI_some (xs := xs.map V.str) h0 (by rw [List.length_map]; exact h1)
  obtain ⟨x, hx, rfl⟩ := List.mem_map.mp m
  exact ⟨x, e, hx⟩
theorem cutV_map {α : Type} (f : α → V) (xs : List α) (lo hi : Option Int) : cutV (xs.map f) lo hi = ((xs.drop (HT.sIx xs.length 0 lo)).take (HT.sIx xs.length xs.length hi - HT.sIx xs.length 0 lo)).map f := by
  unfold cutV
  rw [List.length_map, ← List.map_drop, ← List.map_take]
theorem ixN_of {n : Nat} {i : Int} (h0 : 0 ≤ i) (h1 : i < n) : ixN n i = some i.toNat := by
  unfold ixN
  rw [if_pos h0, if_pos h1]
theorem paired_snoc {α β : Type} {R : α → β → Prop} : ∀ {l : List α} {r : List β} {x : α} {y : β}, Paired R l r → R x y → Paired R (l ++ [x]) (r ++ [y])
  | _, _, _, _, .nil, h => .cons h .nil
  | _, _, _, _, .cons q t, h => .cons q (paired_snoc t h)
end L2

namespace L2
open PySem PySem.Spec PyProof.Rows
/-! ### written data: tuples of constants, at any depth -/
inductive Dt where
  | str (x : Str) | int (i : Int) | bl (b : Bool) | non | tup (ds : List Dt)
mutual
inductive DatAt (H : Hp) : V → Dt → Prop where
  | str (x : Str) : DatAt H (.str x) (.str x)
  | int (i : Int) : DatAt H (.int i) (.int i)
  | bl (b : Bool) : DatAt H (.bl b) (.bl b)
  | non : DatAt H .non .non
  | tup {a : Addr} {vs : List V} {ds : List Dt} (h : H a = some (.tup vs)) (r : DatsAt H vs ds) : DatAt H (.ref a) (.tup ds)
inductive DatsAt (H : Hp) : List V → List Dt → Prop where
  | nil : DatsAt H [] []
  | cons {v : V} {d : Dt} {vs : List V} {ds : List Dt} (h : DatAt H v d) (r : DatsAt H vs ds) : DatsAt H (v :: vs) (d :: ds)
end
mutual
theorem DatAt.mono {H H' : Hp} (k : KeepT H H') : ∀ {v : V} {d : Dt}, DatAt H v d → DatAt H' v d
  | _, _, .str x => .str x
  | _, _, .int i => .int i
  | _, _, .bl b => .bl b
  | _, _, .non => .non
  | _, _, .tup h r => .tup (k _ _ h) (DatsAt.mono k r)
theorem DatsAt.mono {H H' : Hp} (k : KeepT H H') : ∀ {vs : List V} {ds : List Dt}, DatsAt H vs ds → DatsAt H' vs ds
  | _, _, .nil => .nil
  | _, _, .cons h r => .cons (DatAt.mono k h) (DatsAt.mono k r)
end
theorem DatsAt.length {H : Hp} : ∀ {vs : List V} {ds : List Dt}, DatsAt H vs ds → vs.length = ds.length
  | _, _, .nil => rfl
  | _, _, .cons _ r => by rw [List.length_cons, List.length_cons, DatsAt.length r]
section
variable {X : Cx} {p : Pos} {e : Expr} {es : List Expr} {d : Dt} {ds : List Dt}
end
/-! ### rules behind a veil: the type of a term of rules is not looked into while it is put together -/
structure Hd (p : Prop) : Prop where
  out : p
section
variable {X : Cx} {a b e : Expr} {es : List Expr} {te ta tb : TE} {t : TA} {pos : Pos} {d : Dt}
theorem hd_anil : Hd (PA X [] tNil) := ⟨pa_nil⟩
theorem hd_acons (ha : Hd (PE X e te)) (hr : Hd (PA X es t)) (h : notStar e = true := by rfl) : Hd (PA X (e :: es) (tCons te t)) := ⟨pa_c ha.out hr.out h⟩
theorem hd_lst (h : Hd (PA X es t)) : Hd (PE X (.List es pos) (tLst t)) := ⟨pe_lst h.out⟩
theorem hd_set {i : Nat} {x : Str} {pos' : Pos} (hN : X.N.Nodup) (hi : X.N[i]? = some x) (hx : Loc X.env.scope x) (he : Hd (PE X e te)) (hs : swapsWith e (some (.Name x pos')) pos.line X.env = pure false := by rfl) (hf : X.fn x = true ∨ X.env.scope.names.lookup x = some .local := by first | exact .inl rfl | exact .inr rfl | assumption) :
    Hd (PS X (.Assign [.Name x pos'] e pos) (tAsg te (gName i))) := ⟨ps_set hN hi hx he.out hs hf⟩
variable {st : Stmt} {rest : List Stmt} {ts us : TS}
theorem hd_snil : Hd (PSs X [] tNext) := ⟨pss_nil⟩
theorem hd_scons (h1 : Hd (PS X st ts)) (h2 : Hd (PSs X rest us)) : Hd (PSs X (st :: rest) (tSeq ts us)) := ⟨pss_cons h1.out h2.out⟩
theorem hd_sone (h1 : Hd (PS X st ts)) : Hd (PSs X [st] ts) := ⟨pss_one h1.out⟩
end
/-! ### a written web is good, by computation -/
def nameB (x : Str) : Bool := decide (1 ≤ x.length) && decide (x.length ≤ 8) && x.cps.toList.all fun c => decide (97 ≤ c) && decide (c ≤ 122)
end L2

namespace L2
open PySem PySem.Spec PyProof.Rows
/-! ### zip over sources of any kind -/
/-- a source: the iterator at it over the thing at l, by its number of turns -/
structure Src (prog : Program) (w : World) (it l : Addr) (St : Nat → Heap → Prop) (val : Nat → Option Value) : Prop where
  keep : ∀ {i : Nat} {h h' : Heap}, St i h → (∀ c, (c = it ∨ c = l) → ∀ o, h.get? c = some o → h'.get? c = some o) → St i h'
  there : ∀ {i : Nat} {h : Heap}, St i h → ∃ o, h.get? it = some o ∧ ∀ v, o.data ≠ .cell v
  item : ∀ {A : Around} {E : Value → Shared → Prop} {s : Shared} {i : Nat} {x : Value} {Q : Value → Shared → Prop}, St i s.heap → val i = some x →
    (∀ h', St (i + 1) h' → Heap.SameBut it s.heap h' → Q x { s with heap := h' }) → wpAny (model prog w) A (Builtin.SmallTypes.nextOf (.ref it)) Q E s
  stop : ∀ {A : Around} {E : Value → Shared → Prop} {s : Shared} {i : Nat} {Q : Value → Shared → Prop}, A.handled = none → St i s.heap → val i = none →
    (∀ h' e, Heap.ExtBut it s.heap h' → (∃ o, h'.get? e = some o ∧ o.cls = .type "StopIteration") → E (.ref e) { s with heap := h' }) → wpAny (model prog w) A (Builtin.SmallTypes.nextOf (.ref it)) Q E s
section
variable {prog : Program} {w : World} {A : Around} {E : Value → Shared → Prop} {s : Shared}
/-- a tuple's iterator -/
theorem src_tup {it l : Addr} {xs : Array Value} (hne : it ≠ l) : Src prog w it l (fun i h => h.IsTupleIter it l i ∧ IsTup h l xs) (fun i => xs[i]?) where
  keep := fun {i h h'} st k => ⟨st.1.at fun o q => k it (.inl rfl) o q, let ⟨o, e, r⟩ := st.2; ⟨o, k l (.inr rfl) o e, r⟩⟩
  there := fun {i h} st => let ⟨o, e, _, d⟩ := st.1; ⟨o, e, fun v z => by rw [d] at z; cases z⟩
  item := fun {A E s i x Q} st hv hq => by
    obtain ⟨⟨o, ho, hc, hd⟩, ol, hol, hcl, nl, hdl⟩ := id st
    unfold Builtin.SmallTypes.nextOf
    refine wpAny_bind (wpAny_callSpecial?_slot (name := Str.ofString "__next__") st.1.typeIs F.slot_tuple_iterator_next (wpAny_call_entry F.slot_tuple_iterator_next st.1.typeIs F.entry_tuple_iterator_next ?_ (F.args_tuple_iterator_next_1 _)))
    refine (show wpAny _ _ (field (.ref it) 0 >>= _) _ _ s from wpAny_bind (wpAny_field ho hd (x := .ref l) rfl ?_))
    rw [if_neg (show ¬ ((Value.ref l == Value.none) = true) by exact Bool.false_ne_true)]
    refine (show wpAny _ _ (field (.ref it) 1 >>= _) _ _ s from wpAny_bind (wpAny_field ho hd (x := .int i 0) rfl ?_))
    refine (show wpAny _ _ (seqItems? (.ref l) >>= _) _ _ s from wpAny_bind (wpAny_seqItems hol hdl ?_))
    simp only [Int.toNat_natCast, hv]
    have ss := Heap.SameBut.update (h := s.heap) (a := it) (f := Obj.mapFields (·.setIfInBounds 1 (rawInt ((i : Int) + 1))))
    refine wpAny_bind (wpAny_setField ho hd (by simp) (wpAny_pure ⟨x, rfl, wpAny_pure (hq _ ⟨⟨_, Heap.get?_update_self _ ho (Obj.isFreed_of_fields (Obj.data_mapFields hd _)), (Obj.cls_mapFields ..).trans hc, ?_⟩, ol, ?_, hcl, nl, hdl⟩ (Heap.SameBut.update ..))⟩))
    · rw [Obj.data_mapFields hd]
      simp [rawInt]
    · exact (Heap.get?_update_other _ _ hne).trans hol
  stop := fun {A E s i Q} hh st hv hE => by
    obtain ⟨⟨o, ho, hc, hd⟩, ol, hol, hcl, nl, hdl⟩ := id st
    unfold Builtin.SmallTypes.nextOf
    refine wpAny_bind (wpAny_callSpecial?_slot (name := Str.ofString "__next__") st.1.typeIs F.slot_tuple_iterator_next (wpAny_call_entry F.slot_tuple_iterator_next st.1.typeIs F.entry_tuple_iterator_next ?_ (F.args_tuple_iterator_next_1 _)))
    refine (show wpAny _ _ (field (.ref it) 0 >>= _) _ _ s from wpAny_bind (wpAny_field ho hd (x := .ref l) rfl ?_))
    rw [if_neg (show ¬ ((Value.ref l == Value.none) = true) by exact Bool.false_ne_true)]
    refine (show wpAny _ _ (field (.ref it) 1 >>= _) _ _ s from wpAny_bind (wpAny_field ho hd (x := .int i 0) rfl ?_))
    refine (show wpAny _ _ (seqItems? (.ref l) >>= _) _ _ s from wpAny_bind (wpAny_seqItems hol hdl ?_))
    simp only [Int.toNat_natCast, hv]
    refine wpAny_bind (wpAny_rule (wpAny_bind (wpAny_setField ho hd (by simp) ?_)))
    refine (show wpAny _ _ (newExc (.type "StopIteration") [] >>= _) _ _ _ from wpAny_bind ?_)
    simp only [newExc, newTuple]
    refine wpAny_bind (wpAny_newObj_type ?_ (by size_fits))
    refine wpAny_bind (m := firstArgMember _ _) (wpAny_of_eq (a := Value.none) (by first | rfl | (simp only [firstArgMember]; rfl)) (wpAny_newObj_type ?_ (by size_fits)))
    simp only [raiseNew]
    refine wpAny_bind (wpAny_handled ?_)
    first
      | rw [show A.in1.handled = none from hh]
      | rw [hh]
    refine wpAny_bind (wpAny_pure (wpAny_throw (hE _ _ (((Heap.SameBut.update ..).extBut.push _).push _) ⟨_, Heap.get?_push_size _ rfl, rfl⟩)))
variable {St1 St2 : Nat → Heap → Prop} {v1 v2 : Nat → Option Value} {z TI TO i1 i2 l1 l2 : Addr}
theorem Src.but (S : Src prog w i1 l1 St1 v1) {c : Addr} {h h' : Heap} {i : Nat} (st : St1 i h) (k : Heap.ExtBut c h h') (n1 : i1 ≠ c) (n2 : l1 ≠ c) : St1 i h' := S.keep st fun b hb o e => by
  rcases hb with rfl | rfl
  · exact k _ _ n1 e
  · exact k _ _ n2 e
abbrev zt1 (h : Heap) (a : Addr) : Heap := h.push { cls := .type "tuple_iterator", data := .fields #[.ref a, .int 0 0] }
end
end L2

namespace L2
open PySem PySem.Spec PyProof.Rows
end L2

namespace L2
open PySem PySem.Spec PyProof.Rows
/-! ### sets of texts -/
/-- one more member -/
def putS (xs : List Str) (k : Str) : List Str := if k ∈ xs then xs else xs ++ [k]
def dedup (ys : List Str) : List Str := ys.foldl putS []
theorem putS_len (xs : List Str) (k : Str) : (putS xs k).length = if decide (k ∈ xs) then xs.length else xs.length + 1 := by
  unfold putS
  by_cases h : k ∈ xs
  · simp [h]
  · simp [h]
theorem putS_mem (xs : List Str) (k j : Str) : decide (j ∈ putS xs k) = (decide (j ∈ xs) || decide (j = k)) := by
  unfold putS
  by_cases h : k ∈ xs
  · rw [if_pos h]
    by_cases e : j = k
    · subst e
      simp [h]
    · simp [e]
  · rw [if_neg h]
    simp
abbrev SetOn (P : Program) (w : World) (h : Heap) (a : Addr) (xs : List Str) : Prop := h.SetOf (PySem.strKind P w) a (fun k => decide (k ∈ xs)) xs.length
theorem SetOn.put {P : Program} {w : World} {h : Heap} {a : Addr} {xs : List Str} {k : Str} (s : h.SetOf (PySem.strKind P w) a (fun k' => decide (k' ∈ xs) || decide (k' = k)) (if decide (k ∈ xs) then xs.length else xs.length + 1)) : SetOn P w h a (putS xs k) :=
  SetOf_congr s (fun j => (putS_mem xs k j).symm) (putS_len xs k).symm
theorem SetOn.stay {P : Program} {w : World} {h h' : Heap} {a : Addr} {xs : List Str} (s : SetOn P w h a xs) (k : ∀ o, h.get? a = some o → h'.get? a = some o) : SetOn P w h' a xs := by
  obtain ⟨o, es, ep, t, ho, rest⟩ := s
  exact ⟨o, es, ep, t, k o ho, rest⟩
/-! ### tracked -/
section
variable {X : Cx} {pins : List (Addr × Obj)} {σ : L2.St} {H : Hp} {s : Shared} {a : Addr} {xs : List Str}
end
end L2

namespace L2
open PySem PySem.Spec PyProof.Rows
/-! ### a, b, *rest = a list -/
section
variable {X : Cx} {pos : Pos}
end
end L2

namespace L2
open PySem PySem.Spec PyProof.Rows
/-! ### texts read back -/
theorem low_no {x : Str} {c : Nat} (h : Low x) (hc : c < 97) : c ∉ x.cps.toList := fun m => by
  have := h c m
  omega
theorem toS_dig {n : Int} (h0 : 0 ≤ n) (h1 : n ≤ 99) : ∀ c ∈ (toS n).cps.toList, 48 ≤ c ∧ c ≤ 57 := by
  intro c hc
  by_cases h : n ≤ 9
  · rw [← toS_one h0 h] at hc
    have : c = 48 + (n % 10).toNat := by simpa using hc
    omega
  · rw [← toS_two (by omega) h1, str_app] at hc
    have : c = 48 + (n / 10).toNat ∨ c = 48 + (n % 10).toNat := by simpa using hc
    omega
theorem join_mem {sep : Str} {c : Nat} : ∀ {ps : List Str}, c ∈ (Str.join sep ps).cps.toList → c ∈ sep.cps.toList ∨ ∃ p ∈ ps, c ∈ p.cps.toList
  | [], h => by
    have : c ∈ ([] : List Nat) := h
    simp at this
  | [x], h => .inr ⟨x, List.mem_cons_self, h⟩
  | x :: y :: r, h => by
    rw [join_cons2, str_app, str_app] at h
    rcases List.mem_append.mp h with q | q
    · rcases List.mem_append.mp q with z | z
      · exact .inr ⟨x, List.mem_cons_self, z⟩
      · exact .inl z
    · rcases join_mem q with z | ⟨p, hp, z⟩
      · exact .inl z
      · exact .inr ⟨p, List.mem_cons_of_mem _ hp, z⟩
theorem sp_tl : (Str.ofString " ").cps.toList = [32] := by decide +kernel
theorem nl_tl : (Str.ofString "\n").cps.toList = [10] := by decide +kernel
theorem sp_small : (Str.ofString " ").cps.all (· < 256) = true := by decide +kernel
theorem nl_small : (Str.ofString "\n").cps.all (· < 256) = true := by decide +kernel
theorem split_sp {ps : List Str} (hne : ps ≠ []) (h : ∀ p ∈ ps, 32 ∉ p.cps.toList) : Txt.split (Str.join (Str.ofString " ") ps) (Str.ofString " ") = ps := by
  rw [← join_eq]
  exact TL.split_join sp_tl sp_small hne h
theorem split_nl {ps : List Str} (hne : ps ≠ []) (h : ∀ p ∈ ps, 10 ∉ p.cps.toList) : Txt.split (Str.join (Str.ofString "\n") ps) (Str.ofString "\n") = ps := by
  rw [← join_eq]
  exact TL.split_join nl_tl nl_small hne h
section
variable {w : Wb}
theorem Good.split (g : Good w) : Txt.split (Str.join (Str.ofString " ") w.states) (Str.ofString " ") = w.states :=
  split_sp (fun e => by have := g.s1; rw [e] at this; simp at this) fun p hp => low_no (g.snm p hp).2.2 (by decide)
theorem GoodM.words {m : Str × Int × List Str} (g : Good w) (h : GoodM w.states m) : ∀ p ∈ (m.1 :: toS m.2.1 :: m.2.2), 32 ∉ p.cps.toList ∧ 10 ∉ p.cps.toList := fun p hp => by
  rcases List.mem_cons.mp hp with rfl | hp
  · exact ⟨low_no h.nm.2.2 (by decide), low_no h.nm.2.2 (by decide)⟩
  · rcases List.mem_cons.mp hp with rfl | hp
    · have := toS_dig (n := m.2.1) (by have := h.lo; omega) h.hi
      exact ⟨fun q => by have := this _ q; omega, fun q => by have := this _ q; omega⟩
    · have := (g.snm p (h.img p hp)).2.2
      exact ⟨low_no this (by decide), low_no this (by decide)⟩
theorem GoodM.split {m : Str × Int × List Str} (g : Good w) (h : GoodM w.states m) : Txt.split (rowOf m) (Str.ofString " ") = m.1 :: toS m.2.1 :: m.2.2 :=
  split_sp (by simp) fun p hp => (GoodM.words g h p hp).1
theorem Good.rows (g : Good w) : Txt.split (shown w) (Str.ofString "\n") = rowsOf w := by
  refine split_nl (by simp [rowsOf]) fun p hp => ?_
  have one : ∀ {ps : List Str}, (∀ q ∈ ps, 10 ∉ q.cps.toList) → 10 ∉ (Str.join (Str.ofString " ") ps).cps.toList := fun {ps} h m => by
    rcases join_mem m with z | ⟨q, hq, z⟩
    · rw [sp_tl] at z
      simp at z
    · exact h q hq z
  rcases List.mem_cons.mp hp with rfl | hp
  · exact one fun q hq => low_no (g.snm q hq).2.2 (by decide)
  · obtain ⟨m, hm, rfl⟩ := List.mem_map.mp hp
    exact one fun q hq => (GoodM.words g (g.mv m hm) q hq).2
end
/-! ### words looked at -/
def weightB (x : Str) : Bool := !decide (x = Str.ofString "") && (match x.cps.toList with
  | [] => false
  | c :: _ => !decide (c = 48)) && x.cps.toList.all fun c => decide (48 ≤ c) && decide (c ≤ 57)
end L2

namespace L2
open PySem PySem.Spec PyProof.Rows
/-! ### webs as data -/
mutual
def pyOf : Dt → PyData
  | .str x => .str x
  | .int i => .int i
  | .bl b => .bool b
  | .non => .none
  | .tup ds => .tuple (pysOf ds)
def pysOf : List Dt → List PyData
  | [] => []
  | d :: ds => pyOf d :: pysOf ds
end
end L2

namespace L2
open PySem PySem.Spec PyProof.Rows
/-! ### dict comprehensions over tracked things (the layer's list comprehension, with a key) -/
theorem compLoop_anyD {prog : Program} {w : World} {A : Around} {R : Result → Shared → Prop} {s : Shared} {kx vx target iter : Expr} {ifs : List Expr} {scope : Scope} {pos : Pos} {it : Value} {D : Addr} {env : Env} (I : Nat → Shared → Prop)
    (turn : ∀ n s, I n s → wpAny (model prog w) A (pyNext it) (fun r s₁ => match r with
      | none => R (.ok .next) s₁
      | some v => wpAny (model prog w) A (letOwnedTupleGo target it v) (fun _ s₁' => wpAny (model prog w) A (assign target env v) (fun _ s₂ =>
          wpAny (model prog w) A (forIn ifs true fun c r => if r = true then do let ok ← isTrue c env (eval c env); pure (ForInStep.yield ok) else pure (ForInStep.yield r)) (fun ok s₃ =>
            if ok = true then wpAny (model prog w) A (eval kx env) (fun k s₄ => wpAny (model prog w) A (eval vx env) (fun x s₅ =>
              wpAny (model prog w) A (dictSet D k x) (fun _ s₆ => ∃ m, m < n ∧ I m s₆) (notedBy (model prog w) A env fun e s' => R (.error e) s') s₅) (notedBy (model prog w) A env fun e s' => R (.error e) s') s₄) (notedBy (model prog w) A env fun e s' => R (.error e) s') s₃
            else ∃ m, m < n ∧ I m s₃) (notedBy (model prog w) A env fun e s' => R (.error e) s') s₂) (notedBy (model prog w) A env fun e s' => R (.error e) s') s₁') (notedBy (model prog w) A env fun e s' => R (.error e) s') s₁) (notedBy (model prog w) A env fun e s' => R (.error e) s') s)
    (n : Nat) (h : I n s) :
    codeAny (model prog w) A (.compLoop (.DictComp kx vx [⟨target, iter, ifs, 0⟩] scope pos) 0 it (.ref D) env) R s := by
  refine codeAny_loop rfl I (fun n s hI => ?_) n h
  show wpAny _ A ((compTurn (.DictComp kx vx [⟨target, iter, ifs, 0⟩] scope pos) 0 it (.ref D) env).onRaise (fun x => do noteFrame x env; theTreesLotGoes x)) _ _ s
  refine wpAny_noted ?_
  rw [compTurn_dict]
  refine wpAny_bind (wpAny_standAt (wpAny_bind (wpAny_mono (turn n s hI) (fun r s₁ h₁ => ?_) fun _ _ h' => h')))
  cases r with
  | none => exact wpAny_pure h₁
  | some v =>
    refine wpAny_bind (wpAny_mono h₁ (fun _ s₁' h₁' => ?_) fun _ _ h' => h')
    refine wpAny_bind (wpAny_mono h₁' (fun _ s₂ h₂ => wpAny_bind (wpAny_mono h₂ (fun ok s₃ h₃ => ?_) fun _ _ h' => h')) fun _ _ h' => h')
    cases ok with
    | false => exact wpAny_pure ⟨rfl, h₃⟩
    | true =>
      exact wpAny_bind (wpAny_bind (wpAny_mono h₃ (fun k s₄ h₄ => wpAny_bind (wpAny_holding (wpAny_mono h₄ (fun x s₅ h₅ => wpAny_bind (wpAny_standAt (wpAny_holding (wpAny_mono h₅ (fun _ s₆ h₆ => wpAny_pure ⟨rfl, h₆⟩) fun _ _ h' => h')))) fun _ _ h' => h'))) fun _ _ h' => h'))

def DcW (J : It) (g : TG) (tt : TT) (tk te : TE) (vs : List Nat) (σ : St) (H1 : Hp) (Q : VK) : Prop := ∀ D, H1 D = none → ∃ W : Nat → Nat → Hp → Prop, (∃ m, W 0 m (upd H1 D (.dK []))) ∧ ∀ i m H, W i m H →
  (J.stop i H ∧ Q (.ref D) H) ∨ (J.go i H ∧ ∃ Nx : Hp → Prop, (∀ H', Nx H' → ∃ m', m' < m ∧ W (i + 1) m' H') ∧ ∀ x H', J.yld i H x H' → g x (wipe σ vs) H' fun σ2 H2 => wipe σ2 vs = wipe σ vs ∧ tt σ2 H2 fun b H3 =>
    if b = true then tk σ2 H3 fun k H4 => te σ2 H4 fun y H5 => ∃ kvs kk, H5 D = some (.dK kvs) ∧ k = kV kk ∧ kvs.length < sizeLine ∧ Nx (upd H5 D (.dK (putK kvs kk y))) else Nx H3)
@[reducible] def tDcR (wi : TI) (g : TG) (tt : TT) (tk te : TE) (vs : List Nat) : TE := fun σ H Q => wi σ H fun J H1 => DcW J g tt tk te vs σ H1 Q
section
variable {X : Cx}
theorem dset_ok {pins : List (Addr × Obj)} {σ : St} {H : Hp} {s : Shared} {A : Around} {E : Value → Shared → Prop} {D : Addr} {kvs : List (Key × V)} {k : Key} {v : V} {u r : Value} {Q : Unit → Shared → Prop} (I : Inv X pins σ H s) (e : H D = some (.dK kvs)) (l : kvs.length < sizeLine) (ry : RelV (kV k) u) (rv : RelV v r)
    (h : ∀ s', Inv X pins σ (upd H D (.dK (putK kvs k v))) s' → Q () s') : wpAny (model X.prog X.w) A (dictSet D u r) Q E s := by
  obtain ⟨z, hd, vs, rel, dd⟩ := dk_of I.hok e
  have hz : vs.length ≤ sizeLine := by rw [← rel.length]; exact z
  have hl : (putK kvs k v).length ≤ sizeLine := by have := length_putK kvs k v; omega
  refine wpAny_dictSet_pairs (knd := mixKind X.prog X.w) (hsz := hz) (kV_is ry) dd fun h' dd' hs => h _ ?_
  have he : ∃ q, h'.get? D = some q := let ⟨q, _, _, hq, _⟩ := dd'; ⟨q, hq⟩
  exact d_write I (by rw [e]; exact True.intro) hs he (dk_new hl hd (rel.put k rv) dd')
theorem dc_core {pins : List (Addr × Obj)} {s : Shared} {σ : St} {H : Hp} {Q : VK} {kx vx tg iter : Expr} {ifs : List Expr} {scope : Scope} {own : List (Str × Nat)} {pos pos' : Pos} {wi : TI} {g : TG} {tt : TT} {tk te : TE} {use : Option (Value → Sem Unit)} {Qf : Value → Shared → Prop}
    (hc : X.calm = true) (hN : X.N.Nodup) (I : Inv X pins σ H s) (hi : PI X tg iter wi) (ok : BlkOk X.N X.env.scope scope own)
    (hg : ∀ (s : Shared) (H : Hp) (C : Addr) (cl : List (Str × Addr)) (fp : List Addr), PG (X.blk s H scope (compEnvC scope cl C X.env) fp) tg g) (ht : ∀ (s : Shared) (H : Hp) (C : Addr) (cl : List (Str × Addr)) (fp : List Addr), PTs (X.blk s H scope (compEnvC scope cl C X.env) fp) ifs tt)
    (hk : ∀ (s : Shared) (H : Hp) (C : Addr) (cl : List (Str × Addr)) (fp : List Addr), PE (X.blk s H scope (compEnvC scope cl C X.env) fp) kx tk) (he : ∀ (s : Shared) (H : Hp) (C : Addr) (cl : List (Str × Addr)) (fp : List Addr), PE (X.blk s H scope (compEnvC scope cl C X.env) fp) vx te) (hs : ∀ x, foldedSetIterable iter X.env x = pure x)
    (h : wi σ H fun J H1 => DcW J g tt tk te (own.map (·.2)) σ H1 Q)
    (hRR : ∀ D C s' m H', Inv X pins σ H' s' → Q (.ref D) H' → s'.heap.Ns C m → FpOk X pins H' C → compPost (model X.prog X.w) X.A X.xe use Qf (.ref D) C (.ok .next) s') :
    wpAny (model X.prog X.w) X.A (comprehension (.DictComp kx vx [⟨tg, iter, ifs, 0⟩] scope pos) scope X.env pos' newDict false (eval iter X.env) use) Qf X.xe s := by
  have hfree : ∀ y ∈ scope.names, y.2 = .free → ∃ c, X.env.cells.lookup y.1 = some c := fun y hy e => by
    rcases ok.free y hy e with k | k
    · exact I.ok.has _ (.inl k)
    · exact I.ok.has _ (.inr k)
  refine wpAny_comprehension_free (use := use) rfl hs (closure_ok hfree) ok.kind (fun y hy e => by rw [ok.uniq y hy, e])
    (thn (hi pins s σ H _ I h) fun xv s1 hx => thn hx fun itv s2 h2 => ?_)
  obtain ⟨it, fp, tn, J, H2, e, I2, T, st2, f2, q⟩ := h2
  subst e
  refine wpAny_newObj_type (newEnv_comp ?_) (by size_fits)
  generalize hD : s2.heap.objs.size = D
  have hDn : H2 D = none := I2.hok.fresh (Nat.le_of_eq hD)
  obtain ⟨W, ⟨m0, w0⟩, turn⟩ := q D hDn
  -- the new list
  generalize hs3 : ({ s2 with heap := s2.heap.push { cls := .type "dict", data := .dict #[] } } : Shared) = s3
  have I3 : Inv X pins σ (upd H2 D (.dK [])) s3 := by
    rw [← hs3]
    refine I2.laid (t' := s2.toks) (fun b o e => Heap.get?_push_of_some _ e) (Nat.le_of_eq hD) ?_
    rw [← hD]
    exact dk_empty s2.heap I2.big
  have h3 : s3.heap = s2.heap.push { cls := .type "dict", data := .dict #[] } := by rw [← hs3]
  have sz : ∀ b ∈ fp, b < s2.heap.objs.size := fun b hb => by
    obtain ⟨o, e, _⟩ := T.obj _ _ st2 b hb
    exact Heap.lt_size e
  have f3 : ∀ b ∈ fp, FpOk X pins (upd H2 D (.dK [])) b ∧ b < s3.heap.objs.size := fun b hb => by
    have hlt := sz b hb
    refine ⟨⟨?_, (f2 b hb).2⟩, by rw [h3, Heap.size_push]; exact Nat.lt_succ_of_lt hlt⟩
    rw [upd_ne (by rw [← hD]; exact Nat.ne_of_lt hlt)]
    exact (f2 b hb).1
  have st3 : tn 0 s3.heap := T.keep _ _ _ st2 fun b _ o e => by rw [h3]; exact Heap.get?_push_of_some _ e
  have I4 := block_start I3 ok hN f3
  have pg := hg s3 (upd H2 D (.dK [])) s3.heap.objs.size (cellsFrom (s3.heap.objs.size + 1) scope.names (cloFrom X.env.cells scope.names [])) fp
  have pt := ht s3 (upd H2 D (.dK [])) s3.heap.objs.size (cellsFrom (s3.heap.objs.size + 1) scope.names (cloFrom X.env.cells scope.names [])) fp
  have pk := hk s3 (upd H2 D (.dK [])) s3.heap.objs.size (cellsFrom (s3.heap.objs.size + 1) scope.names (cloFrom X.env.cells scope.names [])) fp
  have pe := he s3 (upd H2 D (.dK [])) s3.heap.objs.size (cellsFrom (s3.heap.objs.size + 1) scope.names (cloFrom X.env.cells scope.names [])) fp
  show codeAny _ _ (.compStart (.DictComp kx vx [⟨tg, iter, ifs, 0⟩] scope pos) 0 (.ref it) (.ref D) (compEnvC scope (cellsFrom (s3.heap.objs.size + 1) scope.names (cloFrom X.env.cells scope.names [])) s3.heap.objs.size X.env)) (compPost (model X.prog X.w) X.A X.xe use Qf (.ref D) s3.heap.objs.size) { s3 with heap := pushCells (s3.heap.push { cls := .type "dict", data := .dict #[] }) scope.names }
  have nfp : ∀ b ∈ fp, (upd H2 D (.dK [])) b = none := fun b hb => (f3 b hb).1.1
  generalize hce : compEnvC scope (cellsFrom (s3.heap.objs.size + 1) scope.names (cloFrom X.env.cells scope.names [])) s3.heap.objs.size X.env = ce at I4 pg pt pk pe ⊢
  have cL : ce.locals = s3.heap.objs.size := by subst hce; rfl
  generalize hH3 : upd H2 D (.dK []) = H3 at I3 I4 pg pt pk pe w0 nfp f3
  generalize hs4 : ({ s3 with heap := pushCells (s3.heap.push { cls := .type "dict", data := .dict #[] }) scope.names } : Shared) = s4 at I4 ⊢
  have st4 : tn 0 s4.heap := T.keep _ _ _ st3 fun b _ o e => by rw [← hs4]; exact pushCells_keeps _ _ _ _ (Heap.get?_push_of_some _ e)
  have stat : ∀ {σ' : St} {H' : Hp} {s' : Shared}, Inv (X.blk s3 H3 scope ce fp) [] σ' H' s' → (∀ b ∈ fp, H' b = none) → ∀ b ∈ fp, FpOk (X.blk s3 H3 scope ce fp) [] H' b := fun {σ' H' s'} I' hn b hb =>
    ⟨hn b hb, (I'.ok.exf b hb).1, I'.ok.exfs b hb, .inl hb, fun x c e => (I'.ok.exf b hb).2 x c e, fun p hp => absurd (show p ∈ ([] : List (Addr × Obj)) ++ [] from hp) (by simp)⟩
  have loop : codeAny (model X.prog X.w) X.A (.compLoop (.DictComp kx vx [⟨tg, iter, ifs, 0⟩] scope pos) 0 (.ref it) (.ref D) ce) (compPost (model X.prog X.w) X.A X.xe use Qf (.ref D) s3.heap.objs.size) s4 := by
    refine compLoop_anyD (fun n s' => ∃ i H', Inv (X.blk s3 H3 scope ce fp) [] (wipe σ (own.map (·.2))) H' s' ∧ tn i s'.heap ∧ (∀ b ∈ fp, H' b = none) ∧ W i n H') ?_ m0 ⟨0, H3, I4, st4, nfp, w0⟩
    rintro n s5 ⟨i, H5, I5, st5, n5, w5⟩
    rcases turn i n H5 w5 with ⟨stop, qq⟩ | ⟨go, Nx, hNx, step⟩
    · have td := T.done (X.blk s3 H3 scope ce fp) rfl rfl rfl hc i [] s5 _ H5 (fun _ _ => False) I5 (stat I5 n5) st5 stop
      refine thnF td fun r s6 ⟨hr, I6⟩ => ?_
      subst hr
      -- back in the def's context
      have I7 : Inv X pins σ H5 s6 := I3.call' (ch := fp) I6.os I6.base I6.hok I6.bare fun b hb => ⟨(f3 b hb).1.2.2.2.1, (f3 b hb).1.2.1, (f3 b hb).1.2.2.2.2.1, (f3 b hb).1.2.2.2.2.2⟩
      have nC : H5 s3.heap.objs.size = none := by
        have z : H5 ce.locals = none := I6.free
        rw [cL] at z
        exact z
      obtain ⟨m, hn, _⟩ := I6.loc
      have hn : s6.heap.Ns ce.locals m := hn
      rw [cL] at hn
      exact hRR D s3.heap.objs.size s6 m H5 I7 qq hn (I3.fpOk (Nat.le_refl _) nC)
    · have ti := T.item (X.blk s3 H3 scope ce fp) rfl rfl rfl hc i [] s5 _ H5 (fun _ _ => False) I5 (stat I5 n5) st5 go
      refine thnF ti fun r s6 ⟨u, hr, h6⟩ => ?_
      subst hr
      refine thnF h6 fun _ s7 ⟨x, H7, I7, r7, y7, st7, n7⟩ => ?_
      have I7' := I7.pinned (stat I7 n7) (T.obj _ _ st7)
      refine thnF (pg _ s7 _ H7 x u _ I7' r7 (step x H7 y7)) fun _ s8 ⟨σ8, H8, I8, hw8, q8⟩ => ?_
      refine thnF (pt _ s8 σ8 H8 _ I8 q8) fun b s9 ⟨H9, I9, q9⟩ => ?_
      -- the turn's end
      have fin : ∀ {s' : Shared} {H' : Hp}, Inv (X.blk s3 H3 scope ce fp) ([] ++ pinsAt fp s7.heap) σ8 H' s' → Nx H' → ∃ m, m < n ∧ ∃ i H', Inv (X.blk s3 H3 scope ce fp) [] (wipe σ (own.map (·.2))) H' s' ∧ tn i s'.heap ∧ (∀ b ∈ fp, H' b = none) ∧ W i m H' := fun {s' H'} I' nx => by
        obtain ⟨m', hm, w'⟩ := hNx H' nx
        have pin' : ∀ b ∈ fp, ∀ o, s7.heap.get? b = some o → s'.heap.get? b = some o ∧ H' b = none := fun b hb o e =>
          let z := I'.pin (b, o) (List.mem_append_right _ (List.mem_append_right _ (mem_pinsAt hb e)))
          ⟨z.1, z.2.1⟩
        have hl : (wipe σ (own.map (·.2))).length = σ8.length := by rw [← hw8, wipe_length]
        refine ⟨m', hm, i + 1, H', (I'.unpinned (pins := [])).weak hl (fun j v e => ?_), T.keep _ _ _ st7 fun b hb o e => (pin' b hb o e).1, fun b hb => ?_, w'⟩
        · rw [← hw8] at e
          exact (wipe_some e).1
        · obtain ⟨o, e, _⟩ := T.obj _ _ st7 b hb
          exact (pin' b hb o e).2
      cases b with
      | false =>
        simp only [Bool.false_eq_true, if_false] at q9 ⊢
        exact fin I9 q9
      | true =>
        simp only [if_true] at q9 ⊢
        refine thnF (pk _ s9 σ8 H9 _ I9 q9) fun zk s9' ⟨kv, H9', I9', rk, q9'⟩ => ?_
        refine thnF (pe _ s9' σ8 H9' _ I9' q9') fun z s10 ⟨yv, H10, I10, r10, kvs, kk, hD10, ek, hz10, nx⟩ => ?_
        subst ek
        exact dset_ok (X := X.blk s3 H3 scope ce fp) I10 hD10 hz10 rk r10 fun s11 I11 => fin I11 nx
  exact codeAny_compStart_dict loop (T.self X.A 0 _ _ _ st4 loop)
theorem pe_dcR {kx vx tg iter : Expr} {ifs : List Expr} {scope : Scope} {own : List (Str × Nat)} {pos : Pos} {wi : TI} {g : TG} {tt : TT} {tk te : TE} (hN : X.N.Nodup) (hi : PI X tg iter wi) (ok : BlkOk X.N X.env.scope scope own)
    (hg : ∀ (s : Shared) (H : Hp) (C : Addr) (cl : List (Str × Addr)) (fp : List Addr), PG (X.blk s H scope (compEnvC scope cl C X.env) fp) tg g) (ht : ∀ (s : Shared) (H : Hp) (C : Addr) (cl : List (Str × Addr)) (fp : List Addr), PTs (X.blk s H scope (compEnvC scope cl C X.env) fp) ifs tt)
    (hk : ∀ (s : Shared) (H : Hp) (C : Addr) (cl : List (Str × Addr)) (fp : List Addr), PE (X.blk s H scope (compEnvC scope cl C X.env) fp) kx tk) (he : ∀ (s : Shared) (H : Hp) (C : Addr) (cl : List (Str × Addr)) (fp : List Addr), PE (X.blk s H scope (compEnvC scope cl C X.env) fp) vx te)
    (hc : X.calm = true := by rfl) (hs : ∀ x, foldedSetIterable iter X.env x = pure x := by intro _; rfl) :
    PE X (.DictComp kx vx [⟨tg, iter, ifs, 0⟩] scope pos) (tDcR wi g tt tk te (own.map (·.2))) := by
  intro pins s σ H Q I h
  rw [arm_eval_DictComp]
  refine dc_core hc hN I hi ok hg ht hk he hs h fun D C s' m H' I' q hn f => ⟨m, hn, fun h'' sb => ?_⟩
  obtain ⟨f0, f1, f2, f3, f4, f5⟩ := f
  exact ⟨.ref D, H', I'.turned (t' := s'.toks) (fun b o hb e => (sb.2 b hb).trans e) f0 f1 f3 f4 f5, rfl, q⟩
end
end L2

namespace L2
open PySem PySem.Spec PyProof.Rows
/-! ### enumerate(tuple) -/
/-- a source as the library's draws -/
theorem Src.draws {prog : Program} {w : World} {A : Around} {it l : Addr} {xs : Array Value} (hh : A.handled = none) (hne : it ≠ l) :
    Draws prog w A it [it, l] xs.size (fun i v => xs[i]? = some v) (fun i h => h.IsTupleIter it l i ∧ IsTup h l xs) where
  live := fun i h st => let ⟨o, e, _⟩ := st.1; ⟨o, e⟩
  frame := fun i h h' st k => (src_tup (prog := prog) (w := w) hne).keep st fun c hc o e => k c (by rcases hc with rfl | rfl <;> simp) o e
  item := fun i s Q E hi st hQ => (src_tup hne).item (x := xs[i]) st (by simp [hi]) fun h' st' sb => hQ _ h' s.toks (by simp [hi]) st' sb
  done := fun s Q E st hE => (src_tup hne).stop hh st (by simp) hE
theorem en_newT (a : Addr) (xs : Array Value) : Meets (Builtin.«enumerate.__new__» ⟨[.type "enumerate", .ref a], []⟩) (fun _ R s => s.heap.IsTuple a xs ∧
      R (.ok (.ret (.ref (zt1 s.heap a).objs.size))) { s with heap := (zt1 s.heap a).push { cls := .type "enumerate", data := .fields #[.none, .bool false, .ref s.heap.objs.size, rawInt 0, .none, .none] } }) :=
  .of_wp fun prog w A R s h => by
    obtain ⟨hp, g, d, tk, os⟩ := s
    obtain ⟨t1, h⟩ := h
    have hsub := sub_enumerate
    have T1 : Heap.IsTuple (Shared.heap ⟨hp, g, d, tk, os⟩) a xs := t1
    obtain ⟨o, hl, hc, k, hd⟩ := id t1
    have hl' : (Shared.heap ⟨hp, g, d, tk, os⟩).get? a = some o := hl
    wp_walk using AutoSeq1.wpAny_loadPart' hl'
    refine wpAny_stack_any fun st => wpAny_pure ?_
    split
    · rename_i c _ _ _ _ _
      cases (c == Value.type "enumerate")
      · wp_walk using AutoSeq1.wpAny_loadPart' hl', wpAny_pyIter_tuple T1
        exact ⟨_, rfl, h⟩
      · wp_walk using AutoSeq1.wpAny_loadPart' hl', wpAny_pyIter_tuple T1
        exact ⟨_, rfl, h⟩
    · wp_walk using AutoSeq1.wpAny_loadPart' hl', wpAny_pyIter_tuple T1
      exact ⟨_, rfl, h⟩
section
variable {prog : Program} {w : World} {A : Around} {E : Value → Shared → Prop} {s : Shared}
theorem call_enumT {a : Addr} {xs : Array Value} {Q : Value → Shared → Prop} (t1 : s.heap.IsTuple a xs)
    (h : ∀ h', IsEnum h' (s.heap.objs.size + 1) s.heap.objs.size 0 .none → h'.IsTupleIter s.heap.objs.size a 0 → (∀ b o, s.heap.get? b = some o → h'.get? b = some o) → Q (.ref (s.heap.objs.size + 1)) { s with heap := h' }) :
    wpAny (model prog w) A (call (.type "enumerate") [.ref a]) Q E s := by
  refine callType_new F.called_enumerate (by decide) (F.typeCall_enumerate_1 _) (F.newCall_enumerate_1 _) (fun obj => F.args_object_init_2 obj _) F.entry_enumerate_new (en_newT a xs) ⟨t1, ?_⟩
  have e1 : (zt1 s.heap a).objs.size = s.heap.objs.size + 1 := Heap.size_push ..
  have q : ((zt1 s.heap a).push { cls := .type "enumerate", data := .fields #[.none, .bool false, .ref s.heap.objs.size, rawInt 0, .none, .none] }).get? (zt1 s.heap a).objs.size = some _ := Heap.get?_push_size _ rfl
  show _ ∧ _
  rw [e1] at q ⊢
  exact ⟨⟨_, q, rfl⟩, h _ q ⟨_, Heap.get?_push_of_some _ (Heap.get?_push_size _ rfl), rfl, rfl⟩ fun b o x => Heap.get?_push_of_some _ (Heap.get?_push_of_some _ x)⟩
end
/-- the tuple at a, each item in a new pair -/
def IteT (a : Addr) : It :=
  ⟨fun i H => ∃ (xs : List V) (x : V), H a = some (.tup xs) ∧ xs[i]? = some x, fun i H v H' => ∃ T x, v = .ref T ∧ H T = none ∧ H' = upd H T (.tup [.int (i : Nat), x]) ∧ ∀ xs, H a = some (.tup xs) → xs[i]? = some x, fun i H => ∃ xs : List V, H a = some (.tup xs) ∧ xs.length = i⟩
theorem turn_enumT {P : Program} {w : World} {K : PySem.W.Frag} {elts : List Expr} {kk : Nat} {tpos : Pos} (a e it : Addr) (hea : e ≠ a) (hia : it ≠ a) (hne : e ≠ it) :
    Turn P w K (.Tuple elts kk tpos) (IteT a) [e, it] e (fun i h => (∃ old, IsEnum h e it ((i : Nat) : Int) old) ∧ h.IsTupleIter it a i) where
  mem := by simp
  obj := fun i h st b hb => by
    obtain ⟨⟨old, he⟩, ⟨o, ho, hc, hd⟩⟩ := st
    have e' : b = e ∨ b = it := by simpa using hb
    rcases e' with z | z
    · rw [z]; exact ⟨_, he, fun v q => nomatch q⟩
    · rw [z]; exact ⟨o, ho, fun v q => by rw [hd] at q; cases q⟩
  keep := fun i h h' st k => let ⟨⟨old, he⟩, hi⟩ := st; ⟨⟨old, k e (by simp) _ he⟩, hi.at fun o q => k it (by simp) o q⟩
  item := by
    intro X hP hw hK hc i pins s σ H E I hf st hg
    subst hP hw hK
    obtain ⟨⟨old, he⟩, hit⟩ := st
    obtain ⟨xs, x, hq, hx⟩ := hg
    obtain ⟨its, rv, p, hz⟩ := I.tuple (SqT.of hq)
    obtain ⟨u, hu, ru⟩ := rv.get hx
    have hel : e < s.heap.objs.size := Heap.lt_size he
    have hil : it < s.heap.objs.size := by obtain ⟨_, q, _⟩ := hit; exact Heap.lt_size q
    have hlt : i < its.toArray.size := by
      have := (List.getElem?_eq_some_iff.mp hu).1
      simpa using this
    refine wpAny_pyNext_enum_itemD (Src.draws (A := X.A.in1) (xs := its.toArray) (I.ok.hd hc) hia) he ⟨hit, p⟩ hlt hne (by simp [hne, hea]) fun x' h' tk hp ho hst hT hsz hk => ?_
    have ex : x' = u := by
      have hp : its.toArray[i]? = some x' := hp
      simp at hp
      rw [hu] at hp
      exact (Option.some.inj hp).symm
    subst ex
    refine ⟨_, rfl, wpAny_letOwnedTupleGo_enum (s := { s with heap := h', toks := tk + 1 }) ho fun h'' he' sb => ?_⟩
    have hT2 : h''.get? s.heap.objs.size = some { cls := .type "tuple", data := .seq #[.int i tk, x'] } := (sb.2 _ (Nat.ne_of_gt hel)).trans hT
    have new : ObjOk X.prog X.w (upd H s.heap.objs.size (.tup [.int (i : Nat), x])) h'' s.heap.objs.size (.tup [.int (i : Nat), x]) :=
      ⟨by show 2 ≤ sizeLine; decide, [.int i tk, x'], .cons ⟨_, rfl⟩ (.cons ru .nil), ⟨_, hT2, rfl, _, rfl, rfl⟩⟩
    have I1 : Inv X pins σ (upd H s.heap.objs.size (.tup [.int (i : Nat), x])) { s with heap := h'', toks := tk + 1 } :=
      I.turnedNew (ch := [e, it]) (fun b ob hb q => (sb.2 b (fun z => hb (by simp [z]))).trans (hk b ob (fun z => hb (by simp [z])) (fun z => hb (by simp [z])) q)) hf (Nat.le_refl _) new
    refine ⟨.ref s.heap.objs.size, _, I1, rfl, ⟨_, x, rfl, I.hok.fresh (Nat.le_refl _), rfl, fun ys hy => by rw [hq] at hy; cases hy; exact hx⟩, ⟨⟨x', ?_⟩, hst.1.at fun o q => (sb.2 it (Ne.symm hne)).trans q⟩, fun b hb => ?_⟩
    · have e1 : ((i + 1 : Nat) : Int) = (i : Int) + 1 := by omega
      rw [e1]; exact he'
    · have hb' : b < s.heap.objs.size := by
        have e' : b = e ∨ b = it := by simpa using hb
        rcases e' with z | z
        · rw [z]; exact hel
        · rw [z]; exact hil
      rw [upd_ne (Nat.ne_of_lt hb')]
      exact (hf b hb).1
  done := by
    intro X hP hw hK hc i pins s σ H E I hf st hg
    subst hP hw hK
    obtain ⟨⟨old, he⟩, hit⟩ := st
    obtain ⟨xs, hq, hx⟩ := hg
    obtain ⟨its, rv, p, hz⟩ := I.tuple (SqT.of hq)
    obtain ⟨f0, f1, f2, f3, f4, f5⟩ := hf it (by simp)
    have hl := rv.length
    have hn : its.toArray.size = i := by simp; omega
    exact wpAny_pyNext_enum_endD (Src.draws (A := X.A.in1) (xs := its.toArray) (I.ok.hd hc) hia) he ⟨hn ▸ hit, p⟩ fun h' eb => ⟨rfl, I.turned (t' := s.toks) (fun b o hb q => eb b o hb q) f0 f1 f3 f4 f5⟩
  self := fun A i s Q E st h => let ⟨⟨_, he⟩, _⟩ := st; wpAny_pyIter_enum he h
@[reducible] def iEnumT (ta : TA) : TI := fun σ H R => ta σ H fun vs H1 => ∃ a xs, vs = [.ref a] ∧ H1 a = some (.tup xs) ∧ R (IteT a) H1
theorem pi_enumT {X : Cx} {e : Expr} {ta : TA} {p pos tpos : Pos} {elts : List Expr} {kk : Nat} (hg : Gl X "enumerate") (hm : X.mg "enumerate" = none) (ha : PA X [e] ta) (hs : starEach [e] X.env = [(false, eval e X.env)] := by rfl) :
    PI X (.Tuple elts kk tpos) (.Call (.Name "enumerate" p) [e] [] pos) (iEnumT ta) := by
  intro pins s σ H R I h
  refine Call_ (ld_blt I hg hm boot_enumerate (PyProof.Rows.callWith_type1 (thn (ha pos pins s σ H _ I h) fun us s1 ⟨vs, H1, I1, r1, q1⟩ => ?_) hs rfl))
  obtain ⟨a, xs, ex, hq, q⟩ := q1
  subst ex
  cases r1 with
  | cons r rr =>
    cases rr
    cases r
    obtain ⟨its, rv, p', hz⟩ := I1.tuple (SqT.of hq)
    have hal : a < s1.heap.objs.size := p'.lt
    refine call_enumT p' fun h' he hit hk => wpAny_pyIter_enum he ?_
    have I2 : Inv X pins σ H1 { s1 with heap := h' } := I1.kept (t' := s1.toks) hk
    refine ⟨s1.heap.objs.size + 1, [s1.heap.objs.size + 1, s1.heap.objs.size], _, _, H1, rfl, I2, turn_enumT a (s1.heap.objs.size + 1) s1.heap.objs.size (Nat.ne_of_gt (Nat.lt_succ_of_lt hal)) (Nat.ne_of_gt hal) (Nat.succ_ne_self _), ⟨⟨.none, he⟩, hit⟩, fun b hb => ?_, q⟩
    have e' : b = s1.heap.objs.size + 1 ∨ b = s1.heap.objs.size := by simpa using hb
    have hle : s1.heap.objs.size ≤ b := by
      rcases e' with z | z
      · rw [z]; exact Nat.le_add_right _ _
      · rw [z]; exact Nat.le_refl _
    exact I1.fpOk hle (I1.hok.fresh hle)
/-! ### the walks, turn by turn -/
@[reducible] def DcT (D : Addr) (g : TG) (tt : TT) (tk te : TE) (vs : List Nat) (σ : St) (x : V) (H : Hp) (Nx : Hp → Prop) : Prop :=
  g x (wipe σ vs) H fun σ2 H2 => wipe σ2 vs = wipe σ vs ∧ tt σ2 H2 fun b H3 => if b = true then tk σ2 H3 fun k H4 => te σ2 H4 fun y H5 => ∃ kvs kk, H5 D = some (.dK kvs) ∧ k = kV kk ∧ kvs.length < sizeLine ∧ Nx (upd H5 D (.dK (putK kvs kk y))) else Nx H3
theorem dcR_enumT {a : Addr} {xs : List V} {g : TG} {tt : TT} {tk te : TE} {vs : List Nat} {σ : St} {H1 : Hp} {Q : VK} (h : ∀ D, H1 D = none → ∃ Pv : Nat → Hp → Prop, Pv 0 (upd H1 D (.dK [])) ∧ (∀ i H, Pv i H → H a = some (.tup xs)) ∧
    (∀ i x H T, xs[i]? = some x → Pv i H → H T = none → DcT D g tt tk te vs σ (.ref T) (upd H T (.tup [.int (i : Nat), x])) (Pv (i + 1))) ∧ (∀ H, Pv xs.length H → Q (.ref D) H)) : DcW (IteT a) g tt tk te vs σ H1 Q := by
  intro D hD
  obtain ⟨Pv, h0, hk, hs, hd⟩ := h D hD
  refine ⟨fun i m H => m = xs.length - i ∧ i ≤ xs.length ∧ Pv i H, ⟨xs.length, by simp, Nat.zero_le _, h0⟩, ?_⟩
  rintro i m H ⟨rfl, hi, p⟩
  have ha := hk i H p
  by_cases hlt : i < xs.length
  · refine .inr ⟨⟨xs, xs[i], ha, by simp [hlt]⟩, Pv (i + 1), fun H' p' => ⟨xs.length - (i + 1), by omega, rfl, hlt, p'⟩, fun x H' y => ?_⟩
    obtain ⟨T, x1, rfl, hT, rfl, e1⟩ := y
    exact hs i x1 H T (e1 xs ha) p hT
  · have e : i = xs.length := by omega
    subst e
    exact .inl ⟨⟨xs, ha, rfl⟩, hd H p⟩
end L2

namespace L2
open PySem PySem.Spec PyProof.Rows
/-! ### dict(zip(tuple, tuple)) -/
section
variable {prog : Program} {w : World} {A : Around} {E : Value → Shared → Prop} {s : Shared}
/-- a zip whose last pair is still there -/
abbrev ZipB (h : Heap) (z TI TO T0 : Addr) (b : Bool) : Prop := h.get? z = some { cls := .type "zip", dict := none, data := .fields #[rawInt T0, .bool b, .bool false, .ref TI, .ref TO], slots := #[] }
variable {St1 St2 : Nat → Heap → Prop} {v1 v2 : Nat → Option Value} {z TI TO T0 i1 i2 l1 l2 : Addr}
structure ZipS2 (St1 St2 : Nat → Heap → Prop) (z TI TO T0 i1 i2 : Addr) (i : Nat) (h : Heap) : Prop where
  hz : ∃ b, ZipB h z TI TO T0 b
  al : ∃ o, h.get? T0 = some o
  pi : IsPair h TI (.ref i1) (.ref i2)
  s1 : St1 i h
  s2 : St2 i h
theorem ZipS2.keep (S1 : Src prog w i1 l1 St1 v1) (S2 : Src prog w i2 l2 St2 v2) {i : Nat} {h h' : Heap} (Z : ZipS2 St1 St2 z TI TO T0 i1 i2 i h) (k : ∀ c, (c = z ∨ c = T0 ∨ c = TI ∨ c = i1 ∨ c = l1 ∨ c = i2 ∨ c = l2) → ∀ o, h.get? c = some o → h'.get? c = some o) : ZipS2 St1 St2 z TI TO T0 i1 i2 i h' := by
  obtain ⟨⟨b, hz⟩, ⟨o0, hal⟩, hTI, st1, st2⟩ := Z
  exact ⟨⟨b, k _ (by simp) _ hz⟩, ⟨o0, k _ (by simp) _ hal⟩, k _ (by simp) _ hTI, S1.keep st1 fun c hc o e => k c (by rcases hc with rfl | rfl <;> simp) o e, S2.keep st2 fun c hc o e => k c (by rcases hc with rfl | rfl <;> simp) o e⟩
variable {us ws : Array Value}
end
end L2

namespace L2
open PySem PySem.Spec PyProof.Rows
section
variable {prog : Program} {w : World} {A : Around} {E : Value → Shared → Prop} {s : Shared} {z TI TO i1 i2 l1 l2 : Addr} {us ws : Array Value}
end
end L2

namespace L2
open PySem PySem.Spec PyProof.Rows
/-! ### a block in a block -/
def rlb (env : Env) : Str × NameKind → Str × NameKind := fun (n, k) => if (k == NameKind.free && env.scope.kind == .function && env.kindOf n == some .cell) then (n, NameKind.cell) else (n, k)
theorem rlb_is (env : Env) (n : Str) (j : NameKind) : rlb env (n, j) = (n, j) ∨ rlb env (n, j) = (n, .cell) := by
  unfold rlb
  dsimp only
  split
  · exact .inr rfl
  · exact .inl rfl
theorem relabel_look {env : Env} {k : NameKind} (hk : k = .free ∨ k = .cell) : ∀ {names : List (Str × NameKind)} {x : Str}, names.lookup x = some k → (names.map (rlb env)).lookup x = some .cell ∨ (names.map (rlb env)).lookup x = some .free
  | [], _, h => by simp at h
  | (n, j) :: r, x, h => by
    rw [List.lookup_cons] at h
    rw [List.map_cons]
    by_cases e : (x == n) = true
    · rw [e] at h
      have h : j = k := Option.some.inj h
      subst h
      rcases rlb_is env n j with q | q
      · rw [q, List.lookup_cons, e]
        rcases hk with rfl | rfl
        · exact .inr rfl
        · exact .inl rfl
      · rw [q, List.lookup_cons, e]
        exact .inl rfl
    · have e : (x == n) = false := by simpa using e
      rw [e] at h
      have ih := relabel_look (env := env) hk (names := r) h
      rcases rlb_is env n j with q | q
      · rw [q, List.lookup_cons, e]; exact ih
      · rw [q, List.lookup_cons, e]; exact ih
theorem blkOk_nest {N : List Str} {sc1 scope : Scope} {own : List (Str × Nat)} {env : Env} (h : blkC N sc1 scope own = true) : BlkOk N (relabel sc1 env) scope own := by
  obtain ⟨a, b, c, d, e⟩ := blkOk_by h
  refine ⟨a, b, c, fun y hy z => ?_, e⟩
  rcases d y hy z with q | q
  · exact relabel_look (env := env) (.inr rfl) q
  · exact relabel_look (env := env) (.inl rfl) q
theorem pi_tupK {X : Cx} {tg e : Expr} {te : TE} (K : PySem.W.Frag) (hK : X.K = K) (h : PE X e te) : PI X tg e (iTup K te) := by
  subst hK
  exact pi_tup h
theorem pi_listK {X : Cx} {tg e : Expr} {te : TE} (K : PySem.W.Frag) (hK : X.K = K) (h : PE X e te) : PI X tg e (iList K te) := by
  subst hK
  exact pi_list h
/-! ### where a past leads -/
def pl (ss : List Str) (s : Str) : Nat := ss.findIdx fun x => decide (x = s)
theorem pl_lt {ss : List Str} {s : Str} (h : s ∈ ss) : pl ss s < ss.length := List.findIdx_lt_length_of_exists ⟨s, h, by simp⟩
theorem pl_get {ss : List Str} {s : Str} (h : s ∈ ss) : ss[pl ss s]? = some s := by
  have hl := pl_lt h
  rw [List.getElem?_eq_getElem hl]
  have q := List.findIdx_getElem (w := hl)
  exact congrArg some (of_decide_eq_true q)
theorem pl_of {ss : List Str} {s : Str} {j : Nat} (hn : ss.Nodup) (h : ss[j]? = some s) : pl ss s = j := by
  have e := pl_get (List.mem_of_getElem? h)
  have h1 := (List.getElem?_eq_some_iff.mp e).1
  exact (List.getElem?_inj h1 hn).mp (e.trans h.symm)
def wayL (w : Wb) (n : Str) : List Str := ((w.moves.find? fun m => decide (m.1 = n)).map (·.2.2)).getD []
def step (w : Wb) (n s : Str) : Str := ((wayL w n)[pl w.states s]?).getD s
def goS (w : Wb) (past : List Str) (s : Str) : Str := past.foldl (fun s n => step w n s) s
theorem find_nd {l : List (Str × Int × List Str)} {m : Str × Int × List Str} (hn : (l.map (·.1)).Nodup) (h : m ∈ l) : l.find? (fun x => decide (x.1 = m.1)) = some m := by
  induction l with
  | nil => cases h
  | cons a r ih =>
    rw [List.map_cons, List.nodup_cons] at hn
    rw [List.find?_cons]
    rcases List.mem_cons.mp h with rfl | h
    · simp
    · have : ¬ a.1 = m.1 := fun e => hn.1 (e ▸ List.mem_map_of_mem h)
      simp only [this, decide_false]
      exact ih hn.2 h
theorem wayL_of {w : Wb} (g : Good w) {m : Str × Int × List Str} (h : m ∈ w.moves) : wayL w m.1 = m.2.2 := by
  unfold wayL
  rw [find_nd g.mnd h]
  rfl
theorem step_at {w : Wb} (g : Good w) {m : Str × Int × List Str} (h : m ∈ w.moves) {i : Nat} {s : Str} (hs : w.states[i]? = some s) : m.2.2[i]? = some (step w m.1 s) := by
  have gm := g.mv m h
  have hi := (List.getElem?_eq_some_iff.mp hs).1
  unfold step
  rw [wayL_of g h, pl_of g.snd hs, List.getElem?_eq_getElem (show i < m.2.2.length by rw [gm.len]; exact hi)]
  rfl
theorem step_map {w : Wb} (g : Good w) {m : Str × Int × List Str} (h : m ∈ w.moves) : w.states.map (step w m.1) = m.2.2 := by
  have gm := g.mv m h
  refine List.ext_getElem? fun i => ?_
  rw [List.getElem?_map]
  cases e : w.states[i]? with
  | none =>
    rw [List.getElem?_eq_none_iff] at e
    exact (List.getElem?_eq_none (by rw [gm.len]; exact e)).symm
  | some s => exact (step_at g h e).symm
theorem step_mem {w : Wb} (g : Good w) {n s : Str} (hn : n ∈ w.moves.map (·.1)) (hs : s ∈ w.states) : step w n s ∈ w.states := by
  obtain ⟨m, hm, rfl⟩ := List.mem_map.mp hn
  exact (g.mv m hm).img _ (by rw [← step_map g hm]; exact List.mem_map_of_mem hs)
theorem goS_mem {w : Wb} (g : Good w) : ∀ {ns : List Str} {s : Str}, (∀ n ∈ ns, n ∈ w.moves.map (·.1)) → s ∈ w.states → goS w ns s ∈ w.states
  | [], s, _, hs => hs
  | n :: ns, s, hn, hs => goS_mem g (ns := ns) (fun m hm => hn m (List.mem_cons_of_mem _ hm)) (step_mem g (hn n (List.mem_cons_self ..)) hs)
/-! ### dicts of unlike keys -/
def WayAt (H : Hp) (ss : List Str) (a : Addr) (im : List Str) : Prop := H a = some (.lst (im.map fun x => V.int (pl ss x)))
def Names (w : Wb) (ns : List Str) : Prop := ∀ n ∈ ns, n ∈ w.moves.map (·.1)
end L2

namespace L2
open PySem PySem.Spec PyProof.Rows
/-! ### data read back -/
def PastsAt (H : Hp) (W : Wb) (qs : List Addr) : Prop := ∀ q ∈ qs, ∃ ns, H q = some (.tup (ns.map V.str)) ∧ ns.length ≤ 1000 ∧ Names W ns
theorem PastsAt.mono {H H' : Hp} {W : Wb} {qs : List Addr} (k : KeepT H H') (h : PastsAt H W qs) : PastsAt H' W qs := fun q hq => by
  obtain ⟨ns, h1, h2, h3⟩ := h q hq
  exact ⟨ns, k _ _ h1, h2, h3⟩
end L2

namespace L2
open PySem PySem.Spec PyProof.Rows
/-! ### where all meet -/
def lastK (ns : List Str) (k : Nat) : List Str := ns.drop (ns.length - k)
def ledK (W : Wb) (ns : List Str) (k : Nat) : List Str := W.states.map (goS W (lastK ns k))
def many1 (l : List Str) : Prop := 1 < (dedup l).length
def IsMet (W : Wb) (ns : List Str) : Option (Str × Nat) → Prop
  | some (s, k) => k ≤ ns.length ∧ ¬ many1 (ledK W ns k) ∧ (ledK W ns k)[0]? = some s ∧ ∀ j, j < k → many1 (ledK W ns j)
  | none => ∀ j, j ≤ ns.length → many1 (ledK W ns j)
def MetAt (H : Hp) (v : V) : Option (Str × Nat) → Prop
  | some (s, k) => DatAt H v (.tup [.str s, .int (k : Nat)])
  | none => v = .non
theorem MetAt.mono {H H' : Hp} {v : V} {r : Option (Str × Nat)} (k : KeepT H H') (h : MetAt H v r) : MetAt H' v r := by
  cases r with
  | none => exact h
  | some x => exact DatAt.mono k (show DatAt H v _ from h)
theorem IsMet.uniq {W : Wb} {ns : List Str} : ∀ {r r' : Option (Str × Nat)}, IsMet W ns r → IsMet W ns r' → r = r'
  | none, none, _, _ => rfl
  | none, some (s, k), h, h' => absurd (h k h'.1) h'.2.1
  | some (s, k), none, h, h' => absurd (h' k h.1) h.2.1
  | some (s, k), some (s', k'), h, h' => by
    have e : k = k' := by
      rcases Nat.lt_trichotomy k k' with q | q | q
      · exact absurd (h'.2.2.2 k q) h.2.1
      · exact q
      · exact absurd (h.2.2.2 k' q) h'.2.1
    subst e
    have := h.2.2.1.symm.trans h'.2.2.1
    cases this
    rfl
/-! ### pairs in a list, for a dict -/
def prI (D : Addr) (ss : List Str) (h : Str → Str) (H : Hp) : Nat → Hp → Prop := fun k H' => ∃ qs : List Addr, H' D = some (.lst (qs.map V.ref)) ∧ Paired (fun q s => H' q = some (.tup [.str s, .str (h s)])) qs (ss.take k) ∧ Same H H'
theorem prI.put {D Tp : Addr} {ss : List Str} {h : Str → Str} {H H' : Hp} {k : Nat} {s : Str} {qs : List Addr} (hD : H D = none) (hs : ss[k]? = some s) (c1 : H' D = some (.lst (qs.map V.ref))) (c2 : Paired (fun q s => H' q = some (.tup [.str s, .str (h s)])) qs (ss.take k)) (sm : Same H H') (hT : H' Tp = none) :
    prI D ss h H (k + 1) (upd (upd H' Tp (.tup [.str s, .str (h s)])) D (.lst (qs.map V.ref ++ [V.ref Tp]))) := by
  have nT : Tp ≠ D := fun e => by
    rw [e, c1] at hT
    cases hT
  refine ⟨qs ++ [Tp], by rw [upd_same, app_map], ?_, Same.put (Same.new sm hT) hD⟩
  rw [take_snoc hs]
  refine Paired.snoc (Paired.mapP c2 fun q t e => ?_) (by rw [upd_ne nT, upd_same])
  rw [upd_ne (ne_of e c1 (by intro z; cases z)), upd_ne (ne_of_none e hT)]
  exact e
theorem prI.pairs {K : PySem.W.Frag} {H' : Hp} {h : Str → Str} : ∀ {qs : List Addr} {ss : List Str}, Paired (fun q s => H' q = some (.tup [.str s, .str (h s)])) qs ss → Paired (fun p (kv : Key × V) => SqT K H' p [kV kv.1, kv.2]) qs (ss.map fun s => ((Sum.inr s : Key), V.str (h s)))
  | _, _, .nil => .nil
  | _, _, .cons e r => .cons (SqT.of e) (prI.pairs r)
end L2

namespace L2
open PySem PySem.Spec PyProof.Rows
/-! ### unlike items of a list -/
/-! ### pasts that don't let all meet -/
def NotOne (w : Wb) (past : List Str) : Prop := ∃ s ∈ w.states, ∃ t ∈ w.states, goS w past s ≠ goS w past t
theorem goS_app (w : Wb) (a b : List Str) (s : Str) : goS w (a ++ b) s = goS w b (goS w a s) := by
  unfold goS
  rw [List.foldl_append]
theorem NotOne.behind {w : Wb} (g : Good w) {u v : List Str} (hu : Names w u) (h : NotOne w (u ++ v)) : NotOne w v := by
  obtain ⟨s, hs, t, ht, e⟩ := h
  rw [goS_app, goS_app] at e
  exact ⟨_, goS_mem g hu hs, _, goS_mem g hu ht, e⟩
def Inj (w : Wb) (v : List Str) : Prop := ∀ s ∈ w.states, ∀ t ∈ w.states, goS w v s = goS w v t → s = t
theorem NotOne.inj {w : Wb} (g : Good w) {u v : List Str} (hu : Names w u) (hv : Inj w v) (h : NotOne w u) : NotOne w (u ++ v) := by
  obtain ⟨s, hs, t, ht, e⟩ := h
  refine ⟨s, hs, t, ht, fun z => e ?_⟩
  rw [goS_app, goS_app] at z
  exact hv _ (goS_mem g hu hs) _ (goS_mem g hu ht) z
theorem Inj.behind {w : Wb} (g : Good w) {u v : List Str} (hu : Names w u) (hiu : Inj w u) (h : Inj w v) : Inj w (u ++ v) := fun s hs t ht e => by
  rw [goS_app, goS_app] at e
  exact hiu s hs t ht (h _ (goS_mem g hu hs) _ (goS_mem g hu ht) e)
/-! ### the past that lets all meet latest -/
end L2

namespace L2
open PySem PySem.Spec PyProof.Rows
/-! ### tuple + tuple, any; tuple * int; a list unpacked -/
section
variable {X : Cx}
end
end L2

namespace L2
open PySem PySem.Spec PyProof.Rows
section
variable {prog : Program} {w : World} {A : Around} {E : Value → Shared → Prop} {s : Shared}
end
section
variable {X : Cx}
end
end L2

namespace L2
open PySem PySem.Spec PyProof.Rows
/-! ### webs that turn all round -/
end L2

namespace L2
open PySem PySem.Spec PyProof.Rows
/-! ### the latest past as the law lays it -/
end L2

namespace L2
open PySem PySem.Spec PyProof.Rows
/-! ### equal data -/
theorem canLays : ∀ {ds : List Dt}, (∀ d ∈ ds, (pyOf d).canLay0 = true) → PyData.canLayAll0 (pysOf ds) = true
  | [], _ => rfl
  | d :: ds, h => by
    show ((pyOf d).canLay0 && PyData.canLayAll0 (pysOf ds)) = true
    rw [h d (by simp), canLays fun x hx => h x (by simp [hx])]
    rfl
theorem depths : ∀ {ds : List Dt} {n : Nat}, (∀ d ∈ ds, (pyOf d).depth ≤ n) → PyData.depthAll (pysOf ds) ≤ n
  | [], n, _ => Nat.zero_le n
  | d :: ds, n, h => by
    show max (pyOf d).depth (PyData.depthAll (pysOf ds)) ≤ n
    exact Nat.max_le.mpr ⟨h d (by simp), depths fun x hx => h x (by simp [hx])⟩
inductive ShO : Nat → Dt → Prop where
  | str {n : Nat} (x : Str) (h : PyData.strOk x = true) : ShO n (.str x)
  | int {n : Nat} (i : Int) : ShO n (.int i)
  | bl {n : Nat} (b : Bool) : ShO n (.bl b)
  | non {n : Nat} : ShO n .non
  | tup (n : Nat) (ds : List Dt) (h : ∀ d ∈ ds, ShO n d) : ShO (n + 1) (.tup ds)
theorem sho_lay {n : Nat} {d : Dt} (h : ShO n d) : (pyOf d).canLay0 = true ∧ (pyOf d).depth ≤ n := by
  induction h with
  | str x h => exact ⟨by rw [pyOf, PyData.canLay0.eq_4]; exact h, Nat.zero_le _⟩
  | int x => exact ⟨rfl, Nat.zero_le _⟩
  | bl x => exact ⟨rfl, Nat.zero_le _⟩
  | non => exact ⟨rfl, Nat.zero_le _⟩
  | tup n ds _ ih =>
    rw [pyOf, PyData.canLay0.eq_6, PyData.depth.eq_2]
    exact ⟨canLays fun d hd => (ih d hd).1, Nat.succ_le_succ (depths fun d hd => (ih d hd).2)⟩
theorem shaped_of {n : Nat} {d : Dt} (h : ShO n d) (hn : n ≤ 64) : SeqAt.shaped (pyOf d) = true := by
  obtain ⟨a, b⟩ := sho_lay h
  unfold SeqAt.shaped
  rw [a, decide_eq_true (Nat.le_trans b hn)]
  rfl
/-! ### dict(zip(..)) over lists and tuples -/
section
variable {prog : Program} {w : World} {A : Around} {E : Value → Shared → Prop} {s : Shared}
variable {St1 St2 : Nat → Heap → Prop} {v1 v2 : Nat → Option Value} {z TI TO T0 i1 i2 l1 l2 : Addr}
end
end L2

namespace L2
open PySem PySem.Spec PyProof.Rows
/-! ### a set's table: its places rise, nothing was taken out -/
def Rises (xs : Array Nat) : Prop := xs.toList.Pairwise (· < ·)
theorem Rises.lt {xs : Array Nat} (r : Rises xs) {i k x y : Nat} (h : i < k) (hx : xs[i]? = some x) (hy : xs[k]? = some y) : x < y := by
  rw [← Array.getElem?_toList] at hx hy
  obtain ⟨h1, rfl⟩ := List.getElem?_eq_some_iff.mp hx
  obtain ⟨h2, rfl⟩ := List.getElem?_eq_some_iff.mp hy
  exact (List.pairwise_iff_getElem.mp r) i k h1 h2 h
theorem below_go {xs : Array Nat} {j : Nat} (r : Rises xs) : ∀ (fuel lo hi : Nat), hi - lo ≤ fuel → lo ≤ hi → hi ≤ xs.size → (∀ i x, i < lo → xs[i]? = some x → x < j) → (∀ i x, hi ≤ i → xs[i]? = some x → j ≤ x) →
    SetTable.below.go xs j fuel lo hi ≤ xs.size ∧ (∀ i x, i < SetTable.below.go xs j fuel lo hi → xs[i]? = some x → x < j) ∧ (∀ i x, SetTable.below.go xs j fuel lo hi ≤ i → xs[i]? = some x → j ≤ x)
  | 0, lo, hi, hf, hl, hz, h1, h2 => by
    have e : lo = hi := by omega
    subst e
    unfold SetTable.below.go
    exact ⟨hz, h1, h2⟩
  | fuel + 1, lo, hi, hf, hl, hz, h1, h2 => by
    unfold SetTable.below.go
    by_cases hlt : lo < hi
    · rw [if_pos hlt]
      dsimp only
      have hm : (lo + hi) / 2 < xs.size := by omega
      have hg : xs[(lo + hi) / 2]? = some (xs.getD ((lo + hi) / 2) j) := by
        rw [Array.getD_eq_getD_getElem?, Array.getElem?_eq_getElem hm]
        rfl
      by_cases hq : xs.getD ((lo + hi) / 2) j < j
      · rw [if_pos hq]
        refine below_go r fuel _ _ (by omega) (by omega) hz (fun i x hi' hx => ?_) h2
        rcases Nat.lt_or_ge i ((lo + hi) / 2) with c | c
        · exact Nat.lt_trans (r.lt c hx hg) hq
        · have : i = (lo + hi) / 2 := by omega
          subst this
          rw [hg] at hx
          cases hx
          exact hq
      · rw [if_neg hq]
        refine below_go r fuel _ _ (by omega) (by omega) (by omega) h1 fun i x hi' hx => ?_
        rcases Nat.lt_or_ge ((lo + hi) / 2) i with c | c
        · exact Nat.le_of_lt (Nat.lt_of_le_of_lt (Nat.le_of_not_lt hq) (r.lt c hg hx))
        · have : i = (lo + hi) / 2 := by omega
          subst this
          rw [hg] at hx
          cases hx
          exact Nat.le_of_not_lt hq
    · rw [if_neg hlt]
      have e : lo = hi := by omega
      subst e
      exact ⟨hz, h1, h2⟩
theorem below_ok {xs : Array Nat} (r : Rises xs) (j : Nat) : SetTable.below xs j ≤ xs.size ∧ (∀ i x, i < SetTable.below xs j → xs[i]? = some x → x < j) ∧ (∀ i x, SetTable.below xs j ≤ i → xs[i]? = some x → j ≤ x) := by
  unfold SetTable.below
  exact below_go r _ _ _ (by omega) (Nat.zero_le _) (Nat.le_refl _) (fun i x h => absurd h (Nat.not_lt_zero _)) fun i x h hx => by
    obtain ⟨hi, _⟩ := Array.getElem?_eq_some_iff.mp hx
    omega
/-- where a place stands, the next one is met -/
theorem below_next {xs : Array Nat} (r : Rises xs) {i j : Nat} (h : xs[i]? = some j) : SetTable.below xs (j + 1) = i + 1 := by
  obtain ⟨a, b, c⟩ := below_ok r (j + 1)
  rcases Nat.lt_trichotomy (SetTable.below xs (j + 1)) (i + 1) with q | q | q
  · have := c i j (by omega) h
    omega
  · exact q
  · obtain ⟨hi, _⟩ := Array.getElem?_eq_some_iff.mp h
    have hs : i + 1 < xs.size := by omega
    have hx : xs[i + 1]? = some xs[i + 1] := Array.getElem?_eq_getElem hs
    have := b (i + 1) _ q hx
    have := r.lt (Nat.lt_succ_self i) h hx
    omega
theorem below_first {xs : Array Nat} (r : Rises xs) : SetTable.below xs 0 = 0 := by
  obtain ⟨a, b, c⟩ := below_ok r 0
  rcases Nat.eq_zero_or_pos (SetTable.below xs 0) with q | q
  · exact q
  · have h0 : xs[0]? = some xs[0] := Array.getElem?_eq_getElem (by omega)
    exact absurd (b 0 _ q h0) (Nat.not_lt_zero _)
theorem rises_insert {xs : Array Nat} (r : Rises xs) {j : Nat} (hj : j ∉ xs.toList) : Rises (SetTable.insertAt xs (SetTable.below xs j) j) := by
  obtain ⟨a, b, c⟩ := below_ok r j
  unfold Rises
  rw [SetTable.toList_insertAt]
  have r' := r
  unfold Rises at r'
  rw [← List.take_append_drop (SetTable.below xs j) xs.toList] at r'
  rw [List.pairwise_append] at r'
  rw [List.pairwise_append]
  refine ⟨r'.1, List.pairwise_cons.mpr ⟨fun x hx => ?_, r'.2.1⟩, fun x hx y hy => ?_⟩
  · obtain ⟨k, hk⟩ := List.mem_iff_getElem?.mp hx
    rw [List.getElem?_drop, Array.getElem?_toList] at hk
    have h1 := c _ x (Nat.le_add_right _ _) hk
    rcases Nat.lt_or_ge j x with q | q
    · exact q
    · have : x = j := by omega
      subst this
      exact absurd (List.mem_of_mem_drop hx) hj
  · obtain ⟨k, hk⟩ := List.mem_iff_getElem?.mp hx
    rw [List.getElem?_take] at hk
    split at hk
    · rename_i hlt
      rw [Array.getElem?_toList] at hk
      have h1 := b _ x hlt hk
      rcases List.mem_cons.mp hy with rfl | hy
      · exact h1
      · exact r'.2.2 x hx y hy
    · cases hk
structure TabOk (w : World) (t : SetTable) : Prop where
  up : Rises t.place
  nod : t.dummies = #[]
  led : t.led = !(w.params.followText "set-order")
theorem slot_free {t : SetTable} (r : Rises t.place) {j : Nat} (h : t.slot j = .empty) : j ∉ t.place.toList := by
  intro hm
  obtain ⟨k, hk⟩ := List.mem_iff_getElem?.mp hm
  rw [Array.getElem?_toList] at hk
  obtain ⟨a, b, c⟩ := below_ok r j
  have e : SetTable.below t.place j = k := by
    rcases Nat.lt_trichotomy (SetTable.below t.place j) k with q | q | q
    · obtain ⟨hi, _⟩ := Array.getElem?_eq_some_iff.mp hk
      have hx : t.place[SetTable.below t.place j]? = some t.place[SetTable.below t.place j] := Array.getElem?_eq_getElem (by omega)
      have h1 := c _ _ (Nat.le_refl _) hx
      have h2 := r.lt q hx hk
      omega
    · exact q
    · exact absurd (b k j q hk) (Nat.lt_irrefl _)
  unfold SetTable.slot at h
  dsimp only at h
  rw [e, hk] at h
  simp at h
theorem has_none (j : Nat) : SetTable.has #[] j = false := by
  unfold SetTable.has
  simp
theorem slot_nod {t : SetTable} (n : t.dummies = #[]) (j : Nat) : t.slot j ≠ .dummy := by
  unfold SetTable.slot
  dsimp only
  rw [n, has_none]
  split
  · simp
  · simp
theorem advance_dummy (t : SetTable) (p : SetTable.Probe) : (t.advance p).dummy = p.dummy := by
  unfold SetTable.advance
  split <;> rfl
theorem probe_go {t : SetTable} (n : t.dummies = #[]) {f : Nat → Int} {h : Int} : ∀ (fuel : Nat) (p : SetTable.Probe) {j : Nat} {d : Option Nat}, p.dummy = none → SetTable.probe.go t f h fuel p = some (.empty j d) → d = none ∧ t.slot j = .empty
  | 0, p, j, d, _, e => by unfold SetTable.probe.go at e; cases e
  | fuel + 1, p, j, d, hp, e => by
    unfold SetTable.probe.go at e
    split at e
    · rename_i hs
      cases e
      exact ⟨hp, hs⟩
    · rename_i hs
      exact absurd hs (slot_nod n _)
    · split at e
      · cases e
      · exact probe_go n fuel _ (by rw [advance_dummy]; exact hp) e
theorem freeSlot_ok {t : SetTable} (n : t.dummies = #[]) {h : Int} {j : Nat} {b : Bool} (e : t.freeSlot h = some (j, b)) : t.slot j = .empty := by
  unfold SetTable.freeSlot SetTable.probe at e
  split at e
  · rename_i j' d hq
    obtain ⟨rfl, hs⟩ := probe_go n _ _ rfl hq
    cases e
    exact hs
  · cases e
theorem rises_range (n : Nat) : Rises (Array.range n) := by
  unfold Rises
  rw [Array.toList_range]
  exact List.pairwise_lt_range
section
variable {w : World} {t : SetTable}
theorem TabOk.standIn (k : TabOk w t) (n : Nat) : TabOk w (t.standIn n) := ⟨rises_range n, rfl, k.led⟩
theorem TabOk.plain (k : TabOk w t) (b : Bool) : TabOk w { t with plain := b } := ⟨k.up, k.nod, k.led⟩
theorem TabOk.layNew (k : TabOk w t) (es : Array (Int × Value)) (h : Int) (x : Value) : TabOk w (layNew t es h x).2.1 := by
  unfold PySem.layNew
  split
  · rename_i slot wd e
    have hf := slot_free k.up (freeSlot_ok k.nod e)
    have kp : TabOk w (t.put slot).1 := by
      unfold SetTable.put
      refine ⟨rises_insert k.up hf, ?_, k.led⟩
      dsimp only
      rw [k.nod, has_none]
      rfl
    dsimp only
    unfold SetTable.orStandIn
    split
    · exact kp
    · exact kp.standIn _
  · exact k.standIn _
theorem TabOk.laid {mask finger moves : Nat} {plain : Bool} {hs : Array Int} {t' : SetTable} {or : Array Nat} (k : TabOk w t) (e : SetTable.laid mask finger moves t.led plain hs = some (t', or)) : TabOk w t' := by
  unfold SetTable.laid at e
  cases ho : SetTable.layClean mask hs with
  | none => rw [ho] at e; cases e
  | some owner =>
    rw [ho] at e
    cases e
    refine ⟨?_, rfl, k.led⟩
    show List.Pairwise (· < ·) (List.map (·.1) (List.filterMap (fun j => (owner.getD j none).map (j, ·)) (List.range (mask + 1))))
    rw [List.pairwise_map, List.pairwise_filterMap]
    refine List.Pairwise.imp (fun {a b} hab x hx y hy => ?_) List.pairwise_lt_range
    cases h1 : owner.getD a none with
    | none => rw [h1] at hx; cases hx
    | some v =>
      cases h2 : owner.getD b none with
      | none => rw [h2] at hy; cases hy
      | some u =>
        rw [h1] at hx
        rw [h2] at hy
        cases hx
        cases hy
        exact hab
theorem TabOk.relay (k : TabOk w t) (es : Array (Int × Value)) (n : Nat) : TabOk w (relayAll t es n).2.1 := by
  unfold relayAll
  split
  · rename_i t' or e
    have k' : TabOk w t' := k.laid e
    dsimp only
    split
    · exact k'
    · exact k.standIn _
  · exact k.standIn _
theorem TabOk.fresh (w : World) : TabOk w (.fresh 0 0 (!(w.params.followText "set-order"))) := ⟨List.Pairwise.nil, rfl, rfl⟩
end
end L2

namespace L2
open PySem PySem.Spec PyProof.Rows
/-! ### sets of things that are told by value: their members, in no order that is known -/
section
variable {prog : Program} {w : World} {K : Type} [DecidableEq K] {knd : KeyKind prog w K}
inductive KsOf (knd : KeyKind prog w K) : List (Int × Value) → List K → Prop
  | nil : KsOf knd [] []
  | cons {e : Int × Value} {k : K} {l : List (Int × Value)} {ks : List K} : knd.is k e.2 = true → e.1 = knd.hash k → e.2.scannable = true → KsOf knd l ks → KsOf knd (e :: l) (k :: ks)
theorem KsOf.elems {l : List (Int × Value)} {ks : List K} (h : KsOf knd l ks) : ElemsOf knd l := by
  induction h with
  | nil => intro e he; cases he
  | cons h1 h2 h3 _ ih =>
    intro e he
    rcases List.mem_cons.mp he with rfl | he
    · exact ⟨⟨_, h1, h2⟩, h3⟩
    · exact ih e he
theorem KsOf.len {l : List (Int × Value)} {ks : List K} (h : KsOf knd l ks) : l.length = ks.length := by
  induction h with
  | nil => rfl
  | cons _ _ _ _ ih => simp [ih]
theorem KsOf.snoc {l : List (Int × Value)} {ks : List K} (h : KsOf knd l ks) {k : K} {x : Value} (h1 : knd.is k x = true) (h3 : x.scannable = true) : KsOf knd (l ++ [(knd.hash k, x)]) (ks ++ [k]) := by
  induction h with
  | nil => exact .cons h1 rfl h3 .nil
  | cons a b c _ ih => exact .cons a b c ih
theorem KsOf.perm {l l' : List (Int × Value)} (p : l'.Perm l) : ∀ {ks : List K}, KsOf knd l ks → ∃ ks', KsOf knd l' ks' ∧ ks'.Perm ks := by
  induction p with
  | nil => intro ks h; exact ⟨ks, h, .refl _⟩
  | cons x _ ih =>
    intro ks h
    cases h with
    | cons a b c h =>
      obtain ⟨ks', h', p'⟩ := ih h
      exact ⟨_, .cons a b c h', p'.cons _⟩
  | swap x y l =>
    intro ks h
    cases h with
    | cons a b c h =>
      cases h with
      | cons a' b' c' h => exact ⟨_, .cons a' b' c' (.cons a b c h), .swap _ _ _⟩
  | trans _ _ ih1 ih2 =>
    intro ks h
    obtain ⟨k1, h1, p1⟩ := ih2 h
    obtain ⟨k2, h2, p2⟩ := ih1 h1
    exact ⟨k2, h2, p2.trans p1⟩
theorem KsOf.mem {l : List (Int × Value)} {ks : List K} (h : KsOf knd l ks) (k : K) : k ∈ ks ↔ ∃ e ∈ l, knd.is k e.2 = true := by
  induction h with
  | nil => simp
  | @cons e k' l ks h1 _ _ _ ih =>
    rw [List.mem_cons, ih]
    constructor
    · rintro (rfl | ⟨e', he, hq⟩)
      · exact ⟨e, List.mem_cons_self, h1⟩
      · exact ⟨e', List.mem_cons_of_mem _ he, hq⟩
    · rintro ⟨e', he, hq⟩
      rcases List.mem_cons.mp he with rfl | he
      · exact .inl (knd.inj _ _ _ hq h1)
      · exact .inr ⟨e', he, hq⟩
theorem KsOf.at {l : List (Int × Value)} {ks : List K} (h : KsOf knd l ks) : ∀ {i : Nat} {e : Int × Value}, l[i]? = some e → ∃ k, ks[i]? = some k ∧ knd.is k e.2 = true := by
  induction h with
  | nil => intro i e he; simp at he
  | cons h1 _ _ _ ih =>
    intro i e he
    cases i with
    | zero => simp only [List.getElem?_cons_zero, Option.some.injEq] at he; subst he; exact ⟨_, rfl, h1⟩
    | succ i => exact ih (by simpa using he)
def SetT (knd : KeyKind prog w K) (h : Heap) (a : Addr) (xs : List K) : Prop :=
  ∃ o es ep t ks, h.get? a = some o ∧ o.ExactSet ∧ o.data = .set es ep t ∧ KsOf knd es.toList ks ∧ ks.Perm xs ∧ xs.Nodup ∧ es.size < scanBound ∧ t.fits es.size = true ∧ TabOk w t
theorem SetT.stay {h h' : Heap} {a : Addr} {xs : List K} (x : SetT knd h a xs) (k : ∀ o, h.get? a = some o → h'.get? a = some o) : SetT knd h' a xs := by
  obtain ⟨o, es, ep, t, ks, ho, r⟩ := x
  exact ⟨o, es, ep, t, ks, k o ho, r⟩
theorem SetT.typeIs {s : Shared} {a : Addr} {xs : List K} (x : SetT knd s.heap a xs) : s.TypeIs (.ref a) "set" := by
  obtain ⟨o, es, ep, t, ks, ho, ex, _⟩ := x
  exact ⟨o, ho, ex.1⟩
def putA (xs : List K) (k : K) : List K := if k ∈ xs then xs else xs ++ [k]
theorem putA_nodup {xs : List K} (h : xs.Nodup) (k : K) : (putA xs k).Nodup := by
  unfold putA
  split
  · exact h
  · rename_i hk
    rw [List.nodup_append]
    refine ⟨h, by simp, fun a ha b hb => ?_⟩
    rw [List.mem_singleton] at hb
    subst hb
    intro e
    subst e
    exact hk ha
variable {A : Around} {E : Value → Shared → Prop} {s : Shared}
theorem stored {h : Heap} {a : Addr} {o : Obj} {es es' : Array (Int × Value)} {ep : Nat} {t t' : SetTable} (ho : h.get? a = some o) (hd : o.data = .set es ep t) : (h.update a (Obj.putSet es' t')).get? a = some { o with data := .set es' (ep + 1) t' } := by
  have z := Heap.get?_update_self (Obj.putSet es' t') ho (by rw [putSet_of es' t' hd]; rfl)
  rwa [putSet_of es' t' hd] at z
/-- a new member's tail: laid, and the table grown where it is too full -/
theorem add_tail {g : Bool → Sem Unit} (hg : ∀ (b : Bool) (s₁ : Shared) (Q' : Unit → Shared → Prop), Q' () s₁ → wpAny (model prog w) A (g b) Q' E s₁)
    {a : Addr} {o : Obj} {es es1 : Array (Int × Value)} {ep : Nat} {t t2 : SetTable} {ks1 xs1 : List K} {wd : Bool} {R : Option Bool → Shared → Prop} (ho : s.heap.get? a = some o) (hex : o.ExactSet) (hd : o.data = .set es ep t)
    (k1 : KsOf knd es1.toList ks1) (p1 : ks1.Perm xs1) (n1 : xs1.Nodup) (b1 : es1.size < scanBound) (f2 : t2.fits es1.size = true) (T2 : TabOk w t2)
    (h : ∀ h', Heap.SameBut a s.heap h' → SetT knd h' a xs1 → R (some true) { s with heap := h' }) :
    wpAny (model prog w) A (do
        storeSet a es1 t2
        if (!wd && t2.tooFull) = true then do
            g (relayAll t2 es1 (SetTable.grown es1.size)).2.2
            storeSet a (relayAll t2 es1 (SetTable.grown es1.size)).1 (relayAll t2 es1 (SetTable.grown es1.size)).2.1
            pure (some true)
          else pure (some true)) R E s := by
  refine wpAny_bind (wpAny_storeSet_of ho hd ?_ (fits_of_scanBound b1))
  have ho1 := stored (es' := es1) (t' := t2) ho hd
  have sb1 := Heap.SameBut.update s.heap a (Obj.putSet es1 t2)
  by_cases c : (!wd && t2.tooFull) = true
  · rw [if_pos c]
    have hp := relayAll_perm t2 es1 (SetTable.grown es1.size)
    have hfr := relayAll_fits t2 es1 (SetTable.grown es1.size)
    have T3 := T2.relay es1 (SetTable.grown es1.size)
    generalize relayAll t2 es1 (SetTable.grown es1.size) = Rl at hp hfr T3 ⊢
    obtain ⟨es2, t3, gv⟩ := Rl
    dsimp only at hp hfr T3 ⊢
    obtain ⟨ks2, k2, p2⟩ := k1.perm hp
    have hsz : es2.size = es1.size := by rw [← Array.length_toList, hp.length_eq, Array.length_toList]
    have b2 : es2.size < scanBound := by rw [hsz]; exact b1
    refine wpAny_bind (hg _ _ _ (wpAny_bind (wpAny_storeSet_of ho1 rfl ?_ (fits_of_scanBound b2))))
    exact wpAny_pure (h _ (sb1.trans (Heap.SameBut.update _ a _)) ⟨_, es2, _, t3, ks2, stored ho1 rfl, hex, rfl, k2, p2.trans p1, n1, b2, hfr, T3⟩)
  · rw [if_neg c]
    exact wpAny_pure (h _ sb1 ⟨_, es1, _, t2, ks1, ho1, hex, rfl, k1, p1, n1, b1, f2, T2⟩)
theorem set_addH {a : Addr} {xs : List K} {k : K} {x : Value} {Q : Bool → Shared → Prop} (hkey : knd.is k x = true) (hsc : x.scannable = true) (hS : SetT knd s.heap a xs) (room : xs.length + 1 < scanBound)
    (h : ∀ b h', Heap.SameBut a s.heap h' → SetT knd h' a (putA xs k) → Q b { s with heap := h' }) : wpAny (model prog w) A (setAddHashed a x (knd.hash k)) Q E s := by
  obtain ⟨o, es, ep, t, ks, ho, hex, hd, hk, hp, hn, hb, hf, hT⟩ := hS
  have hel := hk.elems
  have hl : es.size = xs.length := by rw [← Array.length_toList, hk.len, hp.length_eq]
  unfold setAddHashed setAddHashedIn
  refine wpAny_holding (wpAny_bind (wpAny_setState_of ho hd hf ?_))
  dsimp only
  rw [byScan_of hsc hb hel, if_pos rfl]
  unfold setAddByScan
  refine wpAny_bind (wpAny_bind (wpAny_rule (wpAny_bind (wpAny_setScan_of hkey ho hd hf hel ?_))))
  cases hr : List.findIdx? (fun e => knd.is k e.2) es.toList with
  | some j =>
    dsimp only
    obtain ⟨hj, hpj, _⟩ := List.findIdx?_eq_some_iff_getElem.mp hr
    have hm : k ∈ xs := hp.mem_iff.mp ((hk.mem k).mpr ⟨_, List.getElem_mem hj, hpj⟩)
    have e : s = { s with heap := s.heap } := by cases s; rfl
    have z := h false s.heap (Heap.SameBut.refl a s.heap) (by
      unfold putA
      rw [if_pos hm]
      exact ⟨o, es, ep, t, ks, ho, hex, hd, hk, hp, hn, hb, hf, hT⟩)
    exact wpAny_pure (wpAny_pure (by rw [e]; exact z))
  | none =>
    dsimp only
    have hm : k ∉ xs := fun hm => by
      obtain ⟨e, he, hq⟩ := (hk.mem k).mp (hp.mem_iff.mpr hm)
      have := List.findIdx?_eq_none_iff.mp hr e he
      rw [hq] at this
      cases this
    have hgw : ∀ (b : Bool) (s₁ : Shared) (Q' : Unit → Shared → Prop), Q' () s₁ → wpAny (model prog w) A (match b with | true => rule "set.scan.the-table-gave-way" | false => pure ()) Q' E s₁ := fun b s₁ Q' hq => by
      cases b
      · exact wpAny_pure hq
      · exact wpAny_rule hq
    have hpm := layNew_perm t es (knd.hash k) x
    have hft := layNew_fits t es (knd.hash k) x
    have T1 := hT.layNew es (knd.hash k) x
    generalize layNew t es (knd.hash k) x = Ln at hpm hft T1 ⊢
    obtain ⟨es1, t1, wd, gv⟩ := Ln
    dsimp only at hpm hft T1 ⊢
    rw [Array.toList_push] at hpm
    obtain ⟨ks1, k1, p1⟩ := (hk.snoc hkey hsc).perm hpm
    have e1 : putA xs k = xs ++ [k] := by unfold putA; rw [if_neg hm]
    have p1' : ks1.Perm (putA xs k) := by rw [e1]; exact p1.trans (hp.append_right _)
    have n1 := putA_nodup hn k
    have b1 : es1.size < scanBound := by
      rw [← Array.length_toList, hpm.length_eq, List.length_append, Array.length_toList, hl]
      exact room
    refine wpAny_bind (hgw _ _ _ ?_)
    split
    · refine wpAny_bind ?_
      rw [hashByValue_scannable 8 hsc]
      refine wpAny_pure ?_
      refine add_tail hgw ho hex hd k1 p1' n1 b1 ?_ ?_ fun h' sb hS' => ?_
      · split
        · exact hft
        · exact SetTable.fits_plain_off hft
      · split
        · exact T1
        · exact T1.plain false
      · exact wpAny_pure (h true h' sb hS')
    · refine wpAny_bind (wpAny_pure ?_)
      rw [if_pos rfl]
      refine add_tail hgw ho hex hd k1 p1' n1 b1 hft T1 fun h' sb hS' => ?_
      exact wpAny_pure (h true h' sb hS')
end
end L2

namespace L2
open PySem PySem.Spec PyProof.Rows
theorem si_next : Slot "set_iterator" "__next__" "set_iterator.__next__" := .of (owner := "set_iterator") (n := "__next__") (by rw [typeLookup_type, builtinLookup_eq_fast]; kernel_rfl) (by decide +kernel) (by decide +kernel) (by decide +kernel) (.inl (by kernel_rfl)) (by rw [isSubtype_type]; kernel_rfl)
theorem si_args (a : Value) : argsOk "set_iterator.__next__" ⟨[a], []⟩ := by unfold argsOk; kernel_rfl
theorem si_entry : entryFor table "set_iterator.__next__" = some Builtin.«set_iterator.__next__» := entryFor_of_tree (by kernel_rfl)
theorem si_iter : Slot "set_iterator" "__iter__" "set_iterator.__iter__" := .of (owner := "set_iterator") (n := "__iter__") (by rw [typeLookup_type, builtinLookup_eq_fast]; kernel_rfl) (by decide +kernel) (by decide +kernel) (by decide +kernel) (.inl (by kernel_rfl)) (by rw [isSubtype_type]; kernel_rfl)
theorem sit_entry : entryFor table "set.__iter__" = some Builtin.«frozenset.__iter__» := entryFor_alias (id' := "frozenset.__iter__") (by kernel_rfl) rfl (by decide +kernel) (by kernel_rfl)
theorem sii_entry : entryFor table "set_iterator.__iter__" = some Builtin.«dict_keyiterator.__iter__» := entryFor_alias (id' := "dict_keyiterator.__iter__") (by kernel_rfl) rfl (by decide +kernel) (by kernel_rfl)
theorem sii_args (a : Value) : argsOk "set_iterator.__iter__" ⟨[a], []⟩ := by unfold argsOk; kernel_rfl
theorem eras_perm {α : Type} {l : List α} {i : Nat} (h : i < l.length) : (l[i] :: l.eraseIdx i).Perm l := by
  rw [List.eraseIdx_eq_take_drop_succ]
  have e : l = l.take i ++ l[i] :: l.drop (i + 1) := by rw [List.getElem_cons_drop, List.take_append_drop]
  have z := (List.perm_middle (a := l[i]) (l₁ := l.take i) (l₂ := l.drop (i + 1))).symm
  exact z.trans (.of_eq e.symm)
section
variable {prog : Program} {w : World} {A : Around} {E : Value → Shared → Prop} {s : Shared} {a : Addr} {o : Obj} {es : Array (Int × Value)} {ep : Nat} {t : SetTable}
theorem chosen {src : Source} {n : Nat} {Q : Nat → Shared → Prop} (hn : n ≠ 0) (h : ∀ i d, i < n → Q i { s with drawn := d }) : wpAny (model prog w) A (choose src n) Q E s := fun Γ p _ => by
  unfold choose
  rw [Sem.wp_choose]
  refine ⟨hn, ?_⟩
  rw [Sem.wp_pure]
  exact h _ _ (Nat.mod_lt _ (Nat.pos_of_ne_zero hn))
theorem drawn_order {α : Type} : ∀ (n : Nat) (xs : List α) (s : Shared) {Q : List α → Shared → Prop}, xs.length = n → (∀ out d, out.Perm xs → Q out { s with drawn := d }) → wpAny (model prog w) A (drawOrder n xs) Q E s
  | 0, [], s, Q, _, h => by
    unfold drawOrder
    exact wpAny_pure (h [] s.drawn (.refl _))
  | n + 1, x :: xs, s, Q, e, h => by
    unfold drawOrder
    refine wpAny_bind (chosen (by simp) fun i d hi => ?_)
    have hx : (x :: xs)[i]? = some (x :: xs)[i] := List.getElem?_eq_getElem hi
    rw [hx]
    dsimp only
    refine wpAny_bind (drawn_order n _ _ (by rw [List.length_eraseIdx, if_pos hi, e]; rfl) fun out d' hp => ?_)
    refine wpAny_pure (h _ d' ?_)
    exact (hp.cons _).trans (eras_perm hi)
theorem pick_go {α : Type} (next : Nat → Nat) : ∀ (fuel k : Nat) (left : List α) (out : Array α), left.length = fuel → (pickOrder.go next fuel k left out).toList.Perm (out.toList ++ left)
  | 0, k, left, out, e => by
    unfold pickOrder.go
    rw [List.eq_nil_of_length_eq_zero e, List.append_nil]
  | fuel + 1, k, left, out, e => by
    unfold pickOrder.go
    have hi : next k % left.length < left.length := Nat.mod_lt _ (by omega)
    rw [List.getElem?_eq_getElem hi]
    dsimp only
    refine (pick_go next fuel (k + 1) _ _ (by rw [List.length_eraseIdx, if_pos hi, e]; rfl)).trans ?_
    rw [Array.toList_push, List.append_assoc]
    exact List.Perm.append_left _ (eras_perm hi)
theorem pick_perm {α : Type} (next : Nat → Nat) (xs : Array α) : (pickOrder next xs).toList.Perm xs.toList := by
  unfold pickOrder
  exact pick_go next _ 0 _ #[] (by simp)
theorem next_text {slot g : Nat} {Q : Option (Value × Nat) → Shared → Prop} (ho : s.heap.get? a = some o) (hd : o.data = .set es ep t) (hf : t.fits es.size = true) (hb : w.params.followText "set-order" = true)
    (h : Q (((pickOrder (w.params.setOrder a ep) es)[g]?).map fun e => (e.2, slot)) s) : wpAny (model prog w) A (setNext a slot g ep) Q E s := by
  have hb' : (model prog w).w.params.followText "set-order" = true := hb
  unfold setNext setsByText
  refine wpAny_bind (wpAny_setState_of ho hd hf ?_)
  dsimp only
  refine wpAny_bind (wpAny_bind (wpAny_askSetting (wpAny_pure ?_)))
  dsimp only
  rw [if_pos hb', if_neg (by simp)]
  unfold setWalk setsByText
  refine wpAny_bind (wpAny_bind (wpAny_setState_of ho hd hf ?_))
  dsimp only
  refine wpAny_bind (wpAny_bind (wpAny_askSetting (wpAny_pure ?_)))
  dsimp only
  rw [if_pos hb']
  refine wpAny_bind (wpAny_askSetting (wpAny_pure (wpAny_pure ?_)))
  exact h
theorem next_led {slot g : Nat} {Q : Option (Value × Nat) → Shared → Prop} (ho : s.heap.get? a = some o) (hd : o.data = .set es ep t) (hf : t.fits es.size = true) (hb : w.params.followText "set-order" = false) (hl : t.led = true) (hp : (!t.plain && decide (es.size > 1)) = false)
    (h : Q (match es[SetTable.below t.place slot]?, t.place[SetTable.below t.place slot]? with | some (_, x), some j => some (x, j + 1) | _, _ => none) s) : wpAny (model prog w) A (setNext a slot g ep) Q E s := by
  have hb' : (model prog w).w.params.followText "set-order" = false := hb
  unfold setNext setsByText
  refine wpAny_bind (wpAny_setState_of ho hd hf ?_)
  dsimp only
  refine wpAny_bind (wpAny_bind (wpAny_askSetting (wpAny_pure ?_)))
  dsimp only
  rw [if_neg (by rw [hb']; exact Bool.false_ne_true)]
  refine wpAny_ite_split (fun hab => absurd (show (!t.plain && decide (es.size > 1)) = true from hab) (by rw [hp]; exact Bool.false_ne_true)) fun _ => ?_
  refine wpAny_bind ?_
  refine wpAny_ite_split (fun hab => absurd (show (!t.led && !es.isEmpty) = true from hab) (by rw [hl]; simp)) fun _ => ?_
  refine wpAny_pure (wpAny_pure ?_)
  exact h
end
end L2

namespace L2
open PySem PySem.Spec PyProof.Rows
abbrev siObj (f : Value) (i : Nat) (a : Addr) (n ep : Nat) : Obj := { cls := .type "set_iterator", dict := none, data := .fields #[f, .int i 0, .ref a, .int n 0, .int ep 0], slots := #[] }
section
variable {prog : Program} {w : World} {A : Around} {E : Value → Shared → Prop} {s : Shared} {it a : Addr} {o : Obj} {es : Array (Int × Value)} {ep i n : Nat} {t : SetTable}
theorem si_type {f : Value} (h : s.heap.get? it = some (siObj f i a n ep)) : s.TypeIs (.ref it) "set_iterator" := ⟨_, h, rfl⟩
theorem si_open {Q : Option Value → Shared → Prop} {f : Value} (hi : s.heap.get? it = some (siObj f i a es.size ep)) (ho : s.heap.get? a = some o) (hd : o.data = .set es ep t) (hf : t.fits es.size = true)
    (h : wpAny (model prog w) A.in1 (if let .int slot _ := f then do
        match ← setNext a slot.toNat i ep with
        | some (x, next) => do setField (.ref it) 0 (rawInt next); setField (.ref it) 1 (rawInt ((i : Int) + 1)); ret x
        | none => do setField (.ref it) 2 .none; raiseNew (← newExc (.type "StopIteration") [])
      else do
        let some places ← seqItems? f | unsupported "internal:set_iterator"
        match places[i]? with
        | some (.int place _) => do
          let x ← setNextDrawn a place.toNat ep
          setField (.ref it) 1 (rawInt ((i : Int) + 1))
          ret x
        | some _ => unsupported "internal:set_iterator"
        | none => do setField (.ref it) 0 (rawInt 0); setField (.ref it) 2 .none; raiseNew (← newExc (.type "StopIteration") []))
      (fun fin s' => ∃ v, fin = .done (.ret v) ∧ Q (some v) s') (fun e s' => s'.TypeIs e "StopIteration" ∧ Q none s') s) : wpAny (model prog w) A (pyNext (.ref it)) Q E s := by
  unfold pyNext
  refine wpAny_bind (wpAny_attempt (wpAny_callSpecial?_slot (name := Str.ofString "__next__") (si_type hi) si_next
    (wpAny_call_entry si_next (si_type hi) si_entry ?_ (si_args _))))
  unfold Builtin.«set_iterator.__next__»
  refine wpAny_bind (wpAny_pure ?_)
  refine wpAny_bind (wpAny_fieldsOf hi rfl ?_)
  dsimp only
  refine wpAny_bind (wpAny_setEntries_of ho hd hf ?_)
  rw [if_neg (by simp)]
  refine wpAny_mono h (fun fin s' ⟨v, e, q⟩ => ⟨v, e, ?_⟩) fun e s' ⟨hT, q⟩ => ?_
  · exact wpAny_pure q
  · refine wpAny_bind (wpAny_isInstance (T := "StopIteration") (b := true) hT isSubtype_stop ?_)
    exact wpAny_pure q
theorem stop_ok {α : Type} {Q : α → Shared → Prop} (hh : A.handled = none) (h : ∀ h' v, (∀ b u, s.heap.get? b = some u → h'.get? b = some u) → Shared.TypeIs { s with heap := h' } v "StopIteration" → E v { s with heap := h' }) : wpAny (model prog w) A (newExc (.type "StopIteration") [] >>= fun e => raiseNew e) Q E s := by
  refine wpAny_bind ?_
  simp only [newExc, newTuple]
  refine wpAny_bind (wpAny_newObj_type ?_ (by size_fits))
  refine wpAny_bind (m := firstArgMember _ _) (wpAny_of_eq (a := Value.none) (by first | rfl | (simp only [firstArgMember]; rfl)) ?_)
  refine wpAny_newObj_type ?_ (by size_fits)
  simp only [raiseNew]
  refine wpAny_bind (wpAny_handled ?_)
  rw [hh]
  refine wpAny_bind (wpAny_pure (wpAny_throw ?_))
  exact h _ _ (fun b u e => Heap.get?_push_of_some _ (Heap.get?_push_of_some _ e)) ⟨_, Heap.get?_push_size _ rfl, rfl⟩
theorem si_self {f : Value} {Q : Value → Shared → Prop} (hi : s.heap.get? it = some (siObj f i a n ep)) (h : Q (.ref it) s) : wpAny (model prog w) A (pyIter (.ref it)) Q E s := by
  refine wpAny_pyIter_slot (si_type hi) si_iter (wpAny_call_entry si_iter (si_type hi) sii_entry ?_ (sii_args _))
  show wpAny _ _ (ret (.ref it)) _ _ s
  exact wpAny_pure ⟨_, rfl, "set_iterator", _, si_type hi, si_next.lookup, h⟩
theorem si_fields {f f' : Value} {i' : Nat} {k : Nat} {x : Value} {h : Heap} (e : (#[f, .int i 0, .ref a, .int n 0, .int ep 0] : Array Value).setIfInBounds k x = #[f', .int i' 0, .ref a, .int n 0, .int ep 0]) (h' : h.get? it = some { cls := .type "set_iterator", dict := none, data := .fields ((#[f, .int i 0, .ref a, .int n 0, .int ep 0] : Array Value).setIfInBounds k x), slots := #[] }) : h.get? it = some (siObj f' i' a n ep) := by
  rw [h', e]
abbrev Gives (out : List (Int × Value)) (i : Nat) (v : Value) : Prop := ∃ e, out[i]? = some e ∧ v = e.2
theorem walks_int {I : Addr} {out : List (Int × Value)} {Ok : Nat → Nat → Prop} (hh : A.handled = none) (hne : a ≠ I) (hd : o.data = .set es ep t) (hf : t.fits es.size = true)
    (nx : ∀ (i sl : Nat), Ok i sl → ∀ (A : Around) (s : Shared) (Q : Option (Value × Nat) → Shared → Prop) (E : Value → Shared → Prop), s.heap.get? a = some o → (∀ e sl', out[i]? = some e → Ok (i + 1) sl' → Q (some (e.2, sl')) s) → (out[i]? = none → Q none s) → wpAny (model prog w) A (setNext a sl i ep) Q E s) :
    Walks prog w A I [I, a] [I] out.length (Gives out) (fun i h => (∃ sl, Ok i sl ∧ h.get? I = some (siObj (.int (sl : Nat) 0) i a es.size ep)) ∧ h.get? a = some o) where
  sub := fun b hb => by simp at hb; simp [hb]
  frame := fun i h h' st hk => by
    obtain ⟨⟨sl, k, e⟩, ea⟩ := st
    exact ⟨⟨sl, k, hk I (by simp) _ e⟩, hk a (by simp) _ ea⟩
  item := fun i s Q E hi st hQ => by
    obtain ⟨⟨sl, k, e⟩, ea⟩ := st
    refine si_open e ea hd hf ?_
    dsimp only
    refine wpAny_bind (nx i _ k _ _ _ _ ea (fun x sl' hx k' => ?_) fun hx => ?_)
    · dsimp only
      refine wpAny_bind (wpAny_setField_rec e (by simp) fun h1 e1 sb1 => ?_)
      have e1 := si_fields (f' := .int sl' 0) (i' := i) (by simp [rawInt]) e1
      refine wpAny_bind (wpAny_setField_rec (s := { s with heap := h1 }) e1 (by simp) fun h2 e2 sb2 => ?_)
      have e2 := si_fields (f' := .int sl' 0) (i' := i + 1) (by simp [rawInt]) e2
      have kp : ∀ b u, b ∉ [I] → s.heap.get? b = some u → h2.get? b = some u := fun b u hb hu => by
        have hb : b ≠ I := fun z => hb (by simp [z])
        rw [sb2.2 b hb, sb1.2 b hb]
        exact hu
      exact wpAny_pure ⟨_, rfl, hQ x.2 h2 s.toks ⟨x, hx, rfl⟩ ⟨⟨sl', k', e2⟩, kp a _ (by simpa using hne) ea⟩ kp⟩
    · rw [List.getElem?_eq_getElem hi] at hx
      cases hx
  done := fun s Q E st hQ => by
    obtain ⟨⟨sl, k, e⟩, ea⟩ := st
    refine si_open e ea hd hf ?_
    dsimp only
    refine wpAny_bind (nx _ _ k _ _ _ _ ea (fun x sl' hx k' => ?_) fun hx => ?_)
    · rw [List.getElem?_eq_none (Nat.le_refl _)] at hx
      cases hx
    · dsimp only
      refine wpAny_bind (wpAny_setField_rec e (by simp) fun h1 e1 sb1 => ?_)
      refine stop_ok (A := A.in1) (s := { s with heap := h1 }) hh fun h2 v kp hT => ⟨hT, ?_⟩
      refine hQ h2 s.toks fun b u hb hu => kp b u ?_
      show h1.get? b = some u
      rw [sb1.2 b fun z => hb (by simp [z])]
      exact hu
  self := fun _ _ _ _ st hQ => by
    obtain ⟨⟨sl, k, e⟩, ea⟩ := st
    exact si_self e hQ
theorem led_next {sl : Nat} (T : TabOk w t) (hd : o.data = .set es ep t) (hf : t.fits es.size = true) (hb : w.params.followText "set-order" = false) (hp : (!t.plain && decide (es.size > 1)) = false) (hi : SetTable.below t.place sl = i)
    (A : Around) (s : Shared) (Q : Option (Value × Nat) → Shared → Prop) (E : Value → Shared → Prop) (ho : s.heap.get? a = some o) (h1 : ∀ e sl', es.toList[i]? = some e → SetTable.below t.place sl' = i + 1 → Q (some (e.2, sl')) s) (h2 : es.toList[i]? = none → Q none s) : wpAny (model prog w) A (setNext a sl i ep) Q E s := by
  refine next_led ho hd hf hb (by rw [T.led, hb]; rfl) hp ?_
  rw [hi]
  have hz : t.place.size = es.size := by
    unfold SetTable.fits at hf
    simp only [Bool.and_eq_true, beq_iff_eq] at hf
    exact hf.1
  rcases Nat.lt_or_ge i es.size with q | q
  · have e1 : es[i]? = some es[i] := Array.getElem?_eq_getElem q
    have e2 : t.place[i]? = some (t.place[i]'(by omega)) := Array.getElem?_eq_getElem (by omega)
    rw [e1, e2]
    exact h1 es[i] _ (by rw [Array.getElem?_toList]; exact e1) (below_next T.up e2)
  · have e1 : es[i]? = none := Array.getElem?_eq_none q
    rw [e1]
    exact h2 (by rw [Array.getElem?_toList]; exact e1)
theorem text_next {sl : Nat} (hd : o.data = .set es ep t) (hf : t.fits es.size = true) (hb : w.params.followText "set-order" = true) (hi : sl = 0)
    (A : Around) (s : Shared) (Q : Option (Value × Nat) → Shared → Prop) (E : Value → Shared → Prop) (ho : s.heap.get? a = some o) (h1 : ∀ e sl', (pickOrder (w.params.setOrder a ep) es).toList[i]? = some e → sl' = 0 → Q (some (e.2, sl')) s) (h2 : (pickOrder (w.params.setOrder a ep) es).toList[i]? = none → Q none s) : wpAny (model prog w) A (setNext a sl i ep) Q E s := by
  refine next_text ho hd hf hb ?_
  cases q : (pickOrder (w.params.setOrder a ep) es)[i]? with
  | none => exact h2 (by rw [Array.getElem?_toList]; exact q)
  | some e => exact h1 e sl (by rw [Array.getElem?_toList]; exact q) hi
theorem seq_items {T : Addr} {vs : Array Value} {Q : Option (Array Value) → Shared → Prop} (h : s.heap.get? T = some { cls := .type "tuple", data := .seq vs }) (q : Q (some vs) s) : wpAny (model prog w) A (seqItems? (.ref T)) Q E s := by
  unfold seqItems?
  refine wpAny_bind (wpAny_load h ?_)
  exact wpAny_pure q
theorem next_drawn {j : Nat} {x : Int × Value} {Q : Value → Shared → Prop} (ho : s.heap.get? a = some o) (hd : o.data = .set es ep t) (hf : t.fits es.size = true) (hj : es[j]? = some x) (q : Q x.2 s) : wpAny (model prog w) A (setNextDrawn a j ep) Q E s := by
  unfold setNextDrawn
  refine wpAny_bind (wpAny_setState_of ho hd hf ?_)
  dsimp only
  rw [if_neg (by simp), hj]
  exact wpAny_pure q
theorem walks_drawn {I T : Addr} {pl : List Nat} {out : List (Int × Value)} (hh : A.handled = none) (hne : a ≠ I) (hnt : T ≠ I) (hd : o.data = .set es ep t) (hf : t.fits es.size = true) (hl : pl.length = out.length) (ho : ∀ (i j : Nat), pl[i]? = some j → ∃ e, out[i]? = some e ∧ es[j]? = some e) :
    Walks prog w A I [I, a, T] [I] out.length (Gives out) (fun i h => h.get? I = some (siObj (.ref T) i a es.size ep) ∧ h.get? a = some o ∧ h.get? T = some { cls := .type "tuple", data := .seq (pl.map fun i => rawInt (i : Nat)).toArray }) where
  sub := fun b hb => by simp at hb; simp [hb]
  frame := fun i h h' st hk => ⟨hk I (by simp) _ st.1, hk a (by simp) _ st.2.1, hk T (by simp) _ st.2.2⟩
  item := fun i s Q E hi st hQ => by
    obtain ⟨e, ea, et⟩ := st
    refine si_open e ea hd hf ?_
    dsimp only
    have hip : i < pl.length := by omega
    obtain ⟨x, hx, hj⟩ := ho i pl[i] (List.getElem?_eq_getElem hip)
    refine wpAny_bind (seq_items et ?_)
    dsimp only
    have e3 : ((pl.map fun i => rawInt (i : Nat)).toArray)[i]? = some (rawInt (pl[i] : Nat)) := by
      rw [List.getElem?_toArray, List.getElem?_map, List.getElem?_eq_getElem hip]
      rfl
    rw [e3]
    show wpAny _ _ (setNextDrawn a (Int.toNat (pl[i] : Nat)) ep >>= _) _ _ _
    rw [Int.toNat_natCast]
    refine wpAny_bind (next_drawn ea hd hf hj ?_)
    refine wpAny_bind (wpAny_setField_rec e (by simp) fun h1 e1 sb1 => ?_)
    have e1 := si_fields (f' := .ref T) (i' := i + 1) (by simp [rawInt]) e1
    have kp : ∀ b u, b ∉ [I] → s.heap.get? b = some u → h1.get? b = some u := fun b u hb hu => by
      rw [sb1.2 b fun z => hb (by simp [z])]
      exact hu
    exact wpAny_pure ⟨_, rfl, hQ x.2 h1 s.toks ⟨x, hx, rfl⟩ ⟨e1, kp a _ (by simpa using hne) ea, kp T _ (by simpa using hnt) et⟩ kp⟩
  done := fun s Q E st hQ => by
    obtain ⟨e, ea, et⟩ := st
    refine si_open e ea hd hf ?_
    dsimp only
    refine wpAny_bind (seq_items et ?_)
    dsimp only
    have e3 : ((pl.map fun i => rawInt (i : Nat)).toArray)[out.length]? = none := by
      rw [List.getElem?_toArray]
      exact List.getElem?_eq_none (by rw [List.length_map, hl]; exact Nat.le_refl _)
    rw [e3]
    dsimp only
    refine wpAny_bind (wpAny_setField_rec e (by simp) fun h1 e1 sb1 => ?_)
    refine wpAny_bind (wpAny_setField_rec (s := { s with heap := h1 }) e1 (by simp) fun h2 e2 sb2 => ?_)
    refine stop_ok (A := A.in1) (s := { s with heap := h2 }) hh fun h3 v kp hT => ⟨hT, ?_⟩
    refine hQ h3 s.toks fun b u hb hu => kp b u ?_
    show h2.get? b = some u
    rw [sb2.2 b fun z => hb (by simp [z])]
    show h1.get? b = some u
    rw [sb1.2 b fun z => hb (by simp [z])]
    exact hu
  self := fun _ _ _ _ st hQ => si_self st.1 hQ
end
end L2

namespace L2
open PySem PySem.Calls PySem.Spec PyProof.Rows
theorem ObjOk.lies {P : Program} {w : World} {H : Hp} {h : Heap} {a : Addr} {o : HO} (x : ObjOk P w H h a o) : ∃ u, h.get? a = some u := by
  cases o with
  | lst xs => obtain ⟨_, _, _, _, q⟩ := x; exact ⟨_, q⟩
  | tup xs => obtain ⟨_, _, _, _, q, _⟩ := x; exact ⟨_, q⟩
  | dK kvs => obtain ⟨_, _, _, _, o, _, _, q, _⟩ := x; exact ⟨_, q⟩
  | dT kvs => obtain ⟨_, _, _, _, o, _, _, q, _⟩ := x; exact ⟨_, q⟩
  | set S n => obtain ⟨o, _, _, _, q, _⟩ := x; exact ⟨_, q⟩
  | ins C dx fs => obtain ⟨_, _, _, q, _⟩ := x; exact ⟨_, q⟩
  | own y => exact x
  | xd fs => obtain ⟨_, ⟨_, _, _, q, _⟩, _⟩ := x; exact ⟨_, q⟩
  | rng lo hi => obtain ⟨_, _, _, q⟩ := x; exact ⟨_, q⟩
  | frz ob u => obtain ⟨q, _⟩ := x; exact ⟨_, q⟩
  | tbl ps => obtain ⟨_, q, _⟩ := x; exact ⟨_, q⟩
  | met f y => exact ⟨_, x⟩
  | ext φ => obtain ⟨_, q, _⟩ := x; exact q
/-! ### sorted(d): the keys, whole numbers -/
theorem ints_of_at : ∀ {us : List Value} {ns : List Int}, us.length = ns.length → (∀ (j : Nat) (v : Value), us[j]? = some v → ∃ (i : Int) (t : Tok), ns[j]? = some i ∧ v = .int i t) → IntsAre us ns
  | [], [], _, _ => .nil
  | [], _ :: _, h, _ => by simp at h
  | _ :: _, [], h, _ => by simp at h
  | u :: us, n :: ns, h, g => by
    obtain ⟨i, t, e, rfl⟩ := g 0 u rfl
    cases e
    exact .cons _ _ (ints_of_at (by simpa using h) fun j v e => g (j + 1) v e)
section
variable {X : Cx}
end
/-! ### l.pop(), l.extend(m), a list as a test -/
@[reducible] def tPop0 (to : TE) : TE := fun σ H Q => to σ H fun x H1 => ∃ l xs y, x = .ref l ∧ H1 l = some (.lst xs) ∧ xs[xs.length - 1]? = some y ∧ Q y (upd H1 l (.lst xs.dropLast))
@[reducible] def tLsT (to : TE) : TT := fun σ H Q => to σ H fun x H1 => ∃ p xs, x = .ref p ∧ H1 p = some (.lst xs) ∧ Q (!xs.isEmpty) H1
section
variable {X : Cx} {o e : Expr} {to te : TE} {apos cpos pos : Pos}
theorem pe_pop0 (ho : PE X o to) (hbase : attributeBase o "pop" X.env (eval o X.env) = eval o X.env := by rfl) (hline : (apos.endLine == cpos.line) = true := by rfl) : PE X (.Call (.Attribute o "pop" apos) [] [] cpos) (tPop0 to) := by
  intro pins s σ H Q I h
  refine wpAny_Call_method0_late hbase hline (thn (ho pins s σ H _ I h) fun v s1 ⟨x, H1, I1, r1, l, xs, y, ex, hl, hy, q1⟩ => ?_)
  obtain ⟨h1, h2⟩ := tyV_is I1 r1 (T := "list") (by rw [ex]; exact .inl ⟨rfl, xs, SqL.of hl⟩)
  exact ⟨"list", "list.pop", PySem.F.plainAttrs_list, PySem.F.slot_list_pop, PySem.F.type_list_pop, h1, h2, Calls.callWith_builtin rfl (PySem.evalArgs_none (mt_pop pins s1 σ H1 x [] v [] Q I1 r1 .nil ⟨l, xs, y, ex, rfl, hl, hy, q1⟩))⟩
theorem pe_extend (ho : PE X o to) (he : PE X e te) (hs : starEach [e] X.env = [(false, eval e X.env)] := by exact star_plain rfl)
    (hbase : attributeBase o "extend" X.env (eval o X.env) = eval o X.env := by rfl)
    (hfew : ((backTo cpos (starEach [e] X.env)).all (fun x => !x.1) && (backToKw cpos (keywordEach [] X.env)).all (fun x => x.1.isSome)
      && decide ([e].length + ([] : List Keyword).length + (if ([] : List Keyword).isEmpty then 0 else 1) < 30)) = true := by rfl)
    (hline : (apos.endLine == cpos.line) = true := by rfl) : PE X (.Call (.Attribute o "extend" apos) [e] [] cpos) (tBML rExtend to (tCons te tNil)) :=
  pe_bmL PySem.F.slot_list_extend PySem.F.type_list_extend mt_extend ho (pa_cons he pa_nil hs) hbase hfew hline hs
theorem pt_lst (h : PE X e te) (he : ∀ whole, isTrue e X.env whole = (do let v ← whole; standAt e.pos; holding [v] (truthy v)) := by intro _; rfl) : PT X e (tLsT te) := by
  intro pins s σ H Q I hw
  refine isTrue_plain (thn (h pins s σ H _ I hw) fun v s1 ⟨x, H1, I1, r1, q1⟩ => ?_) (he _)
  obtain ⟨p, xs, rfl, hp, q⟩ := q1
  exact tru_ok pins s1 σ H1 _ v _ I1 r1 ⟨_, .inl ⟨xs, SqL.of hp, rfl⟩, q⟩
end
end L2

namespace L2
open PySem PySem.Calls PySem.Spec PyProof.Rows
theorem all_there {α : Type} (es : Array α) (z : α) : ∀ l : List Nat, (∀ j ∈ l, j < es.size) → l.filterMap (fun j => es[j]?) = l.map fun j => (es[j]?).getD z
  | [], _ => rfl
  | j :: l, h => by
    rw [List.filterMap_cons, Array.getElem?_eq_getElem (h j List.mem_cons_self)]
    dsimp only
    rw [all_there es z l fun i hi => h i (List.mem_cons_of_mem _ hi), List.map_cons, Array.getElem?_eq_getElem (h j List.mem_cons_self)]
    rfl
section
variable {prog : Program} {w : World} {K : Type} [DecidableEq K] {knd : KeyKind prog w K} {A : Around} {E : Value → Shared → Prop} {s : Shared} {a : Addr} {xs : List K}
theorem set_iter {Q : Value → Shared → Prop} (hh : A.handled = none) (hS : SetT knd s.heap a xs)
    (h : ∀ (h1 : Heap) (d : _) (I : Addr) (fp : List Addr) (St : Nat → Heap → Prop) (out : List (Int × Value)) (ks : List K), Walks prog w A I fp [I] out.length (Gives out) St → St 0 h1 → (∀ b o, s.heap.get? b = some o → h1.get? b = some o) → (∀ b ∈ fp, b = a ∨ s.heap.objs.size ≤ b) → (∀ b ∈ fp, b < h1.objs.size) → s.heap.objs.size ≤ I → I < h1.objs.size → KsOf knd out ks → ks.Perm xs → Q (.ref I) { s with heap := h1, drawn := d }) : wpAny (model prog w) A (pyIter (.ref a)) Q E s := by
  obtain ⟨o, es, ep, t, ks, ho, hex, hd, hk, hp, hn, hb, hf, hT⟩ := id hS
  refine wpAny_pyIter_slot hS.typeIs F.slot_set_iter (wpAny_call_entry F.slot_set_iter hS.typeIs sit_entry ?_ (F.args_set_iter_1 _))
  unfold Builtin.«frozenset.__iter__» Builtin.Frozenset.slot0 Builtin.Frozenset.addrOf Builtin.Frozenset.sizeOf
  refine wpAny_bind (wpAny_bind (wpAny_pure (wpAny_pure ?_)))
  dsimp only
  refine wpAny_bind (wpAny_bind (wpAny_setEntries_of ho hd hf (wpAny_pure ?_)))
  unfold setDrawn setsByText
  refine wpAny_bind (wpAny_bind (wpAny_setState_of ho hd hf ?_))
  dsimp only
  refine wpAny_bind (wpAny_bind (wpAny_askSetting (wpAny_pure (wpAny_pure ?_))))
  have alt := Heap.lt_size ho
  have plain : ∀ (Ok : Nat → Nat → Prop) (out : List (Int × Value)) (ks' : List K), Walks prog w A s.heap.objs.size [s.heap.objs.size, a] [s.heap.objs.size] out.length (Gives out) (fun i h => (∃ sl, Ok i sl ∧ h.get? s.heap.objs.size = some (siObj (.int (sl : Nat) 0) i a es.size ep)) ∧ h.get? a = some o) → Ok 0 0 → KsOf knd out ks' → ks'.Perm xs →
      wpAny (model prog w) A.in1 (do let first ← pure (rawInt 0); let x ← setEpoch a; let x ← newFields "set_iterator" [first, rawInt 0, Value.ref a, rawInt es.size, rawInt x]; ret x) (fun fin s' => ∃ v, fin = Fin.done (Flow.ret v) ∧ ∃ T' r, s'.TypeIs v T' ∧ typeLookup (Value.type T') (Str.ofString "__next__") = pure (some r) ∧ Q v s') E s := by
    intro Ok out ks' W h0 hk' hp'
    refine wpAny_bind (wpAny_pure (wpAny_bind (wpAny_setEpoch_of ho hd hf (wpAny_bind ?_))))
    unfold newFields
    refine wpAny_newObj_type (wpAny_pure ⟨_, rfl, "set_iterator", _, ⟨_, Heap.get?_push_size _ rfl, rfl⟩, si_next.lookup, ?_⟩)
    refine h _ s.drawn _ _ _ out ks' W ⟨⟨0, h0, ?_⟩, Heap.get?_push_of_some _ ho⟩ (fun b u e => Heap.get?_push_of_some _ e) (fun b hb => ?_) (fun b hb => ?_) (Nat.le_refl _) ?_ hk' hp'
    · exact Heap.get?_push_size _ rfl
    · rcases List.mem_cons.mp hb with rfl | hb
      · exact .inr (Nat.le_refl _)
      · exact .inl (List.mem_singleton.mp hb)
    · rw [size_push']
      rcases List.mem_cons.mp hb with rfl | hb
      · exact Nat.lt_succ_self _
      · rw [List.mem_singleton.mp hb]
        exact Nat.lt_succ_of_lt alt
    · rw [size_push']
      exact Nat.lt_succ_self _
  have ane : a ≠ s.heap.objs.size := Nat.ne_of_lt alt
  cases hb' : w.params.followText "set-order" with
  | true =>
    rw [if_neg (by rw [show (model prog w).w.params.followText "set-order" = true from hb']; exact Bool.false_ne_true)]
    obtain ⟨ks', hk', hp'⟩ := hk.perm (pick_perm (w.params.setOrder a ep) es)
    exact plain (fun _ sl => sl = 0) (pickOrder (w.params.setOrder a ep) es).toList ks' (walks_int hh ane hd hf fun i sl k => text_next hd hf hb' k) rfl hk' (hp'.trans hp)
  | false =>
    cases hdr : (!t.plain && decide (es.size > 1)) with
    | false =>
      refine wpAny_ite_split (fun hab => absurd (show (!(w.params.followText "set-order") && (!t.plain && decide (es.size > 1))) = true from hab) (by rw [hdr]; simp)) fun _ => ?_
      exact plain (fun i sl => SetTable.below t.place sl = i) es.toList ks (walks_int hh ane hd hf fun i sl k => led_next hT hd hf hb' hdr k) (below_first hT.up) hk hp
    | true =>
      refine wpAny_ite_split (fun _ => ?_) fun hab => absurd (show (!(w.params.followText "set-order") && (!t.plain && decide (es.size > 1))) = true by rw [hb', hdr]; rfl) hab
      refine wpAny_bind (drawn_order _ _ _ (by simp) fun pl d hpl => ?_)
      unfold newTuple
      have hlen : pl.length = es.size := by rw [hpl.length_eq, List.length_range]
      refine wpAny_bind (wpAny_newObj_type ?_ (by show (List.map (fun i => rawInt (i : Nat)) pl).toArray.size ≤ sizeLine; rw [List.size_toArray, List.length_map, hlen]; exact fits_of_scanBound hb))
      refine wpAny_bind (wpAny_setEpoch_of (Heap.get?_push_of_some _ ho) hd hf (wpAny_bind ?_))
      unfold newFields
      refine wpAny_newObj_type (wpAny_pure ⟨_, rfl, "set_iterator", _, ⟨_, Heap.get?_push_size _ rfl, rfl⟩, si_next.lookup, ?_⟩)
      have hm : ∀ j ∈ pl, j < es.size := fun j hj => List.mem_range.mp (hpl.mem_iff.mp hj)
      have hP : (pl.map fun j => (es[j]?).getD (0, .none)).Perm es.toList := by
        rw [← all_there es (0, .none) pl hm, ← filterMap_getElem?_range es]
        exact hpl.filterMap _
      obtain ⟨ks', hk', hp'⟩ := hk.perm hP
      have tne : s.heap.objs.size ≠ (s.heap.push { cls := .type "tuple", data := .seq (pl.map fun i => rawInt (i : Nat)).toArray }).objs.size := by rw [size_push']; exact Nat.ne_of_lt (Nat.lt_succ_self _)
      have ane' : a ≠ (s.heap.push { cls := .type "tuple", data := .seq (pl.map fun i => rawInt (i : Nat)).toArray }).objs.size := by rw [size_push']; exact Nat.ne_of_lt (Nat.lt_succ_of_lt alt)
      refine h _ d _ _ _ _ ks' (walks_drawn (T := s.heap.objs.size) (pl := pl) hh ane' tne hd hf (by rw [List.length_map]) fun i j hj => ?_) ⟨Heap.get?_push_size _ rfl, Heap.get?_push_of_some _ (Heap.get?_push_of_some _ ho), Heap.get?_push_of_some _ (Heap.get?_push_size _ rfl)⟩ (fun b u e => Heap.get?_push_of_some _ (Heap.get?_push_of_some _ e)) (fun b hb => ?_) (fun b hb => ?_) ?_ ?_ hk' (hp'.trans hp)
      · have hlt := hm j (List.mem_of_getElem? hj)
        refine ⟨es[j], ?_, Array.getElem?_eq_getElem hlt⟩
        rw [List.getElem?_map, hj]
        show some ((es[j]?).getD (0, .none)) = _
        rw [Array.getElem?_eq_getElem hlt]
        rfl
      · rcases List.mem_cons.mp hb with rfl | hb
        · exact .inr (by rw [size_push']; exact Nat.le_succ _)
        · rcases List.mem_cons.mp hb with rfl | hb
          · exact .inl rfl
          · rw [List.mem_singleton.mp hb]
            exact .inr (Nat.le_refl _)
      · rw [size_push', size_push']
        rcases List.mem_cons.mp hb with rfl | hb
        · rw [size_push']
          exact Nat.lt_succ_self _
        · rcases List.mem_cons.mp hb with rfl | hb
          · exact Nat.lt_succ_of_lt (Nat.lt_succ_of_lt alt)
          · rw [List.mem_singleton.mp hb]
            exact Nat.lt_succ_of_lt (Nat.lt_succ_self _)
      · rw [size_push']
        exact Nat.le_succ _
      · exact Heap.lt_size (Heap.get?_push_size _ rfl)
theorem set_hint {Q : Bool → Shared → Prop} (hT : s.TypeIs (.ref a) "set") (h : Q false s) : wpAny (model prog w) A (Builtin.List.listLengthHint (.ref a)) Q E s := by
  unfold Builtin.List.listLengthHint
  refine wpAny_bind (wpAny_specialOf hT F.slot_set_len.lookup ?_)
  generalize hid : ("set.__len__" : String) = id0
  wp_delta
  rw [show splitId id0 = some ("set", "__len__") from by subst hid; decide +kernel]
  subst hid
  refine wpAny_bind (wpAny_isInstance (T := "set") (b := true) hT (by rw [isSubtype_type]; kernel_rfl) ?_)
  refine wpAny_ite_split (fun z => absurd z (by decide)) (fun _ => ?_)
  refine wpAny_ite_split (fun _ => ?_) (fun z => absurd (by decide +kernel) z)
  exact wpAny_bind (wpAny_typeOf hT (wpAny_pure h))
/-- all of a set's members, as they come -/
theorem set_collect {R : List Value → Shared → Prop} (hh : A.handled = none) (hS : SetT knd s.heap a xs)
    (h : ∀ (h' : Heap) (tk : Nat) (d : _) (acc : Array Value) (ks : List K), (∀ b o, s.heap.get? b = some o → h'.get? b = some o) → ks.Perm xs → acc.size = ks.length → (∀ (j : Nat) v, acc[j]? = some v → ∃ k, ks[j]? = some k ∧ knd.is k v = true) → R acc.toList { s with heap := h', toks := tk, drawn := d }) :
    wpAny (model prog w) A (collect (.ref a)) R E s := by
  obtain ⟨oa, hoa⟩ : ∃ oa, s.heap.get? a = some oa := by obtain ⟨o, _, _, _, _, ho, _⟩ := hS; exact ⟨o, ho⟩
  have alt := Heap.lt_size hoa
  unfold collect
  refine wpAny_bind (wpAny_runValue (codeAny_builtin PySem.F.entry_proto_collect ?_))
  rw [Around.under_plainId PySem.F.plain_proto_collect _]
  show wpAny _ A.in1 (newList [] >>= fun l => again (.builtin "list.__iadd__" ⟨[l, .ref a], []⟩)) _ _ s
  refine wpAny_bind (wpAny_newObj_type ?_)
  refine wpAny_pure ⟨plainId_quiet PySem.F.plain_list_iadd _, codeAny_builtin PySem.F.entry_list_iadd ?_⟩
  rw [Around.under_plainId PySem.F.plain_list_iadd _]
  generalize hN : s.heap.objs.size = N at alt
  have hL : (s.heap.push { cls := .type "list", data := .seq ([] : List Value).toArray }).get? N = some { cls := .type "list", data := .seq #[] } := by rw [← hN]; exact Heap.get?_push_size _ rfl
  generalize hs1 : ({ s with heap := s.heap.push { cls := .type "list", data := .seq ([] : List Value).toArray } } : Shared) = s1
  have hL1 : s1.heap.get? N = some { cls := .type "list", data := .seq #[] } := by rw [← hs1]; exact hL
  have k1 : ∀ b o, s.heap.get? b = some o → s1.heap.get? b = some o := fun b o e => by rw [← hs1]; exact Heap.get?_push_of_some _ e
  have hS1 : SetT knd s1.heap a xs := hS.stay fun o e => k1 a o e
  have aN : N ≠ a := Nat.ne_of_gt alt
  show wpAny _ A.in1 (Builtin.List.listExtendWith (.ref N) (.ref a) (.ref N)) _ _ _
  unfold Builtin.List.listExtendWith
  refine wpAny_bind (wpAny_typeOf (T := "set") hS1.typeIs ?_)
  have q1 : Builtin.List.listSameRef (.ref N) (.ref a) = false := by simp [Builtin.List.listSameRef, aN]
  have q2 : (Value.type "set" == Value.type "list") = false := by decide
  have q3 : (Value.type "set" == Value.type "tuple") = false := by decide
  simp only [q1, q2, q3, Bool.or_false, Bool.false_eq_true, if_false]
  refine wpAny_bind (set_iter (A := A.in1) hh hS1 fun h2 d I fp St out ks W st k2 f1 f2 i1 i2 hk hp => ?_)
  have hL2 := k2 _ _ hL1
  have hT2 : Shared.TypeIs { s1 with heap := h2, drawn := d } (.ref a) "set" := (hS1.stay (h' := h2) fun o e => k2 a o e).typeIs (s := { s1 with heap := h2, drawn := d })
  have hNf : N ∉ fp := fun hm => by
    rcases f1 _ hm with e | e
    · exact aN e
    · exact absurd (Heap.lt_size hL1) (Nat.not_lt.mpr e)
  have key : ∀ (h3 : Heap) (c tk : Nat), St 0 h3 → (∀ b o, b ≠ N → h2.get? b = some o → h3.get? b = some o) → h3.get? N = some { cls := .type "list", data := .seq #[] c } →
      codeAny (model prog w) A (.builtin "list.extend.loop" ⟨[.ref N, .ref I, .ref N], []⟩) (fun (q : Result) (s' : Shared) => ∃ (h' : Heap) (tk : Nat) (acc : Array Value) (c : Nat), q = .ok (.ret (.ref N)) ∧ s' = { s with heap := h', toks := tk, drawn := d } ∧ (∀ b o, s.heap.get? b = some o → h'.get? b = some o) ∧ h'.get? N = some { cls := .type "list", dict := none, data := .seq acc c, slots := #[] } ∧ ItemsOf (Gives out) acc out.length) { s1 with heap := h3, toks := tk, drawn := d } := by
    intro h3 c tk st3 k3 hN3
    have hnz : out.length ≤ sizeLine := by
      obtain ⟨o, es, ep, t, ks0, _, _, _, hk0, hp0, _, hb0, _⟩ := hS1
      rw [hk.len, hp.length_eq, ← hp0.length_eq, ← hk0.len, Array.length_toList]
      exact fits_of_scanBound hb0
    refine codeAny_extend_loopS W.toS hnz N hNf _ out.length 0 _ #[] c (by simp) (Nat.zero_le _) st3 hN3 (ItemsOf.nil _) fun s' acc c' hm hS' hacc => ?_
    refine ⟨s'.heap, s'.toks, acc, c', rfl, ?_, fun b o e => ?_, hS', hacc⟩
    · rw [Moved.eq_with hm, ← hs1]
    · have hbN : b ≠ N := Nat.ne_of_lt (by rw [← hN]; exact Heap.lt_size e)
      refine hm.heap b o (fun hmem => ?_) (k3 b o hbN (k2 b o (k1 b o e)))
      rcases List.mem_cons.mp hmem with e' | hmem
      · exact hbN e'
      · rw [List.mem_singleton.mp hmem] at e
        exact absurd (Heap.lt_size (k1 _ _ e)) (Nat.not_lt.mpr i1)
  refine wpAny_bind (wpAny_holding (set_hint hT2 ?_))
  have goes : ∀ (h3 : Heap) (c tk : Nat), St 0 h3 → (∀ b o, b ≠ N → h2.get? b = some o → h3.get? b = some o) → h3.get? N = some { cls := .type "list", data := .seq #[] c } → codeAny (model prog w) A (.builtin "list.extend.loop" ⟨[.ref N, .ref I, .ref N], []⟩) (fun r s' => match r with
        | .ok (.ret v) => wpAny (model prog w) A (match v with
            | .ref a => do
              match (← load a).data with
                | .seq xs _ => pure xs.toList
                | _ => unsupported "internal:collect"
            | _ => unsupported "internal:collect") R E s'
        | .ok _ => False
        | .error e => E e s') { s1 with heap := h3, toks := tk, drawn := d } := fun h3 c tk a1 a2 a3 => by
    refine codeAny_mono (key h3 c tk a1 a2 a3) fun q s' y => ?_
    obtain ⟨h', tk', acc, c', rfl, rfl, hkp, hN', hacc⟩ := y
    show wpAny _ A (load N >>= _) _ _ _
    refine wpAny_bind (wpAny_load hN' ?_)
    refine wpAny_pure (h h' tk' d acc ks hkp hp (hacc.1.trans hk.len) fun j v e => ?_)
    obtain ⟨x, hx, rfl⟩ := hacc.2 j v e
    exact hk.at hx
  refine wpAny_ite_split (fun _ => ?_) fun _ => wpAny_pure ⟨plainId_quiet PySem.F.plain_extend_loop _, goes h2 _ _ st (fun b o _ e => e) hL2⟩
  refine wpAny_bind (wpAny_rule (wpAny_bind ?_))
  show wpAny _ _ (updateSeq N (·.push .none) >>= fun _ => updateSeq N (·.pop)) _ _ _
  refine wpAny_bind (wpAny_updateSeq hL2 rfl ?_)
  have hL3 := Heap.get?_update_self (Obj.mapSeq (·.push Value.none)) hL2 rfl
  refine wpAny_updateSeq (hz := by seq_fits) hL3 rfl ?_
  have hL4 := Heap.get?_update_self (Obj.mapSeq (·.pop)) hL3 rfl
  have oth : ∀ b o, b ≠ N → h2.get? b = some o → ((h2.update N (Obj.mapSeq (·.push Value.none))).update N (Obj.mapSeq (·.pop))).get? b = some o := fun b o hb e => (Heap.get?_update_other _ _ (Ne.symm hb)).trans ((Heap.get?_update_other _ _ (Ne.symm hb)).trans e)
  exact wpAny_pure ⟨plainId_quiet PySem.F.plain_extend_loop _, goes _ _ _ (W.frame 0 _ _ st fun b hb o e => oth b o (fun z => hNf (z ▸ hb)) e) oth hL4⟩
end
end L2

namespace L2
open PySem PySem.Calls PySem.Spec PyProof.Rows
/-! ### sets of whole numbers, tracked -/
def SetI (P : Program) (w : World) (D : Addr) (xs : List Int) : HO := .ext fun h => SetT (PySem.intKind P w) h D xs
theorem seti_ok {P : Program} {w : World} {H : Hp} {h : Heap} {D : Addr} {xs : List Int} (x : SetT (PySem.intKind P w) h D xs) : ObjOk P w H h D (SetI P w D xs) :=
  ⟨x, (by obtain ⟨o, _, _, _, _, e, _⟩ := x; exact ⟨o, e⟩), fun h1 h2 y k => y.stay k⟩
theorem seti_of {P : Program} {w : World} {H : Hp} {h : Heap} {D : Addr} {xs : List Int} (ok : HOk P w H h) (e : H D = some (SetI P w D xs)) : SetT (PySem.intKind P w) h D xs := (show ObjOk P w H h D (SetI P w D xs) from ok D _ e).1
section
variable {X : Cx}
end
/-! ### sorted(a set of whole numbers) -/
@[reducible] def rSortedI (P : Program) (w : World) : List V → Hp → VK → Prop := fun vs H Q => ∃ (a : Addr) (xs : List Int), vs = [V.ref a] ∧ H a = some (SetI P w a xs) ∧ xs.length < 64 ∧
  ∀ (ns : List Int) (p : Addr), ns.Perm xs → ns.Pairwise (· < ·) → H p = none → Q (.ref p) (upd H p (.lst (ns.map V.int)))
theorem rises_of {ns : List Int} (h : ns.Pairwise (· ≤ ·)) (n : ns.Nodup) : ns.Pairwise (· < ·) := by
  refine List.Pairwise.imp (fun {a b} z => ?_) (h.and n)
  obtain ⟨z1, z2⟩ := z
  have z2 : a ≠ b := z2
  omega
section
variable {X : Cx}
theorem cr_sortedI (hc : X.calm = true) : CallR X (.builtin "sorted") (rSortedI X.prog X.w) := by
  intro pins s σ H vs us Q I r h
  obtain ⟨a, xs, rfl, ha, h64, q⟩ := h
  rw [Vals.ref1 r]
  have hS := seti_of I.hok ha
  have hnd : xs.Nodup := by obtain ⟨_, _, _, _, _, _, _, _, _, _, z, _⟩ := hS; exact z
  refine call_function_entry kind_sorted plain_sorted entry_sorted (args_sorted1 _) ?_
  unfold Builtin.«sorted»
  refine wpAny_bind (m := checkCount "sorted" 1 1 _) (wpAny_pure (wpAny_bind (set_collect (A := X.A.in1) (I.ok.hd hc) hS fun h' tk d acc ks hkp hp hz hacc => ?_)))
  have hl : acc.toList.length = ks.length := by rw [Array.length_toList, hz]
  have h64' : ks.length < 64 := by rw [hp.length_eq]; exact h64
  have hI : IntsAre acc.toList ks := ints_of_at hl fun j v e => by
    obtain ⟨k, hx, hk⟩ := hacc j v (by rw [← Array.getElem?_toList]; exact e)
    have hk : Value.isInt k v = true := hk
    obtain ⟨t, rfl⟩ := Value.isInt_shape hk
    exact ⟨k, t, hx, rfl⟩
  refine wpAny_bind (wpAny_newList ?_ (by rw [hl]; exact small64 h64'))
  have hob : (h'.push (seqObj "list" acc.toList.toArray 0)).get? h'.objs.size = some (seqObj "list" acc.toList.toArray 0) := Heap.get?_push_size _ rfl
  refine wpAny_bind (wpAny_holding (wpAny_call_entry slot_list_sort ⟨_, hob, rfl⟩ entry_list_sort (list_sort_tree hob hI (by rw [hl]; exact h64') fun out ns' h1 h2 h3 => ⟨_, rfl, ?_⟩) (args_list_sort _)))
  obtain ⟨ep', he'⟩ := sortedHeap_at (vs := acc.toList) (out := out) hob
  have hlen : (ns'.map V.int).length ≤ sizeLine := by rw [List.length_map, h2.length_eq]; exact small64 h64'
  have kp : ∀ b o, s.heap.get? b = some o → (sortedHeap (h'.push (seqObj "list" acc.toList.toArray 0)) h'.objs.size acc.toList out).get? b = some o := fun b o e => by
    have e2 := hkp b o e
    have hb : b < h'.objs.size := Heap.lt_size e2
    rw [sortedHeap_old (Nat.ne_of_lt hb) (by rw [size_push']; exact Nat.lt_succ_of_lt hb)]
    exact Heap.get?_push_of_some _ e2
  have ne : ∀ {b : Addr} {o : Obj}, s.heap.get? b = some o → b ≠ h'.objs.size := fun {b o} e => Nat.ne_of_lt (Heap.lt_size (hkp b o e))
  have hn : H h'.objs.size = none := by
    cases e : H h'.objs.size with
    | none => rfl
    | some o =>
      obtain ⟨ob, hob⟩ := (I.hok _ o e).lies
      exact absurd rfl (ne hob)
  have nb : ∀ {b : Addr} {o : HO}, H b = some o → b ≠ h'.objs.size := fun {b o} e z => by rw [z, hn] at e; cases e
  have un : Un (frs X.stack) [] H (upd H h'.objs.size (.lst (ns'.map V.int))) s.heap (sortedHeap (h'.push (seqObj "list" acc.toList.toArray 0)) h'.objs.size acc.toList out) :=
    ⟨fun b o hb _ _ _ => kp b o hb, fun b o hb _ _ _ => ⟨o.slots, kp b o hb⟩, fun b o hb n _ => by rw [upd_ne (ne hb)]; exact n, fun b o hb _ => ⟨o, kp b o hb⟩, fun b xs z => by rw [upd_ne (nb z)]; exact z, fun b o u z => by rw [upd_ne (nb z)]; exact z, fun b ps z => ⟨#[], by rw [upd_ne (nb z), z]; simp⟩⟩
  have ok : HOk X.prog X.w (upd H h'.objs.size (.lst (ns'.map V.int))) (sortedHeap (h'.push (seqObj "list" acc.toList.toArray 0)) h'.objs.size acc.toList out) := by
    intro b o e
    by_cases e1 : b = h'.objs.size
    · subst e1
      rw [upd_same] at e
      cases e
      exact ⟨hlen, out.toList, ep', vals_of_ints h1, he'⟩
    · rw [upd_ne e1] at e
      exact (I.hok b o e).stay (fun x u _ hu => kp x u hu) (fun x hx => by rw [upd_ne (nb hx)]; exact hx) fun x xs hx => by rw [upd_ne (nb hx)]; exact hx
  exact wpAny_pure ⟨_, rfl, .ref h'.objs.size, _, I.call' (s' := { s with heap := sortedHeap (h'.push (seqObj "list" acc.toList.toArray 0)) h'.objs.size acc.toList out, toks := tk, drawn := d }) (ch := []) rfl un ok I.bare (fun b z => absurd z (by simp)), rfl, q ns' _ (h2.trans hp) (rises_of h3 ((h2.trans hp).nodup_iff.mpr hnd)) hn⟩
end
/-! ### a set comprehension over a tuple, a list -/
end L2

namespace L2
open PySem PySem.Calls PySem.Spec PyProof.Rows
/-! ### set(xs) of a list of texts, with its table -/
section
variable {prog : Program} {w : World} {A : Around} {E : Value → Shared → Prop} {s : Shared}
abbrev newSetO (w : World) : Obj := { cls := .type "set", dict := none, data := .set #[] 0 (.fresh 0 0 (!(w.params.followText "set-order"))) }
theorem code_newT (a : Value) {Q₁ : Value → Shared → Prop} (h : Q₁ (.ref s.heap.objs.size) { s with heap := s.heap.push (newSetO w) }) :
    codeAny (model prog w) A (.call (.builtin "set.__new__") ⟨[.type "set", a], []⟩) (wants Q₁ E) s := by
  have hsub := sub_set_self
  refine codeAny_of_tree (show wpAny _ A.in1 (do checkBuiltinCall "set.__new__" ⟨[.type "set", a], []⟩; again (.builtin "set.__new__" ⟨[.type "set", a], []⟩)) _ _ s from wpAny_bind (wpAny_of_eq (F.newCall_set_1 a) (wpAny_pure ⟨plainId_quiet F.plain_set_new _, codeAny_builtin F.entry_set_new ?_⟩)))
  (rw [Around.under_plainId F.plain_set_new _]); (unfold Builtin.«set.__new__» Builtin.Frozenset.newClass); (obtain ⟨hp, g, d, tk, os⟩ := s)
  (dsimp only); wp_walk
  (refine wpAny_askSetting (wpAny_pure ?_)); (dsimp only); (simp only [newObj])
  exact wpAny_bind (wpAny_alloc (wpAny_pure (wpAny_pure h)))
end
/-! ### list(d.values()) -/
section
variable {X : Cx}
end
end L2

namespace L2
open PySem PySem.Spec PyProof.Rows
/-! ### lambdas: functions that lie in the base of what they are handed to -/
/-- the context of a lambda's body, at its entry -/
def cxL (P : Program) (w : World) (K : PySem.W.Frag) (mg : Str → Option Value) (base : Heap) (N : List Str) (qual : Str) (scope : Scope) (f : Addr) (cd : Value) (cl : List (Str × Addr)) (A : Around) (outer : List Env) (s : Shared) (H : Hp) : Cx where
  prog := P
  w := w
  K := K
  mg := mg
  base := base
  A := A.deeper (PySem.W.envX qual scope s.heap.objs.size f cd cl)
  N := N
  s_0 := s
  H_0 := H
  env := PySem.W.envX qual scope s.heap.objs.size f cd cl
  outer := outer
  stack := PySem.W.envX qual scope s.heap.objs.size f cd cl :: outer
  ex := []
  calm := true
  fn := fun _ => false
  pn := []
  xe := fun _ _ => False
abbrev cellO : Obj := { cls := .type "cell", data := .cell none }
/-- a lambda's parameter is a local of its own, or its only cell -/
def ParOk (x : Str) (sc : Scope) : Prop := (sc.names.lookup x = some .local ∧ ∀ y ∈ sc.names, y.2 ≠ .cell) ∨
  (sc.names.lookup x = some .cell ∧ (∀ n acc, cellsFrom n sc.names acc = (x, n) :: acc) ∧ (∀ h, pushCells h sc.names = h.push cellO) ∧ ∀ y, sc.names.lookup y = some .cell → y = x)
structure LamScope (N : List Str) (x : Str) (sc : Scope) (cl : List (Str × Addr)) : Prop where
  kind : sc.kind = .function
  co : sc.isCoroutine = false
  gen : sc.isGenerator = false
  nd : N.Nodup
  pre : N[0]? = some x
  par : ParOk x sc
  inj : ∀ y z c, cl.lookup y = some c → cl.lookup z = some c → y = z
  has : ∀ y, sc.names.lookup y = some .free → ∃ c, cl.lookup y = some c
section
variable {M : Model} {A : Around} {E : Value → Shared → Prop} {s : Shared}
/-- the frame of such a call -/
theorem newEnv_cell {scope : Scope} {globals : Addr} {cl : List (Str × Addr)} {x qual : Str} {u : Value} {func : Option Addr} {code : Value} {builtins : Addr} {Q : Env → Shared → Prop} (hk : scope.kind = .function) (hx : scope.names.lookup x = some .cell)
    (one : ∀ n acc, cellsFrom n scope.names acc = (x, n) :: acc) (onep : ∀ h, pushCells h scope.names = h.push cellO)
    (hQ : ∀ h', h'.Ns s.heap.objs.size (fun _ => none) → h'.IsCell (s.heap.objs.size + 1) (some u) → (∀ b o, s.heap.get? b = some o → h'.get? b = some o) → Q (newEnv scope s.heap.objs.size globals ((x, s.heap.objs.size + 1) :: cl) qual func code none builtins) { s with heap := h' }) :
    wpAny M A (newFunctionEnv scope globals cl [(x, u)] qual func code none builtins) Q E s := by
  simp only [newFunctionEnv, Option.isSome_none, Bool.false_eq_true, if_false]
  refine wpAny_bind (wpAny_alloc ?_)
  refine wpAny_bind (wpAny_layCells _ (fun name kind cells => by cases hkc : kind == NameKind.cell <;> simp [hkc]) _ _ _ _ ?_)
  rw [one, onep]
  have e1 : (s.heap.push { cls := .type "frame", data := .dict #[] }).objs.size = s.heap.objs.size + 1 := Heap.size_push ..
  have hcell : ((s.heap.push { cls := .type "frame", data := .dict #[] }).push cellO).IsCell (s.heap.objs.size + 1) none := ⟨_, by rw [← e1]; exact Heap.get?_push_size _ rfl, rfl⟩
  have hns : ((s.heap.push { cls := .type "frame", data := .dict #[] }).push cellO).Ns s.heap.objs.size (fun _ => none) := (Heap.Ns.new s.heap (.type "frame")).keeps fun b o e => Heap.get?_push_of_some _ e
  simp only [List.forIn_cons, List.forIn_nil]
  rw [show ({ s with heap := s.heap.push { cls := .type "frame", data := .dict #[] } } : Shared).heap.objs.size = s.heap.objs.size + 1 from e1]
  refine wpAny_bind (wpAny_bind (wpAny_bind (wpAny_storeName_cell (c := s.heap.objs.size + 1) (v₀ := none) hk hx (by simp) hcell fun h' hc' hs' => wpAny_pure (wpAny_pure (wpAny_pure ?_)))))
  refine hQ h' (hns.sameBut hs' (Nat.ne_of_lt (Nat.lt_succ_self _))) hc' fun b o e => ?_
  exact hs'.extBut b o (Nat.ne_of_lt (Nat.lt_succ_of_lt (Heap.lt_size e))) (Heap.get?_push_of_some _ (Heap.get?_push_of_some _ e))
end
section
variable {P : Program} {w : World} {K : PySem.W.Frag} {mg : Str → Option Value} {base : Heap} {k : Nat} {f c : Addr} {name qual x : Str} {params : Arguments} {body : Expr} {scope : Scope} {cl : List (Str × Addr)} {pm ctv : Value} {N : List Str} {sp : Sp} {fvs : List (Option V)}
/-- the values of the names that a lambda finds around it -/
def FreeVals (base : Heap) (N : List Str) (scope : Scope) (cl : List (Str × Addr)) (fvs : List (Option V)) : Prop :=
  fvs.length + 1 = N.length ∧ ∀ (i : Nat) (y : Str) (v : V), N[i + 1]? = some y → fvs[i]? = some (some v) → scope.names.lookup y = some .free ∧ ∃ b u, cl.lookup y = some b ∧ RelV v u ∧ base.IsCell b (some u)
theorem inv_startL {A : Around} {outer : List Env} {s : Shared} {H : Hp} {v : V} {u : Value} {h1 : Heap} {tk : Nat} {cd : Value} (S : LamScope N x scope cl) (loc : scope.names.lookup x = some .local) (nocell : ∀ y ∈ scope.names, y.2 ≠ .cell) (hd : A.handled = none) (e0 : Env0 P w K mg base A outer s H) (rv : RelV v u) (hcl : ∀ y b, cl.lookup y = some b → ∃ z, base.IsCell b z) (hfv : FreeVals base N scope cl fvs)
    (hns : h1.Ns s.heap.objs.size (fun y => [(x, u)].reverse.lookup y)) (hk : ∀ b o, s.heap.get? b = some o → h1.get? b = some o) :
    Inv (cxL P w K mg base N qual scope f cd cl A outer s H) [] (some v :: fvs) H { s with heap := h1, toks := tk } := by
  have noA : ∀ b : Addr, b ∉ (cxL P w K mg base N qual scope f cd cl A outer s H).ex := fun b z => absurd (show b ∈ ([] : List Addr) from z) (by simp)
  have bk : ∀ b o, base.get? b = some o → h1.get? b = some o := fun b o e => hk b o (e0.bs b o e).1
  have cellB : ∀ {b : Addr} {z : Option Value}, base.IsCell b z → h1.IsCell b z := fun {b z} ⟨o, e, r⟩ => ⟨o, bk b o e, r⟩
  refine ⟨⟨e0.mod, S.kind, rfl, rfl, Nat.le_refl _, S.inj, fun y hy => ?_, fun y b z => (by cases z), fun _ => hd, Around.frames_deeper e0.frames, .inr ⟨rfl, rfl⟩, fun b z => absurd z (noA b), e0.bs, e0.bsz, fun b _ _ => noA b, fun b z => absurd z (noA b), e0.funs, e0.frf, fun y b h hb => (let ⟨_, o, e, _⟩ := hcl y b h; absurd e (by rw [(e0.funs.mem hb).1]; simp))⟩,
    rfl, e0.bare, Un.kept hk, ⟨_, hns, fun i y v' h1' h2 h3 => ?_⟩, fun y b h => ?_, e0.hok.fresh (Nat.le_refl _), fun y b h => ?_, fun p hp => absurd (show p ∈ ([] : List (Addr × Obj)) from hp) (by simp), e0.hok.kept hk, ?_⟩
  · have hy : scope.names.lookup y = some .cell ∨ scope.names.lookup y = some .free := hy
    rcases hy with hy | hy
    · exact absurd rfl (nocell _ (PySem.mem_of_lookup hy))
    · exact S.has y hy
  · cases i with
    | zero =>
      have h1' : N[0]? = some y := h1'
      rw [S.pre] at h1'
      cases h1'
      cases h2
      exact ⟨u, rv, .inl ⟨loc, by show [(x, u)].reverse.lookup x = some u; simp⟩⟩
    | succ i =>
      obtain ⟨z1, b, uu, z2, z3, z4⟩ := hfv.2 i y v' h1' (by simpa using h2)
      exact ⟨uu, z3, .inr ⟨.inr z1, b, z2, cellB z4⟩⟩
  · obtain ⟨z, hz⟩ := hcl y b h
    exact ⟨z, cellB hz⟩
  · obtain ⟨z, o, e, _⟩ := hcl y b h
    exact (e0.bs b o e).2
  · show fvs.length + 1 = N.length
    exact hfv.1
/-- the same where the parameter is a cell -/
theorem inv_startC {A : Around} {outer : List Env} {s : Shared} {H : Hp} {v : V} {u : Value} {h1 : Heap} {tk : Nat} {cd : Value} (S : LamScope N x scope cl) (loc : scope.names.lookup x = some .cell) (others : ∀ y, scope.names.lookup y = some .cell → y = x) (hd : A.handled = none) (e0 : Env0 P w K mg base A outer s H) (rv : RelV v u) (hcl : ∀ y b, cl.lookup y = some b → ∃ z, base.IsCell b z) (hfv : FreeVals base N scope cl fvs)
    (hns : h1.Ns s.heap.objs.size (fun _ => none)) (hcx : h1.IsCell (s.heap.objs.size + 1) (some u)) (hk : ∀ b o, s.heap.get? b = some o → h1.get? b = some o) :
    Inv (cxL P w K mg base N qual scope f cd ((x, s.heap.objs.size + 1) :: cl) A outer s H) [] (some v :: fvs) H { s with heap := h1, toks := tk } := by
  have noA : ∀ b : Addr, b ∉ (cxL P w K mg base N qual scope f cd ((x, s.heap.objs.size + 1) :: cl) A outer s H).ex := fun b z => absurd (show b ∈ ([] : List Addr) from z) (by simp)
  have bk : ∀ b o, base.get? b = some o → h1.get? b = some o := fun b o e => hk b o (e0.bs b o e).1
  have cellB : ∀ {b : Addr} {z : Option Value}, base.IsCell b z → h1.IsCell b z := fun {b z} ⟨o, e, r⟩ => ⟨o, bk b o e, r⟩
  have low : ∀ y b, cl.lookup y = some b → b ≠ s.heap.objs.size + 1 := fun y b h => by
    obtain ⟨z, o, e, _⟩ := hcl y b h
    exact Nat.ne_of_lt (Nat.lt_succ_of_lt (Heap.lt_size (e0.bs b o e).1))
  have look : ∀ y b, ((x, s.heap.objs.size + 1) :: cl).lookup y = some b → (y = x ∧ b = s.heap.objs.size + 1) ∨ (y ≠ x ∧ cl.lookup y = some b) := fun y b h => by
    by_cases e : y = x
    · subst e
      rw [List.lookup_cons_self] at h
      exact .inl ⟨rfl, (Option.some.inj h).symm⟩
    · rw [List.lookup_cons, beq_eq_false_iff_ne.mpr e] at h
      exact .inr ⟨e, h⟩
  have back : ∀ y b, y ≠ x → cl.lookup y = some b → ((x, s.heap.objs.size + 1) :: cl).lookup y = some b := fun y b e h => by
    rw [List.lookup_cons, beq_eq_false_iff_ne.mpr e]
    exact h
  refine ⟨⟨e0.mod, S.kind, rfl, rfl, Nat.le_refl _, fun y z b h1 h2 => ?_, fun y hy => ?_, fun y b z => (by cases z), fun _ => hd, Around.frames_deeper e0.frames, .inr ⟨rfl, rfl⟩, fun b z => absurd z (noA b), e0.bs, e0.bsz, fun b _ _ => noA b, fun b z => absurd z (noA b), e0.funs, e0.frf, fun y b h hb => ?_⟩,
    rfl, e0.bare, Un.kept hk, ⟨_, hns, fun i y v' h1' h2 h3 => ?_⟩, fun y b h => ?_, e0.hok.fresh (Nat.le_refl _), fun y b h => ?_, fun p hp => absurd (show p ∈ ([] : List (Addr × Obj)) from hp) (by simp), e0.hok.kept hk, ?_⟩
  · rcases look y b h1 with ⟨rfl, rfl⟩ | ⟨_, k1⟩
    · rcases look z _ h2 with ⟨rfl, _⟩ | ⟨_, k2⟩
      · rfl
      · exact absurd rfl (low z _ k2)
    · rcases look z b h2 with ⟨_, rfl⟩ | ⟨_, k2⟩
      · exact absurd rfl (low y _ k1)
      · exact S.inj y z b k1 k2
  · have hy : scope.names.lookup y = some .cell ∨ scope.names.lookup y = some .free := hy
    by_cases e : y = x
    · subst e
      exact ⟨_, List.lookup_cons_self⟩
    · rcases hy with hy | hy
      · exact absurd (others y hy) e
      · obtain ⟨b, hb⟩ := S.has y hy
        exact ⟨b, back y b e hb⟩
  · rcases look y b h with ⟨_, rfl⟩ | ⟨_, k⟩
    · obtain ⟨_, o, ho, _⟩ := e0.funs.mem hb
      exact absurd (Heap.lt_size ho) (Nat.not_lt.mpr (Nat.le_succ _))
    · obtain ⟨_, o, e, _⟩ := hcl y b k
      exact absurd e (by rw [(e0.funs.mem hb).1]; simp)
  · cases i with
    | zero =>
      have h1' : N[0]? = some y := h1'
      rw [S.pre] at h1'
      cases h1'
      cases h2
      exact ⟨u, rv, .inr ⟨.inl loc, _, List.lookup_cons_self, hcx⟩⟩
    | succ i =>
      obtain ⟨z1, b, uu, z2, z3, z4⟩ := hfv.2 i y v' h1' (by simpa using h2)
      have e : y ≠ x := fun e => by rw [e, loc] at z1; cases z1
      exact ⟨uu, z3, .inr ⟨.inr z1, b, back y b e z2, cellB z4⟩⟩
  · rcases look y b h with ⟨_, rfl⟩ | ⟨_, k⟩
    · exact ⟨_, hcx⟩
    · obtain ⟨z, hz⟩ := hcl y b k
      exact ⟨z, cellB hz⟩
  · rcases look y b h with ⟨_, rfl⟩ | ⟨_, k⟩
    · exact e0.hok.fresh (Nat.le_succ _)
    · obtain ⟨z, o, e, _⟩ := hcl y b k
      exact (e0.bs b o e).2
  · show fvs.length + 1 = N.length
    exact hfv.1
theorem lam_of (hf : base.get? f = some (PySem.W.kla_obj name qual params body scope cl pm c ctv)) (hcd : base.CodeRec (.ref c) qual) (S : LamScope N x scope cl) (hcl : ∀ y b, cl.lookup y = some b → ∃ z, base.IsCell b z) (hfv : FreeVals base N scope cl fvs)
    (len : ∀ vs H Q E, sp vs H Q E → vs.length = 1)
    (hbody : ∀ (cl' : List (Str × Addr)) (A : Around) (outer : List Env) (s : Shared) (H : Hp) (v : V) (Q : VK) (E : XK), Room k (A.deeper (PySem.W.envX qual scope s.heap.objs.size f (.ref c) cl')) → sp [v] H Q E →
      ∃ t, PE (cxL P w K mg base N qual scope f (.ref c) cl' A outer s H) body t ∧ t (some v :: fvs) H Q) :
    FnOk P w K mg base CX0 (k + 1) f (PySem.W.kla_fn name qual params body scope cl pm (.ref c) ctv) [x] sp := by
  refine ⟨len, fun A outer s H args us vs Q E hr e0 hb r hsp => ?_⟩
  have hl := len _ _ _ _ hsp
  obtain ⟨v, rfl⟩ : ∃ v, vs = [v] := by
    match vs, hl with
    | [v], _ => exact ⟨v, rfl⟩
  obtain ⟨u, rfl, rv⟩ := Vals.one r
  have lim : s.heap.NoLimit := e0.mod.nolimit.keeps fun b o e => (e0.bs b o e).1
  refine PySem.W.kla_callFunE hr.depth (e0.bs f _ hf).1 rfl S.co S.gen rfl (hcd.keeps fun b o e => (e0.bs b o e).1) (hb _ _ _ _ ?_)
  rcases S.par with ⟨loc, nocell⟩ | ⟨loc, one, onep, others⟩
  · refine wpAny_newFunctionEnv nocell (fun y hy => ?_) (fun h1 hns hsb => ?_) S.kind
    · have : y = (x, u) := by simpa using hy
      rw [this]
      exact loc
    · have hk : ∀ b o, s.heap.get? b = some o → h1.get? b = some o := fun b o e => hsb.extBut b o (Nat.ne_of_lt (Heap.lt_size e)) (Heap.get?_push_of_some _ e)
      refine ⟨lim.keeps hk, PySem.W.kla_codeExpr ?_⟩
      obtain ⟨t, ht, hq⟩ := hbody cl A outer s H v Q E (hr.deeper _) hsp
      exact wpAny_mono (ht [] _ (some v :: fvs) H Q (inv_startL S loc nocell hr.hd e0 rv hcl hfv hns hk) hq) (fun u' s' ⟨v', H', J, rv', q'⟩ => ⟨v', H', J.os, J.bare, J.base, J.hok, rv', q'⟩) fun _ _ z => z.elim
  · refine newEnv_cell S.kind loc one onep fun h1 hns hcx hk => ?_
    refine ⟨lim.keeps hk, PySem.W.kla_codeExpr ?_⟩
    obtain ⟨t, ht, hq⟩ := hbody ((x, s.heap.objs.size + 1) :: cl) A outer s H v Q E (hr.deeper _) hsp
    exact wpAny_mono (ht [] _ (some v :: fvs) H Q (inv_startC S loc others hr.hd e0 rv hcl hfv hns hcx hk) hq) (fun u' s' ⟨v', H', J, rv', q'⟩ => ⟨v', H', J.os, J.bare, J.base, J.hok, rv', q'⟩) fun _ _ z => z.elim
end
end L2

namespace L2
open PySem PySem.Spec PyProof.Rows
/-! ### a call of a name that holds a function of the base -/
@[reducible] def tCallL (G : Addr → Sp → Prop) (i : Nat) (t : TA) : TE := fun σ H Q => ∃ f sp, σ[i]? = some (some (.ref f)) ∧ G f sp ∧ t σ H fun vs H1 => sp vs H1 Q E0
section
variable {X : Cx} {G : Addr → Sp → Prop} {i k : Nat} {x : Str} {p pos : Pos} {e : Expr} {es : List Expr} {t : TA}
theorem pe_callL (hG : ∀ f sp, G f sp → ∃ fd ps, FnOk X.prog X.w X.K X.mg X.base CX0 k f fd ps sp ∧ PySem.W.FnAt f X.base ∧ Binds X.K fd ps []) (hr : Room k X.A) (hv : PE X (.Name x p) (tVar i)) (ha : PA X (e :: es) t)
    (he : starEach (e :: es) X.env = (false, eval e X.env) :: starEach es X.env := by rfl) (hpl : (backTo pos (starEach es X.env)).any (·.1) = false := by rfl) :
    PE X (.Call (.Name x p) (e :: es) [] pos) (tCallL G i t) := by
  intro pins s σ H Q I h
  obtain ⟨f, sp, hs, g, h⟩ := h
  obtain ⟨fd, ps, F, hk, hb⟩ := hG f sp g
  have fnat : ∀ {s' : Shared} {σ' : St} {H' : Hp}, Inv X pins σ' H' s' → PySem.W.FnAt f s'.heap := fun {s' σ' H'} J => let ⟨oc, od, fd', sl, e⟩ := hk; ⟨oc, od, fd', sl, J.bk _ _ e⟩
  refine wpAny_Call_Name_kw (thn (hv pins s σ H (fun v H1 => v = .ref f ∧ H1 = H) I ⟨_, hs, rfl, rfl⟩) fun u s0 ⟨v, H0, I0, r0, ev, eH⟩ => ?_)
  subst ev
  subst eH
  obtain rfl : u = Value.ref f := r0
  refine PySem.W.callWith_F (fnat I0) (thn (ha pos pins s0 σ H0 _ I0 h) fun us s1 ⟨vs, H1, I1, r, q⟩ => ⟨fnat I1, ?_⟩) he hpl
  have q' : sp (vs ++ []) H1 Q E0 := by rw [List.append_nil]; exact q
  have z := run_fn (ds := []) (dvs := []) F hr hb .nil pass0 I1 r q'
  exact z
end
/-! ### what a callee stands on: all that is not tracked -/
def baseL (h : Heap) (H : Hp) (l : List Env) : Heap := PySem.W.hideAll h (trk h H ++ frs l)
section
variable {h : Heap} {H : Hp} {l : List Env} {b : Addr} {o : Obj}
theorem baseL_get (e : h.get? b = some o) (n : H b = none) (nf : b ∉ frs l) : (baseL h H l).get? b = some o :=
  PySem.W.hideAll_get _ e fun hm => by
    rcases List.mem_append.mp hm with z | z
    · have q : (H b).isSome = true := (List.mem_filter.mp z).2
      rw [n] at q; simp at q
    · exact nf z
theorem of_baseL (e : (baseL h H l).get? b = some o) : h.get? b = some o ∧ H b = none ∧ b ∉ frs l := by
  have e' : h.get? b = some o := PySem.W.of_hideAll (trk h H ++ frs l) e
  have hid : ∀ {l' : List Addr}, b ∈ l' → (PySem.W.hideAll h l').get? b = none := fun hm => PySem.W.hideAll_none _ hm
  refine ⟨e', ?_, fun hf => ?_⟩
  · cases q : H b with
    | none => rfl
    | some x =>
      have hm : b ∈ trk h H ++ frs l := List.mem_append_left _ (List.mem_filter.mpr ⟨List.mem_range.mpr (Heap.lt_size e'), by simp [q]⟩)
      have z : (baseL h H l).get? b = none := hid hm
      rw [z] at e; cases e
  · have z : (baseL h H l).get? b = none := hid (List.mem_append_right _ hf)
    rw [z] at e; cases e
theorem Mod.keeps {K : PySem.W.Frag} {mg : Str → Option Value} {base base' : Heap} (m : Mod K mg base) (k : ∀ b o, base.get? b = some o → base'.get? b = some o) : Mod K mg base' :=
  ⟨m.kin.keeps k, m.glob.keeps k, let ⟨mb, h1, h2⟩ := m.blt; ⟨mb, h1.keeps k, h2⟩, m.nolimit.keeps k⟩
end
section
variable {X : Cx} {pins : List (Addr × Obj)} {σ : St} {H Hc : Hp} {s : Shared}
theorem Inv.baseL (I : Inv X pins σ H s) (hc : ∀ b, H b = none → Hc b = none) : ∀ b o, X.base.get? b = some o → (baseL s.heap Hc X.stack).get? b = some o := fun b o e => by
  obtain ⟨e1, e2⟩ := I.bs b o e
  refine baseL_get e1 (hc b e2) fun hf => ?_
  have := (I.stack.mem hf).1
  rw [e] at this; cases this
theorem Inv.env0L (I : Inv X pins σ H s) (hc : ∀ b, H b = none → Hc b = none) (hok : HOk X.prog X.w Hc s.heap) : Env0 X.prog X.w X.K X.mg (L2.baseL s.heap Hc X.stack) X.A X.stack s Hc := by
  refine ⟨I.ok.frames, I.ok.mod.keeps (I.baseL hc), fun b o e => ⟨(of_baseL e).1, (of_baseL e).2.1⟩, ?_, ?_, fun b hb => hc b (I.stkFree b hb), hok, I.bare⟩
  · unfold L2.baseL
    rw [PySem.W.hideAll_size]
    exact Nat.le_refl _
  · refine PySem.W.funFrames_hide I.stack fun env he a ha => List.mem_append_right _ ?_
    exact List.mem_filterMap.mpr ⟨env, he, ha⟩
end
/-! ### a table of code and its code are set aside, and taken back -/
def aside (Pt c : Addr) (H : Hp) : Hp := fun b => if b = Pt ∨ c = b then none else H b
def takeBack (Pt c : Addr) (ps : Array Value) (H : Hp) : Hp := fun b => if b = Pt then some (.tbl ps) else if b = c then some (.own Pt) else H b
/-- data: no table, not owned -/
def IsDat : HO → Prop
  | .own _ => False
  | .tbl _ => False
  | _ => True
section
variable {P : Program} {w : World} {H H3 : Hp} {h h' : Heap} {Pt c : Addr} {ps : Array Value} {fs : List Addr} {oc : Obj} {us : Array Value} {q : Str} {t u : Tok}
theorem aside_dat {b : Addr} {o : HO} (hP : H Pt = some (.tbl ps)) (hc : H c = some (.own Pt)) (e : H b = some o) (d : IsDat o) : aside Pt c H b = some o := by
  unfold aside
  rw [if_neg]
  · exact e
  · rintro (rfl | rfl)
    · rw [hP] at e; cases e; exact d
    · rw [hc] at e; cases e; exact d
theorem aside_none {b : Addr} (e : H b = none) : aside Pt c H b = none := by
  unfold aside
  split
  · rfl
  · exact e
theorem aside_some {b : Addr} {o : HO} (e : aside Pt c H b = some o) : H b = some o ∧ b ≠ Pt ∧ b ≠ c := by
  unfold aside at e
  split at e
  · cases e
  · rename_i z
    exact ⟨e, fun y => z (.inl y), fun y => z (.inr y.symm)⟩
theorem aside_ok (ok : HOk P w H h) (hP : H Pt = some (.tbl ps)) (hc : H c = some (.own Pt)) : HOk P w (aside Pt c H) h := fun b o e => by
  obtain ⟨e1, n1, n2⟩ := aside_some e
  refine (ok b o e1).stay (fun _ _ _ z => z) (fun x hx => ?_) fun x xs hx => aside_dat hP hc hx trivial
  have z1 : x ≠ Pt := fun z => by rw [z, hP] at hx; cases hx
  have z2 : c ≠ x := fun z => by rw [← z, hc] at hx; cases hx; exact n1 rfl
  unfold aside
  rw [if_neg (by rintro (z | z); exact z1 z; exact z2 z)]
  exact hx
theorem takeBack_un (hP : H Pt = some (.tbl ps)) (hc : H c = some (.own Pt)) (un : Un fs [] (aside Pt c H) H3 h h') (nP : Pt ∉ fs) (nc : c ∉ fs) : Un fs [] H (takeBack Pt c ps H3) h h' := by
  have old : ∀ {b : Addr}, b ≠ Pt → b ≠ c → takeBack Pt c ps H3 b = H3 b := fun {b} n1 n2 => by unfold takeBack; rw [if_neg n1, if_neg n2]
  have nn : ∀ {b : Addr}, H b = none → b ≠ Pt ∧ b ≠ c := fun {b} e => ⟨(fun z => by rw [z, hP] at e; cases e), (fun z => by rw [z, hc] at e; cases e)⟩
  refine ⟨fun b o hb n nf nx => un.keep b o hb (aside_none n) nf nx, fun b o hb n hf nx => un.slot b o hb (aside_none n) hf nx, fun b o hb n nx => ?_, fun b o hb nx => un.there b o hb nx, fun b xs z => ?_, fun b o u z => ?_, fun b qs z => ?_⟩
  · rw [old (nn n).1 (nn n).2]
    exact un.free b o hb (aside_none n) nx
  · have y := un.tups b xs (aside_dat hP hc z trivial)
    rw [old (fun e => by rw [e, hP] at z; cases z) (fun e => by rw [e, hc] at z; cases z)]
    exact y
  · have y := un.frzs b o u (aside_dat hP hc z trivial)
    rw [old (fun e => by rw [e, hP] at z; cases z) (fun e => by rw [e, hc] at z; cases z)]
    exact y
  · by_cases e : b = Pt
    · subst e
      rw [hP] at z
      cases z
      exact ⟨#[], by unfold takeBack; rw [if_pos rfl]; simp⟩
    · have n2 : c ≠ b := fun y => by rw [← y, hc] at z; cases z
      have za : aside Pt c H b = some (.tbl qs) := by
        unfold aside
        rw [if_neg (by rintro (y | y); exact e y; exact n2 y)]
        exact z
      obtain ⟨m, y⟩ := un.tbls b qs za
      exact ⟨m, by rw [old e (Ne.symm n2)]; exact y⟩
theorem takeBack_ok (hP : H Pt = some (.tbl ps)) (hc : H c = some (.own Pt)) (un : Un fs [] (aside Pt c H) H3 h h') (nP : Pt ∉ fs) (nc : c ∉ fs) (ok : HOk P w H3 h') (ePc : Pt ≠ c)
    (hPt : h.get? Pt = some { cls := .none, data := .fields #[ps.getD 0 .none, ps.getD 1 .none, .ref c] }) (hq : ps.getD 2 .none = .str q u) (hco : h.get? c = some oc) (hcd : oc.data = .fields us) (hcq : us[1]? = some (.str q t)) : HOk P w (takeBack Pt c ps H3) h' := by
  have aP : aside Pt c H Pt = none := by unfold aside; rw [if_pos (.inl rfl)]
  have ac : aside Pt c H c = none := by unfold aside; rw [if_pos (.inr rfl)]
  have hPt' := un.keep Pt _ hPt aP nP (by simp)
  have hco' := un.keep c _ hco ac nc (by simp)
  have fP := un.free Pt _ hPt aP (by simp)
  have fc := un.free c _ hco ac (by simp)
  have tc : takeBack Pt c ps H3 c = some (.own Pt) := by unfold takeBack; rw [if_neg (Ne.symm ePc), if_pos rfl]
  have old : ∀ {b : Addr}, b ≠ Pt → b ≠ c → takeBack Pt c ps H3 b = H3 b := fun {b} n1 n2 => by unfold takeBack; rw [if_neg n1, if_neg n2]
  intro b o e
  by_cases e1 : b = Pt
  · subst e1
    have : o = .tbl ps := by unfold takeBack at e; rw [if_pos rfl] at e; exact (Option.some.inj e).symm
    subst this
    exact ⟨_, hPt', .inr ⟨c, rfl, tc, oc, us, q, t, u, hq, hco', hcd, hcq⟩⟩
  · by_cases e2 : b = c
    · subst e2
      rw [tc] at e
      cases e
      exact ⟨oc, hco'⟩
    · rw [old e1 e2] at e
      refine (ok b o e).stay (fun _ _ _ z => z) (fun x hx => ?_) fun x xs hx => ?_
      · rw [old (fun z => by rw [z, fP] at hx; cases hx) (fun z => by rw [z, fc] at hx; cases hx)]
        exact hx
      · rw [old (fun z => by rw [z, fP] at hx; cases hx) (fun z => by rw [z, fc] at hx; cases hx)]
        exact hx
end
end L2

namespace L2
open PySem PySem.Spec PyProof.Rows
/-- the module of the built-in names, as the text's own module has it -/
def BmIn (base : Heap) (mg : Str → Option Value) : Prop := ∃ (bm : Addr) (ob : Obj), mg "__builtins__" = some (.ref bm) ∧ bm ≠ builtinsNs ∧ base.get? bm = some ob ∧ ob.cls = .type "module" ∧ ob.dict = some builtinsNs ∧ ob.data = .plain
abbrev encT (lpos : Pos) (qual : Str) : Array Value := #[rawInt lpos.line, rawInt lpos.col, .str qual 0]
section
variable {X : Cx} {pins : List (Addr × Obj)} {σ : St} {H : Hp} {s : Shared} {cc Pt : Addr} {params : Arguments} {body : Expr} {lsc : Scope} {lpos : Pos} {clos : List (Str × Addr)} {qual : Str} {Q : Value → Shared → Prop} {E : Value → Shared → Prop}
theorem lam_make (I : Inv X pins σ H s) (bmK : BmIn X.base X.mg) (hcode : X.env.code = .ref cc) (hhd : PySem.W.codeHdIn X.K cc Pt = true) (hdef : defaultsOf params X.env = ([], [])) (hcl : closureFor lsc X.env = pure clos) (hqual : X.env.qual ++ "<lambda>" = qual)
    (hP : H Pt = some (.tbl (encT lpos qual)))
    (h : ∀ (f c : Addr) (pm ctv : Value) (h' : Heap) (tk : Nat) (H1 : Hp) (oc : Obj) (us : Array Value) (t : Tok), Inv X pins σ H1 { s with heap := h', toks := tk } → (∀ b o, H b = some o → H1 b = some o) → H1 c = some (.own Pt) → H1 f = none → (∀ b o, s.heap.get? b = some o → b ≠ Pt → h'.get? b = some o) →
      h'.get? f = some (PySem.W.kla_obj "<lambda>" qual params body lsc clos pm c ctv) → f ∉ frs X.stack → h'.get? Pt = some { cls := .none, data := .fields #[rawInt lpos.line, rawInt lpos.col, .ref c] } → h'.get? c = some oc → oc.data = .fields us → us[1]? = some (.str qual t) → c ∉ frs X.stack → f ≠ Pt → f ≠ c → Q (.ref f) { s with heap := h', toks := tk }) :
    wpAny (model X.prog X.w) X.A (eval (.Lambda params body lsc lpos) X.env) Q E s := by
  have C : PySem.W.CodeHd s.heap cc Pt := PySem.W.codeHd_of_K I.kIn hhd
  have hg := I.mod.glob.keeps I.bk
  obtain ⟨qs, hqs, hor⟩ := (show ObjOk X.prog X.w H s.heap Pt (.tbl (encT lpos qual)) from I.hok Pt _ hP)
  have hgP : mainGlobals ≠ Pt := fun z => by
    obtain ⟨o, es, ep, e, hd, _⟩ := hg
    rw [z, hqs] at e; cases e; cases hd
  obtain ⟨bm, ob, b1, b2, b3, b4, b5, b6⟩ := bmK
  have hob := I.bk _ _ b3
  have hB : s.heap.BuiltinsAt X.mg Pt := by
    refine ⟨bm, ob, b1, b2, fun z => ?_, fun z => ?_, hob, b4, b5, b6⟩
    · obtain ⟨o, es, ep, e, hd, _⟩ := hg
      rw [z, e] at hob; cases hob; rw [hd] at b6; cases b6
    · rw [z, hqs] at hob; cases hob; cases b4
  have nfr : ∀ b ∈ frs X.stack, H b = none ∧ b < s.heap.objs.size := fun b hb => ⟨I.stkFree b hb, let ⟨_, o, ho, _⟩ := I.stack.mem hb; Heap.lt_size ho⟩
  refine PySem.W.kla_eval hdef ?_
  rw [hqual]
  rcases hor with rfl | ⟨c, rfl, hc, oc, us, q, t, u, hq, hco, hcd, hcq⟩
  · refine PySem.W.kla_makeFunction (ps := #[]) hcl I.ok.glob hg hcode C hqs trivial rfl hgP hB fun c ctv h' tk hx hge hlt hrec htb => ?_
    obtain ⟨c2, oc, us, t, e2, hoc, hcd, hcq⟩ := hrec
    cases e2
    have Hc : H c = none := I.hok.fresh hge
    have hf : (h'.push (PySem.W.kla_obj "<lambda>" qual params body lsc clos ((X.mg "__name__").getD .none) c ctv)).get? h'.objs.size = some (PySem.W.kla_obj "<lambda>" qual params body lsc clos ((X.mg "__name__").getD .none) c ctv) := Heap.get?_push_size _ rfl
    have kp : ∀ b o, s.heap.get? b = some o → b ≠ Pt → (h'.push (PySem.W.kla_obj "<lambda>" qual params body lsc clos ((X.mg "__name__").getD .none) c ctv)).get? b = some o := fun b o e n => Heap.get?_push_of_some _ (hx b o n e)
    have ncP : c ≠ Pt := fun z => by rw [z, hP] at Hc; cases Hc
    have htb' := Heap.get?_push_of_some (PySem.W.kla_obj "<lambda>" qual params body lsc clos ((X.mg "__name__").getD .none) c ctv) htb
    have hoc' := Heap.get?_push_of_some (PySem.W.kla_obj "<lambda>" qual params body lsc clos ((X.mg "__name__").getD .none) c ctv) hoc
    have hPt : ∀ {b : Addr}, H b = none → b ≠ Pt := fun {b} e z => by rw [z, hP] at e; cases e
    have un : Un (frs X.stack) [] H (upd H c (.own Pt)) s.heap (h'.push (PySem.W.kla_obj "<lambda>" qual params body lsc clos ((X.mg "__name__").getD .none) c ctv)) := by
      have nb : ∀ {b : Addr} {o : HO}, H b = some o → b ≠ c := fun {b o} e z => by rw [z, Hc] at e; cases e
      refine ⟨fun b o hb n _ _ => kp b o hb (hPt n), fun b o hb n _ _ => ⟨o.slots, kp b o hb (hPt n)⟩, fun b o hb n _ => ?_, fun b o hb _ => ?_, fun b xs z => by rw [upd_ne (nb z)]; exact z, fun b o u z => by rw [upd_ne (nb z)]; exact z, fun b ps z => ⟨#[], by rw [upd_ne (nb z), z]; simp⟩⟩
      · rw [upd_ne (Nat.ne_of_lt (Nat.lt_of_lt_of_le (Heap.lt_size hb) hge))]
        exact n
      · by_cases e : b = Pt
        · rw [e]; exact ⟨_, htb'⟩
        · exact ⟨o, kp b o hb e⟩
    have ok : HOk X.prog X.w (upd H c (.own Pt)) (h'.push (PySem.W.kla_obj "<lambda>" qual params body lsc clos ((X.mg "__name__").getD .none) c ctv)) := by
      intro b o e
      by_cases e1 : b = c
      · subst e1
        rw [upd_same] at e
        cases e
        exact ⟨_, hoc'⟩
      · rw [upd_ne e1] at e
        by_cases e2 : b = Pt
        · subst e2
          rw [hP] at e
          cases e
          exact ⟨_, htb', .inr ⟨c, rfl, upd_same, oc, us, qual, t, 0, rfl, hoc', hcd, hcq⟩⟩
        · refine (I.hok b o e).stay (fun x u hmx hu => kp x u hu ?_) (fun x hx => ?_) fun x xs hx => ?_
          · rcases hmx with rfl | hmx
            · exact e2
            · rintro rfl; rw [hP] at hmx; cases hmx
          · rw [upd_ne (fun z => by rw [z, Hc] at hx; cases hx)]; exact hx
          · rw [upd_ne (fun z => by rw [z, Hc] at hx; cases hx)]; exact hx
    have J : Inv X pins σ (upd H c (.own Pt)) { s with heap := h'.push (PySem.W.kla_obj "<lambda>" qual params body lsc clos ((X.mg "__name__").getD .none) c ctv), toks := tk } := I.call' (ch := []) rfl un ok I.bare fun b z => absurd z (by simp)
    have szf : s.heap.objs.size ≤ h'.objs.size := Nat.le_of_lt (Nat.lt_of_le_of_lt hge hlt)
    refine h h'.objs.size c _ ctv _ tk _ oc us t J (fun b o e => by rw [upd_ne (fun z => by rw [z, Hc] at e; cases e)]; exact e) upd_same ?_ kp hf (fun hm => ?_) htb' hoc' hcd hcq (fun hm => ?_) ?_ (Nat.ne_of_gt hlt)
    · rw [upd_ne (Nat.ne_of_gt hlt)]
      exact I.hok.fresh szf
    · exact absurd (nfr _ hm).2 (Nat.not_lt.mpr szf)
    · exact absurd (nfr _ hm).2 (Nat.not_lt.mpr hge)
    · exact fun z => by have := Heap.lt_size hqs; rw [← z] at this; exact absurd this (Nat.not_lt.mpr szf)
  · obtain ⟨rfl, rfl⟩ : q = qual ∧ u = 0 := by
      have : Value.str qual 0 = .str q u := hq
      cases this
      exact ⟨rfl, rfl⟩
    refine PySem.W.kla_makeFunctionHit (ps := #[rawInt lpos.line, rawInt lpos.col, .ref c]) (cv := .ref c) hcl I.ok.glob hg hcode C hqs trivial (codeAmong_snoc (pos := lpos) (c := .ref c) [] trivial rfl) hB fun ctv h' tk hk hsz => ?_
    have kp : ∀ b o, s.heap.get? b = some o → (h'.push { cls := .type "function", data := .func (PySem.W.kla_fn "<lambda>" q params body lsc clos ((X.mg "__name__").getD .none) (.ref c) ctv) }).get? b = some o := fun b o e => Heap.get?_push_of_some _ (hk b o e)
    have J : Inv X pins σ H { s with heap := h'.push { cls := .type "function", data := .func (PySem.W.kla_fn "<lambda>" q params body lsc clos ((X.mg "__name__").getD .none) (.ref c) ctv) }, toks := tk } := I.kept (t' := tk) kp
    refine h h'.objs.size c _ ctv _ tk H oc us t J (fun b o e => e) hc (I.hok.fresh hsz) (fun b o e _ => kp b o e) (Heap.get?_push_size _ rfl) (fun hm => ?_) (kp _ _ hqs) (kp _ _ hco) hcd hcq (fun hm => ?_) ?_ ?_
    · exact absurd (nfr _ hm).2 (Nat.not_lt.mpr hsz)
    · rw [(nfr _ hm).1] at hc; cases hc
    · exact fun z => by have := Heap.lt_size hqs; rw [← z] at this; exact absurd this (Nat.not_lt.mpr hsz)
    · exact fun z => by have := Heap.lt_size hco; rw [← z] at this; exact absurd this (Nat.not_lt.mpr hsz)
end
end L2

namespace L2
open PySem PySem.Spec PyProof.Rows
/-- a lambda that lies in the base -/
structure LamIn (base : Heap) (f : Addr) (qual : Str) (params : Arguments) (body : Expr) (lsc : Scope) (N : List Str) (fvs : List (Option V)) : Prop where
  ex : ∃ (clos : List (Str × Addr)) (pm : Value) (c : Addr) (ctv : Value), base.get? f = some (PySem.W.kla_obj "<lambda>" qual params body lsc clos pm c ctv) ∧ base.CodeRec (.ref c) qual ∧ (∀ y z b, clos.lookup y = some b → clos.lookup z = some b → y = z) ∧
    (∀ y, lsc.names.lookup y = some .free → ∃ b, clos.lookup y = some b) ∧ (∀ y b, clos.lookup y = some b → ∃ z, base.IsCell b z) ∧ FreeVals base N lsc clos fvs
/-- a function of the base, with its promise -/
def FnIn (P : Program) (w : World) (K : PySem.W.Frag) (mg : Str → Option Value) (base : Heap) (k : Nat) (f : Addr) (sp : Sp) : Prop := ∃ fd ps, FnOk P w K mg base CX0 k f fd ps sp ∧ PySem.W.FnAt f base ∧ Binds K fd ps []
/-- a lambda promises what its body reads as -/
@[reducible] def spLam (tl : TE) (fvs : List (Option V)) : Sp := fun vs H Q _ => ∃ v, vs = [v] ∧ tl (some v :: fvs) H Q
/-- what is fixed about a lambda -/
structure LamSt (K : PySem.W.Frag) (qual x : Str) (params : Arguments) (body : Expr) (lsc : Scope) (js : List (Str × Option Nat)) : Prop where
  kind : lsc.kind = .function
  co : lsc.isCoroutine = false
  gen : lsc.isGenerator = false
  nd : (x :: js.map (·.1)).Nodup
  par : ParOk x lsc
  binds : ∀ (clos : List (Str × Addr)) (pm : Value) (c : Addr) (ctv : Value), Binds K (PySem.W.kla_fn "<lambda>" qual params body lsc clos pm (.ref c) ctv) [x] []
theorem LamIn.fn {P : Program} {w : World} {K : PySem.W.Frag} {mg : Str → Option Value} {base : Heap} {k : Nat} {f : Addr} {qual x : Str} {params : Arguments} {body : Expr} {lsc : Scope} {js : List (Str × Option Nat)} {fvs : List (Option V)} {tl : TE} (L : LamIn base f qual params body lsc (x :: js.map (·.1)) fvs)
    (S : LamSt K qual x params body lsc js)
    (hbody : ∀ (clos : List (Str × Addr)) (c : Addr) (A : Around) (outer : List Env) (s : Shared) (H : Hp), Room k (A.deeper (PySem.W.envX qual lsc s.heap.objs.size f (.ref c) clos)) → PE (cxL P w K mg base (x :: js.map (·.1)) qual lsc f (.ref c) clos A outer s H) body tl) :
    FnIn P w K mg base (k + 1) f (spLam tl fvs) := by
  obtain ⟨clos, pm, c, ctv, h1, h2, h3, h4, h5, h6⟩ := L.ex
  refine ⟨_, _, lam_of h1 h2 ⟨S.kind, S.co, S.gen, S.nd, rfl, S.par, h3, h4⟩ h5 h6 (fun vs H Q E q => ?_) fun cl' A outer s H v Q E hr q => ⟨tl, hbody cl' c A outer s H hr, ?_⟩, ⟨_, _, _, _, h1⟩, S.binds clos pm c ctv⟩
  · obtain ⟨v, rfl, _⟩ := q
    rfl
  · obtain ⟨v', e, q⟩ := q
    cases e
    exact q
def fvsOf (js : List (Str × Option Nat)) (σ : St) : List (Option V) := js.map fun p => p.2.bind fun j => (σ[j]?).join
/-- a def of the text over any greater base -/
def FnA (P : Program) (w : World) (K : PySem.W.Frag) (mg : Str → Option Value) (base : Heap) (x : Str) (k : Nat) (ps : List Str) (spc : Heap → Sp) : Prop := ∀ base' : Heap, (∀ b o, base.get? b = some o → base'.get? b = some o) → Fn P w K mg base' x k ps (spc base')
/-- what a body's place must have for a lambda -/
structure LamAt (X : Cx) (cc Pt : Addr) (qual : Str) (params : Arguments) (lsc : Scope) (js : List (Str × Option Nat)) : Prop where
  bm : BmIn X.base X.mg
  code : X.env.code = .ref cc
  hd : PySem.W.codeHdIn X.K cc Pt = true
  defs : defaultsOf params X.env = ([], [])
  qual : X.env.qual ++ "<lambda>" = qual
  fr : ∀ y ∈ lsc.names, y.2 = .free → X.env.kindOf y.1 = some .cell ∨ X.env.kindOf y.1 = some .free
  js : ∀ p ∈ js, ∀ j, p.2 = some j → X.N[j]? = some p.1 ∧ lsc.names.lookup p.1 = some .free
@[reducible] def tFnLam (P : Program) (w : World) (K : PySem.W.Frag) (mg : Str → Option Value) (kl : Nat) (spc : Heap → Sp) (te tl : TE) (js : List (Str × Option Nat)) (Pt : Addr) (enc : Array Value) : TE := fun σ H Q => te σ H fun v1 H1 => H1 Pt = some (.tbl enc) ∧
  ∀ (f : Addr) (base' : Heap) (Hc : Hp), (∀ b o, H1 b = some o → IsDat o → Hc b = some o) → FnIn P w K mg base' kl f (spLam tl (fvsOf js σ)) →
    spc base' [v1, .ref f] Hc (fun v H3 => (∀ b o, Hc b = some o → H3 b = some o) ∧ ∀ H4, (∀ b o, H1 b = some o → H4 b = some o) → (∀ b o, H3 b = some o → H4 b = some o) → Q v H4) E0
section
variable {X : Cx} {cc Pt : Addr} {g qual x : Str} {params : Arguments} {body e : Expr} {lsc : Scope} {js : List (Str × Option Nat)} {lpos p pos : Pos} {k kl : Nat} {ps : List Str} {spc : Heap → Sp} {te tl : TE}
theorem pe_fnLam (F : FnA X.prog X.w X.K X.mg X.base g k ps spc) (hr : Room k X.A) (hg : Gl X g) (S : LamSt X.K qual x params body lsc js) (L : LamAt X cc Pt qual params lsc js) (he : PE X e te)
    (hl : ∀ (base : Heap), (∀ b o, X.base.get? b = some o → base.get? b = some o) → ∀ (clos : List (Str × Addr)) (f c : Addr) (A : Around) (outer : List Env) (s : Shared) (H : Hp), Room kl (A.deeper (PySem.W.envX qual lsc s.heap.objs.size f (.ref c) clos)) → PE (cxL X.prog X.w X.K X.mg base (x :: js.map (·.1)) qual lsc f (.ref c) clos A outer s H) body tl)
    (hst : notStar e = true := by rfl) (hdb : (g == ("__debug__" : Str)) = false := by decide) :
    PE X (.Call (.Name g p) [e, .Lambda params body lsc lpos] [] pos) (tFnLam X.prog X.w X.K X.mg (kl + 1) spc te tl js Pt (encT lpos qual)) := by
  intro pins s σ H Q I h
  obtain ⟨fl, fd0, _, hm, hk, _⟩ := (F X.base fun _ _ z => z).ex
  refine wpAny_Call_Name_kw (ld_glob I hg hm ?_ hdb)
  refine PySem.W.callWith_K (h₀ := X.base) I.ok.mod.kin hk ?_ (star_plain hst) (any_plain rfl)
  rw [star_plain hst]
  show wpAny _ _ (spliced ((false, eval e X.env) :: backTo pos (starEach [.Lambda params body lsc lpos] X.env))) _ _ s
  refine Calls.spliced_cons (thn (he pins s σ H _ I h) fun u s1 ⟨v1, H1, I1, r1, hP, q1⟩ => ?_)
  rw [star_plain (e := .Lambda params body lsc lpos) rfl]
  show wpAny _ _ (spliced ((false, eval (.Lambda params body lsc lpos) X.env) :: backTo pos (starEach [] X.env))) _ _ s1
  refine Calls.spliced_cons ?_
  have hfree : ∀ y ∈ lsc.names, y.2 = .free → ∃ b, X.env.cells.lookup y.1 = some b := fun y hy ey => I1.ok.has _ (L.fr y hy ey)
  have clo : ∀ {y : Str} {b : Addr}, (cloFrom X.env.cells lsc.names []).lookup y = some b → X.env.cells.lookup y = some b := fun {y b} hy => by
    rcases cloFrom_mem (PySem.mem_of_lookup hy) with z | ⟨z, rfl⟩
    · cases z
    · obtain ⟨b', hb'⟩ := hfree _ z rfl
      rw [show X.env.cells.lookup y = some b' from hb']
      rfl
  refine lam_make (body := body) (lpos := lpos) I1 L.bm L.code L.hd L.defs (closure_ok hfree) L.qual hP fun f c pm ctv h' tk H2 oc us t J hsame hcown hfn hkp hf hff hPt hco hcd hcq hcf hfP hfc => ?_
  refine Calls.spliced_nil ?_
  have hP2 : H2 Pt = some (.tbl (encT lpos qual)) := hsame _ _ hP
  have ePc : Pt ≠ c := fun z => by rw [z, hcown] at hP2; cases hP2
  have hok := aside_ok J.hok hP2 hcown
  have hno : ∀ b, H2 b = none → aside Pt c H2 b = none := fun b e => aside_none e
  have acP : aside Pt c H2 Pt = none := by unfold aside; rw [if_pos (.inl rfl)]
  have acc : aside Pt c H2 c = none := by unfold aside; rw [if_pos (.inr rfl)]
  have sub := J.baseL hno
  have e0 := J.env0L hno hok
  have cellIn : ∀ {y : Str} {b : Addr}, X.env.cells.lookup y = some b → ∀ {z : Option Value}, h'.IsCell b z → (baseL h' (aside Pt c H2) X.stack).IsCell b z := fun {y b} hy {z} ⟨o, ho, r⟩ =>
    ⟨o, baseL_get ho (hno b (J.freeC y b hy)) (J.cnfS y b hy), r⟩
  have LI : LamIn (baseL h' (aside Pt c H2) X.stack) f qual params body lsc (x :: js.map (·.1)) (fvsOf js σ) := by
    refine ⟨cloFrom X.env.cells lsc.names [], pm, c, ctv, baseL_get hf (hno f hfn) hff, ⟨c, oc, us, t, rfl, baseL_get hco acc hcf, hcd, hcq⟩, fun y z b h1 h2 => J.ok.inj y z b (clo h1) (clo h2), fun y hy => ?_, fun y b hy => ?_, ?_, ?_⟩
    · exact mem_lookup (cloFrom_has (PySem.mem_of_lookup hy))
    · obtain ⟨z, hz⟩ := J.cell y b (clo hy)
      exact ⟨z, cellIn (clo hy) hz⟩
    · simp [fvsOf]
    · intro i y v hy hv
      unfold fvsOf at hv
      rw [List.getElem?_map] at hv
      rw [List.getElem?_cons_succ, List.getElem?_map] at hy
      cases ep : js[i]? with
      | none => rw [ep] at hv; cases hv
      | some pr =>
        rw [ep] at hv hy
        have hy : pr.1 = y := Option.some.inj hy
        subst hy
        have hv : (pr.2.bind fun j => (σ[j]?).join) = some v := Option.some.inj hv
        cases ej : pr.2 with
        | none => rw [ej] at hv; cases hv
        | some j =>
          rw [ej] at hv
          have hv : (σ[j]?).join = some v := hv
          have hv : σ[j]? = some (some v) := by
            cases es : σ[j]? with
            | none => rw [es] at hv; cases hv
            | some o => rw [es] at hv; exact congrArg some hv
          obtain ⟨hN, hfr⟩ := L.js pr (List.mem_of_getElem? ep) j ej
          refine ⟨hfr, ?_⟩
          have hkd := L.fr (pr.1, .free) (PySem.mem_of_lookup hfr) rfl
          obtain ⟨m, _, hlook⟩ := J.loc
          obtain ⟨u', ru, lk⟩ := hlook j pr.1 v hN hv (.inr (by rcases hkd with z | z; exact .inl z; exact .inr z))
          rcases lk with ⟨z, _⟩ | ⟨_, b, hb, hcell⟩
          · rcases hkd with y | y
            · rw [show X.env.kindOf pr.1 = some .cell from y] at z; cases z
            · rw [show X.env.kindOf pr.1 = some .free from y] at z; cases z
          · obtain ⟨b', hb'⟩ := mem_lookup (cloFrom_has (cells := X.env.cells) (acc := []) (PySem.mem_of_lookup hfr))
            have eb := clo hb'
            rw [hb] at eb
            cases eb
            exact ⟨b, u', hb', ru, cellIn hb hcell⟩
  have FI := LI.fn (P := X.prog) (w := X.w) (mg := X.mg) (k := kl) (tl := tl) S fun clos c A outer s H hR => hl _ sub clos f c A outer s H hR
  have q2 := q1 f _ (aside Pt c H2) (fun b o e d => aside_dat hP2 hcown (hsame b o e) d) FI
  refine ⟨J.kIn, ?_⟩
  obtain ⟨f', fd, G, hm', _, hb⟩ := (F _ sub).ex
  obtain rfl : f' = fl := by rw [hm] at hm'; cases hm'; rfl
  have r2 : Vals [v1, .ref f] [u, Value.ref f] := .cons r1 (.cons rfl .nil)
  refine wpAny_call (codeAny_mono (G.run X.A X.stack _ (aside Pt c H2) ⟨[u, .ref f], []⟩ [u, .ref f] [v1, .ref f] _ E0 hr e0 ?_ r2 q2) fun r s' hq => ?_)
  · have := hb { s1 with heap := h', toks := tk } [u, .ref f] J.kIn (by have := G.len _ _ _ _ q2; simpa using this)
    simpa using this
  cases r with
  | error e => exact False.elim hq
  | ok fl =>
    cases fl with
    | ret u =>
      obtain ⟨v, H3, os, bare, un, hok3, rv, hs3, q3⟩ := hq
      have nP : Pt ∉ frs X.stack := fun z => by rw [J.stkFree _ z] at hP2; cases hP2
      refine J.after ⟨v, takeBack Pt c (encT lpos qual) H3, os, bare, takeBack_un hP2 hcown un nP hcf, takeBack_ok hP2 hcown un nP hcf hok3 ePc hPt rfl hco hcd hcq, rv, q3 _ (fun b o e => ?_) fun b o e => ?_⟩
      · unfold takeBack
        by_cases e1 : b = Pt
        · subst e1; rw [if_pos rfl, ← hP]; exact e
        · rw [if_neg e1]
          by_cases e2 : b = c
          · subst e2; rw [if_pos rfl, ← hcown]; exact hsame _ _ e
          · rw [if_neg e2]
            refine hs3 b o ?_
            unfold aside
            rw [if_neg (by rintro (z | z); exact e1 z; exact e2 z.symm)]
            exact hsame _ _ e
      · have fP := un.free Pt _ hPt acP (by simp)
        have fc := un.free c _ hco acc (by simp)
        unfold takeBack
        rw [if_neg (fun z => by rw [z, fP] at e; cases e), if_neg (fun z => by rw [z, fc] at e; cases e)]
        exact e
    | next => exact False.elim hq
    | brk => exact False.elim hq
    | cont => exact False.elim hq
end
end L2

namespace L2
open PySem PySem.Spec PyProof.Rows
/-! ### steps_from: all that is reached -/
inductive Reach {α : Type} (nx : α → List α) (a : α) : α → Prop
  | refl : Reach nx a a
  | step {b c : α} : Reach nx a b → c ∈ nx b → Reach nx a c
theorem snoc_cases {α : Type} (l : List α) : l = [] ∨ ∃ r k, l = r ++ [k] := by
  rcases List.eq_nil_or_concat l with h | ⟨r, k, h⟩
  · exact .inl h
  · exact .inr ⟨r, k, by rw [h, List.concat_eq_append]⟩
structure StI (U : List Key) (m : Nat) (nx : Key → List Key) (k0 : Key) (H0 : Hp) (d wl : Addr) (n : Nat) (kvs : List (Key × V)) (ws : List Key) (H : Hp) : Prop where
  hd : H d = some (.dK kvs)
  hw : H wl = some (.lst (ws.map kV))
  nd0 : H0 d = none
  nw0 : H0 wl = none
  same : Same H0 H
  nodup : (kvs.map (·.1)).Nodup
  sub : ∀ k ∈ kvs.map (·.1), k ∈ U
  subw : ∀ k ∈ ws, k ∈ U
  rk : ∀ k ∈ kvs.map (·.1), Reach nx k0 k
  rw : ∀ k ∈ ws, Reach nx k0 k
  cl : ∀ k ∈ kvs.map (·.1), ∀ j ∈ nx k, j ∈ kvs.map (·.1) ∨ j ∈ ws
  st : k0 ∈ kvs.map (·.1) ∨ k0 ∈ ws
  len : ws.length ≤ 1 + kvs.length * m
  mu : n = (U.length - kvs.length) * (m + 1) + ws.length
section
variable {U : List Key} {m : Nat} {nx : Key → List Key} {k0 k : Key} {H0 H H' H2 : Hp} {d wl L : Addr} {n : Nat} {kvs : List (Key × V)} {ws : List Key} {v : V}
theorem StI.ne (I : StI U m nx k0 H0 d wl n kvs ws H) : d ≠ wl := fun z => by
  have h1 := I.hd
  rw [z, I.hw] at h1; cases h1
theorem StI.init (hU : k0 ∈ U) (h1 : H0 d = none) (h2 : H0 wl = none) (hd : H d = some (.dK [])) (hw : H wl = some (.lst [kV k0])) (s : Same H0 H) : StI U m nx k0 H0 d wl (U.length * (m + 1) + 1) [] [k0] H where
  hd := hd
  hw := hw
  nd0 := h1
  nw0 := h2
  same := s
  nodup := by simp
  sub := by simp
  subw := by simpa using hU
  rk := by simp
  rw := by
    intro k hk
    rw [List.mem_singleton.mp hk]
    exact .refl
  cl := by simp
  st := by simp
  len := by simp
  mu := by simp
theorem StI.old (I : StI U m nx k0 H0 d wl n kvs (ws ++ [k]) H) (h : (valV kvs k).isSome = true) : StI U m nx k0 H0 d wl ((U.length - kvs.length) * (m + 1) + ws.length) kvs ws (upd H wl (.lst (ws.map kV))) := by
  have hk : k ∈ kvs.map (·.1) := by
    obtain ⟨v, e⟩ := Option.isSome_iff_exists.mp h
    exact valV_in e
  have lf : ∀ {j : Key}, j ∈ ws ++ [k] → j ∈ kvs.map (·.1) ∨ j ∈ ws := fun {j} hj => by
    rcases List.mem_append.mp hj with z | z
    · exact .inr z
    · rw [List.mem_singleton.mp z]; exact .inl hk
  refine ⟨by rw [upd_ne I.ne]; exact I.hd, upd_same, I.nd0, I.nw0, I.same.put I.nw0, I.nodup, I.sub, fun j hj => I.subw j (List.mem_append_left _ hj), I.rk, fun j hj => I.rw j (List.mem_append_left _ hj), fun j hj i hi => ?_, ?_, ?_, rfl⟩
  · rcases I.cl j hj i hi with z | z
    · exact .inl z
    · exact lf z
  · rcases I.st with z | z
    · exact .inl z
    · exact lf z
  · have := I.len
    rw [List.length_append] at this
    omega
theorem nodup_len {α : Type} [DecidableEq α] : ∀ {l U : List α}, l.Nodup → (∀ k ∈ l, k ∈ U) → l.length ≤ U.length
  | [], _, _, _ => Nat.zero_le _
  | a :: l, U, nd, h => by
    have ha : a ∈ U := h a List.mem_cons_self
    obtain ⟨n1, n2⟩ := List.nodup_cons.mp nd
    have z := nodup_len (l := l) (U := U.erase a) n2 fun k hk => (List.mem_erase_of_ne (fun (e : k = a) => n1 (e ▸ hk))).mpr (h k (List.mem_cons_of_mem _ hk))
    rw [List.length_erase_of_mem ha] at z
    have := List.length_pos_of_mem ha
    rw [List.length_cons]
    omega
theorem StI.new (I : StI U m nx k0 H0 d wl n kvs (ws ++ [k]) H) (h : valV kvs k = none) (cU : ∀ k ∈ U, ∀ j ∈ nx k, j ∈ U) (hm : (nx k).length ≤ m)
    (hd : H2 d = some (.dK (putK kvs k v))) (hw : H2 wl = some (.lst ((ws ++ nx k).map kV))) (s : Same H0 H2) :
    ∃ n', n' < n ∧ StI U m nx k0 H0 d wl n' (putK kvs k v) (ws ++ nx k) H2 := by
  have hkU := I.subw k (by simp)
  have hkR := I.rw k (by simp)
  have hkn : k ∉ kvs.map (·.1) := valV_not h
  have ek : (putK kvs k v).map (·.1) = kvs.map (·.1) ++ [k] := by rw [putK_new v h, List.map_append]; rfl
  have hl : (putK kvs k v).length = kvs.length + 1 := by rw [putK_new v h, List.length_append]; rfl
  have nd : ((putK kvs k v).map (·.1)).Nodup := by
    rw [ek, List.nodup_append]
    exact ⟨I.nodup, by simp, fun a ha b hb => by rw [List.mem_singleton.mp hb]; exact fun z => hkn (z ▸ ha)⟩
  have sub : ∀ j ∈ (putK kvs k v).map (·.1), j ∈ U := fun j hj => by
    rw [ek] at hj
    rcases List.mem_append.mp hj with z | z
    · exact I.sub j z
    · rw [List.mem_singleton.mp z]; exact hkU
  have cnt : kvs.length + 1 ≤ U.length := by
    have := nodup_len nd sub
    rw [List.length_map, hl] at this
    exact this
  have lf : ∀ {j : Key}, j ∈ ws ++ [k] → j ∈ (putK kvs k v).map (·.1) ∨ j ∈ ws ++ nx k := fun {j} hj => by
    rcases List.mem_append.mp hj with z | z
    · exact .inr (List.mem_append_left _ z)
    · rw [List.mem_singleton.mp z, ek]; exact .inl (by simp)
  have old : ∀ {j : Key}, j ∈ kvs.map (·.1) → j ∈ (putK kvs k v).map (·.1) := fun {j} hj => by rw [ek]; exact List.mem_append_left _ hj
  refine ⟨(U.length - (putK kvs k v).length) * (m + 1) + (ws ++ nx k).length, ?_, hd, hw, I.nd0, I.nw0, s, nd, sub, fun j hj => ?_, fun j hj => ?_, fun j hj => ?_, fun j hj i hi => ?_, ?_, ?_, rfl⟩
  · have hmu := I.mu
    rw [List.length_append] at hmu
    obtain ⟨q, hq⟩ : ∃ q, U.length = kvs.length + 1 + q := ⟨U.length - (kvs.length + 1), by omega⟩
    have e1 : U.length - kvs.length = q + 1 := by omega
    have e2 : U.length - (putK kvs k v).length = q := by rw [hl]; omega
    rw [e1, Nat.add_mul] at hmu
    rw [e2, List.length_append]
    simp only [List.length_singleton] at hmu
    omega
  · rcases List.mem_append.mp hj with z | z
    · exact I.subw j (List.mem_append_left _ z)
    · exact cU k hkU j z
  · rw [ek] at hj
    rcases List.mem_append.mp hj with z | z
    · exact I.rk j z
    · rw [List.mem_singleton.mp z]; exact hkR
  · rcases List.mem_append.mp hj with z | z
    · exact I.rw j (List.mem_append_left _ z)
    · exact .step hkR z
  · rw [ek] at hj
    rcases List.mem_append.mp hj with z | z
    · rcases I.cl j z i hi with y | y
      · exact .inl (old y)
      · exact lf y
    · rw [List.mem_singleton.mp z] at hi
      exact .inr (List.mem_append_right _ hi)
  · rcases I.st with z | z
    · exact .inl (old z)
    · exact lf z
  · have := I.len
    rw [List.length_append, List.length_singleton] at this
    rw [List.length_append, hl, Nat.add_mul]
    omega
theorem StI.fin (I : StI U m nx k0 H0 d wl n kvs [] H) : ∀ k, k ∈ kvs.map (·.1) ↔ Reach nx k0 k := fun k => by
  refine ⟨I.rk k, fun h => ?_⟩
  induction h with
  | refl => rcases I.st with z | z; exact z; cases z
  | step _ hc ih => rcases I.cl _ ih _ hc with z | z; exact z; cases z
end
end L2

namespace L2
open PySem PySem.Spec PyProof.Rows
/-- a def whose code object is known (it makes lambdas) -/
structure FunC (K : PySem.W.Frag) (x qual : Str) (st : Stmt) (f : Addr) (fd : FuncData) (cc Pt : Addr) : Prop where
  ex : ∃ (oc : Value) (od : Option Addr) (kV doc pm : Value) (an : Option Addr) (ct : Value) (osl : Array (Option Value)),
    fd = PySem.W.fnOf x qual (defArgs st) (defBody st) (defScope st) .none kV doc pm an (.ref cc) ct ∧ K.lookup f = some ⟨oc, od, .func fd, osl⟩ ∧ PySem.W.codeIn K (.ref cc) qual = true
  kp : PySem.W.keepIn K (.ref f) = true
  hd : PySem.W.codeHdIn K cc Pt = true
section
variable {P : Program} {w : World} {K : PySem.W.Frag} {mg : Str → Option Value} {base : Heap}
theorem FunC.plain {x qual : Str} {st : Stmt} {f : Addr} {fd : FuncData} {cc Pt : Addr} (F : FunC K x qual st f fd cc Pt) : Fun K x qual st f fd := by
  obtain ⟨oc, od, kV, doc, pm, an, ct, osl, h1, h2, h3⟩ := F.ex
  exact ⟨⟨oc, od, kV, doc, pm, an, _, ct, osl, h1, h2, h3⟩, F.kp⟩
theorem FunC.ok {x qual : Str} {st : Stmt} {f : Addr} {fd : FuncData} {cc Pt : Addr} {N ps : List Str} {k : Nat} {sp : Sp} (F : FunC K x qual st f fd cc Pt) (S : FnScope N ps (defScope st)) (len : ∀ vs H Q E, sp vs H Q E → vs.length = ps.length)
    (hbody : ∀ (A : Around) (outer : List Env) (s : Shared) (H : Hp) (vs : List V) (Q : VK) (E : XK), Room k (A.deeper (envOfC qual (defScope st) s.heap.objs.size f (.ref cc))) → sp vs H Q E →
      ∃ t, PSs (cxOf CX0 P w K mg base N qual (defScope st) f (.ref cc) A outer s H E).nox (defBody st) t ∧ t { nx := fun _ H' => Q .non H', rt := Q } (start N vs) H) : FnOk P w K mg base CX0 (k + 1) f fd ps sp := by
  obtain ⟨oc, od, kV, doc, pm, an, ct, osl, rfl, lk, hcd⟩ := F.ex
  refine fn_of lk hcd S len fun A outer s H vs Q E hr hsp => ?_
  obtain ⟨t, h, q⟩ := hbody A outer s H vs Q E hr hsp
  exact ⟨t, h.nox, q⟩
end
def lamFr (lsc sc : Scope) : Bool := lsc.names.all fun y => !(y.2 == .free) || sc.names.lookup y.1 == some .cell || sc.names.lookup y.1 == some .free
def lamJs (js : List (Str × Option Nat)) (N : List Str) (lsc : Scope) : Bool := js.all fun p => match p.2 with
  | none => true
  | some j => N[j]? == some p.1 && lsc.names.lookup p.1 == some .free
theorem lamAt_by {X : Cx} {cc Pt : Addr} {qual : Str} {params : Arguments} {lsc : Scope} {js : List (Str × Option Nat)} (hb : BmIn X.base X.mg) (hd : PySem.W.codeHdIn X.K cc Pt = true) (code : X.env.code = .ref cc := by rfl) (defs : defaultsOf params X.env = ([], []) := by rfl) (hq : X.env.qual ++ "<lambda>" = qual := by rfl)
    (fr : lamFr lsc X.env.scope = true := by rfl) (hj : lamJs js X.N lsc = true := by rfl) : LamAt X cc Pt qual params lsc js := by
  refine ⟨hb, code, hd, defs, hq, fun y hy ey => ?_, fun p hp j ej => ?_⟩
  · have z := List.all_eq_true.mp fr y hy
    rw [ey] at z
    simp only [Bool.or_eq_true, beq_self_eq_true, Bool.not_true, Bool.false_eq_true, false_or] at z
    rcases z with z | z
    · exact .inl (show X.env.scope.names.lookup y.1 = some .cell by simpa using z)
    · exact .inr (show X.env.scope.names.lookup y.1 = some .free by simpa using z)
  · have z := List.all_eq_true.mp hj p hp
    rw [ej] at z
    simp only [Bool.and_eq_true] at z
    exact ⟨by simpa using z.1, by simpa using z.2⟩
theorem binds1 {K : PySem.W.Frag} {fd : FuncData} {x : Str} (h : ∀ u, bindArgs fd ⟨[u], []⟩ = pure [(x, u)]) : Binds K fd [x] [] := .all fun us hl => match us, hl with
  | [u], _ => h u
theorem par_loc {x : Str} {lsc : Scope} (loc : lsc.names.lookup x = some .local) (nocell : (lsc.names.all fun y => !(y.2 == .cell)) = true) : ParOk x lsc := .inl ⟨loc, fun y hy e => (by have z := List.all_eq_true.mp nocell y hy; rw [e] at z; simp at z)⟩
theorem look_mem {x : Str} {k : NameKind} : ∀ {l : List (Str × NameKind)}, l.lookup x = some k → (x, k) ∈ l := fun h => PySem.mem_of_lookup h
theorem par_cell {x : Str} {lsc : Scope} (loc : lsc.names.lookup x = some .cell) (one : ∀ n acc, cellsFrom n lsc.names acc = (x, n) :: acc) (onep : ∀ h, pushCells h lsc.names = h.push cellO) (others : (lsc.names.all fun y => !(y.2 == .cell) || y.1 == x) = true) : ParOk x lsc :=
  .inr ⟨loc, one, onep, fun y hy => by
    have z := List.all_eq_true.mp others _ (look_mem hy)
    simpa using z⟩
theorem lamSt_by {K : PySem.W.Frag} {qual x : Str} {params : Arguments} {body : Expr} {lsc : Scope} {js : List (Str × Option Nat)} (kind : lsc.kind = .function := by rfl) (co : lsc.isCoroutine = false := by rfl) (gen : lsc.isGenerator = false := by rfl) (nd : (x :: js.map (·.1)).Nodup := by decide +kernel)
    (par : ParOk x lsc := by first | exact par_loc rfl rfl | exact par_cell rfl (fun _ _ => rfl) (fun _ => rfl) rfl) (binds : ∀ (clos : List (Str × Addr)) (pm : Value) (c : Addr) (ctv : Value) (u : Value), bindArgs (PySem.W.kla_fn "<lambda>" qual params body lsc clos pm (.ref c) ctv) ⟨[u], []⟩ = pure [(x, u)] := by exact fun _ _ _ _ _ => rfl) : LamSt K qual x params body lsc js :=
  ⟨kind, co, gen, nd, par, fun clos pm c ctv => binds1 (binds clos pm c ctv)⟩
theorem pe_fnLamK {X : Cx} {cc Pt : Addr} {g qual x : Str} {params : Arguments} {body e : Expr} {lsc : Scope} {js : List (Str × Option Nat)} {lpos p pos : Pos} {k kl : Nat} {ps : List Str} {spc : Heap → Sp} {te tl : TE} (P : Program) (w : World) (K : PySem.W.Frag) (mg : Str → Option Value) (e1 : X.prog = P) (e2 : X.w = w) (e3 : X.K = K) (e4 : X.mg = mg)
    (F : FnA P w K mg X.base g k ps spc) (hr : Room k X.A) (hg : Gl X g) (S : LamSt K qual x params body lsc js) (L : LamAt X cc Pt qual params lsc js) (he : PE X e te)
    (hl : ∀ (base : Heap), (∀ b o, X.base.get? b = some o → base.get? b = some o) → ∀ (clos : List (Str × Addr)) (f c : Addr) (A : Around) (outer : List Env) (s : Shared) (H : Hp), Room kl (A.deeper (PySem.W.envX qual lsc s.heap.objs.size f (.ref c) clos)) → PE (cxL P w K mg base (x :: js.map (·.1)) qual lsc f (.ref c) clos A outer s H) body tl)
    (hst : notStar e = true := by rfl) (hdb : (g == ("__debug__" : Str)) = false := by decide) :
    PE X (.Call (.Name g p) [e, .Lambda params body lsc lpos] [] pos) (tFnLam P w K mg (kl + 1) spc te tl js Pt (encT lpos qual)) := by
  subst e1 e2 e3 e4
  exact pe_fnLam F hr hg S L he hl hst hdb
theorem op_neDK {X : Cx} (K : PySem.W.Frag) (hK : X.K = K) (hu : X.A.units + 64 < cLine) : OpR X (compareOp .NotEq) (rNeD K) := by
  subst hK
  exact op_neD hu
end L2

namespace L2
open PySem PySem.Spec PyProof.Rows
/-! ### t.index(x) of a tuple of flat items -/
theorem tup_index (l : Addr) (items : Array Value) (n : Nat) (dd : Option Addr) (sl : Array (Option Value)) (x : Value) (e : Value → Bool) (j : Nat) (hj : j < items.size) (he : e items[j] = true) (hno : ∀ (m : Nat) (hm : m < items.size), m < j → e items[m] = false) :
    Meets (Builtin.«tuple.index» ⟨[.ref l, x], []⟩) (fun A R s => s.heap.get? l = some { cls := .type "tuple", dict := dd, data := .seq items n, slots := sl } ∧ (∀ y ∈ items, SeqAt.EqAt A.in1 s y x (e y)) ∧
      R (.ok (.ret (.int (j : Nat) s.toks))) { s with toks := s.toks + 1 }) :=
  .of_wp fun prog w A R s h => by
    obtain ⟨hp, g, d, tk, os⟩ := s
    obtain ⟨hl, heq, h⟩ := h
    have f2 := AutoSeq1.sub_tuple_tuple
    unfold Builtin.«tuple.index»
    simp only [Std.Legacy.Range.forIn_eq_forIn_range']
    have hmn : min items.size items.size = items.size := Nat.min_self _
    wp_walk using AutoSeq1.wpAny_loadPart' hl, wpAny_forIn_list _ (fun rest b s' => b = (none, ()) ∧ s' = ⟨hp, g, d, tk, os⟩ ∧ ∃ i, i ≤ j ∧ rest = List.range' i (items.size - i)) _
    case turn =>
      rintro i rest b s' ⟨rfl, rfl, i', hi', hr⟩
      have hlt : i' < items.size := by omega
      rw [show items.size - i' = (items.size - (i' + 1)) + 1 by omega, List.range'_succ] at hr
      injection hr with h1 h2
      subst h1
      have hit : items[i]? = some items[i] := Array.getElem?_eq_getElem hlt
      rw [hit]
      refine (show wpAny _ _ (eqBool items[i] x >>= _) _ _ _ from wpAny_bind (heq items[i] (Array.getElem_mem hlt) prog w _ _ ?_))
      by_cases hij : i = j
      · subst hij
        rw [he, if_pos rfl]
        wp_walk
        exact ⟨_, rfl, h⟩
      · rw [hno i hlt (by omega), if_neg Bool.false_ne_true]
        wp_walk
        exact ⟨rfl, rfl, i + 1, by omega, h2⟩
    case fin =>
      rintro b s' ⟨rfl, rfl, i', hi', hr⟩
      have := congrArg List.length hr
      rw [List.length_range'] at this
      simp at this
      omega
    case h =>
      refine ⟨rfl, rfl, 0, Nat.zero_le _, ?_⟩
      rw [hmn]
      simp [Std.Legacy.Range.size]
section
variable {X : Cx}
@[reducible] def rIndexT : V → List V → Hp → VK → Prop := fun x xs H Q => ∃ (a : Addr) (ys : List V) (y : V) (j : Nat) (z : V), x = V.ref a ∧ xs = [y] ∧ H a = some (.tup ys) ∧ flatV y = true ∧ ys.all flatV = true ∧ ys[j]? = some z ∧ eqV z y = true ∧
  (∀ (m : Nat) (z' : V), m < j → ys[m]? = some z' → eqV z' y = false) ∧ Q (.int (j : Nat)) H
theorem mt_indexT : MtR X "tuple.index" rIndexT := by
  intro pins s σ H x xs v us Q I rx rxs h
  obtain ⟨a, ys, y, j, z, rfl, rfl, hs, fy, fys, hz, hzj, hno, q⟩ := h
  cases rx
  cases rxs with
  | cons ry rt =>
    rename_i uy ut
    cases rt
    obtain ⟨its, rv, ⟨⟨cls, dd, data, sl⟩, ho, hc, n, hd⟩, hlen⟩ := I.tuple (SqT.of hs)
    simp only at hc hd
    subst hc hd
    obtain ⟨u, hu, ru⟩ := rv.get hz
    obtain ⟨hjl, hje⟩ := List.getElem?_eq_some_iff.mp hu
    have hvl := rv.length
    have hj : j < its.toArray.size := by simpa using hjl
    refine call_meets PySem.F.slot_tuple_index ⟨_, ho, rfl⟩ PySem.F.entry_tuple_index (PySem.F.args_tuple_index_2 _ _)
      (tup_index a its.toArray n dd sl uy (eqU y) j hj ?_ ?_) ⟨ho, fun u' hu' => mem_eqAt ry fy rv fys u' (by simpa using hu'), ?_⟩
    · have e1 : its.toArray[j] = u := by simpa using hje
      rw [e1, eqU_of ru (flat_at fys hz)]
      exact hzj
    · intro m hm hmj
      have hml : m < its.length := by simpa using hm
      have hmy : m < ys.length := by omega
      have hy' : ys[m]? = some ys[m] := List.getElem?_eq_getElem hmy
      obtain ⟨u2, hu2, ru2⟩ := rv.get hy'
      obtain ⟨_, hme⟩ := List.getElem?_eq_some_iff.mp hu2
      have e1 : its.toArray[m] = u2 := by simpa using hme
      rw [e1, eqU_of ru2 (flat_at fys hy')]
      exact hno m _ hmj hy'
    · exact ⟨.int (j : Nat), H, I.tok _, ⟨_, rfl⟩, q⟩
@[reducible] def tBMT (r : V → List V → Hp → VK → Prop) (to : TE) (t : TA) : TE := fun σ H Q => to σ H fun x H1 => ∃ p xs, x = .ref p ∧ H1 p = some (.tup xs) ∧ t σ H1 fun ys H2 => r x ys H2 Q
theorem pe_bmT {o e : Expr} {to : TE} {apos cpos : Pos} {es : List Expr} {t : TA} {name : Str} {id : String} {r : V → List V → Hp → VK → Prop} (slot : Slot "tuple" name id) (hty : typeOf (.builtin id) = pure (.type "method_descriptor")) (hm : MtR X id r) (ho : PE X o to) (ha : PA X (e :: es) t)
    (hbase : attributeBase o name X.env (eval o X.env) = eval o X.env := by rfl)
    (hfew : ((backTo cpos (starEach (e :: es) X.env)).all (fun x => !x.1) && (backToKw cpos (keywordEach [] X.env)).all (fun x => x.1.isSome)
      && decide ((e :: es).length + ([] : List Keyword).length + (if ([] : List Keyword).isEmpty then 0 else 1) < 30)) = true := by rfl)
    (hline : (apos.endLine == cpos.line) = true := by rfl) (hs : starEach (e :: es) X.env = (false, eval e X.env) :: starEach es X.env := by rfl) (hplain : (backTo cpos (starEach es X.env)).any (·.1) = false := by rfl) :
    PE X (.Call (.Attribute o name apos) (e :: es) [] cpos) (tBMT r to t) := by
  intro pins s σ H Q I h
  refine wpAny_Call_method_late hbase hfew hline rfl (thn (ho pins s σ H _ I h) fun v s1 ⟨x, H1, I1, r1, p, xs, ex, hp, q1⟩ => ?_)
  subst ex
  obtain ⟨_, its, _, ob, h1, h2, n, h3, h4⟩ := (show ObjOk X.prog X.w H1 s1.heap p (.tup xs) from I1.hok p _ hp)
  have ev : v = Value.ref p := r1
  subst ev
  refine ⟨"tuple", id, PySem.F.plainAttrs_tuple, slot, hty, ⟨ob, h1, h2⟩, fun a e => ?_, ?_⟩
  · cases e
    exact ⟨ob, h1, h4⟩
  · have hA := ha cpos pins s1 σ H1 _ I1 q1
    rw [hs] at hA ⊢
    refine Calls.callWith_builtin (by show (false || (backTo cpos (starEach es X.env)).any (·.1)) = false; rw [hplain] <;> rfl) (Calls.evalArgs_plain ?_)
    exact thn hA fun us s2 ⟨vs, H2, I2, r2, q2⟩ => hm pins s2 σ H2 _ vs _ us Q I2 r1 r2 q2
end
/-! ### loops over a list that the text's own world keeps -/
/-! ### the seed of the laws' draws -/
structure Seed (H : Hp) (d : Addr) : Prop where
  ex : ∃ a b c e : Int, H d = some (.lst [.int a, .int b, .int c, .int e])
section
variable {H H' : Hp} {d p : Addr} {o : HO}
theorem Seed.same (D : Seed H d) (k : Same H H') : Seed H' d := by
  obtain ⟨a, b, c, e, h⟩ := D.ex
  exact ⟨a, b, c, e, k _ _ h⟩
theorem Seed.new (D : Seed H d) (hp : H p = none) : Seed (upd H p o) d := D.same (Same.new (Same.refl H) hp)
theorem Seed.put (D : Seed H d) (hd : p ≠ d) : Seed (upd H p o) d := by
  obtain ⟨a, b, c, e, h⟩ := D.ex
  exact ⟨a, b, c, e, (upd_ne (Ne.symm hd)).trans h⟩
theorem Seed.ne_tup {xs : List V} (D : Seed H d) (h : H p = some (.tup xs)) : p ≠ d := by
  obtain ⟨a, b, c, e, hd⟩ := D.ex
  exact ne_of h hd (by intro z; cases z)
theorem Seed.free (D : Seed H d) (h : H p = none) : p ≠ d := by
  obtain ⟨a, b, c, e, hd⟩ := D.ex
  exact (ne_of_none hd h).symm
theorem Seed.keepT (k : Keep d H H') (D : Seed H d) : KeepT H H' := fun b xs h => k b _ h (D.ne_tup h)
end
/-! ### fractions -/
/-! ### names -/
end L2

namespace L2
open PySem PySem.Spec PyProof.Rows
/-! ### a square of whole numbers -/
def addAt (row : List Int) (j : Nat) (w : Int) : List Int := row.set j (row[j]?.getD 0 + w)
def upd2 (M : List (List Int)) (k j : Nat) (w : Int) : List (List Int) := M.set k (addAt (M[k]?.getD []) j w)
structure MatOk (n : Nat) (M : List (List Int)) : Prop where
  len : M.length = n
  row : ∀ r ∈ M, r.length = n ∧ ∀ x ∈ r, 0 ≤ x
theorem MatOk.get {n : Nat} {M : List (List Int)} (h : MatOk n M) {k : Nat} (hk : k < n) : ∃ r, M[k]? = some r ∧ r.length = n ∧ ∀ x ∈ r, 0 ≤ x := by
  have hk' : k < M.length := by rw [h.len]; exact hk
  exact ⟨M[k], List.getElem?_eq_getElem hk', h.row _ (List.getElem_mem hk')⟩
theorem MatOk.upd {n : Nat} {M : List (List Int)} (h : MatOk n M) {k j : Nat} {w : Int} (hk : k < n) (hj : j < n) (hw : 0 ≤ w) : MatOk n (upd2 M k j w) := by
  obtain ⟨r, e, rl, rn⟩ := h.get hk
  refine ⟨by unfold upd2; rw [List.length_set]; exact h.len, fun s hs => ?_⟩
  unfold upd2 at hs
  rcases List.mem_or_eq_of_mem_set hs with z | z
  · exact h.row s z
  · subst z
    rw [e]
    show ((addAt r j w).length = n) ∧ _
    unfold addAt
    refine ⟨by rw [List.length_set]; exact rl, fun x hx => ?_⟩
    rcases List.mem_or_eq_of_mem_set hx with z | z
    · exact rn x z
    · have hj' : j < r.length := by omega
      have := rn _ (List.getElem_mem hj')
      rw [z]
      show 0 ≤ r[j]?.getD 0 + w
      rw [List.getElem?_eq_getElem hj']
      show 0 ≤ r[j] + w
      omega
/-- the rows of a square at unlike addresses -/
structure MatAt (H : Hp) (rs : List Addr) (M : List (List Int)) : Prop where
  pr : Paired (fun r row => H r = some (.lst (row.map V.int))) rs M
  nd : rs.Nodup
theorem MatAt.same {H H' : Hp} {rs : List Addr} {M : List (List Int)} (h : MatAt H rs M) (k : Same H H') : MatAt H' rs M := ⟨Paired.mapP h.pr fun _ _ z => k _ _ z, h.nd⟩
theorem paired_get2 {α β : Type} {R : α → β → Prop} : ∀ {l : List α} {r : List β} {i : Nat} {y : β}, Paired R l r → r[i]? = some y → ∃ x, l[i]? = some x ∧ R x y
  | _, _, 0, y, .cons h _, e => ⟨_, rfl, by rw [← Option.some.inj e]; exact h⟩
  | _, _, i + 1, y, .cons _ t, e => paired_get2 (i := i) t e
  | _, _, i, y, .nil, e => by cases e
theorem mat_upd {H : Hp} {r : Addr} {row' : List Int} : ∀ {rs : List Addr} {M : List (List Int)} {k : Nat}, Paired (fun r row => H r = some (.lst (row.map V.int))) rs M → rs.Nodup → rs[k]? = some r →
    Paired (fun a row => (upd H r (.lst (row'.map V.int))) a = some (.lst (row.map V.int))) rs (M.set k row')
  | _, _, k, .nil, _, e => by simp at e
  | a :: rs, m :: M, 0, .cons h t, nd, e => by
    have e : a = r := Option.some.inj e
    subst e
    rw [List.nodup_cons] at nd
    refine .cons upd_same ?_
    clear h
    induction t with
    | nil => exact .nil
    | cons h2 t2 ih =>
      rename_i b row rs' M'
      have nb : b ≠ a := fun z => nd.1 (by simp [z])
      have nd2 := nd.2
      rw [List.nodup_cons] at nd2
      exact .cons (by rw [upd_ne nb]; exact h2) (ih ⟨fun z => nd.1 (by simp [z]), nd2.2⟩ rfl)
  | a :: rs, m :: M, k + 1, .cons h t, nd, e => by
    rw [List.nodup_cons] at nd
    have e : rs[k]? = some r := e
    have na : a ≠ r := fun z => nd.1 (by rw [z]; exact List.mem_of_getElem? e)
    exact .cons (by rw [upd_ne na]; exact h) (mat_upd t nd.2 e)
theorem MatAt.put {H : Hp} {rs : List Addr} {M : List (List Int)} (h : MatAt H rs M) {n k j : Nat} {w : Int} (ok : MatOk n M) (hk : k < n) (hj : j < n) :
    ∃ (r : Addr) (row : List Int), rs[k]? = some r ∧ M[k]? = some row ∧ row.length = n ∧ H r = some (.lst (row.map V.int)) ∧ (∀ z, row[j]? = some z → MatAt (upd H r (.lst ((row.map V.int).set j (.int (z + w))))) rs (upd2 M k j w)) := by
  obtain ⟨row, e, rl, _⟩ := ok.get hk
  obtain ⟨r, er, hr⟩ := paired_get2 h.pr e
  refine ⟨r, row, er, e, rl, hr, fun z hz => ?_⟩
  have e2 : (row.map V.int).set j (.int (z + w)) = (addAt row j w).map V.int := by
    unfold addAt
    rw [hz, List.map_set]
    rfl
  rw [e2]
  unfold upd2
  rw [e]
  exact ⟨mat_upd h.pr h.nd er, h.nd⟩
def fracDat (x wh : Int) : Dt := .tup [.int (x / (Int.gcd x wh : Int)), .int (wh / (Int.gcd x wh : Int))]
def rowDat (wh : Int) (row : List Int) : Dt := .tup (row.map fun x => fracDat x wh)
def riI (D : Addr) (wh : Int) (row : List Int) (H : Hp) : Nat → Hp → Prop := fun k H' => ∃ qs : List Addr, H' D = some (.lst (qs.map V.ref)) ∧ Paired (fun q x => DatAt H' (.ref q) (fracDat x wh)) qs (row.take k) ∧ Same H H'
def rtI (D : Addr) (wh : Int) (M : List (List Int)) (H : Hp) : Nat → Hp → Prop := fun k H' => ∃ qs : List Addr, H' D = some (.lst (qs.map V.ref)) ∧ Paired (fun q row => DatAt H' (.ref q) (rowDat wh row)) qs (M.take k) ∧ Same H H'
theorem keep_lst {H : Hp} {D : Addr} {xs : List V} {o : HO} (h : H D = some (.lst xs)) : KeepT H (upd H D o) := fun b ys hb => by
  rw [upd_ne (ne_of hb h (by intro z; cases z))]
  exact hb
theorem riI.put {D q : Addr} {wh : Int} {row : List Int} {H H' H2 : Hp} {k : Nat} {x : Int} {qs : List Addr} (hD : H D = none) (hx : row[k]? = some x) (c1 : H' D = some (.lst (qs.map V.ref))) (c2 : Paired (fun q x => DatAt H' (.ref q) (fracDat x wh)) qs (row.take k)) (sm : Same H H') (s2 : Same H' H2) (hq : DatAt H2 (.ref q) (fracDat x wh)) :
    riI D wh row H (k + 1) (upd H2 D (.lst (qs.map V.ref ++ [V.ref q]))) := by
  have kT := keep_lst (o := .lst (qs.map V.ref ++ [V.ref q])) (s2 _ _ c1)
  refine ⟨qs ++ [q], by rw [upd_same, app_map], ?_, Same.put (sm.trans s2) hD⟩
  rw [take_snoc hx]
  exact Paired.snoc (Paired.mapP c2 fun _ _ z => z.mono (s2.keepT.trans kT)) (hq.mono kT)
theorem rtI.put {D q : Addr} {wh : Int} {M : List (List Int)} {H H' H2 : Hp} {k : Nat} {x : List Int} {qs : List Addr} (hD : H D = none) (hx : M[k]? = some x) (c1 : H' D = some (.lst (qs.map V.ref))) (c2 : Paired (fun q x => DatAt H' (.ref q) (rowDat wh x)) qs (M.take k)) (sm : Same H H') (s2 : Same H' H2) (hq : DatAt H2 (.ref q) (rowDat wh x)) :
    rtI D wh M H (k + 1) (upd H2 D (.lst (qs.map V.ref ++ [V.ref q]))) := by
  have kT := keep_lst (o := .lst (qs.map V.ref ++ [V.ref q])) (s2 _ _ c1)
  refine ⟨qs ++ [q], by rw [upd_same, app_map], ?_, Same.put (sm.trans s2) hD⟩
  rw [take_snoc hx]
  exact Paired.snoc (Paired.mapP c2 fun _ _ z => z.mono (s2.keepT.trans kT)) (hq.mono kT)
end L2

namespace L2
open PySem PySem.Spec PyProof.Rows
/-! ### place_steps: from a place by every move -/
def Rows (H : Hp) (rs : List Addr) (M : List (List Int)) : Prop := Paired (fun r row => H r = some (.lst (row.map V.int))) rs M
theorem Rows.same {H H' : Hp} {rs : List Addr} {M : List (List Int)} (h : Rows H rs M) (k : Same H H') : Rows H' rs M := Paired.mapP h fun _ _ z => k _ _ z
def psI (D : Addr) (ρ : Nat → List Int) (H : Hp) : Nat → Hp → Prop := fun i H' => ∃ rs : List Addr, H' D = some (.lst (rs.map V.ref)) ∧ rs.length = i ∧ Rows H' rs ((List.range i).map ρ) ∧ D ∉ rs ∧ Same H H'
theorem paired_in' {α β : Type} {R S : α → β → Prop} : ∀ {as : List α} {bs : List β}, Paired R as bs → (∀ a b, a ∈ as → R a b → S a b) → Paired S as bs
  | _, _, .nil, _ => .nil
  | _, _, .cons h r, k => .cons (k _ _ (by simp) h) (paired_in' r fun a b ha => k a b (by simp [ha]))
theorem psI.put {D r : Addr} {ρ : Nat → List Int} {i : Nat} {H H' H2 : Hp} {rs : List Addr} (hD : H D = none) (c1 : H' D = some (.lst (rs.map V.ref))) (c0 : rs.length = i) (c2 : Rows H' rs ((List.range i).map ρ)) (c4 : D ∉ rs) (sm : Same H H') (s2 : Same H' H2) (hr : H' r = none) (h2 : H2 r = some (.lst ((ρ i).map V.int))) :
    psI D ρ H (i + 1) (upd H2 D (.lst (rs.map V.ref ++ [V.ref r]))) := by
  have nDr : r ≠ D := (ne_of_none c1 hr).symm
  refine ⟨rs ++ [r], by rw [upd_same, app_map], by rw [List.length_append, c0]; rfl, ?_, ?_, Same.put (sm.trans s2) hD⟩
  · rw [List.range_succ, List.map_append]
    refine Paired.snoc (paired_in' c2 fun a row ha h => ?_) ?_
    · rw [upd_ne (fun z : a = D => c4 (z ▸ ha))]
      exact s2 _ _ h
    · rw [upd_ne nDr]
      exact h2
  · intro z
    rcases List.mem_append.mp z with z | z
    · exact c4 z
    · exact nDr (by simpa using z : D = r).symm
end L2

namespace L2
open PySem PySem.Spec PyProof.Rows
/-! ### a thing just made, walked: locked for good -/
@[reducible] def tFrz (te : TE) : TE := fun σ H Q => te σ H fun x H1 => ∃ d u, x = .ref d ∧ H1 d = some u ∧ Mut (some u) ∧ ∀ od, Q x (upd H1 d (.frz od u))
theorem pe_frz {X : Cx} {e : Expr} {te : TE} (h : PE X e te) : PE X e (tFrz te) := by
  intro pins s σ H Q I hw
  refine thn (h pins s σ _ _ I hw) fun v s1 ⟨x, H1, I1, r, d, u, ex, hd, mu, q⟩ => ?_
  obtain ⟨od, I2⟩ := I1.lock hd mu
  exact ⟨x, _, I2, r, q od⟩
end L2

namespace L2
open PySem PySem.Spec PyProof.Rows
theorem lcR_keysT {d : Addr} {o : Obj} {kvs : List (List Key × V)} {g : TG} {tt : TT} {te : TE} {vs : List Nat} {σ : L2.St} {H1 : Hp} {Q : VK} (h : ∀ D, H1 D = none → ∃ Pv : Nat → Hp → Prop, Pv 0 (upd H1 D (.lst [])) ∧ (∀ i H, i ≤ kvs.length → Pv i H → H d = some (.frz o (.dT kvs))) ∧
    (∀ i k v q H, kvs[i]? = some (k, v) → H q = some (.tup (k.map kV)) → Pv i H → LcT D g tt te vs σ (.ref q) H (Pv (i + 1))) ∧ (∀ H, Pv kvs.length H → Q (.ref D) H)) : LcW (Itkt d o kvs) g tt te vs σ H1 Q := by
  intro D hD
  obtain ⟨Pv, h0, hl, hs, hd⟩ := h D hD
  refine ⟨fun i m H => m = kvs.length - i ∧ i ≤ kvs.length ∧ Pv i H, ⟨kvs.length, by simp, Nat.zero_le _, h0⟩, ?_⟩
  rintro i m H ⟨rfl, hi, p⟩
  by_cases hlt : i < kvs.length
  · exact .inr ⟨⟨hl i H hi p, hlt⟩, Pv (i + 1), fun H' p' => ⟨kvs.length - (i + 1), by omega, rfl, hlt, p'⟩, fun x H' ⟨e, k, v, q, hk, ex, hq⟩ => by
      subst e
      subst ex
      exact hs i k v q _ hk hq p⟩
  · have e : i = kvs.length := by omega
    subst e
    exact .inl ⟨⟨hl _ H hi p, Nat.le_refl _⟩, hd H p⟩
/-! ### {k: v} with a tuple as its key -/
/-! ### going on until all is reached, over things of any kind -/
structure StQ {κ : Type} (U : List κ) (m : Nat) (nx : κ → List κ) (k0 : κ) (n : Nat) (ks ws : List κ) : Prop where
  nodup : ks.Nodup
  sub : ∀ k ∈ ks, k ∈ U
  subw : ∀ k ∈ ws, k ∈ U
  rk : ∀ k ∈ ks, Reach nx k0 k
  rw : ∀ k ∈ ws, Reach nx k0 k
  cl : ∀ k ∈ ks, ∀ j ∈ nx k, j ∈ ks ∨ j ∈ ws
  st : k0 ∈ ks ∨ k0 ∈ ws
  len : ws.length ≤ 1 + ks.length * m
  mu : n = (U.length - ks.length) * (m + 1) + ws.length
section
variable {κ : Type} [DecidableEq κ] {U : List κ} {m : Nat} {nx : κ → List κ} {k0 k : κ} {n : Nat} {ks ws : List κ}
theorem StQ.init (hU : k0 ∈ U) : StQ U m nx k0 (U.length * (m + 1) + 1) [] [k0] where
  nodup := by simp
  sub := by simp
  subw := by simpa using hU
  rk := by simp
  rw := by
    intro k hk
    rw [List.mem_singleton.mp hk]
    exact .refl
  cl := by simp
  st := by simp
  len := by simp
  mu := by simp
theorem StQ.old (I : StQ U m nx k0 n ks (ws ++ [k])) (hk : k ∈ ks) : ∃ n', n' < n ∧ StQ U m nx k0 n' ks ws := by
  have lf : ∀ {j : κ}, j ∈ ws ++ [k] → j ∈ ks ∨ j ∈ ws := fun {j} hj => by
    rcases List.mem_append.mp hj with z | z
    · exact .inr z
    · rw [List.mem_singleton.mp z]; exact .inl hk
  refine ⟨(U.length - ks.length) * (m + 1) + ws.length, ?_, I.nodup, I.sub, fun j hj => I.subw j (List.mem_append_left _ hj), I.rk, fun j hj => I.rw j (List.mem_append_left _ hj), fun j hj i hi => ?_, ?_, ?_, rfl⟩
  · have z := I.mu
    rw [List.length_append] at z
    simp only [List.length_singleton] at z
    omega
  · rcases I.cl j hj i hi with z | z
    · exact .inl z
    · exact lf z
  · rcases I.st with z | z
    · exact .inl z
    · exact lf z
  · have z := I.len
    rw [List.length_append] at z
    omega
theorem StQ.more (I : StQ U m nx k0 n ks (ws ++ [k])) (h : k ∉ ks) : ks.length + 1 ≤ U.length := by
  have e := nodup_len (l := k :: ks) (U := U) (List.nodup_cons.mpr ⟨h, I.nodup⟩) fun j hj => by
    rcases List.mem_cons.mp hj with z | z
    · rw [z]; exact I.subw k (by simp)
    · exact I.sub j z
  simpa using e
theorem StQ.new (I : StQ U m nx k0 n ks (ws ++ [k])) (h : k ∉ ks) (cU : ∀ k ∈ U, ∀ j ∈ nx k, j ∈ U) (hm : (nx k).length ≤ m) : ∃ n', n' < n ∧ StQ U m nx k0 n' (ks ++ [k]) (ws ++ nx k) := by
  have hkU := I.subw k (by simp)
  have hkR := I.rw k (by simp)
  have cnt := I.more h
  have hl : (ks ++ [k]).length = ks.length + 1 := by simp
  have lf : ∀ {j : κ}, j ∈ ws ++ [k] → j ∈ ks ++ [k] ∨ j ∈ ws ++ nx k := fun {j} hj => by
    rcases List.mem_append.mp hj with z | z
    · exact .inr (List.mem_append_left _ z)
    · exact .inl (List.mem_append_right _ z)
  refine ⟨(U.length - (ks ++ [k]).length) * (m + 1) + (ws ++ nx k).length, ?_, ?_, fun j hj => ?_, fun j hj => ?_, fun j hj => ?_, fun j hj => ?_, fun j hj i hi => ?_, ?_, ?_, rfl⟩
  · have hmu := I.mu
    rw [List.length_append] at hmu
    obtain ⟨q, hq⟩ : ∃ q, U.length = ks.length + 1 + q := ⟨U.length - (ks.length + 1), by omega⟩
    have e1 : U.length - ks.length = q + 1 := by omega
    have e2 : U.length - (ks ++ [k]).length = q := by rw [hl]; omega
    rw [e1, Nat.add_mul] at hmu
    rw [e2, List.length_append]
    simp only [List.length_singleton] at hmu
    omega
  · rw [List.nodup_append]
    exact ⟨I.nodup, by simp, fun a ha b hb => by rw [List.mem_singleton.mp hb]; exact fun z => h (z ▸ ha)⟩
  · rcases List.mem_append.mp hj with z | z
    · exact I.sub j z
    · rw [List.mem_singleton.mp z]; exact hkU
  · rcases List.mem_append.mp hj with z | z
    · exact I.subw j (List.mem_append_left _ z)
    · exact cU k hkU j z
  · rcases List.mem_append.mp hj with z | z
    · exact I.rk j z
    · rw [List.mem_singleton.mp z]; exact hkR
  · rcases List.mem_append.mp hj with z | z
    · exact I.rw j (List.mem_append_left _ z)
    · exact .step hkR z
  · rcases List.mem_append.mp hj with z | z
    · rcases I.cl j z i hi with y | y
      · exact .inl (List.mem_append_left _ y)
      · exact lf y
    · rw [List.mem_singleton.mp z] at hi
      exact .inr (List.mem_append_right _ hi)
  · rcases I.st with z | z
    · exact .inl (List.mem_append_left _ z)
    · exact lf z
  · have z := I.len
    rw [List.length_append, List.length_singleton] at z
    rw [List.length_append, hl, Nat.add_mul]
    omega
theorem StQ.fin (I : StQ U m nx k0 n ks []) : ∀ k, k ∈ ks ↔ Reach nx k0 k := fun k => by
  refine ⟨I.rk k, fun h => ?_⟩
  induction h with
  | refl => rcases I.st with z | z; exact z; cases z
  | step _ hc ih => rcases I.cl _ ih _ hc with z | z; exact z; cases z
end
/-! ### steps_from over tuples of whole numbers -/
def kI (k : List Int) : List Key := k.map fun i => (Sum.inl i : Key)
theorem kI_V (k : List Int) : (kI k).map kV = k.map V.int := by
  unfold kI
  rw [List.map_map]
  rfl
theorem kI_inj : ∀ {a b : List Int}, kI a = kI b → a = b
  | [], [], _ => rfl
  | [], _ :: _, h => by cases h
  | _ :: _, [], h => by cases h
  | x :: a, y :: b, h => by
    unfold kI at h
    rw [List.map_cons, List.map_cons] at h
    obtain ⟨h1, h2⟩ := List.cons.inj h
    cases h1
    rw [kI_inj (a := a) (b := b) h2]
theorem kI_mem {k : List Int} {ks : List (List Int)} : kI k ∈ ks.map kI ↔ k ∈ ks := by
  constructor
  · intro h
    obtain ⟨j, hj, e⟩ := List.mem_map.mp h
    rw [← kI_inj e]
    exact hj
  · exact fun h => List.mem_map.mpr ⟨k, h, rfl⟩
def TupsAt (H : Hp) (as : List Addr) (ks : List (List Int)) : Prop := Paired (fun a k => H a = some (.tup (k.map V.int))) as ks
theorem TupsAt.same {H H' : Hp} {as : List Addr} {ks : List (List Int)} (h : TupsAt H as ks) (s : KeepT H H') : TupsAt H' as ks := Paired.mapP h fun _ _ z => s _ _ z
theorem tups_snoc {H : Hp} : ∀ {as : List Addr} {a : Addr} {ws : List (List Int)}, TupsAt H (as ++ [a]) ws → ∃ ws' k, ws = ws' ++ [k] ∧ TupsAt H as ws' ∧ H a = some (.tup (k.map V.int))
  | [], a, _, .cons h .nil => ⟨[], _, rfl, .nil, h⟩
  | b :: as, a, _, .cons h t => by
    obtain ⟨ws', k, rfl, h1, h2⟩ := tups_snoc (as := as) t
    exact ⟨_ :: ws', k, rfl, .cons h h1, h2⟩
theorem paired_app {α β : Type} {R : α → β → Prop} : ∀ {l l' : List α} {r r' : List β}, Paired R l r → Paired R l' r' → Paired R (l ++ l') (r ++ r')
  | _, _, _, _, .nil, h => h
  | _, _, _, _, .cons q t, h => .cons q (paired_app t h)
theorem keepT_put {H : Hp} {a : Addr} {o u : HO} (h : H a = some o) (n : ∀ xs, o ≠ .tup xs) : KeepT H (upd H a u) := fun b xs z => by
  rw [upd_ne fun e => by rw [e, h] at z; exact n xs (Option.some.inj z)]
  exact z
structure StT (U : List (List Int)) (m : Nat) (nx : List Int → List (List Int)) (k0 : List Int) (H0 : Hp) (d wl : Addr) (n : Nat) (kvs : List (List Key × V)) (as : List Addr) (ws : List (List Int)) (H : Hp) : Prop where
  hd : H d = some (.dT kvs)
  hw : H wl = some (.lst (as.map V.ref))
  ta : TupsAt H as ws
  nd0 : H0 d = none
  nw0 : H0 wl = none
  same : Same H0 H
  q : ∃ ks : List (List Int), kvs.map (·.1) = ks.map kI ∧ StQ U m nx k0 n ks ws
def spStepsT (P : Program) (w : World) (K : PySem.W.Frag) (mg : Str → Option Value) (kl : Nat) (base : Heap) : Sp := fun vs H Q _ => ∃ (a0 : Addr) (k0 : List Int) (f : Addr) (spl : Sp) (nx : List Int → List (List Int)) (U : List (List Int)) (m : Nat), vs = [.ref a0, .ref f] ∧ H a0 = some (.tup (k0.map V.int)) ∧ FnIn P w K mg base kl f spl ∧ k0 ∈ U ∧ (∀ k ∈ U, ∀ j ∈ nx k, j ∈ U) ∧ (∀ k ∈ U, (nx k).length ≤ m) ∧
  1 + U.length * m ≤ sizeLine ∧ U.length < sizeLine ∧
  (∀ k ∈ U, ∀ a H', Same H H' → H' a = some (.tup (k.map V.int)) → ∀ Q' : VK, (∀ L as H'', Same H' H'' → H' L = none → H'' L = some (.lst (as.map V.ref)) → TupsAt H'' as (nx k) → Q' (.ref L) H'') → spl [.ref a] H' Q' E0) ∧
  ∀ (d : Addr) (kvs : List (List Key × V)) (ks : List (List Int)) (H' : Hp), H d = none → Same H H' → H' d = some (.dT kvs) → kvs.map (·.1) = ks.map kI → ks.Nodup → (∀ k, k ∈ ks ↔ Reach nx k0 k) → (∀ k ∈ ks, k ∈ U) → Q (.ref d) H'
def stTW (U : List (List Int)) (m : Nat) (nx : List Int → List (List Int)) (k0 : List Int) (a0 : Addr) (H0 : Hp) (f : Addr) : Nat → L2.St → Hp → Prop := fun n σ H => ∃ d wl kvs as ws o, σ = [some (.ref a0), some (.ref f), some (.ref d), some (.ref wl), o] ∧ StT U m nx k0 H0 d wl n kvs as ws H
end L2

namespace L2
open PySem PySem.Spec PyProof.Rows
/-! ### groups: rows of whole numbers that rise -/
theorem up_nodup {l : List Int} (h : l.Pairwise (· < ·)) : l.Nodup := List.Pairwise.imp (fun {a b} z e => by omega) h
/-! ### the lambda of  return g(e, lambda x: ..)  in a def of two rows -/
/-! ### all groups of so many places -/
def subsI : List Int → List (List Int)
  | [] => [[]]
  | x :: l => subsI l ++ (subsI l).map (x :: ·)
theorem subsI_len : ∀ l : List Int, (subsI l).length = 2 ^ l.length
  | [] => rfl
  | x :: l => by
    show (subsI l ++ (subsI l).map (x :: ·)).length = _
    rw [List.length_append, List.length_map, subsI_len l, List.length_cons, Nat.pow_succ]
    omega
theorem subsI_nil : ∀ l : List Int, [] ∈ subsI l
  | [] => List.mem_cons_self
  | x :: l => List.mem_append_left _ (subsI_nil l)
theorem subsI_of : ∀ {l g : List Int}, l.Pairwise (· < ·) → g.Pairwise (· < ·) → (∀ j ∈ g, j ∈ l) → g ∈ subsI l
  | [], [], _, _, _ => List.mem_cons_self
  | [], y :: g, _, _, h => absurd (h y List.mem_cons_self) (by simp)
  | x :: l, [], _, _, _ => subsI_nil _
  | x :: l, y :: g, hl, hg, h => by
    obtain ⟨l1, l2⟩ := List.pairwise_cons.mp hl
    obtain ⟨g1, g2⟩ := List.pairwise_cons.mp hg
    by_cases e : y = x
    · subst e
      refine List.mem_append_right _ (List.mem_map.mpr ⟨g, subsI_of l2 g2 fun j hj => ?_, rfl⟩)
      rcases List.mem_cons.mp (h j (List.mem_cons_of_mem _ hj)) with z | z
      · have := g1 j hj; omega
      · exact z
    · have hy : x < y := by
        rcases List.mem_cons.mp (h y List.mem_cons_self) with z | z
        · exact absurd z e
        · exact l1 y z
      refine List.mem_append_left _ (subsI_of l2 hg fun j hj => ?_)
      rcases List.mem_cons.mp (h j hj) with z | z
      · subst z
        rcases List.mem_cons.mp hj with u | u
        · exact absurd u.symm e
        · have := g1 j u; omega
      · exact z
theorem subsI_mem : ∀ {l g : List Int}, l.Pairwise (· < ·) → g ∈ subsI l → g.Pairwise (· < ·) ∧ ∀ j ∈ g, j ∈ l
  | [], g, _, h => by
    rw [List.mem_singleton.mp h]
    exact ⟨List.Pairwise.nil, by simp⟩
  | x :: l, g, hl, h => by
    obtain ⟨l1, l2⟩ := List.pairwise_cons.mp hl
    rcases List.mem_append.mp h with z | z
    · obtain ⟨a, b⟩ := subsI_mem l2 z
      exact ⟨a, fun j hj => List.mem_cons_of_mem _ (b j hj)⟩
    · obtain ⟨g', hg', rfl⟩ := List.mem_map.mp z
      obtain ⟨a, b⟩ := subsI_mem l2 hg'
      refine ⟨List.pairwise_cons.mpr ⟨fun j hj => l1 j (b j hj), a⟩, fun j hj => ?_⟩
      rcases List.mem_cons.mp hj with u | u
      · subst u; exact List.mem_cons_self
      · exact List.mem_cons_of_mem _ (b j u)
def upN (n : Nat) : List Int := (List.range n).map fun i : Nat => (i : Int)
theorem upN_up (n : Nat) : (upN n).Pairwise (· < ·) := by
  unfold upN
  rw [List.pairwise_map]
  exact List.Pairwise.imp (fun {a b} h => by omega) List.pairwise_lt_range
theorem upN_mem {n : Nat} {j : Int} : j ∈ upN n ↔ 0 ≤ j ∧ j < n := by
  unfold upN
  rw [List.mem_map]
  constructor
  · rintro ⟨i, hi, rfl⟩
    have := List.mem_range.mp hi
    omega
  · rintro ⟨h1, h2⟩
    exact ⟨j.toNat, List.mem_range.mpr (by omega), by omega⟩
theorem upN_len (n : Nat) : (upN n).length = n := by unfold upN; rw [List.length_map, List.length_range]
/-- a group of places of n states -/
structure Grp (n : Nat) (g : List Int) : Prop where
  up : g.Pairwise (· < ·)
  lo : ∀ j ∈ g, 0 ≤ j ∧ j < n
theorem Grp.mem {n : Nat} {g : List Int} : g ∈ subsI (upN n) ↔ Grp n g := by
  constructor
  · intro h
    obtain ⟨a, b⟩ := subsI_mem (upN_up n) h
    exact ⟨a, fun j hj => upN_mem.mp (b j hj)⟩
  · intro h
    exact subsI_of (upN_up n) h.up fun j hj => upN_mem.mpr (h.lo j hj)
theorem Grp.len {n : Nat} {g : List Int} (h : Grp n g) : g.length ≤ n := by
  have := nodup_len (up_nodup h.up) fun j hj => upN_mem.mpr (h.lo j hj)
  rw [upN_len] at this
  exact this
/-- a move's row, as whole numbers -/
def rowI (ss : List Str) (im : List Str) : List Int := im.map fun x => ((pl ss x : Nat) : Int)
theorem rowI_V (ss im : List Str) : (rowI ss im).map V.int = im.map fun x => V.int (pl ss x) := by
  unfold rowI
  rw [List.map_map]
  rfl
end L2

namespace L2
open PySem
structure Bl3 (mg : Str → Option Value) : Prop where
  b_sorted : mg "sorted" = none
end L2

namespace L2
open PySem PySem.Spec PyProof.Rows
/-! ### tuple(zip(a, b, c)): a zip of three sources, gone through at once -/
local macro_rules | `(tactic| walk_at "aw") => `(tactic| first | omega | (intro q; have q : @Eq Nat _ _ := q; omega))
section
variable {prog : Program} {w : World} {A : Around} {E : Value → Shared → Prop} {s : Shared}
variable {St1 St2 St3 : Nat → Heap → Prop} {v1 v2 v3 : Nat → Option Value} {N l1 l2 l3 T0 : Nat}
end
end L2

namespace L2
open PySem PySem.Spec PyProof.Rows
local macro_rules | `(tactic| walk_at "aw") => `(tactic| first | omega | (intro q; have q : @Eq Nat _ _ := q; omega))
/-- many new things laid and tracked at once -/
theorem Inv.grown {X : Cx} {pins : List (Addr × Obj)} {σ : L2.St} {H H' : Hp} {s : Shared} {h' : Heap} {t' : Nat} (I : Inv X pins σ H s) (kp : ∀ b o, s.heap.get? b = some o → h'.get? b = some o) (sm : Same H H')
    (nw : ∀ b o, H' b = some o → H b = none → s.heap.objs.size ≤ b ∧ ObjOk X.prog X.w H' h' b o) : Inv X pins σ H' { s with heap := h', toks := t' } := by
  refine I.un ⟨fun b o hb _ _ _ => kp b o hb, fun b o hb _ _ _ => ⟨o.slots, kp b o hb⟩, fun b o hb n _ => ?_, fun b o hb _ => ⟨o, kp b o hb⟩, fun b xs z => sm _ _ z, fun b o u z => sm _ _ z, fun b ps z => ⟨#[], by rw [sm _ _ z]; simp⟩⟩ fun b o e => ?_
  · cases q : H' b with
    | none => rfl
    | some o' => exact absurd (nw b o' q n).1 (Nat.not_le.mpr (Heap.lt_size hb))
  · cases q : H b with
    | none => exact (nw b o e q).2
    | some o' =>
      have e2 := sm _ _ q
      rw [e] at e2
      cases e2
      exact (I.hok b o q).stay (fun x u _ hu => kp x u hu) (fun x hx => sm _ _ hx) fun x xs hx => sm _ _ hx
section
variable {prog : Program} {w : World} {A : Around} {E : Value → Shared → Prop} {s : Shared}
variable {St1 St2 St3 : Nat → Heap → Prop} {v1 v2 v3 : Nat → Option Value} {N l1 l2 l3 : Nat}
end
end L2

namespace L2
open PySem PySem.Spec PyProof.Rows
local macro_rules | `(tactic| walk_at "aw") => `(tactic| first | omega | (intro q; have q : @Eq Nat _ _ := q; omega))
section
variable {prog : Program} {w : World} {A : Around} {E : Value → Shared → Prop} {s : Shared}
variable {St1 St2 St3 : Nat → Heap → Prop} {v1 v2 v3 : Nat → Option Value} {N l1 l2 l3 n : Nat}
end
theorem boot_tuple5 : bootBuiltins "tuple" = some (.type "tuple") := by decide +kernel
end L2

namespace L2
open PySem PySem.Spec PyProof.Rows
/-- a text's signs -/
def signs (x : Str) : List V := x.cps.toList.map fun c => V.str ⟨#[c]⟩
section
variable {X : Cx}
theorem call_sortedL : CallR X (.builtin "sorted") (fun vs H Q => ∃ (a : Addr) (ns : List Int), vs = [V.ref a] ∧ H a = some (.lst (ns.map V.int)) ∧ ns.length < 64 ∧
  ∀ (ns' : List Int) (p : Addr), ns'.Perm ns → ns'.Pairwise (· ≤ ·) → H p = none → Q (.ref p) (upd H p (.lst (ns'.map V.int)))) := cr_sorted.imp fun _ _ _ ⟨a, ns, e, h, r⟩ => ⟨a, ns, e, SqL.of h, r⟩
end
/-! ### comprehensions with two fors -/
section
variable {X : Cx} {tg tg1 : Expr}
end
end L2

namespace L2
open PySem PySem.Calls PySem.Spec PyProof.Rows
/-! ### {kx: vx for tg in iter if .. for tg1 in iter1 if ..} -/
section
variable {prog : Program} {w : World} {A : Around} {R : Result → Shared → Prop} {s : Shared} {kx vx t0 i0 t1 i1 : Expr} {ifs0 ifs1 : List Expr} {scope : Scope} {pos : Pos} {it : Value} {D : Addr} {env : Env}
end

section
variable {X : Cx}
end
end L2

namespace L2
open PySem PySem.Spec PyProof.Rows
/-! ### lists of ints, compared -/
theorem dps_ints {K : PySem.W.Frag} {H : Hp} : ∀ row : List Int, DpAll K H (row.map V.int) (row.map PyData.int)
  | [] => .nil
  | x :: r => .cons (.int x) (dps_ints r)
/-! ### closed_classes -/
end L2

namespace L2
open PySem PySem.Spec PyProof.Rows
section
variable {X : Cx}
end
end L2

namespace HT
open PySem PySem.Spec PyProof.Rows
section
variable {prog : Program} {w : World} {A : Around} {E : Value → Shared → Prop} {s : Shared}
end
end HT
namespace L2
open PySem PySem.Spec PyProof.Rows
section
variable {prog : Program} {w : World} {A : Around} {E : Value → Shared → Prop} {s : Shared}
end
section
variable {X : Cx}
end
end L2

namespace L2
open PySem PySem.Spec PyProof.Rows
section
variable {X : Cx}
end
theorem Names.app {W : Wb} {a b : List Str} (ha : Names W a) (hb : Names W b) : Names W (a ++ b) := fun n hn => by
  rcases List.mem_append.mp hn with z | z
  · exact ha n z
  · exact hb n z
theorem Names.last {W : Wb} {a : List Str} (ha : Names W a) (k : Nat) : Names W (lastK a k) := fun n hn => ha n (List.mem_of_mem_drop hn)
theorem Names.first {W : Wb} {a : List Str} (ha : Names W a) (k : Nat) : Names W (a.take k) := fun n hn => ha n (List.mem_of_mem_take hn)
end L2

namespace L2
open PySem PySem.Spec PyProof.Rows
theorem strs_getI {xs : List Str} {i : Nat} {v : V} (h : (xs.map V.str)[i]? = some v) : ∃ y, xs[i]? = some y ∧ v = .str y := by
  rw [List.getElem?_map] at h
  cases e : xs[i]? with
  | none => rw [e] at h; cases h
  | some y => rw [e] at h; exact ⟨y, rfl, (Option.some.inj h).symm⟩
/-! ### a tuple of texts, looked for among such tuples -/
def TRows (H : Hp) (rs : List Addr) (M : List (List Str)) : Prop := Paired (fun r row => H r = some (.tup (row.map V.str))) rs M
theorem dps_strs {K : PySem.W.Frag} {H : Hp} : ∀ row : List Str, DpAll K H (row.map V.str) (row.map PyData.str)
  | [] => .nil
  | x :: r => .cons (.str x) (dps_strs r)
end L2

namespace L2
open PySem PySem.Spec PyProof.Rows
def uN (j : Nat) : Str := Str.ofString "u" ++ ⟨#[97 + j]⟩
def cN (j : Nat) : Str := ⟨#[97 + j, 97 + j, 97 + j]⟩
def nmS (W : Wb) (s : Str) : Str := uN (pl W.states s)
def nmC (W : Wb) (n : Str) : Str := cN (pl (W.moves.map (·.1)) n)
end L2

namespace L2
open PySem PySem.Spec PyProof.Rows
/-! ### a tuple of ints, looked for in a list of such tuples -/
theorem eqv_tints (a b : List Int) : PyData.eqv (.tuple (a.map PyData.int)) (.tuple (b.map PyData.int)) = decide (a = b) := by
  rw [show decide (a = b) = PyData.eqvAll (a.map PyData.int) (b.map PyData.int) from (PySem.W.ked_eqvAll a b).symm]
  simp only [PyData.eqv]
theorem shaped_tints (row : List Int) : SeqAt.shaped (.tuple (row.map PyData.int)) = true := by
  have z := shaped_of (n := 1) (d := .tup (row.map Dt.int)) (.tup 0 _ fun d hd => by
    obtain ⟨x, hx, rfl⟩ := List.mem_map.mp hd
    exact .int x) (by decide)
  have e : ∀ r : List Int, pyOf (.tup (r.map Dt.int)) = .tuple (r.map PyData.int) := fun r => by
    simp only [pyOf]
    congr 1
    induction r with
    | nil => rfl
    | cons x r ih => simp only [List.map_cons, pysOf, pyOf, ih]
  rw [e row] at z
  exact z
/-! ### a tuple's truth -/
/-! ### pairs of names -/
def twoP (q : Str × Str) : List Str := [q.1, q.2]
def PrsW (H : Hp) (a : Addr) (ps : List (Str × Str)) : Prop := ∃ rs : List Addr, H a = some (.tup (rs.map V.ref)) ∧ TRows H rs (ps.map twoP) ∧ ∀ q ∈ ps, IsName q.1 ∧ IsName q.2
theorem PrsW.mono {H H' : Hp} {a : Addr} {ps : List (Str × Str)} (h : PrsW H a ps) (k : KeepT H H') : PrsW H' a ps := by
  obtain ⟨rs, h1, h2, h3⟩ := h
  exact ⟨rs, k _ _ h1, Paired.mapP h2 fun _ _ z => k _ _ z, h3⟩
theorem eqvAll_nil (l : List PyData) : PyData.eqvAll l [] = l.isEmpty := by cases l <;> rfl
/-! ### the groups of two places -/
end L2

namespace L2
open PySem PySem.Spec PyProof.Rows
/-! ### orders: what stands above -/
def nxO (ps : List (Str × Str)) (s : Str) : List Str := (ps.filter fun q => decide (q.1 = s)).map (·.2)
def Ab (ps : List (Str × Str)) (s t : Str) : Prop := ∃ u, Reach (nxO ps) s u ∧ t ∈ nxO ps u
def OrdIn (ps : List (Str × Str)) (ss : List Str) : Prop := ∀ q ∈ ps, q.1 ∈ ss ∧ q.2 ∈ ss
theorem nxO_mem {ps : List (Str × Str)} {s t : Str} : t ∈ nxO ps s ↔ (s, t) ∈ ps := by
  unfold nxO
  rw [List.mem_map]
  constructor
  · rintro ⟨⟨a, b⟩, h, rfl⟩
    obtain ⟨h1, h2⟩ := List.mem_filter.mp h
    have h2 : a = s := of_decide_eq_true h2
    rw [← h2]
    exact h1
  · intro h
    exact ⟨(s, t), List.mem_filter.mpr ⟨h, decide_eq_true rfl⟩, rfl⟩
theorem Ab.one {ps : List (Str × Str)} {s t : Str} (h : (s, t) ∈ ps) : Ab ps s t := ⟨s, .refl, nxO_mem.mpr h⟩
theorem Ab.on {ps : List (Str × Str)} {s t u : Str} (h : Ab ps s t) (h2 : (t, u) ∈ ps) : Ab ps s u := by
  obtain ⟨v, h3, h4⟩ := h
  exact ⟨t, .step h3 h4, nxO_mem.mpr h2⟩
theorem Reach.ab {ps : List (Str × Str)} {s t : Str} (h : Reach (nxO ps) s t) : s = t ∨ Ab ps s t := by
  cases h with
  | refl => exact .inl rfl
  | step h1 h2 => exact .inr ⟨_, h1, h2⟩
theorem Ab.least {ps : List (Str × Str)} {s : Str} {R : Str → Prop} (h1 : ∀ t, (s, t) ∈ ps → R t) (h2 : ∀ t u, R t → (t, u) ∈ ps → R u) : ∀ t, Ab ps s t → R t := by
  have key : ∀ t, Reach (nxO ps) s t → ∀ u, u ∈ nxO ps t → R u := by
    intro t h
    induction h with
    | refl => exact fun u hu => h1 u (nxO_mem.mp hu)
    | step _ hc ih => exact fun u hu => h2 _ _ (ih _ hc) (nxO_mem.mp hu)
  rintro t ⟨u, hu, ht⟩
  exact key u hu t ht
theorem Ab.trans {ps : List (Str × Str)} {s t u : Str} (h1 : Ab ps s t) (h2 : Ab ps t u) : Ab ps s u := Ab.least (R := fun x => Ab ps s x) (fun x hx => h1.on hx) (fun x y hx hy => hx.on hy) u h2
theorem Ab.in {ps : List (Str × Str)} {ss : List Str} (o : OrdIn ps ss) {s t : Str} (h : Ab ps s t) : t ∈ ss := by
  obtain ⟨u, _, h⟩ := h
  exact (o _ (nxO_mem.mp h)).2
/-- the order's pairs rise by a rank -/
theorem Ab.rank {ps : List (Str × Str)} {r : Str → Nat} (hr : ∀ q ∈ ps, r q.1 < r q.2) {s t : Str} (h : Ab ps s t) : r s < r t := Ab.least (R := fun x => r s < r x) (fun x hx => hr _ hx) (fun x y hx hy => Nat.lt_trans hx (hr _ hy)) t h
theorem Ab.congr {ps qs : List (Str × Str)} (h : ∀ q ∈ ps, Ab qs q.1 q.2) {s t : Str} (a : Ab ps s t) : Ab qs s t := Ab.least (R := fun x => Ab qs s x) (fun x hx => h _ hx) (fun x y hx hy => hx.trans (h _ hy)) t a
/-! ### the dicts of what stands above -/
def AbvD (H : Hp) (b : Addr) (ss : List Str) (ps : List (Str × Str)) (s : Str) : Prop := ∃ o kv, H b = some (.frz o (.dK kv)) ∧ (∀ t, (valV kv (.inr t)).isSome = true ↔ Ab ps s t) ∧ (∀ k ∈ kv.map (·.1), ∃ t, k = Sum.inr t ∧ t ∈ ss) ∧ (kv.map (·.1)).Nodup
theorem AbvD.same {H H' : Hp} {b : Addr} {ss : List Str} {ps : List (Str × Str)} {s : Str} (h : AbvD H b ss ps s) (k : Same H H') : AbvD H' b ss ps s := by
  obtain ⟨o, kv, h1, h2⟩ := h
  exact ⟨o, kv, k _ _ h1, h2⟩
def AbvV (H : Hp) (ss : List Str) (ps : List (Str × Str)) (kvs : List (Key × V)) : Prop := ∀ p ∈ kvs, ∃ s b, p.1 = Sum.inr s ∧ p.2 = .ref b ∧ AbvD H b ss ps s
theorem AbvV.same {H H' : Hp} {ss : List Str} {ps : List (Str × Str)} {kvs : List (Key × V)} (h : AbvV H ss ps kvs) (k : Same H H') : AbvV H' ss ps kvs := fun p hp => by
  obtain ⟨s, b, h1, h2, h3⟩ := h p hp
  exact ⟨s, b, h1, h2, h3.same k⟩
def AbvAt (H : Hp) (a : Addr) (ss : List Str) (ps : List (Str × Str)) : Prop := ∃ o kvs, H a = some (.frz o (.dK kvs)) ∧ kvs.map (·.1) = ss.map Sum.inr ∧ AbvV H ss ps kvs
theorem AbvAt.same {H H' : Hp} {a : Addr} {ss : List Str} {ps : List (Str × Str)} (h : AbvAt H a ss ps) (k : Same H H') : AbvAt H' a ss ps := by
  obtain ⟨o, kvs, h1, h2, h3⟩ := h
  exact ⟨o, kvs, k _ _ h1, h2, h3.same k⟩
theorem valV_mem {kvs : List (Key × V)} {k : Key} {v : V} (h : valV kvs k = some v) : (k, v) ∈ kvs := by
  unfold valV at h
  cases e : kvs.find? fun kv => decide (kv.1 = k) with
  | none => rw [e] at h; cases h
  | some p =>
    rw [e] at h
    have h : p.2 = v := Option.some.inj h
    have h1 := List.find?_some e
    have h1 : p.1 = k := of_decide_eq_true h1
    have h2 := List.mem_of_find?_eq_some e
    obtain ⟨p1, p2⟩ := p
    cases h
    cases h1
    exact h2
theorem valV_has {kvs : List (Key × V)} {k : Key} (h : k ∈ kvs.map (·.1)) : ∃ v, valV kvs k = some v := by
  cases e : valV kvs k with
  | some v => exact ⟨v, rfl⟩
  | none => exact absurd h (valV_not e)
theorem AbvAt.get {H : Hp} {ss : List Str} {ps : List (Str × Str)} {kvs : List (Key × V)} (hk : kvs.map (·.1) = ss.map Sum.inr) (hv : AbvV H ss ps kvs) {s : Str} (hs : s ∈ ss) : ∃ b, valV kvs (.inr s) = some (.ref b) ∧ AbvD H b ss ps s := by
  obtain ⟨v, e⟩ := valV_has (kvs := kvs) (k := .inr s) (by rw [hk]; exact List.mem_map.mpr ⟨s, hs, rfl⟩)
  obtain ⟨s', b, h1, h2, h3⟩ := hv _ (valV_mem e)
  cases h1
  have h2 : v = .ref b := h2
  subst h2
  exact ⟨b, e, h3⟩
/-! ### steps_from, the values known -/
/-! ### two fors over dicts -/
/-! ### the promises -/
theorem AbvD.len {ss : List Str} {kv : List (Key × V)} (h : ∀ k ∈ kv.map (·.1), ∃ t, k = Sum.inr t ∧ t ∈ ss) (nd : (kv.map (·.1)).Nodup) : kv.length ≤ ss.length := by
  have := nodup_len (U := ss.map (Sum.inr : Str → Key)) nd fun k hk => by
    obtain ⟨t, e, ht⟩ := h k hk
    rw [e]
    exact List.mem_map.mpr ⟨t, ht, rfl⟩
  rw [List.length_map, List.length_map] at this
  exact this
/-- the dict of lists of what stands above -/
def AbvL (H : Hp) (a : Addr) (ss : List Str) (ps : List (Str × Str)) : Prop := ∃ kvs : List (Key × V), H a = some (.dK kvs) ∧ ∀ s ∈ ss, ∃ (L : Addr) (fs : List Str), valV kvs (.inr s) = some (.ref L) ∧ H L = some (.lst (fs.map V.str)) ∧ fs.Nodup ∧ ∀ t, t ∈ fs ↔ Ab ps s t
theorem AbvL.same {H H' : Hp} {a : Addr} {ss : List Str} {ps : List (Str × Str)} (h : AbvL H a ss ps) (k : Same H H') : AbvL H' a ss ps := by
  obtain ⟨kvs, h1, h2⟩ := h
  refine ⟨kvs, k _ _ h1, fun s hs => ?_⟩
  obtain ⟨L, fs, a1, a2, a3⟩ := h2 s hs
  exact ⟨L, fs, a1, k _ _ a2, a3⟩
/-! ### rows of states, and the pairs that rise along them -/
def Ranked (rw : List Str) (ps : List (Str × Str)) : Prop := ∀ q ∈ ps, ∃ j k : Nat, j < k ∧ rw[j]? = some q.1 ∧ rw[k]? = some q.2
def rkS (rw : List Str) (s : Str) : Nat := rw.findIdx fun t => decide (t = s)
theorem rkS_get {rw : List Str} {s : Str} {k : Nat} (nd : rw.Nodup) (h : rw[k]? = some s) : rkS rw s = k := by
  have hm := List.mem_of_getElem? h
  have h1 : rkS rw s < rw.length := List.findIdx_lt_length.mpr ⟨s, hm, decide_eq_true rfl⟩
  have h2 : rw[rkS rw s]? = some s := by
    rw [List.getElem?_eq_getElem h1]
    have := List.findIdx_getElem (p := fun t => decide (t = s)) (w := h1)
    rw [show rw[rkS rw s] = s from of_decide_eq_true this]
  exact (List.getElem?_inj h1 nd).mp (h2.trans h.symm)
theorem Ranked.rank {rw : List Str} {ps : List (Str × Str)} (nd : rw.Nodup) (h : Ranked rw ps) : ∀ q ∈ ps, rkS rw q.1 < rkS rw q.2 := fun q hq => by
  obtain ⟨j, k, hjk, h1, h2⟩ := h q hq
  rw [rkS_get nd h1, rkS_get nd h2]
  exact hjk
theorem Ranked.ac {rw : List Str} {ps : List (Str × Str)} (nd : rw.Nodup) (h : Ranked rw ps) : ∀ s, ¬ Ab ps s s := fun s a => Nat.lt_irrefl _ (Ab.rank (h.rank nd) a)
theorem Ranked.in {rw : List Str} {ps : List (Str × Str)} (h : Ranked rw ps) : ∀ q ∈ ps, q.1 ∈ rw ∧ q.2 ∈ rw := fun q hq => by
  obtain ⟨j, k, _, h1, h2⟩ := h q hq
  exact ⟨List.mem_of_getElem? h1, List.mem_of_getElem? h2⟩
/-- the list of pairs, so far -/
def prF (F d a : Addr) (rw : List Str) (n N : Nat) (H H' : Hp) : Prop := ∃ (frs : List Addr) (fs : List (Str × Str)), H F = none ∧ F ≠ d ∧ F ≠ a ∧ H' F = some (.lst (frs.map V.ref)) ∧ TRows H' frs (fs.map twoP) ∧ Ranked rw fs ∧ fs.length ≤ n ∧ Keep d H H' ∧ Deck H' d a N
theorem prF.on {F d a : Addr} {rw : List Str} {n N N' : Nat} {H H' H'' : Hp} (h : prF F d a rw n N H H') (k : Keep d H' H'') (D : Deck H'' d a N') : prF F d a rw n N' H H'' := by
  obtain ⟨frs, fs, a1, a2, a3, a4, a5, a6, a7, a8, a9⟩ := h
  exact ⟨frs, fs, a1, a2, a3, k _ _ a4 a2, Paired.mapP a5 fun _ _ z => k.keepT a9 _ _ z, a6, a7, a8.trans k, D⟩
theorem prF.app {F d a T : Addr} {rw : List Str} {n N : Nat} {H H' : Hp} {l : List V} {q : Str × Str} {j k : Nat} (h : prF F d a rw n N H H') (hjk : j < k) (h1 : rw[j]? = some q.1) (h2 : rw[k]? = some q.2) (hT : H' T = none) (e : H' F = some (.lst l)) :
    prF F d a rw (n + 1) N H (upd (upd H' T (.tup [.str q.1, .str q.2])) F (.lst (l ++ [.ref T]))) := by
  obtain ⟨frs, fs, a1, a2, a3, a4, a5, a6, a7, a8, a9⟩ := h
  rw [a4] at e
  cases e
  have nFT : F ≠ T := ne_of_none a4 hT
  have e1 : (upd H' T (.tup [.str q.1, .str q.2])) F = some (.lst (frs.map V.ref)) := by rw [upd_ne nFT]; exact a4
  have s1 : Same H' (upd H' T (.tup [.str q.1, .str q.2])) := Same.new (Same.refl H') hT
  have kt : KeepT (upd H' T (.tup [.str q.1, .str q.2])) (upd (upd H' T (.tup [.str q.1, .str q.2])) F (.lst (frs.map V.ref ++ [V.ref T]))) := keepT_put e1 fun xs z => nomatch z
  refine ⟨frs ++ [T], fs ++ [q], a1, a2, a3, by rw [upd_same, app_map], ?_, fun x hx => ?_, by rw [List.length_append]; simp; omega, Keep.put (a8.new hT) a1, (a9.new hT).put a2 a3⟩
  · rw [List.map_append]
    exact paired_snoc (Paired.mapP a5 fun _ _ z => kt _ _ (s1 _ _ z)) (kt _ _ upd_same)
  · rcases List.mem_append.mp hx with z | z
    · exact a6 x z
    · rw [List.mem_singleton.mp z]
      exact ⟨j, k, hjk, h1, h2⟩
section
variable {X : Cx}
end
theorem Deck.tbl {H : Hp} {d a p : Addr} {n : Nat} {ps : Array Value} (D : Deck H d a n) (h : H p = some (.tbl ps)) : p ≠ d := by
  obtain ⟨ys, hd⟩ := D.lst
  exact ne_of h hd (by intro z; cases z)

end L2

namespace L2
open PySem PySem.Spec PyProof.Rows
local macro_rules | `(tactic| walk_at "hp") => `(tactic| first
  | assumption
  | exact upd_same
  | ((refine Eq.trans (upd_ne ?_) ?_); (walk_at "ne"); (walk_at "hp"))
  | ((refine Keep.get (by assumption) ?_ ?_); (walk_at "hp"); (walk_at "ne"))
  | ((refine (by assumption : Same _ _) _ _ ?_); (walk_at "hp")))
local macro_rules | `(tactic| walk_at "ne") => `(tactic| first
  | assumption
  | exact Ne.symm (by assumption)
  | ((apply ne_of_none'); assumption; (walk_at "hp"))
  | ((apply Ne.symm); (apply ne_of_none'); assumption; (walk_at "hp")))
local macro_rules | `(tactic| walk_at "cl") => `(tactic| first
  | ((with_reducible refine (?_ : PySem.W.kitOne _ _ _ = some _)); assumption)
  | rfl
  | assumption
  | ((apply SqL.of); (walk_at "hp"))
  | ((apply SqT.of); (walk_at "hp"))
  | ((with_reducible apply Or.inl); (apply SqL.of); (walk_at "hp"))
  | ((with_reducible apply Or.inr); (apply SqT.of); (walk_at "hp"))
  | ((with_reducible apply Exists.intro); (apply SqL.of); (walk_at "hp"))
  | ((with_reducible apply Exists.intro); (apply SqT.of); (walk_at "hp"))
  | ((with_reducible apply Or.inl); (walk_at "hp"))
  | ((with_reducible apply Or.inr); (walk_at "hp"))
  | exact ⟨_, rfl⟩
  | exact TyOf.str _
  | exact TyOf.int _
  | exact TyOf.bl _
  | ((apply TyOf.tup); (walk_at "hp"))
  | ((apply TyOf.lst); (walk_at "hp"))
  | exact Nat.le_of_ble_eq_true rfl
  | decide
  | omega
  | ((show (0 : Int) < _); first | decide | omega)
  | ((apply cdivI); (first | decide | omega); (first | decide | omega))
  | ((apply cmulL); omega; omega)
  | ((apply cmulR); omega; omega)
  | exact cpowI
  | walk_at "hp")
local macro_rules | `(tactic| walk_at "rd") => `(tactic| repeat (first
  | (with_reducible apply Exists.intro)
  | ((with_reducible apply And.intro); (walk_at "cl"))))

section
variable {X : Cx}
theorem cr_allK (K : PySem.W.Frag) (h : X.K = K) (hc : X.calm = true) : CallR X (.builtin "all") (rAll K) := by
  subst h
  exact cr_all hc
end
/-! ### the least and the greatest state -/
/-! ### by two states -/
/-! ### the bound web -/
section
variable {rw' : List Str} {lo hi : Str}
end
end L2

namespace L2
open PySem PySem.Spec PyProof.Rows
theorem hd_if {X : Cx} {c : Expr} {a b : List Stmt} {pos : Pos} {tc : TT} {t u : TS} (hc : Hd (PT X c tc)) (ha : Hd (PSs X a t)) (hb : Hd (PSs X b u)) : Hd (PS X (.If c a b pos) (tIfS tc t u)) := ⟨ps_if hc.out ha.out hb.out⟩
/-! ### list(range(n)) -/
@[reducible] def tListRng (ta : TA) : TE := fun σ H Q => ta σ H fun vs H1 => ∃ j : Int, vs = [.int j] ∧ 0 ≤ j ∧ j ≤ 1000 ∧ ∀ l, H1 l = none → Q (.ref l) (upd H1 l (.lst (((List.range j.toNat).map fun k : Nat => (k : Int)).map V.int)))
theorem boot_list5 : bootBuiltins "list" = some (.type "list") := by decide +kernel
theorem vals_rng {n : Nat} {acc : Array Value} (h : ItemsOf (fun i v => ∃ t, v = Value.int (0 + i * 1) t) acc n) : Vals (((List.range n).map fun k : Nat => (k : Int)).map V.int) acc.toList := by
  have key : ∀ (us : List Value) (k : Nat), (∀ (j : Nat) (v : Value), us[j]? = some v → ∃ t, v = Value.int ((k + j : Nat) : Int) t) → Vals (((List.range' k us.length).map fun k : Nat => (k : Int)).map V.int) us := by
    intro us
    induction us with
    | nil => intro k _; exact .nil
    | cons u us ih =>
      intro k g
      obtain ⟨t, e⟩ := g 0 u rfl
      subst e
      rw [List.length_cons, List.range'_succ, List.map_cons, List.map_cons]
      refine .cons ⟨t, rfl⟩ (ih (k + 1) fun j v hv => ?_)
      obtain ⟨t', e'⟩ := g (j + 1) v (by simpa using hv)
      exact ⟨t', by rw [e', show k + (j + 1) = k + 1 + j by omega]⟩
  have hl : acc.toList.length = n := by rw [Array.length_toList]; exact h.1
  have := key acc.toList 0 fun j v hv => by
    obtain ⟨t, e⟩ := h.2 j v (by rw [← Array.getElem?_toList]; exact hv)
    exact ⟨t, by rw [e]; congr 1; omega⟩
  rw [hl, ← List.range_eq_range'] at this
  exact this
theorem pe_listRng {X : Cx} {a : Expr} {ta : TA} {p p' pos pos' : Pos} (hgd : Gl X "list") (hmd : X.mg "list" = none) (hg : Gl X "range") (hm : X.mg "range" = none) (ha : PA X [a] ta) (hs : starEach [a] X.env = [(false, eval a X.env)] := by rfl) (hcalm : X.calm = true := by rfl) :
    PE X (.Call (.Name "list" p') [.Call (.Name "range" p) [a] [] pos] [] pos') (tListRng ta) := by
  intro pins s σ H Q I h
  refine Call_ (ld_blt I hgd hmd boot_list5 (PyProof.Rows.callWith_type1 (Calls.spliced_cons (thn (Q := fun v s1 => wpAny (model X.prog X.w) X.A (call (.type "list") [v]) (EP X pins σ Q) X.xe s1) ?_ fun v s1 hv => Calls.spliced_nil hv)) rfl rfl))
  refine (show wpAny _ _ (eval (.Call (.Name "range" p) [a] [] pos) X.env) _ _ _ from ?_)
  refine Call_ (ld_blt I hg hm boot_range (PyProof.Rows.callWith_type1 (thn (ha pos pins s σ H _ I h) fun us s1 ⟨vs, H1, I1, r1, q1⟩ => ?_) hs rfl))
  obtain ⟨j, e, q1, q2, q⟩ := q1
  subst e
  cases r1 with
  | cons r rr =>
    cases rr
    obtain ⟨t, rfl⟩ := r
    refine call_range_1 ?_
    have hr : IsRange (s1.heap.push { cls := .type "range", data := .fields #[.int 0 s1.toks, .int j t, .int 1 (s1.toks + 1)] }) s1.heap.objs.size 0 j 1 s1.toks t (s1.toks + 1) := IsRange.new ..
    have hsz : Builtin.Range.rangeSize 0 j 1 = ((j.toNat : Nat) : Int) := by rw [rangeSize_one]; split <;> omega
    have I2 : Inv X pins σ H1 { s1 with heap := s1.heap.push { cls := .type "range", data := .fields #[.int 0 s1.toks, .int j t, .int 1 (s1.toks + 1)] }, toks := s1.toks + 1 + 1 } := I1.kept fun b o e => Heap.get?_push_of_some _ e
    refine call_list_range (n := j.toNat) (I2.ok.hd hcalm) hr (small_one (by omega) (by omega) (by omega) (by omega)) hsz (by omega) fun h' tk acc c hk hS hacc => ?_
    have hl : (((List.range j.toNat).map fun k : Nat => (k : Int)).map V.int).length ≤ sizeLine := by
      rw [List.length_map, List.length_map, List.length_range, sl_eq]
      omega
    exact ⟨.ref (s1.heap.push { cls := .type "range", data := .fields #[.int 0 s1.toks, .int j t, .int 1 (s1.toks + 1)] }).objs.size, upd H1 (s1.heap.push { cls := .type "range", data := .fields #[.int 0 s1.toks, .int j t, .int 1 (s1.toks + 1)] }).objs.size (.lst (((List.range j.toNat).map fun k : Nat => (k : Int)).map V.int)), I2.laid (t' := tk) hk (Nat.le_refl _) ⟨hl, acc.toList, c, vals_rng hacc, by simpa using hS⟩, rfl, q _ (I2.hok.fresh (Nat.le_refl _))⟩
/-! ### the deck whose cells are used up in their places -/
structure DeckD (H : Hp) (d a : Addr) : Prop where
  ex : ∃ (cs : List Int) (i sd : Int), H d = some (.lst [.ref a, .int i, .int sd]) ∧ H a = some (.lst (cs.map V.int)) ∧ 0 < cs.length ∧ cs.length ≤ 64
def KeepD (d a : Addr) (H H' : Hp) : Prop := ∀ b o, H b = some o → b ≠ d → b ≠ a → H' b = some o
section
variable {H H' H1 H2 : Hp} {d a p b : Addr} {o : HO}
theorem DeckD.nad (D : DeckD H d a) : a ≠ d := by
  obtain ⟨cs, i, sd, h1, h2, _⟩ := D.ex
  exact ne_of h2 h1 (by intro z; cases cs <;> cases z)
theorem DeckD.same (D : DeckD H d a) (k : Same H H') : DeckD H' d a := by
  obtain ⟨cs, i, sd, h1, h2, h⟩ := D.ex
  exact ⟨cs, i, sd, k _ _ h1, k _ _ h2, h⟩
theorem DeckD.new (D : DeckD H d a) (hp : H p = none) : DeckD (upd H p o) d a := D.same (Same.new (Same.refl H) hp)
theorem DeckD.put (D : DeckD H d a) (hd : p ≠ d) (ha : p ≠ a) : DeckD (upd H p o) d a := by
  obtain ⟨cs, i, sd, h1, h2, h⟩ := D.ex
  exact ⟨cs, i, sd, (upd_ne (Ne.symm hd)).trans h1, (upd_ne (Ne.symm ha)).trans h2, h⟩
theorem DeckD.free1 (D : DeckD H d a) (h : H p = none) : p ≠ d := by
  obtain ⟨cs, i, sd, h1, h2, _⟩ := D.ex
  exact (ne_of_none h1 h).symm
theorem DeckD.free2 (D : DeckD H d a) (h : H p = none) : p ≠ a := by
  obtain ⟨cs, i, sd, h1, h2, _⟩ := D.ex
  exact (ne_of_none h2 h).symm
theorem DeckD.tup1 {xs : List V} (D : DeckD H d a) (h : H p = some (.tup xs)) : p ≠ d := by
  obtain ⟨cs, i, sd, h1, h2, _⟩ := D.ex
  exact ne_of h h1 (by intro z; cases z)
theorem DeckD.tup2 {xs : List V} (D : DeckD H d a) (h : H p = some (.tup xs)) : p ≠ a := by
  obtain ⟨cs, i, sd, h1, h2, _⟩ := D.ex
  exact ne_of h h2 (by intro z; cases z)
theorem KeepD.refl : KeepD d a H H := fun _ _ h _ _ => h
theorem KeepD.trans (k : KeepD d a H H1) (l : KeepD d a H1 H2) : KeepD d a H H2 := fun c o h n m => l c o (k c o h n m) n m
theorem Same.keepD (k : Same H H') : KeepD d a H H' := fun c o h _ _ => k c o h
theorem KeepD.new (k : KeepD d a H H') (hp : H' p = none) : KeepD d a H (upd H' p o) := fun c u h n m => by
  have q := k c u h n m
  rw [upd_ne (ne_of_none q hp)]
  exact q
theorem KeepD.put (k : KeepD d a H H') (hp : H p = none) : KeepD d a H (upd H' p o) := fun c u h n m => by
  rw [upd_ne (ne_of_none h hp)]
  exact k c u h n m
theorem KeepD.free (k : KeepD d a H H') (h : H' p = none) (n : p ≠ d) (m : p ≠ a) : H p = none := by
  cases q : H p with
  | none => rfl
  | some o => rw [k p o q n m] at h; cases h
theorem KeepD.keepT (k : KeepD d a H H') (D : DeckD H d a) : KeepT H H' := fun b xs h => k b _ h (D.tup1 h) (D.tup2 h)
/-- free behind, free ahead -/
theorem KeepD.free' (k : KeepD d a H H') (D : DeckD H' d a) (h : H' p = none) : H p = none := k.free h (D.free1 h) (D.free2 h)
end
def spDeckD (K : PySem.W.Frag) : Sp := fun vs H Q _ => ∃ (a : Addr) (ns : List Int), vs = [.ref a] ∧ SqL K H a (ns.map V.int) ∧ ns.length ≤ 63 ∧ ∀ (d e : Addr) (H' : Hp), H d = none → H e = none → Same H H' → DeckD H' d e → Q (.ref d) H'
def spTake : Sp := fun vs H Q _ => ∃ (d a : Addr) (m : Int), vs = [.ref d, .int m] ∧ 0 < m ∧ m ≤ 1000 ∧ DeckD H d a ∧ ∀ (z : Int) (H' : Hp), 0 ≤ z → z < m → KeepD d a H H' → DeckD H' d a → Q (.int z) H'
def spNamesD : Sp := fun vs H Q _ => ∃ (d a : Addr) (m : Int), vs = [.ref d, .int m] ∧ 1 ≤ m ∧ m ≤ 8 ∧ DeckD H d a ∧
  ∀ (l : Addr) (xs : List Str) (H' : Hp), H l = none → H' l = some (.lst (xs.map V.str)) → (xs.length : Int) = m → xs.Nodup → (∀ x ∈ xs, IsName x) → KeepD d a H H' → DeckD H' d a → Q (.ref l) H'
/-- [letters[take(deck, 26)] for .. in range(n)] -/
theorem lc_signsD {i n : Nat} {lo : Int} {σ : L2.St} {H1 : Hp} {Q : VK} {d a : Addr} (hi0 : i ≠ 0) (hi2 : i ≠ 2) (h0 : σ[0]? = some (some (.ref d))) (h2 : σ[2]? = some (some (.str (Str.ofString "abcdefghijklmnopqrstuvwxyz")))) (D1 : DeckD H1 d a) (hn : n ≤ 1000)
    (q : ∀ (D : Addr) (ys : List Str) (H' : Hp), H1 D = none → H' D = some (.lst (ys.map V.str)) → ys.length = n → (∀ y ∈ ys, Sign y) → KeepD d a H1 H' → DeckD H' d a → Q (.ref D) H') :
    LcW (Itr lo n) (gName i) tYes (tOp rIxS (tVar 2) (tCall spTake [] E0 (tCons (tVar 0) (tCons (tC (V.int 26)) tNil)))) [i] σ H1 Q := by
  have hL := ltrs_len
  refine lcR_range fun D hD => ⟨fun k H => ∃ ys : List Str, H D = some (.lst (ys.map V.str)) ∧ ys.length = k ∧ (∀ y ∈ ys, Sign y) ∧ KeepD d a H1 H ∧ DeckD H d a, ?_, ?_, ?_⟩
  · exact ⟨[], upd_same, rfl, fun y hy => by simp at hy, KeepD.refl.new hD, D1.new hD⟩
  · rintro k H hk ⟨ys, h1, h3, h4, k1, DK⟩
    have hDd : D ≠ d := D1.free1 hD
    have hDa : D ≠ a := D1.free2 hD
    refine ⟨set_back σ i _, iteT ⟨_, (get_back hi2).trans h2, _, (get_back hi0).trans h0, ?_⟩⟩
    refine ⟨d, a, 26, rfl, by decide, by decide, DK, fun z H' z0 z1 k2 D2 => ?_⟩
    obtain ⟨s, e1, s1, s2, s3⟩ := ltrs_at z0 z1
    have hD' : H' D = some (.lst (ys.map V.str)) := k2 _ _ h1 hDd hDa
    refine ⟨_, _, s, rfl, rfl, hL, e1, _, hD', by rw [List.length_map]; exact small (by omega), ys ++ [⟨#[s]⟩], ?_, by simp [h3], ?_, KeepD.put (k1.trans k2) hD, D2.put hDd hDa⟩
    · rw [upd_same, ← app_map]
    · intro y hy
      rcases List.mem_append.mp hy with z | z
      · exact h4 y z
      · have : y = ⟨#[s]⟩ := by simpa using z
        rw [this]
        exact sign_of s1 s2
  · rintro H ⟨ys, h1, h3, h4, k1, DK⟩
    exact q D ys H hD h1 h3 h4 k1 DK
/-- left.pop(take(deck, len(left))) -/
theorem te_popD {jf jd : Nat} {σ : L2.St} {H : Hp} {Q : VK} {F d a : Addr} {zs : List V} (hf : σ[jf]? = some (some (.ref F))) (hd : σ[jd]? = some (some (.ref d))) (hF : H F = some (.lst zs)) (h0 : 0 < zs.length) (h1 : zs.length ≤ 1000) (nF : F ≠ d) (nFa : F ≠ a)
    (DK : DeckD H d a) (q : ∀ (k : Nat) (y : V) (H' : Hp), zs[k]? = some y → KeepD d a H H' → H' F = some (.lst zs) → DeckD H' d a → Q y (upd H' F (.lst (zs.eraseIdx k)))) :
    tBML rPopAt (tVar jf) (tCons (tCall spTake [] E0 (tCons (tVar jd) (tCons (tCB rLenL (tCons (tVar jf) tNil)) tNil))) tNil) σ H Q := by
  refine ⟨_, hf, F, zs, rfl, hF, _, hd, _, hf, F, zs, rfl, hF, d, a, (zs.length : Int), rfl, by omega, by omega, DK, fun z H' z0 z1 k1 D1 => ?_⟩
  obtain ⟨k, rfl⟩ := Int.eq_ofNat_of_zero_le z0
  have hk : k < zs.length := by omega
  have hF' : H' F = some (.lst zs) := k1 _ _ hF nF nFa
  refine ⟨F, zs, _, k, zs[k], rfl, rfl, hF', by omega, by omega, ?_, by simp [hk], q k _ H' (by simp [hk]) k1 hF' D1⟩
  rw [seqIndex_of z0 z1]
  simp
theorem pops_rangeD {i jf jd n : Nat} {lo : Int} {σ : L2.St} {H1 : Hp} {Q : VK} {F d a : Addr} {xs : List V} (hi : i ≠ jf) (hi' : i ≠ jd) (hf : σ[jf]? = some (some (.ref F))) (hd : σ[jd]? = some (some (.ref d))) (hF : H1 F = some (.lst xs)) (hn : n ≤ xs.length) (h1 : xs.length ≤ 1000) (nF : F ≠ d) (nFa : F ≠ a)
    (DK : DeckD H1 d a)
    (q : ∀ (D : Addr) (ys zs : List V) (H' : Hp), H1 D = none → H' D = some (.lst ys) → (ys ++ zs).Perm xs → ys.length = n → (∀ b o, H1 b = some o → b ≠ d → b ≠ a → b ≠ F → H' b = some o) → DeckD H' d a → Q (.ref D) H') :
    LcW (Itr lo n) (gName i) tYes (tBML rPopAt (tVar jf) (tCons (tCall spTake [] E0 (tCons (tVar jd) (tCons (tCB rLenL (tCons (tVar jf) tNil)) tNil))) tNil)) [i] σ H1 Q := by
  refine lcR_range fun D hD => ⟨fun k H => ∃ ys zs : List V, H D = some (.lst ys) ∧ H F = some (.lst zs) ∧ (ys ++ zs).Perm xs ∧ ys.length = k ∧ (∀ b o, H1 b = some o → b ≠ d → b ≠ a → b ≠ F → H b = some o) ∧ DeckD H d a, ?_, ?_, ?_⟩
  · exact ⟨[], xs, upd_same, by rw [upd_ne (ne_of_none hF hD)]; exact hF, List.Perm.refl _, rfl, fun b o e _ _ _ => by rw [upd_ne (ne_of_none e hD)]; exact e, DK.new hD⟩
  · rintro k H hk ⟨ys, zs, g1, g2, pm, gl, kp, D2⟩
    have hDd : D ≠ d := DK.free1 hD
    have hDa : D ≠ a := DK.free2 hD
    have hDF : D ≠ F := (ne_of_none hF hD).symm
    have lz : ys.length + zs.length = xs.length := by
      have := pm.length_eq
      rw [List.length_append] at this
      omega
    refine ⟨set_back σ i _, iteT (te_popD ((get_back hi).trans hf) ((get_back hi').trans hd) g2 (by omega) (by omega) nF nFa D2 fun j y H' hj k1 g3 D3 => ?_)⟩
    refine ⟨ys, by rw [upd_ne hDF]; exact k1 _ _ g1 hDd hDa, small (by omega), ys ++ [y], zs.eraseIdx j, upd_same, by rw [upd_ne (Ne.symm hDF), upd_same], pop_all pm hj, by simp [gl], fun b o e n1 n3 n2 => ?_, ?_⟩
    · rw [upd_ne (ne_of_none e hD), upd_ne n2]
      exact k1 _ _ (kp b o e n1 n3 n2) n1 n3
    · exact (D3.put nF nFa).put hDd hDa
  · rintro H ⟨ys, zs, g1, g2, pm, gl, kp, D2⟩
    exact q D ys zs H hD g1 pm gl kp D2
/-- what is popped of texts, of numbers -/
theorem vs_strs : ∀ {ys : List V}, (∀ y ∈ ys, ∃ x, y = V.str x) → ∃ zs : List Str, ys = zs.map V.str
  | [], _ => ⟨[], rfl⟩
  | y :: ys, h => by
    obtain ⟨x, rfl⟩ := h y (by simp)
    obtain ⟨zs, rfl⟩ := vs_strs (ys := ys) fun z hz => h z (by simp [hz])
    exact ⟨x :: zs, rfl⟩
theorem vs_ints : ∀ {ys : List V}, (∀ y ∈ ys, ∃ x, y = V.int x) → ∃ zs : List Int, ys = zs.map V.int
  | [], _ => ⟨[], rfl⟩
  | y :: ys, h => by
    obtain ⟨x, rfl⟩ := h y (by simp)
    obtain ⟨zs, rfl⟩ := vs_ints (ys := ys) fun z hz => h z (by simp [hz])
    exact ⟨x :: zs, rfl⟩
theorem strs_inj : ∀ {xs ys : List Str}, xs.map V.str = ys.map V.str → xs = ys
  | [], [], _ => rfl
  | [], _ :: _, h => by simp at h
  | _ :: _, [], h => by simp at h
  | x :: xs, y :: ys, h => by
    simp only [List.map_cons, List.cons.injEq, V.str.injEq] at h
    rw [h.1, strs_inj h.2]
theorem perm_ints {ys : List V} {xs : List Int} (h : ys.Perm (xs.map V.int)) : ∃ zs : List Int, ys = zs.map V.int ∧ zs.Perm xs := by
  obtain ⟨zs, rfl⟩ := vs_ints (ys := ys) fun y hy => by
    obtain ⟨x, _, e⟩ := List.mem_map.mp (h.mem_iff.mp hy)
    exact ⟨x, e.symm⟩
  let g : V → Int := fun v => match v with
    | .int x => x
    | _ => 0
  refine ⟨zs, rfl, ?_⟩
  have := h.map g
  rw [List.map_map, List.map_map] at this
  have e : ∀ l : List Int, l.map (g ∘ V.int) = l := fun l => by
    conv => rhs; rw [← List.map_id l]
    exact List.map_congr_left fun _ _ => rfl
  rw [e, e] at this
  exact this
end L2

namespace L2
open PySem PySem.Spec PyProof.Rows
/-! ### bits -/
/-! ### tuple(range(n)) -/
section
variable {prog : Program} {w : World} {A : Around} {E : Value → Shared → Prop} {s : Shared}
theorem rng_collect {R : List Value → Shared → Prop} {r : Addr} {a b c : Int} {t u v : Tok} {n : Nat} (hh : A.handled = none) (hr : IsRange s.heap r a b c t u v) (hs : Builtin.Range.small a b c = true) (hn : Builtin.Range.rangeSize a b c = n) (hlen : n ≤ 2 ^ 24)
    (h : ∀ (h' : Heap) (tk : Nat) (acc : Array Value), (∀ b o, s.heap.get? b = some o → h'.get? b = some o) → ItemsOf (fun i v => ∃ t, v = .int (a + i * c) t) acc n → R acc.toList { s with heap := h', toks := tk }) :
    wpAny (model prog w) A (collect (.ref r)) R E s := by
  unfold collect
  refine wpAny_bind (wpAny_runValue (codeAny_builtin PySem.F.entry_proto_collect ?_))
  rw [Around.under_plainId PySem.F.plain_proto_collect _]
  show wpAny _ A.in1 (newList [] >>= fun l => again (.builtin "list.__iadd__" ⟨[l, .ref r], []⟩)) _ _ s
  refine wpAny_bind (wpAny_newObj_type ?_)
  refine wpAny_pure ⟨plainId_quiet PySem.F.plain_list_iadd _, codeAny_builtin PySem.F.entry_list_iadd ?_⟩
  rw [Around.under_plainId PySem.F.plain_list_iadd _]
  have hL : (s.heap.push { cls := .type "list", data := .seq ([] : List Value).toArray }).get? s.heap.objs.size = some { cls := .type "list", data := .seq #[] } := Heap.get?_push_size _ rfl
  show wpAny _ A.in1 (Builtin.List.listExtendWith (.ref s.heap.objs.size) (.ref r) (.ref s.heap.objs.size)) _ _ _
  refine wpAny_extend_range (R := fun q s' => match q with
        | .ok (.ret v) => wpAny (model prog w) A (match v with
            | .ref a => do
              match (← load a).data with
                | .seq xs _ => pure xs.toList
                | _ => unsupported "internal:collect"
            | _ => unsupported "internal:collect") R E s'
        | .ok _ => False
        | .error e => E e s') (s := { s with heap := s.heap.push { cls := .type "list", data := .seq ([] : List Value).toArray } }) (A := A) hh (Heap.get?_push_of_some _ hr) hs hn hlen s.heap.objs.size (.ref s.heap.objs.size) 0 hL fun h' tk acc c' hk hS hacc => ?_
  show wpAny _ A (load s.heap.objs.size >>= _) _ _ _
  refine wpAny_bind (wpAny_load hS ?_)
  exact wpAny_pure (h h' tk acc (fun b o e => hk b o (Nat.ne_of_lt (Heap.lt_size e)) (Heap.get?_push_of_some _ e)) hacc)
end
theorem tup_rng_new {r : Addr} {j : Int} {t u v : Tok} {n : Nat} (hs : Builtin.Range.small 0 j 1 = true) (hn : Builtin.Range.rangeSize 0 j 1 = n) (hlen : n ≤ 2 ^ 24) :
    Meets (Builtin.«tuple.__new__» ⟨[.type "tuple", .ref r], []⟩)
      (fun A R s => A.handled = none ∧ IsRange s.heap r 0 j 1 t u v ∧ ∀ (h' : Heap) (tk : Nat) (acc : Array Value), (∀ b o', s.heap.get? b = some o' → h'.get? b = some o') → ItemsOf (fun i v => ∃ t, v = Value.int (0 + i * 1) t) acc n → R (.ok (.ret (.ref h'.objs.size))) { s with heap := h'.push { cls := .type "tuple", data := .seq acc }, toks := tk }) :=
  .of_wp fun prog w A R s h => by
    obtain ⟨hp, g, d, tk, os⟩ := s
    obtain ⟨hh, hr, h⟩ := h
    have hsub := sub_tuple_self
    have hinit := init_tuple_lookup
    have hmh := madeHere_tuple
    have hh1 : A.in1.handled = none := hh
    have hT : Shared.TypeIs ⟨hp, g, d, tk, os⟩ (.ref r) "range" := ⟨_, hr, rfl⟩
    wp_walk using AutoSeq1.wpAny_loadPart' hr, wpAny_typeOf hT, rng_collect hh1 hr hs hn hlen
    intro h' tk' acc hk hacc
    show wpAny _ _ (Builtin.Tuple.tupleExact acc.toList.toArray >>= fun v => ret v) _ _ _
    unfold Builtin.Tuple.tupleExact
    have hl := hacc.1
    refine wpAny_bind (wpAny_newObj_type ?_ (by show acc.toList.toArray.size ≤ sizeLine; unfold sizeLine; simpa [hl] using hlen))
    refine wpAny_pure ⟨_, rfl, ?_⟩
    have e : acc.toList.toArray = acc := by simp
    rw [e]
    exact h h' tk' acc hk hacc
@[reducible] def tTupRng (ta : TA) : TE := fun σ H Q => ta σ H fun vs H1 => ∃ j : Int, vs = [.int j] ∧ 0 ≤ j ∧ j ≤ 1000 ∧ ∀ l, H1 l = none → Q (.ref l) (upd H1 l (.tup (((List.range j.toNat).map fun k : Nat => (k : Int)).map V.int)))
theorem pe_tupRng {X : Cx} {a : Expr} {ta : TA} {p p' pos pos' : Pos} (hgd : Gl X "tuple") (hmd : X.mg "tuple" = none) (hg : Gl X "range") (hm : X.mg "range" = none) (ha : PA X [a] ta) (hs : starEach [a] X.env = [(false, eval a X.env)] := by rfl) (hcalm : X.calm = true := by rfl) :
    PE X (.Call (.Name "tuple" p') [.Call (.Name "range" p) [a] [] pos] [] pos') (tTupRng ta) := by
  intro pins s σ H Q I h
  refine Call_ (ld_blt I hgd hmd boot_tuple5 (PyProof.Rows.callWith_type1 (Calls.spliced_cons (thn (Q := fun v s1 => wpAny (model X.prog X.w) X.A (call (.type "tuple") [v]) (EP X pins σ Q) X.xe s1) ?_ fun v s1 hv => Calls.spliced_nil hv)) rfl rfl))
  refine (show wpAny _ _ (eval (.Call (.Name "range" p) [a] [] pos) X.env) _ _ _ from ?_)
  refine Call_ (ld_blt I hg hm boot_range (PyProof.Rows.callWith_type1 (thn (ha pos pins s σ H _ I h) fun us s1 ⟨vs, H1, I1, r1, q1⟩ => ?_) hs rfl))
  obtain ⟨j, e, q1, q2, q⟩ := q1
  subst e
  cases r1 with
  | cons r rr =>
    cases rr
    obtain ⟨t, rfl⟩ := r
    refine call_range_1 ?_
    have hr : IsRange (s1.heap.push { cls := .type "range", data := .fields #[.int 0 s1.toks, .int j t, .int 1 (s1.toks + 1)] }) s1.heap.objs.size 0 j 1 s1.toks t (s1.toks + 1) := IsRange.new ..
    have hsz : Builtin.Range.rangeSize 0 j 1 = ((j.toNat : Nat) : Int) := by rw [rangeSize_one]; split <;> omega
    have I2 : Inv X pins σ H1 { s1 with heap := s1.heap.push { cls := .type "range", data := .fields #[.int 0 s1.toks, .int j t, .int 1 (s1.toks + 1)] }, toks := s1.toks + 1 + 1 } := I1.kept fun b o e => Heap.get?_push_of_some _ e
    refine callType_new (s := { s1 with heap := s1.heap.push { cls := .type "range", data := .fields #[.int 0 s1.toks, .int j t, .int 1 (s1.toks + 1)] }, toks := s1.toks + 1 + 1 }) F.called_tuple (by decide) (F.typeCall_tuple_1 _) (F.newCall_tuple_1 _) (fun obj => F.args_object_init_2 obj _) F.entry_tuple_new
      (tup_rng_new (small_one (by omega) (by omega) (by omega) (by omega)) hsz (by omega)) ⟨I2.ok.hd hcalm, hr, fun h' tk acc hk hacc => ?_⟩
    refine ⟨⟨_, Heap.get?_push_size _ rfl, rfl⟩, ?_⟩
    have hl : (((List.range j.toNat).map fun k : Nat => (k : Int)).map V.int).length ≤ sizeLine := by
      rw [List.length_map, List.length_map, List.length_range, sl_eq]
      omega
    have KP : ∀ b o, (s1.heap.push { cls := .type "range", data := .fields #[.int 0 s1.toks, .int j t, .int 1 (s1.toks + 1)] }).get? b = some o → (h'.push { cls := .type "tuple", data := .seq acc }).get? b = some o := fun b o e => Heap.get?_push_of_some _ (hk b o e)
    have hlt : (s1.heap.push { cls := .type "range", data := .fields #[.int 0 s1.toks, .int j t, .int 1 (s1.toks + 1)] }).objs.size ≤ h'.objs.size := by
      by_cases z : (s1.heap.push { cls := .type "range", data := .fields #[.int 0 s1.toks, .int j t, .int 1 (s1.toks + 1)] }).objs.size ≤ h'.objs.size
      · exact z
      · exfalso
        have e := hk s1.heap.objs.size _ (Heap.get?_push_size _ rfl)
        have l1 : @LT.lt Nat _ s1.heap.objs.size h'.objs.size := Heap.lt_size e
        rw [Heap.size_push] at z
        exact z l1
    exact ⟨.ref h'.objs.size, upd H1 h'.objs.size (.tup (((List.range j.toNat).map fun k : Nat => (k : Int)).map V.int)), I2.laid (t' := tk) KP hlt ⟨hl, acc.toList, vals_rng hacc, ⟨_, Heap.get?_push_size _ rfl, rfl, _, by simp; rfl, rfl⟩⟩, rfl, q _ (I2.hok.fresh hlt)⟩
/-! ### d.update(e), two dicts -/
section
variable {X : Cx} {o e : Expr} {td te : TE} {apos cpos : Pos}
end
end L2

namespace L2
open PySem PySem.Calls PySem.Spec PyProof.Rows
/-! ### set(t) of a tuple of whole numbers -/
def dedI (ys : List Int) : List Int := ys.foldl putA []
theorem dedI_snoc (ys : List Int) (k : Int) : dedI (ys ++ [k]) = putA (dedI ys) k := by
  unfold dedI
  rw [List.foldl_append]
  rfl
theorem putA_len1 (xs : List Int) (k : Int) : (putA xs k).length ≤ xs.length + 1 := by
  unfold putA
  split <;> simp
theorem dedI_le (ys : List Int) : (dedI ys).length ≤ ys.length := by
  unfold dedI
  have : ∀ (l acc : List Int), (l.foldl putA acc).length ≤ acc.length + l.length := by
    intro l
    induction l with
    | nil => intro acc; simp
    | cons x l ih =>
      intro acc
      rw [List.foldl_cons]
      have h1 := ih (putA acc x)
      have h2 := putA_len1 acc x
      rw [List.length_cons]
      omega
  simpa using this ys []
theorem putA_mem1 (xs : List Int) (k j : Int) : j ∈ putA xs k ↔ j ∈ xs ∨ j = k := by
  unfold putA
  by_cases h : k ∈ xs
  · simp only [h, if_true]
    constructor
    · exact .inl
    · rintro (z | rfl)
      · exact z
      · exact h
  · simp only [h, if_false]
    rw [List.mem_append, List.mem_singleton]
theorem dedI_mem (ys : List Int) (j : Int) : j ∈ dedI ys ↔ j ∈ ys := by
  unfold dedI
  have : ∀ (l acc : List Int), j ∈ l.foldl putA acc ↔ j ∈ acc ∨ j ∈ l := by
    intro l
    induction l with
    | nil => intro acc; simp
    | cons x l ih =>
      intro acc
      rw [List.foldl_cons, ih, putA_mem1, List.mem_cons, or_assoc]
  simpa using this ys []
theorem setsI_loop {prog : Program} {w : World} {A : Around} {R : Result → Shared → Prop} {I : Addr} {fp wr : List Addr} {G : Array GenState → Array GenState → Prop} {P : Nat → Value → Prop} {St : Nat → Shared → Prop} {ys : List Int} (W : WalksS prog w A.in1 I fp wr G ys.length P St) (a : Addr) (haf : a ∉ fp)
    (hv : ∀ i v, P i v → ∃ t x, ys[i]? = some x ∧ v = .int x t) (hb : ys.length + 1 < scanBound) : ∀ (m i : Nat) (s : Shared), ys.length = i + m → St i s → SetT (PySem.intKind prog w) s.heap a (dedI (ys.take i)) →
      (∀ s', Moved (a :: wr) G s s' → SetT (PySem.intKind prog w) s'.heap a (dedI ys) → R (.ok (.ret .none)) s') → codeAny (model prog w) A (.builtin "set.update.loop" ⟨[.ref a, .ref I], []⟩) R s := by
  have haw : a ∉ wr := fun q => haf (W.sub _ q)
  have more : ∀ b ∈ wr, b ∈ a :: wr := fun b q => List.mem_cons_of_mem _ q
  intro m
  induction m with
  | zero =>
    intro i s hm st hS hR
    obtain rfl : i = ys.length := by omega
    refine codeAny_builtin F.entry_set_update_loop (?_ : _)
    rw [Around.under_plainId F.plain_set_update_loop]
    refine (show wpAny _ A.in1 (pyNext (.ref I) >>= _) _ _ s from wpAny_bind (W.done s _ _ st fun s' mv => ?_))
    rw [List.take_length] at hS
    exact wpAny_pure (hR s' (mv.mono more) (hS.stay fun o e => mv.heap a o haw e))
  | succ m ih =>
    intro i s hm st hS hR
    have hlt : i < ys.length := by omega
    refine codeAny_builtin F.entry_set_update_loop (?_ : _)
    rw [Around.under_plainId F.plain_set_update_loop]
    refine (show wpAny _ A.in1 (pyNext (.ref I) >>= _) _ _ s from wpAny_bind (W.item i s _ _ hlt st fun v s' hP st' mv => ?_))
    obtain ⟨t, x, hx, rfl⟩ := hv i v hP
    have hS' : SetT (PySem.intKind prog w) s'.heap a (dedI (ys.take i)) := hS.stay fun o e => mv.heap a o haw e
    refine (show wpAny _ A.in1 (holding [Value.int x t] (setAdd a (.int x t)) >>= _) _ _ s' from wpAny_bind (wpAny_holding ?_))
    unfold setAdd
    have hk : (PySem.intKind prog w).is x (.int x t) = true := by simp [PySem.intKind, Value.isInt]
    have room : (dedI (ys.take i)).length + 1 < scanBound := by
      have := dedI_le (ys.take i)
      rw [List.length_take] at this
      omega
    refine wpAny_holding (wpAny_bind ((PySem.intKind prog w).pyHash (k := x) hk (set_addH (s := { s' with toks := s'.toks + 1 }) hk rfl hS' room fun bo h' sb hS2 => ?_)))
    have hS3 : SetT (PySem.intKind prog w) h' a (dedI (ys.take (i + 1))) := by
      rw [take_snoc hx, dedI_snoc]
      exact hS2
    refine wpAny_pure ⟨plainId_quiet F.plain_set_update_loop _, ih (i + 1) _ (by omega) (W.frame _ s' _ _ st' (Nat.le_succ _) fun b q o e => ?_) hS3 fun s'' mv' hS4 => ?_⟩
    · rw [sb.2 b (fun z : b = a => haf (by rw [← z]; exact q))]
      exact e
    · refine hR s'' (Moved.trans W.gtrans ((mv.mono more).then_heap (Nat.le_succ _) fun b o q e => ?_) mv') hS4
      rw [sb.2 b (fun z : b = a => q (by rw [z]; exact List.mem_cons_self))]
      exact e
section
variable {prog : Program} {w : World} {A : Around} {E : Value → Shared → Prop} {s : Shared}
theorem setI_new0 {h : Heap} {a : Addr} (e : h.get? a = some (newSetO w)) : SetT (PySem.intKind prog w) h a (dedI []) :=
  ⟨_, #[], 0, _, [], e, ⟨rfl, rfl, rfl⟩, rfl, .nil, .refl _, List.nodup_nil, by decide, by rfl, TabOk.fresh w⟩
set_option maxHeartbeats 4000000 in
theorem set_of_tupI {l : Addr} {its : List Value} {ys : List Int} {Q : Value → Shared → Prop} (hh : A.handled = none) (hl : IsTup s.heap l its.toArray) (hy : Vals (ys.map V.int) its) (hb : ys.length + 1 < scanBound)
    (h : ∀ (h' : Heap) (tk : Nat), SetT (PySem.intKind prog w) h' s.heap.objs.size (dedI ys) → (∀ b o, b < s.heap.objs.size → s.heap.get? b = some o → h'.get? b = some o) → Q (.ref s.heap.objs.size) { s with heap := h', toks := tk }) :
    wpAny (model prog w) A (call (.type "set") [.ref l]) Q E s := by
  obtain ⟨c, tl, hmro⟩ := F.called_set.mro
  have hmade := F.called_set.made
  have hsub := F.called_set.sub
  refine wpAny_call (codeAny_of_tree (show wpAny _ _ (callAny (.type "set") _) _ _ _ from wpAny_pure ⟨Code.quiet_builtin _ (by decide +kernel), codeAny_builtin F.entry_type_call ?_⟩))
  rw [Around.under_plain (weight_type_call_type "set" [.ref l] []) rfl]
  have g1 := F.called_set.notType
  have g2 := F.called_set.canCreate
  have g3 := F.typeCall_set_1 (.ref l)
  repeat (any_goals (first | assumption | wp_step))
  refine codeAny_mono (code_newT (.ref l) (E := E) (Q₁ := fun ob s1 => ob = .ref s.heap.objs.size ∧ s1 = { s with heap := s.heap.push (newSetO w) }) ⟨rfl, rfl⟩) fun r s1 hr => ?_
  cases r with
  | error e => exact hr
  | ok fl =>
    cases fl with
    | ret ob =>
      obtain ⟨rfl, rfl⟩ := hr
      have hS : (s.heap.push (newSetO w)).get? s.heap.objs.size = some (newSetO w) := Heap.get?_push_size _ rfl
      have hT : Shared.TypeIs { s with heap := s.heap.push (newSetO w) } (.ref s.heap.objs.size) "set" := ⟨_, hS, rfl⟩
      have u1 := F.called_set.init.lookup
      have u2 := F.called_set.init.bind (.ref s.heap.objs.size)
      repeat (any_goals (first | assumption | wp_step))
      refine codeAny_mono (codeAny_call_builtin (R := wants (fun r s2 => r = .none ∧ ∃ h' tk, s2 = { s with heap := h', toks := tk } ∧ SetT (PySem.intKind prog w) h' s.heap.objs.size (dedI ys) ∧ (∀ b o, b < s.heap.objs.size → s.heap.get? b = some o → h'.get? b = some o)) E) F.called_set.init.plain F.entry_set_init (check_set_init_1 hT ?_)) fun r2 s2 hr2 => ?_
      · obtain ⟨ol, hol, hcl, nl, hdl⟩ := hl
        obtain ⟨ocls, odict, odata, oslots⟩ := ol
        simp only at hcl hdl
        subst hcl
        subst hdl
        have hol' : (s.heap.push (newSetO w)).get? l = some { cls := .type "tuple", dict := odict, data := .seq its.toArray nl, slots := oslots } := Heap.get?_push_of_some _ hol
        have v1 := F.sub_tuple_set
        have v2 := F.sub_tuple_frozenset
        have v3 : (Value.type "tuple" == Value.type "dict") = false := by decide
        have hl1 : (s.heap.push (newSetO w)).IsTuple l its.toArray := ⟨_, hol', rfl, nl, rfl⟩
        unfold Builtin.«set.__init__» noKeywords Builtin.Frozenset.updateFrom
        generalize hPI : pyIter = PI
        wp_walk
        subst hPI
        refine wpAny_pyIter_tuple hl1 (wpAny_bind (wpAny_runValue ?_))
        have hlS : l < s.heap.objs.size := Heap.lt_size hol
        have h3 : A.in1.in1.in1.handled = none := by simp [hh]
        have n1 : l ≠ (s.heap.push (newSetO w)).objs.size := by
          rw [Heap.size_push]
          exact Nat.ne_of_lt (Nat.lt_succ_of_lt hlS)
        have n2 : s.heap.objs.size ∉ [(s.heap.push (newSetO w)).objs.size, l] := by
          rw [Heap.size_push]
          simp only [List.mem_cons, List.mem_singleton, List.not_mem_nil, or_false, not_or]
          exact ⟨Nat.ne_of_lt (Nat.lt_succ_self _), Nat.ne_of_gt hlS⟩
        have len : its.toArray.size = ys.length := by
          rw [List.size_toArray, ← hy.length, List.length_map]
        have val : ∀ (i : Nat) (v : Value), its.toArray[i]? = some v → ∃ t x, ys[i]? = some x ∧ v = .int x t := fun i v hv => by
          have hi : i < its.length := by
            have := (Array.getElem?_eq_some_iff.mp hv).1
            simpa using this
          have hi2 : i < ys.length := by
            rw [← len, List.size_toArray]
            exact hi
          obtain ⟨u, e1, t, e2⟩ := hy.get (i := i) (x := .int ys[i]) (by simp [hi2])
          rw [List.getElem?_toArray, e1] at hv
          cases hv
          exact ⟨t, ys[i], by simp [hi2], e2⟩
        have W := (Walks.tuple (prog := prog) (w := w) h3 (s.heap.push (newSetO w)).objs.size l n1 its.toArray).toS
        rw [len] at W
        refine setsI_loop (ys := ys) W s.heap.objs.size n2 val hb ys.length 0 _ (by omega) ⟨⟨_, Heap.get?_push_size _ rfl, rfl, rfl⟩, (hl1.push _)⟩ ?_ ?_
        · have hget : ((s.heap.push (newSetO w)).push { cls := .type "tuple_iterator", data := .fields #[.ref l, .int 0 0] }).get? s.heap.objs.size = some (newSetO w) := Heap.get?_push_of_some _ hS
          exact setI_new0 hget
        · intro s' mv hS'
          obtain ⟨h', g', d', tk', os'⟩ := s'
          obtain rfl : g' = s.gens := mv.gens
          obtain rfl : d' = s.drawn := mv.drawn
          obtain rfl : os' = s.os := mv.os
          refine (show wpAny _ _ _ _ _ _ from wpAny_pure (show wpAny _ _ (ret Value.none) _ _ _ from wpAny_pure ⟨rfl, h', tk', rfl, hS', fun b o hb e => ?_⟩))
          have m1 : b ≠ s.heap.objs.size := Nat.ne_of_lt hb
          have m2 : b ≠ (s.heap.push (newSetO w)).objs.size := by
            rw [Heap.size_push]
            exact Nat.ne_of_lt (Nat.lt_succ_of_lt hb)
          refine mv.heap b o ?_ (Heap.get?_push_of_some _ (Heap.get?_push_of_some _ e))
          simp only [List.mem_cons, List.mem_singleton, List.not_mem_nil, or_false, not_or]
          exact ⟨m1, m2⟩
      · cases r2 with
        | error e => exact hr2
        | ok fl2 =>
          cases fl2 with
          | ret r =>
            obtain ⟨rfl, h', tk, rfl, hS', hk'⟩ := hr2
            repeat (any_goals (first | assumption | wp_step))
            exact h _ _ hS' hk'
          | _ => exact hr2.elim
    | _ => exact hr.elim
end
structure Bl4 (mg : Str → Option Value) : Prop where
  b_any : mg "any" = none
section
variable {X : Cx}
theorem call_setTI (hc : X.calm = true) : CallR X (.type "set") (fun vs H Q => ∃ (p : Addr) (ys : List Int), vs = [.ref p] ∧ H p = some (.tup (ys.map V.int)) ∧ ys.length ≤ 1000 ∧ ∀ q so, so = SetI X.prog X.w q (dedI ys) → H q = none → Q (.ref q) (upd H q so)) := by
  intro pins s σ H vs us Q I r h
  obtain ⟨p, ys, rfl, hp, hz, q⟩ := h
  obtain ⟨u, rfl, ru⟩ := r.one
  cases ru
  obtain ⟨its, rv, pl, _⟩ := I.tuple (SqT.of hp)
  refine set_of_tupI (I.ok.hd hc) pl rv (by unfold scanBound; omega) fun h' tk hS hk => ?_
  have hf := I.hok.fresh (Nat.le_refl s.heap.objs.size)
  exact ⟨.ref s.heap.objs.size, _, I.laid (t' := tk) (fun b o e => hk b o (Heap.lt_size e) e) (Nat.le_refl _) (seti_ok hS), rfl, q _ _ rfl hf⟩
theorem mt_indexK (K : PySem.W.Frag) (h : X.K = K) : MtR X "list.index" (rIndex K) := by
  subst h
  exact mt_index
theorem cr_anyK (K : PySem.W.Frag) (h : X.K = K) (hc : X.calm = true) : CallR X (.builtin "any") (rAny K) := by
  subst h
  exact cr_any hc
end
section
variable {X : Cx} {T : String} {o e : Expr} {es : List Expr} {to : TE} {t : TA} {name : Str} {id : String} {r : V → List V → Hp → VK → Prop} {apos cpos : Pos}
theorem pe_bmK (K : PySem.W.Frag) (hK : X.K = K) (pa : PlainAttrs T) (slot : Slot T name id) (hty : typeOf (.builtin id) = pure (.type "method_descriptor")) (hm : MtR X id r) (ho : PE X o to) (ha : PA X (e :: es) t)
    (hbase : attributeBase o name X.env (eval o X.env) = eval o X.env := by rfl)
    (hfew : ((backTo cpos (starEach (e :: es) X.env)).all (fun x => !x.1) && (backToKw cpos (keywordEach [] X.env)).all (fun x => x.1.isSome)
      && decide ((e :: es).length + ([] : List Keyword).length + (if ([] : List Keyword).isEmpty then 0 else 1) < 30)) = true := by rfl)
    (hline : (apos.endLine == cpos.line) = true := by rfl) (hs : starEach (e :: es) X.env = (false, eval e X.env) :: starEach es X.env := by rfl) (hplain : (backTo cpos (starEach es X.env)).any (·.1) = false := by rfl) :
    PE X (.Call (.Attribute o name apos) (e :: es) [] cpos) (tBM K T r to t) := by
  subst hK
  exact pe_bm pa slot hty hm ho ha hbase hfew hline hs hplain
end
/-! ### a list or a tuple, walked -/
@[reducible] def iSeq (K : PySem.W.Frag) (tl : TE) : TI := fun σ H R => tl σ H fun x H1 => ∃ a, x = .ref a ∧ (((∃ xs, SqL K H1 a xs) ∧ R (Itl K a) H1) ∨ ((∃ xs, SqT K H1 a xs) ∧ R (Itt K a) H1))
theorem pi_seqK {X : Cx} {tg l : Expr} {tl : TE} (K : PySem.W.Frag) (hK : X.K = K) (hl : PE X l tl) : PI X tg l (iSeq K tl) := by
  subst hK
  intro pins s σ H R I h
  refine thn (hl pins s σ H _ I h) fun v s1 ⟨x, H1, I1, r1, q1⟩ => ?_
  obtain ⟨a, e, q1⟩ := q1
  subst e
  cases r1
  rcases q1 with ⟨⟨xs, hq⟩, q⟩ | ⟨⟨xs, hq⟩, q⟩
  · obtain ⟨its, rv, p, hz⟩ := I1.list hq
    refine wpAny_pyIter_list p.isList ?_
    refine ⟨s1.heap.objs.size, [s1.heap.objs.size], _, _, H1, rfl, I1.kept (t' := s1.toks) fun b o e => Heap.get?_push_of_some _ e, turn_list a _, ⟨_, Heap.get?_push_size _ rfl, rfl, rfl⟩, fun b hb => ?_, q⟩
    have e : b = s1.heap.objs.size := by simpa using hb
    subst e
    exact I1.fpOk (Nat.le_refl _) (I1.hok.fresh (Nat.le_refl _))
  · obtain ⟨its, rv, p, hz⟩ := I1.tuple hq
    refine wpAny_pyIter_tuple (show s1.heap.IsTuple a its.toArray from p) ?_
    refine ⟨s1.heap.objs.size, [s1.heap.objs.size], _, _, H1, rfl, I1.kept (t' := s1.toks) fun b o e => Heap.get?_push_of_some _ e, turn_tuple a _, ⟨_, Heap.get?_push_size _ rfl, rfl, rfl⟩, fun b hb => ?_, q⟩
    have e : b = s1.heap.objs.size := by simpa using hb
    subst e
    exact I1.fpOk (Nat.le_refl _) (I1.hok.fresh (Nat.le_refl _))
end L2

namespace L2
open PySem PySem.Calls PySem.Spec PyProof.Rows
/-! ### list(d), the keys tuples -/
section
variable {prog : Program} {w : World} {d : Addr} {o : Obj} {es : Array DictEntry} {ep : Nat}
theorem src_keysT (lo : (d == sysModules) = false) (hx : o.ExactDict) (hdt : o.data = .dict es ep) : PySem.W.KdlSrc prog w "dict" d d es.size (fun i v => ∃ en : DictEntry, es[i]? = some en ∧ v = en.key) (fun h => h.get? d = some o) where
  type := fun _ hm => ⟨o, hm, hx.1⟩
  there := fun _ hm => ⟨Heap.lt_size hm, Heap.lt_size hm⟩
  keep := fun _ _ hm hk => hk d (.inl rfl) o hm
  notList := by decide
  notTuple := by decide
  hint := fun _ _ _ _ hm hq => PySem.W.kdl_hint_dict ⟨o, hm, hx.1⟩ hq
  iter := fun A s hh hm => ⟨_, fun i h => h.IsKeyIter s.heap.objs.size d i es.size ep ∧ h.get? d = some o, (fun _ _ hq => iter_keys lo hm hx hdt hq), {
    sub := fun b hb => by simp at hb; simp [hb]
    frame := fun _ _ _ st hk => ⟨st.1.at fun o e => hk s.heap.objs.size (by simp) o e, hk d (by simp) o st.2⟩
    item := fun i s2 Q E hi st hQ => by
      obtain ⟨en, hen⟩ : ∃ en, es[i]? = some en := ⟨es[i], by simp [hi]⟩
      exact next_key_item st.1 st.2 hdt rfl hen fun h' st' sb => hQ _ h' s2.toks ⟨en, hen, rfl⟩ ⟨st', sb.extBut d o (Nat.ne_of_lt (Heap.lt_size hm)) st.2⟩ fun b u hb e => sb.extBut b u (fun z => hb (by simp [z])) e
    done := fun s2 Q E st hQ => next_key_end hh st.1 st.2 hdt rfl (Nat.le_refl _) fun h' eb => hQ h' s2.toks fun b u hb e => eb b u (fun z => hb (by simp [z])) e
    self := fun _ _ _ _ st hQ => wpAny_pyIter_keyiter st.1 hQ }, ⟨⟨_, Heap.get?_push_size _ rfl, rfl, rfl⟩, Heap.get?_push_of_some _ hm⟩⟩
end
theorem keys_vals : ∀ xs : List (List Key × Addr × Value), Vals ((xs.map (·.2.1)).map V.ref) ((xs.map (·.2.1)).map Value.ref)
  | [] => .nil
  | x :: xs => .cons rfl (keys_vals xs)
theorem keys_pair {H : Hp} : ∀ {kvs : List (List Key × V)} {xs : List (List Key × Addr × Value)}, Paired (fun (p : List Key × V) (q : List Key × Addr × Value) => p.1 = q.1 ∧ H q.2.1 = some (.tup (p.1.map kV)) ∧ RelV p.2 q.2.2) kvs xs → Paired (fun q k => H q = some (.tup (k.map kV))) (xs.map (·.2.1)) (kvs.map (·.1))
  | _, _, .nil => .nil
  | _, _, .cons h t => .cons h.2.1 (keys_pair t)
section
variable {X : Cx}
theorem call_listDT (hc : X.calm = true) : CallR X (.type "list") (fun vs H Q => ∃ (d : Addr) (kvs : List (List Key × V)), vs = [.ref d] ∧ H d = some (.dT kvs) ∧ kvs.length ≤ sizeLine ∧ ∀ (p : Addr) (qs : List Addr), H p = none → Paired (fun q k => H q = some (.tup (k.map kV))) qs (kvs.map (·.1)) → Q (.ref p) (upd H p (.lst (qs.map V.ref)))) := by
  intro pins s σ H vs us Q I r h
  obtain ⟨d, kvs, rfl, hd, hl, q⟩ := h
  rw [Vals.ref1 r]
  obtain ⟨hz, hs, xs, pr, o, es, ep, ho, hx, hdt, he, _⟩ := (show ObjOk X.prog X.w H s.heap d (.dT kvs) from I.hok d _ hd)
  have l1 : es.size = xs.length := size_of_entries he
  have l2 : kvs.length = xs.length := Paired.length pr
  refine PySem.W.kdl_call (src_keysT hs hx hdt) (I.ok.hd hc) ho (by omega) fun h' tk acc c hk hL hacc => ?_
  have hf := I.hok.fresh (Nat.le_refl s.heap.objs.size)
  have key : ∀ (j : Nat) (v : Value), acc.toList[j]? = some v → ∃ x, xs[j]? = some x ∧ v = Value.ref x.2.1 := fun j v e => by
    obtain ⟨en, hen, ev⟩ := hacc.2 j v (by rw [← Array.getElem?_toList]; exact e)
    have hj : j < xs.length := by
      have := (Array.getElem?_eq_some_iff.mp hen).1
      omega
    have q := entry_at he j
    rw [List.getElem?_eq_getElem hj] at q
    rw [hen] at q
    have q : en = _ := Option.some.inj q
    refine ⟨xs[j], List.getElem?_eq_getElem hj, ?_⟩
    rw [ev, q]
    rfl
  have hal : acc.toList.length = xs.length := by rw [Array.length_toList, hacc.1]; exact l1
  have ea : acc.toList = (xs.map (·.2.1)).map Value.ref := by
    refine List.ext_getElem? fun j => ?_
    rw [List.getElem?_map, List.getElem?_map]
    cases e : acc.toList[j]? with
    | none =>
      rw [List.getElem?_eq_none_iff] at e
      rw [List.getElem?_eq_none (by omega)]
      rfl
    | some v =>
      obtain ⟨x, hx, ev⟩ := key j v e
      rw [hx, ev]
      rfl
  have rv : Vals ((xs.map (·.2.1)).map V.ref) acc.toList := by
    rw [ea]
    exact keys_vals _
  have hlen : ((xs.map (·.2.1)).map V.ref).length ≤ sizeLine := by rw [List.length_map, List.length_map]; omega
  refine ⟨.ref s.heap.objs.size, upd H s.heap.objs.size (.lst ((xs.map (·.2.1)).map V.ref)), I.laid (t' := tk) (fun b o e => hk b o e) (Nat.le_refl _) ⟨hlen, acc.toList, c, rv, hL⟩, rfl, q _ _ hf ?_⟩
  exact keys_pair pr
end
end L2

namespace L2
open PySem PySem.Spec PyProof.Rows
/-! ### which places of a row hold the same: the first place that does -/
def fsx {α : Type} [DecidableEq α] (l : List α) (x : α) : Nat := l.findIdx fun y => decide (y = x)
def kerA {α : Type} [DecidableEq α] (l : List α) : List Int := l.map fun x => ((fsx l x : Nat) : Int)
section
variable {α β : Type} [DecidableEq α] [DecidableEq β]
theorem fsx_lt {l : List α} {x : α} (h : x ∈ l) : fsx l x < l.length := List.findIdx_lt_length_of_exists ⟨x, h, by simp⟩
theorem fsx_get {l : List α} {x : α} (h : x ∈ l) : l[fsx l x]? = some x := by
  have hl := fsx_lt h
  rw [List.getElem?_eq_getElem hl]
  have q := List.findIdx_getElem (w := hl)
  exact congrArg some (of_decide_eq_true q)
theorem fsx_le {l : List α} {x : α} {i : Nat} (h : l[i]? = some x) : fsx l x ≤ i := by
  rcases Nat.lt_or_ge i (fsx l x) with z | z
  · have hl : i < l.length := (List.getElem?_eq_some_iff.mp h).1
    have := List.not_of_lt_findIdx (p := fun y => decide (y = x)) (xs := l) z
    rw [List.getElem?_eq_getElem hl] at h
    simp [Option.some.inj h] at this
  · exact z
theorem kerA_len (l : List α) : (kerA l).length = l.length := List.length_map ..
theorem kerA_at {l : List α} {i : Nat} {x : α} (h : l[i]? = some x) : (kerA l)[i]? = some ((fsx l x : Nat) : Int) := by
  unfold kerA
  rw [List.getElem?_map, h]
  rfl
theorem kerA_getD {l : List α} {i : Nat} {x : α} (h : l[i]? = some x) : (kerA l).getD i 0 = ((fsx l x : Nat) : Int) := by
  rw [List.getD_eq_getElem?_getD, kerA_at h]
  rfl
theorem fsx_inj {l : List α} {x y : α} (hx : x ∈ l) (hy : y ∈ l) : fsx l x = fsx l y ↔ x = y := by
  constructor
  · intro e
    have h1 := fsx_get hx
    rw [e, fsx_get hy] at h1
    exact (Option.some.inj h1).symm
  · rintro rfl; rfl
theorem kerA_congr {l : List α} {l' : List β} (hl : l.length = l'.length) (h : ∀ (i j : Nat) (x y : α) (x' y' : β), l[i]? = some x → l[j]? = some y → l'[i]? = some x' → l'[j]? = some y' → (x = y ↔ x' = y')) : kerA l = kerA l' := by
  refine List.ext_getElem? fun i => ?_
  rcases Nat.lt_or_ge i l.length with hi | hi
  · have e1 : l[i]? = some l[i] := List.getElem?_eq_getElem hi
    have e2 : l'[i]? = some (l'[i]'(by omega)) := List.getElem?_eq_getElem (by omega)
    rw [kerA_at e1, kerA_at e2]
    have m1 := fsx_get (List.mem_of_getElem? e1)
    have m2 := fsx_get (List.mem_of_getElem? e2)
    have l1 := fsx_lt (List.mem_of_getElem? e1)
    have l2 := fsx_lt (List.mem_of_getElem? e2)
    have a1 : fsx l l[i] ≤ fsx l' (l'[i]'(by omega)) := by
      have q : l[fsx l' (l'[i]'(by omega))]? = some (l[fsx l' (l'[i]'(by omega))]'(by omega)) := List.getElem?_eq_getElem (by omega)
      have z := (h _ _ _ _ _ _ q e1 m2 e2).mpr rfl
      rw [z] at q
      exact fsx_le q
    have a2 : fsx l' (l'[i]'(by omega)) ≤ fsx l l[i] := by
      have q : l'[fsx l l[i]]? = some (l'[fsx l l[i]]'(by omega)) := List.getElem?_eq_getElem (by omega)
      have z := (h _ _ _ _ _ _ m1 e1 q e2).mp rfl
      rw [z] at q
      exact fsx_le q
    rw [Nat.le_antisymm a1 a2]
  · rw [List.getElem?_eq_none (by rw [kerA_len]; exact hi), List.getElem?_eq_none (by rw [kerA_len]; omega)]
theorem kerA_nd {l : List α} (h : l.Nodup) : kerA l = upN l.length := by
  refine List.ext_getElem? fun i => ?_
  rcases Nat.lt_or_ge i l.length with hi | hi
  · have e1 : l[i]? = some l[i] := List.getElem?_eq_getElem hi
    rw [kerA_at e1]
    have e : fsx l l[i] = i := by
      have m1 := fsx_get (List.mem_of_getElem? e1)
      exact (List.getElem?_inj (fsx_lt (List.mem_of_getElem? e1)) h).mp (m1.trans e1.symm)
    rw [e]
    unfold upN
    rw [List.getElem?_map, List.getElem?_range hi]
    rfl
  · rw [List.getElem?_eq_none (by rw [kerA_len]; exact hi), List.getElem?_eq_none (by rw [upN_len]; exact hi)]
end
/-! ### all rows whose items are at most their places -/
def facL : Nat → List (List Int)
  | 0 => [[]]
  | n + 1 => (facL n).flatMap fun l => (upN (n + 1)).map fun j => l ++ [j]
def facN : Nat → Nat
  | 0 => 1
  | n + 1 => facN n * (n + 1)
theorem flat_len {α β : Type} {f : α → List β} {k : Nat} : ∀ {l : List α}, (∀ x ∈ l, (f x).length = k) → (l.flatMap f).length = l.length * k
  | [], _ => by simp
  | x :: l, h => by
    rw [List.flatMap_cons, List.length_append, h x (.head _), flat_len (l := l) fun y hy => h y (.tail _ hy), List.length_cons, Nat.add_mul]
    omega
theorem facL_len : ∀ n, (facL n).length = facN n
  | 0 => rfl
  | n + 1 => by
    show ((facL n).flatMap _).length = facN n * (n + 1)
    rw [flat_len (k := n + 1) fun l _ => by rw [List.length_map, upN_len], facL_len n]
theorem facN_le {n : Nat} (h : n ≤ 8) : facN n ≤ 40320 := by
  have : n = 0 ∨ n = 1 ∨ n = 2 ∨ n = 3 ∨ n = 4 ∨ n = 5 ∨ n = 6 ∨ n = 7 ∨ n = 8 := by omega
  rcases this with rfl | rfl | rfl | rfl | rfl | rfl | rfl | rfl | rfl <;> decide
theorem facL_mem : ∀ {n : Nat} {l : List Int}, l.length = n → (∀ (i : Nat) (x : Int), l[i]? = some x → 0 ≤ x ∧ x ≤ i) → l ∈ facL n
  | 0, [], _, _ => .head _
  | 0, _ :: _, h, _ => by simp at h
  | n + 1, l, h, q => by
    rcases snoc_cases l with rfl | ⟨r, k, rfl⟩
    · simp at h
    · have hr : r.length = n := by simpa using h
      refine List.mem_flatMap.mpr ⟨r, facL_mem hr fun i x e => q i x ?_, List.mem_map.mpr ⟨k, ?_, rfl⟩⟩
      · rw [List.getElem?_append_left (List.getElem?_eq_some_iff.mp e).1]
        exact e
      · have := q n k (by rw [← hr]; simp)
        exact upN_mem.mpr ⟨this.1, by omega⟩
theorem facL_lenOf : ∀ {n : Nat} {l : List Int}, l ∈ facL n → l.length = n
  | 0, l, h => by rw [List.mem_singleton.mp h]; rfl
  | n + 1, l, h => by
    obtain ⟨r, hr, h⟩ := List.mem_flatMap.mp h
    obtain ⟨k, _, rfl⟩ := List.mem_map.mp h
    rw [List.length_append, facL_lenOf hr]
    rfl
theorem facL_bd : ∀ {n : Nat} {l : List Int}, l ∈ facL n → ∀ x ∈ l, 0 ≤ x ∧ x < n
  | 0, l, h, x, hx => by rw [List.mem_singleton.mp h] at hx; simp at hx
  | n + 1, l, h, x, hx => by
    obtain ⟨r, hr, h⟩ := List.mem_flatMap.mp h
    obtain ⟨k, hk, rfl⟩ := List.mem_map.mp h
    rcases List.mem_append.mp hx with z | z
    · have := facL_bd hr x z
      omega
    · rw [List.mem_singleton.mp z]
      exact upN_mem.mp hk
theorem kerA_fac {α : Type} [DecidableEq α] (l : List α) : kerA l ∈ facL l.length := facL_mem (kerA_len l) fun i x e => by
  have hi : i < l.length := by
    have := (List.getElem?_eq_some_iff.mp e).1
    rw [kerA_len] at this
    exact this
  have e1 : l[i]? = some l[i] := List.getElem?_eq_getElem hi
  rw [kerA_at e1] at e
  have := fsx_le e1
  have := Option.some.inj e
  omega
/-! ### the meetings: what the pasts lead together -/
def nxM (W : Wb) (k : List Int) : List (List Int) := W.moves.map fun m => kerA ((rowI W.states m.2.2).map fun i => k.getD i.toNat 0)
def kerM (W : Wb) (ns : List Str) : List Int := kerA (W.states.map (goS W ns))
theorem step_row {W : Wb} (g : Good W) {m : Str × Int × List Str} (hm : m ∈ W.moves) {i : Nat} {s : Str} (hs : W.states[i]? = some s) : (rowI W.states m.2.2)[i]? = some ((pl W.states (step W m.1 s) : Nat) : Int) := by
  unfold rowI
  rw [List.getElem?_map, step_at g hm hs]
  rfl
theorem nx_ker {W : Wb} (g : Good W) {m : Str × Int × List Str} (hm : m ∈ W.moves) (f : Str → Str) :
    kerA ((rowI W.states m.2.2).map fun i => (kerA (W.states.map f)).getD i.toNat 0) = kerA (W.states.map fun s => f (step W m.1 s)) := by
  have hl : (rowI W.states m.2.2).length = W.states.length := by
    unfold rowI
    rw [List.length_map, (g.mv m hm).len]
  have one : ∀ i x, ((rowI W.states m.2.2).map fun i => (kerA (W.states.map f)).getD i.toNat 0)[i]? = some x → ∃ s, W.states[i]? = some s ∧ x = ((fsx (W.states.map f) (f (step W m.1 s)) : Nat) : Int) ∧ f (step W m.1 s) ∈ W.states.map f := fun i x e => by
    have hi : i < W.states.length := by
      have := (List.getElem?_eq_some_iff.mp e).1
      rw [List.length_map, hl] at this
      exact this
    have e1 : W.states[i]? = some W.states[i] := List.getElem?_eq_getElem hi
    have ht : step W m.1 W.states[i] ∈ W.states := step_mem g (List.mem_map.mpr ⟨m, hm, rfl⟩) (List.mem_of_getElem? e1)
    rw [List.getElem?_map, step_row g hm e1] at e
    have e := Option.some.inj e
    have e2 : (W.states.map f)[pl W.states (step W m.1 W.states[i])]? = some (f (step W m.1 W.states[i])) := by
      rw [List.getElem?_map, pl_get ht]
      rfl
    refine ⟨_, e1, ?_, List.mem_map.mpr ⟨_, ht, rfl⟩⟩
    rw [← e]
    show (kerA (W.states.map f)).getD ((pl W.states (step W m.1 W.states[i]) : Nat) : Int).toNat 0 = _
    rw [Int.toNat_natCast]
    exact kerA_getD e2
  refine kerA_congr (by rw [List.length_map, List.length_map, hl]) fun i j x y x' y' h1 h2 h3 h4 => ?_
  obtain ⟨s, e1, rfl, m1⟩ := one i x h1
  obtain ⟨t, e2, rfl, m2⟩ := one j y h2
  rw [List.getElem?_map, e1] at h3
  rw [List.getElem?_map, e2] at h4
  rw [← Option.some.inj h3, ← Option.some.inj h4]
  constructor
  · intro e
    exact (fsx_inj m1 m2).mp (by omega)
  · intro e
    have e : f (step W m.1 s) = f (step W m.1 t) := e
    rw [e]
theorem kerM_nil {W : Wb} (g : Good W) : kerM W [] = upN W.states.length := by
  have e : W.states.map (goS W []) = W.states := List.map_id _
  unfold kerM
  rw [e]
  exact kerA_nd g.snd
theorem nxM_in {W : Wb} (g : Good W) {ns : List Str} {m : Str × Int × List Str} (hm : m ∈ W.moves) : kerM W (m.1 :: ns) ∈ nxM W (kerM W ns) :=
  List.mem_map.mpr ⟨m, hm, nx_ker g hm (goS W ns)⟩
theorem nxM_of {W : Wb} (g : Good W) {ns : List Str} {k : List Int} (h : k ∈ nxM W (kerM W ns)) : ∃ m ∈ W.moves, k = kerM W (m.1 :: ns) := by
  obtain ⟨m, hm, e⟩ := List.mem_map.mp h
  exact ⟨m, hm, e.symm.trans (nx_ker g hm (goS W ns))⟩
theorem reachM {W : Wb} (g : Good W) {k : List Int} : Reach (nxM W) (upN W.states.length) k ↔ ∃ ns, Names W ns ∧ k = kerM W ns := by
  constructor
  · intro h
    induction h with
    | refl => exact ⟨[], fun _ h => by simp at h, (kerM_nil g).symm⟩
    | step _ hc ih =>
      obtain ⟨ns, hn, rfl⟩ := ih
      obtain ⟨m, hm, rfl⟩ := nxM_of g hc
      refine ⟨m.1 :: ns, fun n h => ?_, rfl⟩
      rcases List.mem_cons.mp h with rfl | h
      · exact List.mem_map.mpr ⟨m, hm, rfl⟩
      · exact hn n h
  · rintro ⟨ns, hn, rfl⟩
    induction ns with
    | nil => rw [kerM_nil g]; exact .refl
    | cons n ns ih =>
      obtain ⟨m, hm, rfl⟩ := List.mem_map.mp (hn n (.head _))
      exact .step (ih fun x hx => hn x (.tail _ hx)) (nxM_in g hm)
theorem kerM_fac (W : Wb) (ns : List Str) : kerM W ns ∈ facL W.states.length := by
  have := kerA_fac (W.states.map (goS W ns))
  rw [List.length_map] at this
  exact this
theorem nxM_fac {W : Wb} (g : Good W) {k j : List Int} (hj : j ∈ nxM W k) : j ∈ facL W.states.length := by
  obtain ⟨m, hm, rfl⟩ := List.mem_map.mp hj
  have := kerA_fac ((rowI W.states m.2.2).map fun i => k.getD i.toNat 0)
  have hl : ((rowI W.states m.2.2).map fun i => k.getD i.toNat 0).length = W.states.length := by
    unfold rowI
    rw [List.length_map, List.length_map, (g.mv m hm).len]
  rw [hl] at this
  exact this
theorem kerM_at {W : Wb} {ns : List Str} {i : Nat} {s : Str} (h : W.states[i]? = some s) : (kerM W ns).getD i 0 = ((fsx (W.states.map (goS W ns)) (goS W ns s) : Nat) : Int) := kerA_getD (by rw [List.getElem?_map, h]; rfl)
theorem kerM_iff {W : Wb} {ns : List Str} {i j : Nat} {s t : Str} (h1 : W.states[i]? = some s) (h2 : W.states[j]? = some t) : (kerM W ns).getD i 0 = (kerM W ns).getD j 0 ↔ goS W ns s = goS W ns t := by
  rw [kerM_at h1, kerM_at h2]
  have m1 : goS W ns s ∈ W.states.map (goS W ns) := List.mem_map.mpr ⟨s, List.mem_of_getElem? h1, rfl⟩
  have m2 : goS W ns t ∈ W.states.map (goS W ns) := List.mem_map.mpr ⟨t, List.mem_of_getElem? h2, rfl⟩
  constructor
  · intro e
    exact (fsx_inj m1 m2).mp (by omega)
  · intro e
    rw [e]
/-! ### the groups that meet alone -/
def clsK (n : Nat) (k : List Int) (f : Int) : List Int := (upN n).filter fun i => decide (k.getD i.toNat 0 = f)
def Alone (W : Wb) (g : List Int) : Prop := g ≠ upN W.states.length ∧ ∃ ns f, Names W ns ∧ f ∈ kerM W ns ∧ g = clsK W.states.length (kerM W ns) f
/-- by what these states show it is known when all meet -/
def Watch (W : Wb) (S : List Str) : Prop := ∀ ns, Names W ns → (∀ s ∈ S, ∀ t ∈ S, goS W ns s = goS W ns t) → ∀ s ∈ W.states, ∀ t ∈ W.states, goS W ns s = goS W ns t
open Classical in
noncomputable def wtB (W : Wb) (S : List Str) : Bool := decide (Watch W S)
def isW (gr : List Int) (gs : List (List Int)) : Bool := !(gs.any fun g => gr.all fun a => decide (a ∈ g))
def plS (W : Wb) (S : List Str) : List Int := S.map fun s => ((pl W.states s : Nat) : Int)
theorem clsK_mem {n : Nat} {k : List Int} {f j : Int} : j ∈ clsK n k f ↔ (0 ≤ j ∧ j < n) ∧ k.getD j.toNat 0 = f := by
  unfold clsK
  rw [List.mem_filter, upN_mem, decide_eq_true_iff]
theorem clsK_up {n : Nat} {k : List Int} {f : Int} : (clsK n k f).Pairwise (· < ·) := (upN_up n).sublist List.filter_sublist
theorem clsK_sub {n : Nat} {k : List Int} {f : Int} : clsK n k f ∈ subsI (upN n) := subsI_of (upN_up n) clsK_up fun j hj => upN_mem.mpr (clsK_mem.mp hj).1
theorem clsK_all {n : Nat} {k : List Int} {f : Int} : clsK n k f = upN n ↔ ∀ j : Int, 0 ≤ j → j < n → k.getD j.toNat 0 = f := by
  constructor
  · intro e j h0 h1
    have : j ∈ clsK n k f := by rw [e]; exact upN_mem.mpr ⟨h0, h1⟩
    exact (clsK_mem.mp this).2
  · intro h
    exact List.filter_eq_self.mpr fun i hi => decide_eq_true (h i (upN_mem.mp hi).1 (upN_mem.mp hi).2)
theorem place_of {W : Wb} {j : Int} (h0 : 0 ≤ j) (h1 : j < W.states.length) : ∃ s, W.states[j.toNat]? = some s := ⟨_, List.getElem?_eq_getElem (by omega)⟩
open Classical in
theorem isW_watch {W : Wb} (g : Good W) {S : List Str} (hS : ∀ s ∈ S, s ∈ W.states) {gs : List (List Int)} (h : ∀ x, x ∈ gs ↔ Alone W x) : isW (plS W S) gs = wtB W S := by
  unfold isW wtB
  rw [Bool.eq_iff_iff, decide_eq_true_iff, Bool.not_eq_true', List.any_eq_false]
  have inC : ∀ (ns : List Str) (f : Int) (s : Str), s ∈ W.states → (((pl W.states s : Nat) : Int) ∈ clsK W.states.length (kerM W ns) f ↔ (kerM W ns).getD (pl W.states s) 0 = f) := fun ns f s hs => by
    rw [clsK_mem, Int.toNat_natCast]
    have := pl_lt hs
    exact ⟨fun z => z.2, fun z => ⟨⟨by omega, by omega⟩, z⟩⟩
  constructor
  · intro q ns hn hc s hs t ht
    -- the class of one state
    obtain ⟨s0, hs0, hall⟩ : ∃ s0 ∈ W.states, ∀ u ∈ S, goS W ns u = goS W ns s0 := by
      cases S with
      | nil => exact ⟨s, hs, fun u hu => by simp at hu⟩
      | cons u r => exact ⟨u, hS u (.head _), fun v hv => hc v hv u (.head _)⟩
    have e0 := pl_get hs0
    have hf : (kerM W ns).getD (pl W.states s0) 0 ∈ kerM W ns := by
      rw [kerM_at e0]
      exact List.mem_map.mpr ⟨goS W ns s0, List.mem_map.mpr ⟨s0, hs0, rfl⟩, rfl⟩
    have hcl : clsK W.states.length (kerM W ns) ((kerM W ns).getD (pl W.states s0) 0) = upN W.states.length := by
      refine Classical.byContradiction fun ne => ?_
      have := q _ ((h _).mpr ⟨ne, ns, _, hn, hf, rfl⟩)
      refine this (List.all_eq_true.mpr fun a ha => decide_eq_true ?_)
      obtain ⟨u, hu, rfl⟩ := List.mem_map.mp ha
      exact (inC ns _ u (hS u hu)).mpr ((kerM_iff (pl_get (hS u hu)) e0).mpr (hall u hu))
    have one : ∀ x ∈ W.states, goS W ns x = goS W ns s0 := fun x hx => by
      have z := clsK_all.mp hcl (pl W.states x) (by omega) (by have := pl_lt hx; omega)
      rw [Int.toNat_natCast] at z
      exact (kerM_iff (pl_get hx) e0).mp z
    rw [one s hs, one t ht]
  · intro q x hx hall
    obtain ⟨ne, ns, f, hn, hf, rfl⟩ := (h x).mp hx
    have hall := List.all_eq_true.mp hall
    have hc : ∀ s ∈ S, ∀ t ∈ S, goS W ns s = goS W ns t := fun s hs t ht => by
      have a1 := (inC ns f s (hS s hs)).mp (of_decide_eq_true (hall _ (List.mem_map.mpr ⟨s, hs, rfl⟩)))
      have a2 := (inC ns f t (hS t ht)).mp (of_decide_eq_true (hall _ (List.mem_map.mpr ⟨t, ht, rfl⟩)))
      exact (kerM_iff (pl_get (hS s hs)) (pl_get (hS t ht))).mp (a1.trans a2.symm)
    have all := q ns hn hc
    refine ne (clsK_all.mpr fun j h0 h1 => ?_)
    obtain ⟨y, hy, e⟩ := List.mem_map.mp hf
    obtain ⟨t, ht, rfl⟩ := List.mem_map.mp hy
    obtain ⟨s, hs⟩ := place_of (W := W) h0 h1
    rw [kerM_at hs, all s (List.mem_of_getElem? hs) t ht]
    exact e
theorem putK_old {κ : Type} [DecidableEq κ] {kvs : List (κ × V)} {k : κ} {u : V} (v : V) (h : valV kvs k = some u) : (putK kvs k v).map (·.1) = kvs.map (·.1) := by
  unfold putK
  rw [valV_any, h, Option.isSome_some]
  rw [if_pos rfl, List.map_map]
  refine List.map_congr_left fun p _ => ?_
  show (if p.1 = k then (p.1, v) else p).1 = p.1
  split <;> rfl
theorem key_tupW {kvs : List (List Key × V)} {ks : List (List Int)} (e : kvs.map (·.1) = ks.map kI) {i : Nat} {k : List Key} {v : V} (h : kvs[i]? = some (k, v)) : ∃ g, ks[i]? = some g ∧ k = kI g := by
  have e1 : (kvs.map (·.1))[i]? = some k := by rw [List.getElem?_map, h]; rfl
  rw [e, List.getElem?_map] at e1
  cases q : ks[i]? with
  | none => rw [q] at e1; cases e1
  | some g => rw [q] at e1; exact ⟨g, rfl, (Option.some.inj e1).symm⟩
/-- the keys' tuples, of whole numbers -/
theorem tups_keys {H : Hp} : ∀ {qs : List Addr} {ks : List (List Int)}, Paired (fun q k => H q = some (.tup (k.map kV))) qs (ks.map kI) → TupsAt H qs ks
  | [], [], _ => .nil
  | q :: qs, k :: ks, h => by
    cases h with
    | cons a b =>
      rw [kI_V] at a
      exact .cons a (tups_keys b)
  | [], _ :: _, h => nomatch h
  | _ :: _, [], h => nomatch h
def spWholeG : Sp := fun vs H Q _ => ∃ (p : Addr) (W : Wb), vs = [.ref p] ∧ WebAt H p W ∧ Good W ∧ ∀ t H', H t = none → Same H H' → H' t = some (.tup ((upN W.states.length).map V.int)) → Q (.ref t) H'
def spMetB : Sp := fun vs H Q _ => ∃ (wy ma : Addr) (row k : List Int), vs = [.ref wy, .ref ma] ∧ H wy = some (.lst (row.map V.int)) ∧ H ma = some (.tup (k.map V.int)) ∧ row.length ≤ 64 ∧ (∀ i ∈ row, 0 ≤ i ∧ i < k.length) ∧
  ∀ p H', H p = none → Same H H' → H' p = some (.tup ((kerA (row.map fun i => k.getD i.toNat 0)).map V.int)) → Q (.ref p) H'
def spMeets (Pt : Addr) (enc : Array Value) : Sp := fun vs H Q _ => ∃ (p : Addr) (W : Wb), vs = [.ref p] ∧ WebAt H p W ∧ Good W ∧ H Pt = some (.tbl enc) ∧
  ∀ (L : Addr) (as : List Addr) (ks : List (List Int)) (H' : Hp), Same H H' → H' L = some (.lst (as.map V.ref)) → TupsAt H' as ks → (∀ k, k ∈ ks ↔ ∃ ns, Names W ns ∧ k = kerM W ns) → ks.length ≤ 40320 → Q (.ref L) H'
def spAlone (Pt : Addr) (enc : Array Value) : Sp := fun vs H Q _ => ∃ (p : Addr) (W : Wb), vs = [.ref p] ∧ WebAt H p W ∧ Good W ∧ H Pt = some (.tbl enc) ∧
  ∀ (L : Addr) (as : List Addr) (gs : List (List Int)) (H' : Hp), Same H H' → H' L = some (.lst (as.map V.ref)) → TupsAt H' as gs → (∀ g, g ∈ gs ↔ Alone W g) → gs.length ≤ 256 → Q (.ref L) H'
def spIsW : Sp := fun vs H Q _ => ∃ (ga La : Addr) (gr : List Int) (as : List Addr) (gs : List (List Int)), vs = [.ref ga, .ref La] ∧ (H ga = some (.lst (gr.map V.int)) ∨ H ga = some (.tup (gr.map V.int))) ∧ H La = some (.lst (as.map V.ref)) ∧ TupsAt H as gs ∧ gr.length ≤ 1000 ∧ gs.length ≤ 1000 ∧
  ∀ H', Same H H' → Q (.bl (isW gr gs)) H'
def spEnough (C Pt : Addr) (enc : Array Value) : Sp := fun vs H Q E => ∃ (p pp : Addr) (W : Wb) (S : List Str), vs = [.ref p, .ref pp] ∧ WebAt H p W ∧ Good W ∧ H pp = some (.tup (S.map V.str)) ∧ S.length ≤ 1000 ∧ (∀ x ∈ S, x.length ≤ 10000) ∧ H Pt = some (.tbl enc) ∧
  ((∀ x ∈ S, x ∈ W.states) → ∀ H', Same H H' → Q (.bl (wtB W S)) H') ∧
  (∀ S1 x S2, S = S1 ++ x :: S2 → (∀ y ∈ S1, y ∈ W.states) → x ∉ W.states → ∀ (d : Addr) (H' : Hp), Same H H' → H' d = some (.xd [("word", .str x)]) → E (.ref C) (some d) H')
end L2

namespace L2
open PySem PySem.Spec PyProof.Rows
/-! ### the head of a law whose module makes lambdas: one table of code is tracked beside the script -/
section
variable {P : Program} {w : World} {K : PySem.W.Frag} {mg mb : Str → Option Value} {k : Nat} {fa a Pt cc : Addr} {fd : FuncData} {x : Str} {sp : Sp} {s₁ : Shared} {vs : List Value} {ns : List Int} {enc : Array Value}
/-- what is tracked at the start -/
structure AtTop (K : PySem.W.Frag) (a Pt : Addr) (enc : Array Value) (H : Hp) : Prop where
  tab : H Pt = some (.tbl enc)
  only : ∀ b u, H b = some u → b ≠ Pt → b = a ∧ K.lookup b = none ∧ ∃ o xs, u = .frz o (.lst xs)
theorem run_top {H : Hp} (KX : K.In s₁.heap) (hns : s₁.heap.Ns mainGlobals mg) (hb : s₁.heap.Ns builtinsNs mb) (hbb : ∀ x : Str, x ≠ "__name__" → mb x = bootBuiltins x) (hlim : s₁.heap.NoLimit) (hg : s₁.gens = #[])
    (ha : s₁.heap.get? a = some { cls := .type "list", data := .seq vs.toArray }) (hr : Room k callerA) (hPt : s₁.heap.get? Pt = some (PySem.W.tabObj #[])) (hKP : K.lookup Pt = none) (hcd : PySem.W.codeHdIn K cc Pt = true) (hbm : BmIn s₁.heap mg)
    (F : ∀ base : Heap, K.In base → base.Ns mainGlobals mg → BmIn base mg → FnOk P w K mg base CX0 k fa fd [x] sp) (hbind : ∀ (s : Shared) (u : Value), BindsTo s fd ⟨[u], []⟩ [(x, u)])
    (top : AtTop K a Pt enc H) (hok : HOk P w H s₁.heap) (hsp : sp [.ref a] H (fun v _ => v = .bl true) fun _ _ _ => False) :
    codeAny (model P w) callerA (.call (.ref fa) ⟨[.ref a], []⟩) (fun r s' => r = .ok (.ret (.bool true)) ∧ OldK s₁.heap s'.heap ∧ s'.os = s₁.os ∧ AllBare s'.gens) s₁ := by
  -- no namespace is tracked, nothing of the text's own objects is
  have undict : ∀ {b : Addr} {m : Str → Option Value}, s₁.heap.Ns b m → (hidT s₁.heap H).Ns b m := by
    rintro b m ⟨o, es, ep, e, d, r⟩
    refine ⟨o, es, ep, hidT_get e ?_, d, r⟩
    cases q : H b with
    | none => rfl
    | some u =>
      exfalso
      by_cases z : b = Pt
      · rw [z, hPt] at e; cases e; cases d
      · obtain ⟨z2, _⟩ := top.only b u q z
        rw [z2, ha] at e; cases e; cases d
  have inB : K.In (hidT s₁.heap H) := fun b o e => by
    refine hidT_get (KX b o e) ?_
    cases q : H b with
    | none => rfl
    | some u =>
      exfalso
      by_cases z : b = Pt
      · rw [z, hKP] at e; cases e
      · rw [(top.only b u q z).2.1] at e; cases e
  have md : Mod K mg (hidT s₁.heap H) := ⟨inB, undict hns, ⟨mb, undict hb, hbb⟩, let ⟨mc, h1, h2⟩ := hlim; ⟨mc, undict h1, h2⟩⟩
  have e0 : Env0 P w K mg (hidT s₁.heap H) callerA [] s₁ H :=
    { frames := rfl, mod := md, bs := fun b o e => of_hidT e, bsz := Nat.le_of_eq (hidT_size _ _), funs := trivial, frf := fun b z => (by cases z), hok := hok, bare := .of_eq hg }
  have bmB : BmIn (hidT s₁.heap H) mg := by
    obtain ⟨bm, ob, b1, b2, b3, b4, b5, b6⟩ := hbm
    refine ⟨bm, ob, b1, b2, hidT_get b3 ?_, b4, b5, b6⟩
    cases q : H bm with
    | none => rfl
    | some u =>
      exfalso
      by_cases z : bm = Pt
      · rw [z, hPt] at b3; cases b3; cases b4
      · rw [(top.only bm u q z).1, ha] at b3; cases b3; exact absurd b6 (by simp)
  have go := (F _ inB (undict hns) bmB).run callerA [] s₁ H ⟨[.ref a], []⟩ [.ref a] [.ref a] (fun v _ => v = .bl true) (fun _ _ _ => False) hr e0 (hbind s₁ (.ref a)) (.cons rfl .nil) hsp
  refine codeAny_mono go fun res s' h => ?_
  match res, h with
  | .error _, h => exact False.elim h
  | .ok .next, h => exact False.elim h
  | .ok .brk, h => exact False.elim h
  | .ok .cont, h => exact False.elim h
  | .ok (.ret u), h =>
    obtain ⟨v, H', os, bare, un, hok', rv, q⟩ := h
    have q : v = .bl true := q
    subst q
    have rv : u = Value.bool true := rv
    subst rv
    have old : ∀ b o, s₁.heap.get? b = some o → b ≠ Pt → s'.heap.get? b = some o := fun b o e z => by
      cases q : H b with
      | none => exact un.keep b o e q (by intro y; cases y) (by simp)
      | some t =>
        obtain ⟨_, _, ob, xs, rfl⟩ := top.only b t q z
        have e1 := (hok b _ q).1
        have e2 := (hok' b _ (un.frzs b ob _ q)).1
        rw [e] at e1
        rw [e2, Option.some.inj e1]
    have tab : ∃ qs : Array Value, s'.heap.get? Pt = some { cls := .none, data := .fields qs } := by
      obtain ⟨more, e⟩ := un.tbls Pt enc top.tab
      obtain ⟨qs, e2, _⟩ := (show ObjOk P w H' s'.heap Pt (.tbl (enc ++ more)) from hok' Pt _ e)
      exact ⟨qs, e2⟩
    obtain ⟨qs, tab⟩ := tab
    have isT : isCodeTable s₁.heap Pt := by
      obtain ⟨o, us, file, tf, flags, tg, inF, text, tt, h1, h2, h3, h4, _⟩ := PySem.W.codeHd_of_K KX hcd
      exact ⟨cc, o, us, h1, h2, h3, h4⟩
    refine ⟨rfl, ⟨fun b o e => ?_, fun b o e => ?_⟩, os, bare⟩
    · by_cases z : b = Pt
      · subst z
        rw [hPt] at e
        cases e
        exact .inr (.inl ⟨isT, rfl, #[], qs, rfl, by simpa using tab⟩)
      · exact .inl (old b o e z)
    · by_cases z : b = Pt
      · exact ⟨_, by rw [z]; exact tab⟩
      · exact ⟨o, old b o e z⟩
theorem law_callT (KX : K.In s₁.heap) (hns : s₁.heap.Ns mainGlobals mg) (hb : s₁.heap.Ns builtinsNs mb) (hbb : ∀ x : Str, x ≠ "__name__" → mb x = bootBuiltins x) (hlim : s₁.heap.NoLimit) (hg : s₁.gens = #[])
    (ha : s₁.heap.get? a = some { cls := .type "list", data := .seq vs.toArray }) (hi : IntsAre vs ns) (hl : ns.length ≤ sizeLine) (hr : Room k callerA) (hPt : s₁.heap.get? Pt = some (PySem.W.tabObj #[])) (hKP : K.lookup Pt = none) (hcd : PySem.W.codeHdIn K cc Pt = true) (hbm : BmIn s₁.heap mg)
    (F : ∀ base : Heap, K.In base → base.Ns mainGlobals mg → BmIn base mg → FnOk P w K mg base CX0 k fa fd [x] sp) (hbind : ∀ (s : Shared) (u : Value), BindsTo s fd ⟨[u], []⟩ [(x, u)])
    (hsp : ∀ H : Hp, H Pt = some (.tbl enc) → SqL K H a (ns.map V.int) → sp [.ref a] H (fun v _ => v = .bl true) fun _ _ _ => False) :
    codeAny (model P w) callerA (.call (.ref fa) ⟨[.ref a], []⟩) (fun r s' => r = .ok (.ret (.bool true)) ∧ OldK s₁.heap s'.heap ∧ s'.os = s₁.os ∧ AllBare s'.gens) s₁ := by
  have rv := vals_ints hi
  have naP : a ≠ Pt := fun z => by rw [z, hPt] at ha; cases ha
  have tok : ∀ {H : Hp}, ObjOk P w H s₁.heap Pt (.tbl enc) := fun {H} => ⟨#[], hPt, .inl rfl⟩
  cases lk : K.lookup a with
  | some o =>
    -- the script is an object of the module
    have e := KX a o lk
    rw [ha] at e
    cases e
    refine run_top (H := upd (fun _ => none) Pt (.tbl enc)) KX hns hb hbb hlim hg ha hr hPt hKP hcd hbm F hbind ⟨upd_same, fun b u e z => ?_⟩ (fun b u e => ?_) (hsp _ upd_same (.inr ⟨_, vs.toArray, _, lk, rfl, rfl, rfl, by rw [List.size_toArray, hi.length]; exact hl, by simpa using rv⟩))
    · rw [upd_ne z] at e; cases e
    · by_cases z : b = Pt
      · subst z
        rw [upd_same] at e
        cases e
        exact tok
      · rw [upd_ne z] at e; cases e
  | none =>
    have hS : (upd (upd (fun _ => none) a (.frz { cls := .type "list", data := .seq vs.toArray } (.lst (ns.map V.int)))) Pt (.tbl enc) : Hp) a = some (.frz { cls := .type "list", data := .seq vs.toArray } (.lst (ns.map V.int))) := by rw [upd_ne naP]; exact upd_same
    refine run_top (H := upd (upd (fun _ => none) a (.frz { cls := .type "list", data := .seq vs.toArray } (.lst (ns.map V.int)))) Pt (.tbl enc)) KX hns hb hbb hlim hg ha hr hPt hKP hcd hbm F hbind ⟨upd_same, fun b u e z => ?_⟩ (fun b u e => ?_) (hsp _ upd_same (.inl (.inr ⟨_, hS⟩)))
    · rw [upd_ne z] at e
      by_cases y : b = a
      · subst y
        rw [upd_same] at e
        cases e
        exact ⟨rfl, lk, _, _, rfl⟩
      · rw [upd_ne y] at e; cases e
    · by_cases z : b = Pt
      · subst z
        rw [upd_same] at e
        cases e
        exact tok
      · rw [upd_ne z] at e
        by_cases y : b = a
        · subst y
          rw [upd_same] at e
          cases e
          exact ⟨ha, by rw [List.length_map]; exact hl, vs, _, rv, ha⟩
        · rw [upd_ne y] at e; cases e
/-- the goal that the head leaves, with one table -/
theorem walk_ofT {l : PySem.W.OpenLaw} {n k : Nat} {q : Program} {loose : List Str} {XP : (Str → Option Value) → Heap → Prop} {YP : World → Heap → Prop} {d : DefRec} {K : Params → PySem.W.Frag} {sp : World → Sp} {x : Str} {Pt : Addr} {enc : Array Value}
    (hn : l.most = some n) (hn2 : n ≤ sizeLine) (hdf : d.params.defaults = []) (hr : Room k callerA)
    (hY : ∀ (w : World) (h : Heap), YP w h → (K w.params).In h ∧ h.get? Pt = some (PySem.W.tabObj #[]))
    (hKP : ∀ w : World, (K w.params).lookup Pt = none)
    (F : ∀ (w : World) (mg : Str → Option Value) (fa : Addr) (h : Heap), (K w.params).In h → h.Ns mainGlobals mg → mg d.name = some (.ref fa) →
      ∃ (cc : Addr) (fd : FuncData), PySem.W.codeHdIn (K w.params) cc Pt = true ∧ (∀ (s : Shared) (u : Value), BindsTo s fd ⟨[u], []⟩ [(x, u)]) ∧
        ∀ base : Heap, (K w.params).In base → base.Ns mainGlobals mg → BmIn base mg → FnOk l.prog w (K w.params) mg base CX0 k fa fd [x] (sp w))
    (hsp : ∀ (w : World) (H : Hp) (a : Addr) (ns : List Int), ns.length ≤ n → H Pt = some (.tbl enc) → SqL (K w.params) H a (ns.map V.int) → sp w [.ref a] H (fun v _ => v = .bl true) fun _ _ _ => False) :
    PySem.W.WalkO q loose XP YP l.row.toRowW d [] (fun f vs => PySem.call f vs) := by
  refine Att.attach_call hn hdf fun w s₀ s₁ mg mb fa o pm cd doc a vs ns G Y ho hd hcd hmg hobj hints hlen hg => ?_
  obtain ⟨KX, tb⟩ := hY w _ Y
  obtain ⟨cc, fd, hc, hb, hF⟩ := F w mg fa _ KX G.T.g hmg
  exact law_callT KX G.T.g G.T.b G.T.builtins G.T.nolimit hg hobj hints (Nat.le_trans hlen hn2) hr tb (hKP w) hc G.T.bmain hF hb fun H h1 h2 => hsp w H a ns hlen h1 h2
end
end L2

namespace L2
open PySem PySem.Spec PyProof.Rows
/-! ### objects of own classes -/
section
variable {X : Cx} {o e value : Expr} {f : Str} {pos pos' tpos : Pos} {ta tv : TE}
end
section
variable {X : Cx} {C : Addr} {m : Str} {k : Nat} {ps : List Str} {sp : Sp} {apos pos : Pos} {o e : Expr} {es : List Expr} {ta : TE} {t : TA}
end
/-! ### kept draws -/
def fldsK (wv pv : V) : List (Str × V) := putF "past" pv (putF "web" wv [])
/-- a kept draw stands at p: its web, its past -/
structure KeptAt (C : Addr) (H : Hp) (p : Addr) (W : Wb) (ns : List Str) : Prop where
  ex : ∃ (dx wp pp : Addr), H p = some (.ins C dx (fldsK (.ref wp) (.ref pp))) ∧ WebAt H wp W ∧ H pp = some (.tup (ns.map V.str))
theorem KeptAt.mono {C : Addr} {H H' : Hp} {p : Addr} {W : Wb} {ns : List Str} (s : Same H H') (h : KeptAt C H p W ns) : KeptAt C H' p W ns := by
  obtain ⟨dx, wp, pp, h1, h2, h3⟩ := h.ex
  exact ⟨dx, wp, pp, s _ _ h1, h2.mono s.keepT, s _ _ h3⟩
theorem Keep.insT {C dx p : Addr} {fs : List (Str × V)} {H H' : Hp} (k : Keep p H H') (h : H p = some (.ins C dx fs)) : KeepT H H' := fun b xs hb => k b _ hb (ne_of hb h (by intro z; cases z))
theorem KeptAt.keepT {C : Addr} {H H' : Hp} {p : Addr} {W : Wb} {ns : List Str} (h : KeptAt C H p W ns) (k : Keep p H H') : KeepT H H' := by
  obtain ⟨dx, wp, pp, h1, _⟩ := h.ex
  exact k.insT h1
/-- another one is left as it is -/
theorem KeptAt.other {C : Addr} {H H' : Hp} {p p' : Addr} {W W' : Wb} {ns ns' : List Str} (h : KeptAt C H p W ns) (h' : KeptAt C H p' W' ns') (n : p ≠ p') (k : Keep p' H H') : KeptAt C H' p W ns := by
  obtain ⟨dx, wp, pp, h1, h2, h3⟩ := h.ex
  exact ⟨dx, wp, pp, k _ _ h1 n, h2.mono (h'.keepT k), h'.keepT k _ _ h3⟩
end L2

namespace L2
open PySem PySem.Spec PyProof.Rows
/-! ### a sign put into a text -/
end L2

namespace L2
open PySem PySem.Spec PyProof.Rows
/-! ### a dict of the moves' dicts -/
def OneWay (H : Hp) (W : Wb) (n : Str) (d : Addr) : Prop := ∃ dv : List (Key × V), H d = some (.dK dv) ∧ ∀ s ∈ W.states, valV dv (.inr s) = some (.str (step W n s))
def WaysD (H : Hp) (W : Wb) (kvs : List (Key × V)) : Prop := ∀ n ∈ W.moves.map (·.1), ∃ d, valV kvs (.inr n) = some (.ref d) ∧ OneWay H W n d
theorem OneWay.mono {H H' : Hp} {W : Wb} {n : Str} {d : Addr} (s : Same H H') (h : OneWay H W n d) : OneWay H' W n d := let ⟨dv, h1, h2⟩ := h; ⟨dv, s _ _ h1, h2⟩
theorem WaysD.mono {H H' : Hp} {W : Wb} {kvs : List (Key × V)} (s : Same H H') (h : WaysD H W kvs) : WaysD H' W kvs := fun n hn => let ⟨d, h1, h2⟩ := h n hn; ⟨d, h1, h2.mono s⟩
/-! ### lists of data -/
end L2

namespace L2
open PySem PySem.Spec PyProof.Rows
/-! ### an error class of one's own with an __init__: its objects made -/
section
variable {prog : Program} {w : World} {A : Around} {h : Heap} {g : Array GenState} {d : Drawn} {t : Nat} {os : OsState} {R : Result → Shared → Prop}
variable {nm q : Str} {C N f : Addr} {bs bm bmB bmN : List Value} {hdct ab : Bool} {sn : List Str} {sub : List Value} {col : Option Bool} {dd : Option Addr} {k0 k1 k2 k3 k5 : Option Value} {B Bn newId nid initId inN : String}
abbrev rawExc (h : Heap) (C : Addr) (rest : List Value) : Heap := (h.push { cls := .type "tuple", data := .seq rest.toArray }).push { cls := .ref C, data := .fields #[.ref h.objs.size, .none, .none, .none, .bool false, .none] }
theorem exc_make (Fn : ExcBaseFacts Bn newId inN bmN) (hBn : bmB.contains (.type Bn) = true) (F : ExcBaseFacts B nid initId bmB) (T : OwnTail h bmB bm) {rest : List Value}
    (hC : h.get? C = some (excClassObj nm q C N bs bm hdct sn sub ab col dd k0 k1 k2 k3 k5 newId))
    (hi : PySem.W.Looks (model prog w) h (typeLookup (.ref C) "__init__") (some (.ref f))) (hb : ∀ self, PySem.W.Looks (model prog w) h (bindSpecial (.ref f) self) (.ref f, [self]))
    (hrun : codeAny (model prog w) (A.under (.builtin "type.__call__" ⟨.ref C :: rest, []⟩)) (.call (.ref f) ⟨.ref (h.objs.size + 1) :: rest, []⟩) (PySem.W.InitBack (h.objs.size + 1) R) ⟨rawExc h C rest, g, d, t, os⟩) (hz : rest.length ≤ sizeLine) :
    codeAny (model prog w) A (.call (.ref C) ⟨rest, []⟩) R ⟨h, g, d, t, os⟩ := by
  have l1 := tc_lookup
  have l2 := tc_bind (.ref C)
  have tyC : (⟨h, g, d, t, os⟩ : Shared).TypeIs (.ref C) "type" := ⟨_, hC, rfl⟩
  refine codeAny_of_tree (show wpAny _ _ (callAny (.ref C) ⟨rest, []⟩) _ _ _ from ?_)
  repeat (any_goals (first | assumption | with_reducible refine wpAny_loadPart_at hC ?_ | wp_step))
  refine And.intro rfl (codeAny_call_builtin_at (Code.quiet_builtin _ (by decide +kernel)) entry_typeCall (wpAny_check_type_call_sub hC ?_))
  unfold Builtin.«type.__call__»
  repeat (first | with_reducible refine wpAny_loadPart_at hC ?_ | with_reducible refine wpAny_madeBy_exc hC ?_ | wp_step)
  refine codeAny_call_builtin_code (Code.quiet_builtin _ Fn.quiet) (wpAny_check_new_subU Fn hBn T hC (codeAny_exc_new_subU Fn hBn F T hC ?_ hz))
  refine (show wpAny _ _ _ _ _ _ from ?_)
  dsimp only [List.append, List.cons_append, List.nil_append]
  have kp : ∀ b o, h.get? b = some o → (rawExc h C rest).get? b = some o := fun b o e => Heap.get?_push_of_some _ (Heap.get?_push_of_some _ e)
  have hx : (rawExc h C rest).get? (h.objs.size + 1) = some { cls := .ref C, data := .fields #[.ref h.objs.size, .none, .none, .none, .bool false, .none] } := by
    unfold rawExc
    heap_get
  have hC1 := kp _ _ hC
  have ty1 : PySem.W.Looks (model prog w) (rawExc h C rest) (typeOf (.ref (h.objs.size + 1))) (.ref C) := (PySem.W.Looks.ld hx).andThen .now
  have i1 := hi.keeps kp
  have b1 := (hb (.ref (h.objs.size + 1))).keeps kp
  have inC : (Value.ref C :: bm).contains (.ref C) = true := by simp
  unfold isInstance
  repeat (first | with_reducible refine wpAny_loadPart_at hx ?_ | (with_reducible refine wpAny_isSubtype_exc hC1 ?_; rw [inC]) | wp_step)
  refine i1.at ?_
  dsimp only
  refine wpAny_holding (wpAny_bind (b1.at ?_))
  dsimp only
  refine wpAny_bind (wpAny_call (codeAny_mono hrun fun r s' z => ?_))
  cases r with
  | error e => exact z
  | ok fl =>
    cases fl with
    | ret v =>
      obtain ⟨rfl, z⟩ := z
      exact wpAny_pure (wpAny_pure z)
    | next => exact z.elim
    | brk => exact z.elim
    | cont => exact z.elim
end
/-! ### super().__init__ of a built-in base -/
theorem vi_slot : Slot "wrapper_descriptor" "__get__" "wrapper_descriptor.__get__" := .of (owner := "wrapper_descriptor") (n := "__get__") (by rw [typeLookup_type, builtinLookup_eq_fast]; kernel_rfl) (by decide +kernel) (by decide +kernel) (by decide +kernel) (.inl (by kernel_rfl)) (by rw [isSubtype_type]; kernel_rfl)
theorem vi_entry : entryFor table "wrapper_descriptor.__get__" = some Builtin.«wrapper_descriptor.__get__» := entryFor_of_tree (by kernel_rfl)
theorem vi_args (a b c : Value) : argsOk "wrapper_descriptor.__get__" ⟨[a, b, c], []⟩ := by unfold argsOk; kernel_rfl
theorem vi_type : typeOf (.builtin "ValueError.__init__") = pure (.type "wrapper_descriptor") := by
  show builtinType _ = _
  kernel_rfl
theorem typeIs_vi (s : Shared) : s.TypeIs (.builtin "ValueError.__init__") "wrapper_descriptor" := by
  show builtinType _ = _
  kernel_rfl
section
variable {prog : Program} {w : World} {A : Around} {E : Value → Shared → Prop} {h : Heap} {g : Array GenState} {d : Drawn} {t : Nat} {os : OsState}
abbrev mwObj (x : Addr) : Obj := { cls := .type "method-wrapper", data := .fields #[.builtin "ValueError.__init__", .ref x] }
theorem sizeOk_mw (x : Addr) : sizeOk (.fields #[.builtin "ValueError.__init__", .ref x]) := by size_fits
set_option maxHeartbeats 4000000 in
theorem super_vi {so D x C : Addr} {ox : Obj} {l₀ l : List Value} {K : PySem.W.Frag} {tk : Tok} {Q : Fin → Shared → Prop}
    (hso : h.get? so = some { cls := .type "super", dict := none, data := .fields #[.ref D, .ref x, .ref C], slots := #[] }) (hno : PySem.W.Looks (model prog w) h (opaqueClassAbove (.ref C)) none)
    (hC : PySem.W.Looks (model prog w) h (mroOf (.ref C)) l₀) (hl : (l₀.dropWhile (· != .ref D)).drop 1 = l) (X : K.In h) (hf : PySem.W.alongIn K "__init__" l = some (some (.builtin "ValueError.__init__")))
    (hx : h.get? x = some ox) (hxc : ox.cls = .ref C) (hxC : x ≠ C) (hsub : PySem.W.Looks (model prog w) h (isSubtype (.ref C) (.type "ValueError")) true)
    (hq : Q (.done (.ret (.ref h.objs.size))) ⟨h.push (mwObj x), g, d, t, os⟩) :
    wpAny (model prog w) A (Builtin.«super.__getattribute__» ⟨[.ref so, .str "__init__" tk], []⟩) Q E ⟨h, g, d, t, os⟩ := by
  have ne : (Value.ref x == Value.ref C) = false := by simp [hxC]
  have nc : ((Str.ofString "__init__") == (Str.ofString "__class__")) = false := by decide +kernel
  have dt : ({ cls := .type "super", dict := none, data := .fields #[.ref D, .ref x, .ref C], slots := #[] } : Obj).data = .fields #[.ref D, .ref x, .ref C] := rfl
  have g0 : (#[.ref D, .ref x, .ref C] : Array Value)[0]? = some (.ref D) := rfl
  have g1 : (#[.ref D, .ref x, .ref C] : Array Value)[1]? = some (.ref x) := rfl
  have g2 : (#[.ref D, .ref x, .ref C] : Array Value)[2]? = some (.ref C) := rfl
  have tyB := vi_type
  have lkB := vi_slot.lookup
  unfold Builtin.«super.__getattribute__»
  repeat (first
    | (with_reducible refine wpAny_field hso dt g0 ?_) | (with_reducible refine wpAny_field hso dt g1 ?_) | (with_reducible refine wpAny_field hso dt g2 ?_)
    | (with_reducible refine ks_wpAny_notOpaque hno ?_)
    | ((with_reducible refine PySem.W.Looks.at hC ?_); rw [hl])
    | (refine ks_forIn_along X (fun _ _ => rfl) rfl ?_ hf)
    | (simp only [nc, ne, Bool.or_false, Bool.false_eq_true, if_false])
    | (with_reducible refine wpAny_call_entry vi_slot (typeIs_vi _) vi_entry ?_ (vi_args _ _ _))
    | wp_step
    | dsimp only)
  rw [hxc, show ".".intercalate ("ValueError.__init__".cutAt '.').dropLast = "ValueError" from by decide +kernel]
  refine hsub.at ?_
  refine wpAny_pure ?_
  unfold newFields
  refine wpAny_bind (wpAny_newObj_type ?_ ?_)
  · refine wpAny_pure ⟨_, rfl, ?_⟩
    refine wpAny_bind (wpAny_pure (wpAny_pure ?_))
    exact wpAny_pure hq
  · exact sizeOk_mw x
end
end L2

namespace L2
open PySem PySem.Spec PyProof.Rows
section
variable {prog : Program} {w : World} {A : Around} {E : Value → Shared → Prop} {h : Heap} {g : Array GenState} {d : Drawn} {t : Nat} {os : OsState} {R : Result → Shared → Prop}
theorem super_meth {so D x C : Addr} {ox : Obj} {l₀ l : List Value} {K : PySem.W.Frag} {pl : Sem Bool} {Q : Value × List Value → Shared → Prop}
    (hso : h.get? so = some { cls := .type "super", dict := none, data := .fields #[.ref D, .ref x, .ref C], slots := #[] }) (hno : PySem.W.Looks (model prog w) h (opaqueClassAbove (.ref C)) none)
    (hC : PySem.W.Looks (model prog w) h (mroOf (.ref C)) l₀) (hl : (l₀.dropWhile (· != .ref D)).drop 1 = l) (X : K.In h) (hf : PySem.W.alongIn K "__init__" l = some (some (.builtin "ValueError.__init__")))
    (hx : h.get? x = some ox) (hxc : ox.cls = .ref C) (hxC : x ≠ C) (hsub : PySem.W.Looks (model prog w) h (isSubtype (.ref C) (.type "ValueError")) true)
    (hq : Q (.ref h.objs.size, []) ⟨h.push (mwObj x), g, d, t + 1, os⟩) :
    wpAny (model prog w) A (getMethod (.ref so) "__init__" pl) Q E ⟨h, g, d, t, os⟩ := by
  have look := F.ks_slot_super_ga.lookup
  have can := F.ks_canon_super_ga
  have tyS : ∀ k, (⟨h, g, d, k, os⟩ : Shared).TypeIs (.ref so) "super" := fun _ => ⟨_, hso, rfl⟩
  unfold getMethod
  refine wpAny_bind (wpAny_specialOf (tyS _) look ?_)
  refine (show wpAny _ _ (if (Manifest.canonical "super.__getattribute__" != "object.__getattribute__") = true then _ else _) _ _ _ from ?_)
  rw [if_pos can]
  unfold getAttr getAttrBy
  refine wpAny_bind (wpAny_bind (wpAny_mkText (wpAny_holding (wpAny_bind (wpAny_typeOf (tyS _) (wpAny_bind (wpAny_of_eq look ?_)))))))
  refine (show wpAny _ _ (getAttrByItsOwn (.ref so) (.str "__init__" t) (.type "super") (.builtin "super.__getattribute__") true false) _ _ _ from ?_)
  unfold getAttrByItsOwn hookBefore callGetattribute boundAndCalled
  refine wpAny_bind (wpAny_of_eq (show (if onTheHeap (.type "super") then typeLookup (.type "super") "__getattr__" else pure none) = pure none from rfl) (wpAny_bind (wpAny_attempt (wpAny_holding ?_))))
  refine (show wpAny _ _ (bindSpecial (.builtin "super.__getattribute__") (.ref so) >>= _) _ _ _ from wpAny_bind (wpAny_of_eq (F.ks_slot_super_ga.bind _) ?_))
  refine wpAny_mono (Q := fun v s1 => v = .ref h.objs.size ∧ s1 = ⟨h.push (mwObj x), g, d, t + 1, os⟩) (E := fun _ _ => False) (wpAny_call_entry F.ks_slot_super_ga (tyS _) F.ks_entry_super_ga (super_vi hso hno hC hl X hf hx hxc hxC hsub ⟨_, rfl, rfl, rfl⟩) (F.ks_gaArgs_super _ _)) (fun v s1 hv => ?_) fun _ _ z => z.elim
  obtain ⟨rfl, rfl⟩ := hv
  exact wpAny_pure (wpAny_pure hq)
variable {nm q : Str} {C N mw x : Addr} {bs bm bmB : List Value} {hdct ab : Bool} {sn : List Str} {sub : List Value} {col : Option Bool} {dd : Option Addr} {k0 k1 k2 k3 k5 : Option Value} {newId nid : String} {oe : Obj} {v a0 : Value}
theorem mw_run (Fb : ExcBaseFacts "ValueError" nid "ValueError.__init__" bmB) (T : OwnTail h bmB bm) (hmw : h.get? mw = some (mwObj x)) (hC : h.get? C = some (excClassObj nm q C N bs bm hdct sn sub ab col dd k0 k1 k2 k3 k5 newId))
    (he : h.get? x = some oe) (hcls : oe.cls = .ref C) (hd : oe.data = .fields #[a0, .none, .none, .none, .bool false, .none])
    (hq : R (.ok (.ret .none)) ⟨(h.push { cls := .type "tuple", data := .seq #[v] }).update x (Obj.mapFields (·.setIfInBounds 0 (.ref h.objs.size))), g, d, t, os⟩) :
    codeAny (model prog w) A (.call (.ref mw) ⟨[v], []⟩) R ⟨h, g, d, t, os⟩ := by
  refine codeAny_of_tree (show wpAny _ _ (callAny (.ref mw) ⟨[v], []⟩) _ _ _ from ?_)
  repeat (first | with_reducible refine wpAny_loadPart_at hmw ?_ | (with_reducible refine wpAny_check_init_subU Fb T hC he hcls ?_) | (refine codeAny_call_builtin Fb.init.plain Fb.initEntry ?_) | (with_reducible refine And.intro rfl ?_) | wp_step)
  rw [hcls]
  repeat (first | with_reducible refine wpAny_loadPart_at hC ?_ | (with_reducible refine wpAny_onRaise ?_) | wp_step)
  refine ⟨plainId_quiet Fb.init.plain _, codeAny_builtin Fb.initEntry ?_⟩
  rw [Around.under_plainId Fb.init.plain]
  unfold Builtin.«BaseException.__init__»
  have he2 := Heap.get?_push_of_some (h := h) { cls := .type "tuple", data := .seq #[v] } he
  repeat (first | (with_reducible refine wpAny_setField he2 hd (by decide) ?_) | wp_step)
  rw [hd]
  refine wpAny_pure (wpAny_pure (wpAny_bind (wpAny_setField he2 hd (Nat.zero_lt_succ _) ?_)))
  cases a0 <;> repeat (first | exact hq | wp_step)
end
end L2

namespace L2
open PySem PySem.Spec PyProof.Rows
/-- the bases of ValueError -/
abbrev fourV : List Value := [.type "ValueError", .type "Exception", .type "BaseException", .type "object"]
/-- the bases of an own error: own classes, then those of ValueError -/
def errTail : List Value → Bool
  | .ref _ :: r => errTail r
  | l => l == fourV
theorem errTail_cases {l : List Value} (e : errTail l = true) : (∃ c r, l = .ref c :: r ∧ errTail r = true) ∨ l = fourV := by
  unfold errTail at e
  split at e
  · exact .inl ⟨_, _, rfl, e⟩
  · exact .inr (beq_iff_eq.mp e)
theorem errTail_both (self : Value) (l : List Value) : errTail l = true → PySem.refuseLoop self "__setattr__" l = pure () ∧ l.contains (.type "object") = true := by
  induction l with
  | nil => intro e; rcases errTail_cases e with ⟨_, _, z, _⟩ | z <;> cases z
  | cons v r ih =>
    intro e
    rcases errTail_cases e with ⟨c, r2, z, e2⟩ | z
    · cases z
      obtain ⟨i1, i2⟩ := ih e2
      exact ⟨(PySem.refuseLoop_ref self _ c r).trans i1, by rw [List.contains_cons, i2, Bool.or_true]⟩
    · rw [z]
      exact ⟨PySem.F.store_ValueError.passes self, by decide +kernel⟩
def errOver (K : PySem.W.Frag) (C : Addr) : Bool := (PySem.W.clsIn K C).any fun cd => errTail cd.mro
section
variable {prog : Program} {w : World} {A : Around} {R : Result → Shared → Prop} {s : Shared} {K : PySem.W.Frag} {C x : Addr} {ox : Obj} {od : Option Obj} {name : Str} {tk : Tok} {v : Value}
/-- object.__setattr__ of an error -/
theorem err_osa (X : K.In s.heap) (I : PySem.W.InstAt s.heap x ox C od) (hp : errOver K C = true) (ht : PySem.W.takerIn K C name = some none)
    (h : ∀ b, wpAny (model prog w) A.in1 (Builtin.ObjectAttr.storeInOwnDict (.ref x) (.ref C) (.str name tk) name v b)
      (fun fin s' => match fin with
        | .done f => R (.ok f) s'
        | .again c' => c'.quiet = true ∧ codeAny (model prog w) A c' R s')
      (fun e s' => R (.error e) s') s) :
    codeAny (model prog w) A (.call (.builtin "object.__setattr__") ⟨[.ref x, .str name tk, v], []⟩) R s := by
  have SF := PySem.F.store_object
  obtain ⟨cd, hc, ho⟩ := PySem.W.any_some hp
  obtain ⟨pass, has⟩ := errTail_both (.ref x) cd.mro ho
  have ne : cd.mro.isEmpty = false := by
    cases q : cd.mro with
    | nil => rw [q] at has; cases has
    | cons _ _ => rfl
  have isO : PySem.W.Looks (model prog w) s.heap (isInstance (.ref x) (.type "object")) true :=
    I.type.andThen (PySem.W.looks_mroIn X (by
      unfold PySem.W.mroIn
      rw [hc, Option.bind_some, if_neg (by rw [ne]; decide), has]))
  have lm : PySem.W.Looks (model prog w) s.heap (mroOf (.ref C)) cd.mro := (PySem.W.looks_clsIn X hc).andThen .now
  obtain ⟨attr, ha, hr⟩ := Option.bind_eq_some_iff.mp ht
  have lt : PySem.W.Looks (model prog w) s.heap (Builtin.ObjectAttr.storeTaker? attr) none := by
    cases attr with
    | none => exact .now
    | some a =>
      obtain ⟨b, hb, eb⟩ := Option.map_eq_some_iff.mp hr
      refine (PySem.W.looks_takesIn X hb).andThen ?_
      cases b with
      | true => cases eb
      | false => exact .now
  refine codeAny_call_builtin SF.slot.plain SF.entry ?_
  refine @PySem.W.check_slot (model prog w) _ _ s "object.__setattr__" "object" "__setattr__" (.ref x) [.str name tk, v] [] _ SF.kind SF.split isO (SF.args (.ref x) (.str name tk) v) ?_
  rw [PySem.W.osa_eq, refuse_eq]
  refine wpAny_bind (wpAny_bind (I.type.here ?_))
  refine wpAny_bind (lm.here ?_)
  rw [pass]
  refine wpAny_pure (wpAny_bind (I.type.here ?_))
  refine wpAny_bind ((PySem.W.looks_findIn X ha).here ?_)
  exact wpAny_bind (lt.here (h _))
end
section
variable {prog : Program} {w : World} {A : Around} {E : Value → Shared → Prop} {s : Shared} {K : PySem.W.Frag} {C x : Addr} {ox : Obj} {name : Str} {v : Value}
/-- the first field stored: the dict is made -/
theorem exc_set {Q : Unit → Shared → Prop} (X : K.In s.heap) (hx : s.heap.get? x = some ox) (hcls : ox.cls = .ref C) (hno : PySem.W.notCls ox = true) (hdi : ox.dict = none) {vs : Array Value} (hdat : ox.data = .fields vs)
    (hs : PySem.W.findIn K (.ref C) "__setattr__" = some (some (.builtin "object.__setattr__"))) (hp : errOver K C = true) (ht : PySem.W.takerIn K C name = some none) (hh : PySem.W.hasDictIn K C = true)
    (h : ∀ h', h'.get? x = some { ox with dict := some s.heap.objs.size } → h'.Ns1 s.heap.objs.size (fun y => if y = name then some v else none) → (∀ b o, b ≠ x → s.heap.get? b = some o → h'.get? b = some o) → Q () { s with heap := h', toks := s.toks + 2 }) :
    wpAny (model prog w) A (setAttr (.ref x) name v) Q E s := by
  have J : PySem.W.InstAt s.heap x ox C none := ⟨hx, hcls, hno, by rw [hdi]; trivial⟩
  refine PySem.W.set_plain X J hs (err_osa (s := { s with toks := s.toks + 1 }) X J hp ht fun b => ?_)
  obtain ⟨cd, hc, hd'⟩ := PySem.W.any_some hh
  refine wpAny_bind (wpAny_pure (wpAny_bind (wpAny_bind (wpAny_loadPart hx ?_))))
  rw [hcls]
  refine wpAny_bind (PySem.W.Looks.here (s := { s with toks := s.toks + 1 }) (PySem.W.looks_clsIn X hc) ?_)
  rw [hd', hdi, hdat]
  refine (show wpAny _ _ (do
    let d ← alloc { cls := Value.type "dict", data := Data.dict #[] }
    update x fun o => { cls := o.cls, dict := some d, data := o.data, slots := o.slots }
    dictMade (Value.ref C) x d) _ _ _ from ?_)
  have hx2 := Heap.get?_push_of_some (h := s.heap) { cls := .type "dict", data := .dict #[] } hx
  have nx : s.heap.objs.size ≠ x := Nat.ne_of_gt (Heap.lt_size hx)
  refine wpAny_bind (wpAny_alloc (wpAny_bind (wpAny_update (o := ox) hx2 ?_)))
  have hx3 : ((s.heap.push { cls := .type "dict", data := .dict #[] }).update x fun o => { cls := o.cls, dict := some s.heap.objs.size, data := o.data, slots := o.slots }).get? x = some { ox with dict := some s.heap.objs.size } :=
    Heap.get?_update_self _ hx2 (Obj.isFreed_of_fields (vs := vs) hdat)
  have keep : ∀ b o, b ≠ x → s.heap.get? b = some o → ((s.heap.push { cls := .type "dict", data := .dict #[] }).update x fun o => { cls := o.cls, dict := some s.heap.objs.size, data := o.data, slots := o.slots }).get? b = some o := fun b o nb hb => by
    rw [Heap.get?_update_other _ _ (Ne.symm nb)]
    exact Heap.get?_push_of_some _ hb
  have hD : ((s.heap.push { cls := .type "dict", data := .dict #[] }).update x fun o => { cls := o.cls, dict := some s.heap.objs.size, data := o.data, slots := o.slots }).Ns1 s.heap.objs.size (fun _ => none) := by
    refine ⟨{ cls := .type "dict", data := .dict #[] }, #[], 0, ?_, rfl, ?_⟩
    · rw [Heap.get?_update_other _ _ (Ne.symm nx)]
      exact Heap.get?_push_size _ rfl
    · exact ⟨fun b hb => by simp at hb, List.Pairwise.nil, fun _ => rfl⟩
  generalize ((s.heap.push { cls := .type "dict", data := .dict #[] }).update x fun o => { cls := o.cls, dict := some s.heap.objs.size, data := o.data, slots := o.slots }) = h1 at hx3 keep hD ⊢
  refine (show wpAny _ _ (pure (some s.heap.objs.size)) _ _ _ from wpAny_pure ?_)
  refine wpAny_bind (wpAny_pure (wpAny_bind ?_))
  refine wpAny_nsSet1 hD fun h2 hn2 hs2 => ?_
  obtain ⟨oD, esD, epD, hoD, hdD, hcD⟩ := hn2.count (PySem.Within.cons (ns := []) name v fun y z => absurd rfl z)
  refine wpAny_bind (wpAny_lookBehind hoD (by rw [hdD]; exact pastItsLine_dict (Nat.le_trans hcD (by show 1 ≤ _; decide))) ?_)
  refine wpAny_pure (h h2 ((hs2.2 _ (Ne.symm nx)).trans hx3) hn2 fun b o nb hb => ?_)
  have nb2 : b ≠ s.heap.objs.size := Nat.ne_of_lt (Heap.lt_size hb)
  exact (hs2.2 _ nb2).trans (keep b o nb hb)
end
end L2

namespace L2
open PySem PySem.Spec PyProof.Rows
/-- the body of an error's own __init__: the base's with a text, then the field -/
abbrev initBody (c0 fld : Str) (p0 p1 p2 p3 p4 p5 p6 p7 p8 p9 p10 p11 p12 : Pos) : List Stmt :=
  [.Expr (.Call (.Attribute (.Call (.Name "super" p0) [] [] p1) "__init__" p2) [.JoinedStr [.Constant (.str c0) 0 p3, .FormattedValue (.Name fld p4) (-1) none p5] p6] [] p7) p8,
   .Assign [.Attribute (.Name "self" p9) fld p10] (.Name fld p11) p12]
/-- a value whose text is short -/
def Fmt (prog : Program) (w : World) (v : Value) : Prop := ∀ (A : Around) (E : Value → Shared → Prop) (s : Shared) (Q : Value → Shared → Prop), (∀ (out : Str) (t t' : Tok), out.length ≤ 10000 → Q (.str out t) { s with toks := t' }) → wpAny (model prog w) A (formatField v Str.empty) Q E s
/-- what is left of an error's making -/
structure ErrAt (h0 h : Heap) (e C : Addr) (fld : Str) (v : Value) (a0 : Addr) : Prop where
  ex : ∃ (d : Addr) (o : Obj), h0.get? d = none ∧ d ≠ e ∧ h.get? e = some { o with dict := some d } ∧ o.cls = .ref C ∧ o.data = .fields #[.ref a0, .none, .none, .none, .bool false, .none] ∧ h.Ns1 d (fun y => if y = fld then some v else none)
theorem mapFields_of {o : Obj} {vs : Array Value} {g : Array Value → Array Value} (h : o.data = .fields vs) : Obj.mapFields g o = { o with data := .fields (g vs) } := by
  cases o
  cases h
  rfl
/-- a method-wrapper called with one text -/
theorem callWith_mw {prog : Program} {w : World} {A : Around} {E : Value → Shared → Prop} {s : Shared} {pos : Pos} {mw x : Addr} {ex : Expr} {env : Env} {Q : Value → Shared → Prop}
    (h : wpAny (model prog w) A (eval ex env) (fun u s1 => s1.heap.get? mw = some (mwObj x) ∧ codeAny (model prog w) A (.call (.ref mw) ⟨[u], []⟩) (fun r s2 => match r with | .ok (.ret z) => Q z s2 | .ok _ => False | .error z => E z s2) s1) E s)
    (hst : starEach [ex] env = [(false, eval ex env)]) :
    wpAny (model prog w) A (callWith pos (.ref mw) [] (backTo pos (starEach [ex] env)) []) Q E s := by
  rw [hst]
  unfold callWith
  refine wpAny_bind (wpAny_holding (wpAny_mono (Q := fun (a : Args) s1 => ∃ u, a = ⟨[u], []⟩ ∧ s1.heap.get? mw = some (mwObj x) ∧ codeAny (model prog w) A (.call (.ref mw) ⟨[u], []⟩) (fun r s2 => match r with | .ok (.ret z) => Q z s2 | .ok _ => False | .error z => E z s2) s1) (E := E) ?_ (fun a s1 ha => ?_) fun _ _ z => z))
  · show wpAny _ _ (evalArgs (.ref mw) true [(false, _)] []) _ _ _
    refine PySem.Calls.evalArgs_plain (PySem.Calls.spliced_cons ?_)
    exact wpAny_mono h (fun u s1 hu => PySem.Calls.spliced_nil ⟨_, rfl, hu⟩) fun _ _ z => z
  · obtain ⟨u, rfl, hm, hc⟩ := ha
    refine wpAny_bind (wpAny_standAt ?_)
    refine wpAny_bind (m := keeperOf (.ref mw)) ?_
    unfold keeperOf
    refine wpAny_bind (wpAny_load hm ?_)
    refine wpAny_pure (wpAny_bind (wpAny_mono (wpAny_call hc) (fun z s2 hz => wpAny_bind (wpAny_holding (wpAny_point (wpAny_pure hz)))) fun _ _ z => z))
section
variable {prog : Program} {w : World} {A : Around} {s : Shared} {K : PySem.W.Frag} {R : Result → Shared → Prop} {C e f cc cda : Addr} {name qual fld c0 : Str} {params : Arguments} {scope : Scope} {dV kV doc pm ct oc v a0 : Value} {an od : Option Addr} {osl : Array (Option Value)}
  {p0 p1 p2 p3 p4 p5 p6 p7 p8 p9 p10 p11 p12 : Pos} {vs : Array Value} {file : Str} {tf : Tok} {ccl cl : Value} {cdd cld : Option Addr} {ccs csl : Array (Option Value)} {cdD : ClassData} {mg mb : Str → Option Value} {ar : Arg} {bm : List Value} {oe : Obj}
  {nm q : Str} {N : Addr} {bs bmB : List Value} {hdct ab : Bool} {sn : List Str} {sub : List Value} {col : Option Bool} {dd : Option Addr} {k0 k1 k2 k3 k5 : Option Value} {newId nid : String}
theorem exc_init {pl : Sem Bool}
    (hev0 : ∀ L, interactive (PySem.W.ksEnv qual scope L f (.ref cda) cc) = false)
    (hev1 : ∀ L, swapsWith (.Call (.Attribute (.Call (.Name "super" p0) [] [] p1) "__init__" p2) [.JoinedStr [.Constant (.str c0) 0 p3, .FormattedValue (.Name fld p4) (-1) none p5] p6] [] p7) none p8.line (PySem.W.ksEnv qual scope L f (.ref cda) cc) = pure false)
    (hev2 : ∀ L, eval (.Call (.Attribute (.Call (.Name "super" p0) [] [] p1) "__init__" p2) [.JoinedStr [.Constant (.str c0) 0 p3, .FormattedValue (.Name fld p4) (-1) none p5] p6] [] p7) (PySem.W.ksEnv qual scope L f (.ref cda) cc) = (do
      let ov ← attributeBase (.Call (.Name "super" p0) [] [] p1) "__init__" (PySem.W.ksEnv qual scope L f (.ref cda) cc) (eval (.Call (.Name "super" p0) [] [] p1) (PySem.W.ksEnv qual scope L f (.ref cda) cc))
      standAt p2.atName
      let (g, first) ← holding [ov] (getMethod ov "__init__" pl)
      callWith p7 g first (backTo p7 (starEach [.JoinedStr [.Constant (.str c0) 0 p3, .FormattedValue (.Name fld p4) (-1) none p5] p6] (PySem.W.ksEnv qual scope L f (.ref cda) cc))) []))
    (hev3 : ∀ L, swapsWith (.Name fld p11) (some (.Attribute (.Name "self" p9) fld p10)) p12.line (PySem.W.ksEnv qual scope L f (.ref cda) cc) = pure false)
    (X : K.In s.heap) (ho : K.lookup f = some ⟨oc, od, .func (PySem.W.ksFn name qual params (initBody c0 fld p0 p1 p2 p3 p4 p5 p6 p7 p8 p9 p10 p11 p12) scope dV kV doc pm an (.ref cda) ct cc), osl⟩)
    (hcd : PySem.W.codeIn K (.ref cda) qual = true) (hroom : A.depth < recursionLimit) (hlim : s.heap.NoLimit) (hbind : BindsTo s (PySem.W.ksFn name qual params (initBody c0 fld p0 p1 p2 p3 p4 p5 p6 p7 p8 p9 p10 p11 p12) scope dV kV doc pm an (.ref cda) ct cc) ⟨[.ref e, v], []⟩ [("self", .ref e), (fld, v)])
    (hcells : ∀ x ∈ scope.names, x.2 ≠ .cell) (hself : scope.names.lookup ("self" : Str) = some .local) (hfld : scope.names.lookup fld = some .local) (hfs : ¬ fld = "self") (hfd : (fld == ("__debug__" : Str)) = false) (hks : scope.names.lookup ("super" : Str) = some .globalImplicit) (hkc : scope.names.lookup ("__class__" : Str) = some .free)
    (hk : scope.kind = .function) (hco : scope.isCoroutine = false) (hgen : scope.isGenerator = false) (hp : (params.posonlyargs ++ params.args).head? = some ar) (har : ar.arg = "self")
    (hcode : K.lookup cda = some ⟨ccl, cdd, .fields vs, ccs⟩) (hvs : vs[2]? = some (.str file tf)) (hfile : ((prog.main.file : Str) == file) = true) (htop : (prog.main.scope.names.lookup ("super" : Str)).isSome = false)
    (hcell : K.lookup cc = some ⟨cl, cld, .cell (some (.ref C)), csl⟩) (hD : PySem.W.clsIn K C = some cdD) (hmro : cdD.mro = .ref C :: bm) (halong : PySem.W.alongIn K "__init__" bm = some (some (.builtin "ValueError.__init__")))
    (hsubC : PySem.W.mroIn K C (.ref C) = some true) (hsubV : PySem.W.mroIn K C (.type "ValueError") = some true) (hopq : PySem.W.nsIn K cStatics "thirdparty.any" = some none)
    (G : s.heap.Ns mainGlobals mg) (hsup : mg "super" = none) (Bn : s.heap.Ns builtinsNs mb) (hmb : mb "super" = some (.type "super"))
    (Fb : ExcBaseFacts "ValueError" nid "ValueError.__init__" bmB) (T : OwnTail s.heap bmB bm) (hCo : s.heap.get? C = some (excClassObj nm q C N bs bm hdct sn sub ab col dd k0 k1 k2 k3 k5 newId))
    (hsa : PySem.W.findIn K (.ref C) "__setattr__" = some (some (.builtin "object.__setattr__"))) (hpo : errOver K C = true) (htk : PySem.W.takerIn K C fld = some none) (hhd : PySem.W.hasDictIn K C = true)
    (he : s.heap.get? e = some oe) (hcls : oe.cls = .ref C) (hdat : oe.data = .fields #[a0, .none, .none, .none, .bool false, .none]) (hdi : oe.dict = none) (hKe : K.lookup e = none) (hfm : Fmt prog w v) (hc0 : c0.length ≤ 1000)
    (hq : ∀ h' tk a1, ErrAt s.heap h' e C fld v a1 → (∀ b o, b ≠ e → s.heap.get? b = some o → h'.get? b = some o) → R (.ok (.ret .none)) { s with heap := h', toks := tk }) :
    codeAny (model prog w) A (.call (.ref f) ⟨[.ref e, v], []⟩) R s := by
  refine ks_codeAny_call_defAt (fd := PySem.W.ksFn name qual params (initBody c0 fld p0 p1 p2 p3 p4 p5 p6 p7 p8 p9 p10 p11 p12) scope dV kV doc pm an (.ref cda) ct cc) (body := initBody c0 fld p0 p1 p2 p3 p4 p5 p6 p7 p8 p9 p10 p11 p12) (binds := [("self", .ref e), (fld, v)]) hroom (X _ _ ho) rfl hlim (PySem.W.codeRec_of X hcd) rfl hbind hcells (fun y hy => ?_) (fun h1 hns hk1 => ?_) hco hgen hk
  · rcases List.mem_cons.mp hy with rfl | hy
    · exact hself
    · rcases List.mem_cons.mp hy with rfl | hy
      · exact hfld
      · simp at hy
  · have X1 : K.In h1 := X.keeps hk1
    have he1 := hk1 _ _ he
    refine ks_wpAt_execs_cons (ks_wpAt_Expr_any (ks_wpAt_MethodCall (pl := pl) ?_ (hev2 _)) (hev0 _) (hev1 _))
    have lkS : ([(("self" : Str), Value.ref e), (fld, v)] : List (Str × Value)).reverse.lookup ("self" : Str) = some (.ref e) := by
      show List.lookup ("self" : Str) ([(fld, v), ("self", Value.ref e)] : List (Str × Value)) = _
      rw [List.lookup_cons]
      have : (("self" : Str) == fld) = false := beq_eq_false_iff_ne.mpr (Ne.symm hfs)
      rw [this]
      rfl
    have lkF : ([(("self" : Str), Value.ref e), (fld, v)] : List (Str × Value)).reverse.lookup fld = some v := by
      show List.lookup fld ([(fld, v), ("self", Value.ref e)] : List (Str × Value)) = _
      rw [List.lookup_cons, beq_self_eq_true]
    obtain ⟨oD, hD1, hD2⟩ : ∃ oD, h1.get? C = some oD ∧ oD.data = .cls cdD := by
      unfold PySem.W.clsIn at hD
      split at hD
      · rename_i c dx cd' sl hh
        cases hD
        exact ⟨_, X1 _ _ hh, rfl⟩
      · cases hD
    refine ks_wpAt_super_base (env := PySem.W.ksEnv qual scope s.heap.objs.size f (.ref cda) cc) hks hkc (by decide +kernel) rfl (X1 _ _ ho) rfl hp rfl (X1 _ _ hcode) rfl hvs hfile htop ?_
    refine PySem.W.ks_loadName_global hk hks (PySem.Calls.loadGlobal_builtin (env := PySem.W.ksEnv qual scope s.heap.objs.size f (.ref cda) cc) (G.keeps hk1) hsup (Bn.keeps hk1) hmb ⟨rfl, ?_⟩)
    refine wpAny_loadName_free hk hkc rfl ⟨_, X1 _ _ hcell, rfl⟩ ?_
    rw [har]
    refine wpAny_loadName_local hk hself hns lkS ?_
    refine ks_wpAny_isType_cls hD1 hD2 ⟨rfl, ?_⟩
    refine ks_wpAny_call_super hD1 hD2 he1 hcls (fun c z => by rw [hdat] at z; cases z) (PySem.W.looks_mroIn X1 hsubC) (fun h2 e2 k2 => ?_)
    have X2 : K.In h2 := X1.keeps k2
    have he2 := k2 _ _ he1
    have hso := e2
    have k2' : ∀ b o, s.heap.get? b = some o → h2.get? b = some o := fun b o hb => k2 _ _ (hk1 _ _ hb)
    have hns2 := hns.keeps k2
    have hne : e ≠ C := by
      rintro rfl
      unfold PySem.W.clsIn at hD
      rw [hKe] at hD
      cases hD
    clear e2
    generalize hsz : h1.objs.size = so at hso ⊢
    refine super_meth (D := C) (x := e) (C := C) (l₀ := .ref C :: bm) (l := bm) (K := K) hso (PySem.W.looks_opaque X2 hopq) (hmro ▸ (PySem.W.looks_clsIn X2 hD).andThen (f := fun cd => pure cd.mro) .now) (by simp) X2 halong he2 hcls hne (PySem.W.looks_mroIn X2 hsubV) ?_
    have hmw : (h2.push (mwObj e)).get? h2.objs.size = some (mwObj e) := Heap.get?_push_size _ rfl
    have k3 : ∀ b o, h2.get? b = some o → (h2.push (mwObj e)).get? b = some o := fun b o hb => Heap.get?_push_of_some _ hb
    have X3 : K.In (h2.push (mwObj e)) := X2.keeps k3
    have he3 := k3 _ _ he2
    have hns3 := hns2.keeps k3
    have hCo3 := k3 _ _ (k2' _ _ hCo)
    have T3 : OwnTail (h2.push (mwObj e)) bmB bm := T.keeps (fun b o hb => k3 _ _ (k2' b o hb))
    have k3' : ∀ b o, s.heap.get? b = some o → (h2.push (mwObj e)).get? b = some o := fun b o hb => k3 _ _ (k2' _ _ hb)
    generalize hmz : h2.objs.size = mw at hmw ⊢
    generalize h2.push (mwObj e) = h3 at hmw k3 X3 he3 hns3 hCo3 T3 k3' ⊢
    refine callWith_mw (x := e) ?_ rfl
    refine wpAny_JoinedStr ?_
    refine (show wpAny _ _ (eval (.Constant (.str c0) 0 p3) _) _ _ _ from wpAny_Constant_str ?_)
    refine ⟨c0, _, rfl, ?_, ?_⟩
    · have : (Str.empty ++ c0).length = c0.length := by rw [strLen_append]; show 0 + c0.length = _; omega
      rw [this]; exact Nat.le_trans hc0 (by decide)
    refine (show wpAny _ _ (eval (.FormattedValue (.Name fld p4) (-1) none p5) _) _ _ _ from wpAny_FormattedValue_plain (wpAny_Name (wpAny_loadName_local hk hfld hns3 lkF ?_) hfd))
    refine hfm _ _ _ _ fun out t t' hout => ⟨out, t, rfl, ?_, ?_⟩
    · rw [strLen_append, strLen_append]; show 0 + c0.length + out.length ≤ _
      exact Nat.le_trans (show 0 + c0.length + out.length ≤ 11000 by omega) (by decide)
    refine ⟨?_, hmw, ?_⟩
    · rw [strLen_append, strLen_append]; show 0 + c0.length + out.length ≤ _
      exact Nat.le_trans (show 0 + c0.length + out.length ≤ 11000 by omega) (by decide)
    refine mw_run Fb T3 hmw hCo3 he3 hcls hdat ?_
    have he4' := Heap.get?_push_of_some (h := h3) { cls := .type "tuple", data := .seq #[.str (Str.empty ++ c0 ++ out) t'] } he3
    have he4 : ((h3.push { cls := .type "tuple", data := .seq #[.str (Str.empty ++ c0 ++ out) t'] }).update e (Obj.mapFields (·.setIfInBounds 0 (.ref h3.objs.size)))).get? e = some { oe with data := .fields #[.ref h3.objs.size, .none, .none, .none, .bool false, .none] } := by
      refine (Heap.get?_update_self _ he4' (Obj.isFreed_of_fields (vs := #[.ref h3.objs.size, .none, .none, .none, .bool false, .none]) ?_)).trans ?_
      · rw [mapFields_of hdat]; rfl
      · rw [mapFields_of hdat]; rfl
    have k4 : ∀ b o, b ≠ e → h3.get? b = some o → ((h3.push { cls := .type "tuple", data := .seq #[.str (Str.empty ++ c0 ++ out) t'] }).update e (Obj.mapFields (·.setIfInBounds 0 (.ref h3.objs.size)))).get? b = some o := fun b o nb hb => by
      rw [Heap.get?_update_other _ _ (Ne.symm nb)]
      exact Heap.get?_push_of_some _ hb
    have X4 : K.In ((h3.push { cls := .type "tuple", data := .seq #[.str (Str.empty ++ c0 ++ out) t'] }).update e (Obj.mapFields (·.setIfInBounds 0 (.ref h3.objs.size)))) := fun b o hb => k4 b o (by rintro rfl; rw [hKe] at hb; cases hb) (X3 b o hb)
    have nL : s.heap.objs.size ≠ e := Nat.ne_of_gt (Heap.lt_size he)
    have hns4 : ((h3.push { cls := .type "tuple", data := .seq #[.str (Str.empty ++ c0 ++ out) t'] }).update e (Obj.mapFields (·.setIfInBounds 0 (.ref h3.objs.size)))).Ns s.heap.objs.size fun x => List.lookup x [(Str.ofString "self", Value.ref e), (fld, v)].reverse := by
      obtain ⟨oL, es, ep, g1, g2, g3⟩ := hns3
      exact ⟨oL, es, ep, k4 _ _ nL g1, g2, g3⟩
    generalize ((h3.push { cls := .type "tuple", data := .seq #[.str (Str.empty ++ c0 ++ out) t'] }).update e (Obj.mapFields (·.setIfInBounds 0 (.ref h3.objs.size)))) = h4 at he4 k4 X4 hns4 ⊢
    generalize h3.objs.size = a1 at he4
    refine ks_wpAt_execs_cons (ks_wpAt_Assign_Attr (wpAt_of_any (wpAny_Name (wpAny_loadName_local hk hfld hns4 lkF ?_) hfd)) (hev3 _))
    refine wpAny_Name (wpAny_loadName_local hk hself hns4 lkS ?_)
    refine exc_set X4 he4 hcls rfl hdi rfl hsa hpo htk hhd fun h5 g5 n5 k5 => ?_
    refine wpAt_of_any (wpAny_pure ?_)
    have nde : h4.objs.size ≠ e := Nat.ne_of_gt (Heap.lt_size he4)
    have fd0 : s.heap.get? h4.objs.size = none := by
      cases z : s.heap.get? h4.objs.size with
      | none => rfl
      | some oz => exact absurd (Heap.lt_size (k4 _ _ nde (k3' _ _ z))) (Nat.lt_irrefl _)
    refine hq _ _ a1 ⟨_, _, fd0, nde, g5, hcls, rfl, n5⟩ fun b o nb hb => k5 b o nb (k4 b o nb (k3' b o hb))
end
end L2

namespace L2
open PySem PySem.Spec PyProof.Rows
/-- an error on its way: its record and its newest entry; what is guarded (G) is neither -/
def FlyT (h : Heap) (e : Addr) (cls : Value) (od : Option Addr) (fl : Value) (G : Addr → Prop) : Prop :=
  ∃ (oe : Obj) (vs : Array Value) (T : Addr) (oT : Obj) (ts : Array Value), h.get? e = some oe ∧ oe.cls = cls ∧ oe.dict = od ∧ oe.data = .fields vs ∧ vs[1]? = some (.ref T) ∧ T ≠ e ∧ h.get? T = some oT ∧ oT.data = .fields ts ∧ ts[3]? = some fl ∧ ¬ G T ∧ ¬ G e
/-- what noting a frame leaves as it is -/
structure Calm (fs : List Addr) (G : Addr → Prop) (h h' : Heap) : Prop where
  keep : ∀ b o, h.get? b = some o → G b → b ∉ fs → h'.get? b = some o
  recs : ∀ b o, h.get? b = some o → (∀ us, o.data ≠ .fields us) → ∃ sl, h'.get? b = some { o with slots := sl }
  there : ∀ b o, h.get? b = some o → ∃ o', h'.get? b = some o'
theorem Calm.trans {fs : List Addr} {G : Addr → Prop} {h1 h2 h3 : Heap} (x : Calm fs G h1 h2) (y : Calm fs G h2 h3) : Calm fs G h1 h3 where
  keep := fun b o q g n => y.keep b o (x.keep b o q g n) g n
  recs := fun b o q z => by
    obtain ⟨sl, q1⟩ := x.recs b o q z
    obtain ⟨sl2, q2⟩ := y.recs b _ q1 z
    exact ⟨sl2, q2⟩
  there := fun b o q => by
    obtain ⟨o1, q1⟩ := x.there b o q
    exact y.there b o1 q1
theorem Calm.frames {fs : List Addr} {G : Addr → Prop} {h h' base : Heap} {l : List Env} (x : Calm fs G h h') (f : h.FunFrames base l) : h'.FunFrames base l :=
  f.of_keeps fun b o q z => let ⟨_, q1⟩ := x.recs b o q z; ⟨_, q1, rfl⟩
theorem FlyT.of {h h' : Heap} {e : Addr} {cls fl : Value} {od : Option Addr} {G G' : Addr → Prop} (x : FlyT h e cls od fl G) (k : ∀ b, G' b → G b) : FlyT h e cls od fl G' := by
  obtain ⟨oe, vs, T, oT, ts, a1, a2, a3, a4, a5, a6, a7, a8, a9, a10, a11⟩ := x
  exact ⟨oe, vs, T, oT, ts, a1, a2, a3, a4, a5, a6, a7, a8, a9, fun z => a10 (k _ z), fun z => a11 (k _ z)⟩
section
variable {M : Model} {A : Around} {E : Value → Shared → Prop} {s : Shared} {base : Heap} {env : Env} {outer : List Env} {L e : Addr} {oe : Obj} {vs : Array Value} {G : Addr → Prop} {Q : Unit → Shared → Prop}
/-- a new entry, written into the error -/
theorem entry_at {head : Value} {hadNext : Bool} (hfr : A.frames = some (env :: outer)) (hl : s.heap.FunFrames base (env :: outer)) (hf : env.frame = some L)
    (he : s.heap.get? e = some oe) (hd : oe.data = .fields vs) (hsz : 1 < vs.size) (hG : ¬ G e) (hGs : ∀ b, G b → ∃ o, s.heap.get? b = some o)
    (h : ∀ h', FlyT h' e oe.cls oe.dict (rawInt L) G → Calm (frs (env :: outer)) G s.heap h' → Q () { s with heap := h' }) :
    wpAny M A (do
      let fv ← frameOf env
      let pl ← entryPlaceOf L hadNext
      let nv ← EntryCells.newEntry head fv .none (rawInt L) .none pl
      setField (.ref e) 1 nv) Q E s := by
  have nfe : e ∉ (env :: outer).filterMap (·.frame) := fun hm => by
    obtain ⟨_, o, ho, hz⟩ := hl.mem hm
    rw [he] at ho
    cases ho
    exact hz vs hd
  refine wpAny_bind (wpAny_frameOf_fun hfr hl hf fun h1 so => ?_)
  refine wpAny_bind (wpAny_entryPlaceOf fun pl hpl => ?_)
  unfold EntryCells.newEntry newFields
  refine wpAny_bind (wpAny_newObj_type ?_ (hpl.sizeOk5 _ _ _ _ _))
  have e1 : h1.get? e = some oe := (so.2.1 e nfe).trans he
  generalize hob : (Obj.mk (.type "traceback") none (.fields ([head, .ref L, .none, rawInt L, .none] ++ (if pl.isEmpty then List.replicate 6 Value.none else pl)).toArray) #[]) = ob
  have hobd : ∃ ts : Array Value, ob.data = .fields ts ∧ ts[3]? = some (rawInt L) := by
    subst hob
    exact ⟨_, rfl, by simp⟩
  have hobf : ob.isFreed = false := by
    obtain ⟨ts, z, _⟩ := hobd
    exact Obj.isFreed_of_fields z
  refine (show wpAny M A (setField (.ref e) 1 (.ref h1.objs.size)) Q E { s with heap := h1.push ob } from ?_)
  clear hob
  have e2 := Heap.get?_push_of_some (h := h1) ob e1
  refine wpAny_setField e2 hd hsz (h _ ?_ ?_)
  · have nT : h1.objs.size ≠ e := Nat.ne_of_gt (Heap.lt_size e1)
    obtain ⟨ts, z1, z2⟩ := hobd
    refine ⟨_, _, h1.objs.size, ob, ts, Heap.get?_update_self _ e2 (Obj.isFreed_of_fields (vs := vs.setIfInBounds 1 (.ref h1.objs.size)) (by rw [mapFields_of hd])), by rw [mapFields_of hd], by rw [mapFields_of hd], by rw [mapFields_of hd], by simp [hsz], nT, ?_, z1, z2, fun g => ?_, hG⟩
    · rw [Heap.get?_update_other _ _ (Ne.symm nT)]
      exact Heap.get?_push_size _ hobf
    · obtain ⟨o, q⟩ := hGs _ g
      obtain ⟨sl, q1⟩ := so.2.2 _ _ q
      exact absurd (Heap.lt_size q1) (Nat.lt_irrefl _)
  · refine ⟨fun b o q g n => ?_, fun b o q z => ?_, fun b o q => ?_⟩
    · have nb : b ≠ e := by rintro rfl; exact hG g
      rw [Heap.get?_update_other _ _ (Ne.symm nb)]
      exact Heap.get?_push_of_some _ ((so.2.1 b n).trans q)
    · have nb : b ≠ e := by
        rintro rfl
        rw [he] at q
        cases q
        exact z vs hd
      obtain ⟨sl, q1⟩ := so.2.2 _ _ q
      refine ⟨sl, ?_⟩
      rw [Heap.get?_update_other _ _ (Ne.symm nb)]
      exact Heap.get?_push_of_some _ q1
    · by_cases nb : b = e
      · subst nb
        exact ⟨_, Heap.get?_update_self _ e2 (Obj.isFreed_of_fields (vs := vs.setIfInBounds 1 (.ref h1.objs.size)) (by rw [mapFields_of hd]))⟩
      · obtain ⟨sl, q1⟩ := so.2.2 _ _ q
        exact ⟨_, (Heap.get?_update_other _ _ (Ne.symm nb)).trans (Heap.get?_push_of_some _ q1)⟩
theorem fly_marked {fl nw cls : Value} {od : Option Addr} {oT : Obj} {ts us : Array Value} {T : Addr} {h : Heap} (he : h.get? e = some oe) (hc : oe.cls = cls) (hdd : oe.dict = od) (hd : oe.data = .fields us) (h1 : us[1]? = some (.ref T)) (nT : T ≠ e)
    (hT : h.get? T = some oT) (hdT : oT.data = .fields ts) (h3 : ts[3]? = some fl) (gT : ¬ G T) (ge : ¬ G e) :
    FlyT (h.update T (Obj.mapFields (·.setIfInBounds 3 nw))) e cls od nw G ∧ ∀ fs, Calm fs G h (h.update T (Obj.mapFields (·.setIfInBounds 3 nw))) := by
  have hz : 3 < ts.size := (Array.getElem?_eq_some_iff.mp h3).1
  have hT' : (h.update T (Obj.mapFields (·.setIfInBounds 3 nw))).get? T = some (Obj.mapFields (·.setIfInBounds 3 nw) oT) := Heap.get?_update_self _ hT (Obj.isFreed_of_fields (vs := ts.setIfInBounds 3 nw) (by rw [mapFields_of hdT]))
  have oth : ∀ b, b ≠ T → (h.update T (Obj.mapFields (·.setIfInBounds 3 nw))).get? b = h.get? b := fun b n => Heap.get?_update_other _ _ (Ne.symm n)
  refine ⟨⟨oe, us, T, _, ts.setIfInBounds 3 nw, (oth e (Ne.symm nT)).trans he, hc, hdd, hd, h1, nT, hT', by rw [mapFields_of hdT], by simp [hz], gT, ge⟩, fun fs => ⟨fun b o q g n => ?_, fun b o q z => ?_, fun b o q => ?_⟩⟩
  · exact (oth b (by rintro rfl; exact gT g)).trans q
  · refine ⟨o.slots, (oth b ?_).trans q⟩
    rintro rfl
    rw [hT] at q
    cases q
    exact z ts hdT
  · by_cases nb : b = T
    · subst nb; exact ⟨_, hT'⟩
    · exact ⟨o, (oth b nb).trans q⟩
/-- the frame is noted in an error that has no entry yet -/
theorem note_first (hfr : A.frames = some (env :: outer)) (hl : s.heap.FunFrames base (env :: outer)) (hf : env.frame = some L)
    (he : s.heap.get? e = some oe) (hd : oe.data = .fields vs) (h1 : vs[1]? = some .none) (hG : ¬ G e) (hGs : ∀ b, G b → ∃ o, s.heap.get? b = some o)
    (h : ∀ h', FlyT h' e oe.cls oe.dict (rawInt L) G → Calm (frs (env :: outer)) G s.heap h' → Q () { s with heap := h' }) : wpAny M A (noteFrame (.ref e) env) Q E s := by
  unfold noteFrame
  simp only [hf]
  refine wpAny_bind (wpAny_field he hd h1 ?_)
  rw [if_neg (by decide)]
  exact entry_at hfr hl hf he hd (Array.getElem?_eq_some_iff.mp h1).1 hG hGs h
/-- the next frame is noted -/
theorem note_next {cls : Value} {od : Option Addr} (hfr : A.frames = some (env :: outer)) (hl : s.heap.FunFrames base (env :: outer)) (hf : env.frame = some L) (x : FlyT s.heap e cls od .none G) (hGs : ∀ b, G b → ∃ o, s.heap.get? b = some o)
    (h : ∀ h', FlyT h' e cls od (rawInt L) G → Calm (frs (env :: outer)) G s.heap h' → Q () { s with heap := h' }) : wpAny M A (noteFrame (.ref e) env) Q E s := by
  obtain ⟨oe, us, T, oT, ts, he, hc, hdd, hd, h1, nT, hT, hdT, h3, gT, ge⟩ := x
  unfold noteFrame
  simp only [hf]
  refine wpAny_bind (wpAny_field he hd h1 ?_)
  rw [if_pos (show (Value.ref T != Value.none) = true by simp)]
  refine wpAny_bind (wpAny_field hT hdT h3 ?_)
  rw [if_neg (show ¬ (Value.none == rawInt L) = true by simp [rawInt])]
  refine wpAny_bind (wpAny_setField hT hdT (Array.getElem?_eq_some_iff.mp h3).1 ?_)
  obtain ⟨y, c⟩ := fly_marked (nw := .none) he hc hdd hd h1 nT hT hdT h3 gT ge
  obtain ⟨oe2, us2, T2, oT2, ts2, he2, hc2, hdd2, hd2, h12, _, _, _, _, _, ge2⟩ := y
  refine entry_at (s := { s with heap := s.heap.update T (Obj.mapFields (·.setIfInBounds 3 .none)) }) hfr ((c []).frames hl) hf he2 hd2 (Array.getElem?_eq_some_iff.mp h12).1 ge2 (fun b g => ?_) fun h' f1 c1 => ?_
  · obtain ⟨o, q⟩ := hGs b g
    exact (c []).there b o q
  · rw [hc2, hdd2] at f1
    exact h h' f1 ((c _).trans c1)
/-- the error is no more in flight here -/
theorem flight_none {cls fl : Value} {od : Option Addr} (x : FlyT s.heap e cls od fl G) (h : ∀ h', FlyT h' e cls od .none G → (∀ fs, Calm fs G s.heap h') → Q () { s with heap := h' }) : wpAny M A (setFlight (.ref e) none) Q E s := by
  obtain ⟨oe, us, T, oT, ts, he, hc, hdd, hd, h1, nT, hT, hdT, h3, gT, ge⟩ := x
  unfold setFlight
  refine wpAny_bind (wpAny_field he hd h1 ?_)
  rw [if_pos (show (Value.ref T != Value.none) = true by simp)]
  obtain ⟨y, c⟩ := fly_marked (nw := .none) he hc hdd hd h1 nT hT hdT h3 gT ge
  exact wpAny_setField hT hdT (Array.getElem?_eq_some_iff.mp h3).1 (h _ y c)
theorem leave_first (hfr : A.frames = some (env :: outer)) (hl : s.heap.FunFrames base (env :: outer)) (hf : env.frame = some L)
    (he : s.heap.get? e = some oe) (hd : oe.data = .fields vs) (h1 : vs[1]? = some .none) (hG : ¬ G e) (hGs : ∀ b, G b → ∃ o, s.heap.get? b = some o)
    (h : ∀ h', FlyT h' e oe.cls oe.dict .none G → Calm (frs (env :: outer)) G s.heap h' → Q () { s with heap := h' }) : wpAny M A (leaving env (.ref e)) Q E s := by
  unfold leaving
  refine wpAny_bind (note_first hfr hl hf he hd h1 hG hGs fun h2 f2 c2 => ?_)
  exact flight_none (s := { s with heap := h2 }) f2 fun h3 f3 c3 => h h3 f3 (c2.trans (c3 _))
end
end L2

namespace L2
open PySem PySem.Spec PyProof.Rows
theorem ObjOk.here {P : Program} {w : World} {H : Hp} {h : Heap} {a : Addr} {o : HO} (x : ObjOk P w H h a o) : ∃ u, h.get? a = some u := by
  cases o with
  | lst xs => obtain ⟨_, _, _, _, q⟩ := x; exact ⟨_, q⟩
  | tup xs => obtain ⟨_, _, _, _, q, _⟩ := x; exact ⟨_, q⟩
  | dK kvs => obtain ⟨_, _, _, _, o, _, _, q, _⟩ := x; exact ⟨_, q⟩
  | dT kvs => obtain ⟨_, _, _, _, o, _, _, q, _⟩ := x; exact ⟨_, q⟩
  | set S n => obtain ⟨o, _, _, _, q, _⟩ := x; exact ⟨_, q⟩
  | ins C dx fs => obtain ⟨_, _, _, q, _⟩ := x; exact ⟨_, q⟩
  | own y => exact x
  | xd fs => obtain ⟨_, ⟨_, _, _, q, _⟩, _⟩ := x; exact ⟨_, q⟩
  | rng lo hi => obtain ⟨_, _, _, q⟩ := x; exact ⟨_, q⟩
  | frz ob u => obtain ⟨q, _⟩ := x; exact ⟨_, q⟩
  | tbl ps => obtain ⟨_, q, _⟩ := x; exact ⟨_, q⟩
  | met f y => exact ⟨_, x⟩
  | ext φ => obtain ⟨_, q, _⟩ := x; exact q
/-- what must stay while an error flies: what is tracked, and what was there ahead of the call -/
def Gd (H' : Hp) (h : Heap) (b : Addr) : Prop := H' b ≠ none ∨ ∃ o, h.get? b = some o
/-- an error behind a call -/
def CXE (P : Program) (w : World) (base : Heap) : CXT := fun outer H s E e s' => ∃ (a : Addr) (cls : Value) (od : Option Addr) (H' : Hp), e = .ref a ∧ s'.os = s.os ∧ AllBare s'.gens ∧ Un (frs outer) [] H H' s.heap s'.heap ∧ HOk P w H' s'.heap ∧ s'.heap.FunFrames base outer ∧
  FlyT s'.heap a cls od .none (Gd H' s.heap) ∧ E cls od H'
section
variable {P : Program} {w : World} {K : PySem.W.Frag} {mg : Str → Option Value} {base : Heap} {N : List Str} {qual : Str} {scope : Scope} {f : Addr} {cd : Value} {A : Around} {outer : List Env} {s : Shared} {H : Hp} {E : XK}
end
end L2

namespace L2
open PySem PySem.Spec PyProof.Rows
/-- a new error: what this body wants of it -/
def LeavesNew (X : Cx) (E : XK) : Prop := ∀ (pins : List (Addr × Obj)) (σ : St) (H : Hp) (s : Shared) (e d : Addr) (cls : Value) (fs : List (Str × V)) (oe : Obj) (vs : Array Value) (h' : Heap) (tk : Tok), Inv X pins σ H s → s.heap.get? e = none → s.heap.get? d = none → d ≠ e →
  h'.get? e = some oe → oe.cls = cls → oe.dict = some d → oe.data = .fields vs → vs[1]? = some .none → (∀ b o, s.heap.get? b = some o → h'.get? b = some o) → ObjOk X.prog X.w (upd H d (.xd fs)) h' d (.xd fs) → E cls (some d) (upd H d (.xd fs)) → X.xe (.ref e) { s with heap := h', toks := tk }
section
variable {P : Program} {w : World} {K : PySem.W.Frag} {mg : Str → Option Value} {base : Heap} {N : List Str} {qual : Str} {scope : Scope} {f : Addr} {cd : Value} {A : Around} {outer : List Env} {s : Shared} {H : Hp} {E : XK}
theorem newE : LeavesNew (cxOf (CXE P w base) P w K mg base N qual scope f cd A outer s H E) E := by
  intro pins σ H1 s1 e d cls fs oe vs h' tk I fe fd nde he hc hdd hd h1 k ok q
  have ub : Un (frs outer) [] H H1 s.heap s1.heap := I.base
  have H1d : H1 d = none := by
    cases z : H1 d with
    | none => rfl
    | some u =>
      obtain ⟨o, y⟩ := (I.hok d u z).here
      rw [fd] at y; cases y
  have H1e : H1 e = none := by
    cases z : H1 e with
    | none => rfl
    | some u =>
      obtain ⟨o, y⟩ := (I.hok e u z).here
      rw [fe] at y; cases y
  have nd : ∀ b o, s1.heap.get? b = some o → b ≠ d := fun b o y z => by
    rw [z, fd] at y; cases y
  have stk : s1.heap.FunFrames base (envOfC qual scope s.heap.objs.size f cd :: outer) := I.stack
  have fr : h'.FunFrames base (envOfC qual scope s.heap.objs.size f cd :: outer) := stk.of_keeps fun b o y _ => ⟨o, k b o y, rfl⟩
  have nfr : ∀ b, b ∈ frs (envOfC qual scope s.heap.objs.size f cd :: outer) → upd H1 d (.xd fs) b = none := fun b hb => by
    obtain ⟨_, o, ho, _⟩ := stk.mem hb
    rw [upd_ne (nd b o ho)]
    exact I.stkFree b hb
  have nl : ∀ b o, s.heap.get? b = some o → b ∉ frs outer → b ∉ frs (envOfC qual scope s.heap.objs.size f cd :: outer) := fun b o hb nb hm => by
    rcases List.mem_cons.mp (show b ∈ s.heap.objs.size :: frs outer from hm) with z | z
    · exact absurd (Heap.lt_size hb) (by rw [z]; exact Nat.lt_irrefl _)
    · exact nb z
  have hok' : HOk P w (upd H1 d (.xd fs)) h' := fun b o z => by
    by_cases nb : b = d
    · subst nb
      rw [upd_same] at z
      cases z
      exact ok
    · rw [upd_ne nb] at z
      refine (I.hok b o z).stay (fun c u _ hu => k c u hu) (fun c y => ?_) fun c xs y => ?_
      · rw [upd_ne]
        · exact y
        · rintro rfl; rw [H1d] at y; cases y
      · rw [upd_ne]
        · exact y
        · rintro rfl; rw [H1d] at y; cases y
  have nGe : ¬ Gd (upd H1 d (.xd fs)) s1.heap e := fun g => by
    rcases g with g | ⟨o, g⟩
    · rw [upd_ne (Ne.symm nde)] at g; exact g H1e
    · rw [fe] at g; cases g
  refine leave_first (s := { s1 with heap := h', toks := tk }) (L := s.heap.objs.size) (G := Gd (upd H1 d (.xd fs)) s1.heap) I.ok.frames fr rfl he hd h1 nGe (fun b g => ?_) fun h3 f3 c3 => ?_
  · rcases g with g | ⟨o, g⟩
    · cases z : upd H1 d (.xd fs) b with
      | none => exact absurd z g
      | some u => exact (hok' b u z).here
    · exact ⟨o, k b o g⟩
  · rw [hc, hdd] at f3
    have nb' : ∀ b o, s.heap.get? b = some o → b ≠ d := fun b o hb => by
      obtain ⟨o1, y1⟩ := ub.there b o hb (by simp)
      exact nd b o1 y1
    refine ⟨e, cls, some d, upd H1 d (.xd fs), rfl, I.os, I.bare, ?_, fun b o z => ?_, ?_, f3.of (h' := h3) fun b g => ?_, q⟩
    · refine ⟨fun b o hb n nf nx => ?_, fun b o hb n hf nx => ?_, fun b o hb n nx => ?_, fun b o hb nx => ?_, fun b xs z => ?_, fun b o u z => ?_, fun b ps z => ?_⟩
      · have e1 := ub.keep b o hb n nf nx
        exact c3.keep b o (k b o e1) (.inr ⟨o, e1⟩) (nl b o hb nf)
      · obtain ⟨sl, e1⟩ := ub.slot b o hb n hf nx
        have hm : b ∈ frs (envOfC qual scope s.heap.objs.size f cd :: outer) := List.mem_cons_of_mem (a := b) s.heap.objs.size hf
        obtain ⟨_, o3, h3', z3⟩ := fr.mem hm
        have e2 := k b _ e1
        rw [e2] at h3'
        cases h3'
        obtain ⟨sl3, e3⟩ := c3.recs b _ e2 z3
        exact ⟨sl3, e3⟩
      · rw [upd_ne (nb' b o hb)]
        exact ub.free b o hb n nx
      · obtain ⟨o1, e1⟩ := ub.there b o hb nx
        exact c3.there b o1 (k b o1 e1)
      · have y := ub.tups b xs z
        rw [upd_ne]
        · exact y
        · rintro rfl; rw [H1d] at y; cases y
      · have y := ub.frzs b o u z
        rw [upd_ne]
        · exact y
        · rintro rfl; rw [H1d] at y; cases y
      · obtain ⟨m1, z1⟩ := ub.tbls b ps z
        refine ⟨m1, ?_⟩
        rw [upd_ne]
        · exact z1
        · rintro rfl; rw [H1d] at z1; cases z1
    · refine (hok' b o z).stay (fun c u hc' hu => c3.keep c u hu (.inl ?_) fun hm => ?_) (fun _ y => y) fun _ _ y => y
      · rcases hc' with rfl | hc'
        · rw [z]; simp
        · rw [hc']; simp
      · have := nfr c hm
        rcases hc' with rfl | hc'
        · rw [z] at this; cases this
        · rw [hc'] at this; cases this
    · obtain ⟨_, _, kk⟩ := c3.frames fr
      exact kk
    · rcases g with g | ⟨o, g⟩
      · exact .inl g
      · obtain ⟨o1, e1⟩ := ub.there b o g (by simp)
        exact .inr ⟨o1, e1⟩
end
/-- an error class of one's own, called with one value, makes an error that keeps it -/
structure ErrMk (P : Program) (w : World) (K : PySem.W.Frag) (mg : Str → Option Value) (C : Addr) (fld : Str) : Prop where
  run : ∀ (A : Around) (s : Shared) (v : Value) (R : Result → Shared → Prop) (mb : Str → Option Value), K.In s.heap → s.heap.Ns mainGlobals mg → s.heap.Ns builtinsNs mb → mb "super" = some (.type "super") → s.heap.NoLimit → A.depth + 1 < recursionLimit → Fmt P w v →
    (∀ h' tk a1 e, s.heap.get? e = none → ErrAt s.heap h' e C fld v a1 → (∀ b o, s.heap.get? b = some o → h'.get? b = some o) → R (.ok (.ret (.ref e))) { s with heap := h', toks := tk }) → codeAny (model P w) A (.call (.ref C) ⟨[v], []⟩) R s
  exc : ∃ (nm q : Str) (N : Addr) (bs bm : List Value) (hdct ab : Bool) (sn : List Str) (sub : List Value) (col : Option Bool) (dd : Option Addr) (k0 k1 k2 k3 k5 : Option Value) (newId : String), K.lookup C = some (excClassObj nm q C N bs bm hdct sn sub ab col dd k0 k1 k2 k3 k5 newId) ∧ bm.contains (.type "BaseException") = true
  kp : PySem.W.keepIn K (.ref C) = true
section
variable {M : Model} {A : Around} {E : Value → Shared → Prop} {env : Env} {s : Shared} {C : Addr}
variable {nm q : Str} {N : Addr} {bs bm : List Value} {hdct ab : Bool} {sn : List Str} {sub : List Value} {col : Option Bool} {dd : Option Addr} {k0 k1 k2 k3 k5 : Option Value} {newId : String}
/-- the raise of a made error -/
theorem raise_made {x : Sem Value} {Q : Flow → Shared → Prop} (hb : bm.contains (.type "BaseException") = true) (hh : A.handled = none)
    (h : wpAny M A x (fun v s1 => ∃ e t d sl, v = .ref e ∧ s1.heap.get? C = some (excClassObj nm q C N bs bm hdct sn sub ab col dd k0 k1 k2 k3 k5 newId) ∧
      s1.heap.get? e = some ⟨.ref C, some d, .fields #[.ref t, .none, .none, .none, .bool false, .none], sl⟩ ∧ E (.ref e) s1) E s) :
    wpAny M A (raiseStmt env (some x) none) Q E s := by
  have inB : (Value.ref C :: bm).contains (.type "BaseException") = true := by rw [List.contains_cons, hb, Bool.or_true]
  unfold raiseStmt
  refine wpAny_bind (wpAny_mono h (fun v s1 h1 => ?_) fun _ _ z => z)
  obtain ⟨e, t, d, sl, rfl, hC, he, hE⟩ := h1
  obtain ⟨hp, g, dr, tk, os⟩ := s1
  repeat (first | with_reducible refine wpAny_loadPart_at he ?_ | with_reducible refine wpAny_loadPart_at hC ?_ | (with_reducible refine wpAny_isSubtype_exc hC ?_; rw [inB]) | wp_step)
  exact wpAny_raiseNew_none hh hE
end
end L2

namespace L2
open PySem PySem.Spec PyProof.Rows
/-- a value whose text is short: a short text -/
def FmtV (v : V) : Prop := ∃ x, v = .str x ∧ x.length ≤ 10000
theorem fmt_of {P : Program} {w : World} {v : V} {u : Value} (r : RelV v u) (h : FmtV v) : Fmt P w u := by
  obtain ⟨x, rfl, hx⟩ := h
  obtain ⟨t, rfl⟩ := r
  intro A E s Q q
  exact wpAny_formatField_str (q x t s.toks hx) (q x s.toks (s.toks + 1) hx) (Nat.le_trans hx (by decide))
/-- raise C(e) -/
@[reducible] def tRaise (C : Addr) (fld : Str) (E : XK) (t : TA) : TS := fun D σ H => t σ H fun vs H1 => ∃ v, vs = [v] ∧ FmtV v ∧ ∀ d, H1 d = none → E (.ref C) (some d) (upd H1 d (.xd [(fld, v)]))
section
variable {X : Cx} {C : Addr} {fld x : Str} {E : XK} {e : Expr} {p cpos pos : Pos} {t : TA} {k : Nat}
theorem ps_raise (M : ErrMk X.prog X.w X.K X.mg C fld) (hr : Room (k + 1) X.A) (hg : Gl X x) (hm : X.mg x = some (.ref C)) (hn : LeavesNew X E) (ha : PA X [e] t) (hdb : (x == ("__debug__" : Str)) = false := by decide)
    (he : starEach [e] X.env = (false, eval e X.env) :: starEach [] X.env := by rfl) :
    PS X (.Raise (some (.Call (.Name x p) [e] [] cpos)) none pos) (tRaise C fld E t) := by
  intro pins s σ H D I h
  obtain ⟨nm, q, N, bs, bm, hdct, ab, sn, sub, col, dd, k0, k1, k2, k3, k5, newId, hC, hB⟩ := M.exc
  rw [arm_exec_Raise]
  refine wpAny_bind (wpAny_standAt (raise_made (C := C) (nm := nm) (q := q) (N := N) (bs := bs) (bm := bm) (hdct := hdct) (ab := ab) (sn := sn) (sub := sub) (col := col) (dd := dd) (k0 := k0) (k1 := k1) (k2 := k2) (k3 := k3) (k5 := k5) (newId := newId) hB hr.hd ?_))
  refine (show wpAny (model X.prog X.w) X.A (eval (.Call (.Name x p) [e] [] cpos) X.env >>= fun v => standAt pos >>= fun _ => pure v) _ _ _ from wpAny_bind (wpAny_mono ?_ (fun v s1 z => wpAny_bind (wpAny_standAt (wpAny_pure z))) fun _ _ z => z))
  refine wpAny_Call_Name_kw (ld_glob I hg hm ?_ hdb)
  refine PySem.W.callWith_K (h₀ := X.base) I.ok.mod.kin M.kp (thn (ha cpos pins s σ H _ I h) fun us s1 ⟨vs, H1, I1, r, v, ev, fv, q1⟩ => ⟨I1.kIn, ?_⟩) he rfl
  subst ev
  obtain ⟨u, rv, rfl⟩ : ∃ u, RelV v u ∧ us = [u] := by
    cases r with
    | cons a b => cases b; exact ⟨_, a, rfl⟩
  obtain ⟨mb, nb, hb⟩ := I1.mod.blt
  refine wpAny_call (M.run X.A s1 u _ mb I1.kIn (I1.mod.glob.keeps I1.bk) (nb.keeps I1.bk) ((hb "super" (by decide)).trans (by decide +kernel)) I1.nolimit (by have := hr.dp; omega) (fmt_of rv fv) fun h' tk a1 e fe ea kp => ?_)
  obtain ⟨d, o, fd, nde, g1, g2, g3, g4⟩ := ea.ex
  obtain ⟨oc, odi, oda, osl⟩ := o
  obtain rfl : oc = .ref C := g2
  obtain rfl : oda = .fields #[.ref a1, .none, .none, .none, .bool false, .none] := g3
  have H1d : H1 d = none := by
    cases z : H1 d with
    | none => rfl
    | some u2 =>
      obtain ⟨o2, y⟩ := (I1.hok d u2 z).here
      rw [fd] at y; cases y
  refine ⟨e, a1, d, osl, rfl, kp _ _ (I1.kIn _ _ hC), g1, hn pins σ H1 s1 e d (.ref C) [(fld, v)] _ #[.ref a1, .none, .none, .none, .bool false, .none] h' tk I1 fe fd nde g1 rfl rfl rfl rfl kp ⟨_, g4, fun y => ?_⟩ (q1 d H1d)⟩
  by_cases hy : y = fld
  · subst hy
    rw [List.lookup_cons, beq_self_eq_true, if_pos rfl]
    exact rv
  · rw [List.lookup_cons, beq_eq_false_iff_ne.mpr hy, if_neg hy]
    trivial
end
section
variable {P : Program} {w : World} {K : PySem.W.Frag} {mg : Str → Option Value} {base : Heap}
/-- a def that may be left by an error -/
theorem Fun.okE {x qual : Str} {st : Stmt} {f : Addr} {fd : FuncData} {N ps : List Str} {k : Nat} {sp : Sp} (F : Fun K x qual st f fd) (S : FnScope N ps (defScope st)) (len : ∀ vs H Q E, sp vs H Q E → vs.length = ps.length)
    (hb : ∀ (cdv : Value) (A : Around) (outer : List Env) (s : Shared) (H : Hp) (vs : List V) (Q : VK) (E : XK), Room k (A.deeper (envOfC qual (defScope st) s.heap.objs.size f cdv)) → sp vs H Q E →
      ∃ t, PSs (cxOf (CXE P w base) P w K mg base N qual (defScope st) f cdv A outer s H E) (defBody st) t ∧ t { nx := fun _ H' => Q .non H', rt := Q } (start N vs) H) : FnOk P w K mg base (CXE P w base) (k + 1) f fd ps sp := by
  obtain ⟨oc, od, kV, doc, pm, an, cdv, ct, osl, rfl, lk, hcd⟩ := F.ex
  exact fn_of lk hcd S len fun A outer s H vs Q E hr hsp => hb cdv A outer s H vs Q E hr hsp
end
end L2

namespace L2
open PySem PySem.Spec PyProof.Rows
abbrev vErr : List Value := [.type "ValueError", .type "Exception", .type "BaseException", .type "object"]
section
variable {prog : Program} {w : World} {K : PySem.W.Frag} {C f cc cda : Addr} {name qual fld c0 : Str} {params : Arguments} {scope : Scope} {dV kV doc pm ct oc : Value} {an od : Option Addr} {osl : Array (Option Value)}
  {p0 p1 p2 p3 p4 p5 p6 p7 p8 p9 p10 p11 p12 : Pos} {us : Array Value} {file : Str} {tf : Tok} {ccl cl : Value} {cdd cld : Option Addr} {ccs csl : Array (Option Value)} {cdD : ClassData} {mg : Str → Option Value} {ar : Arg} {bm : List Value}
  {nm q : Str} {N : Addr} {bs : List Value} {hdct ab : Bool} {sn : List Str} {sub : List Value} {col : Option Bool} {dd : Option Addr} {k0 k1 k2 k3 k5 : Option Value}
theorem errMk_of {pl : Sem Bool}
    (hev0 : ∀ L, interactive (PySem.W.ksEnv qual scope L f (.ref cda) cc) = false)
    (hev1 : ∀ L, swapsWith (.Call (.Attribute (.Call (.Name "super" p0) [] [] p1) "__init__" p2) [.JoinedStr [.Constant (.str c0) 0 p3, .FormattedValue (.Name fld p4) (-1) none p5] p6] [] p7) none p8.line (PySem.W.ksEnv qual scope L f (.ref cda) cc) = pure false)
    (hev2 : ∀ L, eval (.Call (.Attribute (.Call (.Name "super" p0) [] [] p1) "__init__" p2) [.JoinedStr [.Constant (.str c0) 0 p3, .FormattedValue (.Name fld p4) (-1) none p5] p6] [] p7) (PySem.W.ksEnv qual scope L f (.ref cda) cc) = (do
      let ov ← attributeBase (.Call (.Name "super" p0) [] [] p1) "__init__" (PySem.W.ksEnv qual scope L f (.ref cda) cc) (eval (.Call (.Name "super" p0) [] [] p1) (PySem.W.ksEnv qual scope L f (.ref cda) cc))
      standAt p2.atName
      let (g, first) ← holding [ov] (getMethod ov "__init__" pl)
      callWith p7 g first (backTo p7 (starEach [.JoinedStr [.Constant (.str c0) 0 p3, .FormattedValue (.Name fld p4) (-1) none p5] p6] (PySem.W.ksEnv qual scope L f (.ref cda) cc))) []))
    (hev3 : ∀ L, swapsWith (.Name fld p11) (some (.Attribute (.Name "self" p9) fld p10)) p12.line (PySem.W.ksEnv qual scope L f (.ref cda) cc) = pure false)
    (ho : K.lookup f = some ⟨oc, od, .func (PySem.W.ksFn name qual params (initBody c0 fld p0 p1 p2 p3 p4 p5 p6 p7 p8 p9 p10 p11 p12) scope dV kV doc pm an (.ref cda) ct cc), osl⟩)
    (hcd : PySem.W.codeIn K (.ref cda) qual = true) (hbind : ∀ a b, bindArgs (PySem.W.ksFn name qual params (initBody c0 fld p0 p1 p2 p3 p4 p5 p6 p7 p8 p9 p10 p11 p12) scope dV kV doc pm an (.ref cda) ct cc) ⟨[a, b], []⟩ = pure [(("self" : Str), a), (fld, b)])
    (hcells : ∀ x ∈ scope.names, x.2 ≠ .cell) (hself : scope.names.lookup ("self" : Str) = some .local) (hfld : scope.names.lookup fld = some .local) (hfs : ¬ fld = "self") (hfd : (fld == ("__debug__" : Str)) = false) (hks : scope.names.lookup ("super" : Str) = some .globalImplicit) (hkc : scope.names.lookup ("__class__" : Str) = some .free)
    (hk : scope.kind = .function) (hco : scope.isCoroutine = false) (hgen : scope.isGenerator = false) (hp : (params.posonlyargs ++ params.args).head? = some ar) (har : ar.arg = "self")
    (hcode : K.lookup cda = some ⟨ccl, cdd, .fields us, ccs⟩) (hvs : us[2]? = some (.str file tf)) (hfile : ((prog.main.file : Str) == file) = true) (htop : (prog.main.scope.names.lookup ("super" : Str)).isSome = false)
    (hcell : K.lookup cc = some ⟨cl, cld, .cell (some (.ref C)), csl⟩) (hD : PySem.W.clsIn K C = some cdD) (hmro : cdD.mro = .ref C :: bm) (halong : PySem.W.alongIn K "__init__" bm = some (some (.builtin "ValueError.__init__")))
    (hsubC : PySem.W.mroIn K C (.ref C) = some true) (hsubV : PySem.W.mroIn K C (.type "ValueError") = some true) (hopq : PySem.W.nsIn K cStatics "thirdparty.any" = some none) (hsup : mg "super" = none)
    (hT : ∀ h : Heap, K.In h → OwnTail h vErr bm) (hC : K.lookup C = some (excClassObj nm q C N bs bm hdct sn sub ab col dd k0 k1 k2 k3 k5 "ValueError.__new__")) (hB : bm.contains (.type "BaseException") = true)
    (hsa : PySem.W.findIn K (.ref C) "__setattr__" = some (some (.builtin "object.__setattr__"))) (hpo : errOver K C = true) (htk : PySem.W.takerIn K C fld = some none) (hhd : PySem.W.hasDictIn K C = true)
    (hfind : PySem.W.findIn K (.ref C) "__init__" = some (some (.ref f))) (htyp : PySem.W.typeIn K (.ref f) = some (.type "function")) (hc0 : c0.length ≤ 1000) (hkp : PySem.W.keepIn K (.ref C) = true) : ErrMk prog w K mg C fld := by
  refine ⟨fun A s v R mb X G Bn hmb hlim hroom hfm hq => ?_, ⟨nm, q, N, bs, bm, hdct, ab, sn, sub, col, dd, k0, k1, k2, k3, k5, _, hC, hB⟩, hkp⟩
  obtain ⟨h, g, d, t, os⟩ := s
  have kp : ∀ b o, h.get? b = some o → (rawExc h C [v]).get? b = some o := fun b o e => Heap.get?_push_of_some _ (Heap.get?_push_of_some _ e)
  have hx : (rawExc h C [v]).get? (h.objs.size + 1) = some { cls := .ref C, data := .fields #[.ref h.objs.size, .none, .none, .none, .bool false, .none] } := by
    unfold rawExc
    heap_get
  have fresh : ∀ b, h.objs.size ≤ b → h.get? b = none := fun b z => by
    cases y : h.get? b with
    | none => rfl
    | some o => exact absurd (Heap.lt_size y) (Nat.not_lt.mpr z)
  refine exc_make (Bn := "ValueError") (B := "ValueError") F.excBase_ValueError (by decide) F.excBase_ValueError (hT h X) (X _ _ hC) (PySem.W.looks_findIn X hfind) (fun self => PySem.W.bind_fn X self htyp) ?_ (by simp; decide)
  refine exc_init (oe := { cls := .ref C, data := .fields #[.ref h.objs.size, .none, .none, .none, .bool false, .none] }) (mb := mb) hev0 hev1 hev2 hev3 (X.keeps kp) ho hcd (by rw [make_depth]; exact hroom) (hlim.keeps kp) (.of_eq (hbind _ _)) hcells hself hfld hfs hfd hks hkc hk hco hgen hp har hcode hvs hfile htop hcell hD hmro halong hsubC hsubV hopq (G.keeps kp) hsup (Bn.keeps kp) hmb F.excBase_ValueError ((hT h X).keeps kp) (kp _ _ (X _ _ hC)) hsa hpo htk hhd hx rfl rfl rfl ?_ hfm hc0 fun h' tk a1 ea k2 => ?_
  · cases y : K.lookup (h.objs.size + 1) with
    | none => rfl
    | some o => exact absurd (Heap.lt_size (X _ _ y)) (Nat.not_lt.mpr (Nat.le_succ _))
  · refine ⟨rfl, hq h' tk a1 (h.objs.size + 1) (fresh _ (Nat.le_succ _)) ?_ fun b o hb => k2 b o (Nat.ne_of_lt (Nat.lt_succ_of_lt (Heap.lt_size hb))) (kp b o hb)⟩
    obtain ⟨d, o, g0, r⟩ := ea.ex
    refine ⟨d, o, ?_, r⟩
    cases y : h.get? d with
    | none => rfl
    | some o => have := kp _ _ y; rw [g0] at this; cases this
end
end L2

namespace L2
open PySem PySem.Spec PyProof.Rows
/-- an error that was caught: of the class at C, its dict at d -/
def ErrO (a C d : Addr) : HO := .ext fun h => ∃ (oe : Obj) (vs : Array Value), h.get? a = some oe ∧ oe.cls = .ref C ∧ oe.dict = some d ∧ oe.data = .fields vs
theorem errO_ok {P : Program} {w : World} {H : Hp} {h : Heap} {a C d : Addr} {fl : Value} {G : Addr → Prop} (x : FlyT h a (.ref C) (some d) fl G) : ObjOk P w H h a (ErrO a C d) := by
  obtain ⟨oe, vs, T, oT, ts, a1, a2, a3, a4, _⟩ := x
  refine ⟨⟨oe, vs, a1, a2, a3, a4⟩, ⟨oe, a1⟩, fun h1 h2 p k => ?_⟩
  obtain ⟨o, us, b1, b2⟩ := p
  exact ⟨o, us, k _ b1, b2⟩
section
variable {X : Cx} {pins : List (Addr × Obj)} {σ : St} {H1 H' : Hp} {s1 s2 : Shared} {a C d : Addr} {h4 : Heap} {fl : Value}
/-- the state behind an error that is caught -/
theorem Inv.caught (I : Inv X pins σ H1 s1) (os : s2.os = s1.os) (bare : AllBare s2.gens) (un : Un (frs X.stack) [] H1 H' s1.heap s2.heap) (hok : HOk X.prog X.w H' s2.heap) (fr : s2.heap.FunFrames X.base X.stack)
    (f4 : FlyT h4 a (.ref C) (some d) fl (Gd H' s1.heap)) (c4 : Calm (frs X.stack) (Gd H' s1.heap) s2.heap h4) : Inv X pins σ (upd H' a (ErrO a C d)) { s2 with heap := h4 } := by
  obtain ⟨_, _, _, _, _, _, _, _, _, _, _, _, _, _, _, nGa⟩ := id f4
  have H'a : H' a = none := by
    cases z : H' a with
    | none => rfl
    | some u => exact absurd (.inl (by rw [z]; simp)) nGa
  have na : ∀ b o, s1.heap.get? b = some o → b ≠ a := fun b o y z => nGa (.inr ⟨o, z ▸ y⟩)
  have nfr : ∀ b, b ∈ frs X.stack → H' b = none := fun b hb => by
    obtain ⟨_, o, ho, _⟩ := I.stack.mem hb
    exact un.free b o ho (I.stkFree b hb) (by simp)
  refine I.call' (s' := { s2 with heap := h4 }) (ch := []) os ⟨fun b o hb n nf nx => ?_, fun b o hb n hf nx => ?_, fun b o hb n nx => ?_, fun b o hb nx => ?_, fun b xs z => ?_, fun b o u z => ?_, fun b ps z => ?_⟩ (fun b o z => ?_) bare fun b z => absurd z (by simp)
  · exact c4.keep b o (un.keep b o hb n nf nx) (.inr ⟨o, hb⟩) nf
  · obtain ⟨sl, e1⟩ := un.slot b o hb n hf nx
    obtain ⟨_, o3, y, z3⟩ := fr.mem hf
    rw [e1] at y
    cases y
    obtain ⟨sl3, e3⟩ := c4.recs b _ e1 z3
    exact ⟨sl3, e3⟩
  · rw [upd_ne (na b o hb)]
    exact un.free b o hb n nx
  · obtain ⟨o1, e1⟩ := un.there b o hb nx
    exact c4.there b o1 e1
  · have y := un.tups b xs z
    rw [upd_ne]
    · exact y
    · rintro rfl; rw [H'a] at y; cases y
  · have y := un.frzs b o u z
    rw [upd_ne]
    · exact y
    · rintro rfl; rw [H'a] at y; cases y
  · obtain ⟨m1, z1⟩ := un.tbls b ps z
    refine ⟨m1, ?_⟩
    rw [upd_ne]
    · exact z1
    · rintro rfl; rw [H'a] at z1; cases z1
  · by_cases nb : b = a
    · subst nb
      rw [upd_same] at z
      cases z
      exact errO_ok f4
    · rw [upd_ne nb] at z
      have kk : ∀ c, (c = b ∨ H' c = some (.own b)) → H' c ≠ none := fun c hc => by
        rcases hc with rfl | hc
        · rw [z]; simp
        · rw [hc]; simp
      refine (hok b o z).stay (fun c u hc hu => c4.keep c u hu (.inl (kk c hc)) fun hm => kk c hc (nfr c hm)) (fun c y => ?_) fun c xs y => ?_
      · rw [upd_ne]
        · exact y
        · rintro rfl; rw [H'a] at y; cases y
      · rw [upd_ne]
        · exact y
        · rintro rfl; rw [H'a] at y; cases y
end
/-- within an except suite -/
abbrev Cx.inH (X : Cx) (a : Addr) : Cx := { X with A := X.A.mark (some (.ref a)), calm := false }
theorem Cx.Ok.inH {X : Cx} (ok : X.Ok) (a : Addr) : (X.inH a).Ok :=
  ⟨ok.mod, ok.kind, ok.glob, ok.blt, ok.above, ok.inj, ok.has, ok.cab, (fun z => by cases z), ok.frames, ok.stk, ok.exf, ok.bs, ok.bsz, ok.noex, ok.exfs, ok.funs, ok.frf, ok.cnf⟩
section
variable {X : Cx} {pins : List (Addr × Obj)} {σ : St} {H : Hp} {s : Shared} {a : Addr}
theorem Inv.inH (I : Inv X pins σ H s) (a : Addr) : Inv (X.inH a) pins σ H s := ⟨I.ok.inH a, I.os, I.bare, I.base, I.loc, I.cell, I.free, I.freeC, I.pin, I.hok, I.len⟩
theorem Inv.outH (I : Inv (X.inH a) pins σ H s) (ok : X.Ok) : Inv X pins σ H s := ⟨ok, I.os, I.bare, I.base, I.loc, I.cell, I.free, I.freeC, I.pin, I.hok, I.len⟩
/-- the name of an except clause goes -/
theorem name_goes {M : Model} {A : Around} {E : Value → Shared → Prop} {i : Nat} {n : Str} {pos : Pos} {Q : Unit → Shared → Prop} (I : Inv X pins σ H s) (hN : X.N.Nodup) (hi : X.N[i]? = some n) (hl : X.env.scope.names.lookup n = some .local)
    (h : ∀ s', Inv X pins (σ.set i none) H s' → Q () s') : wpAny M A (do bindName X.env n .none; unbindBehindTheSuite X.env n pos) Q E s := by
  have hcls : (X.env.scope.kind == .class || (X.env.scope.kind == .module && X.env.locals != X.env.globals)) = false := by rw [I.ok.kind]; rfl
  refine wpAny_bind (wpAny_bindName (store_ok (v := .non) (i := i) I hN hi (.inl hl) rfl (fun s1 I1 => ?_) (.inr hl)))
  unfold unbindBehindTheSuite
  refine wpAny_onRaise ?_
  obtain ⟨m, hn, hlk⟩ := id I1.loc
  have hiσ : i < σ.length := by rw [I.len]; exact (List.getElem?_eq_some_iff.mp hi).1
  obtain ⟨v0, r0, lk0⟩ := hlk i n .non hi (by rw [List.getElem?_set_self hiσ]) (.inl hl)
  have hmn : m n = some v0 := by
    rcases lk0 with ⟨_, z⟩ | ⟨z, _⟩
    · exact z
    · have hk : X.env.kindOf n = some .local := hl
      rw [hk] at z
      rcases z with z | z <;> cases z
  refine wpAny_unbindName_local hl hn hmn hcls fun h' u hn' hs => ?_
  have hLt : ∃ o, s1.heap.get? X.env.locals = some o := by
    obtain ⟨o, _, _, z, _⟩ := hn
    exact ⟨o, z⟩
  refine h { s1 with heap := h' } ⟨I1.ok, I1.os, I1.bare, ⟨fun b o e n2 hb hx => ?_, fun b o e n2 hb hx => ?_, I1.base.free, fun b o e hx => ?_, I1.base.tups, I1.base.frzs, I1.base.tbls⟩, ⟨_, hn', fun j y v' e1 e2 e3 => ?_⟩, fun y c e => ?_, I1.free, I1.freeC, fun p hp => ?_, fun b ob e => ?_, by simpa using I.len⟩
  · exact (hs.2 b (Nat.ne_of_lt (Nat.lt_of_lt_of_le (Heap.lt_size e) I.ok.above))).trans (I1.base.keep b o e n2 hb hx)
  · obtain ⟨sl, e1⟩ := I1.base.slot b o e n2 hb hx
    exact ⟨sl, (hs.2 b (Nat.ne_of_lt (Nat.lt_of_lt_of_le (Heap.lt_size e) I.ok.above))).trans e1⟩
  · obtain ⟨o', e1⟩ := I1.base.there b o e hx
    exact ⟨o', (hs.2 b (Nat.ne_of_lt (Nat.lt_of_lt_of_le (Heap.lt_size e) I.ok.above))).trans e1⟩
  · have hj : j ≠ i := by
      rintro rfl
      rw [List.getElem?_set_self hiσ] at e2
      cases e2
    rw [List.getElem?_set_ne (Ne.symm hj)] at e2
    obtain ⟨u', r', q⟩ := hlk j y v' e1 (by rw [List.getElem?_set_ne (Ne.symm hj)]; exact e2) e3
    have ny : y ≠ n := fun z => hj (nodup_ix hN e1 (z ▸ hi))
    refine ⟨u', r', ?_⟩
    rcases q with ⟨k1, z⟩ | ⟨k1, c, e4, z⟩
    · exact .inl ⟨k1, by show (if y = n then u else m y) = _; rw [if_neg ny]; exact z⟩
    · exact .inr ⟨k1, c, e4, z.sameBut hs (I1.cne y c e4)⟩
  · obtain ⟨w', z⟩ := I1.cell y c e
    exact ⟨w', z.sameBut hs (I1.cne y c e)⟩
  · obtain ⟨e, n2, ne, nf, dd⟩ := I1.pin p hp
    exact ⟨(hs.2 p.1 ne).trans e, n2, ne, nf, dd⟩
  · refine (I1.hok b ob e).stay (fun c w' hc q => (hs.2 c ?_).trans q) (fun _ q => q) fun _ _ q => q
    have hf := I1.free
    rintro rfl
    rcases hc with rfl | hc
    · rw [hf] at e; cases e
    · rw [hf] at hc; cases hc
end
section
variable {M : Model} {A : Around} {E : Value → Shared → Prop} {h : Heap} {g : Array GenState} {dr : Drawn} {t : Nat} {os : OsState} {K : PySem.W.Frag} {C D a : Addr} {oe : Obj} {Q : Bool → Shared → Prop}
variable {nm q : Str} {N : Addr} {bs bm : List Value} {hdct ab : Bool} {sn : List Str} {sub : List Value} {col : Option Bool} {dd : Option Addr} {k0 k1 k2 k3 k5 : Option Value} {newId : String}
variable {nm' q' : Str} {N' : Addr} {bs' bm' : List Value} {hdct' ab' : Bool} {sn' : List Str} {sub' : List Value} {col' : Option Bool} {dd' : Option Addr} {j0 j1 j2 j3 j5 : Option Value} {newId' : String}
theorem exc_matches {b : Bool} (hC : h.get? C = some (excClassObj nm q C N bs bm hdct sn sub ab col dd k0 k1 k2 k3 k5 newId)) (hD : h.get? D = some (excClassObj nm' q' D N' bs' bm' hdct' sn' sub' ab' col' dd' j0 j1 j2 j3 j5 newId'))
    (he : h.get? a = some oe) (hcls : oe.cls = .ref C) (hB : bm'.contains (.type "BaseException") = true) (hs : (Value.ref C :: bm).contains (.ref D) = b) (hq : Q b ⟨h, g, dr, t, os⟩) : wpAny M A (excMatches (.ref a) (.ref D)) Q E ⟨h, g, dr, t, os⟩ := by
  have inB : (Value.ref D :: bm').contains (.type "BaseException") = true := by rw [List.contains_cons, hB, Bool.or_true]
  have nt := tc_notTuple
  unfold excMatches
  repeat (first | (with_reducible refine wpAny_loadPart_at he ?_; rw [hcls]) | with_reducible refine wpAny_loadPart_at hD ?_ | (with_reducible refine wpAny_isSubtype_exc hD ?_; rw [inB]) | (with_reducible refine wpAny_isSubtype_exc hC ?_; rw [hs]) | wp_step)
  cases b <;> repeat (first | exact hq | wp_step)
end
end L2

namespace L2
open PySem PySem.Spec PyProof.Rows
/-- an expression that may be left by an error: the state of names stays -/
def PX (X : Cx) (CX : CXT) (e : Expr) (t : XK → TE) : Prop :=
  ∀ (pins : List (Addr × Obj)) (s : Shared) (σ : St) (H : Hp) (Q : VK) (E : XK), Inv X pins σ H s → t E σ H Q → wpAny (model X.prog X.w) X.A (eval e X.env) (EP X pins σ Q) (fun er s' => ∃ H1 s1, Inv X pins σ H1 s1 ∧ CX X.stack H1 s1 E er s') s
section
variable {X : Cx} {CX : CXT} {k : Nat} {f : Addr} {fd : FuncData} {ps : List Str} {sp : Sp} {dvs : List V} {ds : List Value} {x : Str} {p pos : Pos} {e : Expr} {es : List Expr} {t : TA}
theorem px_call (F : FnOk X.prog X.w X.K X.mg X.base CX k f fd ps sp) (hr : Room k X.A) (hg : Gl X x) (hm : X.mg x = some (.ref f)) (hk : PySem.W.keepIn X.K (.ref f) = true) (hb : Binds X.K fd ps ds) (hd : Vals dvs ds) (hno : ∀ e s, ¬ X.xe e s)
    (ha : PA X (e :: es) t) (hdb : (x == ("__debug__" : Str)) = false := by decide) (he : starEach (e :: es) X.env = (false, eval e X.env) :: starEach es X.env := by rfl) (hpl : (backTo pos (starEach es X.env)).any (·.1) = false := by rfl) :
    PX X CX (.Call (.Name x p) (e :: es) [] pos) (fun E => tCall sp dvs E t) := by
  intro pins s σ H Q E I h
  refine wpAny_Call_Name_kw (ld_glob I hg hm ?_ hdb)
  refine PySem.W.callWith_K (h₀ := X.base) I.ok.mod.kin hk (wpAny_mono (ha pos pins s σ H _ I h) (fun us s1 ⟨vs, H1, I1, r, q⟩ => ⟨I1.kIn, ?_⟩) fun _ _ z => (hno _ _ z).elim) he hpl
  have r2 := r.append hd
  have hl : (us ++ ds).length = ps.length := by rw [← r2.length]; exact F.len _ _ _ _ q
  refine wpAny_call (codeAny_mono (F.run X.A X.stack s1 H1 ⟨us, []⟩ (us ++ ds) (vs ++ dvs) Q E hr I1.env0 (hb s1 us I1.kIn hl) r2 q) fun r s' z => ?_)
  cases r with
  | error er => exact ⟨H1, s1, I1, z⟩
  | ok fl =>
    cases fl with
    | ret u => exact I1.after z
    | next => exact False.elim z
    | brk => exact False.elim z
    | cont => exact False.elim z
end
/-- the class at C is an error class below the one at D -/
def SubE (K : PySem.W.Frag) (C D : Addr) : Prop := ∃ (nm q : Str) (N : Addr) (bs bm : List Value) (hdct ab : Bool) (sn : List Str) (sub : List Value) (col : Option Bool) (dd : Option Addr) (k0 k1 k2 k3 k5 : Option Value) (newId : String),
  K.lookup C = some (excClassObj nm q C N bs bm hdct sn sub ab col dd k0 k1 k2 k3 k5 newId) ∧ bm.contains (.type "BaseException") = true ∧ (Value.ref C :: bm).contains (.ref D) = true
/-- behind an except suite its name is gone -/
@[reducible] def gone (j : Nat) (D : Ends) : Ends := { nx := fun σ H => D.nx (σ.set j none) H, rt := D.rt, bk := fun σ H => D.bk (σ.set j none) H, ct := fun σ H => D.ct (σ.set j none) H }
section
variable {X : Cx} {ex : Expr} {t : XK → TE} {th : TS} {i j : Nat} {y c n : Str} {p1 p2 np hp pos : Pos} {b0 : Stmt} {suite : List Stmt} {Dc : Addr}
end
end L2

namespace L2
open PySem PySem.Spec PyProof.Rows
/-- what a class of errors must have for its attributes to be read -/
structure ErrGet (K : PySem.W.Frag) (C : Addr) : Prop where
  ga : PySem.W.findIn K (.ref C) "__getattribute__" = some (some (.builtin "BaseException.__getattribute__"))
  gx : PySem.W.findIn K (.ref C) "__getattr__" = some none
  ba : PySem.W.mroIn K C (.type "BaseException") = some true
  hd : PySem.W.hasDictIn K C = true
section
variable {prog : Program} {w : World} {A : Around} {E : Value → Shared → Prop} {s : Shared} {K : PySem.W.Frag} {x C : Addr} {ox : Obj} {od : Option Obj} {name : Str} {expr fill : Bool} {tk : Tok}
theorem eg_slot : Slot "ValueError" "__getattribute__" "BaseException.__getattribute__" := .of (owner := "BaseException") (n := "__getattribute__") (by rw [typeLookup_type, builtinLookup_eq_fast]; kernel_rfl) (by decide +kernel) (by decide +kernel) (by decide +kernel) (.inl (by kernel_rfl)) (by rw [isSubtype_type]; kernel_rfl)
theorem eg_check {nameV : Value} {Q : Unit → Shared → Prop} (X : K.In s.heap) (I : PySem.W.InstAt s.heap x ox C od) (g : ErrGet K C) (hq : Q () s) : wpAny (model prog w) A (checkBuiltinCall "BaseException.__getattribute__" ⟨[.ref x, nameV], []⟩) Q E s := by
  have hk : builtinKind "BaseException.__getattribute__" = some .slot := by decide +kernel
  have hsp : splitId "BaseException.__getattribute__" = some ("BaseException", "__getattribute__") := by decide +kernel
  have ha := F.args_bexc_ga (.ref x) nameV
  obtain ⟨h, gg, d, t, os⟩ := s
  have L0 := I.type (M := model prog w)
  have L1 := PySem.W.looks_mroIn (M := model prog w) X g.ba
  simp only [checkBuiltinCall, hk, hsp]
  refine wpAny_bind ?_
  unfold isInstance
  refine wpAny_bind (L0.at (L1.at ?_))
  repeat (first | exact hq | wp_step)
theorem eg_by {Q : Value → Shared → Prop} (X : K.In s.heap) (I : PySem.W.InstAt s.heap x ox C od) (g : ErrGet K C)
    (h : wpAny (model prog w) A.in1 (Builtin.«object.__getattribute__» ⟨[.ref x, .str name tk], []⟩) (fun fin s' => ∃ v, fin = .done (.ret v) ∧ wpAny (model prog w) A (handedOut v) Q E s') (fun _ _ => False) s) :
    wpAny (model prog w) A (getAttrBy (.ref x) (.str name tk) fill expr) Q E s := by
  obtain ⟨hh, gg, d, t, os⟩ := s
  have L0 := I.type (M := model prog w)
  have L1 := PySem.W.looks_findIn (M := model prog w) X g.ga
  have L2 := PySem.W.looks_findIn (M := model prog w) X g.gx
  unfold getAttrBy
  refine wpAny_holding (wpAny_bind (L0.at (wpAny_bind (L1.at ?_))))
  refine (show wpAny _ _ (getAttrByItsOwn (.ref x) (.str name tk) (.ref C) (.builtin "BaseException.__getattribute__") fill expr) _ _ _ from ?_)
  unfold getAttrByItsOwn hookBefore callGetattribute boundAndCalled
  refine wpAny_bind (show wpAny _ _ (typeLookup (.ref C) "__getattr__") _ _ _ from L2.at (wpAny_bind (wpAny_attempt (wpAny_holding ?_))))
  have e0 : (expr && onTheHeap (.builtin "BaseException.__getattribute__")) = false := by cases expr <;> rfl
  rw [e0]
  refine (show wpAny _ _ (bindSpecial (.builtin "BaseException.__getattribute__") (.ref x) >>= _) _ _ _ from wpAny_bind (wpAny_of_eq (eg_slot.bind _) ?_))
  refine wpAny_call (codeAny_call_builtin eg_slot.plain F.entry_bexc_ga (eg_check X I g (wpAny_mono h (fun fin s' z => ?_) fun _ _ z => z.elim)))
  obtain ⟨v, rfl, z⟩ := z
  exact z
/-- an own attribute of an error is read -/
theorem eg_value {v : Value} {Q : Value → Shared → Prop} (X : K.In s.heap) (I : PySem.W.InstAt s.heap x ox C od) (g : ErrGet K C) (hf : PySem.W.findObj K C od name = some (.value v)) (hv : PySem.W.handedIn v = true) (h : Q v { s with toks := s.toks + 1 }) :
    wpAny (model prog w) A (getAttr (.ref x) name expr) Q E s := by
  unfold getAttr
  refine wpAny_bind (wpAny_mkText (eg_by (s := { s with toks := s.toks + 1 }) X I g ?_))
  obtain ⟨hh, gg, d, t, os⟩ := s
  have L0 := I.type (M := model prog w)
  have L1 := PySem.W.looks_find (M := model prog w) X I hf
  unfold Builtin.«object.__getattribute__»
  refine wpAny_bind (wpAny_pure (wpAny_bind (wpAny_pure (wpAny_bind (L0.at (wpAny_bind (L1.at ?_)))))))
  refine wpAny_pure ⟨v, rfl, ?_⟩
  rw [PySem.W.handedOut_of hv]
  exact wpAny_pure h
end
end L2

namespace L2
open PySem PySem.Spec PyProof.Rows
/-- what a class of errors must have for isinstance -/
structure ErrIs (K : PySem.W.Frag) (C : Addr) : Prop extends ErrGet K C where
  cl : PySem.W.findIn K (.ref C) "__class__" = some (some (.builtin "object.__class__"))
  gs : PySem.W.specialIn K (.builtin "object.__class__") "__get__" = some (some (.builtin "getset_descriptor.__get__"))
  tk : PySem.W.takesIn K (.builtin "object.__class__") = some true
  ob : PySem.W.mroIn K C (.type "object") = some true
section
variable {K : PySem.W.Frag} {x C : Addr} {ox od : Obj}
end
section
variable {X : Cx} {pins : List (Addr × Obj)} {σ : St} {H : Hp} {s : Shared}
/-- a caught error as an instance -/
theorem err_inst {a C d : Addr} {fs : List (Str × V)} (I : Inv X pins σ H s) (ea : H a = some (ErrO a C d)) (ed : H d = some (.xd fs)) : ∃ (ox od : Obj) (mA : Str → Option Value), PySem.W.InstAt s.heap a ox C (some od) ∧ (∀ n, PySem.W.lookIn n od = some (mA n)) ∧ ∀ f, RelO (fs.lookup f) (mA f) := by
  obtain ⟨⟨oe, vs, g1, g2, g3, g4⟩, _⟩ := (show ObjOk X.prog X.w H s.heap a (ErrO a C d) from I.hok a _ ea)
  obtain ⟨mA, ns, rl⟩ := (show ObjOk X.prog X.w H s.heap d (.xd fs) from I.hok d _ ed)
  obtain ⟨od, ho, hl⟩ := lookIn_ns ns
  refine ⟨oe, od, mA, ⟨g1, g2, ?_, ?_⟩, hl, rl⟩
  · unfold PySem.W.notCls; rw [g4]
  · rw [g3]; exact ho
/-- e.f of a caught error -/
@[reducible] def tErrFld (K : PySem.W.Frag) (ta : TE) (f : Str) : TE := fun σ H Q => ta σ H fun x H1 => ∃ a C d fs v, x = .ref a ∧ H1 a = some (ErrO a C d) ∧ H1 d = some (.xd fs) ∧ ErrGet K C ∧ PySem.W.findIn K (.ref C) f = some none ∧ fs.lookup f = some v ∧ Q v H1
theorem pe_errfld {e : Expr} {f : Str} {pos : Pos} {ta : TE} (he : PE X e ta) (hb : attributeBase e f X.env (eval e X.env) = eval e X.env) : PE X (.Attribute e f pos) (tErrFld X.K ta f) := by
  intro pins s σ H Q I h
  refine attr_of hb (thn (he pins s σ H _ I h) fun u s1 ⟨x, H1, I1, rx, a, C, d, fs, v, ex, ea, ed, g, hn, l, q⟩ => ?_)
  subst ex
  obtain rfl : u = Value.ref a := rx
  obtain ⟨ox, od, mA, J, hl, rl⟩ := err_inst I1 ea ed
  have rv := rl f
  rw [l] at rv
  obtain ⟨u2, hu, r2⟩ : ∃ u2, mA f = some u2 ∧ RelV v u2 := by
    cases z : mA f with
    | none => rw [z] at rv; exact rv.elim
    | some u2 => rw [z] at rv; exact ⟨u2, rfl, rv⟩
  exact eg_value I1.kIn J g (PySem.W.findObj_own g.hd hn rfl (by rw [hl, hu])) (handed_of r2) ⟨v, H1, I1.tok _, r2, q⟩
end
end L2

namespace L2
open PySem PySem.Spec PyProof.Rows
section
variable {X : Cx} {CX : CXT} {k i : Nat} {x : Str} {p pos : Pos} {e : Expr} {es : List Expr} {t : TA} {G : Addr → Sp → Prop}
end
end L2

namespace L2
open PySem PySem.Spec PyProof.Rows
/-- a def of the text that may be left by an error, as its callers see it -/
structure FnE (P : Program) (w : World) (K : PySem.W.Frag) (mg : Str → Option Value) (base : Heap) (x : Str) (k : Nat) (ps : List Str) (sp : Sp) : Prop where
  ex : ∃ (f : Addr) (fd : FuncData), FnOk P w K mg base (CXE P w base) k f fd ps sp ∧ mg x = some (.ref f) ∧ PySem.W.keepIn K (.ref f) = true ∧ Binds K fd ps []
section
variable {X : Cx} {x : Str} {k : Nat} {ps : List Str} {sp : Sp} {p pos : Pos} {e : Expr} {es : List Expr} {t : TA} {E : XK}
theorem px_fn (F : FnE X.prog X.w X.K X.mg X.base x k ps sp) (hr : Room k X.A) (hg : Gl X x) (hno : ∀ e s, ¬ X.xe e s) (ha : PA X (e :: es) t) (h : (e :: es).all notStar = true := by rfl) (hdb : (x == ("__debug__" : Str)) = false := by decide) :
    PX X (CXE X.prog X.w X.base) (.Call (.Name x p) (e :: es) [] pos) (fun E => tCall sp [] E t) := by
  obtain ⟨f, fd, F, hm, hk, hb⟩ := F.ex
  rw [List.all_cons, Bool.and_eq_true] at h
  exact px_call F hr hg hm hk hb .nil hno ha hdb (star_plain h.1) (any_plain h.2)
end
theorem Fun.fnE {P : Program} {w : World} {K : PySem.W.Frag} {mg : Str → Option Value} {base : Heap} {x qual : Str} {st : Stmt} {f : Addr} {fd : FuncData} {k : Nat} {ps : List Str} {sp : Sp} (F : Fun K x qual st f fd) (hm : mg x = some (.ref f)) (hb : Binds K fd ps [])
    (G : FnOk P w K mg base (CXE P w base) k f fd ps sp) : FnE P w K mg base x k ps sp := ⟨f, fd, G, hm, F.kp, hb⟩
/-- an error class by its name -/
structure ErrNm (P : Program) (w : World) (K : PySem.W.Frag) (mg : Str → Option Value) (x : Str) (C : Addr) (fld : Str) : Prop where
  em : ErrMk P w K mg C fld
  gl : mg x = some (.ref C)
/-- within an except suite no error leaves, too -/
theorem noxe {X : Cx} : ∀ e s, ¬ X.nox.xe e s := fun _ _ z => z
end L2

namespace L2
open PySem PySem.Spec PyProof.Rows
section
variable {X : Cx}
end
end L2

namespace L2
open PySem PySem.Spec PyProof.Rows
theorem fits_ix (j : Int) (h0 : 0 ≤ j) (h1 : j ≤ 1000) : ¬ (!Builtin.List.listFitsIndex j) = true := by
  unfold Builtin.List.listFitsIndex
  simp
  omega
section
variable {X : Cx}
/-- xs.insert(i, y), i within -/
@[reducible] def rInsert : V → List V → Hp → VK → Prop := fun x vs H Q => ∃ (l : Addr) (xs : List V) (j : Int) (y : V), x = .ref l ∧ vs = [.int j, y] ∧ H l = some (.lst xs) ∧ 0 ≤ j ∧ j ≤ xs.length ∧ xs.length < 1000 ∧ Q .non (upd H l (.lst (xs.take j.toNat ++ y :: xs.drop j.toNat)))
theorem mt_insert : MtM X "list.insert" rInsert := by
  intro pins s σ H x vs v us Q I rx rv h
  obtain ⟨l, xs, j, y, rfl, rfl, hH, h0, hi, hz, q⟩ := h
  cases rx
  obtain ⟨u1, u, rfl, r1, ru⟩ : ∃ u1 u, us = [u1, u] ∧ RelV (.int j) u1 ∧ RelV y u := by
    cases rv with
    | cons r1 r => cases r with
      | cons r2 r => cases r; exact ⟨_, _, rfl, r1, r2⟩
  obtain ⟨t1, rfl⟩ := r1
  obtain ⟨z, its, n, r, hl, e⟩ := I.lstM hH
  have hln := r.length
  have hs : its.toArray.size ≤ sizeLine := by
    rw [List.size_toArray, ← hln]
    exact z
  have f0 := fits_ix j h0 (by omega)
  have M := @PySem.AutoListH.list_insert_list_int_val_1 l its.toArray n j t1 u f0 hs
  refine call_meets F.slot_list_insert ⟨_, e, rfl⟩ F.entry_list_insert (F.args_list_insert_3 _ _ _) M ⟨e, ?_⟩
  refine ⟨.non, _, I.lset (its' := its.take j.toNat ++ u :: its.drop j.toNat) hH e ?_ ((r.take j.toNat).append (.cons ru (r.drop j.toNat))) ?_, rfl, q⟩
  · have h1 : ¬ j < 0 := by omega
    have h2 : min j.toNat its.length = j.toNat := by omega
    simp [h1, h2]
    rw [List.take_of_length_le (by simp)]
  · refine Nat.le_trans (show _ ≤ 1001 from ?_) (by decide)
    simp
    omega
end
end L2

namespace L2
open PySem PySem.Spec PyProof.Rows
/-- a word: letters, not too many -/
def Word (x : Str) : Prop := x.length ≤ 100 ∧ Low x
theorem IsName.word {x : Str} (h : IsName x) : Word x := ⟨Nat.le_trans h.2.1 (by decide), h.2.2⟩
theorem low_ok {x : Str} (h : Low x) : PyData.strOk x = true := by
  unfold PyData.strOk
  rw [← Array.all_toList, List.all_eq_true]
  exact fun c hc => decide_eq_true (by have := h c hc; omega)
theorem oks_shaped {xs : List Str} (h : ∀ x ∈ xs, PyData.strOk x = true) : SeqAt.shaped (.list (xs.map PyData.str)) = true := by
  have a : ∀ xs : List Str, (∀ x ∈ xs, PyData.strOk x = true) → PyData.canLayAll0 (xs.map PyData.str) = true ∧ PyData.depthAll (xs.map PyData.str) = 0 := fun xs => by
    induction xs with
    | nil => exact fun _ => ⟨rfl, rfl⟩
    | cons x xs ih =>
      intro h
      obtain ⟨i1, i2⟩ := ih fun y hy => h y (by simp [hy])
      rw [List.map_cons, PyData.canLayAll0.eq_2, PyData.depthAll.eq_2, PyData.canLay0.eq_4, h x (by simp), i1, i2]
      exact ⟨rfl, rfl⟩
  obtain ⟨i1, i2⟩ := a xs h
  unfold SeqAt.shaped
  rw [PyData.canLay0.eq_5, PyData.depth.eq_1, i1, i2]
  rfl
end L2

namespace L2
open PySem PySem.Spec PyProof.Rows
section
variable {X : Cx} {st : Stmt} {rest a b : List Stmt} {e c : Expr} {t u : (St → XK) → TS} {te : XK → TE} {ts : TS} {tc : TT} {pos p1 : Pos} {i : Nat} {y : Str}
end
section
variable {X : Cx} {tb : (St → XK) → TS} {th : TS} {j : Nat} {c n : Str} {np hp pos : Pos} {b0 : Stmt} {body suite : List Stmt} {Dc : Addr}
end
section
variable {X : Cx} {C : Addr} {m : Str} {k : Nat} {ps : List Str} {sp : Sp} {apos pos : Pos} {o e : Expr} {es : List Expr} {ta : TE} {t : TA} {E : XK}
end
section
variable {X : Cx}
end
section
variable {X : Cx}
end
/-- a def that may be left by an error, where it is not -/
theorem FnE.plain {P : Program} {w : World} {K : PySem.W.Frag} {mg : Str → Option Value} {base : Heap} {x : Str} {k : Nat} {ps : List Str} {sp sp' : Sp} (F : FnE P w K mg base x k ps sp) (h : ∀ vs H Q E, sp' vs H Q E → sp vs H Q E0) : Fn P w K mg base x k ps sp' := by
  obtain ⟨f, fd, G, hm, hk, hb⟩ := F.ex
  refine ⟨⟨f, fd, ⟨fun vs H Q E q => G.len vs H Q E0 (h vs H Q E q), fun A outer s H args us vs Q E hr he hb hv q => codeAny_mono (G.run A outer s H args us vs Q E0 hr he hb hv (h vs H Q E q)) fun r s' z => ?_⟩, hm, hk, hb⟩⟩
  cases r with
  | error er =>
    obtain ⟨_, _, _, _, _, _, _, _, _, _, _, z⟩ := z
    exact z.elim
  | ok fl =>
    cases fl with
    | ret u => exact z
    | next => exact False.elim z
    | brk => exact False.elim z
    | cont => exact False.elim z
end L2

namespace L2
open PySem PySem.Spec PyProof.Rows
/-! ### errors of a class without an __init__ of its own: no dict -/
/-- an error class without an __init__, to be called with one value -/
structure ErrMkP (K : PySem.W.Frag) (C : Addr) : Prop where
  ex : ∃ (nm q : Str) (N : Addr) (bs bm : List Value) (hdct ab : Bool) (sn : List Str) (sub : List Value) (col : Option Bool) (dd : Option Addr) (k0 k1 k2 k3 k5 : Option Value),
    K.lookup C = some (excClassObj nm q C N bs bm hdct sn sub ab col dd k0 k1 k2 k3 k5 "ValueError.__new__") ∧ bm.contains (.type "BaseException") = true ∧ PySem.W.tailIn K vErr bm = true ∧ PySem.W.nsOkIn K N = true ∧ PySem.W.nsIn K N "__init__" = some none
  kp : PySem.W.keepIn K (.ref C) = true
structure ErrNmP (K : PySem.W.Frag) (mg : Str → Option Value) (x : Str) (C : Addr) : Prop where
  em : ErrMkP K C
  gl : mg x = some (.ref C)
section
variable {P : Program} {w : World} {K : PySem.W.Frag} {mg : Str → Option Value} {base : Heap} {N : List Str} {qual : Str} {scope : Scope} {f : Addr} {cd : Value} {A : Around} {outer : List Env} {s : Shared} {H : Hp} {E : XK}
end
section
variable {X : Cx} {C : Addr} {x : Str} {E : XK} {e : Expr} {p cpos pos : Pos} {t : TA} {k : Nat}
end
/-! ### caught, with or without a dict -/
def ErrP (a C : Addr) : HO := .ext fun h => ∃ (oe : Obj) (vs : Array Value), h.get? a = some oe ∧ oe.cls = .ref C ∧ oe.dict = none ∧ oe.data = .fields vs
@[reducible] def ErrG (a C : Addr) : Option Addr → HO
  | some d => ErrO a C d
  | none => ErrP a C
theorem errG_ok {P : Program} {w : World} {H : Hp} {h : Heap} {a C : Addr} {od : Option Addr} {fl : Value} {G : Addr → Prop} (x : FlyT h a (.ref C) od fl G) : ObjOk P w H h a (ErrG a C od) := by
  cases od with
  | some d => exact errO_ok x
  | none =>
    obtain ⟨oe, vs, T, oT, ts, a1, a2, a3, a4, _⟩ := x
    refine ⟨⟨oe, vs, a1, a2, a3, a4⟩, ⟨oe, a1⟩, fun h1 h2 p k => ?_⟩
    obtain ⟨o, us, b1, b2⟩ := p
    exact ⟨o, us, k _ b1, b2⟩
section
variable {X : Cx} {pins : List (Addr × Obj)} {σ : St} {H1 H' : Hp} {s1 s2 : Shared} {a C : Addr} {od : Option Addr} {h4 : Heap} {fl : Value}
theorem Inv.caughtG (I : Inv X pins σ H1 s1) (os : s2.os = s1.os) (bare : AllBare s2.gens) (un : Un (frs X.stack) [] H1 H' s1.heap s2.heap) (hok : HOk X.prog X.w H' s2.heap) (fr : s2.heap.FunFrames X.base X.stack)
    (f4 : FlyT h4 a (.ref C) od fl (Gd H' s1.heap)) (c4 : Calm (frs X.stack) (Gd H' s1.heap) s2.heap h4) : Inv X pins σ (upd H' a (ErrG a C od)) { s2 with heap := h4 } := by
  obtain ⟨_, _, _, _, _, _, _, _, _, _, _, _, _, _, _, nGa⟩ := id f4
  have H'a : H' a = none := by
    cases z : H' a with
    | none => rfl
    | some u => exact absurd (.inl (by rw [z]; simp)) nGa
  have na : ∀ b o, s1.heap.get? b = some o → b ≠ a := fun b o y z => nGa (.inr ⟨o, z ▸ y⟩)
  have nfr : ∀ b, b ∈ frs X.stack → H' b = none := fun b hb => by
    obtain ⟨_, o, ho, _⟩ := I.stack.mem hb
    exact un.free b o ho (I.stkFree b hb) (by simp)
  refine I.call' (s' := { s2 with heap := h4 }) (ch := []) os ⟨fun b o hb n nf nx => ?_, fun b o hb n hf nx => ?_, fun b o hb n nx => ?_, fun b o hb nx => ?_, fun b xs z => ?_, fun b o u z => ?_, fun b ps z => ?_⟩ (fun b o z => ?_) bare fun b z => absurd z (by simp)
  · exact c4.keep b o (un.keep b o hb n nf nx) (.inr ⟨o, hb⟩) nf
  · obtain ⟨sl, e1⟩ := un.slot b o hb n hf nx
    obtain ⟨_, o3, y, z3⟩ := fr.mem hf
    rw [e1] at y
    cases y
    obtain ⟨sl3, e3⟩ := c4.recs b _ e1 z3
    exact ⟨sl3, e3⟩
  · rw [upd_ne (na b o hb)]
    exact un.free b o hb n nx
  · obtain ⟨o1, e1⟩ := un.there b o hb nx
    exact c4.there b o1 e1
  · have y := un.tups b xs z
    rw [upd_ne]
    · exact y
    · rintro rfl; rw [H'a] at y; cases y
  · have y := un.frzs b o u z
    rw [upd_ne]
    · exact y
    · rintro rfl; rw [H'a] at y; cases y
  · obtain ⟨m1, z1⟩ := un.tbls b ps z
    refine ⟨m1, ?_⟩
    rw [upd_ne]
    · exact z1
    · rintro rfl; rw [H'a] at z1; cases z1
  · by_cases nb : b = a
    · subst nb
      rw [upd_same] at z
      cases z
      exact errG_ok f4
    · rw [upd_ne nb] at z
      have kk : ∀ c, (c = b ∨ H' c = some (.own b)) → H' c ≠ none := fun c hc => by
        rcases hc with rfl | hc
        · rw [z]; simp
        · rw [hc]; simp
      refine (hok b o z).stay (fun c u hc hu => c4.keep c u hu (.inl (kk c hc)) fun hm => kk c hc (nfr c hm)) (fun c y => ?_) fun c xs y => ?_
      · rw [upd_ne]
        · exact y
        · rintro rfl; rw [H'a] at y; cases y
      · rw [upd_ne]
        · exact y
        · rintro rfl; rw [H'a] at y; cases y
end
/-- what is wanted of an error that is caught -/
@[reducible] def xTryG (K : PySem.W.Frag) (Dc : Addr) (j : Nat) (th : TS) (D : Ends) (σ : St) : XK := fun cls od H' => ∃ C, cls = .ref C ∧ SubE K C Dc ∧ ∀ a, H' a = none → th (gone j D) (σ.set j (some (.ref a))) (upd H' a (ErrG a C od))
@[reducible] def tTryEG (K : PySem.W.Frag) (Dc : Addr) (j : Nat) (t : XK → TE) (th : TS) : TS := fun D σ H => t (xTryG K Dc j th D σ) σ H fun v H1 => D.nx σ H1
section
variable {X : Cx} {ex : Expr} {t : XK → TE} {th : TS} {i j : Nat} {y c n : Str} {p1 p2 np hp pos : Pos} {b0 : Stmt} {suite : List Stmt} {Dc : Addr}
theorem caught_runG {pins : List (Addr × Obj)} {σ : St} {H1 : Hp} {s1 s2 : Shared} {er : Value} {D : Ends} (hst : X.stack = X.env :: X.outer) (hfr : X.env.frame = some X.env.locals) (hno : ∀ e s, ¬ X.xe e s) (hg : Gl X c) (hm : X.mg c = some (.ref Dc)) (hDc : SubE X.K Dc Dc)
    (hN : X.N.Nodup) (hj : X.N[j]? = some n) (hnl : X.env.scope.names.lookup n = some .local) (hsu : ∀ a, PSs (X.inH a) (b0 :: suite) th) (I1 : Inv X pins σ H1 s1) (hx : CXE X.prog X.w X.base X.stack H1 s1 (xTryG X.K Dc j th D σ) er s2) (hdb : (c == ("__debug__" : Str)) = false) :
    wpAny (model X.prog X.w) X.A (noteFrame er X.env) (fun _ s3 => wpAny (model X.prog X.w) X.A (setFlight er none) (fun _ s4 => wpAny (model X.prog X.w) X.A (handleBy er X.env [.ExceptHandler (some (.Name c np)) (some n) (b0 :: suite) hp]) (SP X pins D) X.xe s4) X.xe s3) X.xe s2 := by
  obtain ⟨a, cls, od, H', rfl, os, bare, un, hok, fr, fly, C, rfl, sub, q⟩ := hx
  have hGs : ∀ b, Gd H' s1.heap b → ∃ o, s2.heap.get? b = some o := fun b g => by
    rcases g with g | ⟨o, g⟩
    · cases z : H' b with
      | none => exact absurd z g
      | some u => exact (hok b u z).here
    · exact un.there b o g (by simp)
  have H'a : H' a = none := by
    obtain ⟨_, _, _, _, _, _, _, _, _, _, _, _, _, _, _, nGa⟩ := id fly
    cases z : H' a with
    | none => rfl
    | some u => exact absurd (.inl (by rw [z]; simp)) nGa
  have fr2 : s2.heap.FunFrames X.base (X.env :: X.outer) := hst ▸ fr
  refine note_next (L := X.env.locals) (hst ▸ I1.ok.frames) fr2 hfr fly hGs fun h3 f3 c3 => ?_
  refine flight_none (s := { s2 with heap := h3 }) f3 fun h4 f4 c4 => ?_
  rw [← hst] at c3
  have I4 := I1.caughtG os bare un hok fr f4 (c3.trans (c4 _))
  obtain ⟨nm, qn, N, bs, bm, hdct, ab, sn, sub', col, dd, k0, k1, k2, k3, k5, newId, hC, _, hin⟩ := sub
  obtain ⟨nm2, qn2, N2, bs2, bm2, hdct2, ab2, sn2, sub2, col2, dd2, l0, l1, l2, l3, l5, newId2, hD, hB2, _⟩ := hDc
  refine wpAny_handleBy_cons (codeAny_handlers_test ?_) (by intro z; cases z)
  refine ld_glob (X := X.inH a) (I4.inH a) hg hm ?_ hdb
  obtain ⟨oe, us, _, _, _, g1, g2, _⟩ := id f4
  have kin := I4.kIn
  refine exc_matches (kin _ _ hC) (kin _ _ hD) g1 g2 hB2 hin ?_
  refine codeAny_handlers_suite_as ?_
  refine flight_none (s := { s2 with heap := h4 }) f4 fun h5 f5 c5 => ?_
  have I5 := I1.caughtG os bare un hok fr f5 ((c3.trans (c4 _)).trans (c5 _))
  refine store_ok (X := X.inH a) (v := .ref a) (i := j) (I5.inH a) hN hj (.inl hnl) rfl (fun s6 I6 => ?_) (.inr hnl)
  refine wpAny_mono (hsu a pins s6 _ _ (gone j D) I6 (q a H'a)) (fun fl s7 z => ?_) fun er s7 z => (hno _ _ z).elim
  cases fl with
  | next => obtain ⟨σ', H2, I7, q7⟩ := z; exact name_goes (I7.outH I1.ok) hN hj hnl fun s8 I8 => ⟨_, _, I8, q7⟩
  | brk => obtain ⟨σ', H2, I7, q7⟩ := z; exact name_goes (I7.outH I1.ok) hN hj hnl fun s8 I8 => ⟨_, _, I8, q7⟩
  | cont => obtain ⟨σ', H2, I7, q7⟩ := z; exact name_goes (I7.outH I1.ok) hN hj hnl fun s8 I8 => ⟨_, _, I8, q7⟩
  | ret u => obtain ⟨v, σ', H2, I7, r7, q7⟩ := z; exact name_goes (I7.outH I1.ok) hN hj hnl fun s8 I8 => ⟨v, _, _, I8, r7, q7⟩
theorem ps_tryEG (hst : X.stack = X.env :: X.outer) (hfr : X.env.frame = some X.env.locals) (hno : ∀ e s, ¬ X.xe e s) (hx : PX X (CXE X.prog X.w X.base) ex t) (hN : X.N.Nodup)
    (hg : Gl X c) (hm : X.mg c = some (.ref Dc)) (hDc : SubE X.K Dc Dc) (hj : X.N[j]? = some n) (hnl : X.env.scope.names.lookup n = some .local) (hsu : ∀ a, PSs (X.inH a) (b0 :: suite) th)
    (hdb : (c == ("__debug__" : Str)) = false := by decide) (hs : swapsWith ex none p2.line X.env = pure false := by rfl) :
    PS X (.Try [.Expr ex p2] [.ExceptHandler (some (.Name c np)) (some n) (b0 :: suite) hp] [] [] pos) (tTryEG X.K Dc j t th) := by
  intro pins s σ H D I h
  refine wpAny_Try_except ?_
  refine wpAny_execs_cons ?_
  refine wpAny_Expr_any ?_ I.quiet hs
  refine wpAny_mono (hx pins s σ H _ _ I h) (fun u s1 ⟨v, H1, I1, r, q⟩ => ?_) fun er s1 ⟨H1, s0, I1, z⟩ => caught_runG hst hfr hno hg hm hDc hN hj hnl hsu I1 z hdb
  refine (show wpAny (model X.prog X.w) X.A (execs [] X.env) _ _ _ from wpAny_execs_nil ?_)
  exact wpAny_execs_nil ⟨σ, H1, I1, q⟩
end
/-! ### isinstance of one without a dict -/
section
variable {K : PySem.W.Frag} {x C : Addr} {ox : Obj} {od : Option Obj}
theorem findObj_dataG {name : Str} {a g : Value} (hc : (PySem.W.clsIn K C).isSome = true) (ha : PySem.W.findIn K (.ref C) name = some (some a)) (hg : PySem.W.specialIn K a "__get__" = some (some g)) (ht : PySem.W.takesIn K a = some true) : PySem.W.findObj K C od name = some (.bind g a) := by
  obtain ⟨cd, hc⟩ := Option.isSome_iff_exists.mp hc
  unfold PySem.W.findObj
  rw [hc, Option.bind_some, ha, Option.bind_some]
  simp [hg, ht]
theorem eg_classG {prog : Program} {w : World} {A : Around} {E : Value → Shared → Prop} {s : Shared} {Q : Option Value → Shared → Prop} (g : ErrIs K C) (X : K.In s.heap) (I : PySem.W.InstAt s.heap x ox C od) (h : Q (some (.ref C)) { s with toks := s.toks + 1 }) :
    wpAny (model prog w) A (getAttr? (.ref x) "__class__") Q E s := by
  have hf : PySem.W.findObj K C od "__class__" = some (.bind (.builtin "getset_descriptor.__get__") (.builtin "object.__class__")) := findObj_dataG (by obtain ⟨cd, hc, _⟩ := PySem.W.any_some g.hd; rw [hc]; rfl) g.cl g.gs g.tk
  unfold getAttr? getAttrBy?
  refine wpAny_bind (wpAny_mkText (wpAny_bind (wpAny_attempt (eg_by (s := { s with toks := s.toks + 1 }) X I g.toErrGet ?_))))
  obtain ⟨hh, gg, d, t, os⟩ := s
  have L0 := I.type (M := model prog w)
  have L1 := PySem.W.looks_find (M := model prog w) X I hf
  unfold Builtin.«object.__getattribute__»
  refine wpAny_bind (wpAny_pure (wpAny_bind (wpAny_pure (wpAny_bind (L0.at (wpAny_bind (L1.at ?_)))))))
  refine (show wpAny _ _ (Builtin.ObjectAttr.bindTo (.builtin "getset_descriptor.__get__") (.builtin "object.__class__") (.ref x) (.ref C)) _ _ _ from ?_)
  unfold Builtin.ObjectAttr.bindTo
  refine (show wpAny _ _ (holding [.builtin "object.__class__"] (call (.builtin "getset_descriptor.__get__") [.builtin "object.__class__", .ref x, .ref C]) >>= ret) _ _ _ from wpAny_bind (wpAny_holding (wpAny_call (PySem.W.class_get (ox := ox) (od := od) X I g.ob ?_))))
  refine wpAny_pure ⟨.ref C, rfl, ?_⟩
  exact PySem.W.handed_on rfl (wpAny_pure h)
theorem kitx_errG (g : ErrIs K C) : PySem.W.KitX K (.ref x) (.ref C) (fun h => PySem.W.InstAt h x ox C od) := by
  obtain ⟨cdD, hc, _⟩ := PySem.W.any_some g.hd
  obtain ⟨c1, d1, sl1, ho⟩ : ∃ c1 d1 sl1, K.lookup C = some ⟨c1, d1, .cls cdD, sl1⟩ := by
    unfold PySem.W.clsIn at hc
    split at hc
    · rename_i c' d' cd' sl' hh
      cases hc
      exact ⟨_, _, _, hh⟩
    · cases hc
  refine ⟨fun M h _ I => I.type, fun M h X _ A' Q' E' s' k q => ?_, fun h tp dd its n sl X htp => ?_, fun {prog w A E Q s} X I k => eg_classG g X I k⟩
  · unfold isType loadHead
    exact wpAny_bind (wpAny_loadPart (k _ _ (X _ _ ho)) (wpAny_pure q))
  · refine Bool.eq_false_iff.mpr fun q => ?_
    obtain rfl : C = tp := Value.ref.inj (beq_iff_eq.mp q)
    have z := (X _ _ ho).symm.trans htp
    cases z
end
/-- an error that was caught, with a dict or without -/
def ErrTh (H : Hp) (a C : Addr) : Prop := H a = some (ErrP a C) ∨ ∃ d fs, H a = some (ErrO a C d) ∧ H d = some (.xd fs)
theorem ErrTh.same {H H' : Hp} {a C : Addr} (h : ErrTh H a C) (k : Same H H') : ErrTh H' a C := by
  rcases h with h | ⟨d, fs, h1, h2⟩
  · exact .inl (k _ _ h)
  · exact .inr ⟨d, fs, k _ _ h1, k _ _ h2⟩
section
variable {X : Cx} {pins : List (Addr × Obj)} {σ : St} {H : Hp} {s : Shared}
theorem err_instG {a C : Addr} (I : Inv X pins σ H s) (e : ErrTh H a C) : ∃ (ox : Obj) (od : Option Obj), PySem.W.InstAt s.heap a ox C od := by
  rcases e with e | ⟨d, fs, ea, ed⟩
  · obtain ⟨⟨oe, vs, g1, g2, g3, g4⟩, _⟩ := (show ObjOk X.prog X.w H s.heap a (ErrP a C) from I.hok a _ e)
    refine ⟨oe, none, g1, g2, ?_, ?_⟩
    · unfold PySem.W.notCls; rw [g4]
    · rw [g3]; trivial
  · obtain ⟨ox, od, mA, J, _⟩ := err_inst I ea ed
    exact ⟨ox, some od, J⟩
end
/-- the error classes of the text, NoOrder (or another one without an __init__) among them: what a caught one of it is -/
structure ErrsP (K : PySem.W.Frag) (mg : Str → Option Value) (C : Addr) (own : Str) (cs : List Str) : Prop where
  is : ErrIs K C
  gl : mg own = some (.ref C)
  kn : PySem.W.kitOne K (.ref C) (.ref C) = some true
  no : ∀ x ∈ cs, ∃ D, mg x = some (.ref D) ∧ PySem.W.kitOne K (.ref C) (.ref D) = some false
  lo : ∃ L, mg "LongError" = some (.ref L) ∧ PySem.W.kitOne K (.ref C) (.ref L) = some true ∧ SubE K C L ∧ SubE K L L
  me : SubE K C C
  vn : mg "ValueError" = none
  vv : PySem.W.kitOne K (.ref C) (.type "ValueError") = some true
section
variable {K : PySem.W.Frag} {h : Heap} {mg : Str → Option Value} {x : Str} {C cL N1 N2 D1 D2 D3 D4 D5 : Addr} {own x1 x2 x3 x4 x5 : Str}
variable {nm1 q1 : Str} {bs1 bm1 : List Value} {hdct1 ab1 : Bool} {sn1 : List Str} {sub1 : List Value} {col1 : Option Bool} {dd1 : Option Addr} {k01 k11 k21 k31 k51 : Option Value} {newId1 : String}
variable {nm2 q2 : Str} {bs2 bm2 : List Value} {hdct2 ab2 : Bool} {sn2 : List Str} {sub2 : List Value} {col2 : Option Bool} {dd2 : Option Addr} {k02 k12 k22 k32 k52 : Option Value} {newId2 : String}
theorem errNmP_mk (KX : K.In h) (G : h.Ns mainGlobals mg) (gl : PySem.W.nsIn K mainGlobals x = some (some (.ref C))) (hC : K.lookup C = some (excClassObj nm1 q1 C N1 bs1 bm1 hdct1 sn1 sub1 ab1 col1 dd1 k01 k11 k21 k31 k51 "ValueError.__new__"))
    (hB : bm1.contains (.type "BaseException") = true) (hT : PySem.W.tailIn K vErr bm1 = true) (hN : PySem.W.nsOkIn K N1 = true) (hI : PySem.W.nsIn K N1 "__init__" = some none) (hk : PySem.W.keepIn K (.ref C) = true) : ErrNmP K mg x C :=
  ⟨⟨⟨_, _, _, _, _, _, _, _, _, _, _, _, _, _, _, _, hC, hB, hT, hN, hI⟩, hk⟩, PySem.W.mg_of KX G gl⟩
theorem subE_mk (s1 : K.lookup C = some (excClassObj nm1 q1 C N1 bs1 bm1 hdct1 sn1 sub1 ab1 col1 dd1 k01 k11 k21 k31 k51 newId1)) (t1 : bm1.contains (.type "BaseException") = true) (u1 : (Value.ref C :: bm1).contains (.ref cL) = true) : SubE K C cL :=
  ⟨_, _, _, _, _, _, _, _, _, _, _, _, _, _, _, _, _, s1, t1, u1⟩
theorem errsP_mk (KX : K.In h) (G : h.Ns mainGlobals mg) (is : ErrIs K C) (gl : PySem.W.nsIn K mainGlobals own = some (some (.ref C))) (kn : PySem.W.kitOne K (.ref C) (.ref C) = some true)
    (n1 : PySem.W.nsIn K mainGlobals x1 = some (some (.ref D1))) (j1 : PySem.W.kitOne K (.ref C) (.ref D1) = some false) (n2 : PySem.W.nsIn K mainGlobals x2 = some (some (.ref D2))) (j2 : PySem.W.kitOne K (.ref C) (.ref D2) = some false)
    (n3 : PySem.W.nsIn K mainGlobals x3 = some (some (.ref D3))) (j3 : PySem.W.kitOne K (.ref C) (.ref D3) = some false) (n4 : PySem.W.nsIn K mainGlobals x4 = some (some (.ref D4))) (j4 : PySem.W.kitOne K (.ref C) (.ref D4) = some false)
    (n5 : PySem.W.nsIn K mainGlobals x5 = some (some (.ref D5))) (j5 : PySem.W.kitOne K (.ref C) (.ref D5) = some false)
    (nL : PySem.W.nsIn K mainGlobals "LongError" = some (some (.ref cL))) (kL : PySem.W.kitOne K (.ref C) (.ref cL) = some true) (nV : PySem.W.nsIn K mainGlobals "ValueError" = some none)
    (s1 : K.lookup C = some (excClassObj nm1 q1 C N1 bs1 bm1 hdct1 sn1 sub1 ab1 col1 dd1 k01 k11 k21 k31 k51 newId1)) (t1 : bm1.contains (.type "BaseException") = true) (u1 : (Value.ref C :: bm1).contains (.ref cL) = true) (u0 : (Value.ref C :: bm1).contains (.ref C) = true)
    (s2 : K.lookup cL = some (excClassObj nm2 q2 cL N2 bs2 bm2 hdct2 sn2 sub2 ab2 col2 dd2 k02 k12 k22 k32 k52 newId2)) (t2 : bm2.contains (.type "BaseException") = true) (u2 : (Value.ref cL :: bm2).contains (.ref cL) = true)
    (kV : PySem.W.kitOne K (.ref C) (.type "ValueError") = some true) : ErrsP K mg C own [x1, x2, x3, x4, x5] :=
  ⟨is, PySem.W.mg_of KX G gl, kn, fun y hy => by
    simp only [List.mem_cons, List.not_mem_nil, or_false] at hy
    rcases hy with rfl | rfl | rfl | rfl | rfl
    · exact ⟨_, PySem.W.mg_of KX G n1, j1⟩
    · exact ⟨_, PySem.W.mg_of KX G n2, j2⟩
    · exact ⟨_, PySem.W.mg_of KX G n3, j3⟩
    · exact ⟨_, PySem.W.mg_of KX G n4, j4⟩
    · exact ⟨_, PySem.W.mg_of KX G n5, j5⟩, ⟨_, PySem.W.mg_of KX G nL, kL, subE_mk s1 t1 u1, subE_mk s2 t2 u2⟩, subE_mk s1 t1 u0, PySem.W.mg_none_of KX G nV, kV⟩
end
/-- a def that makes a function and may be left by an error -/
theorem FunC.okE {P : Program} {w : World} {K : PySem.W.Frag} {mg : Str → Option Value} {base : Heap} {x qual : Str} {st : Stmt} {f : Addr} {fd : FuncData} {cc Pt : Addr} {N ps : List Str} {k : Nat} {sp : Sp} (F : FunC K x qual st f fd cc Pt) (S : FnScope N ps (defScope st)) (len : ∀ vs H Q E, sp vs H Q E → vs.length = ps.length)
    (hb : ∀ (A : Around) (outer : List Env) (s : Shared) (H : Hp) (vs : List V) (Q : VK) (E : XK), Room k (A.deeper (envOfC qual (defScope st) s.heap.objs.size f (.ref cc))) → sp vs H Q E →
      ∃ t, PSs (cxOf (CXE P w base) P w K mg base N qual (defScope st) f (.ref cc) A outer s H E) (defBody st) t ∧ t { nx := fun _ H' => Q .non H', rt := Q } (start N vs) H) : FnOk P w K mg base (CXE P w base) (k + 1) f fd ps sp := by
  obtain ⟨oc, od, kV, doc, pm, an, ct, osl, rfl, lk, hcd⟩ := F.ex
  exact fn_of lk hcd S len fun A outer s H vs Q E hr hsp => hb A outer s H vs Q E hr hsp
end L2

namespace L2
open PySem PySem.Spec PyProof.Rows
/-! ### an error that keeps a small number -/
theorem toString_len : ∀ k : Fin 1001, (Str.ofString (toString ((k.val : Nat) : Int))).length ≤ 10000 := by decide +kernel
theorem fmt_int {P : Program} {w : World} {i : Int} {u : Value} (r : RelV (.int i) u) (h0 : 0 ≤ i) (h1 : i ≤ 1000) : Fmt P w u := by
  obtain ⟨t, rfl⟩ := r
  intro A E s Q q
  obtain ⟨k, rfl⟩ := Int.eq_ofNat_of_zero_le h0
  refine wpAny_formatField_int ?_ (q _ _ _ (toString_len ⟨k, by omega⟩))
  have : ((k : Int)).natAbs.log2 ≤ ((k : Int)).natAbs := Nat.log2_le_self _
  omega
section
variable {X : Cx} {C : Addr} {fld x : Str} {E : XK} {e : Expr} {p cpos pos : Pos} {t : TA} {k : Nat}
end
/-! ### any text read -/
def spl (x : Str) : List Str := Txt.split x (Str.ofString " ")
def mvR (ss : List Str) (row : Str) : Option (Str × Int × List Str) := match spl row with
  | nm :: wt :: ims => if ims.length = ss.length ∧ nameB nm = true ∧ weightB wt = true ∧ ∀ i ∈ ims, i ∈ ss then some (nm, (PySem.intText? wt).getD 0, ims) else none
  | _ => none
/-- the rows of moves that are read -/
def Reads (ss rows : List Str) (ms : List (Str × Int × List Str)) : Prop := Paired (fun r m => mvR ss r = some m) rows ms ∧ (ms.map (·.1)).Nodup
end L2

namespace L2
open PySem PySem.Spec PyProof.Rows
/-! ### errors that are made and kept, not raised -/
/-- an error of a class without an __init__, its one text in the tuple at t -/
def ErrA (a C t : Addr) : HO := .ext fun h => ∃ (oe : Obj) (vs : Array Value), h.get? a = some oe ∧ oe.cls = .ref C ∧ oe.dict = none ∧ oe.data = .fields vs ∧ vs[0]? = some (.ref t)
/-- something that is an error of the class at C, made or caught -/
def ErrT (H : Hp) (a C : Addr) : Prop := H a = some (ErrP a C) ∨ (∃ d fs, H a = some (ErrO a C d) ∧ H d = some (.xd fs)) ∨ ∃ t, H a = some (ErrA a C t)
theorem ErrT.same {H H' : Hp} {a C : Addr} (h : ErrT H a C) (k : Same H H') : ErrT H' a C := by
  rcases h with h | ⟨d, fs, h1, h2⟩ | ⟨t, h⟩
  · exact .inl (k _ _ h)
  · exact .inr (.inl ⟨d, fs, k _ _ h1, k _ _ h2⟩)
  · exact .inr (.inr ⟨t, k _ _ h⟩)
theorem ErrTh.t {H : Hp} {a C : Addr} (h : ErrTh H a C) : ErrT H a C := by
  rcases h with h | ⟨d, fs, h1, h2⟩
  · exact .inl h
  · exact .inr (.inl ⟨d, fs, h1, h2⟩)
section
variable {X : Cx} {pins : List (Addr × Obj)} {σ : St} {H : Hp} {s : Shared}
/-- two new things that are tracked, nothing else changed -/
theorem Inv.new2 {a d : Addr} {ua ud : HO} {h' : Heap} {tk : Tok} (I : Inv X pins σ H s) (kp : ∀ b o, s.heap.get? b = some o → h'.get? b = some o) (fa : s.heap.get? a = none) (fd : s.heap.get? d = none)
    (na : H a = none) (nd : H d = none) (nad : a ≠ d) (nt : ∀ o u, ua ≠ .frz o u) (od : ObjOk X.prog X.w (upd (upd H d ud) a ua) h' d ud) (oa : ObjOk X.prog X.w (upd (upd H d ud) a ua) h' a ua) : Inv X pins σ (upd (upd H d ud) a ua) { s with heap := h', toks := tk } := by
  have ba : ∀ b o, s.heap.get? b = some o → b ≠ a := fun b o y z => by rw [z, fa] at y; cases y
  have bd : ∀ b o, s.heap.get? b = some o → b ≠ d := fun b o y z => by rw [z, fd] at y; cases y
  have ha : ∀ {b u}, H b = some u → b ≠ a := fun {b u} y z => by rw [z, na] at y; cases y
  have hd : ∀ {b u}, H b = some u → b ≠ d := fun {b u} y z => by rw [z, nd] at y; cases y
  have up : ∀ {b u}, H b = some u → (upd (upd H d ud) a ua) b = some u := fun {b u} y => by rw [upd_ne (ha y), upd_ne (hd y)]; exact y
  refine I.call' (s' := { s with heap := h', toks := tk }) (ch := []) rfl ⟨fun b o hb n nf nx => kp b o hb, fun b o hb n hf nx => ⟨o.slots, kp b o hb⟩, fun b o hb n nx => ?_, fun b o hb nx => ⟨o, kp b o hb⟩, fun b xs z => up z, fun b o u z => up z, fun b ps z => ⟨#[], by rw [Array.append_empty]; exact up z⟩⟩ (fun b o z => ?_) I.bare fun b z => absurd z (by simp)
  · rw [upd_ne (ba b o hb), upd_ne (bd b o hb)]; exact n
  · by_cases n1 : b = a
    · subst n1
      rw [upd_same] at z
      cases z
      exact oa
    · rw [upd_ne n1] at z
      by_cases n2 : b = d
      · subst n2
        rw [upd_same] at z
        cases z
        exact od
      · rw [upd_ne n2] at z
        exact (I.hok b o z).stay (fun c u _ hu => kp c u hu) (fun c y => up y) fun c xs y => up y
end
/-- a short text, or a small number -/
def FmtW (v : V) : Prop := FmtV v ∨ ∃ i, v = .int i ∧ 0 ≤ i ∧ i ≤ 1000
theorem fmt_ofW {P : Program} {w : World} {v : V} {u : Value} (r : RelV v u) (h : FmtW v) : Fmt P w u := by
  rcases h with h | ⟨i, rfl, h0, h1⟩
  · exact fmt_of r h
  · exact fmt_int r h0 h1
/-- C(e), C with an __init__ that keeps it -/
@[reducible] def tMkE (C : Addr) (fld : Str) (t : TA) : TE := fun σ H Q => t σ H fun vs H1 => ∃ v, vs = [v] ∧ FmtW v ∧ ∀ a d, H1 a = none → H1 d = none → a ≠ d → Q (.ref a) (upd (upd H1 d (.xd [(fld, v)])) a (ErrO a C d))
/-- C(e), C without an __init__ -/
@[reducible] def tMkP (C : Addr) (t : TA) : TE := fun σ H Q => t σ H fun vs H1 => ∃ v, vs = [v] ∧ ∀ a tt, H1 a = none → H1 tt = none → a ≠ tt → Q (.ref a) (upd (upd H1 tt (.tup [v])) a (ErrA a C tt))
section
variable {X : Cx} {C : Addr} {fld x : Str} {e : Expr} {p cpos : Pos} {t : TA} {k : Nat}
theorem Inv.noH {pins : List (Addr × Obj)} {σ : St} {H : Hp} {s : Shared} (I : Inv X pins σ H s) {b : Addr} (f : s.heap.get? b = none) : H b = none := by
  cases z : H b with
  | none => rfl
  | some u =>
    obtain ⟨o, y⟩ := (I.hok b u z).here
    rw [f] at y; cases y
theorem pe_mkE (M : ErrMk X.prog X.w X.K X.mg C fld) (hr : Room (k + 1) X.A) (hg : Gl X x) (hm : X.mg x = some (.ref C)) (hno : ∀ e s, ¬ X.xe e s) (ha : PA X [e] t) (hdb : (x == ("__debug__" : Str)) = false := by decide)
    (he : starEach [e] X.env = (false, eval e X.env) :: starEach [] X.env := by rfl) :
    PE X (.Call (.Name x p) [e] [] cpos) (tMkE C fld t) := by
  intro pins s σ H Q I h
  refine wpAny_Call_Name_kw (ld_glob I hg hm ?_ hdb)
  refine PySem.W.callWith_K (h₀ := X.base) I.ok.mod.kin M.kp (thn (ha cpos pins s σ H _ I h) fun us s1 ⟨vs, H1, I1, r, v, ev, fv, q1⟩ => ⟨I1.kIn, ?_⟩) he rfl
  subst ev
  obtain ⟨u, rv, rfl⟩ : ∃ u, RelV v u ∧ us = [u] := by
    cases r with
    | cons a b => cases b; exact ⟨_, a, rfl⟩
  obtain ⟨mb, nb, hb⟩ := I1.mod.blt
  refine wpAny_call (M.run X.A s1 u _ mb I1.kIn (I1.mod.glob.keeps I1.bk) (nb.keeps I1.bk) ((hb "super" (by decide)).trans (by decide +kernel)) I1.nolimit (by have := hr.dp; omega) (fmt_ofW rv fv) fun h' tk a1 e fe ea kp => ?_)
  obtain ⟨d, o, fd, nde, g1, g2, g3, g4⟩ := ea.ex
  have na := I1.noH fe
  have nd := I1.noH fd
  refine ⟨.ref e, _, I1.new2 (tk := tk) (a := e) (d := d) kp fe fd na nd (Ne.symm nde) (fun o u z => by cases z) ?_ ?_, rfl, q1 e d na nd (Ne.symm nde)⟩
  · refine ⟨_, g4, fun y => ?_⟩
    by_cases hy : y = fld
    · subst hy
      rw [List.lookup_cons, beq_self_eq_true, if_pos rfl]
      exact rv
    · rw [List.lookup_cons, beq_eq_false_iff_ne.mpr hy, if_neg hy]
      trivial
  · refine ⟨⟨_, _, g1, g2, rfl, g3⟩, ⟨_, g1⟩, fun h1 h2 p k => ?_⟩
    obtain ⟨o, us, b1, b2⟩ := p
    exact ⟨o, us, k _ b1, b2⟩
theorem pe_mkP (M : ErrMkP X.K C) (hg : Gl X x) (hm : X.mg x = some (.ref C)) (ha : PA X [e] t) (hdb : (x == ("__debug__" : Str)) = false := by decide)
    (he : starEach [e] X.env = (false, eval e X.env) :: starEach [] X.env := by rfl) :
    PE X (.Call (.Name x p) [e] [] cpos) (tMkP C t) := by
  intro pins s σ H Q I h
  obtain ⟨nm, q, N, bs, bm, hdct, ab, sn, sub, col, dd, k0, k1, k2, k3, k5, hC, hB, hT, hN, hI⟩ := M.ex
  refine wpAny_Call_Name_kw (ld_glob I hg hm ?_ hdb)
  refine PySem.W.callWith_K (h₀ := X.base) I.ok.mod.kin M.kp (thn (ha cpos pins s σ H _ I h) fun us s1 ⟨vs, H1, I1, r, v, ev, q1⟩ => ⟨I1.kIn, ?_⟩) he rfl
  subst ev
  obtain ⟨u, rv, rfl⟩ : ∃ u, RelV v u ∧ us = [u] := by
    cases r with
    | cons a b => cases b; exact ⟨_, a, rfl⟩
  have kin := I1.kIn
  obtain ⟨h, g, d, tk, os⟩ := s1
  refine wpAny_call_exc_subU F.excBase_ValueError (by decide) F.excBase_ValueError (PySem.W.tail_of_in kin hT) (kin _ _ hC) (.of_isNs (PySem.W.isNs_of_in kin hN)) (PySem.W.nsMap_none_of_in kin hN hI) (fun h' e' me => ?_)
  obtain ⟨t1, g1, g2, g3⟩ := me.there
  have na := I1.noH (b := e') me.new
  have nd := I1.noH (b := t1) g2
  have nat : e' ≠ t1 := by rintro rfl; rw [g3] at g1; cases g1
  refine ⟨.ref e', _, I1.new2 (tk := tk) (a := e') (d := t1) me.keeps me.new g2 na nd nat (fun o u z => by cases z) ?_ ?_, rfl, q1 e' t1 na nd nat⟩
  · exact ⟨by show 1 ≤ sizeLine; decide +kernel, [u], .cons rv .nil, _, g3, rfl, _, rfl, rfl⟩
  · refine ⟨⟨_, _, g1, rfl, rfl, rfl, rfl⟩, ⟨_, g1⟩, fun h1 h2 p k => ?_⟩
    obtain ⟨o, us, b1, b2⟩ := p
    exact ⟨o, us, k _ b1, b2⟩
end
section
variable {X : Cx} {pins : List (Addr × Obj)} {σ : St} {H : Hp} {s : Shared}
theorem err_instT {a C : Addr} (I : Inv X pins σ H s) (e : ErrT H a C) : ∃ (ox : Obj) (od : Option Obj), PySem.W.InstAt s.heap a ox C od := by
  rcases e with e | ⟨d, fs, ea, ed⟩ | ⟨t, e⟩
  · exact err_instG I (.inl e)
  · exact err_instG I (.inr ⟨d, fs, ea, ed⟩)
  · obtain ⟨⟨oe, vs, g1, g2, g3, g4, g5⟩, _⟩ := (show ObjOk X.prog X.w H s.heap a (ErrA a C t) from I.hok a _ e)
    refine ⟨oe, none, g1, g2, ?_, ?_⟩
    · unfold PySem.W.notCls; rw [g4]
    · rw [g3]; trivial
theorem call_isinstW (K : PySem.W.Frag) (h : X.K = K) : CallR X (.builtin "isinstance") (fun xs H Q => ∃ a C cv b, xs = [.ref a, .ref cv] ∧ ErrT H a C ∧ ErrIs K C ∧ PySem.W.kitOne K (.ref C) (.ref cv) = some b ∧ Q (.bl b) H) := by
  subst h
  intro pins s σ H xs us Q I r h
  obtain ⟨a, C, cv, b, rfl, ea, g, e, q⟩ := h
  obtain ⟨u1, u2, rfl, r1, r2⟩ : ∃ u1 u2, us = [u1, u2] ∧ RelV (.ref a) u1 ∧ RelV (.ref cv) u2 := by
    cases r with
    | cons r1 r => cases r with
      | cons r2 r => cases r; exact ⟨_, _, rfl, r1, r2⟩
  obtain rfl : u1 = Value.ref a := r1
  obtain rfl : u2 = Value.ref cv := r2
  obtain ⟨ox, od, J⟩ := err_instT I ea
  exact PySem.W.kia_one (kitx_errG g) I.kIn J e (fun z => nomatch z) fun tk => ⟨.bl b, H, I.tok tk, rfl, q⟩
theorem call_isinstBW (K : PySem.W.Frag) (h : X.K = K) : CallR X (.builtin "isinstance") (fun xs H Q => ∃ a C n b, xs = [.ref a, .ty n] ∧ ErrT H a C ∧ ErrIs K C ∧ PySem.W.kitOne K (.ref C) (.type n) = some b ∧ Q (.bl b) H) := by
  subst h
  intro pins s σ H xs us Q I r h
  obtain ⟨a, C, n, b, rfl, ea, g, e, q⟩ := h
  obtain ⟨u1, u2, rfl, r1, r2⟩ : ∃ u1 u2, us = [u1, u2] ∧ RelV (.ref a) u1 ∧ RelV (.ty n) u2 := by
    cases r with
    | cons r1 r => cases r with
      | cons r2 r => cases r; exact ⟨_, _, rfl, r1, r2⟩
  obtain rfl : u1 = Value.ref a := r1
  obtain rfl : u2 = Value.type n := r2
  obtain ⟨ox, od, J⟩ := err_instT I ea
  exact PySem.W.kia_one (kitx_errG g) I.kIn J e (fun z => nomatch z) fun tk => ⟨.bl b, H, I.tok tk, rfl, q⟩
end
/-! ### str(e) of an error that keeps one text -/
/-- what a class of errors must have for its text to be told -/
structure ErrStr (K : PySem.W.Frag) (C : Addr) : Prop where
  st : PySem.W.findIn K (.ref C) "__str__" = some (some (.builtin "BaseException.__str__"))
  ba : PySem.W.mroIn K C (.type "BaseException") = some true
theorem es_slot : Slot "ValueError" "__str__" "BaseException.__str__" := .of (owner := "BaseException") (n := "__str__") (by rw [typeLookup_type, builtinLookup_eq_fast]; kernel_rfl) (by decide +kernel) (by decide +kernel) (by decide +kernel) (.inl (by kernel_rfl)) (by rw [isSubtype_type]; kernel_rfl)
section
variable {prog : Program} {w : World} {A : Around} {E : Value → Shared → Prop} {s : Shared} {K : PySem.W.Frag} {x C t : Addr} {ox : Obj} {od : Option Obj} {vs : Array Value} {m : Str} {tk : Tok}
theorem es_check {Q : Unit → Shared → Prop} (X : K.In s.heap) (I : PySem.W.InstAt s.heap x ox C od) (g : ErrStr K C) (hq : Q () s) : wpAny (model prog w) A (checkBuiltinCall "BaseException.__str__" ⟨[.ref x], []⟩) Q E s := by
  have hk : builtinKind "BaseException.__str__" = some .slot := by decide +kernel
  have hsp : splitId "BaseException.__str__" = some ("BaseException", "__str__") := by decide +kernel
  have ha := F.args_bexc_str (.ref x)
  obtain ⟨h, gg, d, t, os⟩ := s
  have L0 := I.type (M := model prog w)
  have L1 := PySem.W.looks_mroIn (M := model prog w) X g.ba
  simp only [checkBuiltinCall, hk, hsp]
  refine wpAny_bind ?_
  unfold isInstance
  refine wpAny_bind (L0.at (L1.at ?_))
  repeat (first | exact hq | wp_step)
theorem es_args {M : Model} {Q : Value × List Value → Shared → Prop} (hx : s.heap.get? x = some ox) (hd : ox.data = .fields vs) (h0 : vs[0]? = some (.ref t)) (ht : s.heap.TupAt t [.str m tk]) (hq : Q (.ref t, [.str m tk]) s) :
    wpAny M A (Builtin.BaseException.bexcArgs (.ref x)) Q E s := by
  obtain ⟨ot, k, hto, _, htd⟩ := ht
  unfold Builtin.BaseException.bexcArgs
  refine wpAny_bind (wpAny_field hx hd h0 (wpAny_bind (wpAny_seqItems hto htd ?_)))
  exact wpAny_pure hq
theorem es_call {Q : Value → Shared → Prop} (X : K.In s.heap) (I : PySem.W.InstAt s.heap x ox C od) (g : ErrStr K C) (hd : ox.data = .fields vs) (h0 : vs[0]? = some (.ref t)) (ht : s.heap.TupAt t [.str m tk]) (hq : Q (.str m tk) s) :
    wpAny (model prog w) A (call (.builtin "BaseException.__str__") [.ref x]) Q E s := by
  refine wpAny_call (codeAny_call_builtin es_slot.plain F.entry_bexc_str (es_check X I g ?_))
  have hx := I.1
  unfold Builtin.«BaseException.__str__»
  repeat (first | with_reducible refine es_args hx hd h0 ht ?_ | wp_step)
  exact hq
theorem es_strOf (hu : A.units < cLine) {Q : Value → Shared → Prop} (X : K.In s.heap) (I : PySem.W.InstAt s.heap x ox C od) (g : ErrStr K C) (hd : ox.data = .fields vs) (h0 : vs[0]? = some (.ref t)) (ht : s.heap.TupAt t [.str m tk]) (hq : Q (.str m tk) s) :
    wpAny (model prog w) A (Builtin.Str.strOf (.ref x)) Q E s := by
  have L0 := I.type (M := model prog w)
  have L1 := PySem.W.looks_findIn (M := model prog w) X g.st
  have c : wpAny (model prog w) A (callSpecial? (.ref x) "__str__") (fun r s' => r = some (.str m tk) ∧ s' = s) E s := by
    unfold callSpecial? specialOf
    refine wpAny_bind (wpAny_bind (L0.here (L1.here ?_)))
    dsimp only
    refine wpAny_holding ?_
    refine (show wpAny _ _ (bindSpecial (.builtin "BaseException.__str__") (.ref x) >>= _) _ _ _ from wpAny_bind (wpAny_of_eq (es_slot.bind _) ?_))
    refine wpAny_bind (es_call X I g hd h0 ht ?_)
    exact wpAny_pure ⟨rfl, rfl⟩
  unfold Builtin.Str.strOf
  repeat (first | with_reducible refine wpAny_cRoomFor hu ?_ | (with_reducible refine wpAny_mono c (fun r s' z => ?_) fun _ _ z => z; obtain ⟨rfl, rfl⟩ := z) | wp_step)
  exact hq
theorem es_str (hu : A.units + 2 < cLine) {Q : Value → Shared → Prop} (X : K.In s.heap) (I : PySem.W.InstAt s.heap x ox C od) (g : ErrStr K C) (hd : ox.data = .fields vs) (h0 : vs[0]? = some (.ref t)) (ht : s.heap.TupAt t [.str m tk]) (hq : Q (.str m tk) s) :
    wpAny (model prog w) A (call (.type "str") [.ref x]) Q E s :=
  callType_new F.called_str (by decide) (F.typeCall_str_1 _) (F.newCall_str_1 _) (fun obj => F.args_object_init_2 obj _) F.entry_str_new
    (meets_str_new (S := fun A' R s' => A'.units + 1 < cLine ∧ K.In s'.heap ∧ PySem.W.InstAt s'.heap x ox C od ∧ s'.heap.TupAt t [.str m tk] ∧ R (.ok (.ret (.str m tk))) s')
      fun _ _ A' _ _ hq => es_strOf (A := A'.in1) hq.1 hq.2.1 hq.2.2.1 g hd h0 hq.2.2.2.1 hq.2.2.2.2)
    ⟨(show A.units + 1 + 1 < cLine from hu), X, I, ht, typeIs_str _ _ _, hq⟩
end
theorem call_strE {X : Cx} (K : PySem.W.Frag) (hK : X.K = K) (hu : X.A.units + 64 < cLine) : CallR X (.type "str") (fun xs H Q => ∃ (a C t : Addr) (x : Str), xs = [.ref a] ∧ H a = some (ErrA a C t) ∧ H t = some (.tup [.str x]) ∧ ErrStr K C ∧ Q (.str x) H) := by
  subst hK
  intro pins s σ H xs us Q I r h
  obtain ⟨a, C, t, x, rfl, ea, et, g, q⟩ := h
  obtain ⟨u, rfl, r1⟩ := vals1 r
  obtain rfl : u = Value.ref a := r1
  obtain ⟨⟨oe, vs, g1, g2, g3, g4, g5⟩, _⟩ := (show ObjOk X.prog X.w H s.heap a (ErrA a C t) from I.hok a _ ea)
  obtain ⟨_, its, rv, ⟨cls, dd, data, sl⟩, h1, h2, n, h3, h4⟩ := (show ObjOk X.prog X.w H s.heap t (.tup [.str x]) from I.hok t _ et)
  simp only at h2 h3 h4
  subst h2 h3 h4
  obtain ⟨u, rfl, tk, rfl⟩ := vals1 rv
  refine es_str (by omega) I.kIn (ox := oe) (C := C) (od := none) ⟨g1, g2, ?_, ?_⟩ g g4 g5 ⟨_, _, h1, rfl, rfl⟩ ⟨.str x, H, I, ⟨_, rfl⟩, q⟩
  · unfold PySem.W.notCls; rw [g4]
  · rw [g3]; trivial
end L2

namespace L2
open PySem PySem.W PySem.Calls PySem.Spec PyProof.Rows
/-! ### how many bits a script has -/
end L2

namespace L2
open PySem PySem.Spec PyProof.Rows
/-! ### shifts of great numbers -/
/-! ### the deck of the draws: so many at most have been drawn -/
structure SeedC (H : Hp) (d : Addr) (n : Nat) : Prop where
  ex : ∃ a b c : Int, H d = some (.lst [.int a, .int b, .int c]) ∧ 0 ≤ c ∧ c ≤ n
section
variable {H H' : Hp} {d p : Addr} {o : HO} {n : Nat}
theorem SeedC.same (D : SeedC H d n) (k : Same H H') : SeedC H' d n := by
  obtain ⟨a, b, c, h, r⟩ := D.ex
  exact ⟨a, b, c, k _ _ h, r⟩
theorem SeedC.new (D : SeedC H d n) (hp : H p = none) : SeedC (upd H p o) d n := D.same (Same.new (Same.refl H) hp)
theorem SeedC.put (D : SeedC H d n) (hd : p ≠ d) : SeedC (upd H p o) d n := by
  obtain ⟨a, b, c, h, r⟩ := D.ex
  exact ⟨a, b, c, (upd_ne (Ne.symm hd)).trans h, r⟩
theorem SeedC.ne_tup {xs : List V} (D : SeedC H d n) (h : H p = some (.tup xs)) : p ≠ d := by
  obtain ⟨a, b, c, hd, _⟩ := D.ex
  exact ne_of h hd (by intro z; cases z)
theorem SeedC.free (D : SeedC H d n) (h : H p = none) : p ≠ d := by
  obtain ⟨a, b, c, hd, _⟩ := D.ex
  exact (ne_of_none hd h).symm
theorem SeedC.keepT (k : Keep d H H') (D : SeedC H d n) : KeepT H H' := fun b xs h => k b _ h (D.ne_tup h)
theorem SeedC.tbl {ps : Array Value} (k : Keep d H H') (D : SeedC H d n) (h : H p = some (.tbl ps)) : H' p = some (.tbl ps) := k p _ h (by
  obtain ⟨a, b, c, hd, _⟩ := D.ex
  exact ne_of h hd (by intro z; cases z))
end
/-! ### a text so many times -/
/-! ### things popped at drawn places -/
/-! ### the names -/
/-- words that differ in one sign -/
structure Near (b pos : Nat) (ws : List Str) : Prop where
  nm : ∀ x ∈ ws, IsName x
  sg : ∀ (k : Nat) (x : Str), ws[k]? = some x → x.cps.toList[pos]? = some (97 + (b + k) % 26)
theorem Near.nodup {b pos : Nat} {ws : List Str} (h : Near b pos ws) (hl : ws.length ≤ 26) : ws.Nodup := by
  rw [List.nodup_iff_pairwise_ne, List.pairwise_iff_getElem]
  intro i j hi hj hij e
  have h1 := h.sg i _ (List.getElem?_eq_getElem hi)
  have h2 := h.sg j _ (List.getElem?_eq_getElem hj)
  rw [e, h2] at h1
  have h1 := Option.some.inj h1
  omega
theorem Near.snoc {b pos : Nat} {ws : List Str} {x : Str} (h : Near b pos ws) (nm : IsName x) (sg : x.cps.toList[pos]? = some (97 + (b + ws.length) % 26)) : Near b pos (ws ++ [x]) := by
  refine ⟨fun y hy => ?_, fun k y hk => ?_⟩
  · rcases List.mem_append.mp hy with z | z
    · exact h.nm y z
    · rw [List.mem_singleton.mp z]; exact nm
  · rcases Nat.lt_trichotomy k ws.length with z | z | z
    · rw [List.getElem?_append_left z] at hk
      exact h.sg k y hk
    · subst z
      rw [List.getElem?_append_right (Nat.le_refl _), Nat.sub_self] at hk
      cases hk
      exact sg
    · rw [List.getElem?_eq_none (by simp; omega)] at hk
      cases hk
end L2

namespace L2
open PySem PySem.Spec PyProof.Rows
theorem eqv_lnil (l : List PyData) : PyData.eqv (.list l) (.list []) = l.isEmpty := by
  rw [PyData.eqv.eq_7]
  exact eqvAll_nil l
def Nms (ps : List (Str × Str)) : Prop := ∀ q ∈ ps, IsName q.1 ∧ IsName q.2
theorem Nms.two {ps : List (Str × Str)} (h : Nms ps) : ∀ m ∈ ps.map twoP, ∀ x ∈ m, IsName x := fun m hm x hx => by
  obtain ⟨qq, hq, rfl⟩ := List.mem_map.mp hm
  unfold twoP at hx
  simp only [List.mem_cons, List.not_mem_nil, or_false] at hx
  rcases hx with rfl | rfl
  · exact (h _ hq).1
  · exact (h _ hq).2
end L2

namespace L2
open PySem PySem.Spec PyProof.Rows
end L2

namespace My
open PySem PySem.Spec PyProof.Rows L2
local macro_rules | `(tactic| walk_at "hp") => `(tactic| first
  | assumption
  | exact upd_same
  | ((refine Eq.trans (upd_ne ?_) ?_); (walk_at "ne"); (walk_at "hp"))
  | ((refine Keep.get (by assumption) ?_ ?_); (walk_at "hp"); (walk_at "ne"))
  | ((refine (by assumption : Same _ _) _ _ ?_); (walk_at "hp")))
local macro_rules | `(tactic| walk_at "ne") => `(tactic| first
  | assumption
  | exact Ne.symm (by assumption)
  | ((apply ne_of_none'); assumption; (walk_at "hp"))
  | ((apply Ne.symm); (apply ne_of_none'); assumption; (walk_at "hp")))
local macro_rules | `(tactic| walk_at "cl") => `(tactic| first
  | ((with_reducible refine (?_ : PySem.W.kitOne _ _ _ = some _)); assumption)
  | rfl
  | assumption
  | ((apply SqL.of); (walk_at "hp"))
  | ((apply SqT.of); (walk_at "hp"))
  | ((with_reducible apply Or.inl); (apply SqL.of); (walk_at "hp"))
  | ((with_reducible apply Or.inr); (apply SqT.of); (walk_at "hp"))
  | ((with_reducible apply Exists.intro); (apply SqL.of); (walk_at "hp"))
  | ((with_reducible apply Exists.intro); (apply SqT.of); (walk_at "hp"))
  | ((with_reducible apply Or.inl); (walk_at "hp"))
  | ((with_reducible apply Or.inr); (walk_at "hp"))
  | exact ⟨_, rfl⟩
  | exact TyOf.str _
  | exact TyOf.int _
  | exact TyOf.bl _
  | ((apply TyOf.tup); (walk_at "hp"))
  | ((apply TyOf.lst); (walk_at "hp"))
  | exact Nat.le_of_ble_eq_true rfl
  | decide
  | omega
  | ((show (0 : Int) < _); first | decide | omega)
  | ((apply cdivI); (first | decide | omega); (first | decide | omega))
  | ((apply cmulL); omega; omega)
  | ((apply cmulR); omega; omega)
  | exact cpowI
  | walk_at "hp")
local macro_rules | `(tactic| walk_at "rd") => `(tactic| repeat (first
  | (with_reducible apply Exists.intro)
  | ((with_reducible apply And.intro); (walk_at "cl"))))
section
variable {P : Program} {w : World} {K : PySem.W.Frag} {mg : Str → Option Value} {base : Heap}
abbrev s_law_deck : Stmt := PySem.Challenge.pw_walksago_k53_states_that_are_none.main.body.getD 19 (.Pass ⟨0, 0, 0, 0⟩)
theorem sc_law_deck : FnScope ["script", "cells", "seed", "k", "mixed"] ["script"] (defScope s_law_deck) := ⟨rfl, rfl, rfl, by decide +kernel, rfl, by decide +kernel, by decide +kernel⟩
def dkC (a C : Addr) (n : Nat) (H : Hp) : L2.St → Hp → Prop := fun σ H' => ∃ (sd : Int) (x y : Option V) (cs : List Int), σ = [some (.ref a), some (.ref C), some (.int sd), x, y] ∧ H' C = some (.lst (cs.map V.int)) ∧ cs.length = n ∧ Same H H'
def dkI (a C : Addr) (n : Nat) (H : Hp) : Nat → L2.St → Hp → Prop := fun _ σ H' => dkC a C n H σ H'
def dkM (a C : Addr) (sd k b : Int) (H : Hp) : L2.St → Hp → Prop := fun σ H' => ∃ m : Int, σ = [some (.ref a), some (.ref C), some (.int sd), some (.int k), some (.int m)] ∧ H = H' ∧ 0 ≤ m ∧ m < b
theorem ok_law_deck {f : Addr} {fd : FuncData} (F : Fun K "_law_deck" "_law_deck" s_law_deck f fd) (T : Bl mg) : FnOk P w K mg base CX0 1 f fd ["script"] (spDeckD K) := by
  refine F.ok sc_law_deck (fun vs H Q E h => ?_) (fun cdv A outer s H vs Q E hr h => ?_)
  · obtain ⟨a, ns, rfl, _⟩ := h
    rfl
  · obtain ⟨a, ns, rfl, hS, hl, q⟩ := h
    have nd := sc_law_deck.nd
    have hSL := sl_eq
    have hS' : SqL K H a (ns.map V.int) ∨ SqT K H a (ns.map V.int) := .inl hS
    have e0 : cutV (ns.map V.int) none (some 63) = ns.map V.int := by
      unfold cutV
      rw [HT.sIx_none, show (63 : Int) = ((63 : Nat) : Int) from rfl, HT.sIx_nat, List.drop_zero, Nat.sub_zero, List.length_map]
      rw [Nat.min_eq_right hl, ← List.length_map (f := V.int), List.take_length]
    refine ⟨_, (pss_cons (ps_set (i := 1) nd rfl (Or.inl rfl) (pe_op op_cat (pe_slice sl_list (pv 0) po_none (po_some pe_int)) (pe_lst (pa_c (pe_cB call_len_seq (by rfl) T.b_len (by decide +kernel) (pa_c (pv 0) pa_nil)) pa_nil))))
      (pss_cons (ps_set (i := 2) nd rfl (Or.inl rfl) (pe_op op_mod (pe_op op_add (pe_op op_add (pe_op op_mul (pe_cB (cr_sum rfl) (by rfl) T.b_sum (by decide +kernel) (pa_c (pe_slice sl_list (pv 0) po_none (po_some pe_int)) pa_nil)) pe_int) (pe_op op_mul pe_int (pe_cB call_len_seq (by rfl) T.b_len (by decide +kernel) (pa_c (pv 0) pa_nil)))) pe_int) pe_int))
      (pss_cut (ps_if (pt_cmpR op_eq (pe_op op_mod (pe_cB (cr_sum rfl) (by rfl) T.b_sum (by decide +kernel) (pa_c (pe_slice sl_list (pv 0) po_none (po_some pe_int)) pa_nil)) pe_int) pe_int (nomark _)) (pss_one (ps_forR (pi_range1 (by rfl) T.b_range (pa_c (pe_cB call_lenL (by rfl) T.b_len (by decide +kernel) (pa_c (pv 1) pa_nil)) pa_nil)) (pg_name (i := 3) nd rfl (Or.inl rfl))
          (pss_cut (ps_set (i := 4) nd rfl (Or.inl rfl) (pe_op op_mod (pe_op op_mul (pe_op op_add (pe_op op_add (pe_op op_mod (pe_ix ixL (pv 1) (pv 3) (fun _ _ => rfl)) pe_int) (pe_op op_mul pe_int (pv 3))) pe_int) pe_int) pe_int))
          (pss_cut (ps_set (i := 4) nd rfl (Or.inl rfl) (pe_op op_mod (pe_op op_mul (pe_op op_mod (pe_op op_add (pe_op op_mul (pv 4) (pv 4)) (pe_op op_mul pe_int (pv 3))) pe_int) pe_int) pe_int))
          (pss_one (ps_asg (pe_op op_add (pe_op op_mul (pe_op op_mul (pv 4) (pv 4)) pe_int) (pe_op op_mod (pe_op op_mul (pv 4) pe_int) pe_int)) (pg_sub (pv 1) (pv 3) set_list))))))) pss_nil)
      (pss_one (ps_ret (pe_lst (pa_c (pv 1) (pa_c pe_int (pa_c (pv 2) pa_nil))))))))), ?_⟩
    walk_at "rd"
    rw [e0]
    intro L1 hL1
    have sm1 := Same.new (o := .lst (ns.map V.int)) (Same.refl H) hL1
    have hS1 : SqL K (upd H L1 (.lst (ns.map V.int))) a (ns.map V.int) ∨ SqT K (upd H L1 (.lst (ns.map V.int))) a (ns.map V.int) := .inl (Same.seq sm1 hS)
    walk_at "rd"
    intro L2' hL2
    have nL1 : L1 ≠ L2' := ne_of_none upd_same hL2
    have hlen : (ns.map V.int).length + [V.int ((ns.map V.int).length : Nat)].length ≤ sizeLine := by
      rw [List.length_map]
      show _ + 1 ≤ _
      omega
    walk_at "rd"
    intro C hC
    have ec : ns.map V.int ++ [V.int ((ns.map V.int).length : Nat)] = (ns ++ [((ns.map V.int).length : Int)]).map V.int := by simp
    rw [ec]
    have sm3 := Same.new (o := .lst ((ns ++ [((ns.map V.int).length : Int)]).map V.int)) (Same.new (o := .lst [V.int ((ns.map V.int).length : Nat)]) sm1 hL2) hC
    have hC3 := upd_same (H := upd (upd H L1 (.lst (ns.map V.int))) L2' (.lst [V.int ((ns.map V.int).length : Nat)])) (a := C) (o := .lst ((ns ++ [((ns.map V.int).length : Int)]).map V.int))
    have hC0 : H C = none := Same.free (Same.new (o := .lst [V.int ((ns.map V.int).length : Nat)]) sm1 hL2) hC
    generalize upd (upd (upd H L1 (.lst (ns.map V.int))) L2' (.lst [V.int ((ns.map V.int).length : Nat)])) C (.lst ((ns ++ [((ns.map V.int).length : Int)]).map V.int)) = H3 at sm3 hC3 ⊢
    have hcl : (ns ++ [((ns.map V.int).length : Int)]).length = ns.length + 1 := by simp
    generalize ns ++ [((ns.map V.int).length : Int)] = cs at hC3 hcl ⊢
    have hS3 := Same.seq sm3 hS
    walk_at "rd"
    rw [e0]
    intro L4 hL4
    have sm4 := Same.new (o := .lst (ns.map V.int)) sm3 hL4
    have hC4 : upd H3 L4 (.lst (ns.map V.int)) C = some (.lst (cs.map V.int)) := by rw [upd_ne (ne_of_none hC3 hL4)]; exact hC3
    have hL4' := upd_same (H := H3) (a := L4) (o := .lst (ns.map V.int))
    generalize upd H3 L4 (.lst (ns.map V.int)) = H4 at sm4 hC4 hL4' ⊢
    have hS4 := Same.seq sm4 hS
    have hS4' : SqL K H4 a (ns.map V.int) ∨ SqT K H4 a (ns.map V.int) := .inl hS4
    walk_at "rd"
    refine cut_by (dkC a C (ns.length + 1) H) ?_ ?_
    · walk_at "rd"
      rw [e0]
      intro L5 hL5
      have sm5 := Same.new (o := .lst (ns.map V.int)) sm4 hL5
      have hC5 : upd H4 L5 (.lst (ns.map V.int)) C = some (.lst (cs.map V.int)) := by rw [upd_ne (ne_of_none hC4 hL5)]; exact hC4
      have hL5' := upd_same (H := H4) (a := L5) (o := .lst (ns.map V.int))
      generalize upd H4 L5 (.lst (ns.map V.int)) = H5 at sm5 hC5 hL5' ⊢
      walk_at "rd"
      refine iteD (fun e => ?_) (fun e => ⟨_, _, _, cs, rfl, hC5, hcl, sm5⟩)
      have hcm : (cs.map V.int).length = cs.length := List.length_map ..
      refine ⟨_, rfl, C, _, rfl, hC5, _, rfl, by omega, by omega, forR_range (dkI a C (ns.length + 1) H) ⟨_, _, _, cs, rfl, hC5, hcl, sm5⟩ ?_ ?_⟩
      · rintro i σ H6 hi ⟨sd, x, y, cs', rfl, g1, g2, sm⟩
        rw [Int.toNat_natCast] at hi
        have hm' : (cs'.map V.int).length = cs'.length := List.length_map ..
        obtain ⟨z, hz⟩ := atI_ints (ns := cs') (i := (0 : Int) + i) (by omega) (by omega)
        refine cut_by (dkM a C sd (0 + i) 2147483629 H6) ?_ ?_
        · walk_at "rd"
          exact ⟨_, rfl, rfl, Int.emod_nonneg _ (by omega), Int.emod_lt_of_pos _ (by omega)⟩
        rintro σ' H' ⟨m, rfl, rfl, m0, m1⟩
        refine cut_by (dkM a C sd (0 + i) 2147483549 H6) ?_ ?_
        · walk_at "rd"
          exact ⟨_, rfl, rfl, Int.emod_nonneg _ (by omega), Int.emod_lt_of_pos _ (by omega)⟩
        rintro σ' H' ⟨m, rfl, rfl, m0, m1⟩
        have i3 : ixN (cs'.map V.int).length ((0 : Int) + i) = some i := by
          rw [ixN_of (by omega) (by omega)]
          congr 1
          omega
        walk_at "rd"
        refine ⟨_, _, _, cs'.set i (m * m * 2147483543 + m * 48271 % 2147483579), rfl, ?_, by rw [List.length_set]; exact g2, Same.put sm hC0⟩
        rw [upd_same, List.map_set]
      · rintro σ H6 ⟨sd, x, y, cs', rfl, g1, g2, sm⟩
        exact ⟨_, _, _, cs', rfl, g1, g2, sm⟩
    · rintro σ H6 ⟨sd, x, y, cs', rfl, g1, g2, sm⟩
      walk_at "rd"
      intro d hd
      refine q d C _ (Same.free sm hd) hC0 (sm.new hd) ⟨⟨cs', 0, _, upd_same, by rw [upd_ne (ne_of_none g1 hd)]; exact g1, by omega, by omega⟩⟩
end
section
variable {P : Program} {w : World} {K : PySem.W.Frag} {mg : Str → Option Value} {base : Heap}
abbrev s_law_take : Stmt := PySem.Challenge.pw_walksago_k53_states_that_are_none.main.body.getD 20 (.Pass ⟨0, 0, 0, 0⟩)
theorem sc_law_take : FnScope ["deck", "many", "at", "cell", "one"] ["deck", "many"] (defScope s_law_take) := ⟨rfl, rfl, rfl, by decide +kernel, rfl, by decide +kernel, by decide +kernel⟩
def tkM (d : Addr) (m k z b : Int) (H : Hp) : L2.St → Hp → Prop := fun σ H' => ∃ o : Int, σ = [some (.ref d), some (.int m), some (.int k), some (.int z), some (.int o)] ∧ H = H' ∧ 0 ≤ o ∧ o < b
theorem ok_law_take {f : Addr} {fd : FuncData} (F : Fun K "_law_take" "_law_take" s_law_take f fd) (T : Bl mg) : FnOk P w K mg base CX0 1 f fd ["deck", "many"] spTake := by
  refine F.ok sc_law_take (fun vs H Q E h => ?_) (fun cdv A outer s H vs Q E hr h => ?_)
  · obtain ⟨d, a, m, rfl, _⟩ := h
    rfl
  · obtain ⟨d, a, m, rfl, m0, m1, D, q⟩ := h
    have nd := sc_law_take.nd
    obtain ⟨cs, i, sd, h1, h2, c0, c1⟩ := D.ex
    have nad : a ≠ d := D.nad
    have hcm : (cs.map V.int).length = cs.length := List.length_map ..
    have hpos : (0 : Int) < ((cs.map V.int).length : Int) := by omega
    obtain ⟨k, ek⟩ := Int.eq_ofNat_of_zero_le (Int.emod_nonneg i (Int.ne_of_gt hpos))
    have hk2 := Int.emod_lt_of_pos i hpos
    obtain ⟨z, hz⟩ := atI_ints (ns := cs) (i := i % ((cs.map V.int).length : Int)) (by omega) hk2
    have hix : ixN (cs.map V.int).length (i % ((cs.map V.int).length : Int)) = some k := by
      rw [ek, ixN_of (by omega) (by omega)]
      congr 1
    have md : ∀ z : Int, 0 ≤ z % m ∧ z % m < m := fun z => ⟨Int.emod_nonneg _ (by omega), Int.emod_lt_of_pos _ m0⟩
    refine ⟨_, (pss_cons (ps_set (i := 2) nd rfl (Or.inl rfl) (pe_op op_mod (pe_ix ixL (pv 0) pe_int (fun _ _ => rfl)) (pe_cB call_lenL (by rfl) T.b_len (by decide +kernel) (pa_c (pe_ix ixL (pv 0) pe_int (fun _ _ => rfl)) pa_nil))))
      (pss_cons (ps_asg (pe_op op_add (pe_ix ixL (pv 0) pe_int (fun _ _ => rfl)) pe_int) (pg_sub (pv 0) pe_int set_list))
      (pss_cons (ps_set (i := 3) nd rfl (Or.inl rfl) (pe_ix ixL (pe_ix ixL (pv 0) pe_int (fun _ _ => rfl)) (pv 2) (fun _ _ => rfl)))
      (pss_cons (ps_if (PW.pt (pw_or (pt_cmpR op_eq (pv 3) pe_int (nomark _)) (pw_or1 (pt_cmpR op_eq (pv 3) (pe_un un_neg pe_int) (nomark _))))) (pss_cut (ps_set (i := 4) nd rfl (Or.inl rfl) (pe_op op_mod (pe_op op_mul (pe_op op_mod (pe_op op_add (pe_ix ixL (pv 0) pe_int (fun _ _ => rfl)) (pe_op op_mul pe_int (pe_ix ixL (pv 0) pe_int (fun _ _ => rfl)))) pe_int) pe_int) pe_int))
        (pss_cut (ps_set (i := 4) nd rfl (Or.inl rfl) (pe_op op_mod (pe_op op_mul (pe_op op_mod (pe_op op_add (pe_op op_mul (pv 4) (pv 4)) (pe_op op_mul pe_int (pe_ix ixL (pv 0) pe_int (fun _ _ => rfl)))) pe_int) pe_int) pe_int))
        (pss_one (ps_ret (pe_op op_mod (pe_op op_fdiv (pv 4) pe_int) (pv 1)))))) pss_nil)
      (pss_cons (ps_asg (pe_op op_fdiv (pv 3) (pv 1)) (pg_sub (pe_ix ixL (pv 0) pe_int (fun _ _ => rfl)) (pv 2) set_list))
      (pss_one (ps_ret (pe_op op_mod (pv 3) (pv 1))))))))), ?_⟩
    walk_at "rd"
    have dk : ∀ (i' : Int) (cs' : List Int), cs'.length = cs.length → DeckD (upd (upd H d (.lst [.ref a, .int i', .int sd])) a (.lst (cs'.map V.int))) d a := fun i' cs' hl =>
      ⟨cs', i', sd, by rw [upd_ne (Ne.symm nad), upd_same], upd_same, by omega, by omega⟩
    have dk0 : ∀ i' : Int, DeckD (upd H d (.lst [.ref a, .int i', .int sd])) d a := fun i' => ⟨cs, i', sd, upd_same, by rw [upd_ne nad]; exact h2, by omega, by omega⟩
    have kp : ∀ (o o' : HO), KeepD d a H (upd (upd H d o) a o') := fun o o' b u hb n1 n2 => by rw [upd_ne n2, upd_ne n1]; exact hb
    have kp0 : ∀ o : HO, KeepD d a H (upd H d o) := fun o b u hb n1 n2 => by rw [upd_ne n1]; exact hb
    refine iteD (fun e => iteT ?_) (fun e => ?_)
    · refine cut_by (tkM d m (i % ((cs.map V.int).length : Int)) z 2147483629 (upd H d (.lst [.ref a, .int (i + 1), .int sd]))) ?_ ?_
      · walk_at "rd"
        exact ⟨_, rfl, rfl, Int.emod_nonneg _ (by omega), Int.emod_lt_of_pos _ (by omega)⟩
      rintro σ' H' ⟨o, rfl, rfl, o0, o1⟩
      refine cut_by (tkM d m (i % ((cs.map V.int).length : Int)) z 2147483549 (upd H d (.lst [.ref a, .int (i + 1), .int sd]))) ?_ ?_
      · walk_at "rd"
        exact ⟨_, rfl, rfl, Int.emod_nonneg _ (by omega), Int.emod_lt_of_pos _ (by omega)⟩
      rintro σ' H' ⟨o, rfl, rfl, o0, o1⟩
      walk_at "rd"
      exact q _ _ (md _).1 (md _).2 (kp0 _) (dk0 _)
    · walk_at "rd"
      refine iteD (fun e => ?_) (fun e => ?_)
      · refine cut_by (tkM d m (i % ((cs.map V.int).length : Int)) z 2147483629 (upd H d (.lst [.ref a, .int (i + 1), .int sd]))) ?_ ?_
        · walk_at "rd"
          exact ⟨_, rfl, rfl, Int.emod_nonneg _ (by omega), Int.emod_lt_of_pos _ (by omega)⟩
        rintro σ' H' ⟨o, rfl, rfl, o0, o1⟩
        refine cut_by (tkM d m (i % ((cs.map V.int).length : Int)) z 2147483549 (upd H d (.lst [.ref a, .int (i + 1), .int sd]))) ?_ ?_
        · walk_at "rd"
          exact ⟨_, rfl, rfl, Int.emod_nonneg _ (by omega), Int.emod_lt_of_pos _ (by omega)⟩
        rintro σ' H' ⟨o, rfl, rfl, o0, o1⟩
        walk_at "rd"
        exact q _ _ (md _).1 (md _).2 (kp0 _) (dk0 _)
      · walk_at "rd"
        rw [show (cs.map V.int).set k (V.int (z / m)) = (cs.set k (z / m)).map V.int by rw [List.map_set]]
        exact q _ _ (md _).1 (md _).2 (kp _ _) (dk _ _ (by rw [List.length_set]))
end
section
variable {P : Program} {w : World} {K : PySem.W.Frag} {mg : Str → Option Value} {base : Heap}
abbrev s_law_names : Stmt := PySem.Challenge.pw_walksago_k53_states_that_are_none.main.body.getD 21 (.Pass ⟨0, 0, 0, 0⟩)
theorem sc_law_names : FnScope ["deck", "many", "letters", "found", "left", "any_word", "ahead", "word", "turn", "k"] ["deck", "many"] (defScope s_law_names) := ⟨rfl, rfl, rfl, by decide +kernel, rfl, by decide +kernel, by decide +kernel⟩
def menuD : List Str := [Str.ofString "a", Str.ofString "b", Str.ofString "ab", Str.ofString "ba", Str.ofString "aa", Str.ofString "bb", Str.ofString "aab", Str.ofString "abb", Str.ofString "aba", Str.ofString "bab"]
theorem menuD_nd : menuD.Nodup := by decide +kernel
theorem menuD_ok : ∀ x ∈ menuD, IsName x := by
  have h : ∀ x ∈ menuD, (1 ≤ x.length ∧ x.length ≤ 8) ∧ ∀ c ∈ x.cps.toList, 97 ≤ c ∧ c ≤ 122 := by decide +kernel
  exact fun x hx => ⟨(h x hx).1.1, (h x hx).1.2, (h x hx).2⟩
theorem aOne : IsName (Str.ofString "a") := menuD_ok _ (by decide +kernel)
theorem candE (t : Nat) : (⟨#[97 + t]⟩ ++ ⟨#[97]⟩ : Str) = cand Str.empty t := by
  apply str_ext
  unfold cand
  rw [str_app, str_app _ (cutS _ _ _), str_app, show (cutS Str.empty none (some 4)).cps.toList = [] from rfl, List.append_nil]
theorem last_name {xs : List Str} (h : ∀ x ∈ xs, IsName x) : ∃ y, atI ([V.str (Str.ofString "a")] ++ xs.map V.str) (-1) = some (V.str y) ∧ IsName y := by
  have hl : ([V.str (Str.ofString "a")] ++ xs.map V.str).length = xs.length + 1 := by simp
  have e : ixN ([V.str (Str.ofString "a")] ++ xs.map V.str).length (-1) = some xs.length := by
    unfold ixN
    rw [if_neg (by omega), if_pos (by omega), hl]
    congr 1
    omega
  unfold atI
  rw [e]
  have e2 : [V.str (Str.ofString "a")] ++ xs.map V.str = (Str.ofString "a" :: xs).map V.str := rfl
  show ∃ y, ([V.str (Str.ofString "a")] ++ xs.map V.str)[xs.length]? = some (V.str y) ∧ IsName y
  rw [e2, List.getElem?_map]
  have hlt : xs.length < (Str.ofString "a" :: xs).length := by simp
  refine ⟨(Str.ofString "a" :: xs)[xs.length], by rw [List.getElem?_eq_getElem hlt]; rfl, ?_⟩
  have hm := List.getElem_mem hlt
  rcases List.mem_cons.mp hm with z | z
  · rw [z]; exact aOne
  · exact h _ z
/-- the frame's names -/
def fNd (d : Addr) (m : Int) (F : Addr) (aw ah wd tn : Option V) : L2.St := [some (.ref d), some (.int m), some (.str (Str.ofString "abcdefghijklmnopqrstuvwxyz")), some (.ref F), none, aw, ah, wd, tn, none]
def ouD (d a : Addr) (m : Int) (F : Addr) (H : Hp) : L2.St → Hp → Prop := fun σ H' => ∃ (xs : List Str) (aw ah wd tn : Option V), σ = fNd d m F aw ah wd tn ∧ H' F = some (.lst (xs.map V.str)) ∧ (xs.length : Int) ≤ m ∧ xs.Nodup ∧ (∀ x ∈ xs, IsName x) ∧ KeepD d a H H' ∧ DeckD H' d a
def muD (m : Int) (F : Addr) : L2.St → Hp → Nat := fun _ H => match H F with
  | some (.lst xs) => (m - xs.length).toNat
  | _ => 0
def inD (d : Addr) (m : Int) (F : Addr) (aw ah : Option V) (xs : List Str) (H1 : Hp) : L2.St → Hp → Prop := fun σ H =>
  ∃ (nm : Str) (t : Nat), σ = fNd d m F aw ah (some (.str nm)) (some (.int t)) ∧ H1 = H ∧ IsName nm ∧ t ≤ xs.length + 1 ∧ (∀ s, t = s + 1 → nm = cand Str.empty s) ∧ (∀ s, s + 1 < t → cand Str.empty s ∈ xs)
def muI : L2.St → Hp → Nat := fun (σ : List (Option V)) _ => match σ[8]? with
  | some (some (V.int t)) => (20 - t).toNat
  | _ => 0
theorem ok_law_names {f : Addr} {fd : FuncData} (F : Fun K "_law_names" "_law_names" s_law_names f fd) (T : Bl mg) (G_law_take : Fn P w K mg base "_law_take" 1 ["deck", "many"] spTake) : FnOk P w K mg base CX0 2 f fd ["deck", "many"] spNamesD := by
  refine F.ok sc_law_names (fun vs H Q E h => ?_) (fun cdv A outer s H vs Q E hr h => ?_)
  · obtain ⟨d, a, m, rfl, _⟩ := h
    rfl
  · obtain ⟨d, a, m, rfl, m0, m1, D, q⟩ := h
    have nd := sc_law_names.nd
    have hL := ltrs_len
    have hSL := sl_eq
    refine ⟨_, (Hd.out (hd_scons (Hd.mk (ps_set (i := 2) nd rfl (Or.inr rfl) pe_str))
      (hd_scons (Hd.mk (ps_set (i := 3) nd rfl (Or.inl rfl) (pe_lst pa_nil)))
      (hd_scons (hd_if (Hd.mk (pt_cmpR op_eq (pe_fn G_law_take (hr.mono (by decide)) (by rfl) (pa_c (pv 0) (pa_c pe_int pa_nil))) pe_int (nomark _))) (hd_scons (hd_set (i := 4) nd rfl (Or.inr rfl) (hd_lst (hd_acons (Hd.mk pe_str) (hd_acons (Hd.mk pe_str) (hd_acons (Hd.mk pe_str) (hd_acons (Hd.mk pe_str) (hd_acons (Hd.mk pe_str) (hd_acons (Hd.mk pe_str) (hd_acons (Hd.mk pe_str) (hd_acons (Hd.mk pe_str) (hd_acons (Hd.mk pe_str) (hd_acons (Hd.mk pe_str) hd_anil))))))))))))
        (hd_sone (Hd.mk (ps_ret (pe_lcR (own := [("k", 9)]) nd (pi_range1 (by rfl) T.b_range (pa_c (pv 1) pa_nil)) (blkOk_by (own := [("k", 9)]) (N := ["deck", "many", "letters", "found", "left", "any_word", "ahead", "word", "turn", "k"]) (sc := defScope s_law_names) (by decide +kernel)) (fun _ _ _ _ _ => (pg_name (i := 9) nd rfl (Or.inl rfl))) (fun _ _ _ _ _ => pts_nil) (fun _ _ _ _ _ => (pe_popAt (pv 4) (pe_fn G_law_take (hr.mono (by decide)) (by rfl) (pa_c (pv 0) (pa_c (pe_cB call_lenL (by rfl) T.b_len (by decide +kernel) (pa_c (pv 4) pa_nil)) pa_nil)))))))))) hd_snil)
      (hd_scons (Hd.mk (ps_whR (pt_cmpR op_lt (pe_cB call_lenL (by rfl) T.b_len (by decide +kernel) (pa_c (pv 3) pa_nil)) (pv 1) (nomark _))
        (pss_cons (ps_set (i := 5) nd rfl (Or.inl rfl) (pe_joinL pe_str (pe_lcR (own := [("k", 9)]) nd (pi_range1 (by rfl) T.b_range (pa_c (pe_op op_add pe_int (pe_fn G_law_take (hr.mono (by decide)) (by rfl) (pa_c (pv 0) (pa_c pe_int pa_nil)))) pa_nil)) (blkOk_by (own := [("k", 9)]) (N := ["deck", "many", "letters", "found", "left", "any_word", "ahead", "word", "turn", "k"]) (sc := defScope s_law_names) (by decide +kernel)) (fun _ _ _ _ _ => (pg_name (i := 9) nd rfl (Or.inl rfl))) (fun _ _ _ _ _ => pts_nil) (fun _ _ _ _ _ => (pe_ix ix_str (pv 2) (pe_fn G_law_take (hr.mono (by decide)) (by rfl) (pa_c (pv 0) (pa_c pe_int pa_nil))) (fun _ _ => rfl))))))
        (pss_cons (ps_set (i := 6) nd rfl (Or.inl rfl) (pe_op op_add_str (pe_ix ixL (pe_op op_cat (pe_lst (pa_c pe_str pa_nil)) (pv 3)) (pe_un un_neg pe_int) (fun _ _ => rfl)) (pe_ix ix_str (pv 2) (pe_fn G_law_take (hr.mono (by decide)) (by rfl) (pa_c (pv 0) (pa_c pe_int pa_nil))) (fun _ _ => rfl))))
        (pss_cons (ps_set (i := 7) nd rfl (Or.inl rfl) (pe_ix ixL (pe_lst (pa_c (pv 5) (pa_c (pe_slice sl_str (pv 6) po_none (po_some pe_int)) (pa_c (pe_ix ix_str (pv 2) (pe_fn G_law_take (hr.mono (by decide)) (by rfl) (pa_c (pv 0) (pa_c pe_int pa_nil))) (fun _ _ => rfl)) pa_nil)))) (pe_fn G_law_take (hr.mono (by decide)) (by rfl) (pa_c (pv 0) (pa_c pe_int pa_nil))) (fun _ _ => rfl)))
        (pss_cons (ps_set (i := 8) nd rfl (Or.inl rfl) pe_int)
        (pss_cons (ps_whR (pt_cmpR inL (pv 7) (pv 3) (by rfl))
          (pss_cons (ps_set (i := 7) nd rfl (Or.inl rfl) (pe_op op_add_str (pe_ix ix_str (pv 2) (pe_op op_mod (pv 8) pe_int) (fun _ _ => rfl)) (pe_ix ix_str (pv 2) (pe_op op_fdiv (pv 8) pe_int) (fun _ _ => rfl))))
          (pss_one (ps_set (i := 8) nd rfl (Or.inl rfl) (pe_op op_add (pv 8) pe_int)))))
        (pss_one (ps_expr (pe_append (pv 3) (pv 7)))))))))))
      (hd_sone (Hd.mk (ps_ret (pv 3))))))))), ?_⟩
    walk_at "rd"
    intro F hF
    have nFd := D.free1 hF
    have nFa := D.free2 hF
    walk_at "rd"
    refine ⟨d, a, 4, rfl, by decide, by decide, D.new hF, fun z H1 z0 z1 k1 D1 => ?_⟩
    have hF1 : H1 F = some (.lst []) := k1 _ _ upd_same nFd nFa
    have kp1 : KeepD d a H H1 := (KeepD.refl.new hF).trans k1
    walk_at "rd"
    refine iteD (fun e => ?_) (fun e => ?_)
    · walk_at "rd"
      intro M hM
      have nMd := D1.free1 hM
      have nMa := D1.free2 hM
      have hM0 : H M = none := kp1.free' D1 hM
      walk_at "rd"
      refine pops_rangeD (i := 9) (jf := 4) (jd := 0) (F := M) (xs := menuD.map V.str) (by decide) (by decide) rfl rfl upd_same (show m.toNat ≤ 10 by omega) (by decide) nMd nMa (D1.new hM) fun D4 ys zs H5 f1 f2 pm fl kp5 D5 => ?_
      have hY : ∀ y ∈ ys ++ zs, ∃ x, y = V.str x := fun y hy => by
        obtain ⟨x, _, e'⟩ := List.mem_map.mp (pm.mem_iff.mp hy)
        exact ⟨x, e'.symm⟩
      obtain ⟨us, eu⟩ := vs_strs (ys := ys) fun y hy => hY y (List.mem_append_left _ hy)
      obtain ⟨vs, ev⟩ := vs_strs (ys := zs) fun y hy => hY y (List.mem_append_right _ hy)
      subst eu ev
      obtain ⟨ws, ew, pw⟩ := perm_strs pm
      rw [← List.map_append] at ew
      have ew := strs_inj ew
      subst ew
      have hD4 : H D4 = none := by
        have t1 : H1 D4 = none := by
          cases t2 : H1 D4 with
          | none => rfl
          | some o =>
            have : upd H1 M (.lst (menuD.map V.str)) D4 = some o := by rw [upd_ne (ne_of_none t2 hM)]; exact t2
            have f1' : upd H1 M (.lst (menuD.map V.str)) D4 = none := f1
            rw [this] at f1'
            cases f1'
        exact kp1.free' D1 t1
      refine q D4 us H5 hD4 f2 ?_ ((pw.nodup_iff.mpr menuD_nd).sublist (List.sublist_append_left us vs)) (fun x hx => menuD_ok x (pw.mem_iff.mp (List.mem_append_left _ hx))) (fun b o hb n1 n2 => ?_) D5
      · rw [List.length_map] at fl
        omega
      · have e1 := kp1 b o hb n1 n2
        have nbM : b ≠ M := ne_of_none e1 hM
        exact kp5 b o (by rw [upd_ne nbM]; exact e1) n1 n2 nbM
    · walk_at "rd"
      refine whR_by (ouD d a m F H) (muD m F) ?_ ?_
      · exact ⟨[], none, none, none, none, rfl, hF1, by simp; omega, List.nodup_nil, fun x hx => by simp at hx, kp1, D1⟩
      · rintro σ H2 ⟨xs, aw, ah, wd, tn, rfl, g1, g2, g3, g4, kp, DK⟩
        have hml : (xs.map V.str).length = xs.length := List.length_map ..
        walk_at "rd"
        refine iteD (fun e2 => ?_) (fun e2 => ?_)
        · have hlt : (xs.length : Int) < m := by omega
          refine ⟨fun σ' H' => ouD d a m F H σ' H' ∧ muD m F σ' H' < muD m F (fNd d m F aw ah wd tn) H2, fun σ' H' ⟨p1, p2⟩ => ⟨_, p2, rfl, p1⟩, ?_⟩
          have hmu : muD m F (fNd d m F aw ah wd tn) H2 = (m - xs.length).toNat := by
            unfold muD
            rw [g1]
            show (m - ((xs.map V.str).length : Int)).toNat = _
            rw [hml]
          rw [hmu]
          walk_at "rd"
          refine ⟨d, a, 8, rfl, by decide, by decide, DK, fun z3 H3 z30 z31 k3 D3 => ?_⟩
          walk_at "rd"
          refine lc_signsD (i := 9) (by decide) (by decide) rfl rfl D3 (by omega) fun B ys H4 hB hB2 h3 h4 k4 D4 => ?_
          have hs2 : (ys.map (·.length)).sum + ys.length * (Str.ofString "").length ≤ 16777216 := by
            rw [sum_signs h4, emp_eq]
            show _ + ys.length * 0 ≤ _
            omega
          walk_at "rd"
          obtain ⟨nl, nw⟩ := join_signs h4
          generalize Txt.join (Str.ofString "") ys = w0 at nl nw ⊢
          have hw0 : IsName w0 := ⟨by omega, by omega, nw⟩
          have g6 : H4 F = some (.lst (xs.map V.str)) := k4 _ _ (k3 _ _ g1 nFd nFa) nFd nFa
          have kp6 : KeepD d a H H4 := (kp.trans k3).trans k4
          intro A1 hA1
          have nA1 : F ≠ A1 := ne_of_none g6 hA1
          have hlen : [V.str (Str.ofString "a")].length + (xs.map V.str).length ≤ sizeLine := by
            show 1 + _ ≤ _
            omega
          walk_at "rd"
          intro A2 hA2
          obtain ⟨ly, e5, hly⟩ := last_name g4
          have nA2 : F ≠ A2 := by
            refine ne_of_none (o := .lst (xs.map V.str)) ?_ hA2
            rw [upd_ne nA1]
            exact g6
          walk_at "rd"
          have D7 : DeckD (upd (upd H4 A1 (.lst [V.str (Str.ofString "a")])) A2 (.lst ([V.str (Str.ofString "a")] ++ xs.map V.str))) d a := (D4.new hA1).new hA2
          have kp7 : KeepD d a H (upd (upd H4 A1 (.lst [V.str (Str.ofString "a")])) A2 (.lst ([V.str (Str.ofString "a")] ++ xs.map V.str))) := (kp6.new hA1).new hA2
          have g7 : upd (upd H4 A1 (.lst [V.str (Str.ofString "a")])) A2 (.lst ([V.str (Str.ofString "a")] ++ xs.map V.str)) F = some (.lst (xs.map V.str)) := by rw [upd_ne nA2, upd_ne nA1]; exact g6
          generalize upd (upd H4 A1 (.lst [V.str (Str.ofString "a")])) A2 (.lst ([V.str (Str.ofString "a")] ++ xs.map V.str)) = H7 at D7 kp7 g7 ⊢
          refine ⟨d, a, 26, rfl, by decide, by decide, D7, fun z8 H8 z80 z81 k8 D8 => ?_⟩
          obtain ⟨c8, hc8, c81, c82, _⟩ := ltrs_at z80 z81
          have l8 : (⟨#[c8]⟩ : Str).length = 1 := rfl
          have hly1 := hly.1
          have hly2 := hly.2.1
          walk_at "rd"
          have lah := str_app_len ly ⟨#[c8]⟩
          have lowah : Low (ly ++ ⟨#[c8]⟩) := hly.2.2.app (sign_of c81 c82).low
          generalize (ly ++ ⟨#[c8]⟩ : Str) = ah8 at lah lowah ⊢
          have hcut := cutS_len ah8 none (some 8)
          rw [HT.sIx_none, sIx_pos (by decide)] at hcut
          have g8 : H8 F = some (.lst (xs.map V.str)) := k8 _ _ g7 nFd nFa
          have hah : ah8.length ≤ sizeLine := by omega
          walk_at "rd"
          refine ⟨d, a, 26, rfl, by decide, by decide, D8, fun z9 H9 z90 z91 k9 D9 => ?_⟩
          obtain ⟨c9, hc9, c91, c92, _⟩ := ltrs_at z90 z91
          walk_at "rd"
          intro A3 hA3
          have g9 : H9 F = some (.lst (xs.map V.str)) := k9 _ _ g8 nFd nFa
          walk_at "rd"
          refine ⟨d, a, 3, rfl, by decide, by decide, D9.new hA3, fun zA HA zA0 zA1 kA DA => ?_⟩
          have gA3 : HA A3 = some (.lst [V.str w0, V.str (cutS ah8 none (some 8)), V.str ⟨#[c9]⟩]) := kA _ _ upd_same (D9.free1 hA3) (D9.free2 hA3)
          have gA : HA F = some (.lst (xs.map V.str)) := kA _ _ (by rw [upd_ne (ne_of_none g9 hA3)]; exact g9) nFd nFa
          obtain ⟨wd2, e6, hwd2⟩ : ∃ y, atI [V.str w0, V.str (cutS ah8 none (some 8)), V.str ⟨#[c9]⟩] zA = some (V.str y) ∧ IsName y := by
            rcases (by omega : zA = 0 ∨ zA = 1 ∨ zA = 2) with r | r | r <;> subst r
            · exact ⟨w0, rfl, hw0⟩
            · exact ⟨_, rfl, by omega, by omega, cutS_low lowah⟩
            · exact ⟨_, rfl, by show 1 ≤ 1; omega, by show 1 ≤ 8; omega, (sign_of c91 c92).low⟩
          have kpA : KeepD d a H HA := ((kp7.trans k8).trans k9).trans ((KeepD.refl.new hA3).trans kA)
          have fl := flat_strs xs
          walk_at "rd"
          refine whR_by (inD d m F (some (.str w0)) (some (.str ah8)) xs HA) muI ?_ ?_
          · exact ⟨wd2, 0, rfl, rfl, hwd2, by omega, fun s e => by omega, fun s e => by omega⟩
          · rintro σ' H' ⟨nm3, t, rfl, rfl, hn3, ht, hc1, hc2⟩
            walk_at "rd"
            refine iteB (fun e => ?_) (fun e => ?_)
            · rw [inV_strs, decide_eq_true_iff] at e
              have ht2 : t ≤ xs.length := by
                cases t with
                | zero => exact Nat.zero_le _
                | succ u =>
                  refine cand_count (b := Str.empty) fun s hs => ?_
                  by_cases hs' : s = u
                  · subst hs'
                    rw [← hc1 s rfl]
                    exact e
                  · exact hc2 s (by omega)
              obtain ⟨c, hcc, c1, c2, c3⟩ := ltrs_at (z := (t : Int) % 26) (by omega) (by omega)
              obtain ⟨c', hcc', c1', c2', c3'⟩ := ltrs_at (z := (t : Int) / 26) (by omega) (by omega)
              have l3 : (⟨#[c]⟩ : Str).length = 1 := rfl
              have l3' : (⟨#[c']⟩ : Str).length = 1 := rfl
              have l4 := str_app_len ⟨#[c]⟩ ⟨#[c']⟩
              refine ⟨fun σ' H' => inD d m F (some (.str w0)) (some (.str ah8)) xs HA σ' H' ∧ muI σ' H' < muI (fNd d m F (some (.str w0)) (some (.str ah8)) (some (.str nm3)) (some (.int t))) HA, fun σ' H' ⟨p1, p2⟩ => ⟨_, p2, rfl, p1⟩, ?_⟩
              walk_at "rd"
              have hce : (⟨#[c]⟩ ++ ⟨#[c']⟩ : Str) = cand Str.empty t := by
                have e1 : c = 97 + t := by omega
                have e2 : c' = 97 := by omega
                rw [e1, e2]
                exact candE t
              rw [hce] at l4 ⊢
              refine ⟨⟨_, t + 1, rfl, rfl, ⟨by omega, by omega, ?_⟩, by omega, fun s es => by rw [show s = t by omega], fun s es => ?_⟩, ?_⟩
              · rw [← hce]
                exact (sign_of c1 c2).low.app (sign_of c1' c2').low
              · by_cases hs' : s + 1 = t
                · rw [← hc1 s hs'.symm]
                  exact e
                · exact hc2 s (by omega)
              · show (20 - ((t : Int) + 1)).toNat < (20 - (t : Int)).toNat
                omega
            · rw [inV_strs, decide_eq_false_iff_not] at e
              have hz : (xs.map V.str).length < sizeLine := by rw [List.length_map]; exact small (by omega)
              walk_at "rd"
              refine ⟨⟨xs ++ [nm3], _, _, _, _, rfl, ?_, by simp; omega, nd_snoc g3 e, ?_, KeepD.put kpA hF, DA.put nFd nFa⟩, ?_⟩
              · rw [upd_same, ← app_map]
              · intro x hx
                rcases List.mem_append.mp hx with z | z
                · exact g4 x z
                · rw [show x = nm3 by simpa using z]
                  exact hn3
              · unfold muD
                rw [upd_same]
                show (m - ((xs.map V.str ++ [V.str nm3]).length : Int)).toNat < _
                rw [List.length_append, hml]
                show (m - ((xs.length + 1 : Nat) : Int)).toNat < _
                omega
        · walk_at "rd"
          exact q F xs H2 hF g1 (by omega) g3 g4 kp DK
end
section
variable {P : Program} {w : World} {K : PySem.W.Frag} {mg : Str → Option Value} {base : Heap}
abbrev s_law_shuffled : Stmt := PySem.Challenge.pw_walksago_k53_states_that_are_none.main.body.getD 22 (.Pass ⟨0, 0, 0, 0⟩)
theorem sc_law_shuffled : FnScope ["deck", "things", "left", "k"] ["deck", "things"] (defScope s_law_shuffled) := ⟨rfl, rfl, rfl, by decide +kernel, rfl, by decide +kernel, by decide +kernel⟩
/-- things of any kind, of a list or of a tuple -/
def spShufG (K : PySem.W.Frag) : Sp := fun vs H Q _ => ∃ (d a t : Addr) (xs : List V), vs = [.ref d, .ref t] ∧ (SqL K H t xs ∨ SqT K H t xs) ∧ xs.length ≤ 1000 ∧ DeckD H d a ∧
  ∀ (l : Addr) (ys : List V) (H' : Hp), H l = none → H' l = some (.lst ys) → ys.Perm xs → KeepD d a H H' → DeckD H' d a → Q (.ref l) H'
theorem ok_law_shuffled {f : Addr} {fd : FuncData} (F : Fun K "_law_shuffled" "_law_shuffled" s_law_shuffled f fd) (T : Bl mg) (G_law_take : Fn P w K mg base "_law_take" 1 ["deck", "many"] spTake) : FnOk P w K mg base CX0 2 f fd ["deck", "things"] (spShufG K) := by
  refine F.ok sc_law_shuffled (fun vs H Q E h => ?_) (fun cdv A outer s H vs Q E hr h => ?_)
  · obtain ⟨d, a, t, xs, rfl, _⟩ := h
    rfl
  · obtain ⟨d, a, t, xs, rfl, hT, hl, D, q⟩ := h
    have nd := sc_law_shuffled.nd
    refine ⟨_, (pss_cons (ps_set (i := 2) nd rfl (Or.inr rfl) (pe_cT call_list_of (by rfl) T.b_list (by decide +kernel) (pa_c (pv 1) pa_nil)))
      (pss_one (ps_ret (pe_lcR (own := [("k", 3)]) nd (pi_range1 (by rfl) T.b_range (pa_c (pe_cB call_lenL (by rfl) T.b_len (by decide +kernel) (pa_c (pv 2) pa_nil)) pa_nil)) (blkOk_by (own := [("k", 3)]) (N := ["deck", "things", "left", "k"]) (sc := defScope s_law_shuffled) (by decide +kernel)) (fun _ _ _ _ _ => (pg_name (i := 3) nd rfl (Or.inl rfl))) (fun _ _ _ _ _ => pts_nil) (fun _ _ _ _ _ => (pe_popAt (pv 2) (pe_fn G_law_take (hr.mono (by decide)) (by rfl) (pa_c (pv 0) (pa_c (pe_cB call_lenL (by rfl) T.b_len (by decide +kernel) (pa_c (pv 2) pa_nil)) pa_nil))))))))), ?_⟩
    walk_at "rd"
    intro L hL
    refine ⟨_, rfl, L, _, rfl, upd_same, _, rfl, by omega, by omega, ?_⟩
    refine pops_rangeD (i := 3) (jf := 2) (jd := 0) (F := L) (xs := xs) (by decide) (by decide) rfl rfl upd_same (by omega) (by omega) (D.free1 hL) (D.free2 hL) (D.new hL) fun D4 ys zs H5 f1 f2 pm fl kp5 D5 => ?_
    have lz : zs = [] := by
      have := pm.length_eq
      rw [List.length_append] at this
      exact List.eq_nil_of_length_eq_zero (by omega)
    subst lz
    rw [List.append_nil] at pm
    refine q D4 ys H5 (Same.free (Same.new (Same.refl H) hL) f1) f2 pm (fun b o hb n1 n2 => ?_) D5
    have nb : b ≠ L := ne_of_none hb hL
    exact kp5 b o (by rw [upd_ne nb]; exact hb) n1 n2 nb
abbrev s_law_images : Stmt := PySem.Challenge.pw_walksago_k53_states_that_are_none.main.body.getD 23 (.Pass ⟨0, 0, 0, 0⟩)
theorem sc_law_images : FnScope ["deck", "many", "way", "found", "k"] ["deck", "many", "way"] (defScope s_law_images) := ⟨rfl, rfl, rfl, by decide +kernel, rfl, by decide +kernel, by decide +kernel⟩
def rgI (D : Addr) (m : Int) (d a : Addr) (H : Hp) : Nat → Hp → Prop := fun k H' => ∃ xs : List Int, H' D = some (.lst (xs.map V.int)) ∧ xs.length = k ∧ (∀ x ∈ xs, 0 ≤ x ∧ x < m) ∧ KeepD d a H H' ∧ DeckD H' d a
theorem rng_ok {m : Int} (h : 0 ≤ m) : ∀ x ∈ (List.range m.toNat).map (fun k : Nat => (k : Int)), 0 ≤ x ∧ x < m := fun x hx => by
  obtain ⟨k, hk, rfl⟩ := List.mem_map.mp hx
  have := List.mem_range.mp hk
  omega
def spImgW : Sp := fun vs H Q _ => ∃ (d a : Addr) (m way : Int), vs = [.ref d, .int m, .int way] ∧ 1 ≤ m ∧ m ≤ 8 ∧ DeckD H d a ∧
  ∀ (l : Addr) (xs : List Int) (H' : Hp), H l = none → H' l = some (.lst (xs.map V.int)) → (xs.length : Int) = m → (∀ x ∈ xs, 0 ≤ x ∧ x < m) → KeepD d a H H' → DeckD H' d a → Q (.ref l) H'
theorem ok_law_images {f : Addr} {fd : FuncData} (F : Fun K "_law_images" "_law_images" s_law_images f fd) (T : Bl mg) (T3 : Bl3 mg) (G_law_take : Fn P w K mg base "_law_take" 1 ["deck", "many"] spTake) (G_law_shuffled : Fn P w K mg base "_law_shuffled" 2 ["deck", "things"] (spShufG K)) : FnOk P w K mg base CX0 3 f fd ["deck", "many", "way"] spImgW := by
  refine F.ok sc_law_images (fun vs H Q E h => ?_) (fun cdv A outer s H vs Q E hr h => ?_)
  · obtain ⟨d, a, m, way, rfl, _⟩ := h
    rfl
  · obtain ⟨d, a, m, way, rfl, m0, m1, D1, q⟩ := h
    have k1 : KeepD d a H H := KeepD.refl
    have nd := sc_law_images.nd
    have hSL := sl_eq
    refine ⟨_, (pss_cons (ps_if (pt_cmpR op_eq (pv 2) pe_int (nomark _)) (pss_one (ps_ret (pe_fn G_law_shuffled (hr.mono (by decide)) (by rfl) (pa_c (pv 0) (pa_c (pe_listRng (by rfl) T.b_list (by rfl) T.b_range (pa_c (pv 1) pa_nil)) pa_nil))))) pss_nil)
      (pss_cons (ps_if (pt_cmpR op_eq (pv 2) pe_int (nomark _)) (pss_one (ps_ret (pe_op op_rep (pe_lst (pa_c (pe_fn G_law_take (hr.mono (by decide)) (by rfl) (pa_c (pv 0) (pa_c (pv 1) pa_nil))) pa_nil)) (pv 1)))) pss_nil)
      (pss_cons (ps_if (pt_cmpR op_eq (pv 2) pe_int (nomark _)) (pss_cons (ps_set (i := 3) nd rfl (Or.inl rfl) (pe_listRng (by rfl) T.b_list (by rfl) T.b_range (pa_c (pv 1) pa_nil)))
        (pss_cons (ps_asg (pe_fn G_law_take (hr.mono (by decide)) (by rfl) (pa_c (pv 0) (pa_c (pv 1) pa_nil))) (pg_sub (pv 3) (pe_fn G_law_take (hr.mono (by decide)) (by rfl) (pa_c (pv 0) (pa_c (pv 1) pa_nil))) set_list))
        (pss_one (ps_ret (pv 3))))) pss_nil)
      (pss_cons (ps_if (pt_cmpR op_eq (pv 2) pe_int (nomark _)) (pss_one (ps_ret (pe_lcR (own := [("k", 4)]) nd (pi_range1 (by rfl) T.b_range (pa_c (pv 1) pa_nil)) (blkOk_by (own := [("k", 4)]) (N := ["deck", "many", "way", "found", "k"]) (sc := defScope s_law_images) (by decide +kernel)) (fun _ _ _ _ _ => (pg_name (i := 4) nd rfl (Or.inl rfl))) (fun _ _ _ _ _ => pts_nil) (fun _ _ _ _ _ => (pe_cB (call_max2 rfl) (by rfl) T.b_max (by decide +kernel) (pa_c pe_int (pa_c (pe_op op_sub (pv 4) pe_int) pa_nil))))))) pss_nil)
      (pss_cons (ps_setLcR (i := 3) (own := [("k", 4)]) nd rfl rfl (sw_true rfl rfl rfl (by decide +kernel)) (pi_range1 (by rfl) T.b_range (pa_c (pv 1) pa_nil)) (blkOk_by (own := [("k", 4)]) (N := ["deck", "many", "way", "found", "k"]) (sc := defScope s_law_images) (by decide +kernel)) (fun _ _ _ _ _ => (pg_name (i := 4) nd rfl (Or.inl rfl))) (fun _ _ _ _ _ => pts_nil) (fun _ _ _ _ _ => (pe_fn G_law_take (hr.mono (by decide)) (by rfl) (pa_c (pv 0) (pa_c (pv 1) pa_nil)))))
      (pss_one (ps_ret (pe_ix ixL (pe_lst (pa_c (pv 3) (pa_c (pe_cB (call_sortedL) (by rfl) T3.b_sorted (by decide +kernel) (pa_c (pv 3) pa_nil)) pa_nil))) (pe_cT call_int1 (by rfl) T.b_int (by decide +kernel) (pa_c (pe_cmpR op_eq (pv 2) pe_int (nomark _)) pa_nil)) (fun _ _ => rfl))))))))), ?_⟩
    walk_at "rd"
    have fr : ∀ {p : Addr}, H p = none → H p = none := fun h => k1.free' D1 h
    have hrl : ((List.range m.toNat).map fun k : Nat => (k : Int)).length = m.toNat := by rw [List.length_map, List.length_range]
    walk_at "rd"
    refine iteD (fun e1 => ?_) (fun e1 => ?_)
    · walk_at "rd"
      intro L hL
      refine ⟨d, a, L, _, rfl, .inl (SqL.of upd_same), by rw [List.length_map]; omega, D1.new hL, fun l ys H2 f1 f2 pm k2 D2 => ?_⟩
      obtain ⟨xs, rfl, pu⟩ := perm_ints pm
      refine q l xs H2 (fr (Same.free (Same.new (Same.refl H) hL) f1)) f2 ?_ (fun x hx => rng_ok (by omega) x (pu.mem_iff.mp hx)) (k1.trans ((KeepD.refl.new hL).trans k2)) D2
      rw [pu.length_eq, hrl]
      omega
    · walk_at "rd"
      refine iteD (fun e2 => ?_) (fun e2 => ?_)
      · walk_at "rd"
        refine ⟨d, a, m, rfl, by omega, by omega, D1, fun z H2 z0 z1 k2 D2 => ?_⟩
        walk_at "rd"
        intro L hL
        walk_at "rd"
        refine ⟨by show 1 * m.toNat ≤ _; omega, fun R hR => ?_⟩
        have er : (List.replicate m.toNat [V.int z]).flatten = (List.replicate m.toNat z).map V.int := by
          rw [List.map_replicate]
          generalize m.toNat = n
          induction n with
          | zero => rfl
          | succ n ih => rw [List.replicate_succ, List.flatten_cons, ih, List.replicate_succ]; rfl
        rw [er]
        have hL2 : H2 L = none := hL
        have hR2 : H2 R = none := Same.free (Same.new (Same.refl H2) hL) hR
        refine q R (List.replicate m.toNat z) _ (fr (k2.free' D2 hR2)) upd_same (by rw [List.length_replicate]; omega) (fun x hx => ?_) (((k1.trans k2).new hL).new hR) ((D2.new hL).new hR)
        rw [List.eq_of_mem_replicate hx]
        exact ⟨z0, z1⟩
      · walk_at "rd"
        refine iteD (fun e3 => ?_) (fun e3 => ?_)
        · walk_at "rd"
          intro L hL
          walk_at "rd"
          refine ⟨d, a, m, rfl, by omega, by omega, D1.new hL, fun z H2 z0 z1 k2 D2 => ?_⟩
          walk_at "rd"
          refine ⟨d, a, m, rfl, by omega, by omega, D2, fun z' H3 z0' z1' k3 D3 => ?_⟩
          have hL3 : H3 L = some (.lst (((List.range m.toNat).map fun k : Nat => (k : Int)).map V.int)) := k3 _ _ (k2 _ _ upd_same (D1.free1 hL) (D1.free2 hL)) (D1.free1 hL) (D1.free2 hL)
          have hix : ixN (((List.range m.toNat).map fun k : Nat => (k : Int)).map V.int).length z' = some z'.toNat := by
            rw [List.length_map, hrl]
            exact ixN_of z0' (by omega)
          walk_at "rd"
          refine q L (((List.range m.toNat).map fun k : Nat => (k : Int)).set z'.toNat z) _ (fr hL) (by rw [upd_same, List.map_set]) ?_ (fun x hx => ?_) ?_ ?_
          · rw [List.length_set, hrl]
            omega
          · rcases List.mem_or_eq_of_mem_set hx with r | r
            · exact rng_ok (by omega) x r
            · rw [r]; exact ⟨z0, z1⟩
          · exact KeepD.put (k1.trans ((KeepD.refl.new hL).trans (k2.trans k3))) (fr hL)
          · exact D3.put (D1.free1 hL) (D1.free2 hL)
        · walk_at "rd"
          refine iteD (fun e4 => ?_) (fun e4 => ?_)
          · walk_at "rd"
            refine lcR_range fun L hL => ⟨rgI L m d a H, ⟨[], upd_same, rfl, fun x hx => by simp at hx, k1.new hL, D1.new hL⟩, ?_, ?_⟩
            · rintro i H2 hi ⟨xs, c1, c2, c3, c4, c5⟩
              have hlen : (xs.map V.int).length < sizeLine := by rw [List.length_map]; exact small (by omega)
              refine ⟨rfl, iteT ?_⟩
              walk_at "rd"
              refine ⟨xs ++ [_], by rw [upd_same, ← app_map], by simp [c2], fun x hx => ?_, KeepD.put c4 (fr hL), c5.put (D1.free1 hL) (D1.free2 hL)⟩
              rcases List.mem_append.mp hx with r | r
              · exact c3 x r
              · have r := List.mem_singleton.mp r
                rw [r]
                split <;> omega
            · rintro H2 ⟨xs, c1, c2, c3, c4, c5⟩
              exact q L xs H2 (fr hL) c1 (by omega) c3 c4 c5
          · walk_at "rd"
            refine lcR_range fun L hL => ⟨rgI L m d a H, ⟨[], upd_same, rfl, fun x hx => by simp at hx, k1.new hL, D1.new hL⟩, ?_, ?_⟩
            · rintro i H2 hi ⟨xs, c1, c2, c3, c4, c5⟩
              have hlen : (xs.map V.int).length < sizeLine := by rw [List.length_map]; exact small (by omega)
              refine ⟨rfl, iteT ?_⟩
              walk_at "rd"
              refine ⟨d, a, m, rfl, by omega, by omega, c5, fun z H3 z0 z1 k3 D3 => ?_⟩
              have hL3 := k3 _ _ c1 (D1.free1 hL) (D1.free2 hL)
              walk_at "rd"
              refine ⟨xs ++ [z], by rw [upd_same, ← app_map], by simp [c2], fun x hx => ?_, KeepD.put (c4.trans k3) (fr hL), D3.put (D1.free1 hL) (D1.free2 hL)⟩
              rcases List.mem_append.mp hx with r | r
              · exact c3 x r
              · rw [List.mem_singleton.mp r]; exact ⟨z0, z1⟩
            · rintro H2 ⟨xs, c1, c2, c3, c4, c5⟩
              walk_at "rd"
              have h64 : xs.length < 64 := by omega
              intro ns' S pm sr hS
              walk_at "rd"
              intro L3 hL3
              walk_at "rd"
              refine Or.inr ⟨_, rfl, ?_⟩
              have hS2 : upd H2 S (.lst (ns'.map V.int)) L = some (.lst (xs.map V.int)) := by rw [upd_ne (ne_of_none c1 hS)]; exact c1
              have kpE : KeepD d a H (upd (upd H2 S (.lst (ns'.map V.int))) L3 (.lst [V.ref L, V.ref S])) := (c4.new hS).new hL3
              have DE : DeckD (upd (upd H2 S (.lst (ns'.map V.int))) L3 (.lst [V.ref L, V.ref S])) d a := (c5.new hS).new hL3
              have hLE : upd (upd H2 S (.lst (ns'.map V.int))) L3 (.lst [V.ref L, V.ref S]) L = some (.lst (xs.map V.int)) := by rw [upd_ne (ne_of_none hS2 hL3)]; exact hS2
              have hSE : upd (upd H2 S (.lst (ns'.map V.int))) L3 (.lst [V.ref L, V.ref S]) S = some (.lst (ns'.map V.int)) := by rw [upd_ne (ne_of_none upd_same hL3)]; exact upd_same
              have hS0 : H S = none := c4.free' c5 hS
              by_cases e5 : V.int way = V.int 4
              · have ex : atI [V.ref L, V.ref S] (if decide (V.int way = V.int 4) = true then 1 else 0) = some (V.ref S) := by rw [decide_eq_true e5]; rfl
                walk_at "rd"
                exact q S ns' _ hS0 hSE (by rw [pm.length_eq]; omega) (fun x hx => c3 x (pm.mem_iff.mp hx)) kpE DE
              · have ex : atI [V.ref L, V.ref S] (if decide (V.int way = V.int 4) = true then 1 else 0) = some (V.ref L) := by rw [decide_eq_false e5]; rfl
                walk_at "rd"
                exact q L xs _ (fr hL) hLE (by omega) c3 kpE DE
end
section
variable {P : Program} {w : World} {K : PySem.W.Frag} {mg : Str → Option Value} {base : Heap}
abbrev s_law_web : Stmt := PySem.Challenge.pw_walksago_k53_states_that_are_none.main.body.getD 24 (.Pass ⟨0, 0, 0, 0⟩)
theorem sc_law_web : FnScope ["deck", "most", "moves", "states", "names", "alone", "found", "name", "way", "weight", "images", "place"] ["deck", "most", "moves"] (defScope s_law_web) := ⟨rfl, rfl, rfl, by decide +kernel, rfl, by decide +kernel, by decide +kernel⟩
def spWebW5 : Sp := fun vs H Q _ => ∃ (d a : Addr) (m c : Int), vs = [.ref d, .int m, .int c] ∧ 1 ≤ m ∧ m ≤ 8 ∧ 1 ≤ c ∧ c ≤ 8 ∧ DeckD H d a ∧
  ∀ (p : Addr) (W : Wb) (H' : Hp), WebAt H' p W → Good W → (W.states.length : Int) ≤ m → (W.moves.length : Int) ≤ c → KeepD d a H H' → DeckD H' d a → Q (.ref p) H'
def forWw (d a : Addr) (m c : Int) (S C : Addr) (al : Int) (M : Addr) (xs cs : List Str) (H6 : Hp) : Nat → L2.St → Hp → Prop := fun i σ' H' => ∃ (as : List Addr) (ms : List (Str × Int × List Str)) (nm wy wt im : Option V),
  σ' = [some (.ref d), some (.int m), some (.int c), some (.ref S), some (.ref C), some (.int al), some (.ref M), nm, wy, wt, im, none] ∧ H' C = some (.lst (cs.map V.str)) ∧ H' S = some (.lst (xs.map V.str)) ∧ H' M = some (.lst (as.map V.ref)) ∧ Paired (MoveAt H') as ms ∧ ms.length = i ∧ ms.map (·.1) = cs.take i ∧ (∀ m ∈ ms, GoodM xs m) ∧ KeepD d a H6 H' ∧ DeckD H' d a
def plkW (D : Addr) (xs : List Str) (H : Hp) : Nat → Hp → Prop := fun k H' => ∃ ys : List Str, H' D = some (.lst (ys.map V.str)) ∧ ys.length = k ∧ (∀ y ∈ ys, y ∈ xs) ∧ Same H H'
theorem at4 {x y z u i : Int} {R : Int → Prop} (h0 : 0 ≤ i) (h1 : i < 4) (hx : R x) (hy : R y) (hz : R z) (hu : R u) : ∃ v, atI [V.int x, V.int y, V.int z, V.int u] i = some (.int v) ∧ R v := by
  have : i = 0 ∨ i = 1 ∨ i = 2 ∨ i = 3 := by omega
  rcases this with rfl | rfl | rfl | rfl
  · exact ⟨x, rfl, hx⟩
  · exact ⟨y, rfl, hy⟩
  · exact ⟨z, rfl, hz⟩
  · exact ⟨u, rfl, hu⟩
theorem ok_law_web {f : Addr} {fd : FuncData} (F : Fun K "_law_web" "_law_web" s_law_web f fd) (T : Bl mg) (G_law_take : Fn P w K mg base "_law_take" 1 ["deck", "many"] spTake) (G_law_names : Fn P w K mg base "_law_names" 2 ["deck", "many"] spNamesD) (G_law_images : Fn P w K mg base "_law_images" 3 ["deck", "many", "way"] spImgW) : FnOk P w K mg base CX0 4 f fd ["deck", "most", "moves"] spWebW5 := by
  refine F.ok sc_law_web (fun vs H Q E h => ?_) (fun cdv A outer s H vs Q E hr h => ?_)
  · obtain ⟨d, a, m, c, rfl, _⟩ := h
    rfl
  · obtain ⟨d, a, m, c, rfl, m0, m1, c0, c1, D, q⟩ := h
    have nd := sc_law_web.nd
    have hSL := sl_eq
    refine ⟨_, (pss_cons (ps_set (i := 3) nd rfl (Or.inr rfl) (pe_fn G_law_names (hr.mono (by decide)) (by rfl) (pa_c (pv 0) (pa_c (pe_op op_add pe_int (pe_fn G_law_take (hr.mono (by decide)) (by rfl) (pa_c (pv 0) (pa_c (pv 1) pa_nil)))) pa_nil))))
      (pss_cons (ps_set (i := 4) nd rfl (Or.inl rfl) (pe_fn G_law_names (hr.mono (by decide)) (by rfl) (pa_c (pv 0) (pa_c (pe_op op_add pe_int (pe_fn G_law_take (hr.mono (by decide)) (by rfl) (pa_c (pv 0) (pa_c (pv 2) pa_nil)))) pa_nil))))
      (pss_cons (ps_set (i := 5) nd rfl (Or.inl rfl) (pe_fn G_law_take (hr.mono (by decide)) (by rfl) (pa_c (pv 0) (pa_c pe_int pa_nil))))
      (pss_cons (ps_set (i := 6) nd rfl (Or.inl rfl) (pe_lst pa_nil))
      (pss_cons (ps_forR (pi_list (pv 4)) (pg_name (i := 7) nd rfl (Or.inl rfl))
        (pss_cons (ps_set (i := 8) nd rfl (Or.inl rfl) (pe_ix ixL (pe_lst (pa_c (pe_fn G_law_take (hr.mono (by decide)) (by rfl) (pa_c (pv 0) (pa_c pe_int pa_nil))) (pa_c pe_int pa_nil))) (pe_cT call_int1 (by rfl) T.b_int (by decide +kernel) (pa_c (pe_cmpR op_eq (pv 5) pe_int (nomark _)) pa_nil)) (fun _ _ => rfl)))
        (pss_cons (ps_set (i := 9) nd rfl (Or.inl rfl) (pe_ix ixL (pe_lst (pa_c pe_int (pa_c (pe_op op_add pe_int (pe_fn G_law_take (hr.mono (by decide)) (by rfl) (pa_c (pv 0) (pa_c pe_int pa_nil)))) (pa_c (pe_op op_add pe_int (pe_fn G_law_take (hr.mono (by decide)) (by rfl) (pa_c (pv 0) (pa_c pe_int pa_nil)))) (pa_c pe_int pa_nil))))) (pe_fn G_law_take (hr.mono (by decide)) (by rfl) (pa_c (pv 0) (pa_c pe_int pa_nil))) (fun _ _ => rfl)))
        (pss_cons (ps_setLcR (i := 10) (own := [("place", 11)]) nd rfl rfl (sw_true rfl rfl rfl (by decide +kernel)) (pi_list (pe_fn G_law_images (hr.mono (by decide)) (by rfl) (pa_c (pv 0) (pa_c (pe_cB call_lenL (by rfl) T.b_len (by decide +kernel) (pa_c (pv 3) pa_nil)) (pa_c (pv 8) pa_nil))))) (blkOk_by (own := [("place", 11)]) (N := ["deck", "most", "moves", "states", "names", "alone", "found", "name", "way", "weight", "images", "place"]) (sc := defScope s_law_web) (by decide +kernel)) (fun _ _ _ _ _ => (pg_name (i := 11) nd rfl (Or.inl rfl))) (fun _ _ _ _ _ => pts_nil) (fun _ _ _ _ _ => (pe_ix ixL (pv 3) (pv 11) (fun _ _ => rfl))))
        (pss_one (ps_expr (pe_append (pv 6) (pe_tup (pa_c (pv 7) (pa_c (pv 9) (pa_c (pe_cT call_tupL (by rfl) T.b_tuple (by decide +kernel) (pa_c (pv 10) pa_nil)) pa_nil)))))))))))
      (pss_one (ps_ret (pe_tup (pa_c (pe_cT call_tupL (by rfl) T.b_tuple (by decide +kernel) (pa_c (pv 3) pa_nil)) (pa_c (pe_cT call_tupL (by rfl) T.b_tuple (by decide +kernel) (pa_c (pv 6) pa_nil)) pa_nil)))))))))), ?_⟩
    walk_at "rd"
    refine ⟨d, a, m, rfl, by omega, by omega, D, fun z1 H1 z10 z11 k1 D1 => ?_⟩
    walk_at "rd"
    refine ⟨d, a, _, rfl, by omega, by omega, D1, fun S xs H2 fS hS lS ndS nmS k2 D2 => ?_⟩
    have nSd : S ≠ d := D1.free1 fS
    have nSa : S ≠ a := D1.free2 fS
    walk_at "rd"
    refine ⟨d, a, c, rfl, by omega, by omega, D2, fun z2 H3 z20 z21 k3 D3 => ?_⟩
    walk_at "rd"
    refine ⟨d, a, _, rfl, by omega, by omega, D3, fun C cs H4 fC hC lC ndC nmC k4 D4 => ?_⟩
    have nCd : C ≠ d := D3.free1 fC
    have nCa : C ≠ a := D3.free2 fC
    walk_at "rd"
    refine ⟨d, a, 5, rfl, by omega, by omega, D4, fun al H5 al0 al1 k5 D5 => ?_⟩
    walk_at "rd"
    intro M hM
    have nMd : M ≠ d := D5.free1 hM
    have nMa : M ≠ a := D5.free2 hM
    have k05 := (((k1.trans k2).trans k3).trans k4).trans k5
    have fM : H M = none := k05.free' D5 hM
    have kM : Same H5 (upd H5 M (.lst [])) := Same.new (Same.refl H5) hM
    have eM : (upd H5 M (.lst [])) M = some (.lst []) := upd_same
    have D6 := D5.same kM
    have hS6 := kM _ _ (k5 _ _ (k4 _ _ (k3 _ _ hS nSd nSa) nSd nSa) nSd nSa)
    have hC6 := kM _ _ (k5 _ _ hC nCd nCa)
    have k06 := k05.trans kM.keepD
    have nMS : M ≠ S := by
      rintro rfl
      have := kM
      rw [(k5 _ _ (k4 _ _ (k3 _ _ hS nSd nSa) nSd nSa) nSd nSa)] at hM
      cases hM
    have nMC : M ≠ C := by
      rintro rfl
      rw [k5 _ _ hC nCd nCa] at hM
      cases hM
    generalize upd H5 M (.lst []) = H6 at kM eM D6 hS6 hC6 k06 ⊢
    walk_at "rd"
    refine forR_list (xs := cs.map V.str) (forWw d a m c S C al M xs cs H) ?_ ?_ ?_ ?_
    · exact ⟨[], [], none, none, none, none, rfl, hC6, hS6, eM, .nil, rfl, rfl, fun m hm => by simp at hm, k06, D6⟩
    · rintro i σ H' hi ⟨as, ms, nm, wy, wt, im, rfl, gC, _⟩
      exact gC
    · rintro i x σ H' hx ⟨as, ms, nm, wy, wt, im, rfl, gC, gS, g1, g2, g3, g4, g5, kp, DK⟩
      obtain ⟨nm, hnm, rfl⟩ := strs_getI hx
      have hi8 : i < cs.length := (List.getElem?_eq_some_iff.mp hnm).1
      walk_at "rd"
      refine ⟨d, a, 6, rfl, by omega, by omega, DK, fun wz Ha wz0 wz1 ka Da => ?_⟩
      walk_at "rd"
      intro L5 hL5
      obtain ⟨wy, ewy⟩ : ∃ wy : Int, atI [V.int wz, V.int 1] (if decide (V.int al = V.int 0) = true then 1 else 0) = some (.int wy) := by
        by_cases e : V.int al = V.int 0
        · rw [decide_eq_true e]; exact ⟨1, rfl⟩
        · rw [decide_eq_false e]; exact ⟨wz, rfl⟩
      walk_at "rd"
      refine Or.inr ⟨_, rfl, ?_⟩
      have kb : Same Ha (upd Ha L5 (.lst [.int wz, .int 1])) := Same.new (Same.refl Ha) hL5
      have eL5 : (upd Ha L5 (.lst [.int wz, .int 1])) L5 = some (.lst [.int wz, .int 1]) := upd_same
      have Db := Da.same kb
      generalize upd Ha L5 (.lst [.int wz, .int 1]) = Hb at kb eL5 Db ⊢
      walk_at "rd"
      refine ⟨d, a, 5, rfl, by omega, by omega, Db, fun u1 Hc u10 u11 kc Dc => ?_⟩
      walk_at "rd"
      refine ⟨d, a, 99, rfl, by omega, by omega, Dc, fun u2 Hd u20 u21 kd Dd => ?_⟩
      walk_at "rd"
      intro L6 hL6
      have ke : Same Hd (upd Hd L6 (.lst [.int 1, .int (1 + u1), .int (1 + u2), .int 99])) := Same.new (Same.refl Hd) hL6
      have eL6 : (upd Hd L6 (.lst [.int 1, .int (1 + u1), .int (1 + u2), .int 99])) L6 = some (.lst [.int 1, .int (1 + u1), .int (1 + u2), .int 99]) := upd_same
      have De := Dd.same ke
      have nL6d := Dd.free1 hL6
      have nL6a := Dd.free2 hL6
      generalize upd Hd L6 (.lst [.int 1, .int (1 + u1), .int (1 + u2), .int 99]) = He at ke eL6 De ⊢
      walk_at "rd"
      refine ⟨d, a, 4, rfl, by omega, by omega, De, fun u3 Hf u30 u31 kf Df => ?_⟩
      obtain ⟨wt, ewt, w0, w1⟩ := at4 (x := 1) (y := 1 + u1) (z := 1 + u2) (u := 99) (i := u3) (R := fun v => 1 ≤ v ∧ v ≤ 99) u30 u31 ⟨by omega, by omega⟩ ⟨by omega, by omega⟩ ⟨by omega, by omega⟩ ⟨by omega, by omega⟩
      have eL6f := kf _ _ eL6 nL6d nL6a
      have kHf : KeepD d a H' Hf := ((((ka.trans kb.keepD).trans kc).trans kd).trans ke.keepD).trans kf
      have gSf := kHf _ _ gS nSd nSa
      have hml : (xs.map V.str).length = xs.length := List.length_map ..
      walk_at "rd"
      rw [hml]
      refine ⟨d, a, _, wy, rfl, by omega, by omega, Df, fun I ps Hg fI hI lI bI kg Dg => ?_⟩
      have gSg := kg _ _ gSf nSd nSa
      have lps : ps.length ≤ 8 := by omega
      walk_at "rd"
      refine lcR_list (xs := ps.map V.int) fun B hB => ⟨plkW B xs Hg, ⟨[], upd_same, rfl, fun y hy => by simp at hy, Same.new (Same.refl Hg) hB⟩, ?_, ?_, ?_⟩
      · rintro k Hx hk ⟨ys, _, _, _, sm⟩
        exact sm _ _ hI
      · rintro k v Hx hv' ⟨ys, e1, e2, e3', sm⟩
        obtain ⟨y, hy, rfl⟩ : ∃ y, ps[k]? = some y ∧ v = .int y := by
          rw [List.getElem?_map] at hv'
          cases e : ps[k]? with
          | none => rw [e] at hv'; cases hv'
          | some y => rw [e] at hv'; exact ⟨y, rfl, (Option.some.inj hv').symm⟩
        have hy2 := bI y (List.mem_of_getElem? hy)
        have hk := (List.getElem?_eq_some_iff.mp hy).1
        obtain ⟨st, es1, es2⟩ := L2.strs_at (xs := xs) hy2.1 (by omega)
        have hSe := sm _ _ gSg
        have hyl : (ys.map V.str).length < sizeLine := by
          rw [List.length_map]
          omega
        refine ⟨rfl, iteT ?_⟩
        walk_at "rd"
        refine ⟨ys ++ [st], by rw [upd_same, app_map], by simp [e2], fun u hu => ?_, Same.put sm hB⟩
        rcases List.mem_append.mp hu with u' | u'
        · exact e3' u u'
        · rw [show u = st by simpa using u']
          exact es2
      · rintro Hi ⟨ys, e1, e2, e3', sm⟩
        rw [List.length_map] at e2
        have kHi : KeepD d a H' Hi := (kHf.trans kg).trans sm.keepD
        have gMi := kHi _ _ g1 nMd nMa
        have DI := Dg.same sm
        walk_at "rd"
        intro T1 hT1
        walk_at "rd"
        intro P1 hP1
        have hasz : (as.map V.ref).length < sizeLine := by
          rw [List.length_map, g2.length]
          omega
        have nM1 : M ≠ T1 := ne_of_none gMi hT1
        have nM2 : M ≠ P1 := ne_of_none (by rw [upd_ne nM1]; exact gMi) hP1
        have nTP : T1 ≠ P1 := fun z => by rw [← z, upd_same] at hP1; cases hP1
        walk_at "rd"
        have kT : KeepT H' (upd (upd (upd Hi T1 (.tup (ys.map V.str))) P1 (.tup [.str nm, .int wt, .ref T1])) M (.lst (as.map V.ref ++ [V.ref P1]))) := fun b zs hb => by
          have t1 := kHi b _ hb (DK.tup1 hb) (DK.tup2 hb)
          rw [upd_ne (ne_of t1 gMi (by intro z; cases z)), upd_ne (ne_of_none (by rw [upd_ne (ne_of_none t1 hT1)]; exact t1) hP1), upd_ne (ne_of_none t1 hT1)]
          exact t1
        have old : ∀ b o, Hi b = some o → b ≠ M → (upd (upd (upd Hi T1 (.tup (ys.map V.str))) P1 (.tup [.str nm, .int wt, .ref T1])) M (.lst (as.map V.ref ++ [V.ref P1]))) b = some o := fun b o hb nb => by
          rw [upd_ne nb, upd_ne (ne_of_none (by rw [upd_ne (ne_of_none hb hT1)]; exact hb) hP1), upd_ne (ne_of_none hb hT1)]
          exact hb
        refine ⟨as ++ [P1], ms ++ [(nm, wt, ys)], _, _, _, _, rfl, old _ _ (kHi _ _ gC nCd nCa) (Ne.symm nMC), old _ _ (kHi _ _ gS nSd nSa) (Ne.symm nMS), by rw [upd_same, app_map], paired_snoc (Paired.mapP g2 fun _ _ z => z.mono kT) ⟨T1, ?_, ?_⟩, by simp [g3], ?_, ?_, ?_, ?_⟩
        · rw [upd_ne (Ne.symm nM2), upd_same]
        · rw [upd_ne (Ne.symm nM1), upd_ne nTP, upd_same]
        · rw [List.map_append, g4, take_snoc hnm]
          rfl
        · intro m' hm
          rcases List.mem_append.mp hm with h | h
          · exact g5 m' h
          · rw [show m' = (nm, wt, ys) by simpa using h]
            refine ⟨nmC nm (List.mem_of_getElem? hnm), w0, w1, ?_, e3'⟩
            show ys.length = xs.length
            omega
        · exact KeepD.put (((kp.trans kHi).new hT1).new hP1) fM
        · exact ((DI.new hT1).new hP1).put nMd nMa
    · rintro σ H' ⟨as, ms, nm, wy, wt, im, rfl, gC, gS, g1, g2, g3, g4, g5, kp, DK⟩
      walk_at "rd"
      intro p1 hp1
      walk_at "rd"
      intro p2 hp2
      walk_at "rd"
      intro p3 hp3
      have hlen : (cs.map V.str).length = cs.length := List.length_map ..
      refine q p3 ⟨xs, ms⟩ _ ⟨p1, p2, as, upd_same, by walk_at "hp", by walk_at "hp", ?_⟩ ⟨?_, ?_, ndS, nmS, ?_, ?_, ?_, fun v hm => g5 v hm⟩ (by show (xs.length : Int) ≤ m; omega) (by show (ms.length : Int) ≤ c; omega) ?_ (((DK.new hp1).new hp2).new hp3)
      · exact Paired.mapP g2 fun _ _ z => z.mono (Same.keepT (Same.new (Same.new (Same.new (Same.refl H') hp1) hp2) hp3))
      · show 1 ≤ xs.length
        omega
      · show xs.length ≤ 8
        omega
      · show 1 ≤ ms.length
        omega
      · show ms.length ≤ 8
        omega
      · show (ms.map (·.1)).Nodup
        rw [g4, hlen, List.take_length]
        exact ndC
      · exact ((kp.new hp1).new hp2).new hp3
end
section
variable {P : Program} {w : World} {K : PySem.W.Frag} {mg : Str → Option Value} {base : Heap}
abbrev ssteps_from : Stmt := PySem.Challenge.pw_walksago_k53_states_that_are_none.main.body.getD 10 (.Pass ⟨0, 0, 0, 0⟩)
theorem scsteps_from : FnScope ["first", "leads", "steps", "waiting", "one"] ["first", "leads"] (defScope ssteps_from) := ⟨rfl, rfl, rfl, by decide +kernel, rfl, by decide +kernel, by decide +kernel⟩
theorem ok_steps_from {f : Addr} {fd : FuncData} (F : Fun K "steps_from" "steps_from" ssteps_from f fd) : FnOk P w K mg base CX0 6 f fd ["first", "leads"] (spStepsT P w K mg 4 base) := by
  refine F.ok scsteps_from (fun vs H Q E h => ?_) (fun cdv A outer s H vs Q E hr h => ?_)
  · obtain ⟨a0, k0, g, spl, nx, U, m, rfl, _⟩ := h
    rfl
  · obtain ⟨a0, k0, g, spl, nx, U, m, rfl, h0, hF, hU, cU, mU, z1, z2, hsp, q⟩ := h
    have nd := scsteps_from.nd
    have hu := Nat.lt_of_le_of_lt (Nat.add_le_add_left (by decide : 1 ≤ 64) _) hr.units
    refine ⟨_, (pss_cons (ps_set (i := 2) nd rfl (Or.inl rfl) pe_dnewT)
      (pss_cons (ps_set (i := 3) nd rfl (Or.inl rfl) (pe_lst (pa_c (pv 0) pa_nil)))
      (pss_cons (ps_whR (pt_lst (pv 3))
        (pss_cons (ps_set (i := 4) nd rfl (Or.inl rfl) (pe_pop0 (pv 3)))
        (pss_one (ps_if (pt_cmp (pc_dnotin hu (pv 4) (pv 2)) (by rfl)) (pss_cons (ps_dput hu (pv 2) (pv 4) (pe_callL (G := FnIn P w K mg base 4) (fun _ _ h => h) (hr.mono (by decide)) (pv 1) (pa_c (pv 4) pa_nil) (star_plain rfl)) (by rfl))
          (pss_one (ps_expr (pe_extend (pv 3) (pe_dget hu (pv 2) (pv 4) (fun _ _ => rfl)))))) pss_nil))))
      (pss_one (ps_ret (pv 2)))))), ?_⟩
    walk_at "rd"
    intro d hd
    walk_at "rd"
    intro wl hw
    walk_at "rd"
    have s0 : Same H (upd (upd H d (.dT [])) wl (.lst [.ref a0])) := ((Same.refl _).new hd).new hw
    refine ⟨stTW U m nx k0 a0 H g, ⟨_, d, wl, [], [a0], [k0], _, rfl, ⟨by rw [upd_ne (by walk_at "ne")]; exact upd_same, upd_same, .cons (s0 _ _ h0) .nil, hd, (Same.new (Same.refl _) hd).free hw, s0, [], rfl, StQ.init hU⟩⟩, ?_⟩
    rintro n σ H' ⟨d, wl, kvs, as, ws, o, rfl, I⟩
    have Ihd := I.hd
    have Ihw := I.hw
    have Ine : d ≠ wl := fun z => by rw [z, Ihw] at Ihd; cases Ihd
    obtain ⟨ks, ek, Q0⟩ := I.q
    walk_at "rd"
    rcases snoc_cases as with rfl | ⟨as, a, rfl⟩
    · rw [if_neg (by simp)]
      have ta := I.ta
      cases ta
      walk_at "rd"
      exact q _ _ ks _ I.nd0 I.same Ihd ek Q0.nodup Q0.fin Q0.sub
    · rw [if_pos (by simp)]
      obtain ⟨ws, k, rfl, ta, hk⟩ : ∃ ws' k, ws = ws' ++ [k] ∧ TupsAt H' as ws' ∧ H' a = some (.tup (k.map V.int)) := tups_snoc I.ta
      refine ⟨fun σ' H2 => ∃ n', n' < n ∧ stTW U m nx k0 a0 H g n' σ' H2, fun σ' H2 z => z, ?_⟩
      refine ⟨_, rfl, wl, _, .ref a, rfl, Ihw, by simp, ?_⟩
      have e1 : (List.map V.ref (as ++ [a])).dropLast = as.map V.ref := by simp
      rw [e1]
      have hd1 : (upd H' wl (.lst (as.map V.ref))) d = some (.dT kvs) := by rw [upd_ne Ine]; exact Ihd
      have hw1 : (upd H' wl (.lst (as.map V.ref))) wl = some (.lst (as.map V.ref)) := upd_same
      have sm1 : Same H (upd H' wl (.lst (as.map V.ref))) := I.same.put I.nw0
      have kt1 : KeepT H' (upd H' wl (.lst (as.map V.ref))) := keepT_put Ihw (fun xs z => nomatch z)
      have hk1 := kt1 _ _ hk
      have ta1 := ta.same kt1
      have hkU := Q0.subw k (by simp)
      generalize upd H' wl (.lst (as.map V.ref)) = H1 at hd1 hw1 sm1 hk1 ta1 ⊢
      refine ⟨_, rfl, _, rfl, _, _, rfl, DGet.t hd1 (by rw [kI_V]; exact hk1), ?_⟩
      cases hv : valV kvs (kI k) with
      | some v =>
        refine ⟨_, rfl, ?_⟩
        refine iteF ?_
        have hm : k ∈ ks := kI_mem.mp (ek ▸ valV_in hv)
        obtain ⟨n', l1, J⟩ := Q0.old hm
        exact ⟨n', l1, d, wl, kvs, as, ws, _, rfl, hd1, hw1, ta1, I.nd0, I.nw0, sm1, ks, ek, J⟩
      | none =>
        refine ⟨_, rfl, ?_⟩
        refine iteT ?_
        have hm : k ∉ ks := fun z => valV_not hv (by rw [ek]; exact kI_mem.mpr z)
        have cnt := Q0.more hm
        have ekl : kvs.length = ks.length := by have := congrArg List.length ek; simpa using this
        refine ⟨g, spl, rfl, hF, _, rfl, ?_⟩
        refine hsp k hkU a H1 sm1 hk1 _ fun L bs H2 s2 hLn hL hB => ?_
        have hd2 := s2 _ _ hd1
        have hw2 := s2 _ _ hw1
        have hk2 := s2 _ _ hk1
        have ta2 := ta1.same (Same.keepT s2)
        refine ⟨_, rfl, _, rfl, _, _, rfl, DPut.t hd2 (by rw [kI_V]; exact hk2) (by omega), ?_⟩
        have nLd : L ≠ d := fun z => by rw [z, hd2] at hL; cases hL
        have nLw : L ≠ wl := fun z => by rw [z, hw1] at hLn; cases hLn
        have kt3 : KeepT H2 (upd H2 d (.dT (putK kvs (kI k) (.ref L)))) := keepT_put hd2 (fun xs z => nomatch z)
        have hd3 : (upd H2 d (.dT (putK kvs (kI k) (.ref L)))) d = some (.dT (putK kvs (kI k) (.ref L))) := upd_same
        have hw3 : (upd H2 d (.dT (putK kvs (kI k) (.ref L)))) wl = some (.lst (as.map V.ref)) := by rw [upd_ne (Ne.symm Ine)]; exact hw2
        have hL3 : (upd H2 d (.dT (putK kvs (kI k) (.ref L)))) L = some (.lst (bs.map V.ref)) := by rw [upd_ne nLd]; exact hL
        have hk3 := kt3 _ _ hk2
        have ta3 := ta2.same kt3
        have hB3 := hB.same kt3
        have sm3 : Same H (upd H2 d (.dT (putK kvs (kI k) (.ref L)))) := (sm1.trans s2).put I.nd0
        generalize upd H2 d (.dT (putK kvs (kI k) (.ref L))) = H3 at hd3 hw3 hL3 hk3 ta3 hB3 sm3 ⊢
        have hg : DGet H3 d (.ref a) (some (.ref L)) := by
          have := DGet.t (k := kI k) hd3 (b := a) (by rw [kI_V]; exact hk3)
          rw [valV_put, if_pos rfl] at this
          exact this
        have hBl : bs.length = (nx k).length := Paired.length hB
        have hAl : as.length = ws.length := Paired.length ta
        refine ⟨_, rfl, wl, _, rfl, hw3, _, rfl, _, rfl, _, _, rfl, hg, wl, L, _, _, rfl, rfl, hw3, hL3, ?_, ?_⟩
        · have h1 := Q0.len
          have h2 := mU k hkU
          have h3 : (ks.length + 1) * m ≤ U.length * m := Nat.mul_le_mul_right m cnt
          rw [List.length_append, List.length_singleton] at h1
          rw [Nat.add_mul] at h3
          rw [List.length_map, List.length_map]
          omega
        · obtain ⟨n', l1, J⟩ := Q0.new hm cU (mU k hkU)
          have kt4 : KeepT H3 (upd H3 wl (.lst (as.map V.ref ++ bs.map V.ref))) := keepT_put hw3 (fun xs z => nomatch z)
          refine ⟨n', l1, d, wl, putK kvs (kI k) (.ref L), as ++ bs, ws ++ nx k, _, rfl, ?_, ?_, ?_, I.nd0, I.nw0, sm3.put I.nw0, ks ++ [k], ?_, J⟩
          · rw [upd_ne Ine]; exact hd3
          · rw [upd_same, List.map_append]
          · exact paired_app (ta3.same kt4) (hB3.same kt4)
          · rw [putK_new _ hv, List.map_append, ek, List.map_append]
            rfl
end
section
variable {P : Program} {w : World} {K : PySem.W.Frag} {mg : Str → Option Value} {base : Heap}
abbrev sways_in : Stmt := PySem.Challenge.pw_walksago_k53_states_that_are_none.main.body.getD 9 (.Pass ⟨0, 0, 0, 0⟩)
theorem scways_in : FnScope ["web", "states", "moves", "places", "at", "state", "name", "weight", "images", "image"] ["web"] (defScope sways_in) := ⟨rfl, rfl, rfl, by decide +kernel, rfl, by decide +kernel, by decide +kernel⟩
def PlOk (ss : List Str) (kvs : List (Key × V)) (i : Nat) : Prop := ∀ j s, j < i → ss[j]? = some s → valV kvs (.inr s) = some (.int (j : Nat))
def plI (D : Addr) (W : Wb) (H : Hp) : Nat → Hp → Prop := fun i H' => ∃ kvs, H' D = some (.dK kvs) ∧ kvs.length ≤ i ∧ PlOk W.states kvs i ∧ Same H H'
def imI (D : Addr) (ss im : List Str) (H : Hp) : Nat → Hp → Prop := fun k H' => H' D = some (.lst ((im.take k).map fun x => V.int (pl ss x))) ∧ Same H H'
theorem imI.put {D : Addr} {ss im : List Str} {H H' : Hp} {k : Nat} {y : Str} (h : imI D ss im H k H') (hD : H D = none) (hy : im[k]? = some y) : imI D ss im H (k + 1) (upd H' D (.lst ((im.take k).map (fun x => V.int (pl ss x)) ++ [V.int (pl ss y)]))) := by
  refine ⟨?_, Same.put h.2 hD⟩
  rw [upd_same, take_snoc hy, List.map_append]
  rfl
theorem strs_at {ss : List Str} {i : Nat} {x : V} (h : (ss.map V.str)[i]? = some x) : ∃ s, ss[i]? = some s ∧ x = .str s := by
  rw [List.getElem?_map] at h
  cases e : ss[i]? with
  | none => rw [e] at h; cases h
  | some s => rw [e] at h; exact ⟨s, rfl, (Option.some.inj h).symm⟩
theorem PlOk.put {ss : List Str} {kvs : List (Key × V)} {i : Nat} {s : Str} (hn : ss.Nodup) (h : PlOk ss kvs i) (hs : ss[i]? = some s) : PlOk ss (putK kvs (.inr s) (.int (i : Nat))) (i + 1) := fun j t hj ht => by
  rw [valV_put]
  by_cases e : t = s
  · subst e
    have := pl_of hn hs
    rw [pl_of hn ht] at this
    rw [if_pos rfl, this]
  · rw [if_neg (fun z => e (Sum.inr.inj z))]
    refine h j t ?_ ht
    rcases Nat.lt_or_ge j i with q | q
    · exact q
    · have : j = i := by omega
      subst this
      rw [hs] at ht
      exact absurd (Option.some.inj ht).symm e
theorem PlOk.get {ss : List Str} {kvs : List (Key × V)} {s : Str} (h : PlOk ss kvs ss.length) (hs : s ∈ ss) : valV kvs (.inr s) = some (.int (pl ss s)) := h _ s (pl_lt hs) (pl_get hs)
def spWaysIn : Sp := fun vs H Q _ => ∃ (p : Addr) (w : Wb), vs = [.ref p] ∧ WebAt H p w ∧ Good w ∧
  ∀ (L : Addr) (as : List Addr) (H' : Hp), Same H H' → H' L = some (.lst (as.map V.ref)) → Paired (fun a m => WayAt H' w.states a m.2.2) as w.moves → H L = none → (∀ a ∈ as, H a = none) → Q (.ref L) H'
def wiI (D : Addr) (W : Wb) (H : Hp) : Nat → Hp → Prop := fun i H' => ∃ bs : List Addr, H' D = some (.lst (bs.map V.ref)) ∧ Paired (fun a m => WayAt H' W.states a m.2.2) bs (W.moves.take i) ∧ D ∉ bs ∧ (∀ a ∈ bs, H a = none) ∧ Same H H'
theorem paired_in {α β : Type} {R S : α → β → Prop} : ∀ {as : List α} {bs : List β}, Paired R as bs → (∀ a b, a ∈ as → R a b → S a b) → Paired S as bs
  | _, _, .nil, _ => .nil
  | _, _, .cons h r, k => .cons (k _ _ (by simp) h) (paired_in r fun a b ha => k a b (by simp [ha]))
theorem wiI.put {D D3 : Addr} {W : Wb} {H H3 : Hp} {i : Nat} {m : Str × Int × List Str} {bs : List Addr} (hD : H D = none) (sm : Same H H3) (c0 : H3 D = some (.lst (bs.map V.ref))) (c1 : Paired (fun a m => WayAt H3 W.states a m.2.2) bs (W.moves.take i)) (hm : W.moves[i]? = some m) (h3 : H3 D3 = some (.lst (m.2.2.map fun x => V.int (pl W.states x)))) (nD : D3 ≠ D) (hb : D ∉ bs) (hbf : ∀ a ∈ bs, H a = none) (h3f : H D3 = none) :
    wiI D W H (i + 1) (upd H3 D (.lst (bs.map V.ref ++ [V.ref D3]))) := by
  refine ⟨bs ++ [D3], by rw [upd_same, app_map], ?_, fun z => by rcases List.mem_append.mp z with z | z; exact hb z; exact nD ((by simpa using z : D = D3).symm), fun a ha => by rcases List.mem_append.mp ha with z | z; exact hbf a z; rw [show a = D3 by simpa using z]; exact h3f, Same.put sm hD⟩
  rw [take_snoc hm]
  have up : ∀ {a : Addr} {im : List Str}, a ≠ D → WayAt H3 W.states a im → WayAt (upd H3 D (.lst (bs.map V.ref ++ [V.ref D3]))) W.states a im := fun ne h => by
    unfold WayAt
    rw [upd_ne ne]
    exact h
  have c1' : Paired (fun a m => WayAt (upd H3 D (.lst (bs.map V.ref ++ [V.ref D3]))) W.states a m.2.2) bs (W.moves.take i) := by
    clear hm
    have hb' : ∀ a ∈ bs, a ≠ D := fun a ha e => hb (e ▸ ha)
    exact paired_in c1 fun a m ha h => up (hb' a ha) h
  exact c1'.snoc (up nD h3)
theorem ok_ways_in {f : Addr} {fd : FuncData} (F : Fun K "ways_in" "ways_in" sways_in f fd) (T : Bl mg) : FnOk P w K mg base CX0 1 f fd ["web"] spWaysIn := by
  refine F.ok scways_in (fun vs H Q E h => ?_) (fun cdv A outer s H vs Q E hr h => ?_)
  · obtain ⟨p, W, rfl, _⟩ := h
    rfl
  · obtain ⟨p, W, rfl, hW, g, q⟩ := h
    have nd := scways_in.nd
    have hu := Nat.lt_trans (Nat.add_lt_add_left (by decide : 1 < 64) _) hr.units
    obtain ⟨ps, pm, as, h1, h2, h3, h4⟩ := hW
    refine ⟨_, (pss_cons (ps_asg (pv 0) (pgT (n := 2) (pgs_cons (pg_name (i := 1) nd rfl (Or.inl rfl)) (pgs_cons (pg_name (i := 2) nd rfl (Or.inl rfl)) pgs_nil))))
      (pss_cons (ps_set (i := 3) nd rfl (Or.inr rfl) (pe_dcR (own := [("at", 4), ("state", 5)]) nd (pi_enumT (by rfl) T.b_enumerate (pa_c (pv 1) pa_nil)) (blkOk_by (own := [("at", 4), ("state", 5)]) (N := ["web", "states", "moves", "places", "at", "state", "name", "weight", "images", "image"]) (sc := defScope sways_in) (by decide +kernel)) (fun _ _ _ _ _ => (pgT (n := 2) (pgs_cons (pg_name (i := 4) nd rfl (Or.inl rfl)) (pgs_cons (pg_name (i := 5) nd rfl (Or.inl rfl)) pgs_nil)))) (fun _ _ _ _ _ => pts_nil) (fun _ _ _ _ _ => (pv 5)) (fun _ _ _ _ _ => (pv 4))))
      (pss_one (ps_ret (pe_lcR (own := [("name", 6), ("weight", 7), ("images", 8)]) nd (pi_tup (pv 2)) (blkOk_by (own := [("name", 6), ("weight", 7), ("images", 8)]) (N := ["web", "states", "moves", "places", "at", "state", "name", "weight", "images", "image"]) (sc := defScope sways_in) (by decide +kernel)) (fun _ _ _ _ _ => (pgT (n := 3) (pgs_cons (pg_name (i := 6) nd rfl (Or.inl rfl)) (pgs_cons (pg_name (i := 7) nd rfl (Or.inl rfl)) (pgs_cons (pg_name (i := 8) nd rfl (Or.inl rfl)) pgs_nil))))) (fun _ _ _ _ _ => pts_nil) (fun _ _ _ _ _ => (pe_lcR (own := [("image", 9)]) nd (pi_tupK K rfl (pv 8)) (blkOk_nest (own := [("image", 9)]) (N := ["web", "states", "moves", "places", "at", "state", "name", "weight", "images", "image"]) (by decide +kernel)) (fun _ _ _ _ _ => (pg_name (i := 9) nd rfl (Or.inl rfl))) (fun _ _ _ _ _ => pts_nil) (fun _ _ _ _ _ => (pe_dget hu (pv 3) (pv 9) (fun _ _ => rfl)))))))))), ?_⟩
    walk_at "rd"
    refine dcR_enumT (xs := W.states.map V.str) fun D hD => ⟨plI D W H, ⟨[], upd_same, Nat.le_refl _, fun j s hj => absurd hj (Nat.not_lt_zero _), Same.new (Same.refl H) hD⟩, ?_, ?_, ?_⟩
    · rintro i H' ⟨kvs, _, _, _, sm⟩
      exact sm _ _ h2
    · rintro i x H' Tp hx ⟨kvs, e1, e2, e3, sm⟩ hT
      obtain ⟨s0, hs0, rfl⟩ := strs_at hx
      have hi := (List.getElem?_eq_some_iff.mp hs0).1
      have hs8 := g.s8
      have hSL := sl_eq
      walk_at "rd"
      refine iteT ?_
      walk_at "rd"
      refine ⟨show V.str s0 = kV (.inr s0) from rfl, by omega, putK kvs (.inr s0) (.int (i : Nat)), upd_same, ?_, e3.put g.snd hs0, ?_⟩
      · have := length_putK kvs (.inr s0) (.int (i : Nat))
        omega
      · exact Same.put (Same.new sm hT) hD
    · rintro H1 ⟨kvs, e1, e2, e3, sm⟩
      rw [List.length_map] at e3
      walk_at "rd"
      refine lcR_tup (xs := as.map V.ref) fun D2 hD2 => ⟨wiI D2 W H1, ⟨[], upd_same, .nil, fun z => by simp at z, fun a ha => by simp at ha, Same.new (Same.refl H1) hD2⟩, ?_, ?_, ?_⟩
      · rintro i H' hi ⟨bs, _, _, _, _, sm2⟩
        exact sm2 _ _ (sm _ _ h3)
      · rintro i x H2 hx ⟨bs, f1, f2, f3, f4, sm2⟩
        obtain ⟨a, ha, rfl⟩ := refs_get hx
        obtain ⟨m, hm, b, h5, h6⟩ := pair_get h4 ha
        have hmm := List.mem_of_getElem? hm
        have gm := g.mv m hmm
        have h5' := sm2 _ _ (sm _ _ h5)
        have h6' := sm2 _ _ (sm _ _ h6)
        have hpl := sm2 _ _ e1
        have hlen := gm.len
        have hs8 := g.s8
        have hm8 := g.m8
        have hSL := sl_eq
        have hi := (List.getElem?_eq_some_iff.mp hm).1
        walk_at "rd"
        refine iteT ?_
        walk_at "rd"
        refine lcR_tup (xs := m.2.2.map V.str) fun D3 hD3 => ⟨imI D3 W.states m.2.2 H2, ⟨upd_same, Same.new (Same.refl H2) hD3⟩, ?_, ?_, ?_⟩
        · rintro k H3 hk ⟨_, sm3⟩
          exact sm3 _ _ h6'
        · rintro k y H3 hy ⟨c1, sm3⟩
          obtain ⟨s1, hs1, rfl⟩ := strs_at hy
          have hk := (List.getElem?_eq_some_iff.mp hs1).1
          have dg : DGet H3 D (V.str s1) (some (V.int (pl W.states s1))) := by
            have z := DGet.k (k := .inr s1) (sm3 _ _ hpl)
            rw [e3.get (gm.img _ (List.mem_of_getElem? hs1))] at z
            exact z
          refine ⟨rfl, iteT ?_⟩
          walk_at "rd"
          exact ⟨by rw [List.length_map, List.length_take]; omega, imI.put ⟨c1, sm3⟩ hD3 hs1⟩
        · rintro H3 ⟨c1, sm3⟩
          rw [List.length_map, List.take_length] at c1
          have f1' := sm3 _ _ f1
          have nD : D3 ≠ D2 := (ne_of_none f1 hD3).symm
          have hbl : (bs.map V.ref).length < sizeLine := by
            have z := f2.length
            rw [List.length_take] at z
            rw [List.length_map]
            omega
          refine ⟨_, f1', hbl, wiI.put hD2 (sm2.trans sm3) f1' (Paired.mapP f2 fun a m z => sm3 _ _ z) hm c1 nD f3 f4 (Same.free sm2 hD3)⟩
      · rintro H2 ⟨bs, f1, f2, f3, f4, sm2⟩
        have hl := h4.length
        rw [List.length_map, hl, List.take_length] at f2
        exact q D2 bs H2 (sm.trans sm2) f1 f2 (Same.free sm hD2) fun a ha => Same.free sm (f4 a ha)
end
def lamPosM (st : Stmt) : Pos := match defBody st with
  | _ :: .Return (some (.Call _ [.Call _ [_, .Lambda _ _ _ p] _ _] _ _)) _ :: _ => p
  | _ => ⟨0, 0, 0, 0⟩
def lamScM (st : Stmt) : Scope := match defBody st with
  | _ :: .Return (some (.Call _ [.Call _ [_, .Lambda _ _ c _] _ _] _ _)) _ :: _ => c
  | _ => defScope st
section
variable {P : Program} {w : World} {K : PySem.W.Frag} {mg : Str → Option Value} {base : Heap}
abbrev swhole_group : Stmt := PySem.Challenge.pw_walksago_k53_states_that_are_none.main.body.getD 11 (.Pass ⟨0, 0, 0, 0⟩)
theorem scwhole_group : FnScope ["web"] ["web"] (defScope swhole_group) := ⟨rfl, rfl, rfl, by decide +kernel, rfl, by decide +kernel, by decide +kernel⟩
abbrev smet_before : Stmt := PySem.Challenge.pw_walksago_k53_states_that_are_none.main.body.getD 13 (.Pass ⟨0, 0, 0, 0⟩)
theorem scmet_before : FnScope ["way", "met", "led", "at", "one"] ["way", "met"] (defScope smet_before) := ⟨rfl, rfl, rfl, by decide +kernel, rfl, by decide +kernel, by decide +kernel⟩
abbrev smeetings : Stmt := PySem.Challenge.pw_walksago_k53_states_that_are_none.main.body.getD 14 (.Pass ⟨0, 0, 0, 0⟩)
theorem scmeetings : FnScope ["web", "ways", "way"] ["web"] (defScope smeetings) := ⟨rfl, rfl, rfl, by decide +kernel, rfl, by decide +kernel, by decide +kernel⟩
abbrev smet_alone : Stmt := PySem.Challenge.pw_walksago_k53_states_that_are_none.main.body.getD 15 (.Pass ⟨0, 0, 0, 0⟩)
theorem scmet_alone : FnScope ["web", "places", "groups", "met", "first", "at", "group"] ["web"] (defScope smet_alone) := ⟨rfl, rfl, rfl, by decide +kernel, rfl, by decide +kernel, by decide +kernel⟩
abbrev sis_watch : Stmt := PySem.Challenge.pw_walksago_k53_states_that_are_none.main.body.getD 16 (.Pass ⟨0, 0, 0, 0⟩)
theorem scis_watch : FnScope ["group", "alone", "other", "at"] ["group", "alone"] (defScope sis_watch) := ⟨rfl, rfl, rfl, by decide +kernel, rfl, by decide +kernel, by decide +kernel⟩
theorem ok_whole_group {f : Addr} {fd : FuncData} (F : Fun K "whole_group" "whole_group" swhole_group f fd) (T : Bl mg) : FnOk P w K mg base CX0 1 f fd ["web"] spWholeG := by
  refine F.ok scwhole_group (fun vs H Q E h => ?_) (fun cdv A outer s H vs Q E hr h => ?_)
  · obtain ⟨p, W, rfl, _⟩ := h
    rfl
  · obtain ⟨p, W, rfl, hW, gd, q⟩ := h
    have nd := scwhole_group.nd
    have hs8 := gd.s8
    obtain ⟨pst, pm, as, h1, h2, h3, h4⟩ := hW
    have hat : atI [V.ref pst, V.ref pm] 0 = some (.ref pst) := rfl
    have hl : (W.states.map V.str).length = W.states.length := List.length_map ..
    refine ⟨_, (pss_one (ps_ret (pe_tupRng (by rfl) T.b_tuple (by rfl) T.b_range (pa_c (pe_cB call_lenT (by rfl) T.b_len (by decide +kernel) (pa_c (pe_ix ixT (pv 0) pe_int (fun _ _ => rfl)) pa_nil)) pa_nil)))), ?_⟩
    walk_at "rd"
    rw [hl]
    intro t ht
    refine q t _ ht (Same.new (Same.refl H) ht) ?_
    rw [upd_same, Int.toNat_natCast]
    rfl
def mbI (D : Addr) (row k : List Int) (H : Hp) : Nat → Hp → Prop := fun i H' => H' D = some (.lst (((row.take i).map fun i => k.getD i.toNat 0).map V.int)) ∧ Same H H'
def mbJ (D : Addr) (l : List Int) (H : Hp) : Nat → Hp → Prop := fun i H' => H' D = some (.lst (((l.take i).map fun x => ((fsx l x : Nat) : Int)).map V.int)) ∧ Same H H'
theorem int_getI {xs : List Int} {i : Nat} {v : V} (h : (xs.map V.int)[i]? = some v) : ∃ y, xs[i]? = some y ∧ v = .int y := by
  rw [List.getElem?_map] at h
  cases e : xs[i]? with
  | none => rw [e] at h; cases h
  | some y => rw [e] at h; exact ⟨y, rfl, (Option.some.inj h).symm⟩
theorem ints_flat (l : List Int) : (l.map V.int).all flatV = true := List.all_eq_true.mpr fun v hv => by
  obtain ⟨u, _, rfl⟩ := List.mem_map.mp hv
  rfl
theorem ok_met_before {f : Addr} {fd : FuncData} (F : Fun K "met_before" "met_before" smet_before f fd) (T : Bl mg) : FnOk P w K mg base CX0 1 f fd ["way", "met"] spMetB := by
  refine F.ok scmet_before (fun vs H Q E h => ?_) (fun cdv A outer s H vs Q E hr h => ?_)
  · obtain ⟨wy, ma, row, k, rfl, _⟩ := h
    rfl
  · obtain ⟨wy, ma, row, k, rfl, hwy, hma, h64, hb, q⟩ := h
    have nd := scmet_before.nd
    have hSL := sl_eq
    refine ⟨_, (pss_cons (ps_set (i := 2) nd rfl (Or.inr rfl) (pe_lcR (own := [("at", 3)]) nd (pi_list (pv 0)) (blkOk_by (own := [("at", 3)]) (N := ["way", "met", "led", "at", "one"]) (sc := defScope smet_before) (by decide +kernel)) (fun _ _ _ _ _ => (pg_name (i := 3) nd rfl (Or.inl rfl))) (fun _ _ _ _ _ => pts_nil) (fun _ _ _ _ _ => (pe_ix ixT (pv 1) (pv 3) (fun _ _ => rfl)))))
      (pss_one (ps_ret (pe_cT call_tupL (by rfl) T.b_tuple (by decide +kernel) (pa_c (pe_lcR (own := [("one", 4)]) nd (pi_list (pv 2)) (blkOk_by (own := [("one", 4)]) (N := ["way", "met", "led", "at", "one"]) (sc := defScope smet_before) (by decide +kernel)) (fun _ _ _ _ _ => (pg_name (i := 4) nd rfl (Or.inl rfl))) (fun _ _ _ _ _ => pts_nil) (fun _ _ _ _ _ => (pe_bmK K rfl PySem.F.plainAttrs_list PySem.F.slot_list_index PySem.F.type_list_index (mt_indexK K rfl) (pv 2) (pa_c (pv 4) pa_nil)))) pa_nil))))), ?_⟩
    walk_at "rd"
    refine lcR_list (xs := row.map V.int) fun D hD => ⟨mbI D row k H, ⟨upd_same, Same.new (Same.refl H) hD⟩, ?_, ?_, ?_⟩
    · rintro i H2 hi ⟨_, sm⟩
      exact sm _ _ hwy
    · rintro i x H2 hx ⟨e1, sm⟩
      obtain ⟨j, hj, rfl⟩ := int_getI hx
      have hij := (List.getElem?_eq_some_iff.mp hj).1
      have hb1 := hb j (List.mem_of_getElem? hj)
      have hma2 := sm _ _ hma
      obtain ⟨jn, rfl⟩ := Int.eq_ofNat_of_zero_le hb1.1
      have hjn : jn < k.length := by omega
      have hat : atI (k.map V.int) ((jn : Nat) : Int) = some (.int k[jn]) := atI_nat (by rw [List.getElem?_map, List.getElem?_eq_getElem hjn]; rfl)
      have hbl : (((row.take i).map fun i => k.getD i.toNat 0).map V.int).length < sizeLine := by rw [List.length_map, List.length_map, List.length_take]; omega
      refine ⟨rfl, iteT ?_⟩
      walk_at "rd"
      refine ⟨?_, Same.put sm hD⟩
      rw [upd_same, take_snoc hj, List.map_append, List.map_append]
      have e : k.getD ((jn : Nat) : Int).toNat 0 = k[jn] := by rw [Int.toNat_natCast, List.getD_eq_getElem?_getD, List.getElem?_eq_getElem hjn]; rfl
      show _ = some (HO.lst (_ ++ [V.int (k.getD ((jn : Nat) : Int).toNat 0)]))
      rw [e]
    · rintro H1 ⟨e1, s1⟩
      rw [List.length_map, List.take_length] at e1
      have hll : (row.map fun i => k.getD i.toNat 0).length ≤ 64 := by rw [List.length_map]; exact h64
      generalize (row.map fun i => k.getD i.toNat 0) = l at e1 hll q
      walk_at "rd"
      refine lcR_list (xs := l.map V.int) fun D2 hD2 => ⟨mbJ D2 l H1, ⟨upd_same, Same.new (Same.refl H1) hD2⟩, ?_, ?_, ?_⟩
      · rintro i H2 hi ⟨_, sm⟩
        exact sm _ _ e1
      · rintro i x H2 hx ⟨e2, sm⟩
        obtain ⟨j, hj, rfl⟩ := int_getI hx
        have hij := (List.getElem?_eq_some_iff.mp hj).1
        have e12 := sm _ _ e1
        have hbl : (((l.take i).map fun x => ((fsx l x : Nat) : Int)).map V.int).length < sizeLine := by rw [List.length_map, List.length_map, List.length_take]; omega
        have hm := List.mem_of_getElem? hj
        refine ⟨rfl, iteT ?_⟩
        refine ⟨_, rfl, .inl ⟨rfl, _, SqL.of e12⟩, _, rfl, D, l.map V.int, .int j, fsx l j, .int j, rfl, rfl, SqL.of e12, rfl, ints_flat l, by rw [List.getElem?_map, fsx_get hm]; rfl, by show (j == j) = true; exact beq_self_eq_true j, fun m z' hlt hz => ?_, ?_⟩
        · obtain ⟨y, hy, rfl⟩ := int_getI hz
          show (y == j) = false
          refine beq_eq_false_iff_ne.mpr fun e => ?_
          rw [e] at hy
          have := fsx_le hy
          omega
        · refine ⟨_, e2, hbl, ?_, Same.put sm hD2⟩
          rw [upd_same, take_snoc hj, List.map_append, List.map_append]
          rfl
      · rintro H2 ⟨e2, s2⟩
        rw [List.length_map, List.take_length] at e2
        walk_at "rd"
        intro p hp
        have s02 := s1.trans s2
        have hpH : H p = none := Same.free s02 hp
        exact q p _ hpH (Same.new s02 hp) upd_same
def msI (D : Addr) (W : Wb) (k : List Int) (H : Hp) : Nat → Hp → Prop := fun i H' => ∃ as : List Addr, H' D = some (.lst (as.map V.ref)) ∧ as.length = i ∧ TupsAt H' as ((nxM W k).take i) ∧ Same H H'
theorem ok_meetings {f : Addr} {fd : FuncData} {cc Pt : Addr} (F : FunC K "meetings" "meetings" smeetings f fd cc Pt) (T : Bl mg) (BM : BmIn base mg) (Gways_in : Fn P w K mg base "ways_in" 1 ["web"] spWaysIn) (Gwhole_group : Fn P w K mg base "whole_group" 1 ["web"] spWholeG) (Amet_before : FnA P w K mg base "met_before" 1 ["way", "met"] (fun _ => spMetB)) (Asteps_from : FnA P w K mg base "steps_from" 6 ["first", "leads"] (spStepsT P w K mg 4)) : FnOk P w K mg base CX0 8 f fd ["web"] (spMeets Pt (encT (lamPosM smeetings) "meetings.<locals>.<lambda>")) := by
  refine F.ok scmeetings (fun vs H Q E h => ?_) (fun A outer s H vs Q E hr h => ?_)
  · obtain ⟨p, W, rfl, _⟩ := h
    rfl
  · obtain ⟨p, W, rfl, hW, gd, hPt, q⟩ := h
    have nd := scmeetings.nd
    have hSL := sl_eq
    have hW0 := hW
    have hs8 := gd.s8
    have hm8 := gd.m8
    refine ⟨_, (pss_cons (ps_set (i := 1) nd rfl (Or.inr rfl) (pe_fn Gways_in (hr.mono (by decide)) (by rfl) (pa_c (pv 0) pa_nil)))
      (pss_one (ps_ret (pe_cT (call_listDT rfl) (by rfl) T.b_list (by decide +kernel) (pa_c (pe_fnLamK (js := [("ways", some 1), ("way", none)]) (kl := 3) (x := "met") (qual := "meetings.<locals>.<lambda>") P w K mg rfl rfl rfl rfl Asteps_from (hr.mono (by decide)) (by rfl) lamSt_by (lamAt_by BM F.hd) (pe_fn Gwhole_group (hr.mono (by decide)) (by rfl) (pa_c (pv 0) pa_nil)) (fun _ sub _ _ _ _ _ _ _ hr => (pe_lcR (own := [("way", 2)]) (show List.Nodup (α := Str) ["met", "ways", "way"] by decide +kernel) (pi_listK K rfl (pv 1)) (blkOk_by (own := [("way", 2)]) (N := ["met", "ways", "way"]) (sc := lamScM smeetings) (by decide +kernel)) (fun _ _ _ _ _ => (pg_name (i := 2) (show List.Nodup (α := Str) ["met", "ways", "way"] by decide +kernel) rfl (Or.inl rfl))) (fun _ _ _ _ _ => pts_nil) (fun _ _ _ _ _ => (pe_fn (Amet_before _ sub) (hr.mono (by decide)) (by rfl) (pa_c (pv 2) (pa_c (pv 0) pa_nil))))))) pa_nil))))), ?_⟩
    walk_at "rd"
    refine ⟨p, W, rfl, hW0, gd, fun L ws H1 s1 hL hw _ _ => ?_⟩
    walk_at "rd"
    refine ⟨p, W, rfl, hW0.mono s1.keepT, gd, fun a0 H2 f2 s2 e2 => ?_⟩
    have s02 := s1.trans s2
    have hPt2 := s02 _ _ hPt
    have hL2 := s2 _ _ hL
    have hw2 : Paired (fun a m => WayAt H2 W.states a m.2.2) ws W.moves := Paired.mapP hw fun _ _ z => s2 _ _ z
    walk_at "rd"
    intro f' base' Hc hc FI
    have hUl : (facL W.states.length).length ≤ 40320 := by
      rw [facL_len]
      exact facN_le hs8
    have hmm : (facL W.states.length).length * W.moves.length ≤ 40320 * 8 := Nat.mul_le_mul hUl hm8
    refine ⟨a0, upN W.states.length, f', _, nxM W, facL W.states.length, W.moves.length, rfl, hc _ _ e2 trivial, FI, ?_, fun k hk j hj => nxM_fac gd hj, fun k hk => by unfold nxM; rw [List.length_map]; exact Nat.le_refl _, by omega, by omega, fun k hk a H' sH hka Q' q' => ?_, fun d kvs ks H3 hd s3 h3 ek nd3 hr3 hu3 => ⟨s3, fun H4 s14 s34 => ?_⟩⟩
    · rw [← kerM_nil gd]
      exact kerM_fac W []
    · have hkl := facL_lenOf hk
      have hL' := sH _ _ (hc _ _ hL2 trivial)
      refine ⟨_, rfl, ?_⟩
      refine ⟨_, rfl, ?_⟩
      walk_at "rd"
      refine lcR_list (xs := ws.map V.ref) fun D hD => ⟨msI D W k H', ⟨[], upd_same, rfl, .nil, Same.new (Same.refl H') hD⟩, ?_, ?_, ?_⟩
      · rintro i H5 hi ⟨as, e1, e2, e3, sm⟩
        exact sm _ _ hL'
      · rintro i x H5 hx ⟨as, e1, e2, e3, sm⟩
        obtain ⟨b, hb, rfl⟩ := refs_get hx
        obtain ⟨m, hm, hway⟩ := pair_get hw2 hb
        have hb1 : H5 b = some (.lst ((rowI W.states m.2.2).map V.int)) := by
          rw [rowI_V]
          exact sm _ _ (sH _ _ (hc _ _ hway trivial))
        have gm := gd.mv m (List.mem_of_getElem? hm)
        refine ⟨rfl, iteT ?_⟩
        walk_at "rd"
        have him := (List.getElem?_eq_some_iff.mp hm).1
        have hlm := gm.len
        have er : (rowI W.states m.2.2).length = W.states.length := by unfold rowI; rw [List.length_map, hlm]
        refine ⟨b, a, rowI W.states m.2.2, k, rfl, hb1, sm _ _ hka, by omega, fun j hj => ?_, fun pt H6 hp s6 hpt => ?_⟩
        · unfold rowI at hj
          obtain ⟨y, hy, rfl⟩ := List.mem_map.mp hj
          have := pl_lt (gm.img y hy)
          omega
        · refine ⟨_, s6 _ _ e1, by rw [List.length_map, e2]; omega, as ++ [pt], by rw [upd_same, app_map], by simp [e2], ?_, Same.put (sm.trans s6) hD⟩
          have kt : KeepT H6 (upd H6 D (.lst (as.map V.ref ++ [V.ref pt]))) := keepT_put (s6 _ _ e1) fun xs z => nomatch z
          have hnx : (nxM W k)[i]? = some (kerA ((rowI W.states m.2.2).map fun i => k.getD i.toNat 0)) := by unfold nxM; rw [List.getElem?_map, hm]; rfl
          rw [take_snoc hnx]
          exact paired_snoc (Paired.mapP e3 fun _ _ z => kt _ _ (s6 _ _ z)) (kt _ _ hpt)
      · rintro H5 ⟨as, e1, e2, e3, sm⟩
        have hwl := hw2.length
        rw [List.length_map] at e2 e3
        have hn : (nxM W k).length = ws.length := by unfold nxM; rw [List.length_map, hwl]
        rw [← hn, List.take_length] at e3
        exact q' D as H5 sm hD e1 e3
    · have hd4 := s34 _ _ h3
      have hkl : kvs.length = ks.length := by have := congrArg List.length ek; simpa using this
      have hks : ks.length ≤ 40320 := Nat.le_trans (nodup_len nd3 hu3) hUl
      walk_at "rd"
      refine fun l qs hl hq => ?_
      rw [ek] at hq
      have s4 : Same H4 (upd H4 l (.lst (qs.map V.ref))) := Same.new (Same.refl H4) hl
      refine q l qs ks _ (fun b o z => s4 _ _ (s14 _ _ (s02 _ _ z))) upd_same (Paired.mapP (tups_keys hq) fun _ _ z => s4 _ _ z) (fun k => ?_) hks
      rw [hr3 k]
      exact reachM gd
end
section
variable {P : Program} {w : World} {K : PySem.W.Frag} {mg : Str → Option Value} {base : Heap}
/-- all but G stays -/
def Sm1 (G : Addr) (H H' : Hp) : Prop := ∀ b o, H b = some o → b ≠ G → H' b = some o
theorem Sm1.refl {G : Addr} {H : Hp} : Sm1 G H H := fun _ _ h _ => h
theorem Sm1.on {G : Addr} {H H1 H2 : Hp} (a : Sm1 G H H1) (b : Same H1 H2) : Sm1 G H H2 := fun c o h n => b c o (a c o h n)
theorem Sm1.put {G : Addr} {H H1 : Hp} {u : HO} (a : Sm1 G H H1) : Sm1 G H (upd H1 G u) := fun c o h n => by rw [upd_ne n]; exact a c o h n
theorem Sm1.same {G : Addr} {H0 H H1 : Hp} (a : Sm1 G H H1) (s : Same H0 H) (f : H0 G = none) : Same H0 H1 := fun c o h => a c o (s c o h) (ne_of_none h f)
def alK (W : Wb) (ks : List (List Int)) (x : List Int) : Prop := ∃ k ∈ ks, ∃ f ∈ k, x = clsK W.states.length k f
def alS (p t G : Addr) (W : Wb) (H : Hp) (R : List Int → Prop) (m f : Option V) (gl : List (List Int)) : L2.St → Hp → Prop := fun σ H' => σ = [some (.ref p), some (.ref t), some (.ref G), m, f, none, none] ∧ (∃ kvs : List (List Key × V), H' G = some (.dT kvs) ∧ kvs.map (·.1) = gl.map kI) ∧ gl.Nodup ∧ (∀ g ∈ gl, g ∈ subsI (upN W.states.length)) ∧ (∀ g, g ∈ gl ↔ R g) ∧ Sm1 G H H'
def alI (p t G : Addr) (W : Wb) (ks : List (List Int)) (H : Hp) : Nat → L2.St → Hp → Prop := fun i σ H' => ∃ (m f : Option V) (gl : List (List Int)), alS p t G W H (alK W (ks.take i)) m f gl σ H'
def alJ (p t G : Addr) (W : Wb) (ks : List (List Int)) (ma : Addr) (k fs : List Int) (H : Hp) : Nat → L2.St → Hp → Prop := fun j σ H' => ∃ (f : Option V) (gl : List (List Int)), alS p t G W H (fun g => alK W ks g ∨ ∃ f ∈ fs.take j, g = clsK W.states.length k f) (some (.ref ma)) f gl σ H'
def atI5 (D : Addr) (n : Nat) (k : List Int) (f : Int) (H : Hp) : Nat → Hp → Prop := fun j H' => H' D = some (.lst ((((upN n).take j).filter fun i => decide (k.getD i.toNat 0 = f)).map V.int)) ∧ Same H H'
def grI5 (D : Addr) (n : Nat) (gl : List (List Int)) (H : Hp) : Nat → Hp → Prop := fun j H' => ∃ qs : List Addr, H' D = some (.lst (qs.map V.ref)) ∧ TupsAt H' qs ((gl.take j).filter fun g => !decide (g = upN n)) ∧ Same H H'
theorem upN_get {n j : Nat} {v : V} (h : ((upN n).map V.int)[j]? = some v) : v = .int (j : Nat) ∧ j < n ∧ (upN n)[j]? = some ((j : Nat) : Int) := by
  have hj := (List.getElem?_eq_some_iff.mp h).1
  rw [List.length_map, upN_len] at hj
  have e : (upN n)[j]? = some ((j : Nat) : Int) := by
    unfold upN
    rw [List.getElem?_map, List.getElem?_range hj]
    rfl
  rw [List.getElem?_map, e] at h
  exact ⟨(Option.some.inj h).symm, hj, e⟩
theorem ok_met_alone {f : Addr} {fd : FuncData} {Pt : Addr} {enc : Array Value} (F : Fun K "met_alone" "met_alone" smet_alone f fd) (T : Bl mg) (T3 : Bl3 mg) (Gwhole_group : Fn P w K mg base "whole_group" 1 ["web"] spWholeG) (Gmeetings : Fn P w K mg base "meetings" 8 ["web"] (spMeets Pt enc)) : FnOk P w K mg base CX0 9 f fd ["web"] (spAlone Pt enc) := by
  refine F.ok scmet_alone (fun vs H Q E h => ?_) (fun cdv A outer s H vs Q E hr h => ?_)
  · obtain ⟨p, W, rfl, _⟩ := h
    rfl
  · obtain ⟨p, W, rfl, hW, gd, hPt, q⟩ := h
    have nd := scmet_alone.nd
    have hSL := sl_eq
    have hu := Nat.lt_of_le_of_lt (Nat.add_le_add_left (by decide : 1 ≤ 64) _) hr.units
    have hs8 := gd.s8
    refine ⟨_, (pss_cons (ps_set (i := 1) nd rfl (Or.inr rfl) (pe_fn Gwhole_group (hr.mono (by decide)) (by rfl) (pa_c (pv 0) pa_nil)))
      (pss_cons (ps_set (i := 2) nd rfl (Or.inl rfl) pe_dnewT)
      (pss_cons (ps_forR (pi_list (pe_fn Gmeetings (hr.mono (by decide)) (by rfl) (pa_c (pv 0) pa_nil))) (pg_name (i := 3) nd rfl (Or.inr rfl))
        (pss_one (ps_forR (pi_list (pe_cB (cr_sortedI rfl) (by rfl) T3.b_sorted (by decide +kernel) (pa_c (pe_cT (call_setTI rfl) (by rfl) T.b_set (by decide +kernel) (pa_c (pv 3) pa_nil)) pa_nil))) (pg_name (i := 4) nd rfl (Or.inr rfl))
          (pss_one (ps_dput hu (pv 2) (pe_cT call_tupL (by rfl) T.b_tuple (by decide +kernel) (pa_c (pe_lcR (own := [("at", 5)]) nd (pi_tup (pv 1)) (blkOk_by (own := [("at", 5)]) (N := ["web", "places", "groups", "met", "first", "at", "group"]) (sc := defScope smet_alone) (by decide +kernel)) (fun _ _ _ _ _ => (pg_name (i := 5) nd rfl (Or.inl rfl))) (fun _ _ _ _ _ => (pts_one (pt_cmpR op_eq (pe_ix ixT (pv 3) (pv 5) (fun _ _ => rfl)) (pv 4) (nomark _)))) (fun _ _ _ _ _ => (pv 5))) pa_nil)) pe_bl (by rfl))))))
      (pss_one (ps_ret (pe_lcR (own := [("group", 6)]) nd (pi_keys (pe_frz (pv 2))) (blkOk_by (own := [("group", 6)]) (N := ["web", "places", "groups", "met", "first", "at", "group"]) (sc := defScope smet_alone) (by decide +kernel)) (fun _ _ _ _ _ => (pg_name (i := 6) nd rfl (Or.inl rfl))) (fun _ _ _ _ _ => (pts_one (pt_cmpR (op_neDK K rfl hr.units) (pv 6) (pv 1) (nomark _)))) (fun _ _ _ _ _ => (pv 6)))))))), ?_⟩
    walk_at "rd"
    refine ⟨p, W, rfl, hW, gd, fun t H1 ft s1 ht => ?_⟩
    walk_at "rd"
    intro G hG
    have s12 : Same H1 (upd H1 G (.dT [])) := Same.new (Same.refl H1) hG
    have eG : (upd H1 G (.dT [])) G = some (.dT []) := upd_same
    have s02 := s1.trans s12
    have fG : H G = none := Same.free s1 hG
    have ht2 := s12 _ _ ht
    generalize upd H1 G (.dT []) = H2 at s12 eG s02 ht2 ⊢
    walk_at "rd"
    refine ⟨p, W, rfl, hW.mono s02.keepT, gd, s02 _ _ hPt, fun L as ks H3 s23 hL hT hks hkl => ?_⟩
    have s03 := s02.trans s23
    have eG3 := s23 _ _ eG
    have ht3 := s23 _ _ ht2
    have fG1 : H1 G = none := hG
    -- whatever is old to H1 stays; G changes
    have hLG : L ≠ G := fun z => by rw [z, eG3] at hL; cases hL
    have ntG : t ≠ G := fun z => by rw [z, eG3] at ht3; cases ht3
    have hkl' : ks.length = as.length := hT.length.symm
    have tupG : ∀ {b : Addr} {xs : List V}, H3 b = some (.tup xs) → b ≠ G := fun {b xs} h z => by rw [z, eG3] at h; cases h
    clear eG ht2 s12 s02 s23 ht hG ft
    walk_at "rd"
    refine forR_list (xs := as.map V.ref) (alI p t G W ks H3) ?_ ?_ ?_ ?_
    · exact ⟨none, none, [], rfl, ⟨[], eG3, rfl⟩, List.nodup_nil, fun g hg => by simp at hg, fun g => by simp [alK], Sm1.refl⟩
    · rintro i σ H' hi ⟨m, f, gl, rfl, _, _, _, _, sm⟩
      exact sm _ _ hL hLG
    · rintro i x σ H4 hx ⟨m, f, gl, rfl, ⟨kvs, g1, g2⟩, g3, g4, g5, sm⟩
      obtain ⟨ma, hma, rfl⟩ := refs_get hx
      obtain ⟨k, hk, hmk⟩ := pair_get hT hma
      have hi := (List.getElem?_eq_some_iff.mp hk).1
      obtain ⟨ns, hns, rfl⟩ := (hks k).mp (List.mem_of_getElem? hk)
      have hm4 := sm _ _ hmk (tupG hmk)
      have ht4 := sm _ _ ht3 ntG
      have hkf := kerM_fac W ns
      have hkn := facL_lenOf hkf
      have hbd := facL_bd hkf
      walk_at "rd"
      intro S so eso hS
      have eso : so = SetI P w S (dedI (kerM W ns)) := eso
      have s45 : Same H4 (upd H4 S so) := Same.new (Same.refl H4) hS
      have eS : (upd H4 S so) S = some (SetI P w S (dedI (kerM W ns))) := by rw [upd_same, eso]
      generalize upd H4 S so = H5 at s45 eS ⊢
      have hdl := dedI_le (kerM W ns)
      refine ⟨S, dedI (kerM W ns), rfl, eS, by omega, fun fs Ls pm up hLs => ?_⟩
      have hfs : ∀ f, f ∈ fs ↔ f ∈ kerM W ns := fun f => by rw [pm.mem_iff, dedI_mem]
      have hfl : fs.length ≤ 8 := by rw [pm.length_eq]; have := dedI_le (kerM W ns); omega
      have s56 : Same H5 (upd H5 Ls (.lst (fs.map V.int))) := Same.new (Same.refl H5) hLs
      have eLs : (upd H5 Ls (.lst (fs.map V.int))) Ls = some (.lst (fs.map V.int)) := upd_same
      generalize upd H5 Ls (.lst (fs.map V.int)) = H6 at s56 eLs ⊢
      have s46 := s45.trans s56
      have g16 := s46 _ _ g1
      have hLsG : Ls ≠ G := fun z => by rw [z, g16] at eLs; cases eLs
      have hm6 := s46 _ _ hm4
      have ht6 := s46 _ _ ht4
      clear eS s45 s56 hS hLs
      walk_at "rd"
      refine forR_list (xs := fs.map V.int) (alJ p t G W (ks.take i) ma (kerM W ns) fs H6) ?_ ?_ ?_ ?_
      · exact ⟨f, gl, rfl, ⟨kvs, g16, g2⟩, g3, g4, fun g => by rw [g5]; simp, Sm1.refl⟩
      · rintro j σ H' hj ⟨f, gl, rfl, _, _, _, _, sn⟩
        exact sn _ _ eLs hLsG
      · rintro j x σ H7 hx ⟨f', gl', rfl, ⟨kvs', q1, q2⟩, q3, q4, q5, sn⟩
        obtain ⟨f0, hf0, rfl⟩ := int_getI hx
        have hj := (List.getElem?_eq_some_iff.mp hf0).1
        have tG6 : ∀ {b : Addr} {xs : List V}, H6 b = some (.tup xs) → b ≠ G := fun {b xs} h z => by rw [z, g16] at h; cases h
        have ht7 := sn _ _ ht6 (tG6 ht6)
        have hm7 := sn _ _ hm6 (tG6 hm6)
        unfold sDPut
        walk_at "rd"
        refine lcR_tup (xs := (upN W.states.length).map V.int) fun D hD => ⟨atI5 D W.states.length (kerM W ns) f0 H7, ⟨by rw [List.take_zero, List.filter_nil]; exact upd_same, Same.new (Same.refl H7) hD⟩, ?_, ?_, ?_⟩
        · rintro b H8 hb ⟨_, sx⟩
          exact sx _ _ ht7
        · rintro b y H8 hy ⟨e1, sx⟩
          obtain ⟨rfl, hbn, hbg⟩ := upN_get hy
          have hm8 := sx _ _ hm7
          have hat : atI ((kerM W ns).map V.int) ((b : Nat) : Int) = some (.int ((kerM W ns).getD b 0)) := atI_nat (by rw [List.getElem?_map, List.getElem?_eq_getElem (by omega : b < (kerM W ns).length), List.getD_eq_getElem?_getD, List.getElem?_eq_getElem (by omega : b < (kerM W ns).length)]; rfl)
          have hbl : ((((upN W.states.length).take b).filter fun i => decide ((kerM W ns).getD i.toNat 0 = f0)).map V.int).length < sizeLine := by
            rw [List.length_map]
            have z := List.length_filter_le (fun i => decide ((kerM W ns).getD i.toNat 0 = f0)) ((upN W.states.length).take b)
            rw [List.length_take, upN_len] at z
            omega
          have efs : ((upN W.states.length).take (b + 1)).filter (fun i => decide ((kerM W ns).getD i.toNat 0 = f0)) = ((upN W.states.length).take b).filter (fun i => decide ((kerM W ns).getD i.toNat 0 = f0)) ++ (if (kerM W ns).getD b 0 = f0 then [((b : Nat) : Int)] else []) := by
            rw [take_snoc hbg, List.filter_append]
            congr 1
            by_cases e : (kerM W ns).getD b 0 = f0
            · rw [if_pos e, List.filter_cons, Int.toNat_natCast, decide_eq_true e]; rfl
            · rw [if_neg e, List.filter_cons, Int.toNat_natCast, decide_eq_false e]; rfl
          walk_at "rd"
          refine iteD (fun e => ?_) (fun e => ?_)
          · have e : (kerM W ns).getD b 0 = f0 := V.int.inj e
            rw [if_pos e] at efs
            walk_at "rd"
            refine ⟨?_, Same.put sx hD⟩
            rw [upd_same, efs, List.map_append]
            rfl
          · have e : ¬ (kerM W ns).getD b 0 = f0 := fun z => e (congrArg V.int z)
            rw [if_neg e, List.append_nil] at efs
            refine ⟨?_, sx⟩
            rw [efs]
            exact e1
        · rintro H8 ⟨e1, s78⟩
          rw [List.length_map, List.take_length] at e1
          have e1 : H8 D = some (.lst ((clsK W.states.length (kerM W ns) f0).map V.int)) := e1
          walk_at "rd"
          intro T0 hT0
          have s89 : Same H8 (upd H8 T0 (.tup ((clsK W.states.length (kerM W ns) f0).map V.int))) := Same.new (Same.refl H8) hT0
          have eT : (upd H8 T0 (.tup ((clsK W.states.length (kerM W ns) f0).map V.int))) T0 = some (.tup ((clsK W.states.length (kerM W ns) f0).map V.int)) := upd_same
          generalize upd H8 T0 (.tup ((clsK W.states.length (kerM W ns) f0).map V.int)) = H9 at s89 eT ⊢
          have s79 := s78.trans s89
          have q19 := s79 _ _ q1
          have hkvl : kvs'.length = gl'.length := by have := congrArg List.length q2; simpa using this
          have hgl : gl'.length ≤ 256 := by
            have := nodup_len (U := subsI (upN W.states.length)) q3 q4
            rw [subsI_len, upN_len] at this
            exact Nat.le_trans this (Nat.pow_le_pow_right (by decide) hs8)
          walk_at "rd"
          refine ⟨DPut.t q19 (by rw [kI_V]; exact eT) (by omega), ?_⟩
          have sn9 : Sm1 G H6 (upd H9 G (.dT (putK kvs' (kI (clsK W.states.length (kerM W ns) f0)) (.bl true)))) := (sn.on s79).put
          have new : ∀ (g : List Int) (gl2 : List (List Int)), (g ∈ gl2 ↔ g ∈ gl' ∨ g = clsK W.states.length (kerM W ns) f0) → (g ∈ gl2 ↔ (alK W (ks.take i) g ∨ ∃ f ∈ fs.take (j + 1), g = clsK W.states.length (kerM W ns) f)) := fun g gl2 hg => by
            rw [hg, q5, take_snoc hf0]
            constructor
            · rintro ((z | ⟨f, z1, z2⟩) | z)
              · exact .inl z
              · exact .inr ⟨f, List.mem_append_left _ z1, z2⟩
              · exact .inr ⟨f0, List.mem_append_right _ (.head _), z⟩
            · rintro (z | ⟨f, z1, z2⟩)
              · exact .inl (.inl z)
              · rcases List.mem_append.mp z1 with z1 | z1
                · exact .inl (.inr ⟨f, z1, z2⟩)
                · rw [List.mem_singleton.mp z1] at z2
                  exact .inr z2
          cases hv : valV kvs' (kI (clsK W.states.length (kerM W ns) f0)) with
          | some v =>
            have hm : clsK W.states.length (kerM W ns) f0 ∈ gl' := kI_mem.mp (q2 ▸ valV_in hv)
            refine ⟨_, gl', rfl, ⟨_, upd_same, by rw [putK_old _ hv, q2]⟩, q3, q4, fun g => new g gl' ⟨.inl, fun z => z.elim id fun z => z ▸ hm⟩, sn9⟩
          | none =>
            have hm : clsK W.states.length (kerM W ns) f0 ∉ gl' := fun z => valV_not hv (by rw [q2]; exact kI_mem.mpr z)
            refine ⟨_, gl' ++ [clsK W.states.length (kerM W ns) f0], rfl, ⟨_, upd_same, by rw [putK_new _ hv, List.map_append, List.map_append, q2]; rfl⟩, ?_, ?_, fun g => new g _ (by rw [List.mem_append, List.mem_singleton]), sn9⟩
            · rw [List.nodup_append]
              refine ⟨q3, by simp, fun a ha b hb e => hm ?_⟩
              rw [← List.mem_singleton.mp hb, ← e]
              exact ha
            · intro g hg
              rcases List.mem_append.mp hg with z | z
              · exact q4 g z
              · rw [List.mem_singleton.mp z]
                exact clsK_sub
      · rintro σ H7 ⟨f', gl', rfl, ⟨kvs', q1, q2⟩, q3, q4, q5, sn⟩
        refine ⟨_, _, gl', rfl, ⟨kvs', q1, q2⟩, q3, q4, fun g => ?_, fun b o hb n => sn _ _ (s46 _ _ (sm _ _ hb n)) n⟩
        rw [q5, List.length_map, List.take_length, take_snoc hk]
        constructor
        · rintro (⟨k', z1, z2⟩ | ⟨f, z1, z2⟩)
          · exact ⟨k', List.mem_append_left _ z1, z2⟩
          · exact ⟨_, List.mem_append_right _ (.head _), f, (hfs f).mp z1, z2⟩
        · rintro ⟨k', z1, f, z2, z3⟩
          rcases List.mem_append.mp z1 with z1 | z1
          · exact .inl ⟨k', z1, f, z2, z3⟩
          · rw [List.mem_singleton.mp z1] at z2 z3
            exact .inr ⟨f, (hfs f).mpr z2, z3⟩
    · rintro σ H4 ⟨m, f, gl, rfl, ⟨kvs, g1, g2⟩, g3, g4, g5, sm⟩
      rw [List.length_map, ← hkl', List.take_length] at g5
      have hkvl : kvs.length = gl.length := by have := congrArg List.length g2; simpa using this
      have hgl : gl.length ≤ 256 := by
        have := nodup_len (U := subsI (upN W.states.length)) g3 g4
        rw [subsI_len, upN_len] at this
        exact Nat.le_trans this (Nat.pow_le_pow_right (by decide) hs8)
      have ht4 := sm _ _ ht3 ntG
      refine ⟨_, rfl, ?_⟩
      refine ⟨G, _, rfl, g1, trivial, fun od => ?_⟩
      refine ⟨G, od, rfl, .inr ⟨kvs, upd_same, ?_⟩⟩
      have s0z : Same H (upd H4 G (.frz od (.dT kvs))) := (Sm1.put sm).same s03 fG
      have ez : (upd H4 G (.frz od (.dT kvs))) G = some (.frz od (.dT kvs)) := upd_same
      have htz : (upd H4 G (.frz od (.dT kvs))) t = some (.tup ((upN W.states.length).map V.int)) := by rw [upd_ne ntG]; exact ht4
      generalize upd H4 G (.frz od (.dT kvs)) = H5 at s0z ez htz ⊢
      refine lcR_keysT fun D hD => ⟨grI5 D W.states.length gl H5, ⟨[], upd_same, by rw [List.take_zero, List.filter_nil]; exact .nil, Same.new (Same.refl H5) hD⟩, ?_, ?_, ?_⟩
      · rintro j H6 hj ⟨_, _, _, sx⟩
        exact sx _ _ ez
      · rintro j kk v qa H6 hk hq ⟨qs, e1, e2, sx⟩
        obtain ⟨g, hg, rfl⟩ := key_tupW g2 hk
        rw [kI_V] at hq
        have hj := (List.getElem?_eq_some_iff.mp hg).1
        have ht6 := sx _ _ htz
        have hbl : (qs.map V.ref).length < sizeLine := by
          rw [List.length_map, e2.length]
          have z := List.length_filter_le (fun g => !decide (g = upN W.states.length)) (gl.take j)
          rw [List.length_take] at z
          omega
        have efs : (gl.take (j + 1)).filter (fun g => !decide (g = upN W.states.length)) = (gl.take j).filter (fun g => !decide (g = upN W.states.length)) ++ (if g = upN W.states.length then [] else [g]) := by
          rw [take_snoc hg, List.filter_append]
          congr 1
          by_cases e : g = upN W.states.length
          · rw [if_pos e, List.filter_cons, decide_eq_true e]; rfl
          · rw [if_neg e, List.filter_cons, decide_eq_false e]; rfl
        have d1 : Dp K H6 (.ref qa) (.tuple (g.map PyData.int)) := .tup (SqT.of hq) (dps_ints g)
        have d2 : Dp K H6 (.ref t) (.tuple ((upN W.states.length).map PyData.int)) := .tup (SqT.of ht6) (dps_ints _)
        walk_at "rd"
        rw [eqv_tints]
        by_cases e : g = upN W.states.length
        · rw [decide_eq_true e]
          refine ⟨shaped_tints g, shaped_tints _, _, rfl, iteF ?_⟩
          rw [if_pos e, List.append_nil] at efs
          refine ⟨qs, e1, ?_, sx⟩
          rw [efs]
          exact e2
        · rw [decide_eq_false e]
          refine ⟨shaped_tints g, shaped_tints _, _, rfl, iteT ?_⟩
          rw [if_neg e] at efs
          walk_at "rd"
          have kt : KeepT H6 (upd H6 D (.lst (qs.map V.ref ++ [V.ref qa]))) := keepT_put e1 fun xs z => nomatch z
          refine ⟨qs ++ [qa], by rw [upd_same, app_map], ?_, Same.put sx hD⟩
          rw [efs]
          exact paired_snoc (Paired.mapP e2 fun _ _ z => kt _ _ z) (kt _ _ hq)
      · rintro H6 ⟨qs, e1, e2, sx⟩
        rw [hkvl, List.take_length] at e2
        walk_at "rd"
        refine q D qs _ H6 (s0z.trans sx) e1 e2 (fun g => ?_) ?_
        · rw [List.mem_filter, g5]
          unfold alK Alone
          constructor
          · rintro ⟨⟨k, hk, f, hf, e⟩, n⟩
            obtain ⟨ns, hns, rfl⟩ := (hks k).mp hk
            refine ⟨fun z => ?_, ns, f, hns, hf, e⟩
            rw [decide_eq_true z] at n
            cases n
          · rintro ⟨n, ns, f, hns, hf, e⟩
            refine ⟨⟨kerM W ns, (hks _).mpr ⟨ns, hns, rfl⟩, f, hf, e⟩, ?_⟩
            rw [decide_eq_false n]
            rfl
        · have z := List.length_filter_le (fun g => !decide (g = upN W.states.length)) gl
          omega
end
section
variable {P : Program} {w : World} {K : PySem.W.Frag} {mg : Str → Option Value} {base : Heap}
def iwO (D : Addr) (gr : List Int) (gs : List (List Int)) (H : Hp) : Nat → Hp → Prop := fun i H' => H' D = some (.lst (((gs.take i).map fun g => gr.all fun a => decide (a ∈ g)).map V.bl)) ∧ Same H H'
def iwI (D : Addr) (gr g : List Int) (H : Hp) : Nat → Hp → Prop := fun i H' => H' D = some (.lst (((gr.take i).map fun a => decide (a ∈ g)).map V.bl)) ∧ Same H H'
theorem inV_ints (x : Int) (xs : List Int) : inV (.int x) (xs.map V.int) = decide (x ∈ xs) := by
  induction xs with
  | nil => rfl
  | cons y xs ih =>
    rw [List.map_cons]
    show (eqV (.int y) (.int x) || inV (.int x) (xs.map V.int)) = _
    rw [ih]
    show ((y == x) || decide (x ∈ xs)) = _
    by_cases e : x = y
    · subst e; simp
    · rw [beq_eq_false_iff_ne.mpr (Ne.symm e), Bool.false_or]
      by_cases m : x ∈ xs
      · rw [decide_eq_true m, decide_eq_true (List.mem_cons_of_mem _ m)]
      · rw [decide_eq_false m, decide_eq_false fun z => (List.mem_cons.mp z).elim e m]
theorem ok_is_watch {f : Addr} {fd : FuncData} (F : Fun K "is_watch" "is_watch" sis_watch f fd) (T : Bl mg) (T4 : Bl4 mg) : FnOk P w K mg base CX0 1 f fd ["group", "alone"] spIsW := by
  refine F.ok scis_watch (fun vs H Q E h => ?_) (fun cdv A outer s H vs Q E hr h => ?_)
  · obtain ⟨ga, La, gr, as, gs, rfl, _⟩ := h
    rfl
  · obtain ⟨ga, La, gr, as, gs, rfl, hg, hL, hT, hl1, hl2, q⟩ := h
    have nd := scis_watch.nd
    have hSL := sl_eq
    have hal := hT.length
    refine ⟨_, (pss_one (ps_ret (pe_not (pe_cB (cr_anyK K rfl rfl) (by rfl) T4.b_any (by decide +kernel) (pa_c (pe_lcR (own := [("other", 2)]) nd (pi_list (pv 1)) (blkOk_by (own := [("other", 2)]) (N := ["group", "alone", "other", "at"]) (sc := defScope sis_watch) (by decide +kernel)) (fun _ _ _ _ _ => (pg_name (i := 2) nd rfl (Or.inr rfl))) (fun _ _ _ _ _ => pts_nil) (fun _ _ _ _ _ => (pe_cB (cr_allK K rfl rfl) (by rfl) T.b_all (by decide +kernel) (pa_c (pe_lcR (own := [("at", 3)]) nd (pi_seqK K rfl (pv 0)) (blkOk_nest (own := [("at", 3)]) (N := ["group", "alone", "other", "at"]) (by decide +kernel)) (fun _ _ _ _ _ => (pg_name (i := 3) nd rfl (Or.inl rfl))) (fun _ _ _ _ _ => pts_nil) (fun _ _ _ _ _ => (pe_cmpR inT (pv 3) (pv 2) (by rfl)))) pa_nil)))) pa_nil))))), ?_⟩
    walk_at "rd"
    refine lcR_list (xs := as.map V.ref) fun D hD => ⟨iwO D gr gs H, ⟨upd_same, Same.new (Same.refl H) hD⟩, ?_, ?_, ?_⟩
    · rintro i H1 hi ⟨_, sm⟩
      exact sm _ _ hL
    · rintro i x H1 hx ⟨e1, sm⟩
      obtain ⟨b, hb, rfl⟩ := refs_get hx
      obtain ⟨g, hgi, hbg⟩ := pair_get hT hb
      have hi := (List.getElem?_eq_some_iff.mp hgi).1
      have hb1 := sm _ _ hbg
      have hbl : (((gs.take i).map fun g => gr.all fun a => decide (a ∈ g)).map V.bl).length < sizeLine := by rw [List.length_map, List.length_map, List.length_take]; omega
      refine ⟨rfl, iteT ?_⟩
      walk_at "rd"
      have fin : ∀ (D2 : Addr) (H2 : Hp), iwI D2 gr g H1 gr.length H2 → H2 D2 = some (.lst ((gr.map fun a => decide (a ∈ g)).map V.bl)) ∧ Same H1 H2 := fun D2 H2 ⟨z1, z2⟩ => ⟨by rw [List.take_length] at z1; exact z1, z2⟩
      have last : ∀ (D2 : Addr) (H2 : Hp), H2 D2 = some (.lst ((gr.map fun a => decide (a ∈ g)).map V.bl)) → Same H1 H2 → H1 D2 = none → (H2 D = some (.lst (((gs.take i).map fun g => gr.all fun a => decide (a ∈ g)).map V.bl)) ∧ (((gs.take i).map fun g => gr.all fun a => decide (a ∈ g)).map V.bl).length < sizeLine ∧ iwO D gr gs H (i + 1) (upd H2 D (.lst ((((gs.take i).map fun g => gr.all fun a => decide (a ∈ g)).map V.bl) ++ [V.bl ((gr.map fun a => decide (a ∈ g)).all id)])))) := fun D2 H2 _ s12 _ => by
        refine ⟨s12 _ _ e1, hbl, ?_, Same.put (sm.trans s12) hD⟩
        rw [upd_same, take_snoc hgi, List.map_append, List.map_append]
        simp [List.all_map, Function.comp_def]
      rcases hg with hg | hg
      all_goals (
        have hg1 := sm _ _ hg
        first
          | refine .inl ⟨⟨_, SqL.of hg1⟩, lcR_list (xs := gr.map V.int) fun D2 hD2 => ⟨iwI D2 gr g H1, ⟨upd_same, Same.new (Same.refl H1) hD2⟩, ?_, ?_, ?_⟩⟩
          | refine .inr ⟨⟨_, SqT.of hg1⟩, lcR_tup (xs := gr.map V.int) fun D2 hD2 => ⟨iwI D2 gr g H1, ⟨upd_same, Same.new (Same.refl H1) hD2⟩, ?_, ?_, ?_⟩⟩
        · rintro j H2 hj ⟨_, sx⟩
          exact sx _ _ hg1
        · rintro j x H2 hx ⟨e2, sx⟩
          obtain ⟨y, hy, rfl⟩ := int_getI hx
          have hj := (List.getElem?_eq_some_iff.mp hy).1
          have hb2 := sx _ _ hb1
          have hfl := ints_flat g
          have hbl2 : (((gr.take j).map fun a => decide (a ∈ g)).map V.bl).length < sizeLine := by rw [List.length_map, List.length_map, List.length_take]; omega
          refine ⟨rfl, iteT ?_⟩
          walk_at "rd"
          rw [inV_ints]
          refine ⟨?_, Same.put sx hD2⟩
          rw [upd_same, take_snoc hy, List.map_append, List.map_append]
          rfl
        · rintro H2 zz
          rw [List.length_map] at zz
          obtain ⟨z1, s12⟩ := fin D2 H2 zz
          obtain ⟨l1, l2, l3⟩ := last D2 H2 z1 s12 hD2
          have z1' : SqL K H2 D2 ((gr.map fun a => decide (a ∈ g)).map V.bl) := SqL.of z1
          exact ⟨D2, _, rfl, z1', _, l1, l2, l3⟩)
    · rintro H1 ⟨e1, sm⟩
      rw [List.length_map, hal, List.take_length] at e1
      walk_at "rd"
      have e : (!(List.map (fun g => gr.all fun a => decide (a ∈ g)) gs).any id) = isW gr gs := by
        unfold isW
        rw [List.any_map]
        rfl
      rw [e]
      exact q _ sm
end
section
variable {P : Program} {w : World} {K : PySem.W.Frag} {mg : Str → Option Value} {base : Heap}
abbrev sis_enough : Stmt := PySem.Challenge.pw_walksago_k53_states_that_are_none.main.body.getD 17 (.Pass ⟨0, 0, 0, 0⟩)
theorem scis_enough : FnScope ["web", "states", "state"] ["web", "states"] (defScope sis_enough) := ⟨rfl, rfl, rfl, by decide +kernel, rfl, by decide +kernel, by decide +kernel⟩
def enI (p pp : Addr) (W : Wb) (S : List Str) (H : Hp) : Nat → L2.St → Hp → Prop := fun i σ H' => ∃ x : Option V, σ = [some (.ref p), some (.ref pp), x] ∧ H' = H ∧ ∀ y ∈ S.take i, y ∈ W.states
def plI5 (D : Addr) (W : Wb) (S : List Str) (H : Hp) : Nat → Hp → Prop := fun i H' => H' D = some (.lst ((plS W (S.take i)).map V.int)) ∧ Same H H'
theorem ok_is_enough {f C : Addr} {fd : FuncData} {Pt : Addr} {enc : Array Value} (F : Fun K "is_enough" "is_enough" sis_enough f fd) (T : Bl mg) (Gis_watch : Fn P w K mg base "is_watch" 1 ["group", "alone"] spIsW) (Gmet_alone : Fn P w K mg base "met_alone" 9 ["web"] (spAlone Pt enc)) (ENoName : ErrNm P w K mg "NoName" C "word") : FnOk P w K mg base (CXE P w base) 10 f fd ["web", "states"] (spEnough C Pt enc) := by
  refine F.okE scis_enough (fun vs H Q E h => ?_) (fun cdv A outer s H vs Q E hr h => ?_)
  · obtain ⟨p, pp, W, S, rfl, _⟩ := h
    rfl
  · obtain ⟨p, pp, W, S, rfl, hW, g, hpp, hln, hxl, hPt, q, qx⟩ := h
    have nd := scis_enough.nd
    have hSL := sl_eq
    obtain ⟨pst, pm, as, h1, h2, h3, h4⟩ := id hW
    have hat : atI [V.ref pst, V.ref pm] 0 = some (.ref pst) := rfl
    have hfl : (W.states.map V.str).all flatV = true := List.all_eq_true.mpr fun v hv => by
      obtain ⟨u, _, rfl⟩ := List.mem_map.mp hv
      rfl
    refine ⟨_, (pss_cons (ps_forR (pi_tup (pv 1)) (pg_name (i := 2) nd rfl (Or.inl rfl))
        (pss_one (ps_if (pt_cmpR notInT (pv 2) (pe_ix ixT (pv 0) pe_int (fun _ _ => rfl)) (by rfl)) (pss_one (ps_raise (k := 0) ENoName.em (hr.mono (by decide)) (by rfl) ENoName.gl newE (pa_c (pv 2) pa_nil))) pss_nil)) (hp := PassesOwn.leaving))
      (pss_one (ps_ret (pe_fn Gis_watch (hr.mono (by decide)) (by rfl) (pa_c (pe_lcR (own := [("state", 2)]) nd (pi_tup (pv 1)) (blkOk_by (own := [("state", 2)]) (N := ["web", "states", "state"]) (sc := defScope sis_enough) (by decide +kernel)) (fun _ _ _ _ _ => (pg_name (i := 2) nd rfl (Or.inl rfl))) (fun _ _ _ _ _ => pts_nil) (fun _ _ _ _ _ => (pe_bmT PySem.F.slot_tuple_index PySem.F.type_tuple_index mt_indexT (pe_ix ixT (pv 0) pe_int (fun _ _ => rfl)) (pa_c (pv 2) pa_nil)))) (pa_c (pe_fn Gmet_alone (hr.mono (by decide)) (by rfl) (pa_c (pv 0) pa_nil)) pa_nil)))))), ?_⟩
    walk_at "rd"
    refine forR_tup (xs := S.map V.str) (enI p pp W S H) ?_ ?_ ?_ ?_
    · exact ⟨none, rfl, rfl, fun y hy => by simp at hy⟩
    · rintro i σ H' hi ⟨x, rfl, rfl, _⟩
      exact hpp
    · rintro i x σ H' hx ⟨x0, rfl, rfl, hall⟩
      obtain ⟨t, ht, rfl⟩ := strs_getI hx
      have hi := (List.getElem?_eq_some_iff.mp ht).1
      walk_at "rd"
      rw [inV_strs]
      by_cases hm : t ∈ W.states
      · rw [decide_eq_true hm]
        refine iteF ?_
        refine ⟨_, rfl, rfl, fun y hy => ?_⟩
        rw [take_snoc ht] at hy
        rcases List.mem_append.mp hy with z | z
        · exact hall y z
        · rw [List.mem_singleton.mp z]; exact hm
      · rw [decide_eq_false hm]
        refine iteT ?_
        have htl := hxl t (List.mem_of_getElem? ht)
        have eS : S = S.take i ++ t :: S.drop (i + 1) := by
          have e1 : S.drop i = t :: S.drop (i + 1) := by
            rw [List.drop_eq_getElem_cons hi]
            rw [List.getElem?_eq_getElem hi] at ht
            rw [Option.some.inj ht]
          have e2 := (List.take_append_drop i S).symm
          rw [e1] at e2
          exact e2
        walk_at "rd"
        refine ⟨⟨t, rfl, htl⟩, fun d hd => qx (S.take i) t (S.drop (i + 1)) eS hall hm d _ (Same.new (Same.refl H') hd) upd_same⟩
    · rintro σ H' ⟨x0, rfl, rfl, hall⟩
      rw [List.length_map, List.take_length] at hall
      walk_at "rd"
      refine lcR_tup (xs := S.map V.str) fun D hD => ⟨plI5 D W S H', ⟨upd_same, Same.new (Same.refl H') hD⟩, ?_, ?_, ?_⟩
      · rintro i H1 hi ⟨_, sm⟩
        exact sm _ _ hpp
      · rintro i x H1 hx ⟨e1, sm⟩
        obtain ⟨t, ht, rfl⟩ := strs_getI hx
        have hi := (List.getElem?_eq_some_iff.mp ht).1
        have h11 := sm _ _ h1
        have h21 := sm _ _ h2
        have hm := hall t (List.mem_of_getElem? ht)
        have hbl : ((plS W (S.take i)).map V.int).length < sizeLine := by unfold plS; rw [List.length_map, List.length_map, List.length_take]; omega
        have hget : (W.states.map V.str)[pl W.states t]? = some (V.str t) := by rw [List.getElem?_map, pl_get hm]; rfl
        have heq : eqV (V.str t) (V.str t) = true := by show (t == t) = true; exact beq_self_eq_true t
        have hfst : ∀ (m : Nat) (z' : V), m < pl W.states t → (W.states.map V.str)[m]? = some z' → eqV z' (V.str t) = false := fun m z' hlt hz => by
          obtain ⟨y, hy, rfl⟩ := strs_getI hz
          show (y == t) = false
          refine beq_eq_false_iff_ne.mpr fun e => ?_
          rw [e] at hy
          have := pl_of g.snd hy
          omega
        refine ⟨rfl, iteT ?_⟩
        walk_at "rd"
        refine ⟨?_, Same.put sm hD⟩
        rw [upd_same, take_snoc ht]
        unfold plS
        rw [List.map_append, List.map_append]
        rfl
      · rintro H1 ⟨e1, sm⟩
        rw [List.length_map, List.take_length] at e1
        walk_at "rd"
        refine ⟨p, W, rfl, hW.mono sm.keepT, g, sm _ _ hPt, fun L bs gs H2 s2 hL hT hgs hgl => ?_⟩
        walk_at "rd"
        refine ⟨D, L, plS W S, bs, gs, rfl, .inl (s2 _ _ e1), hL, hT, by unfold plS; rw [List.length_map]; exact hln, by omega, fun H3 s3 => ?_⟩
        rw [isW_watch g hall hgs]
        exact q hall H3 ((sm.trans s2).trans s3)
end
section
variable {P : Program} {w : World} {K : PySem.W.Frag} {mg : Str → Option Value} {base : Heap}
abbrev s_law_flags : Stmt := PySem.Challenge.pw_walksago_k53_states_that_are_none.main.body.getD 25 (.Pass ⟨0, 0, 0, 0⟩)
theorem sc_law_flags : FnScope ["thing", "found"] ["thing"] (defScope s_law_flags) := ⟨rfl, rfl, rfl, by decide +kernel, rfl, by decide +kernel, by decide +kernel⟩
abbrev sixN5 : List Str := ["NoName", "NoWeb", "NoTable", "NoRest", "NoOrder", "NoAsk"]
/-- the class at C is the i-th of the six refusals -/
structure Kd (K : PySem.W.Frag) (mg : Str → Option Value) (C : Addr) (i : Nat) : Prop where
  is : ErrIs K C
  at_ : ∀ (j : Nat) (x : Str), sixN5[j]? = some x → ∃ D, mg x = some (.ref D) ∧ PySem.W.kitOne K (.ref C) (.ref D) = some (decide (j = i))
  lo : ∃ L, mg "LongError" = some (.ref L) ∧ PySem.W.kitOne K (.ref C) (.ref L) = some true
  g_ValueError : mg "ValueError" = none
  vv : PySem.W.kitOne K (.ref C) (.type "ValueError") = some true
theorem kd_of {C : Addr} {own : Str} {cs : List Str} (S : ErrsP K mg C own cs) {i : Nat} (h : sixN5[i]? = some own) (hc : ∀ (j : Nat) (x : Str), sixN5[j]? = some x → j ≠ i → x ∈ cs) : Kd K mg C i :=
  ⟨S.is, fun j x hj => by
    by_cases e : j = i
    · subst e
      rw [hj] at h
      cases h
      exact ⟨C, S.gl, by rw [S.kn]; simp⟩
    · obtain ⟨D, m, k⟩ := S.no x (hc j x hj e)
      exact ⟨D, m, by rw [k, decide_eq_false e]⟩, let ⟨L, m, k, _⟩ := S.lo; ⟨L, m, k⟩, S.vn, S.vv⟩
theorem kd_of2 {C : Addr} {own : Str} {cs : List Str} (S : ErrsP K mg C own cs) {i : Nat} (h : sixN5[i]? = some own) (hc : ∀ x ∈ sixN5, x = own ∨ x ∈ cs) : Kd K mg C i := kd_of S h fun j x hj n => by
  rcases hc x (List.mem_of_getElem? hj) with e | e
  · subst e
    have nd : sixN5.Nodup := by decide +kernel
    obtain ⟨hi, e1⟩ := List.getElem?_eq_some_iff.mp h
    obtain ⟨hj', e2⟩ := List.getElem?_eq_some_iff.mp hj
    exact absurd ((List.getElem_inj nd).mp (e2.trans e1.symm)) n
  · exact e
def flagsL (i : Nat) : List V := (List.range 8).map fun k => V.bl (decide (k = i))
def spFlags (K : PySem.W.Frag) (mg : Str → Option Value) : Sp := fun vs H Q _ => ∃ (a C : Addr) (i : Nat), vs = [.ref a] ∧ ErrT H a C ∧ Kd K mg C i ∧ i < 6 ∧ ∀ (L : Addr) (H' : Hp), Same H H' → H' L = some (.lst (flagsL i)) → Q (.ref L) H'
theorem ok_law_flags {f : Addr} {fd : FuncData} (F : Fun K "_law_flags" "_law_flags" s_law_flags f fd) (T : Bl mg) : FnOk P w K mg base CX0 1 f fd ["thing"] (spFlags K mg) := by
  refine F.ok sc_law_flags (fun vs H Q E h => ?_) (fun cdv A outer s H vs Q E hr h => ?_)
  · obtain ⟨a, C, i, rfl, _⟩ := h
    rfl
  · obtain ⟨a, C, i, rfl, eT, S, hi, q⟩ := h
    have nd := sc_law_flags.nd
    obtain ⟨cNoName, mNoName, k0⟩ := S.at_ 0 _ rfl
    obtain ⟨cNoWeb, mNoWeb, k1⟩ := S.at_ 1 _ rfl
    obtain ⟨cNoTable, mNoTable, k2⟩ := S.at_ 2 _ rfl
    obtain ⟨cNoRest, mNoRest, k3⟩ := S.at_ 3 _ rfl
    obtain ⟨cNoOrder, mNoOrder, k4⟩ := S.at_ 4 _ rfl
    obtain ⟨cNoAsk, mNoAsk, k5⟩ := S.at_ 5 _ rfl
    obtain ⟨cLongError, mLongError, k6⟩ := S.lo
    have k7 := S.vv
    have eI := S.is
    refine ⟨_, (pss_cons (ps_set (i := 1) nd rfl (Or.inl rfl) (pe_lst (pa_c (pe_cB (call_isinstW K rfl) (by rfl) T.b_isinstance (by decide +kernel) (pa_c (pv 0) (pa_c (pe_glob (v := .ref cNoName) (by rfl) mNoName rfl) pa_nil))) (pa_c (pe_cB (call_isinstW K rfl) (by rfl) T.b_isinstance (by decide +kernel) (pa_c (pv 0) (pa_c (pe_glob (v := .ref cNoWeb) (by rfl) mNoWeb rfl) pa_nil))) (pa_c (pe_cB (call_isinstW K rfl) (by rfl) T.b_isinstance (by decide +kernel) (pa_c (pv 0) (pa_c (pe_glob (v := .ref cNoTable) (by rfl) mNoTable rfl) pa_nil))) pa_nil)))))
      (pss_cons (ps_set (i := 1) nd rfl (Or.inl rfl) (pe_op op_cat (pv 1) (pe_lst (pa_c (pe_cB (call_isinstW K rfl) (by rfl) T.b_isinstance (by decide +kernel) (pa_c (pv 0) (pa_c (pe_glob (v := .ref cNoRest) (by rfl) mNoRest rfl) pa_nil))) (pa_c (pe_cB (call_isinstW K rfl) (by rfl) T.b_isinstance (by decide +kernel) (pa_c (pv 0) (pa_c (pe_glob (v := .ref cNoOrder) (by rfl) mNoOrder rfl) pa_nil))) (pa_c (pe_cB (call_isinstW K rfl) (by rfl) T.b_isinstance (by decide +kernel) (pa_c (pv 0) (pa_c (pe_glob (v := .ref cNoAsk) (by rfl) mNoAsk rfl) pa_nil))) pa_nil))))))
      (pss_one (ps_ret (pe_op op_cat (pv 1) (pe_lst (pa_c (pe_not (pe_cB (call_isinstW K rfl) (by rfl) T.b_isinstance (by decide +kernel) (pa_c (pv 0) (pa_c (pe_glob (v := .ref cLongError) (by rfl) mLongError rfl) pa_nil)))) (pa_c (pe_not (pe_cB (call_isinstBW K rfl) (by rfl) T.b_isinstance (by decide +kernel) (pa_c (pv 0) (pa_c (pe_bltn (v := .ty "ValueError") (by rfl) S.g_ValueError (by decide +kernel) rfl) pa_nil)))) pa_nil)))))))), ?_⟩
    walk_at "rd"
    intro p1 hp1
    have s1 := Same.new (o := .lst [.bl (decide (0 = i)), .bl (decide (1 = i)), .bl (decide (2 = i))]) (Same.refl H) hp1
    have e1 : (upd H p1 (.lst [.bl (decide (0 = i)), .bl (decide (1 = i)), .bl (decide (2 = i))])) p1 = some (.lst [.bl (decide (0 = i)), .bl (decide (1 = i)), .bl (decide (2 = i))]) := upd_same
    generalize upd H p1 (.lst [.bl (decide (0 = i)), .bl (decide (1 = i)), .bl (decide (2 = i))]) = H1 at s1 e1 ⊢
    have eT1 := eT.same s1
    walk_at "rd"
    intro p2 hp2
    walk_at "rd"
    intro p3 hp3
    have s3 := (s1.new (o := .lst [.bl (decide (3 = i)), .bl (decide (4 = i)), .bl (decide (5 = i))]) hp2).new (o := .lst ([.bl (decide (0 = i)), .bl (decide (1 = i)), .bl (decide (2 = i))] ++ [.bl (decide (3 = i)), .bl (decide (4 = i)), .bl (decide (5 = i))])) hp3
    have e3 : (upd (upd H1 p2 (.lst [.bl (decide (3 = i)), .bl (decide (4 = i)), .bl (decide (5 = i))])) p3 (.lst ([.bl (decide (0 = i)), .bl (decide (1 = i)), .bl (decide (2 = i))] ++ [.bl (decide (3 = i)), .bl (decide (4 = i)), .bl (decide (5 = i))]))) p3 = some (.lst [.bl (decide (0 = i)), .bl (decide (1 = i)), .bl (decide (2 = i)), .bl (decide (3 = i)), .bl (decide (4 = i)), .bl (decide (5 = i))]) := upd_same
    generalize upd (upd H1 p2 (.lst [.bl (decide (3 = i)), .bl (decide (4 = i)), .bl (decide (5 = i))])) p3 (.lst ([.bl (decide (0 = i)), .bl (decide (1 = i)), .bl (decide (2 = i))] ++ [.bl (decide (3 = i)), .bl (decide (4 = i)), .bl (decide (5 = i))])) = H3 at s3 e3 ⊢
    have eT3 := eT.same s3
    walk_at "rd"
    intro p4 hp4
    walk_at "rd"
    intro p5 hp5
    refine q p5 _ ((s3.new hp4).new hp5) ?_
    rw [upd_same]
    have h6 : decide (6 = i) = false := decide_eq_false (by omega)
    have h7 : decide (7 = i) = false := decide_eq_false (by omega)
    show some (HO.lst [.bl (decide (0 = i)), .bl (decide (1 = i)), .bl (decide (2 = i)), .bl (decide (3 = i)), .bl (decide (4 = i)), .bl (decide (5 = i)), .bl (!true), .bl (!true)]) = some (HO.lst [.bl (decide (0 = i)), .bl (decide (1 = i)), .bl (decide (2 = i)), .bl (decide (3 = i)), .bl (decide (4 = i)), .bl (decide (5 = i)), .bl (decide (6 = i)), .bl (decide (7 = i))])
    rw [h6, h7]
    rfl
end
section
variable {P : Program} {w : World} {K : PySem.W.Frag} {mg : Str → Option Value} {base : Heap}
abbrev s_law_strange : Stmt := PySem.Challenge.pw_walksago_k53_states_that_are_none.main.body.getD 26 (.Pass ⟨0, 0, 0, 0⟩)
theorem sc_law_strange : FnScope ["deck", "web", "name", "move", "letters", "any_word", "some", "k"] ["deck", "web"] (defScope s_law_strange) := ⟨rfl, rfl, rfl, by decide +kernel, rfl, by decide +kernel, by decide +kernel⟩
theorem lc_signsJ {i j n : Nat} {lo : Int} {σ : L2.St} {H1 : Hp} {Q : VK} {d a : Addr} (hi0 : i ≠ 0) (hi2 : i ≠ j) (h0 : σ[0]? = some (some (.ref d))) (h2 : σ[j]? = some (some (.str (Str.ofString "abcdefghijklmnopqrstuvwxyz")))) (D1 : DeckD H1 d a) (hn : n ≤ 1000)
    (q : ∀ (D : Addr) (ys : List Str) (H' : Hp), H1 D = none → H' D = some (.lst (ys.map V.str)) → ys.length = n → (∀ y ∈ ys, Sign y) → KeepD d a H1 H' → DeckD H' d a → Q (.ref D) H') :
    LcW (Itr lo n) (gName i) tYes (tOp rIxS (tVar j) (tCall spTake [] E0 (tCons (tVar 0) (tCons (tC (V.int 26)) tNil)))) [i] σ H1 Q := by
  have hL := ltrs_len
  refine lcR_range fun D hD => ⟨fun k H => ∃ ys : List Str, H D = some (.lst (ys.map V.str)) ∧ ys.length = k ∧ (∀ y ∈ ys, Sign y) ∧ KeepD d a H1 H ∧ DeckD H d a, ?_, ?_, ?_⟩
  · exact ⟨[], upd_same, rfl, fun y hy => by simp at hy, KeepD.refl.new hD, D1.new hD⟩
  · rintro k H hk ⟨ys, h1, h3, h4, k1, DK⟩
    have hDd : D ≠ d := D1.free1 hD
    have hDa : D ≠ a := D1.free2 hD
    refine ⟨set_back σ i _, iteT ⟨_, (get_back hi2).trans h2, _, (get_back hi0).trans h0, ?_⟩⟩
    refine ⟨d, a, 26, rfl, by decide, by decide, DK, fun z H' z0 z1 k2 D2 => ?_⟩
    obtain ⟨s, e1, s1, s2, s3⟩ := ltrs_at z0 z1
    have hD' : H' D = some (.lst (ys.map V.str)) := k2 _ _ h1 hDd hDa
    refine ⟨_, _, s, rfl, rfl, hL, e1, _, hD', by rw [List.length_map]; exact small (by omega), ys ++ [⟨#[s]⟩], ?_, by simp [h3], ?_, KeepD.put (k1.trans k2) hD, D2.put hDd hDa⟩
    · rw [upd_same, ← app_map]
    · intro y hy
      rcases List.mem_append.mp hy with z | z
      · exact h4 y z
      · have : y = ⟨#[s]⟩ := by simpa using z
        rw [this]
        exact sign_of s1 s2
  · rintro H ⟨ys, h1, h3, h4, k1, DK⟩
    exact q D ys H hD h1 h3 h4 k1 DK
theorem oneSign (c : String) (h : (Str.ofString c).length = 1 ∧ ∀ x ∈ (Str.ofString c).cps.toList, 97 ≤ x ∧ x ≤ 122) : (Str.ofString c).length = 1 ∧ Low (Str.ofString c) := ⟨h.1, h.2⟩
def spStrange : Sp := fun vs H Q _ => ∃ (d a p : Addr) (W : Wb), vs = [.ref d, .ref p] ∧ WebAt H p W ∧ Good W ∧ DeckD H d a ∧
  ∀ (x : Str) (H' : Hp), Word x → KeepD d a H H' → DeckD H' d a → Q (.str x) H'
theorem ok_law_strange {f : Addr} {fd : FuncData} (F : Fun K "_law_strange" "_law_strange" s_law_strange f fd) (T : Bl mg) (G_law_take : Fn P w K mg base "_law_take" 1 ["deck", "many"] spTake) : FnOk P w K mg base CX0 2 f fd ["deck", "web"] spStrange := by
  refine F.ok sc_law_strange (fun vs H Q E h => ?_) (fun cdv A outer s H vs Q E hr h => ?_)
  · obtain ⟨d, a, p, W, rfl, _⟩ := h
    rfl
  · obtain ⟨d, a, p, W, rfl, hW, g, D, q⟩ := h
    have nd := sc_law_strange.nd
    have hL := ltrs_len
    have hSL := sl_eq
    obtain ⟨ps, pm, as0, h1, h2, h3, h4⟩ := id hW
    have e1 : (W.states.map V.str).length = W.states.length := List.length_map ..
    have e2 : (as0.map V.ref).length = W.moves.length := by rw [List.length_map, h4.length]
    have gs8 := g.s8
    have gs1 := g.s1
    have gm8 := g.m8
    have gm1 := g.m1
    refine ⟨_, (pss_cons (ps_set (i := 2) nd rfl (Or.inl rfl) (pe_ix ixT (pe_ix ixT (pv 1) pe_int (fun _ _ => rfl)) (pe_fn G_law_take (hr.mono (by decide)) (by rfl) (pa_c (pv 0) (pa_c (pe_cB call_lenT (by rfl) T.b_len (by decide +kernel) (pa_c (pe_ix ixT (pv 1) pe_int (fun _ _ => rfl)) pa_nil)) pa_nil))) (fun _ _ => rfl)))
      (pss_cons (ps_set (i := 3) nd rfl (Or.inl rfl) (pe_ix ixT (pe_ix ixT (pe_ix ixT (pv 1) pe_int (fun _ _ => rfl)) (pe_fn G_law_take (hr.mono (by decide)) (by rfl) (pa_c (pv 0) (pa_c (pe_cB call_lenT (by rfl) T.b_len (by decide +kernel) (pa_c (pe_ix ixT (pv 1) pe_int (fun _ _ => rfl)) pa_nil)) pa_nil))) (fun _ _ => rfl)) pe_int (fun _ _ => rfl)))
      (pss_cons (ps_set (i := 4) nd rfl (Or.inr rfl) pe_str)
      (pss_cons (ps_set (i := 5) nd rfl (Or.inl rfl) (pe_joinL pe_str (pe_lcR (own := [("k", 7)]) nd (pi_range1 (by rfl) T.b_range (pa_c (pe_op op_add pe_int (pe_fn G_law_take (hr.mono (by decide)) (by rfl) (pa_c (pv 0) (pa_c pe_int pa_nil)))) pa_nil)) (blkOk_by (own := [("k", 7)]) (N := ["deck", "web", "name", "move", "letters", "any_word", "some", "k"]) (sc := defScope s_law_strange) (by decide +kernel)) (fun _ _ _ _ _ => (pg_name (i := 7) nd rfl (Or.inl rfl))) (fun _ _ _ _ _ => pts_nil) (fun _ _ _ _ _ => (pe_ix ix_str (pv 4) (pe_fn G_law_take (hr.mono (by decide)) (by rfl) (pa_c (pv 0) (pa_c pe_int pa_nil))) (fun _ _ => rfl))))))
      (pss_cons (ps_set (i := 6) nd rfl (Or.inl rfl) (pe_lst (pa_c (pv 3) (pa_c (pe_slice sl_str (pe_op op_add_str (pv 2) pe_str) po_none (po_some pe_int)) (pa_c (pe_slice sl_str (pv 2) po_none (po_some (pe_un un_neg pe_int))) (pa_c (pe_op op_add_str pe_str (pe_slice sl_str (pv 2) (po_some pe_int) po_none)) (pa_c (pe_slice sl_str (pe_op op_add_str (pv 2) pe_str) (po_some (pe_un un_neg pe_int)) po_none) (pa_c (pv 5) (pa_c pe_str pa_nil)))))))))
      (pss_one (ps_ret (pe_ix ixL (pv 6) (pe_fn G_law_take (hr.mono (by decide)) (by rfl) (pa_c (pv 0) (pa_c pe_int pa_nil))) (fun _ _ => rfl))))))))), ?_⟩
    walk_at "rd"
    refine ⟨d, a, _, rfl, by rw [e1]; omega, by rw [e1]; omega, D, fun z1 H1 z10 z11 k1 D1 => ?_⟩
    obtain ⟨nr, hx1, hm1⟩ := L2.strs_at (xs := W.states) z10 (by rw [e1] at z11; exact z11)
    have nmr := g.snm _ hm1
    have kt1 := k1.keepT D
    have h11 := kt1 _ _ h1
    have h21 := kt1 _ _ h2
    have h31 := kt1 _ _ h3
    have h41 : Paired (MoveAt H1) as0 W.moves := Paired.mapP h4 fun _ _ z => z.mono kt1
    walk_at "rd"
    refine ⟨d, a, _, rfl, by rw [e2]; omega, by rw [e2]; omega, D1, fun z2 H2 z20 z21 k2 D2 => ?_⟩
    rw [e2] at z21
    have kt2 := k2.keepT D1
    have h12 := kt2 _ _ h11
    have h22 := kt2 _ _ h21
    have h32 := kt2 _ _ h31
    have h42 : Paired (MoveAt H2) as0 W.moves := Paired.mapP h41 fun _ _ z => z.mono kt2
    obtain ⟨j2, rfl⟩ := Int.eq_ofNat_of_zero_le z20
    have hj2 : j2 < as0.length := by rw [h42.length]; omega
    obtain ⟨m, hm, b1, hb1, hb2⟩ := pair_get h42 (List.getElem?_eq_getElem hj2)
    have hmm := List.mem_of_getElem? hm
    have nmm := (g.mv m hmm).nm
    have ea : atI (as0.map V.ref) (j2 : Int) = some (V.ref as0[j2]) := atI_nat (by rw [List.getElem?_map, List.getElem?_eq_getElem hj2]; rfl)
    have i0 : atI [V.str m.1, V.int m.2.1, V.ref b1] 0 = some (V.str m.1) := rfl
    walk_at "rd"
    refine ⟨d, a, 8, rfl, by decide, by decide, D2, fun z3 H3 z30 z31 k3 D3 => ?_⟩
    walk_at "rd"
    refine lc_signsJ (i := 7) (j := 4) (by decide) (by decide) rfl rfl D3 (by omega) fun B ys H4 hB hB2 hy1 hy2 k4 D4 => ?_
    have hs2 : (ys.map (·.length)).sum + ys.length * (Str.ofString "").length ≤ 16777216 := by
      rw [sum_signs hy2, emp_eq]
      show _ + ys.length * 0 ≤ _
      omega
    walk_at "rd"
    obtain ⟨nl, nw⟩ := join_signs hy2
    generalize Txt.join (Str.ofString "") ys = w0 at nl nw ⊢
    have l0 := nmr.2.1
    have l9 := nmm.2.1
    have la : (Str.ofString "a").length = 1 := by decide +kernel
    have lq : (Str.ofString "q").length = 1 := by decide +kernel
    have lz : (Str.ofString "z").length = 1 := by decide +kernel
    have l1 := str_app_len nr (Str.ofString "a")
    have l2 := cutS_length (nr ++ Str.ofString "a") none (some 8)
    have l3 := cutS_length nr none (some (-1))
    have l4 := cutS_length nr (some 1) none
    have l5 := str_app_len (Str.ofString "q") (cutS nr (some 1) none)
    have l6 := str_app_len nr (Str.ofString "z")
    have l7 := cutS_length (nr ++ Str.ofString "z") (some (-8)) none
    walk_at "rd"
    intro L hL0
    have hL4 : upd H4 L (.lst ([m.1, cutS (nr ++ Str.ofString "a") none (some 8), cutS nr none (some (-1)), Str.ofString "q" ++ cutS nr (some 1) none, cutS (nr ++ Str.ofString "z") (some (-8)) none, w0, Str.ofString "q"].map V.str)) L = some (.lst ([m.1, cutS (nr ++ Str.ofString "a") none (some 8), cutS nr none (some (-1)), Str.ofString "q" ++ cutS nr (some 1) none, cutS (nr ++ Str.ofString "z") (some (-8)) none, w0, Str.ofString "q"].map V.str)) := upd_same
    have kL := KeepD.new ((((k1.trans k2).trans k3).trans k4)) (o := .lst ([m.1, cutS (nr ++ Str.ofString "a") none (some 8), cutS nr none (some (-1)), Str.ofString "q" ++ cutS nr (some 1) none, cutS (nr ++ Str.ofString "z") (some (-8)) none, w0, Str.ofString "q"].map V.str)) hL0
    have DL := D4.new (o := .lst ([m.1, cutS (nr ++ Str.ofString "a") none (some 8), cutS nr none (some (-1)), Str.ofString "q" ++ cutS nr (some 1) none, cutS (nr ++ Str.ofString "z") (some (-8)) none, w0, Str.ofString "q"].map V.str)) hL0
    have hall : ∀ x ∈ [m.1, cutS (nr ++ Str.ofString "a") none (some 8), cutS nr none (some (-1)), Str.ofString "q" ++ cutS nr (some 1) none, cutS (nr ++ Str.ofString "z") (some (-8)) none, w0, Str.ofString "q"], Word x := by
      intro x hx
      simp only [List.mem_cons, List.not_mem_nil, or_false] at hx
      have wa : Low (Str.ofString "a") := (aOne).2.2
      have wz := (oneSign "z" (by decide +kernel)).2
      have wq := (oneSign "q" (by decide +kernel)).2
      rcases hx with rfl | rfl | rfl | rfl | rfl | rfl | rfl
      · exact ⟨by omega, nmm.2.2⟩
      · exact ⟨by omega, cutS_low (nmr.2.2.app wa)⟩
      · exact ⟨by omega, cutS_low nmr.2.2⟩
      · exact ⟨by omega, wq.app (cutS_low nmr.2.2)⟩
      · exact ⟨by omega, cutS_low (nmr.2.2.app wz)⟩
      · exact ⟨by omega, nw⟩
      · exact ⟨by omega, wq⟩
    have hlen : [m.1, cutS (nr ++ Str.ofString "a") none (some 8), cutS nr none (some (-1)), Str.ofString "q" ++ cutS nr (some 1) none, cutS (nr ++ Str.ofString "z") (some (-8)) none, w0, Str.ofString "q"].length = 7 := rfl
    show _
    have eu : [V.str m.1, V.str (cutS (nr ++ Str.ofString "a") none (some 8)), V.str (cutS nr none (some (-1))), V.str (Str.ofString "q" ++ cutS nr (some 1) none), V.str (cutS (nr ++ Str.ofString "z") (some (-8)) none), V.str w0, V.str (Str.ofString "q")] = [m.1, cutS (nr ++ Str.ofString "a") none (some 8), cutS nr none (some (-1)), Str.ofString "q" ++ cutS nr (some 1) none, cutS (nr ++ Str.ofString "z") (some (-8)) none, w0, Str.ofString "q"].map V.str := rfl
    rw [eu]
    generalize [m.1, cutS (nr ++ Str.ofString "a") none (some 8), cutS nr none (some (-1)), Str.ofString "q" ++ cutS nr (some 1) none, cutS (nr ++ Str.ofString "z") (some (-8)) none, w0, Str.ofString "q"] = al at hL4 kL DL hall hlen ⊢
    generalize upd H4 L (.lst (al.map V.str)) = H5 at hL4 kL DL ⊢
    have nLd : L ≠ d := D4.free1 hL0
    have nLa : L ≠ a := D4.free2 hL0
    walk_at "rd"
    refine ⟨d, a, 7, rfl, by decide, by decide, DL, fun z6 H6 z60 z61 k6 D6 => ?_⟩
    obtain ⟨x2, hx2, hm2⟩ := L2.strs_at (xs := al) z60 (by rw [hlen]; exact z61)
    have hL6 := k6 _ _ hL4 nLd nLa
    walk_at "rd"
    exact q x2 H6 (hall _ hm2) (kL.trans k6) D6
end
section
theorem eqvAll_selfL : ∀ {l : List PyData}, (∀ d ∈ l, PyData.eqv d d = true) → PyData.eqvAll l l = true
  | [], _ => by rw [PyData.eqvAll.eq_1]
  | d :: l, h => by
    rw [PyData.eqvAll.eq_2, h d (.head _), eqvAll_selfL fun x hx => h x (.tail _ hx)]
    rfl
theorem eqv_lself {l : List PyData} (h : ∀ d ∈ l, PyData.eqv d d = true) : PyData.eqv (.list l) (.list l) = true := by
  rw [PyData.eqv.eq_7]
  exact eqvAll_selfL h
theorem eqv_lbls (bs : List Bool) : PyData.eqv (.list (bs.map PyData.bool)) (.list (bs.map PyData.bool)) = true := eqv_lself fun d hd => by
  obtain ⟨b, _, rfl⟩ := List.mem_map.mp hd
  rw [PyData.eqv.eq_2]
  exact beq_self_eq_true b
theorem lay_list {n : Nat} {l : List PyData} (h : ∀ d ∈ l, d.canLay0 = true ∧ d.depth ≤ n) : (PyData.list l).canLay0 = true ∧ (PyData.list l).depth ≤ n + 1 := by
  have a : ∀ l : List PyData, (∀ d ∈ l, d.canLay0 = true ∧ d.depth ≤ n) → PyData.canLayAll0 l = true ∧ PyData.depthAll l ≤ n := fun l => by
    induction l with
    | nil => exact fun _ => ⟨rfl, Nat.zero_le _⟩
    | cons x r ih =>
      intro h
      obtain ⟨i1, i2⟩ := ih fun y hy => h y (.tail _ hy)
      obtain ⟨j1, j2⟩ := h x (.head _)
      refine ⟨?_, ?_⟩
      · show (x.canLay0 && PyData.canLayAll0 r) = true
        rw [i1, j1]; rfl
      · show max x.depth (PyData.depthAll r) ≤ n
        exact Nat.max_le.mpr ⟨j2, i2⟩
  obtain ⟨a1, a2⟩ := a l h
  exact ⟨by rw [PyData.canLay0.eq_5]; exact a1, by rw [PyData.depth.eq_1]; exact Nat.succ_le_succ a2⟩
theorem lay_lbls (bs : List Bool) : (PyData.list (bs.map PyData.bool)).canLay0 = true ∧ (PyData.list (bs.map PyData.bool)).depth ≤ 1 := lay_list (n := 0) fun d hd => by
  obtain ⟨b, _, rfl⟩ := List.mem_map.mp hd
  exact ⟨rfl, Nat.le_refl _⟩
theorem shaped_lay {n : Nat} {d : PyData} (h : d.canLay0 = true ∧ d.depth ≤ n) (hn : n ≤ 64) : SeqAt.shaped d = true := by
  unfold SeqAt.shaped
  rw [h.1, decide_eq_true (Nat.le_trans h.2 hn)]
  rfl
theorem dps_lbls {K : PySem.W.Frag} {H : Hp} : ∀ bs : List Bool, DpAll K H (bs.map V.bl) (bs.map PyData.bool)
  | [] => .nil
  | x :: r => .cons (.bl x) (dps_lbls r)
theorem flagsL_eq (i : Nat) : flagsL i = ((List.range 8).map fun k => decide (k = i)).map V.bl := by unfold flagsL; rw [List.map_map]; rfl
variable {P : Program} {w : World} {K : PySem.W.Frag} {mg : Str → Option Value} {base : Heap}
abbrev s_law_right : Stmt := PySem.Challenge.pw_walksago_k53_states_that_are_none.main.body.getD 27 (.Pass ⟨0, 0, 0, 0⟩)
theorem sc_law_right : FnScope ["web", "states", "strange", "caught", "e", "name", "k"] ["web", "states"] (defScope s_law_right) := ⟨rfl, rfl, rfl, by decide +kernel, rfl, by decide +kernel, by decide +kernel⟩
def spRight5 (Pt : Addr) (enc : Array Value) : Sp := fun vs H Q _ => ∃ (p pp : Addr) (W : Wb) (S : List Str), vs = [.ref p, .ref pp] ∧ WebAt H p W ∧ Good W ∧ H pp = some (.tup (S.map V.str)) ∧ S.length ≤ 1000 ∧ (∀ x ∈ S, Word x) ∧ H Pt = some (.tbl enc) ∧ ∀ H', Same H H' → Q (.bl true) H'
def riI5 (D : Addr) (W : Wb) (l : List Str) (H : Hp) : Nat → Hp → Prop := fun k H' => H' D = some (.lst (((l.take k).filter fun s => !decide (s ∈ W.states)).map V.str)) ∧ Same H H'
def rkI (D : Addr) (H : Hp) : Nat → Hp → Prop := fun k H' => H' D = some (.lst (((List.range k).map fun j => decide (j = 0)).map V.bl)) ∧ Same H H'
theorem filt_first {W : Wb} {S1 S2 : List Str} {x : Str} (h1 : ∀ y ∈ S1, y ∈ W.states) (hx : x ∉ W.states) : (S1 ++ x :: S2).filter (fun s => !decide (s ∈ W.states)) = x :: S2.filter fun s => !decide (s ∈ W.states) := by
  rw [List.filter_append, List.filter_eq_nil_iff.mpr (fun y hy => by simp [h1 y hy]), List.filter_cons_of_pos (by simp [hx])]
  rfl
theorem filt_none {W : Wb} {S : List Str} (h : ∀ y ∈ S, y ∈ W.states) : S.filter (fun s => !decide (s ∈ W.states)) = [] := List.filter_eq_nil_iff.mpr fun y hy => by simp [h y hy]
theorem ok_law_right {f C : Addr} {fd : FuncData} {Pt : Addr} {enc : Array Value} (F : Fun K "_law_right" "_law_right" s_law_right f fd) (T : Bl mg) (S0 : ErrsP K mg C "NoName" ["NoAsk", "NoOrder", "NoRest", "NoTable", "NoWeb"]) (KD : Kd K mg C 0) (wd : PySem.W.findIn K (.ref C) "word" = some none) (Gis_enough : FnE P w K mg base "is_enough" 10 ["web", "states"] (spEnough C Pt enc)) (G_law_flags : Fn P w K mg base "_law_flags" 1 ["thing"] (spFlags K mg)) : FnOk P w K mg base CX0 11 f fd ["web", "states"] (spRight5 Pt enc) := by
  refine F.ok sc_law_right (fun vs H Q E h => ?_) (fun cdv A outer s H vs Q E hr h => ?_)
  · obtain ⟨p, pp, W, S, rfl, _⟩ := h
    rfl
  · obtain ⟨p, pp, W, S, rfl, hW, g, hpp, hln, hwd, hPt, q⟩ := h
    have nd := sc_law_right.nd
    have hSL := sl_eq
    obtain ⟨cLongError, mLongError, _, sNL, sLongError⟩ := S0.lo
    obtain ⟨ps, pm, as0, h1, h2, h3, h4⟩ := id hW
    have fl := flat_strs W.states
    have eI := S0.is
    have eG := eI.toErrGet
    refine ⟨_, (pss_cons (ps_setLcR (i := 2) (own := [("name", 5)]) nd rfl rfl (sw_true rfl rfl rfl (by decide +kernel)) (pi_tup (pv 1)) (blkOk_by (own := [("name", 5)]) (N := ["web", "states", "strange", "caught", "e", "name", "k"]) (sc := defScope s_law_right) (by decide +kernel)) (fun _ _ _ _ _ => (pg_name (i := 5) nd rfl (Or.inl rfl))) (fun _ _ _ _ _ => (pts_one (pt_cmpR notInT (pv 5) (pe_ix ixT (pv 0) pe_int (fun _ _ => rfl)) (by rfl)))) (fun _ _ _ _ _ => (pv 5)))
      (pss_cons (ps_set (i := 3) nd rfl (Or.inl rfl) pe_non)
      (pss_cons (ps_tryEG (j := 4) rfl rfl noxe (px_fn Gis_enough (hr.mono (by decide)) (by rfl) noxe (pa_c (pv 0) (pa_c (pv 1) pa_nil))) nd (by rfl) mLongError sLongError rfl rfl (fun _ => (pss_one (ps_set (i := 3) nd rfl (Or.inl rfl) (pv 4)))))
      (pss_cons (ps_if (pt_cmpR (op_eqD hr.units) (pv 2) (pe_lst pa_nil) (nomark _)) (pss_one (ps_ret (pe_cmpR op_isN (pv 3) pe_non (nomark _)))) pss_nil)
      (pss_one (ps_ret (pe_and (pe_cmpR op_notN (pv 3) pe_non (nomark _)) (pe_and (pe_cmpR (op_eqD hr.units) (pe_fn G_law_flags (hr.mono (by decide)) (by rfl) (pa_c (pv 3) pa_nil)) (pe_lcR (own := [("k", 6)]) nd (pi_range1 (by rfl) T.b_range (pa_c pe_int pa_nil)) (blkOk_by (own := [("k", 6)]) (N := ["web", "states", "strange", "caught", "e", "name", "k"]) (sc := defScope s_law_right) (by decide +kernel)) (fun _ _ _ _ _ => (pg_name (i := 6) nd rfl (Or.inl rfl))) (fun _ _ _ _ _ => pts_nil) (fun _ _ _ _ _ => (pe_cmpR op_eq (pv 6) pe_int (nomark _)))) (nomark _)) (pe_one (pe_cmpR op_eq (pe_errfld (pv 3) rfl) (pe_ix ixL (pv 2) pe_int (fun _ _ => rfl)) (nomark _))))))))))), ?_⟩
    walk_at "rd"
    refine lcR_tup (xs := S.map V.str) fun D0 hD0 => ⟨riI5 D0 W S H, ⟨upd_same, Same.new (Same.refl H) hD0⟩, ?_, ?_, ?_⟩
    · rintro k H3 hk ⟨_, sm⟩
      exact sm _ _ hpp
    · rintro k x H5 hx ⟨c5, sm5⟩
      obtain ⟨st, hst, rfl⟩ := strs_getI hx
      have h15 := sm5 _ _ h1
      have h25 := sm5 _ _ h2
      have hbl : (((S.take k).filter fun s => !decide (s ∈ W.states)).map V.str).length < sizeLine := by
        rw [List.length_map]
        have := List.length_filter_le (fun s => !decide (s ∈ W.states)) (S.take k)
        rw [List.length_take] at this
        omega
      refine ⟨rfl, ?_⟩
      walk_at "rd"
      rw [inV_strs]
      by_cases z : st ∈ W.states
      · rw [decide_eq_true z]
        refine iteF ?_
        refine ⟨?_, sm5⟩
        rw [take_snoc hst, List.filter_append, c5]
        simp [z]
      · rw [decide_eq_false z]
        refine iteT ?_
        walk_at "rd"
        refine ⟨?_, Same.put sm5 hD0⟩
        rw [upd_same, take_snoc hst, List.filter_append, List.map_append]
        simp [z]
    · rintro H1 ⟨c1, s1⟩
      rw [List.length_map, List.take_length] at c1
      walk_at "rd"
      refine ⟨p, pp, W, S, rfl, hW.mono s1.keepT, g, s1 _ _ hpp, hln, fun x hx => Nat.le_trans (hwd x hx).1 (by decide), s1 _ _ hPt, fun hall H2 s2 => ?_, fun S1 x S2 eS hS1 hxw d H2 s2 hd => ?_⟩
      · rw [filt_none hall] at c1
        have c2 := s2 _ _ c1
        walk_at "rd"
        intro L hL
        have nL : D0 ≠ L := ne_of_none c2 hL
        refine ⟨.list ([].map PyData.str), .list [], .lst (SqL.of (by rw [upd_ne nL]; exact c2)) (dps_strs []), .lst (SqL.of upd_same) .nil, rfl, rfl, ?_⟩
        rw [eqv_lnil]
        refine ⟨true, rfl, iteT ?_⟩
        walk_at "rd"
        exact q _ ((s1.trans s2).new hL)
      · subst eS
        rw [filt_first hS1 hxw] at c1
        refine ⟨C, rfl, sNL, fun a ha => ?_⟩
        have s3 := s2.new (o := ErrO a C d) ha
        have hd3 : upd H2 a (ErrO a C d) d = some (.xd [("word", .str x)]) := by
          rw [upd_ne]
          · exact hd
          · rintro rfl; rw [ha] at hd; cases hd
        have ha3 : upd H2 a (ErrO a C d) a = some (ErrO a C d) := upd_same
        generalize upd H2 a (ErrO a C d) = H3 at s3 hd3 ha3 ⊢
        have c3 := s3 _ _ c1
        walk_at "rd"
        intro L hL
        have nL : D0 ≠ L := ne_of_none c3 hL
        have s4 := Same.new (o := .lst []) (Same.refl H3) hL
        have c4 := s4 _ _ c3
        have hd4 := s4 _ _ hd3
        have ha4 := s4 _ _ ha3
        have hlow : ∀ y ∈ x :: S2.filter (fun s => !decide (s ∈ W.states)), PyData.strOk y = true := fun y hy => by
          have : y ∈ S1 ++ x :: S2 := by
            rcases List.mem_cons.mp hy with rfl | hy
            · simp
            · have := (List.mem_filter.mp hy).1
              simp [this]
          exact low_ok (hwd y this).2
        refine ⟨.list ((x :: S2.filter fun s => !decide (s ∈ W.states)).map PyData.str), .list [], .lst (SqL.of c4) (dps_strs _), .lst (SqL.of upd_same) .nil, oks_shaped hlow, rfl, ?_⟩
        rw [eqv_lnil]
        generalize upd H3 L (.lst []) = H4 at s4 c4 hd4 ha4 ⊢
        refine ⟨false, rfl, iteF ?_⟩
        walk_at "rd"
        refine iteN (fun _ => ?_) (fun z => absurd z (fun z => nomatch z))
        walk_at "rd"
        refine ⟨a, C, 0, rfl, .inr (.inl ⟨d, _, ha4, hd4⟩), KD, by decide, fun L2 H5 s5 hL2 => ?_⟩
        have hd5 := s5 _ _ hd4
        have ha5 := s5 _ _ ha4
        have c5 := s5 _ _ c4
        walk_at "rd"
        refine lcR_range fun D1 hD1 => ⟨rkI D1 H5, ⟨upd_same, Same.new (Same.refl H5) hD1⟩, ?_, ?_⟩
        · rintro k H6 hk ⟨c6, sm6⟩
          have hbl : (((List.range k).map fun j => decide (j = 0)).map V.bl).length < sizeLine := by
            rw [List.length_map, List.length_map, List.length_range]
            omega
          refine ⟨rfl, iteT ?_⟩
          walk_at "rd"
          refine ⟨?_, Same.put sm6 hD1⟩
          rw [upd_same, List.range_succ, List.map_append, List.map_append]
          congr 4
          simp
        · rintro H6 ⟨c6, s6⟩
          have hL6 := s6 _ _ hL2
          have hd6 := s6 _ _ hd5
          have ha6 := s6 _ _ ha5
          have c66 := s6 _ _ c5
          refine ⟨.list (((List.range 8).map fun k => decide (k = 0)).map PyData.bool), .list (((List.range 8).map fun k => decide (k = 0)).map PyData.bool), .lst (SqL.of (by rw [hL6, flagsL_eq])) (dps_lbls _), .lst (SqL.of c6) (dps_lbls _), shaped_lay (lay_lbls _) (by decide), shaped_lay (lay_lbls _) (by decide), ?_⟩
          rw [eqv_lbls]
          walk_at "rd"
          refine iteT ?_
          have hlk : List.lookup (Str.ofString "word") [(Str.ofString "word", V.str x)] = some (V.str x) := by rw [List.lookup_cons, beq_self_eq_true]
          have hat : atI ((x :: S2.filter fun s => !decide (s ∈ W.states)).map V.str) 0 = some (V.str x) := (show atI _ ((0 : Nat) : Int) = _ from atI_nat rfl)
          walk_at "rd"
          rw [decide_eq_true rfl]
          exact q H6 (s1.trans (s3.trans (s4.trans (s5.trans s6))))
end
section
variable {P : Program} {w : World} {K : PySem.W.Frag} {mg : Str → Option Value} {base : Heap}
abbrev slaw : Stmt := PySem.Challenge.pw_walksago_k53_states_that_are_none.main.body.getD 28 (.Pass ⟨0, 0, 0, 0⟩)
theorem sclaw : FnScope ["script", "deck", "turn", "web", "names", "k", "states", "more", "strange", "made", "one", "j"] ["script"] (defScope slaw) := ⟨rfl, rfl, rfl, by decide +kernel, rfl, by decide +kernel, by decide +kernel⟩
def spLawT (K : PySem.W.Frag) (Pt : Addr) (enc : Array Value) : Sp := fun vs H Q _ => ∃ (a : Addr) (ns : List Int), vs = [.ref a] ∧ SqL K H a (ns.map V.int) ∧ ns.length ≤ 63 ∧ H Pt = some (.tbl enc) ∧ ∀ H', Q (.bl true) H'
def lawA5 (a d c Pt : Addr) (enc : Array Value) : Nat → L2.St → Hp → Prop := fun _ σ H => ∃ (s2 s3 s4 s5 s6 s7 s8 : Option V), σ = [some (.ref a), some (.ref d), s2, s3, s4, s5, s6, s7, s8, none, none, none] ∧ DeckD H d c ∧ H Pt = some (.tbl enc)
def lawB5 (a d c p L Pt : Addr) (enc : Array Value) (W : Wb) (us : List Str) (tn : V) : Nat → L2.St → Hp → Prop := fun _ σ H => ∃ (s5 s6 s7 s8 : Option V), σ = [some (.ref a), some (.ref d), some tn, some (.ref p), some (.ref L), s5, s6, s7, s8, none, none, none] ∧ DeckD H d c ∧ H Pt = some (.tbl enc) ∧ WebAt H p W ∧ H L = some (.lst (us.map V.str))
def lawC5 (a d c p L S Pt : Addr) (enc : Array Value) (W : Wb) (us : List Str) (tn k : V) : Nat → L2.St → Hp → Prop := fun i σ H => ∃ (s7 s8 : Option V) (xs : List Str), σ = [some (.ref a), some (.ref d), some tn, some (.ref p), some (.ref L), some k, some (.ref S), s7, s8, none, none, none] ∧ DeckD H d c ∧ H Pt = some (.tbl enc) ∧ WebAt H p W ∧ H L = some (.lst (us.map V.str)) ∧
  H S = some (.lst (xs.map V.str)) ∧ xs.length ≤ 8 + i ∧ (∀ x ∈ xs, Word x)
theorem DeckD.tbl {H H' : Hp} {d c Pt : Addr} {enc : Array Value} (k : KeepD d c H H') (D : DeckD H d c) (h : H Pt = some (.tbl enc)) : H' Pt = some (.tbl enc) := by
  obtain ⟨cs, i, sd, h1, h2, _⟩ := D.ex
  exact k _ _ h (by rintro rfl; rw [h1] at h; cases h) (by rintro rfl; rw [h2] at h; cases h)
def strL5 : List Str := ["one rest", "an order", "a line"]
def flI5 (D : Addr) (H : Hp) : Nat → Hp → Prop := fun k H' => ∃ as : List Addr, H' D = some (.lst (as.map V.ref)) ∧ Paired (fun q i => H' q = some (.lst (flagsL i))) as (List.range k) ∧ Same H H'
theorem flagsL_ref {as : List Addr} {i : Nat} (h : some (HO.lst (as.map V.ref)) = some (HO.lst (flagsL i))) : False := by
  have h := HO.lst.inj (Option.some.inj h)
  cases as with
  | nil => cases h
  | cons a r => exact nomatch (List.cons.inj h).1
def fkI5 (D : Addr) (i : Nat) (H : Hp) : Nat → Hp → Prop := fun k H' => H' D = some (.lst (((List.range k).map fun j => decide (j = i)).map V.bl)) ∧ Same H H'
theorem dec_jk {j k : Nat} : ([j].map fun j => decide (j = k)).map V.bl = [.bl (decide (V.int (0 + (k : Int)) = V.int (0 + (j : Int))))] := by
  have : (j = k) ↔ (V.int (0 + (k : Int)) = V.int (0 + (j : Int))) := ⟨fun e => by rw [e], fun e => by have := V.int.inj e; omega⟩
  simp only [List.map_cons, List.map_nil, this]
def pdI (i : Nat) : PyData := .list (((List.range 8).map fun k => decide (k = i)).map PyData.bool)
def pdF (n : Nat) : List PyData := (List.range n).map pdI
theorem dps_paired {H : Hp} : ∀ {as : List Addr} {is : List Nat}, Paired (fun q i => H q = some (.lst (flagsL i))) as is → DpAll K H (as.map V.ref) (is.map pdI)
  | _, _, .nil => .nil
  | _, _, .cons h t => .cons (.lst (SqL.of (by rw [h, flagsL_eq])) (dps_lbls _)) (dps_paired t)
theorem dps_flags {H : Hp} {as : List Addr} {n : Nat} (h : Paired (fun q i => H q = some (.lst (flagsL i))) as (List.range n)) : DpAll K H (as.map V.ref) (pdF n) := dps_paired h
theorem pdF_lay {n : Nat} : (PyData.list (pdF n)).canLay0 = true ∧ (PyData.list (pdF n)).depth ≤ 2 := lay_list (n := 1) fun d hd => by
  obtain ⟨i, _, rfl⟩ := List.mem_map.mp hd
  exact lay_lbls _
theorem pdF_eqv {n : Nat} : PyData.eqv (.list (pdF n)) (.list (pdF n)) = true := eqv_lself fun d hd => by
  obtain ⟨i, _, rfl⟩ := List.mem_map.mp hd
  exact eqv_lbls _
theorem strL5_ok : ∀ x ∈ strL5, PyData.strOk x = true := by decide +kernel
def ssI5 (D : Addr) (H : Hp) : Nat → Hp → Prop := fun k H' => H' D = some (.lst ((strL5.take k).map V.str)) ∧ Same H H'
theorem ok_law {f C CW CT CR CO CA : Addr} {fd : FuncData} {Pt : Addr} {enc : Array Value} (F : Fun K "law" "law" slaw f fd) (T : Bl mg) (G_law_deck : Fn P w K mg base "_law_deck" 1 ["script"] (spDeckD K)) (G_law_take : Fn P w K mg base "_law_take" 1 ["deck", "many"] spTake) (G_law_shuffled : Fn P w K mg base "_law_shuffled" 2 ["deck", "things"] (spShufG K)) (G_law_web : Fn P w K mg base "_law_web" 4 ["deck", "most", "moves"] spWebW5)
    (G_law_strange : Fn P w K mg base "_law_strange" 2 ["deck", "web"] spStrange) (G_law_right : Fn P w K mg base "_law_right" 11 ["web", "states"] (spRight5 Pt enc)) (G_law_flags : Fn P w K mg base "_law_flags" 1 ["thing"] (spFlags K mg))
    (ENoName : ErrNm P w K mg "NoName" C "word") (ENoWeb : ErrNm P w K mg "NoWeb" CW "row") (ENoTable : ErrNm P w K mg "NoTable" CT "row") (ENoRest : ErrNmP K mg "NoRest" CR) (ENoOrder : ErrNmP K mg "NoOrder" CO) (ENoAsk : ErrNmP K mg "NoAsk" CA)
    (g0 : ErrGet K C) (g1 : ErrGet K CW) (g2 : ErrGet K CT) (K0 : Kd K mg C 0) (K1 : Kd K mg CW 1) (K2 : Kd K mg CT 2) (K3 : Kd K mg CR 3) (K4 : Kd K mg CO 4) (K5 : Kd K mg CA 5) (wd : PySem.W.findIn K (.ref C) "word" = some none) (rw1 : PySem.W.findIn K (.ref CW) "row" = some none) (rw2 : PySem.W.findIn K (.ref CT) "row" = some none)
    (t3 : ErrStr K CR) (t4 : ErrStr K CO) (t5 : ErrStr K CA) : FnOk P w K mg base CX0 12 f fd ["script"] (spLawT K Pt enc) := by
  refine F.ok sclaw (fun vs H Q E h => ?_) (fun cdv A outer s H vs Q E hr h => ?_)
  · obtain ⟨a, ns, rfl, _⟩ := h
    rfl
  · obtain ⟨a, ns, rfl, hS, hl, hPt, q⟩ := h
    have nd := sclaw.nd
    have hSL := sl_eq
    refine ⟨_, (pss_cons (ps_set (i := 1) nd rfl (Or.inl rfl) (pe_fn G_law_deck (hr.mono (by decide)) (by rfl) (pa_c (pv 0) pa_nil)))
      (pss_cons (ps_forR (pi_range1 (by rfl) T.b_range (pa_c pe_int pa_nil)) (pg_name (i := 2) nd rfl (Or.inl rfl))
        (pss_cons (ps_set (i := 3) nd rfl (Or.inl rfl) (pe_fn G_law_web (hr.mono (by decide)) (by rfl) (pa_c (pv 1) (pa_c pe_int (pa_c pe_int pa_nil)))))
        (pss_cons (ps_set (i := 4) nd rfl (Or.inl rfl) (pe_fn G_law_shuffled (hr.mono (by decide)) (by rfl) (pa_c (pv 1) (pa_c (pe_ix ixT (pv 3) pe_int (fun _ _ => rfl)) pa_nil))))
        (pss_one (ps_forR (pi_range1 (by rfl) T.b_range (pa_c pe_int pa_nil)) (pg_name (i := 5) nd rfl (Or.inl rfl))
          (pss_cons (ps_set (i := 6) nd rfl (Or.inl rfl) (pe_slice slL (pv 4) po_none (po_some (pe_fn G_law_take (hr.mono (by decide)) (by rfl) (pa_c (pv 1) (pa_c (pe_op op_add (pe_cB call_lenL (by rfl) T.b_len (by decide +kernel) (pa_c (pv 4) pa_nil)) pe_int) pa_nil))))))
          (pss_cons (ps_forR (pi_range1 (by rfl) T.b_range (pa_c (pe_fn G_law_take (hr.mono (by decide)) (by rfl) (pa_c (pv 1) (pa_c pe_int pa_nil))) pa_nil)) (pg_name (i := 7) nd rfl (Or.inl rfl))
            (pss_cons (ps_set (i := 8) nd rfl (Or.inl rfl) (pe_fn G_law_strange (hr.mono (by decide)) (by rfl) (pa_c (pv 1) (pa_c (pv 3) pa_nil))))
            (pss_one (ps_if (PW.pt (pw_and (pt_cmpR notInL (pv 8) (pv 6) (by rfl)) (pw_and1 (pt_cmpR op_ne (pv 8) pe_str (nomark _))))) (pss_one (ps_expr (pe_bmL PySem.F.slot_list_insert PySem.F.type_list_insert mt_insert (pv 6) (pa_c (pe_fn G_law_take (hr.mono (by decide)) (by rfl) (pa_c (pv 1) (pa_c (pe_op op_add (pe_cB call_lenL (by rfl) T.b_len (by decide +kernel) (pa_c (pv 6) pa_nil)) pe_int) pa_nil))) (pa_c (pv 8) pa_nil))))) pss_nil))))
          (pss_one (ps_if (pt_not (pt_val (pe_fn G_law_right (hr.mono (by decide)) (by rfl) (pa_c (pv 3) (pa_c (pe_cT call_tupL (by rfl) T.b_tuple (by decide +kernel) (pa_c (pv 6) pa_nil)) pa_nil))))) (pss_one (ps_ret pe_bl)) pss_nil)))))))))
      (pss_cons (ps_set (i := 9) nd rfl (Or.inl rfl) (pe_lst (pa_c (pe_mkE (k := 0) ENoName.em (hr.mono (by decide)) (by rfl) ENoName.gl noxe (pa_c pe_str pa_nil)) (pa_c (pe_mkE (k := 0) ENoWeb.em (hr.mono (by decide)) (by rfl) ENoWeb.gl noxe (pa_c pe_int pa_nil)) (pa_c (pe_mkE (k := 0) ENoTable.em (hr.mono (by decide)) (by rfl) ENoTable.gl noxe (pa_c pe_int pa_nil)) (pa_c (pe_mkP ENoRest.em (by rfl) ENoRest.gl (pa_c pe_str pa_nil)) (pa_c (pe_mkP ENoOrder.em (by rfl) ENoOrder.gl (pa_c pe_str pa_nil)) (pa_c (pe_mkP ENoAsk.em (by rfl) ENoAsk.gl (pa_c pe_str pa_nil)) pa_nil))))))))
      (pss_cons (ps_if (pt_cmpR (op_neD hr.units) (pe_lcR (own := [("one", 10)]) nd (pi_list (pv 9)) (blkOk_by (own := [("one", 10)]) (N := ["script", "deck", "turn", "web", "names", "k", "states", "more", "strange", "made", "one", "j"]) (sc := defScope slaw) (by decide +kernel)) (fun _ _ _ _ _ => (pg_name (i := 10) nd rfl (Or.inl rfl))) (fun _ _ _ _ _ => pts_nil) (fun _ _ _ _ _ => (pe_fn G_law_flags (hr.mono (by decide)) (by rfl) (pa_c (pv 10) pa_nil)))) (pe_lcR (own := [("k", 5)]) nd (pi_range1 (by rfl) T.b_range (pa_c pe_int pa_nil)) (blkOk_by (own := [("k", 5)]) (N := ["script", "deck", "turn", "web", "names", "k", "states", "more", "strange", "made", "one", "j"]) (sc := defScope slaw) (by decide +kernel)) (fun _ _ _ _ _ => (pg_name (i := 5) nd rfl (Or.inr rfl))) (fun _ _ _ _ _ => pts_nil) (fun _ _ _ _ _ => (pe_lcR (own := [("j", 11)]) nd (pi_range1 (by rfl) T.b_range (pa_c pe_int pa_nil)) (blkOk_nest (own := [("j", 11)]) (N := ["script", "deck", "turn", "web", "names", "k", "states", "more", "strange", "made", "one", "j"]) (by decide +kernel)) (fun _ _ _ _ _ => (pg_name (i := 11) nd rfl (Or.inl rfl))) (fun _ _ _ _ _ => pts_nil) (fun _ _ _ _ _ => (pe_cmpR op_eq (pv 5) (pv 11) (nomark _)))))) (nomark _)) (pss_one (ps_ret pe_bl)) pss_nil)
      (pss_cons (ps_if (pt_cmpR (op_neD hr.units) (pe_lcR (own := [("one", 10)]) nd (pi_list (pe_slice slL (pv 9) (po_some pe_int) po_none)) (blkOk_by (own := [("one", 10)]) (N := ["script", "deck", "turn", "web", "names", "k", "states", "more", "strange", "made", "one", "j"]) (sc := defScope slaw) (by decide +kernel)) (fun _ _ _ _ _ => (pg_name (i := 10) nd rfl (Or.inl rfl))) (fun _ _ _ _ _ => pts_nil) (fun _ _ _ _ _ => (pe_cT (call_strE K rfl hr.units) (by rfl) T.b_str (by decide +kernel) (pa_c (pv 10) pa_nil)))) (pe_lst (pa_c pe_str (pa_c pe_str (pa_c pe_str pa_nil)))) (nomark _)) (pss_one (ps_ret pe_bl)) pss_nil)
      (pss_one (ps_ret (pe_and (pe_cmpR op_eq (pe_errfld (pe_ix ixL (pv 9) pe_int (fun _ _ => rfl)) rfl) pe_str (nomark _)) (pe_and (pe_cmpR op_eq (pe_errfld (pe_ix ixL (pv 9) pe_int (fun _ _ => rfl)) rfl) pe_int (nomark _)) (pe_one (pe_cmpR op_eq (pe_errfld (pe_ix ixL (pv 9) pe_int (fun _ _ => rfl)) rfl) pe_int (nomark _)))))))))))), ?_⟩
    walk_at "rd"
    refine ⟨a, ns, rfl, hS, hl, fun d c H1 fd1 fe1 sm1 D1 => ?_⟩
    walk_at "rd"
    refine forR_range (lawA5 a d c Pt enc) ⟨none, none, none, none, none, none, none, rfl, D1, sm1 _ _ hPt⟩ ?_ ?_
    · rintro i σ H2 hi0 ⟨s2, s3, s4, s5, s6, s7, s8, rfl, D2, gP2⟩
      walk_at "rd"
      refine ⟨d, c, 8, 8, rfl, by decide, by decide, by decide, by decide, D2, fun p W H3 hW g hw1 hw2 k3 D3 => ?_⟩
      have gP3 := DeckD.tbl k3 D2 gP2
      clear k3 D2 gP2
      obtain ⟨ps, pm, as0, h1, h2, h3, h4⟩ := id hW
      have gs8 := g.s8
      walk_at "rd"
      refine ⟨d, c, ps, W.states.map V.str, rfl, .inr (SqT.of h2), by rw [List.length_map]; omega, D3, fun L ys H4 fL hL pm4 k4 D4 => ?_⟩
      have gP4 := DeckD.tbl k4 D3 gP3
      have hW4 := hW.mono (k4.keepT D3)
      have nLd : L ≠ d := D3.free1 fL
      have nLc : L ≠ c := D3.free2 fL
      obtain ⟨us, rfl, pu⟩ := perm_strs pm4
      have hul : us.length ≤ 8 := by rw [pu.length_eq]; omega
      have huw : ∀ x ∈ us, Word x := fun x hx => (g.snm x (pu.mem_iff.mp hx)).word
      clear k4 D3 gP3 hW h1 h2 h3 h4 fL pm4
      walk_at "rd"
      refine forR_range (lawB5 a d c p L Pt enc W us _) ⟨_, _, _, _, rfl, D4, gP4, hW4, hL⟩ ?_ ?_
      · rintro k σ H5 hk0 ⟨s5, s6, s7, s8, rfl, D5, gP5, hW5, hL5⟩
        have e1 : (us.map V.str).length = us.length := List.length_map ..
        walk_at "rd"
        refine ⟨d, c, _, rfl, by rw [e1]; omega, by rw [e1]; omega, D5, fun z1 H6 z10 z11 k6 D6 => ?_⟩
        have hL6 := k6 _ _ hL5 nLd nLc
        have gP6 := DeckD.tbl k6 D5 gP5
        have hW6 := hW5.mono (k6.keepT D5)
        clear k6 D5 gP5 hW5 hL5
        walk_at "rd"
        intro S hS0
        have nLS : L ≠ S := ne_of_none hL6 hS0
        have s7' := Same.new (o := .lst (cutV (us.map V.str) none (some z1))) (Same.refl H6) hS0
        have eS : upd H6 S (.lst (cutV (us.map V.str) none (some z1))) S = some (.lst (cutV (us.map V.str) none (some z1))) := upd_same
        have nSd : S ≠ d := D6.free1 hS0
        have nSc : S ≠ c := D6.free2 hS0
        have D7 := D6.same s7'
        have hL7 := s7' _ _ hL6
        have gP7 := s7' _ _ gP6
        have hW7 := hW6.mono s7'.keepT
        generalize upd H6 S (.lst (cutV (us.map V.str) none (some z1))) = H7 at s7' eS D7 hL7 gP7 hW7 ⊢
        rw [cutV_map] at eS
        have hxs : ∀ x ∈ (us.drop (HT.sIx us.length 0 none)).take (HT.sIx us.length us.length (some z1) - HT.sIx us.length 0 none), Word x := fun x hx => huw x (List.mem_of_mem_drop (List.mem_of_mem_take hx))
        have hxl : ((us.drop (HT.sIx us.length 0 none)).take (HT.sIx us.length us.length (some z1) - HT.sIx us.length 0 none)).length ≤ 8 := by
          rw [List.length_take, List.length_drop]
          omega
        generalize (us.drop (HT.sIx us.length 0 none)).take (HT.sIx us.length us.length (some z1) - HT.sIx us.length 0 none) = xs at eS hxs hxl
        walk_at "rd"
        refine ⟨d, c, 3, rfl, by decide, by decide, D7, fun z2 H8 z20 z21 k8 D8 => ?_⟩
        have hL8 := k8 _ _ hL7 nLd nLc
        have gP8 := DeckD.tbl k8 D7 gP7
        have hW8 := hW7.mono (k8.keepT D7)
        have eS8 := k8 _ _ eS nSd nSc
        clear k8 D7 gP7 hW7 hL7 eS s7' hS0 D6 gP6 hW6 hL6
        walk_at "rd"
        refine forR_range (lawC5 a d c p L S Pt enc W us _ _) ⟨_, _, xs, rfl, D8, gP8, hW8, hL8, eS8, by omega, hxs⟩ ?_ ?_
        · rintro m σ H9 hm0 ⟨s7, s8, xs, rfl, D9, gP9, hW9, hL9, eS9, hxl, hxs⟩
          have hm3 : m < 3 := by omega
          walk_at "rd"
          refine ⟨d, c, p, W, rfl, hW9, g, D9, fun x HA hx kA DA => ?_⟩
          have hLA := kA _ _ hL9 nLd nLc
          have gPA := DeckD.tbl kA D9 gP9
          have hWA := hW9.mono (kA.keepT D9)
          have eSA := kA _ _ eS9 nSd nSc
          have flx := flat_strs xs
          clear kA D9 gP9 hW9 hL9 eS9
          walk_at "rd"
          rw [inV_strs]
          by_cases hin : x ∈ xs
          · rw [decide_eq_true hin]
            refine iteF ?_
            walk_at "rd"
            exact ⟨_, _, xs, rfl, DA, gPA, hWA, hLA, eSA, by omega, hxs⟩
          · rw [decide_eq_false hin]
            refine iteT ?_
            walk_at "rd"
            refine iteN (fun hne => ?_) (fun hne => ?_)
            · have e2 : (xs.map V.str).length = xs.length := List.length_map ..
              walk_at "rd"
              refine ⟨d, c, _, rfl, by rw [e2]; omega, by rw [e2]; omega, DA, fun z3 HB z30 z31 kB DB => ?_⟩
              have hLB := kB _ _ hLA nLd nLc
              have gPB := DeckD.tbl kB DA gPA
              have hWB := hWA.mono (kB.keepT DA)
              have eSB := kB _ _ eSA nSd nSc
              rw [e2] at z31
              walk_at "rd"
              refine ⟨_, _, xs.take z3.toNat ++ x :: xs.drop z3.toNat, rfl, DB.put nSd nSc, ?_, hWB.mono (keepT_put eSB fun xs z => nomatch z), ?_, ?_, ?_, ?_⟩
              · rw [upd_ne]
                · exact gPB
                · rintro rfl; rw [eSB] at gPB; cases gPB
              · rw [upd_ne nLS]; exact hLB
              · rw [upd_same, List.map_append, List.map_cons, List.map_take, List.map_drop]
              · rw [List.length_append, List.length_cons, List.length_take, List.length_drop]
                omega
              · intro y hy
                rcases List.mem_append.mp hy with h | h
                · exact hxs y (List.mem_of_mem_take h)
                · rcases List.mem_cons.mp h with rfl | h
                  · exact hx
                  · exact hxs y (List.mem_of_mem_drop h)
            · walk_at "rd"
              exact ⟨_, _, xs, rfl, DA, gPA, hWA, hLA, eSA, by omega, hxs⟩
        · rintro σ H9 ⟨s7, s8, xs, rfl, D9, gP9, hW9, hL9, eS9, hxl, hxs⟩
          have hlen : (xs.map V.str).length ≤ sizeLine := by rw [List.length_map]; omega
          walk_at "rd"
          intro Tp hTp
          have sT := Same.new (o := .tup (xs.map V.str)) (Same.refl H9) hTp
          have eT : upd H9 Tp (.tup (xs.map V.str)) Tp = some (.tup (xs.map V.str)) := upd_same
          generalize upd H9 Tp (.tup (xs.map V.str)) = HA at sT eT ⊢
          walk_at "rd"
          refine ⟨p, Tp, W, xs, rfl, hW9.mono sT.keepT, g, eT, by omega, hxs, sT _ _ gP9, fun HB sB => ?_⟩
          have s2 := sT.trans sB
          walk_at "rd"
          refine iteF ?_
          exact ⟨_, _, _, _, rfl, D9.same s2, s2 _ _ gP9, hW9.mono s2.keepT, s2 _ _ hL9⟩
      · rintro σ H5 ⟨s5, s6, s7, s8, rfl, D5, gP5, hW5, hL5⟩
        exact ⟨_, _, _, _, _, _, _, rfl, D5, gP5⟩
    · rintro σ G0 ⟨s2, s3, s4, s5, s6, s7, s8, rfl, D2, gP2⟩
      walk_at "rd"
      refine ⟨.inl ⟨_, rfl, by decide +kernel⟩, fun a0 d0 ha0 hd0 n0 => ?_⟩
      have s0e : Same G0 (upd (upd G0 d0 (.xd [("word", .str "ab")])) a0 (ErrO a0 C d0)) := Same.new (Same.new (Same.refl G0) hd0) (by rw [upd_ne n0]; exact ha0)
      have ea0 : (upd (upd G0 d0 (.xd [("word", .str "ab")])) a0 (ErrO a0 C d0)) a0 = some (ErrO a0 C d0) := upd_same
      have ed0 : (upd (upd G0 d0 (.xd [("word", .str "ab")])) a0 (ErrO a0 C d0)) d0 = some (.xd [("word", .str "ab")]) := by rw [upd_ne (Ne.symm n0)]; exact upd_same
      generalize upd (upd G0 d0 (.xd [("word", .str "ab")])) a0 (ErrO a0 C d0) = G1 at s0e ea0 ed0 ⊢
      walk_at "rd"
      refine ⟨.inr ⟨_, rfl, by decide, by decide⟩, fun a1 d1 ha1 hd1 n1 => ?_⟩
      have s1e : Same G1 (upd (upd G1 d1 (.xd [("row", .int 3)])) a1 (ErrO a1 CW d1)) := Same.new (Same.new (Same.refl G1) hd1) (by rw [upd_ne n1]; exact ha1)
      have ea1 : (upd (upd G1 d1 (.xd [("row", .int 3)])) a1 (ErrO a1 CW d1)) a1 = some (ErrO a1 CW d1) := upd_same
      have ed1 : (upd (upd G1 d1 (.xd [("row", .int 3)])) a1 (ErrO a1 CW d1)) d1 = some (.xd [("row", .int 3)]) := by rw [upd_ne (Ne.symm n1)]; exact upd_same
      generalize upd (upd G1 d1 (.xd [("row", .int 3)])) a1 (ErrO a1 CW d1) = G2 at s1e ea1 ed1 ⊢
      walk_at "rd"
      refine ⟨.inr ⟨_, rfl, by decide, by decide⟩, fun a2 d2 ha2 hd2 n2 => ?_⟩
      have s2e : Same G2 (upd (upd G2 d2 (.xd [("row", .int 4)])) a2 (ErrO a2 CT d2)) := Same.new (Same.new (Same.refl G2) hd2) (by rw [upd_ne n2]; exact ha2)
      have ea2 : (upd (upd G2 d2 (.xd [("row", .int 4)])) a2 (ErrO a2 CT d2)) a2 = some (ErrO a2 CT d2) := upd_same
      have ed2 : (upd (upd G2 d2 (.xd [("row", .int 4)])) a2 (ErrO a2 CT d2)) d2 = some (.xd [("row", .int 4)]) := by rw [upd_ne (Ne.symm n2)]; exact upd_same
      generalize upd (upd G2 d2 (.xd [("row", .int 4)])) a2 (ErrO a2 CT d2) = G3 at s2e ea2 ed2 ⊢
      walk_at "rd"
      intro a3 d3 ha3 hd3 n3
      have s3e : Same G3 (upd (upd G3 d3 (.tup [.str "one rest"])) a3 (ErrA a3 CR d3)) := Same.new (Same.new (Same.refl G3) hd3) (by rw [upd_ne n3]; exact ha3)
      have ea3 : (upd (upd G3 d3 (.tup [.str "one rest"])) a3 (ErrA a3 CR d3)) a3 = some (ErrA a3 CR d3) := upd_same
      have ed3 : (upd (upd G3 d3 (.tup [.str "one rest"])) a3 (ErrA a3 CR d3)) d3 = some (.tup [.str "one rest"]) := by rw [upd_ne (Ne.symm n3)]; exact upd_same
      generalize upd (upd G3 d3 (.tup [.str "one rest"])) a3 (ErrA a3 CR d3) = G4 at s3e ea3 ed3 ⊢
      walk_at "rd"
      intro a4 d4 ha4 hd4 n4
      have s4e : Same G4 (upd (upd G4 d4 (.tup [.str "an order"])) a4 (ErrA a4 CO d4)) := Same.new (Same.new (Same.refl G4) hd4) (by rw [upd_ne n4]; exact ha4)
      have ea4 : (upd (upd G4 d4 (.tup [.str "an order"])) a4 (ErrA a4 CO d4)) a4 = some (ErrA a4 CO d4) := upd_same
      have ed4 : (upd (upd G4 d4 (.tup [.str "an order"])) a4 (ErrA a4 CO d4)) d4 = some (.tup [.str "an order"]) := by rw [upd_ne (Ne.symm n4)]; exact upd_same
      generalize upd (upd G4 d4 (.tup [.str "an order"])) a4 (ErrA a4 CO d4) = G5 at s4e ea4 ed4 ⊢
      walk_at "rd"
      intro a5 d5 ha5 hd5 n5
      have s5e : Same G5 (upd (upd G5 d5 (.tup [.str "a line"])) a5 (ErrA a5 CA d5)) := Same.new (Same.new (Same.refl G5) hd5) (by rw [upd_ne n5]; exact ha5)
      have ea5 : (upd (upd G5 d5 (.tup [.str "a line"])) a5 (ErrA a5 CA d5)) a5 = some (ErrA a5 CA d5) := upd_same
      have ed5 : (upd (upd G5 d5 (.tup [.str "a line"])) a5 (ErrA a5 CA d5)) d5 = some (.tup [.str "a line"]) := by rw [upd_ne (Ne.symm n5)]; exact upd_same
      generalize upd (upd G5 d5 (.tup [.str "a line"])) a5 (ErrA a5 CA d5) = G6 at s5e ea5 ed5 ⊢
      walk_at "rd"
      intro L hL
      have s6e : Same G6 (upd G6 L (.lst [.ref a0, .ref a1, .ref a2, .ref a3, .ref a4, .ref a5])) := Same.new (Same.refl G6) hL
      have eL : (upd G6 L (.lst [.ref a0, .ref a1, .ref a2, .ref a3, .ref a4, .ref a5])) L = some (.lst ([a0, a1, a2, a3, a4, a5].map V.ref)) := upd_same
      generalize upd G6 L (.lst [.ref a0, .ref a1, .ref a2, .ref a3, .ref a4, .ref a5]) = G7 at s6e eL ⊢
      have s5f := s5e.trans s6e
      have s4f := s4e.trans s5f
      have s3f := s3e.trans s4f
      have s2f := s2e.trans s3f
      have s1f := s1e.trans s2f
      have u0 := s1f _ _ ea0
      have v0 := s1f _ _ ed0
      have u1 := s2f _ _ ea1
      have v1 := s2f _ _ ed1
      have u2 := s3f _ _ ea2
      have v2 := s3f _ _ ed2
      have u3 := s4f _ _ ea3
      have v3 := s4f _ _ ed3
      have u4 := s5f _ _ ea4
      have v4 := s5f _ _ ed4
      have u5 := s6e _ _ ea5
      have v5 := s6e _ _ ed5
      have hall : ∀ (i : Nat) (x : Addr), [a0, a1, a2, a3, a4, a5][i]? = some x → ∃ C', ErrT G7 x C' ∧ Kd K mg C' i ∧ i < 6 := fun i x hx => by
        match i, hx with
        | 0, hx => cases hx; exact ⟨C, .inr (.inl ⟨_, _, u0, v0⟩), K0, by decide⟩
        | 1, hx => cases hx; exact ⟨CW, .inr (.inl ⟨_, _, u1, v1⟩), K1, by decide⟩
        | 2, hx => cases hx; exact ⟨CT, .inr (.inl ⟨_, _, u2, v2⟩), K2, by decide⟩
        | 3, hx => cases hx; exact ⟨CR, .inr (.inr ⟨_, u3⟩), K3, by decide⟩
        | 4, hx => cases hx; exact ⟨CO, .inr (.inr ⟨_, u4⟩), K4, by decide⟩
        | 5, hx => cases hx; exact ⟨CA, .inr (.inr ⟨_, u5⟩), K5, by decide⟩
        | i + 6, hx => cases hx
      have hstr : ∀ (i : Nat) (x : Addr), [a3, a4, a5][i]? = some x → ∃ (C' t : Addr) (y : Str), G7 x = some (ErrA x C' t) ∧ G7 t = some (.tup [.str y]) ∧ ErrStr K C' ∧ strL5[i]? = some y := fun i x hx => by
        match i, hx with
        | 0, hx => cases hx; exact ⟨CR, _, _, u3, v3, t3, rfl⟩
        | 1, hx => cases hx; exact ⟨CO, _, _, u4, v4, t4, rfl⟩
        | 2, hx => cases hx; exact ⟨CA, _, _, u5, v5, t5, rfl⟩
        | i + 3, hx => cases hx
      clear s0e s1e s2e s3e s4e s5e s6e s1f s2f s3f s4f s5f ea0 ea1 ea2 ea3 ea4 ea5 ed0 ed1 ed2 ed3 ed4 ed5 ha0 ha1 ha2 ha3 ha4 ha5 hd0 hd1 hd2 hd3 hd4 hd5 n0 n1 n2 n3 n4 n5 u3 u4 u5 v3 v4 v5 hL D2 gP2 K0 K1 K2 K3 K4 K5 t3 t4 t5
      walk_at "rd"
      refine lcR_list (xs := [a0, a1, a2, a3, a4, a5].map V.ref) fun Da hDa => ⟨flI5 Da G7, ⟨[], upd_same, .nil, Same.new (Same.refl G7) hDa⟩, ?_, ?_, ?_⟩
      · rintro k H5 hk ⟨_, _, _, sm⟩
        exact sm _ _ eL
      · rintro k x H5 hx ⟨as, c5, pr5, sm5⟩
        obtain ⟨y, hy, rfl⟩ := refs_get hx
        obtain ⟨C', eT, KD, hk6⟩ := hall k y hy
        have hbl : (as.map V.ref).length < sizeLine := by rw [List.length_map, pr5.length, List.length_range]; omega
        refine ⟨rfl, iteT ?_⟩
        walk_at "rd"
        refine ⟨y, C', k, rfl, eT.same sm5, KD, hk6, fun L1 H6 s6 hL1 => ?_⟩
        have c6 := s6 _ _ c5
        walk_at "rd"
        have nL1 : L1 ≠ Da := by
          rintro rfl
          rw [c6] at hL1
          exact flagsL_ref hL1
        refine ⟨as ++ [L1], by rw [upd_same, app_map], ?_, ?_⟩
        · rw [List.range_succ]
          refine paired_snoc ?_ (by rw [upd_ne nL1]; exact hL1)
          refine Paired.mapP pr5 fun q i z => ?_
          have zz := s6 _ _ z
          rw [upd_ne]
          · exact zz
          · rintro rfl
            rw [c6] at zz
            exact flagsL_ref zz
        · exact Same.put (sm5.trans s6) hDa
      · rintro H5 ⟨as, c5, pr5, sm5⟩
        have l6 : ([a0, a1, a2, a3, a4, a5].map V.ref).length = 6 := rfl
        rw [l6] at pr5
        have eL5 := sm5 _ _ eL
        walk_at "rd"
        refine lcR_range fun Db hDb => ⟨flI5 Db H5, ⟨[], upd_same, .nil, Same.new (Same.refl H5) hDb⟩, ?_, ?_⟩
        · rintro k H6 hk ⟨bs, c6, pr6, sm6⟩
          have hk6 : k < 6 := by simpa using hk
          have hbl : (bs.map V.ref).length < sizeLine := by rw [List.length_map, pr6.length, List.length_range]; omega
          refine ⟨rfl, iteT ?_⟩
          walk_at "rd"
          refine lcR_range fun Dc hDc => ⟨fkI5 Dc k H6, ⟨upd_same, Same.new (Same.refl H6) hDc⟩, ?_, ?_⟩
          · rintro j H7 hj ⟨c7, sm7⟩
            have hj8 : j < 8 := by simpa using hj
            have hbl2 : (((List.range j).map fun j => decide (j = k)).map V.bl).length < sizeLine := by rw [List.length_map, List.length_map, List.length_range]; omega
            refine ⟨rfl, iteT ?_⟩
            walk_at "rd"
            refine ⟨?_, Same.put sm7 hDc⟩
            rw [upd_same, List.range_succ, List.map_append, List.map_append, dec_jk]
          · rintro H7 ⟨c7, sm7⟩
            have c77 := sm7 _ _ c6
            have nL1 : Dc ≠ Db := by
              rintro rfl
              rw [c77] at c7
              have h := HO.lst.inj (Option.some.inj c7)
              cases bs with
              | nil => cases h
              | cons a r => exact nomatch (List.cons.inj h).1
            walk_at "rd"
            refine ⟨bs ++ [Dc], by rw [upd_same, app_map], ?_, Same.put (sm6.trans sm7) hDb⟩
            rw [List.range_succ]
            refine paired_snoc ?_ (by rw [upd_ne nL1, flagsL_eq]; exact c7)
            refine Paired.mapP pr6 fun q i z => ?_
            have zz := sm7 _ _ z
            rw [upd_ne]
            · exact zz
            · rintro rfl
              rw [c77] at zz
              exact flagsL_ref zz
        · rintro H6 ⟨bs, c6, pr6, sm6⟩
          have eL6 := sm6 _ _ eL5
          have c56 := sm6 _ _ c5
          have sm56 := sm5.trans sm6
          refine ⟨.list (pdF 6), .list (pdF 6), .lst (SqL.of c56) (dps_flags (Paired.mapP pr5 fun q i z => sm6 _ _ z)), .lst (SqL.of c6) (dps_flags pr6), shaped_lay pdF_lay (by decide), shaped_lay pdF_lay (by decide), ?_⟩
          rw [pdF_eqv]
          refine ⟨_, rfl, iteF ?_⟩
          clear c5 c56 c6 pr5 pr6
          walk_at "rd"
          intro Lp hLp
          have sp : Same H6 (upd H6 Lp (.lst (cutV ([a0, a1, a2, a3, a4, a5].map V.ref) (some 3) none))) := Same.new (Same.refl H6) hLp
          have ep : (upd H6 Lp (.lst (cutV ([a0, a1, a2, a3, a4, a5].map V.ref) (some 3) none))) Lp = some (.lst ([a3, a4, a5].map V.ref)) := by
            rw [upd_same, cutV_map]
            rfl
          generalize upd H6 Lp (.lst (cutV ([a0, a1, a2, a3, a4, a5].map V.ref) (some 3) none)) = H7 at sp ep ⊢
          have sm67 := sm56.trans sp
          walk_at "rd"
          refine lcR_list (xs := [a3, a4, a5].map V.ref) fun Ds hDs => ⟨ssI5 Ds H7, ⟨upd_same, Same.new (Same.refl H7) hDs⟩, ?_, ?_, ?_⟩
          · rintro k H8 hk ⟨_, sm⟩
            exact sm _ _ ep
          · rintro k x H8 hx ⟨c8, sm8⟩
            obtain ⟨y, hy, rfl⟩ := refs_get hx
            obtain ⟨C', t, z, g1, g2, g3, g4⟩ := hstr k y hy
            have g1' := sm8 _ _ (sm67 _ _ g1)
            have g2' := sm8 _ _ (sm67 _ _ g2)
            have hbl : ((strL5.take k).map V.str).length < sizeLine := by
              rw [List.length_map, List.length_take]
              exact Nat.lt_of_le_of_lt (Nat.min_le_right _ _) (by decide +kernel)
            refine ⟨rfl, iteT ?_⟩
            walk_at "rd"
            refine ⟨?_, Same.put sm8 hDs⟩
            rw [upd_same, take_snoc g4, List.map_append]
            rfl
          · rintro H8 ⟨c8, sm8⟩
            have c8 : H8 Ds = some (.lst (strL5.map V.str)) := c8
            have eL8 := sm8 _ _ (sp _ _ eL6)
            have sm78 := sm67.trans sm8
            walk_at "rd"
            intro Lq hLq
            have c9 := (Same.new (o := .lst [.str "one rest", .str "an order", .str "a line"]) (Same.refl H8) hLq) _ _ c8
            have e9 := (Same.new (o := .lst [.str "one rest", .str "an order", .str "a line"]) (Same.refl H8) hLq) _ _ eL8
            have s9 := sm78.new (o := .lst [.str "one rest", .str "an order", .str "a line"]) hLq
            have q9 : (upd H8 Lq (.lst [.str "one rest", .str "an order", .str "a line"])) Lq = some (.lst (strL5.map V.str)) := upd_same
            generalize upd H8 Lq (.lst [.str "one rest", .str "an order", .str "a line"]) = H9 at c9 e9 s9 q9 ⊢
            refine ⟨.list (strL5.map PyData.str), .list (strL5.map PyData.str), .lst (SqL.of c9) (dps_strs _), .lst (SqL.of q9) (dps_strs _), oks_shaped strL5_ok, oks_shaped strL5_ok, ?_⟩
            rw [eqv_lself (fun d hd => by
              obtain ⟨i, _, rfl⟩ := List.mem_map.mp hd
              rw [PyData.eqv.eq_6]
              exact beq_self_eq_true i)]
            refine ⟨_, rfl, iteF ?_⟩
            have x0 : atI ([a0, a1, a2, a3, a4, a5].map V.ref) 0 = some (V.ref a0) := rfl
            have x1 : atI ([a0, a1, a2, a3, a4, a5].map V.ref) 1 = some (V.ref a1) := rfl
            have x2 : atI ([a0, a1, a2, a3, a4, a5].map V.ref) 2 = some (V.ref a2) := rfl
            have u0 := s9 _ _ u0
            have v0 := s9 _ _ v0
            have u1 := s9 _ _ u1
            have v1 := s9 _ _ v1
            have u2 := s9 _ _ u2
            have v2 := s9 _ _ v2
            have l0 : List.lookup (Str.ofString "word") [(Str.ofString "word", V.str (Str.ofString "ab"))] = some (V.str (Str.ofString "ab")) := by rw [List.lookup_cons, beq_self_eq_true]
            have l1 : List.lookup (Str.ofString "row") [(Str.ofString "row", V.int 3)] = some (V.int 3) := by rw [List.lookup_cons, beq_self_eq_true]
            have l2 : List.lookup (Str.ofString "row") [(Str.ofString "row", V.int 4)] = some (V.int 4) := by rw [List.lookup_cons, beq_self_eq_true]
            walk_at "rd"
            refine iteD (fun _ => ?_) (fun z => absurd rfl z)
            walk_at "rd"
            refine iteD (fun _ => ?_) (fun z => absurd rfl z)
            walk_at "rd"
            rw [decide_eq_true rfl]
            exact q _
end
theorem all_mk {l : PySem.W.OpenLaw} {w : World} {K : PySem.W.Frag} {h : Heap} {mg : Str → Option Value} {fa : Addr} (X : K.In h) (G : h.Ns mainGlobals mg) (hfa : mg "law" = some (.ref fa))
    {f0 : Addr} {od0 an0 : Option Addr} {sl0 : Array (Option Value)} {oc0 kV0 dc0 pm0 cd0 ct0 : Value}
    {f1 : Addr} {od1 an1 : Option Addr} {sl1 : Array (Option Value)} {oc1 kV1 dc1 pm1 cd1 ct1 : Value}
    {f2 : Addr} {od2 an2 : Option Addr} {sl2 : Array (Option Value)} {oc2 kV2 dc2 pm2 cd2 ct2 : Value}
    {f3 : Addr} {od3 an3 : Option Addr} {sl3 : Array (Option Value)} {oc3 kV3 dc3 pm3 cd3 ct3 : Value}
    {f4 : Addr} {od4 an4 : Option Addr} {sl4 : Array (Option Value)} {oc4 kV4 dc4 pm4 cd4 ct4 : Value}
    {f5 : Addr} {od5 an5 : Option Addr} {sl5 : Array (Option Value)} {oc5 kV5 dc5 pm5 cd5 ct5 : Value}
    {f6 : Addr} {od6 an6 : Option Addr} {sl6 : Array (Option Value)} {oc6 kV6 dc6 pm6 cd6 ct6 : Value}
    {f7 : Addr} {od7 an7 : Option Addr} {sl7 : Array (Option Value)} {oc7 kV7 dc7 pm7 cd7 ct7 : Value}
    {f8 : Addr} {od8 an8 : Option Addr} {sl8 : Array (Option Value)} {oc8 kV8 dc8 pm8 cd8 ct8 : Value}
    {f9 : Addr} {od9 an9 : Option Addr} {sl9 : Array (Option Value)} {oc9 kV9 dc9 pm9 cd9 ct9 : Value}
    {f10 : Addr} {od10 an10 : Option Addr} {sl10 : Array (Option Value)} {oc10 kV10 dc10 pm10 ct10 : Value} {cc Pt : Addr}
    {f11 : Addr} {od11 an11 : Option Addr} {sl11 : Array (Option Value)} {oc11 kV11 dc11 pm11 cd11 ct11 : Value}
    {f12 : Addr} {od12 an12 : Option Addr} {sl12 : Array (Option Value)} {oc12 kV12 dc12 pm12 cd12 ct12 : Value}
    {f13 : Addr} {od13 an13 : Option Addr} {sl13 : Array (Option Value)} {oc13 kV13 dc13 pm13 cd13 ct13 : Value}
    {f14 : Addr} {od14 an14 : Option Addr} {sl14 : Array (Option Value)} {oc14 kV14 dc14 pm14 cd14 ct14 : Value}
    {f15 : Addr} {od15 an15 : Option Addr} {sl15 : Array (Option Value)} {oc15 kV15 dc15 pm15 cd15 ct15 : Value}
    {f16 : Addr} {od16 an16 : Option Addr} {sl16 : Array (Option Value)} {oc16 kV16 dc16 pm16 cd16 ct16 : Value}
    {f17 : Addr} {od17 an17 : Option Addr} {sl17 : Array (Option Value)} {oc17 kV17 dc17 pm17 cd17 ct17 : Value}
    {cNoName : Addr}
    {cNoWeb : Addr}
    {cNoTable : Addr}
    {cNoRest : Addr}
    {cNoOrder : Addr}
    {cNoAsk : Addr}
    (a0 : PySem.W.nsIn K mainGlobals "_law_deck" = some (some (.ref f0))) (l0 : K.lookup f0 = some ⟨oc0, od0, .func (PySem.W.fnOf "_law_deck" "_law_deck" (defArgs s_law_deck) (defBody s_law_deck) (defScope s_law_deck) .none kV0 dc0 pm0 an0 cd0 ct0), sl0⟩) (c0 : PySem.W.codeIn K cd0 "_law_deck" = true) (k0 : PySem.W.keepIn K (.ref f0) = true)
    (a1 : PySem.W.nsIn K mainGlobals "_law_take" = some (some (.ref f1))) (l1 : K.lookup f1 = some ⟨oc1, od1, .func (PySem.W.fnOf "_law_take" "_law_take" (defArgs s_law_take) (defBody s_law_take) (defScope s_law_take) .none kV1 dc1 pm1 an1 cd1 ct1), sl1⟩) (c1 : PySem.W.codeIn K cd1 "_law_take" = true) (k1 : PySem.W.keepIn K (.ref f1) = true)
    (a2 : PySem.W.nsIn K mainGlobals "_law_names" = some (some (.ref f2))) (l2 : K.lookup f2 = some ⟨oc2, od2, .func (PySem.W.fnOf "_law_names" "_law_names" (defArgs s_law_names) (defBody s_law_names) (defScope s_law_names) .none kV2 dc2 pm2 an2 cd2 ct2), sl2⟩) (c2 : PySem.W.codeIn K cd2 "_law_names" = true) (k2 : PySem.W.keepIn K (.ref f2) = true)
    (a3 : PySem.W.nsIn K mainGlobals "_law_shuffled" = some (some (.ref f3))) (l3 : K.lookup f3 = some ⟨oc3, od3, .func (PySem.W.fnOf "_law_shuffled" "_law_shuffled" (defArgs s_law_shuffled) (defBody s_law_shuffled) (defScope s_law_shuffled) .none kV3 dc3 pm3 an3 cd3 ct3), sl3⟩) (c3 : PySem.W.codeIn K cd3 "_law_shuffled" = true) (k3 : PySem.W.keepIn K (.ref f3) = true)
    (a4 : PySem.W.nsIn K mainGlobals "_law_images" = some (some (.ref f4))) (l4 : K.lookup f4 = some ⟨oc4, od4, .func (PySem.W.fnOf "_law_images" "_law_images" (defArgs s_law_images) (defBody s_law_images) (defScope s_law_images) .none kV4 dc4 pm4 an4 cd4 ct4), sl4⟩) (c4 : PySem.W.codeIn K cd4 "_law_images" = true) (k4 : PySem.W.keepIn K (.ref f4) = true)
    (a5 : PySem.W.nsIn K mainGlobals "_law_web" = some (some (.ref f5))) (l5 : K.lookup f5 = some ⟨oc5, od5, .func (PySem.W.fnOf "_law_web" "_law_web" (defArgs s_law_web) (defBody s_law_web) (defScope s_law_web) .none kV5 dc5 pm5 an5 cd5 ct5), sl5⟩) (c5 : PySem.W.codeIn K cd5 "_law_web" = true) (k5 : PySem.W.keepIn K (.ref f5) = true)
    (a6 : PySem.W.nsIn K mainGlobals "ways_in" = some (some (.ref f6))) (l6 : K.lookup f6 = some ⟨oc6, od6, .func (PySem.W.fnOf "ways_in" "ways_in" (defArgs sways_in) (defBody sways_in) (defScope sways_in) .none kV6 dc6 pm6 an6 cd6 ct6), sl6⟩) (c6 : PySem.W.codeIn K cd6 "ways_in" = true) (k6 : PySem.W.keepIn K (.ref f6) = true)
    (a7 : PySem.W.nsIn K mainGlobals "steps_from" = some (some (.ref f7))) (l7 : K.lookup f7 = some ⟨oc7, od7, .func (PySem.W.fnOf "steps_from" "steps_from" (defArgs ssteps_from) (defBody ssteps_from) (defScope ssteps_from) .none kV7 dc7 pm7 an7 cd7 ct7), sl7⟩) (c7 : PySem.W.codeIn K cd7 "steps_from" = true) (k7 : PySem.W.keepIn K (.ref f7) = true)
    (a8 : PySem.W.nsIn K mainGlobals "whole_group" = some (some (.ref f8))) (l8 : K.lookup f8 = some ⟨oc8, od8, .func (PySem.W.fnOf "whole_group" "whole_group" (defArgs swhole_group) (defBody swhole_group) (defScope swhole_group) .none kV8 dc8 pm8 an8 cd8 ct8), sl8⟩) (c8 : PySem.W.codeIn K cd8 "whole_group" = true) (k8 : PySem.W.keepIn K (.ref f8) = true)
    (a9 : PySem.W.nsIn K mainGlobals "met_before" = some (some (.ref f9))) (l9 : K.lookup f9 = some ⟨oc9, od9, .func (PySem.W.fnOf "met_before" "met_before" (defArgs smet_before) (defBody smet_before) (defScope smet_before) .none kV9 dc9 pm9 an9 cd9 ct9), sl9⟩) (c9 : PySem.W.codeIn K cd9 "met_before" = true) (k9 : PySem.W.keepIn K (.ref f9) = true)
    (a10 : PySem.W.nsIn K mainGlobals "meetings" = some (some (.ref f10))) (l10 : K.lookup f10 = some ⟨oc10, od10, .func (PySem.W.fnOf "meetings" "meetings" (defArgs smeetings) (defBody smeetings) (defScope smeetings) .none kV10 dc10 pm10 an10 (.ref cc) ct10), sl10⟩) (c10 : PySem.W.codeIn K (.ref cc) "meetings" = true) (k10 : PySem.W.keepIn K (.ref f10) = true) (hdL : PySem.W.codeHdIn K cc Pt = true)
    (a11 : PySem.W.nsIn K mainGlobals "met_alone" = some (some (.ref f11))) (l11 : K.lookup f11 = some ⟨oc11, od11, .func (PySem.W.fnOf "met_alone" "met_alone" (defArgs smet_alone) (defBody smet_alone) (defScope smet_alone) .none kV11 dc11 pm11 an11 cd11 ct11), sl11⟩) (c11 : PySem.W.codeIn K cd11 "met_alone" = true) (k11 : PySem.W.keepIn K (.ref f11) = true)
    (a12 : PySem.W.nsIn K mainGlobals "is_watch" = some (some (.ref f12))) (l12 : K.lookup f12 = some ⟨oc12, od12, .func (PySem.W.fnOf "is_watch" "is_watch" (defArgs sis_watch) (defBody sis_watch) (defScope sis_watch) .none kV12 dc12 pm12 an12 cd12 ct12), sl12⟩) (c12 : PySem.W.codeIn K cd12 "is_watch" = true) (k12 : PySem.W.keepIn K (.ref f12) = true)
    (a13 : PySem.W.nsIn K mainGlobals "is_enough" = some (some (.ref f13))) (l13 : K.lookup f13 = some ⟨oc13, od13, .func (PySem.W.fnOf "is_enough" "is_enough" (defArgs sis_enough) (defBody sis_enough) (defScope sis_enough) .none kV13 dc13 pm13 an13 cd13 ct13), sl13⟩) (c13 : PySem.W.codeIn K cd13 "is_enough" = true) (k13 : PySem.W.keepIn K (.ref f13) = true)
    (a14 : PySem.W.nsIn K mainGlobals "_law_flags" = some (some (.ref f14))) (l14 : K.lookup f14 = some ⟨oc14, od14, .func (PySem.W.fnOf "_law_flags" "_law_flags" (defArgs s_law_flags) (defBody s_law_flags) (defScope s_law_flags) .none kV14 dc14 pm14 an14 cd14 ct14), sl14⟩) (c14 : PySem.W.codeIn K cd14 "_law_flags" = true) (k14 : PySem.W.keepIn K (.ref f14) = true)
    (a15 : PySem.W.nsIn K mainGlobals "_law_strange" = some (some (.ref f15))) (l15 : K.lookup f15 = some ⟨oc15, od15, .func (PySem.W.fnOf "_law_strange" "_law_strange" (defArgs s_law_strange) (defBody s_law_strange) (defScope s_law_strange) .none kV15 dc15 pm15 an15 cd15 ct15), sl15⟩) (c15 : PySem.W.codeIn K cd15 "_law_strange" = true) (k15 : PySem.W.keepIn K (.ref f15) = true)
    (a16 : PySem.W.nsIn K mainGlobals "_law_right" = some (some (.ref f16))) (l16 : K.lookup f16 = some ⟨oc16, od16, .func (PySem.W.fnOf "_law_right" "_law_right" (defArgs s_law_right) (defBody s_law_right) (defScope s_law_right) .none kV16 dc16 pm16 an16 cd16 ct16), sl16⟩) (c16 : PySem.W.codeIn K cd16 "_law_right" = true) (k16 : PySem.W.keepIn K (.ref f16) = true)
    (a17 : PySem.W.nsIn K mainGlobals "law" = some (some (.ref f17))) (l17 : K.lookup f17 = some ⟨oc17, od17, .func (PySem.W.fnOf "law" "law" (defArgs slaw) (defBody slaw) (defScope slaw) .none kV17 dc17 pm17 an17 cd17 ct17), sl17⟩) (c17 : PySem.W.codeIn K cd17 "law" = true) (k17 : PySem.W.keepIn K (.ref f17) = true)
    (eNoName : ErrNm l.prog w K mg "NoName" cNoName "word")
    (eNoWeb : ErrNm l.prog w K mg "NoWeb" cNoWeb "row")
    (eNoTable : ErrNm l.prog w K mg "NoTable" cNoTable "row")
    (eNoRest : ErrNmP K mg "NoRest" cNoRest)
    (sNoRest : ErrsP K mg cNoRest "NoRest" ["NoAsk", "NoName", "NoOrder", "NoTable", "NoWeb"])
    (eNoOrder : ErrNmP K mg "NoOrder" cNoOrder)
    (sNoOrder : ErrsP K mg cNoOrder "NoOrder" ["NoAsk", "NoName", "NoRest", "NoTable", "NoWeb"])
    (eNoAsk : ErrNmP K mg "NoAsk" cNoAsk)
    (sNoAsk : ErrsP K mg cNoAsk "NoAsk" ["NoName", "NoOrder", "NoRest", "NoTable", "NoWeb"])
    (sNoName : ErrsP K mg cNoName "NoName" ["NoAsk", "NoOrder", "NoRest", "NoTable", "NoWeb"])
    (sNoWeb : ErrsP K mg cNoWeb "NoWeb" ["NoAsk", "NoName", "NoOrder", "NoRest", "NoTable"])
    (sNoTable : ErrsP K mg cNoTable "NoTable" ["NoAsk", "NoName", "NoOrder", "NoRest", "NoWeb"])
    (dNoName : PySem.W.findIn K (.ref cNoName) "word" = some none)
    (dNoWeb : PySem.W.findIn K (.ref cNoWeb) "row" = some none)
    (dNoTable : PySem.W.findIn K (.ref cNoTable) "row" = some none)
    (rNoRest : ErrStr K cNoRest)
    (rNoOrder : ErrStr K cNoOrder)
    (rNoAsk : ErrStr K cNoAsk)
    (z_len : PySem.W.nsIn K mainGlobals "len" = some none)
    (z_range : PySem.W.nsIn K mainGlobals "range" = some none)
    (z_list : PySem.W.nsIn K mainGlobals "list" = some none)
    (z_tuple : PySem.W.nsIn K mainGlobals "tuple" = some none)
    (z_sum : PySem.W.nsIn K mainGlobals "sum" = some none)
    (z_str : PySem.W.nsIn K mainGlobals "str" = some none)
    (z_int : PySem.W.nsIn K mainGlobals "int" = some none)
    (z_bool : PySem.W.nsIn K mainGlobals "bool" = some none)
    (z_dict : PySem.W.nsIn K mainGlobals "dict" = some none)
    (z_set : PySem.W.nsIn K mainGlobals "set" = some none)
    (z_isinstance : PySem.W.nsIn K mainGlobals "isinstance" = some none)
    (z_min : PySem.W.nsIn K mainGlobals "min" = some none)
    (z_max : PySem.W.nsIn K mainGlobals "max" = some none)
    (z_zip : PySem.W.nsIn K mainGlobals "zip" = some none)
    (z_all : PySem.W.nsIn K mainGlobals "all" = some none)
    (z_enumerate : PySem.W.nsIn K mainGlobals "enumerate" = some none)
    (z_reversed : PySem.W.nsIn K mainGlobals "reversed" = some none)
    (z_any : PySem.W.nsIn K mainGlobals "any" = some none)
    (z_sorted : PySem.W.nsIn K mainGlobals "sorted" = some none) :
    ∃ (cc : Addr) (fd : FuncData), PySem.W.codeHdIn K cc Pt = true ∧ (∀ (s : Shared) (v : Value), BindsTo s fd ⟨[v], []⟩ [("script", v)]) ∧ ∀ base : Heap, K.In base → base.Ns mainGlobals mg → BmIn base mg → FnOk l.prog w K mg base CX0 12 fa fd ["script"] (spLawT K Pt (encT (lamPosM smeetings) "meetings.<locals>.<lambda>")) := by
  have e := hfa.symm.trans (PySem.W.mg_of X G a17)
  cases e
  have T : Bl mg := ⟨PySem.W.mg_none_of X G z_len, PySem.W.mg_none_of X G z_range, PySem.W.mg_none_of X G z_list, PySem.W.mg_none_of X G z_tuple, PySem.W.mg_none_of X G z_sum, PySem.W.mg_none_of X G z_str, PySem.W.mg_none_of X G z_int, PySem.W.mg_none_of X G z_bool, PySem.W.mg_none_of X G z_dict, PySem.W.mg_none_of X G z_set, PySem.W.mg_none_of X G z_isinstance, PySem.W.mg_none_of X G z_min, PySem.W.mg_none_of X G z_max, PySem.W.mg_none_of X G z_zip, PySem.W.mg_none_of X G z_all, PySem.W.mg_none_of X G z_enumerate, PySem.W.mg_none_of X G z_reversed⟩
  have T4 : Bl4 mg := ⟨PySem.W.mg_none_of X G z_any⟩
  have T3 : Bl3 mg := ⟨PySem.W.mg_none_of X G z_sorted⟩
  have F0 := fun_mk (st := s_law_deck) l0 c0 k0
  have m0 := PySem.W.mg_of X G a0
  have b0 := F0.binds (ps := ["script"]) fun _ _ _ _ _ _ us hl => match us, hl with | [_], _ => rfl
  have F1 := fun_mk (st := s_law_take) l1 c1 k1
  have m1 := PySem.W.mg_of X G a1
  have b1 := F1.binds (ps := ["deck", "many"]) fun _ _ _ _ _ _ us hl => match us, hl with | [_, _], _ => rfl
  have F2 := fun_mk (st := s_law_names) l2 c2 k2
  have m2 := PySem.W.mg_of X G a2
  have b2 := F2.binds (ps := ["deck", "many"]) fun _ _ _ _ _ _ us hl => match us, hl with | [_, _], _ => rfl
  have F3 := fun_mk (st := s_law_shuffled) l3 c3 k3
  have m3 := PySem.W.mg_of X G a3
  have b3 := F3.binds (ps := ["deck", "things"]) fun _ _ _ _ _ _ us hl => match us, hl with | [_, _], _ => rfl
  have F4 := fun_mk (st := s_law_images) l4 c4 k4
  have m4 := PySem.W.mg_of X G a4
  have b4 := F4.binds (ps := ["deck", "many", "way"]) fun _ _ _ _ _ _ us hl => match us, hl with | [_, _, _], _ => rfl
  have F5 := fun_mk (st := s_law_web) l5 c5 k5
  have m5 := PySem.W.mg_of X G a5
  have b5 := F5.binds (ps := ["deck", "most", "moves"]) fun _ _ _ _ _ _ us hl => match us, hl with | [_, _, _], _ => rfl
  have F6 := fun_mk (st := sways_in) l6 c6 k6
  have m6 := PySem.W.mg_of X G a6
  have b6 := F6.binds (ps := ["web"]) fun _ _ _ _ _ _ us hl => match us, hl with | [_], _ => rfl
  have F7 := fun_mk (st := ssteps_from) l7 c7 k7
  have m7 := PySem.W.mg_of X G a7
  have b7 := F7.binds (ps := ["first", "leads"]) fun _ _ _ _ _ _ us hl => match us, hl with | [_, _], _ => rfl
  have F8 := fun_mk (st := swhole_group) l8 c8 k8
  have m8 := PySem.W.mg_of X G a8
  have b8 := F8.binds (ps := ["web"]) fun _ _ _ _ _ _ us hl => match us, hl with | [_], _ => rfl
  have F9 := fun_mk (st := smet_before) l9 c9 k9
  have m9 := PySem.W.mg_of X G a9
  have b9 := F9.binds (ps := ["way", "met"]) fun _ _ _ _ _ _ us hl => match us, hl with | [_, _], _ => rfl
  have FC : FunC K "meetings" "meetings" smeetings f10 _ cc Pt := ⟨⟨_, _, _, _, _, _, _, _, rfl, l10, c10⟩, k10, hdL⟩
  have F10 := FC.plain
  have m10 := PySem.W.mg_of X G a10
  have b10 := F10.binds (ps := ["web"]) fun _ _ _ _ _ _ us hl => match us, hl with | [_], _ => rfl
  have F11 := fun_mk (st := smet_alone) l11 c11 k11
  have m11 := PySem.W.mg_of X G a11
  have b11 := F11.binds (ps := ["web"]) fun _ _ _ _ _ _ us hl => match us, hl with | [_], _ => rfl
  have F12 := fun_mk (st := sis_watch) l12 c12 k12
  have m12 := PySem.W.mg_of X G a12
  have b12 := F12.binds (ps := ["group", "alone"]) fun _ _ _ _ _ _ us hl => match us, hl with | [_, _], _ => rfl
  have F13 := fun_mk (st := sis_enough) l13 c13 k13
  have m13 := PySem.W.mg_of X G a13
  have b13 := F13.binds (ps := ["web", "states"]) fun _ _ _ _ _ _ us hl => match us, hl with | [_, _], _ => rfl
  have F14 := fun_mk (st := s_law_flags) l14 c14 k14
  have m14 := PySem.W.mg_of X G a14
  have b14 := F14.binds (ps := ["thing"]) fun _ _ _ _ _ _ us hl => match us, hl with | [_], _ => rfl
  have F15 := fun_mk (st := s_law_strange) l15 c15 k15
  have m15 := PySem.W.mg_of X G a15
  have b15 := F15.binds (ps := ["deck", "web"]) fun _ _ _ _ _ _ us hl => match us, hl with | [_, _], _ => rfl
  have F16 := fun_mk (st := s_law_right) l16 c16 k16
  have m16 := PySem.W.mg_of X G a16
  have b16 := F16.binds (ps := ["web", "states"]) fun _ _ _ _ _ _ us hl => match us, hl with | [_, _], _ => rfl
  have F17 := fun_mk (st := slaw) l17 c17 k17
  refine ⟨cc, PySem.W.fnOf "law" "law" (defArgs slaw) (defBody slaw) (defScope slaw) .none kV17 dc17 pm17 an17 cd17 ct17, hdL, fun s v => .of_eq rfl, fun base _ _ BM => ?_⟩
  have G_law_deck : Fn l.prog w K mg base "_law_deck" 1 ["script"] (spDeckD K) := F0.fn m0 b0 (ok_law_deck F0 T)
  have G_law_take : Fn l.prog w K mg base "_law_take" 1 ["deck", "many"] spTake := F1.fn m1 b1 (ok_law_take F1 T)
  have G_law_names : Fn l.prog w K mg base "_law_names" 2 ["deck", "many"] spNamesD := F2.fn m2 b2 (ok_law_names F2 T G_law_take)
  have G_law_shuffled : Fn l.prog w K mg base "_law_shuffled" 2 ["deck", "things"] (spShufG K) := F3.fn m3 b3 (ok_law_shuffled F3 T G_law_take)
  have G_law_images : Fn l.prog w K mg base "_law_images" 3 ["deck", "many", "way"] spImgW := F4.fn m4 b4 (ok_law_images F4 T T3 G_law_take G_law_shuffled)
  have G_law_web : Fn l.prog w K mg base "_law_web" 4 ["deck", "most", "moves"] spWebW5 := F5.fn m5 b5 (ok_law_web F5 T G_law_take G_law_names G_law_images)
  have Gways_in : Fn l.prog w K mg base "ways_in" 1 ["web"] spWaysIn := F6.fn m6 b6 (ok_ways_in F6 T)
  have Asteps_from : FnA l.prog w K mg base "steps_from" 6 ["first", "leads"] (spStepsT l.prog w K mg 4) := fun base2 _ => F7.fn m7 b7 (ok_steps_from F7)
  have Gwhole_group : Fn l.prog w K mg base "whole_group" 1 ["web"] spWholeG := F8.fn m8 b8 (ok_whole_group F8 T)
  have Amet_before : FnA l.prog w K mg base "met_before" 1 ["way", "met"] (fun _ => spMetB) := fun base2 _ => F9.fn m9 b9 (ok_met_before F9 T)
  have Gmeetings : Fn l.prog w K mg base "meetings" 8 ["web"] (spMeets Pt (encT (lamPosM smeetings) "meetings.<locals>.<lambda>")) := F10.fn m10 b10 (ok_meetings FC T BM Gways_in Gwhole_group Amet_before Asteps_from)
  have Gmet_alone : Fn l.prog w K mg base "met_alone" 9 ["web"] (spAlone Pt (encT (lamPosM smeetings) "meetings.<locals>.<lambda>")) := F11.fn m11 b11 (ok_met_alone F11 T T3 Gwhole_group Gmeetings)
  have Gis_watch : Fn l.prog w K mg base "is_watch" 1 ["group", "alone"] spIsW := F12.fn m12 b12 (ok_is_watch F12 T T4)
  have Gis_enough : FnE l.prog w K mg base "is_enough" 10 ["web", "states"] (spEnough cNoName Pt (encT (lamPosM smeetings) "meetings.<locals>.<lambda>")) := F13.fnE m13 b13 (ok_is_enough F13 T Gis_watch Gmet_alone eNoName)
  have G_law_flags : Fn l.prog w K mg base "_law_flags" 1 ["thing"] (spFlags K mg) := F14.fn m14 b14 (ok_law_flags F14 T)
  have G_law_strange : Fn l.prog w K mg base "_law_strange" 2 ["deck", "web"] spStrange := F15.fn m15 b15 (ok_law_strange F15 T G_law_take)
  have G_law_right : Fn l.prog w K mg base "_law_right" 11 ["web", "states"] (spRight5 Pt (encT (lamPosM smeetings) "meetings.<locals>.<lambda>")) := F16.fn m16 b16 (ok_law_right F16 T sNoName (kd_of2 sNoName (i := 0) rfl (by decide +kernel)) dNoName Gis_enough G_law_flags)
  exact ok_law F17 T G_law_deck G_law_take G_law_shuffled G_law_web G_law_strange G_law_right G_law_flags eNoName eNoWeb eNoTable eNoRest eNoOrder eNoAsk sNoName.is.toErrGet sNoWeb.is.toErrGet sNoTable.is.toErrGet (kd_of2 sNoName (i := 0) rfl (by decide +kernel)) (kd_of2 sNoWeb (i := 1) rfl (by decide +kernel)) (kd_of2 sNoTable (i := 2) rfl (by decide +kernel)) (kd_of2 sNoRest (i := 3) rfl (by decide +kernel)) (kd_of2 sNoOrder (i := 4) rfl (by decide +kernel)) (kd_of2 sNoAsk (i := 5) rfl (by decide +kernel)) dNoName dNoWeb dNoTable rNoRest rNoOrder rNoAsk
theorem walk {l : PySem.W.OpenLaw} {q : Program} {loose : List Str} {XP : (Str → Option Value) → Heap → Prop} {YP : World → Heap → Prop} {d : DefRec} {K : Params → PySem.W.Frag} {Pt : Addr} (hn : l.most = some 63) (hdf : d.params.defaults = [])
    (hY : ∀ (w : World) (h : Heap), YP w h → (K w.params).In h ∧ h.get? Pt = some (PySem.W.tabObj #[])) (hKP : ∀ w : World, (K w.params).lookup Pt = none)
    (F : ∀ (w : World) (mg : Str → Option Value) (fa : Addr) (h : Heap), (K w.params).In h → h.Ns mainGlobals mg → mg d.name = some (.ref fa) →
      ∃ (cc : Addr) (fd : FuncData), PySem.W.codeHdIn (K w.params) cc Pt = true ∧ (∀ (s : Shared) (u : Value), BindsTo s fd ⟨[u], []⟩ [("script", u)]) ∧ ∀ base : Heap, (K w.params).In base → base.Ns mainGlobals mg → BmIn base mg → FnOk l.prog w (K w.params) mg base CX0 12 fa fd ["script"] (spLawT (K w.params) Pt (encT (lamPosM smeetings) "meetings.<locals>.<lambda>"))) :
    PySem.W.WalkO q loose XP YP l.row.toRowW d [] (fun f vs => PySem.call f vs) :=
  L2.walk_ofT (n := 63) (k := 12) (x := "script") (sp := fun w => (spLawT (K w.params) Pt (encT (lamPosM smeetings) "meetings.<locals>.<lambda>"))) hn (by decide) hdf ⟨rfl, by decide, by decide⟩ hY hKP F (fun _ _ a ns hl hP hS => ⟨a, ns, rfl, hS, hl, hP, fun _ => rfl⟩)
end My
open PySem PySem.W PyProof.Rows
set_option maxRecDepth 100000 in
set_option maxHeartbeats 0 in
theorem PySem.Challenge.cw_walksago_k53_states_that_are_none_holds : PySem.Challenge.rw_walksago_k53_states_that_are_none.Holds := by
  w_on; o_law; k_head; (case hw => w_witness2)
  k_fill
  refine My.walk (l := PySem.Challenge.rw_walksago_k53_states_that_are_none) rfl rfl (fun w h Y => ⟨PySem.W.km_in_of Y, PySem.W.km_tabs_of Y _ (List.mem_cons_self)⟩) ?P ?F
  case F =>
    intro w mg fa h KX G hmg
    refine' My.all_mk KX G hmg ?a0 ?l0 ?c0 ?k0 ?a1 ?l1 ?c1 ?k1 ?a2 ?l2 ?c2 ?k2 ?a3 ?l3 ?c3 ?k3 ?a4 ?l4 ?c4 ?k4 ?a5 ?l5 ?c5 ?k5 ?a6 ?l6 ?c6 ?k6 ?a7 ?l7 ?c7 ?k7 ?a8 ?l8 ?c8 ?k8 ?a9 ?l9 ?c9 ?k9 ?a10 ?l10 ?c10 ?k10 ?hdL ?a11 ?l11 ?c11 ?k11 ?a12 ?l12 ?c12 ?k12 ?a13 ?l13 ?c13 ?k13 ?a14 ?l14 ?c14 ?k14 ?a15 ?l15 ?c15 ?k15 ?a16 ?l16 ?c16 ?k16 ?a17 ?l17 ?c17 ?k17 ?eNoName ?eNoWeb ?eNoTable ?eNoRest ?sNoRest ?eNoOrder ?sNoOrder ?eNoAsk ?sNoAsk ?sNoName ?sNoWeb ?sNoTable ?dNoName ?dNoWeb ?dNoTable ?rNoRest ?rNoOrder ?rNoAsk ?z_len ?z_range ?z_list ?z_tuple ?z_sum ?z_str ?z_int ?z_bool ?z_dict ?z_set ?z_isinstance ?z_min ?z_max ?z_zip ?z_all ?z_enumerate ?z_reversed ?z_any ?z_sorted
    (case a0 => k_is)
    (case l0 => k_is)
    (case c0 => k_is)
    (case k0 => k_is)
    (case a1 => k_is)
    (case l1 => k_is)
    (case c1 => k_is)
    (case k1 => k_is)
    (case a2 => k_is)
    (case l2 => k_is)
    (case c2 => k_is)
    (case k2 => k_is)
    (case a3 => k_is)
    (case l3 => k_is)
    (case c3 => k_is)
    (case k3 => k_is)
    (case a4 => k_is)
    (case l4 => k_is)
    (case c4 => k_is)
    (case k4 => k_is)
    (case a5 => k_is)
    (case l5 => k_is)
    (case c5 => k_is)
    (case k5 => k_is)
    (case a6 => k_is)
    (case l6 => k_is)
    (case c6 => k_is)
    (case k6 => k_is)
    (case a7 => k_is)
    (case l7 => k_is)
    (case c7 => k_is)
    (case k7 => k_is)
    (case a8 => k_is)
    (case l8 => k_is)
    (case c8 => k_is)
    (case k8 => k_is)
    (case a9 => k_is)
    (case l9 => k_is)
    (case c9 => k_is)
    (case k9 => k_is)
    (case a10 => k_is)
    (case l10 => k_is)
    (case c10 => k_is)
    (case k10 => k_is)
    (case hdL => kernel_rfl)
    (case a11 => k_is)
    (case l11 => k_is)
    (case c11 => k_is)
    (case k11 => k_is)
    (case a12 => k_is)
    (case l12 => k_is)
    (case c12 => k_is)
    (case k12 => k_is)
    (case a13 => k_is)
    (case l13 => k_is)
    (case c13 => k_is)
    (case k13 => k_is)
    (case a14 => k_is)
    (case l14 => k_is)
    (case c14 => k_is)
    (case k14 => k_is)
    (case a15 => k_is)
    (case l15 => k_is)
    (case c15 => k_is)
    (case k15 => k_is)
    (case a16 => k_is)
    (case l16 => k_is)
    (case c16 => k_is)
    (case k16 => k_is)
    (case a17 => k_is)
    (case l17 => k_is)
    (case c17 => k_is)
    (case k17 => k_is)
    case eNoName =>
      refine' ⟨L2.errMk_of ?hev0 ?hev1 ?hev2 ?hev3 ?ho ?hcd ?hbind ?hcells ?hself ?hfld ?hfs ?hfd ?hks ?hkc ?hk ?hco ?hgen ?hp ?har ?hcode ?hvs ?hfile ?htop ?hcell ?hD ?hmro ?halong ?hsubC ?hsubV ?hopq ?hsup ?hT ?hC ?hB ?hsa ?hpo ?htk ?hhd ?hfind ?htyp ?hc0 ?hkp, PySem.W.mg_of KX G ?aC⟩
      (case aC => k_is)
      (case hfind => k_is)
      (case ho => k_is)
      (case hcd => k_is)
      (case hcode => k_is)
      (case hvs => rfl)
      (case hcell => k_is)
      (case hD => k_is)
      (case hmro => rfl)
      (case hC => k_is)
      (case hev0 => intro L; rfl)
      (case hev1 => intro L; rfl)
      (case hev2 => intro L; rfl)
      (case hev3 => intro L; rfl)
      (case hbind => intro a b; rfl)
      (case hcells => decide +kernel)
      (case hself => rfl)
      (case hfld => rfl)
      (case hfs => decide +kernel)
      (case hfd => decide +kernel)
      (case hks => rfl)
      (case hkc => rfl)
      (case hk => rfl)
      (case hco => rfl)
      (case hgen => rfl)
      (case hp => rfl)
      (case har => rfl)
      (case hfile => decide +kernel)
      (case htop => rfl)
      (case halong => rfl)
      (case hsubC => k_is)
      (case hsubV => k_is)
      (case hopq => k_is)
      (case hsup => refine' PySem.W.mg_none_of KX G ?_; k_is)
      (case hT => exact fun h X => PySem.W.tail_of_in X (by kernel_rfl))
      (case hB => decide +kernel)
      (case hsa => k_is)
      (case hpo => kernel_rfl)
      (case htk => k_is)
      (case hhd => k_is)
      (case htyp => k_is)
      (case hc0 => decide +kernel)
      (case hkp => k_is)
    case eNoWeb =>
      refine' ⟨L2.errMk_of ?hev0 ?hev1 ?hev2 ?hev3 ?ho ?hcd ?hbind ?hcells ?hself ?hfld ?hfs ?hfd ?hks ?hkc ?hk ?hco ?hgen ?hp ?har ?hcode ?hvs ?hfile ?htop ?hcell ?hD ?hmro ?halong ?hsubC ?hsubV ?hopq ?hsup ?hT ?hC ?hB ?hsa ?hpo ?htk ?hhd ?hfind ?htyp ?hc0 ?hkp, PySem.W.mg_of KX G ?aC⟩
      (case aC => k_is)
      (case hfind => k_is)
      (case ho => k_is)
      (case hcd => k_is)
      (case hcode => k_is)
      (case hvs => rfl)
      (case hcell => k_is)
      (case hD => k_is)
      (case hmro => rfl)
      (case hC => k_is)
      (case hev0 => intro L; rfl)
      (case hev1 => intro L; rfl)
      (case hev2 => intro L; rfl)
      (case hev3 => intro L; rfl)
      (case hbind => intro a b; rfl)
      (case hcells => decide +kernel)
      (case hself => rfl)
      (case hfld => rfl)
      (case hfs => decide +kernel)
      (case hfd => decide +kernel)
      (case hks => rfl)
      (case hkc => rfl)
      (case hk => rfl)
      (case hco => rfl)
      (case hgen => rfl)
      (case hp => rfl)
      (case har => rfl)
      (case hfile => decide +kernel)
      (case htop => rfl)
      (case halong => rfl)
      (case hsubC => k_is)
      (case hsubV => k_is)
      (case hopq => k_is)
      (case hsup => refine' PySem.W.mg_none_of KX G ?_; k_is)
      (case hT => exact fun h X => PySem.W.tail_of_in X (by kernel_rfl))
      (case hB => decide +kernel)
      (case hsa => k_is)
      (case hpo => kernel_rfl)
      (case htk => k_is)
      (case hhd => k_is)
      (case htyp => k_is)
      (case hc0 => decide +kernel)
      (case hkp => k_is)
    case eNoTable =>
      refine' ⟨L2.errMk_of ?hev0 ?hev1 ?hev2 ?hev3 ?ho ?hcd ?hbind ?hcells ?hself ?hfld ?hfs ?hfd ?hks ?hkc ?hk ?hco ?hgen ?hp ?har ?hcode ?hvs ?hfile ?htop ?hcell ?hD ?hmro ?halong ?hsubC ?hsubV ?hopq ?hsup ?hT ?hC ?hB ?hsa ?hpo ?htk ?hhd ?hfind ?htyp ?hc0 ?hkp, PySem.W.mg_of KX G ?aC⟩
      (case aC => k_is)
      (case hfind => k_is)
      (case ho => k_is)
      (case hcd => k_is)
      (case hcode => k_is)
      (case hvs => rfl)
      (case hcell => k_is)
      (case hD => k_is)
      (case hmro => rfl)
      (case hC => k_is)
      (case hev0 => intro L; rfl)
      (case hev1 => intro L; rfl)
      (case hev2 => intro L; rfl)
      (case hev3 => intro L; rfl)
      (case hbind => intro a b; rfl)
      (case hcells => decide +kernel)
      (case hself => rfl)
      (case hfld => rfl)
      (case hfs => decide +kernel)
      (case hfd => decide +kernel)
      (case hks => rfl)
      (case hkc => rfl)
      (case hk => rfl)
      (case hco => rfl)
      (case hgen => rfl)
      (case hp => rfl)
      (case har => rfl)
      (case hfile => decide +kernel)
      (case htop => rfl)
      (case halong => rfl)
      (case hsubC => k_is)
      (case hsubV => k_is)
      (case hopq => k_is)
      (case hsup => refine' PySem.W.mg_none_of KX G ?_; k_is)
      (case hT => exact fun h X => PySem.W.tail_of_in X (by kernel_rfl))
      (case hB => decide +kernel)
      (case hsa => k_is)
      (case hpo => kernel_rfl)
      (case htk => k_is)
      (case hhd => k_is)
      (case htyp => k_is)
      (case hc0 => decide +kernel)
      (case hkp => k_is)
    case eNoRest =>
      refine' L2.errNmP_mk KX G ?gl ?hC ?hB ?hT ?hN ?hI ?hk
      (case gl => k_is)
      (case hC => k_is)
      (case hI => k_is)
      (case hk => k_is)
      (case hB => decide +kernel)
      (case hT => kernel_rfl)
      (case hN => kernel_rfl)
    case sNoRest =>
      refine' L2.errsP_mk KX G ⟨⟨?ga, ?gx, ?ba, ?hd⟩, ?cl, ?gs, ?tk, ?ob⟩ ?gl ?kn ?n1 ?j1 ?n2 ?j2 ?n3 ?j3 ?n4 ?j4 ?n5 ?j5 ?nL ?kL ?nV ?s1 ?t1 ?u1 ?u0 ?s2 ?t2 ?u2 ?kV
      (case gl => k_is)
      (case ga => k_is)
      (case gx => k_is)
      (case ba => k_is)
      (case hd => k_is)
      (case cl => k_is)
      (case gs => k_is)
      (case tk => k_is)
      (case ob => k_is)
      (case n1 => k_is)
      (case n2 => k_is)
      (case n3 => k_is)
      (case n4 => k_is)
      (case n5 => k_is)
      (case nL => k_is)
      (case nV => k_is)
      (case s1 => k_is)
      (case s2 => k_is)
      (case kn => kernel_rfl)
      (case j1 => kernel_rfl)
      (case j2 => kernel_rfl)
      (case j3 => kernel_rfl)
      (case j4 => kernel_rfl)
      (case j5 => kernel_rfl)
      (case kL => kernel_rfl)
      (case kV => kernel_rfl)
      (case t1 => decide +kernel)
      (case u1 => decide +kernel)
      (case u0 => decide +kernel)
      (case t2 => decide +kernel)
      (case u2 => decide +kernel)
    case eNoOrder =>
      refine' L2.errNmP_mk KX G ?gl ?hC ?hB ?hT ?hN ?hI ?hk
      (case gl => k_is)
      (case hC => k_is)
      (case hI => k_is)
      (case hk => k_is)
      (case hB => decide +kernel)
      (case hT => kernel_rfl)
      (case hN => kernel_rfl)
    case sNoOrder =>
      refine' L2.errsP_mk KX G ⟨⟨?ga, ?gx, ?ba, ?hd⟩, ?cl, ?gs, ?tk, ?ob⟩ ?gl ?kn ?n1 ?j1 ?n2 ?j2 ?n3 ?j3 ?n4 ?j4 ?n5 ?j5 ?nL ?kL ?nV ?s1 ?t1 ?u1 ?u0 ?s2 ?t2 ?u2 ?kV
      (case gl => k_is)
      (case ga => k_is)
      (case gx => k_is)
      (case ba => k_is)
      (case hd => k_is)
      (case cl => k_is)
      (case gs => k_is)
      (case tk => k_is)
      (case ob => k_is)
      (case n1 => k_is)
      (case n2 => k_is)
      (case n3 => k_is)
      (case n4 => k_is)
      (case n5 => k_is)
      (case nL => k_is)
      (case nV => k_is)
      (case s1 => k_is)
      (case s2 => k_is)
      (case kn => kernel_rfl)
      (case j1 => kernel_rfl)
      (case j2 => kernel_rfl)
      (case j3 => kernel_rfl)
      (case j4 => kernel_rfl)
      (case j5 => kernel_rfl)
      (case kL => kernel_rfl)
      (case kV => kernel_rfl)
      (case t1 => decide +kernel)
      (case u1 => decide +kernel)
      (case u0 => decide +kernel)
      (case t2 => decide +kernel)
      (case u2 => decide +kernel)
    case eNoAsk =>
      refine' L2.errNmP_mk KX G ?gl ?hC ?hB ?hT ?hN ?hI ?hk
      (case gl => k_is)
      (case hC => k_is)
      (case hI => k_is)
      (case hk => k_is)
      (case hB => decide +kernel)
      (case hT => kernel_rfl)
      (case hN => kernel_rfl)
    case sNoAsk =>
      refine' L2.errsP_mk KX G ⟨⟨?ga, ?gx, ?ba, ?hd⟩, ?cl, ?gs, ?tk, ?ob⟩ ?gl ?kn ?n1 ?j1 ?n2 ?j2 ?n3 ?j3 ?n4 ?j4 ?n5 ?j5 ?nL ?kL ?nV ?s1 ?t1 ?u1 ?u0 ?s2 ?t2 ?u2 ?kV
      (case gl => k_is)
      (case ga => k_is)
      (case gx => k_is)
      (case ba => k_is)
      (case hd => k_is)
      (case cl => k_is)
      (case gs => k_is)
      (case tk => k_is)
      (case ob => k_is)
      (case n1 => k_is)
      (case n2 => k_is)
      (case n3 => k_is)
      (case n4 => k_is)
      (case n5 => k_is)
      (case nL => k_is)
      (case nV => k_is)
      (case s1 => k_is)
      (case s2 => k_is)
      (case kn => kernel_rfl)
      (case j1 => kernel_rfl)
      (case j2 => kernel_rfl)
      (case j3 => kernel_rfl)
      (case j4 => kernel_rfl)
      (case j5 => kernel_rfl)
      (case kL => kernel_rfl)
      (case kV => kernel_rfl)
      (case t1 => decide +kernel)
      (case u1 => decide +kernel)
      (case u0 => decide +kernel)
      (case t2 => decide +kernel)
      (case u2 => decide +kernel)
    case sNoName =>
      refine' L2.errsP_mk KX G ⟨⟨?ga, ?gx, ?ba, ?hd⟩, ?cl, ?gs, ?tk, ?ob⟩ ?gl ?kn ?n1 ?j1 ?n2 ?j2 ?n3 ?j3 ?n4 ?j4 ?n5 ?j5 ?nL ?kL ?nV ?s1 ?t1 ?u1 ?u0 ?s2 ?t2 ?u2 ?kV
      (case gl => k_is)
      (case ga => k_is)
      (case gx => k_is)
      (case ba => k_is)
      (case hd => k_is)
      (case cl => k_is)
      (case gs => k_is)
      (case tk => k_is)
      (case ob => k_is)
      (case n1 => k_is)
      (case n2 => k_is)
      (case n3 => k_is)
      (case n4 => k_is)
      (case n5 => k_is)
      (case nL => k_is)
      (case nV => k_is)
      (case s1 => k_is)
      (case s2 => k_is)
      (case kn => kernel_rfl)
      (case j1 => kernel_rfl)
      (case j2 => kernel_rfl)
      (case j3 => kernel_rfl)
      (case j4 => kernel_rfl)
      (case j5 => kernel_rfl)
      (case kL => kernel_rfl)
      (case kV => kernel_rfl)
      (case t1 => decide +kernel)
      (case u1 => decide +kernel)
      (case u0 => decide +kernel)
      (case t2 => decide +kernel)
      (case u2 => decide +kernel)
    case sNoWeb =>
      refine' L2.errsP_mk KX G ⟨⟨?ga, ?gx, ?ba, ?hd⟩, ?cl, ?gs, ?tk, ?ob⟩ ?gl ?kn ?n1 ?j1 ?n2 ?j2 ?n3 ?j3 ?n4 ?j4 ?n5 ?j5 ?nL ?kL ?nV ?s1 ?t1 ?u1 ?u0 ?s2 ?t2 ?u2 ?kV
      (case gl => k_is)
      (case ga => k_is)
      (case gx => k_is)
      (case ba => k_is)
      (case hd => k_is)
      (case cl => k_is)
      (case gs => k_is)
      (case tk => k_is)
      (case ob => k_is)
      (case n1 => k_is)
      (case n2 => k_is)
      (case n3 => k_is)
      (case n4 => k_is)
      (case n5 => k_is)
      (case nL => k_is)
      (case nV => k_is)
      (case s1 => k_is)
      (case s2 => k_is)
      (case kn => kernel_rfl)
      (case j1 => kernel_rfl)
      (case j2 => kernel_rfl)
      (case j3 => kernel_rfl)
      (case j4 => kernel_rfl)
      (case j5 => kernel_rfl)
      (case kL => kernel_rfl)
      (case kV => kernel_rfl)
      (case t1 => decide +kernel)
      (case u1 => decide +kernel)
      (case u0 => decide +kernel)
      (case t2 => decide +kernel)
      (case u2 => decide +kernel)
    case sNoTable =>
      refine' L2.errsP_mk KX G ⟨⟨?ga, ?gx, ?ba, ?hd⟩, ?cl, ?gs, ?tk, ?ob⟩ ?gl ?kn ?n1 ?j1 ?n2 ?j2 ?n3 ?j3 ?n4 ?j4 ?n5 ?j5 ?nL ?kL ?nV ?s1 ?t1 ?u1 ?u0 ?s2 ?t2 ?u2 ?kV
      (case gl => k_is)
      (case ga => k_is)
      (case gx => k_is)
      (case ba => k_is)
      (case hd => k_is)
      (case cl => k_is)
      (case gs => k_is)
      (case tk => k_is)
      (case ob => k_is)
      (case n1 => k_is)
      (case n2 => k_is)
      (case n3 => k_is)
      (case n4 => k_is)
      (case n5 => k_is)
      (case nL => k_is)
      (case nV => k_is)
      (case s1 => k_is)
      (case s2 => k_is)
      (case kn => kernel_rfl)
      (case j1 => kernel_rfl)
      (case j2 => kernel_rfl)
      (case j3 => kernel_rfl)
      (case j4 => kernel_rfl)
      (case j5 => kernel_rfl)
      (case kL => kernel_rfl)
      (case kV => kernel_rfl)
      (case t1 => decide +kernel)
      (case u1 => decide +kernel)
      (case u0 => decide +kernel)
      (case t2 => decide +kernel)
      (case u2 => decide +kernel)
    (case dNoName => k_is)
    (case dNoWeb => k_is)
    (case dNoTable => k_is)
    case rNoRest =>
      refine' ⟨?st, ?sb⟩
      (case st => k_is)
      (case sb => k_is)
    case rNoOrder =>
      refine' ⟨?st, ?sb⟩
      (case st => k_is)
      (case sb => k_is)
    case rNoAsk =>
      refine' ⟨?st, ?sb⟩
      (case st => k_is)
      (case sb => k_is)
    (case z_len => k_is)
    (case z_range => k_is)
    (case z_list => k_is)
    (case z_tuple => k_is)
    (case z_sum => k_is)
    (case z_str => k_is)
    (case z_int => k_is)
    (case z_bool => k_is)
    (case z_dict => k_is)
    (case z_set => k_is)
    (case z_isinstance => k_is)
    (case z_min => k_is)
    (case z_max => k_is)
    (case z_zip => k_is)
    (case z_all => k_is)
    (case z_enumerate => k_is)
    (case z_reversed => k_is)
    (case z_any => k_is)
    (case z_sorted => k_is)
  case P =>
    intro w
    kernel_rfl
