import PyProof.Rows.All
import Wide.All
import OpenK.AllK
import Wide.FinOn
import Lean
import PyProof.EqAt
import PyProof.EqKinds
import PyProof.TupleCall
import PySem.Challenge.RW_turnframe_k32_by_steps
set_option Elab.async false
set_option linter.all false
set_option maxRecDepth 100000
/-! THE HAND LAYER, for ints, bools, texts, own classes, LISTS and tuples (index, slices, in, append, pop ..), calls, loops. Paste it whole ahead of your own text; what your proof does not reach may be deleted. -/
namespace L2
open PySem PySem.Spec PyProof.Rows

/-- a key: an int or a str -/
abbrev Key := Sum Int Str
def keyIs : Key → Value → Bool
  | .inl k, v => Value.isInt k v
  | .inr x, v => Value.isStrOf x v
def keyH (w : World) : Key → Int
  | .inl k => hashInt k
  | .inr x => hashStr w x
theorem keyIs_shape : ∀ {k : Key} {v : Value}, keyIs k v = true → (∃ i t, k = Sum.inl i ∧ v = Value.int i t) ∨ (∃ x t, k = Sum.inr x ∧ v = Value.str x t)
  | .inl i, v, h => by
    obtain ⟨t, e⟩ := Value.isInt_shape (k := i) (v := v) h
    exact .inl ⟨i, t, rfl, e⟩
  | .inr x, v, h => by
    obtain ⟨t, e⟩ := Value.isStrOf_shape (x := x) (v := v) h
    exact .inr ⟨x, t, rfl, e⟩
theorem key_ll (a b : Int) : decide ((Sum.inl a : Key) = Sum.inl b) = (a == b) := by
  by_cases e : a = b
  · subst e; simp
  · have h : ¬ (Sum.inl a : Key) = Sum.inl b := fun q => e (Sum.inl.inj q)
    rw [decide_eq_false h]
    exact (beq_eq_false_iff_ne.mpr e).symm
theorem key_rr (a b : Str) : decide ((Sum.inr a : Key) = Sum.inr b) = decide (a = b) := by
  by_cases e : a = b
  · subst e; simp
  · have h : ¬ (Sum.inr a : Key) = Sum.inr b := fun q => e (Sum.inr.inj q)
    rw [decide_eq_false h, decide_eq_false e]
theorem key_lr (a : Int) (b : Str) : decide ((Sum.inl a : Key) = Sum.inr b) = false := decide_eq_false (fun q => nomatch q)
theorem key_rl (a : Str) (b : Int) : decide ((Sum.inr a : Key) = Sum.inl b) = false := decide_eq_false (fun q => nomatch q)

def mixKind (prog : Program) (w : World) : PySem.KeyKind prog w Key where
  is := keyIs
  hash := keyH w
  inj := fun v a b ha hb => by
    rcases keyIs_shape ha with ⟨i, t, rfl, rfl⟩ | ⟨x, t, rfl, rfl⟩
    · rcases keyIs_shape hb with ⟨j, u, rfl, e⟩ | ⟨y, u, rfl, e⟩
      · injection e with e1 _; rw [e1]
      · exact nomatch e
    · rcases keyIs_shape hb with ⟨j, u, rfl, e⟩ | ⟨y, u, rfl, e⟩
      · exact nomatch e
      · injection e with e1 _; rw [e1]
  byValue := fun k v h => by
    rcases keyIs_shape h with ⟨i, t, rfl, rfl⟩ | ⟨x, t, rfl, rfl⟩ <;> rfl
  pyHash := fun hv h => by
    rcases keyIs_shape hv with ⟨i, t, rfl, rfl⟩ | ⟨x, t, rfl, rfl⟩
    · exact wpAny_pyHash_int h
    · exact wpAny_pyHash_str h
  eqBool := fun hu hv h => by
    rcases keyIs_shape hu with ⟨i, t, rfl, rfl⟩ | ⟨x, t, rfl, rfl⟩
    · rcases keyIs_shape hv with ⟨j, u, rfl, rfl⟩ | ⟨y, u, rfl, rfl⟩
      · rw [key_ll] at h; exact wpAny_eqBool_int h
      · rw [key_lr] at h; exact SeqAt.EqAt.int_str i t y u _ _ _ _ h
    · rcases keyIs_shape hv with ⟨j, u, rfl, rfl⟩ | ⟨y, u, rfl, rfl⟩
      · rw [key_rl] at h; exact SeqAt.EqAt.str_int x t j u _ _ _ _ h
      · rw [key_rr] at h; exact wpAny_eqBool_str h
  «strs» := fun k x t v h => by
    rcases keyIs_shape h with ⟨i, u, rfl, e⟩ | ⟨y, u, rfl, e⟩
    · exact nomatch e
    · injection e with e1 _
      subst e1
      cases v <;> rfl

end L2

namespace L2
open PySem PySem.Spec PyProof.Rows

/-- a value, without the heap -/
inductive V where
  | non | bl (b : Bool) | int (i : Int) | str (x : Str) | byt (b : Array UInt8) | flt (b : UInt64) | ref (a : Addr) | ty (n : String)
  deriving DecidableEq

def RelV : V → Value → Prop
  | .non, u => u = Value.none
  | .bl b, u => u = Value.bool b
  | .int i, u => ∃ t, u = Value.int i t
  | .str x, u => ∃ t, u = Value.str x t
  | .byt b, u => ∃ t, u = Value.bytes b t
  | .flt b, u => ∃ t, u = Value.float b t
  | .ref a, u => u = Value.ref a
  | .ty n, u => u = Value.type n

abbrev Vals : List V → List Value → Prop := Paired RelV
theorem Vals.length {xs : List V} {us : List Value} (r : Vals xs us) : xs.length = us.length := Paired.length r
theorem Vals.get : ∀ {xs : List V} {us : List Value} {i : Nat} {x : V}, Vals xs us → xs[i]? = some x → ∃ u, us[i]? = some u ∧ RelV x u
  | _, _, _, _, .nil, e => by simp at e
  | _, _, 0, _, .cons r _, e => by simp at e; subst e; exact ⟨_, rfl, r⟩
  | _, _, i + 1, x, .cons _ t, e => by
    obtain ⟨u, h1, h2⟩ := Vals.get (i := i) (x := x) t (by simpa using e)
    exact ⟨u, by simpa using h1, h2⟩
theorem Vals.set {x : V} {u : Value} (r : RelV x u) : ∀ {xs : List V} {us : List Value} (i : Nat), Vals xs us → Vals (xs.set i x) (us.set i u)
  | _, _, _, .nil => .nil
  | _, _, 0, .cons _ t => .cons r t
  | _, _, i + 1, .cons q t => .cons q (Vals.set r i t)
theorem Vals.append : ∀ {xs ys : List V} {us ws : List Value}, Vals xs us → Vals ys ws → Vals (xs ++ ys) (us ++ ws)
  | _, _, _, _, .nil, s => s
  | _, _, _, _, .cons r t, s => .cons r (Vals.append t s)
theorem Vals.take : ∀ {xs : List V} {us : List Value} (n : Nat), Vals xs us → Vals (xs.take n) (us.take n)
  | _, _, 0, _ => .nil
  | _, _, _ + 1, .nil => .nil
  | _, _, n + 1, .cons r t => .cons r (Vals.take n t)
theorem Vals.drop : ∀ {xs : List V} {us : List Value} (n : Nat), Vals xs us → Vals (xs.drop n) (us.drop n)
  | _, _, 0, r => r
  | _, _, _ + 1, .nil => .nil
  | _, _, n + 1, .cons _ t => Vals.drop n t
theorem Vals.none_of : ∀ {xs : List V} {us : List Value} {i : Nat}, Vals xs us → xs[i]? = none → us[i]? = none := fun {xs us i} r e => by
  have h1 := r.length
  have h2 : xs.length ≤ i := List.getElem?_eq_none_iff.mp e
  exact List.getElem?_eq_none_iff.mpr (by omega)

def RelO : Option V → Option Value → Prop
  | some v, some u => RelV v u
  | none, none => True
  | _, _ => False
def KV {κ : Type} : List (κ × V) → List (κ × Value) → Prop := Paired fun (p : κ × V) (q : κ × Value) => p.1 = q.1 ∧ RelV p.2 q.2

/-- a key of a dict (00_mix): an int or a text -/
def kV : Key → V
  | .inl i => .int i
  | .inr x => .str x

/-- what stands at a tracked address -/
inductive HO where
  /-- a list -/
  | lst (xs : List V)
  /-- a tuple (never changes) -/
  | tup (xs : List V)
  /-- a dict whose keys are ints and texts; one whose keys are tuples of ints and texts (the empty one is both) -/
  | dK (kvs : List (Key × V)) | dT (kvs : List (List Key × V))
  /-- a set of ints: its members, its size -/
  | set (S : Int → Bool) (n : Nat)
  /-- an instance of the class at C, its dict at dx, its attributes -/
  | ins (C dx : Addr) (fs : List (Str × V))
  /-- the dict of the instance at x -/
  | own (x : Addr)
  /-- the dict of an exception -/
  | xd (fs : List (Str × V))
  /-- a bound method, f of x -/
  | met (f x : Addr)
  /-- a range object lo, lo + 1, .. below hi -/
  | rng (lo hi : Int)
  /-- a thing that is known to the object (the script; a dict while a loop walks it): read, never written while it is so -/
  | frz (o : Obj) (u : HO)
  /-- a code object's table -/
  | tbl (ps : Array Value)
  /-- any other thing, by what is true of its one object (a def of one's own: SetO a S n := HO.ext fun h => ..) -/
  | ext (φ : Heap → Prop)

abbrev Hp := Addr → Option HO
def upd (H : Hp) (a : Addr) (o : HO) : Hp := fun b => if b = a then some o else H b
theorem upd_same {H : Hp} {a : Addr} {o : HO} : upd H a o a = some o := by unfold upd; rw [if_pos rfl]
theorem upd_ne {H : Hp} {a b : Addr} {o : HO} (h : b ≠ a) : upd H a o b = H b := by unfold upd; rw [if_neg h]
theorem ne_of_none {H : Hp} {a b : Addr} {o : HO} (h : H a = some o) (h' : H b = none) : a ≠ b := by
  intro e; subst e; rw [h] at h'; cases h'

section
variable (P : Program) (w : World)
def ObjOk (H : Hp) (h : Heap) (a : Addr) : HO → Prop
  | .lst xs => xs.length ≤ sizeLine ∧ ∃ (its : List Value) (n : Nat), Vals xs its ∧ h.get? a = some { cls := .type "list", data := .seq its.toArray n }
  | .tup xs => xs.length ≤ sizeLine ∧ ∃ its : List Value, Vals xs its ∧ IsTup h a its.toArray
  | .dK kvs => kvs.length ≤ sizeLine ∧ (a == sysModules) = false ∧ ∃ vs, KV kvs vs ∧ h.DictOf (mixKind P w) a vs
  | .dT kvs => kvs.length ≤ sizeLine ∧ (a == sysModules) = false ∧ ∃ xs : List (List Key × Addr × Value),
      Paired (fun (p : List Key × V) (q : List Key × Addr × Value) => p.1 = q.1 ∧ H q.2.1 = some (.tup (p.1.map kV)) ∧ RelV p.2 q.2.2) kvs xs ∧
      ∃ o es ep, h.get? a = some o ∧ o.ExactDict ∧ o.data = .dict es ep ∧ es.toList = xs.map (entryOfKey (tupleKind (mixKind P w))) ∧ (xs.map (·.1)).Nodup
  | .set S n => h.SetOf (intKind P w) a S n
  | .ins C dx fs => H dx = some (.own a) ∧ fs.length ≤ 1000 ∧ dx ≠ a ∧ h.get? a = some (PySem.W.instObj C dx) ∧
      ∃ mA, h.Ns1 dx mA ∧ (∀ f, RelO (fs.lookup f) (mA f)) ∧ PySem.Within mA (fs.map (·.1))
  | .own _ => ∃ o, h.get? a = some o
  | .xd fs => ∃ mA, h.Ns1 a mA ∧ ∀ f, RelO (fs.lookup f) (mA f)
  | .rng lo hi => ∃ t u v, h.get? a = some { cls := .type "range", data := .fields #[.int lo t, .int hi u, .int 1 v] }
  | .frz o u => h.get? a = some o ∧ ObjOk H h a u
  | .tbl ps => h.get? a = some { cls := .none, data := .fields ps }
  | .met f x => h.get? a = some (PySem.W.methodObj (.ref f) (.ref x))
  | .ext φ => φ h ∧ (∃ o, h.get? a = some o) ∧ ∀ h1 h2 : Heap, φ h1 → (∀ o, h1.get? a = some o → h2.get? a = some o) → φ h2
/-- the abstract heap is held -/
def HOk (H : Hp) (h : Heap) : Prop := ∀ a o, H a = some o → ObjOk P w H h a o
end

section
variable {P : Program} {w : World} {H H' : Hp} {h h' : Heap} {a : Addr} {o : HO}
theorem ObjOk.lt (x : ObjOk P w H h a o) : a < h.objs.size := by
  cases o with
  | lst xs => obtain ⟨_, _, _, _, e⟩ := x; exact Heap.lt_size e
  | tup xs => obtain ⟨_, _, _, p⟩ := x; exact p.lt
  | dK kvs => obtain ⟨_, _, _, _, o, _, _, e, _⟩ := x; exact Heap.lt_size e
  | dT kvs => obtain ⟨_, _, _, _, o, _, _, e, _⟩ := x; exact Heap.lt_size e
  | set S n => obtain ⟨o, _, _, _, e, _⟩ := x; exact Heap.lt_size e
  | ins C dx fs => obtain ⟨_, _, _, e, _⟩ := x; exact Heap.lt_size e
  | own y => obtain ⟨_, e⟩ := x; exact Heap.lt_size e
  | xd fs => obtain ⟨_, ⟨_, _, _, e, _⟩, _⟩ := x; exact Heap.lt_size e
  | rng lo hi => obtain ⟨_, _, _, e⟩ := x; exact Heap.lt_size e
  | frz ob u => obtain ⟨e, _⟩ := x; exact Heap.lt_size e
  | tbl ps => exact Heap.lt_size (show h.get? a = some _ from x)
  | met f y => exact Heap.lt_size (show h.get? a = some _ from x)
  | ext φ => obtain ⟨_, ⟨_, e⟩, _⟩ := x; exact Heap.lt_size e
theorem Paired.mapP {α β : Type} {F G : α → β → Prop} : ∀ {l₁ : List α} {l₂ : List β}, Paired F l₁ l₂ → (∀ a b, F a b → G a b) → Paired G l₁ l₂
  | _, _, .nil, _ => .nil
  | _, _, .cons r t, f => .cons (f _ _ r) (Paired.mapP t f)
/-- what an object's description leans on: its own object, its own dict, the tuples -/
theorem ObjOk.stay (x : ObjOk P w H h a o) (k : ∀ b u, (b = a ∨ H b = some (.own a)) → h.get? b = some u → h'.get? b = some u)
    (ho : ∀ b, H b = some (.own a) → H' b = some (.own a)) (ht : ∀ b xs, H b = some (.tup xs) → H' b = some (.tup xs)) : ObjOk P w H' h' a o := by
  induction o with
  | lst xs => obtain ⟨z, its, n, r, e⟩ := x; exact ⟨z, its, n, r, k _ _ (.inl rfl) e⟩
  | tup xs => obtain ⟨z, its, r, ob, e, c⟩ := x; exact ⟨z, its, r, ob, k _ _ (.inl rfl) e, c⟩
  | dK kvs => obtain ⟨z, y, vs, r, ob, es, ep, e, c⟩ := x; exact ⟨z, y, vs, r, ob, es, ep, k _ _ (.inl rfl) e, c⟩
  | dT kvs =>
    obtain ⟨z, y, xs, r, ob, es, ep, e, c⟩ := x
    exact ⟨z, y, xs, Paired.mapP r fun p q z => ⟨z.1, ht _ _ z.2.1, z.2.2⟩, ob, es, ep, k _ _ (.inl rfl) e, c⟩
  | set S n => obtain ⟨ob, es, ep, t, e, c⟩ := x; exact ⟨ob, es, ep, t, k _ _ (.inl rfl) e, c⟩
  | ins C dx fs =>
    obtain ⟨d, z, ne, e, mA, ⟨od, es, ep, e2, c⟩, r⟩ := x
    exact ⟨ho _ d, z, ne, k _ _ (.inl rfl) e, mA, ⟨od, es, ep, k _ _ (.inr d) e2, c⟩, r⟩
  | own y => obtain ⟨ob, e⟩ := x; exact ⟨ob, k _ _ (.inl rfl) e⟩
  | xd fs => obtain ⟨mA, ⟨od, es, ep, e, c⟩, r⟩ := x; exact ⟨mA, ⟨od, es, ep, k _ _ (.inl rfl) e, c⟩, r⟩
  | rng lo hi => obtain ⟨t, u, v, e⟩ := x; exact ⟨t, u, v, k _ _ (.inl rfl) e⟩
  | frz ob u ih => obtain ⟨e, q⟩ := x; exact ⟨k _ _ (.inl rfl) e, ih q⟩
  | tbl ps =>
    have e : h.get? a = some { cls := .none, data := .fields ps } := x
    show h'.get? a = some { cls := .none, data := .fields ps }
    exact k a _ (.inl rfl) e
  | met f y =>
    have e : h.get? a = some (PySem.W.methodObj (.ref f) (.ref y)) := x
    show h'.get? a = some (PySem.W.methodObj (.ref f) (.ref y))
    exact k a _ (.inl rfl) e
  | ext φ => obtain ⟨p, ⟨o, e⟩, st⟩ := x; exact ⟨st _ _ p fun o q => k _ _ (.inl rfl) q, ⟨o, k _ _ (.inl rfl) e⟩, st⟩
theorem HOk.lt (x : HOk P w H h) (e : H a = some o) : a < h.objs.size := (x a o e).lt
theorem HOk.fresh (x : HOk P w H h) (e : h.objs.size ≤ a) : H a = none := by
  cases q : H a with
  | none => rfl
  | some u => exact absurd (Nat.lt_of_lt_of_le (x.lt q) e) (Nat.lt_irrefl _)
/-- every object of the heap is kept -/
theorem HOk.kept (x : HOk P w H h) (k : ∀ b u, h.get? b = some u → h'.get? b = some u) : HOk P w H h' := fun a o e =>
  (x a o e).stay (fun b u _ q => k b u q) (fun _ q => q) fun _ _ q => q
/-- a new object is laid and tracked -/
theorem HOk.laid (x : HOk P w H h) (k : ∀ b u, h.get? b = some u → h'.get? b = some u) (hp : h.objs.size ≤ a) (new : ObjOk P w (upd H a o) h' a o) : HOk P w (upd H a o) h' := fun b u e => by
  have hn := x.fresh hp
  by_cases hb : b = a
  · subst hb; rw [upd_same] at e; cases e; exact new
  · rw [upd_ne hb] at e
    exact (x b u e).stay (fun c v _ q => k c v q) (fun c q => by rw [upd_ne (ne_of_none q hn)]; exact q) fun c xs q => by rw [upd_ne (ne_of_none q hn)]; exact q
end

/-- what may be read as u: it is u, or a known u -/
def Rd (H : Hp) (a : Addr) (u : HO) : Prop := H a = some u ∨ ∃ o, H a = some (.frz o u)
theorem Rd.of {H : Hp} {a : Addr} {u : HO} (h : H a = some u) : Rd H a u := .inl h
theorem Rd.ok {P : Program} {w : World} {H : Hp} {h : Heap} {a : Addr} {u : HO} (r : Rd H a u) (x : HOk P w H h) : ObjOk P w H h a u := by
  rcases r with r | ⟨o, r⟩
  · exact x a u r
  · obtain ⟨_, q⟩ := x a _ r
    exact q
/-- what may be written -/
def Mut : Option HO → Prop
  | some (.lst _) => True
  | some (.dK _) => True
  | some (.dT _) => True
  | some (.set _ _) => True
  | some (.ins _ _ _) => True
  | some (.ext _) => True
  | _ => False
section
variable {P : Program} {w : World} {H : Hp} {h h' : Heap} {x e : Addr} {o' : HO}
/-- the object at e is changed: x itself, or the dict of the instance x -/
theorem HOk.write (ok : HOk P w H h) (mu : Mut (H x)) (he : e = x ∨ H e = some (.own x)) (k : ∀ b u, b ≠ e → h.get? b = some u → h'.get? b = some u) (heo : ∃ u, h'.get? e = some u)
    (new : ObjOk P w (upd H x o') h' x o') : HOk P w (upd H x o') h' := fun b u q => by
  have nown : ∀ c y, H c = some (.own y) → c ≠ x := fun c y r z => by subst z; rw [r] at mu; exact mu
  have ntup : ∀ c xs, H c = some (.tup xs) → c ≠ x := fun c xs r z => by subst z; rw [r] at mu; exact mu
  by_cases hb : b = x
  · subst hb; rw [upd_same] at q; cases q; exact new
  · rw [upd_ne hb] at q
    by_cases hbe : b = e
    · have q' : H b = some (.own x) := by
        rcases he with z | z
        · exact absurd (hbe.trans z) hb
        · rw [hbe]; exact z
      rw [q] at q'; cases q'
      obtain ⟨v, hv⟩ := heo
      exact ⟨v, by rw [hbe]; exact hv⟩
    · refine (ok b u q).stay (fun c v hc r => k c v ?_ r) (fun c r => by rw [upd_ne (nown c b r)]; exact r) fun c xs r => by rw [upd_ne (ntup c xs r)]; exact r
      rcases hc with rfl | hc
      · exact hbe
      · rintro rfl
        rcases he with z | z
        · exact nown c b hc z
        · rw [hc] at z; cases z; exact hb rfl
end

/-! ### kept unless tracked; of the frames at fs (the callers') the slots may change (an exception that passes writes there); of the records at ex (iterators) nothing is said -/
structure Un (fs ex : List Addr) (H H' : Hp) (h h' : Heap) : Prop where
  keep : ∀ b o, h.get? b = some o → H b = none → b ∉ fs → b ∉ ex → h'.get? b = some o
  slot : ∀ b o, h.get? b = some o → H b = none → b ∈ fs → b ∉ ex → ∃ sl, h'.get? b = some { o with slots := sl }
  free : ∀ b o, h.get? b = some o → H b = none → b ∉ ex → H' b = none
  there : ∀ b o, h.get? b = some o → b ∉ ex → ∃ o', h'.get? b = some o'
  tups : ∀ b xs, H b = some (.tup xs) → H' b = some (.tup xs)
  frzs : ∀ b o u, H b = some (.frz o u) → H' b = some (.frz o u)
  tbls : ∀ b ps, H b = some (.tbl ps) → ∃ more, H' b = some (.tbl (ps ++ more))
section
variable {fs fs' ex ex' : List Addr} {H H1 H2 : Hp} {h h1 h2 h' : Heap} {a x e : Addr} {o : HO}
theorem Un.any (u : Un fs ex H H1 h h1) {b : Addr} {ob : Obj} (q : h.get? b = some ob) (n : H b = none) (hx : b ∉ ex) : ∃ sl, h1.get? b = some { ob with slots := sl } := by
  by_cases hb : b ∈ fs
  · exact u.slot b ob q n hb hx
  · exact ⟨ob.slots, u.keep b ob q n hb hx⟩
theorem Un.trans (a : Un fs ex H H1 h h1) (b : Un fs ex H1 H2 h1 h2) : Un fs ex H H2 h h2 where
  keep := fun c ob q n hc hx => b.keep c ob (a.keep c ob q n hc hx) (a.free c ob q n hx) hc hx
  slot := fun c ob q n hc hx => by
    obtain ⟨sl, e1⟩ := a.slot c ob q n hc hx
    obtain ⟨sl', e2⟩ := b.slot c _ e1 (a.free c ob q n hx) hc hx
    exact ⟨sl', e2⟩
  free := fun c ob q n hx => by
    obtain ⟨o', e1⟩ := a.there c ob q hx
    exact b.free c o' e1 (a.free c ob q n hx) hx
  there := fun c ob q hx => by
    obtain ⟨o', e1⟩ := a.there c ob q hx
    exact b.there c o' e1 hx
  tups := fun c xs q => b.tups c xs (a.tups c xs q)
  frzs := fun c ob xs q => b.frzs c ob xs (a.frzs c ob xs q)
  tbls := fun c ps q => by
    obtain ⟨m1, e1⟩ := a.tbls c ps q
    obtain ⟨m2, e2⟩ := b.tbls c _ e1
    exact ⟨m1 ++ m2, by rw [e2, Array.append_assoc]⟩
theorem Un.kept (k : ∀ b u, h.get? b = some u → h'.get? b = some u) : Un fs ex H H h h' :=
  ⟨fun b ob q _ _ _ => k b ob q, fun b ob q _ _ _ => ⟨ob.slots, k b ob q⟩, fun _ _ _ n _ => n, fun b ob q _ => ⟨ob, k b ob q⟩, fun _ _ q => q, fun _ _ _ q => q, fun _ ps q => ⟨#[], by rw [q]; simp⟩⟩
theorem Un.refl : Un fs ex H H h h := Un.kept fun _ _ q => q
theorem Un.laid (k : ∀ b u, h.get? b = some u → h'.get? b = some u) (hp : h.objs.size ≤ a) (hn : H a = none) : Un fs ex H (upd H a o) h h' where
  keep := fun b u q _ _ _ => k b u q
  slot := fun b u q _ _ _ => ⟨u.slots, k b u q⟩
  free := fun b u q n _ => by rw [upd_ne (Nat.ne_of_lt (Nat.lt_of_lt_of_le (Heap.lt_size q) hp))]; exact n
  there := fun b u q _ => ⟨u, k b u q⟩
  tups := fun b xs q => by rw [upd_ne (ne_of_none q hn)]; exact q
  frzs := fun b u xs q => by rw [upd_ne (ne_of_none q hn)]; exact q
  tbls := fun b ps q => ⟨#[], by rw [upd_ne (ne_of_none q hn), q]; simp⟩
theorem Un.write (mu : Mut (H x)) (he : e = x ∨ H e = some (.own x)) (k : ∀ b u, b ≠ e → h.get? b = some u → h'.get? b = some u) (heo : ∃ u, h'.get? e = some u) : Un fs ex H (upd H x o) h h' := by
  have hx : ∀ b, H b = none → b ≠ x := fun b n z => by subst z; rw [n] at mu; exact mu
  have hb : ∀ b, H b = none → b ≠ e := fun b n z => by
    subst z
    rcases he with r | r
    · exact hx b n r
    · rw [n] at r; cases r
  have hm : ∀ b u, H b = some u → ¬ Mut (some u) → b ≠ x := fun b u q nm z => by subst z; rw [q] at mu; exact nm mu
  refine ⟨fun b u q n _ _ => k b u (hb b n) q, fun b u q n _ _ => ⟨u.slots, k b u (hb b n) q⟩, fun b u q n _ => by rw [upd_ne (hx b n)]; exact n, fun b u q _ => ?_,
    fun b xs q => by rw [upd_ne (hm b _ q fun z => z)]; exact q, fun b u xs q => by rw [upd_ne (hm b _ q fun z => z)]; exact q, fun b ps q => ⟨#[], by rw [upd_ne (hm b _ q fun z => z), q]; simp⟩⟩
  by_cases hbe : b = e
  · subst hbe; exact heo
  · exact ⟨u, k b u hbe q⟩
theorem Un.mono (u : Un fs ex H H1 h h1) (hs : ∀ b ∈ fs, b ∈ fs') (hx : ∀ b ∈ ex, b ∈ ex') : Un fs' ex' H H1 h h1 :=
  ⟨fun b ob q n hb he => u.keep b ob q n (fun z => hb (hs b z)) fun z => he (hx b z), fun _ _ q n _ he => u.any q n fun z => he (hx _ z), fun b ob q n he => u.free b ob q n fun z => he (hx b z), fun b ob q he => u.there b ob q fun z => he (hx b z), u.tups, u.frzs, u.tbls⟩
end

/-! ### the heap without what is tracked -/
def trk (h : Heap) (H : Hp) : List Addr := (List.range h.objs.size).filter fun a => (H a).isSome
def hidT (h : Heap) (H : Hp) : Heap := PySem.W.hideAll h (trk h H)
theorem hidT_size (h : Heap) (H : Hp) : (hidT h H).objs.size = h.objs.size := PySem.W.hideAll_size _ _
theorem hidT_get {h : Heap} {H : Hp} {b : Addr} {o : Obj} (e : h.get? b = some o) (n : H b = none) : (hidT h H).get? b = some o :=
  PySem.W.hideAll_get _ e fun hm => by
    have q : (H b).isSome = true := (List.mem_filter.mp hm).2
    rw [n] at q; simp at q
theorem of_hidT {h : Heap} {H : Hp} {b : Addr} {o : Obj} (e : (hidT h H).get? b = some o) : h.get? b = some o ∧ H b = none := by
  have e' : h.get? b = some o := PySem.W.of_hideAll (trk h H) e
  refine ⟨e', ?_⟩
  cases q : H b with
  | none => rfl
  | some x =>
    have hm : b ∈ trk h H := List.mem_filter.mpr ⟨List.mem_range.mpr (Heap.lt_size e'), by simp [q]⟩
    have z : (hidT h H).get? b = none := PySem.W.hideAll_none (trk h H) hm
    rw [z] at e; cases e

/-! ### OpenK's ledger, filled with every new object but one -/
def allNews (g h : Heap) (L : Addr) : List (Addr × Obj) := (List.range h.objs.size).filterMap fun a => if a = L ∨ (g.get? a).isSome = true then none else (h.get? a).map fun o => (a, o)
def rest (g h : Heap) (L d : Addr) : List (Addr × Obj) := (allNews g h L).filter fun p => decide (p.1 ≠ d)
end L2

namespace L2
open PySem PySem.Spec PyProof.Rows

/-- the module's facts, over the base: the heap at the law's entry without what is tracked there -/
structure Mod (K : PySem.W.Frag) (mg : Str → Option Value) (base : Heap) : Prop where
  kin : K.In base
  glob : base.Ns mainGlobals mg
  blt : ∃ mb, base.Ns builtinsNs mb ∧ ∀ x : Str, x ≠ "__name__" → mb x = bootBuiltins x
  nolimit : base.NoLimit

/-- the context: a def's body (or a comprehension's block) running. base: fixed through the whole law; s₀, H₀: the entry; outer: the frames whose slots others may change (a def's callers); stack: all frames that run;
   ex: iterators that were made ahead of the entry and are walked here (a comprehension's); fn: the names whose cells were made at the entry (a def: all; a comprehension's block: its own); calm: not within an except suite; pn: pins that every state bears; xe: what is wanted of an exception that leaves the code -/
structure Cx where
  prog : Program
  w : World
  K : PySem.W.Frag
  mg : Str → Option Value
  base : Heap
  A : Around
  N : List Str
  s₀ : Shared
  H₀ : Hp
  env : Env
  outer : List Env
  stack : List Env
  ex : List Addr
  fn : Str → Bool
  calm : Bool
  pn : List (Addr × Obj)
  xe : Value → Shared → Prop
/-- the callers' frames -/
def frs (l : List Env) : List Addr := l.filterMap (·.frame)
abbrev Cx.fs (X : Cx) : List Addr := frs X.outer

def Vis (sc : Scope) (x : Str) : Prop := sc.names.lookup x = some .local ∨ sc.names.lookup x = some .cell ∨ sc.names.lookup x = some .free
def Loc (sc : Scope) (x : Str) : Prop := sc.names.lookup x = some .local ∨ sc.names.lookup x = some .cell
def Look (env : Env) (h : Heap) (m : Str → Option Value) (x : Str) (u : Value) : Prop :=
  (env.kindOf x = some .local ∧ m x = some u) ∨ ((env.kindOf x = some .cell ∨ env.kindOf x = some .free) ∧ ∃ c, env.cells.lookup x = some c ∧ h.IsCell c (some u))

structure Cx.Ok (X : Cx) : Prop where
  mod : Mod X.K X.mg X.base
  kind : X.env.scope.kind = .function
  glob : X.env.globals = mainGlobals
  blt : X.env.builtins = builtinsNs
  above : X.s₀.heap.objs.size ≤ X.env.locals
  inj : ∀ x y c, X.env.cells.lookup x = some c → X.env.cells.lookup y = some c → x = y
  has : ∀ x, (X.env.kindOf x = some .cell ∨ X.env.kindOf x = some .free) → ∃ c, X.env.cells.lookup x = some c
  cab : ∀ x c, X.fn x = true → X.env.cells.lookup x = some c → X.s₀.heap.objs.size ≤ c
  hd : X.calm = true → X.A.handled = none
  frames : X.A.frames = some X.stack
  stk : X.stack = X.outer ∨ (X.stack = X.env :: X.outer ∧ X.env.frame = some X.env.locals)
  exf : ∀ b ∈ X.ex, b ≠ X.env.locals ∧ ∀ x c, X.env.cells.lookup x = some c → c ≠ b
  bs : ∀ b o, X.base.get? b = some o → X.s₀.heap.get? b = some o ∧ X.H₀ b = none
  bsz : X.base.objs.size ≤ X.s₀.heap.objs.size
  noex : ∀ b o, X.base.get? b = some o → b ∉ X.ex
  exfs : ∀ b ∈ X.ex, b ∉ X.fs
  funs : X.s₀.heap.FunFrames X.base X.outer
  frf : ∀ b ∈ X.fs, X.H₀ b = none

structure Inv (X : Cx) (pins : List (Addr × Obj)) (σ : List (Option V)) (H : Hp) (s : Shared) : Prop where
  ok : X.Ok
  os : s.os = X.s₀.os
  bare : AllBare s.gens
  base : Un X.fs X.ex X.H₀ H X.s₀.heap s.heap
  loc : ∃ m, s.heap.Ns X.env.locals m ∧ ∀ (i : Nat) (x : Str) (v : V), X.N[i]? = some x → σ[i]? = some (some v) → Vis X.env.scope x → ∃ u, RelV v u ∧ Look X.env s.heap m x u
  cell : ∀ x c, X.env.cells.lookup x = some c → ∃ v, s.heap.IsCell c v
  free : H X.env.locals = none
  freeC : ∀ x c, X.env.cells.lookup x = some c → H c = none
  pin : ∀ p ∈ X.pn ++ pins, s.heap.get? p.1 = some p.2 ∧ H p.1 = none ∧ p.1 ≠ X.env.locals ∧ p.1 ∉ X.fs ∧ ∀ v, p.2.data ≠ .cell v
  hok : HOk X.prog X.w H s.heap
  len : σ.length = X.N.length

section
variable {X : Cx} {pins : List (Addr × Obj)} {σ : List (Option V)} {H H' : Hp} {s : Shared} {h' : Heap}

theorem Cx.Ok.nofr (ok : X.Ok) {b : Addr} {o : Obj} (e : X.base.get? b = some o) : b ∉ X.fs := fun hb => by
  have := (ok.funs.mem hb).1
  rw [e] at this; cases this
theorem Inv.bs (I : Inv X pins σ H s) : ∀ b o, X.base.get? b = some o → s.heap.get? b = some o ∧ H b = none := fun b o e =>
  ⟨I.base.keep b o (I.ok.bs b o e).1 (I.ok.bs b o e).2 (I.ok.nofr e) (I.ok.noex b o e), I.base.free b o (I.ok.bs b o e).1 (I.ok.bs b o e).2 (I.ok.noex b o e)⟩
theorem Inv.bk (I : Inv X pins σ H s) : ∀ b o, X.base.get? b = some o → s.heap.get? b = some o := fun b o e => (I.bs b o e).1
theorem Inv.mod (I : Inv X pins σ H s) : Mod X.K X.mg X.base := I.ok.mod
theorem Inv.kIn (I : Inv X pins σ H s) : X.K.In s.heap := I.ok.mod.kin.keeps I.bk
theorem Inv.nolimit (I : Inv X pins σ H s) : s.heap.NoLimit := I.ok.mod.nolimit.keeps I.bk
/-- the frame over the base: for OpenK's rules (K.In X.base is I.mod.kin) -/
theorem Inv.fr (I : Inv X pins σ H s) : ∃ m, Fr X.base X.env.locals s.heap m :=
  let ⟨m, hn, _⟩ := I.loc
  ⟨m, hn, I.bk, Nat.le_trans I.ok.bsz I.ok.above⟩
theorem Inv.lt (I : Inv X pins σ H s) : X.env.locals < s.heap.objs.size := let ⟨_, hn, _⟩ := I.loc; hn.lt
theorem Inv.sz (I : Inv X pins σ H s) : X.s₀.heap.objs.size ≤ s.heap.objs.size := Nat.le_trans I.ok.above (Nat.le_of_lt I.lt)
theorem Inv.nofs (I : Inv X pins σ H s) {a : Addr} (h : s.heap.objs.size ≤ a) : a ∉ X.fs := fun hb => by
  obtain ⟨_, o, ho, _⟩ := I.ok.funs.mem hb
  exact absurd (Nat.lt_of_lt_of_le (Heap.lt_size ho) (Nat.le_trans I.sz h)) (Nat.lt_irrefl _)
theorem Inv.cne (I : Inv X pins σ H s) : ∀ x c, X.env.cells.lookup x = some c → c ≠ X.env.locals := fun x c e z => by
  obtain ⟨v, o, ho, hd⟩ := I.cell x c e
  obtain ⟨m, ⟨o', es, ep, ho', hd', _⟩, _⟩ := I.loc
  rw [z, ho'] at ho; cases ho; rw [hd'] at hd; cases hd
theorem Inv.funs (I : Inv X pins σ H s) : s.heap.FunFrames X.base X.outer := by
  have all : ∀ (l : List Env), (∀ b ∈ frs l, b ∈ X.fs) → X.s₀.heap.FunFrames X.base l → s.heap.FunFrames X.base l := by
    intro l
    induction l with
    | nil => intro _ _; trivial
    | cons env r ih =>
      intro hs hl
      obtain ⟨hk, ⟨L, o, hf, hn, ho, hd⟩, hr⟩ := hl
      have hL : L ∈ X.fs := hs L (by unfold frs; rw [List.filterMap_cons, hf]; exact List.mem_cons_self)
      obtain ⟨sl, e⟩ := I.base.slot L o ho (I.ok.frf L hL) hL fun z => I.ok.exfs L z hL
      exact ⟨hk, ⟨L, _, hf, hn, e, hd⟩, ih (fun b hb => hs b (by unfold frs; rw [List.filterMap_cons, hf]; exact List.mem_cons_of_mem _ hb)) hr⟩
  exact all X.outer (fun _ hb => hb) I.ok.funs

/-- the frames that run, for a call -/
theorem Inv.stack (I : Inv X pins σ H s) : s.heap.FunFrames X.base X.stack := by
  rcases I.ok.stk with e | ⟨e, hf⟩
  · rw [e]; exact I.funs
  · rw [e]
    obtain ⟨m, hn, _⟩ := I.loc
    refine .cons (by rw [I.ok.kind]; decide) hf hn ?_ I.funs
    exact Heap.get?_none_of_le (Nat.le_trans I.ok.bsz I.ok.above)
theorem Inv.stkSub (I : Inv X pins σ H s) : ∀ b ∈ frs X.stack, b ∈ X.env.locals :: X.fs := fun b hb => by
  rcases I.ok.stk with e | ⟨e, hf⟩
  · rw [e] at hb; exact List.mem_cons_of_mem _ hb
  · rw [e] at hb
    unfold frs at hb
    rw [List.filterMap_cons, hf] at hb
    exact hb
theorem Inv.stkFree (I : Inv X pins σ H s) : ∀ b ∈ frs X.stack, H b = none := fun b hb => by
  rcases List.mem_cons.mp (I.stkSub b hb) with e | hb
  · rw [e]; exact I.free
  · obtain ⟨_, o, ho, _⟩ := I.ok.funs.mem hb
    exact I.base.free b o ho (I.ok.frf b hb) fun z => I.ok.exfs b z hb

/-- THE STEP: the untracked objects but the frame and the records at ch are kept (the callers' frames up to slots), the frame's map is kept, the new abstract heap is held -/
theorem Inv.step {g' : Array GenState} {t' : Nat} {d' : Drawn} {ch : List Addr} (I : Inv X pins σ H s)
    (hch : ∀ b ∈ ch, (b ∈ X.ex ∨ X.s₀.heap.objs.size ≤ b) ∧ b ≠ X.env.locals ∧ (∀ x c, X.env.cells.lookup x = some c → c ≠ b) ∧ ∀ p ∈ X.pn ++ pins, p.1 ≠ b)
    (keep : ∀ b o, b ≠ X.env.locals → b ∉ X.fs → b ∉ ch → s.heap.get? b = some o → H b = none → h'.get? b = some o)
    (slot : ∀ b o, b ≠ X.env.locals → b ∈ X.fs → b ∉ ch → s.heap.get? b = some o → H b = none → ∃ sl, h'.get? b = some { o with slots := sl }) (free : ∀ b o, b ∉ ch → s.heap.get? b = some o → H b = none → H' b = none)
    (there : ∀ b o, b ∉ ch → s.heap.get? b = some o → ∃ o', h'.get? b = some o')
    (tups : ∀ b xs, H b = some (.tup xs) → H' b = some (.tup xs)) (frzs : ∀ b o u, H b = some (.frz o u) → H' b = some (.frz o u)) (tbls : ∀ b ps, H b = some (.tbl ps) → ∃ more, H' b = some (.tbl (ps ++ more)))
    (ns : ∀ m, s.heap.Ns X.env.locals m → h'.Ns X.env.locals m) (hok : HOk X.prog X.w H' h') (hg : AllBare g') :
    Inv X pins σ H' { s with heap := h', gens := g', drawn := d', toks := t' } := by
  have neL : ∀ b o, X.s₀.heap.get? b = some o → b ≠ X.env.locals := fun b o e => Nat.ne_of_lt (Nat.lt_of_lt_of_le (Heap.lt_size e) I.ok.above)
  have neC : ∀ b o, X.s₀.heap.get? b = some o → b ∉ X.ex → b ∉ ch := fun b o e hx hb => by
    rcases (hch b hb).1 with z | z
    · exact hx z
    · exact absurd (Nat.lt_of_lt_of_le (Heap.lt_size e) z) (Nat.lt_irrefl _)
  have cellK : ∀ x c, X.env.cells.lookup x = some c → ∀ v, s.heap.IsCell c v → h'.IsCell c v := fun x c e v ⟨o, ho, hd⟩ => by
    have nch : c ∉ ch := fun z => (hch c z).2.2.1 x c e rfl
    by_cases hc : c ∈ X.fs
    · obtain ⟨sl, q⟩ := slot c o (I.cne x c e) hc nch ho (I.freeC x c e)
      exact ⟨_, q, hd⟩
    · exact ⟨o, keep c o (I.cne x c e) hc nch ho (I.freeC x c e), hd⟩
  refine ⟨I.ok, I.os, hg, ⟨fun b o e n hb hx => ?_, fun b o e n hb hx => ?_, fun b o e n hx => ?_, fun b o e hx => ?_, fun b xs e => tups b xs (I.base.tups b xs e), fun b o xs e => frzs b o xs (I.base.frzs b o xs e), fun b ps e => ?_⟩, ?_, fun x c e => ?_, ?_, fun x c e => ?_, fun p hp => ?_, hok, I.len⟩
  · exact keep b o (neL b o e) hb (neC b o e hx) (I.base.keep b o e n hb hx) (I.base.free b o e n hx)
  · obtain ⟨sl, e1⟩ := I.base.slot b o e n hb hx
    obtain ⟨sl', e2⟩ := slot b _ (neL b o e) hb (neC b o e hx) e1 (I.base.free b o e n hx)
    exact ⟨sl', e2⟩
  · obtain ⟨o', e1⟩ := I.base.there b o e hx
    exact free b o' (neC b o e hx) e1 (I.base.free b o e n hx)
  · obtain ⟨o', e1⟩ := I.base.there b o e hx
    exact there b o' (neC b o e hx) e1
  · obtain ⟨m1, e1⟩ := I.base.tbls b ps e
    obtain ⟨m2, e2⟩ := tbls b _ e1
    exact ⟨m1 ++ m2, by rw [e2, Array.append_assoc]⟩
  · obtain ⟨m, hn, hl⟩ := I.loc
    refine ⟨m, ns m hn, fun i x v e1 e2 e3 => ?_⟩
    obtain ⟨u, r, l⟩ := hl i x v e1 e2 e3
    refine ⟨u, r, ?_⟩
    rcases l with l | ⟨k, c, e, z⟩
    · exact .inl l
    · exact .inr ⟨k, c, e, cellK x c e _ z⟩
  · obtain ⟨v, z⟩ := I.cell x c e
    exact ⟨v, cellK x c e v z⟩
  · obtain ⟨m, ⟨o, _, _, ho, _⟩, _⟩ := I.loc
    exact free _ o (fun z => (hch _ z).2.1 rfl) ho I.free
  · obtain ⟨v, o, ho, hd⟩ := I.cell x c e
    exact free c o (fun z => (hch c z).2.2.1 x c e rfl) ho (I.freeC x c e)
  · obtain ⟨e, n, ne, nf, d⟩ := I.pin p hp
    have nch : p.1 ∉ ch := fun z => (hch p.1 z).2.2.2 p hp rfl
    exact ⟨keep p.1 p.2 ne nf nch e n, free p.1 p.2 nch e n, ne, nf, d⟩
/-- .. where the frame's own object is kept too -/
theorem Inv.un {t' : Nat} (I : Inv X pins σ H s) (u : Un X.fs [] H H' s.heap h') (hok : HOk X.prog X.w H' h') : Inv X pins σ H' { s with heap := h', toks := t' } := by
  obtain ⟨m, ⟨o, es, ep, ho, r⟩, _⟩ := id I.loc
  obtain ⟨sl, hL⟩ := u.any ho I.free (by simp)
  exact I.step (g' := s.gens) (d' := s.drawn) (ch := []) (fun _ z => nomatch z) (fun b o _ hb _ e n => u.keep b o e n hb (by simp)) (fun b o _ hb _ e n => u.slot b o e n hb (by simp)) (fun b o _ e n => u.free b o e n (by simp)) (fun b o _ e => u.there b o e (by simp)) u.tups u.frzs u.tbls (fun m' hm => by
    obtain ⟨o', es', ep', ho', r'⟩ := hm
    rw [ho] at ho'; cases ho'
    exact ⟨_, es', ep', hL, r'⟩) hok I.bare
/-- behind a call (or a comprehension's block): the slots of this frame may have changed too, the records at ch may have turned -/
theorem Inv.call {g' : Array GenState} {t' : Nat} {d' : Drawn} {ch : List Addr} (I : Inv X pins σ H s) (u : Un (frs X.stack) ch H H' s.heap h') (hok : HOk X.prog X.w H' h') (hg : AllBare g')
    (hch : ∀ b ∈ ch, (b ∈ X.ex ∨ X.s₀.heap.objs.size ≤ b) ∧ b ≠ X.env.locals ∧ (∀ x c, X.env.cells.lookup x = some c → c ≠ b) ∧ ∀ p ∈ X.pn ++ pins, p.1 ≠ b) :
    Inv X pins σ H' { s with heap := h', gens := g', drawn := d', toks := t' } := by
  obtain ⟨m, ⟨o, es, ep, ho, r⟩, _⟩ := id I.loc
  obtain ⟨sl, hL⟩ := u.any ho I.free fun z => (hch _ z).2.1 rfl
  exact I.step (ch := ch) hch (fun b o hL hb hc e n => u.keep b o e n (fun z => (List.mem_cons.mp (I.stkSub b z)).elim hL hb) hc) (fun b o _ _ hc e n => u.any e n hc) (fun b o hc e n => u.free b o e n hc) (fun b o hc e => u.there b o e hc) u.tups u.frzs u.tbls (fun m' hm => by
    obtain ⟨o', es', ep', ho', r'⟩ := hm
    rw [ho] at ho'; cases ho'
    exact ⟨_, es', ep', hL, r'⟩) hok hg
/-- an untracked record of ours (an iterator) has turned -/
theorem Inv.turned {t' : Nat} {it : Addr} (I : Inv X pins σ H s) (k : ∀ b o, b ≠ it → s.heap.get? b = some o → h'.get? b = some o) (hn : H it = none) (hL : it ≠ X.env.locals)
    (h1 : it ∈ X.ex ∨ X.s₀.heap.objs.size ≤ it) (h2 : ∀ x c, X.env.cells.lookup x = some c → c ≠ it) (h3 : ∀ p ∈ X.pn ++ pins, p.1 ≠ it) : Inv X pins σ H { s with heap := h', toks := t' } := by
  have nit : ∀ b u, H b = some u → b ≠ it := fun b u e z => by rw [z, hn] at e; cases e
  refine I.step (g' := s.gens) (d' := s.drawn) (ch := [it]) (fun b hb => ?_) (fun b o _ _ hc e _ => k b o (fun z => hc (by simp [z])) e) (fun b o _ _ hc e _ => ⟨o.slots, k b o (fun z => hc (by simp [z])) e⟩) (fun _ _ _ _ n => n)
    (fun b o hc e => ⟨o, k b o (fun z => hc (by simp [z])) e⟩) (fun _ _ e => e) (fun _ _ _ e => e) (fun b ps e => ⟨#[], by rw [e]; simp⟩) (fun m hm => ?_) (fun b u e => ?_) I.bare
  · have e : b = it := by simpa using hb
    subst e
    exact ⟨h1, hL, h2, h3⟩
  · obtain ⟨o, es, ep, ho, r⟩ := hm
    exact ⟨o, es, ep, k _ o (Ne.symm hL) ho, r⟩
  · refine (I.hok b u e).stay (fun c v hc q => k c v ?_ q) (fun _ q => q) fun _ _ q => q
    rcases hc with z | z
    · rw [z]; exact nit b u e
    · exact nit c _ z
theorem Inv.tok (I : Inv X pins σ H s) (t : Nat) : Inv X pins σ H { s with toks := t } := I.un (h' := s.heap) (t' := t) Un.refl I.hok
/-- all objects kept -/
theorem Inv.kept {t' : Nat} (I : Inv X pins σ H s) (k : ∀ b u, s.heap.get? b = some u → h'.get? b = some u) : Inv X pins σ H { s with heap := h', toks := t' } := I.un (Un.kept k) (I.hok.kept k)
/-- a new object laid and tracked -/
theorem Inv.laid {a : Addr} {o : HO} {t' : Nat} (I : Inv X pins σ H s) (k : ∀ b u, s.heap.get? b = some u → h'.get? b = some u) (hp : s.heap.objs.size ≤ a) (new : ObjOk X.prog X.w (upd H a o) h' a o) :
    Inv X pins σ (upd H a o) { s with heap := h', toks := t' } := I.un (Un.laid k hp (I.hok.fresh hp)) (I.hok.laid k hp new)
/-- an object written -/
theorem Inv.write {x e : Addr} {o : HO} {t' : Nat} (I : Inv X pins σ H s) (mu : Mut (H x)) (he : e = x ∨ H e = some (.own x)) (k : ∀ b u, b ≠ e → s.heap.get? b = some u → h'.get? b = some u) (heo : ∃ u, h'.get? e = some u)
    (new : ObjOk X.prog X.w (upd H x o) h' x o) : Inv X pins σ (upd H x o) { s with heap := h', toks := t' } := I.un (Un.write mu he k heo) (I.hok.write mu he k heo new)
/-- forgetting slots, pins -/
theorem Inv.weak {σ' : List (Option V)} (I : Inv X pins σ H s) (hl : σ'.length = σ.length) (w : ∀ (i : Nat) v, σ'[i]? = some (some v) → σ[i]? = some (some v)) : Inv X pins σ' H s :=
  ⟨I.ok, I.os, I.bare, I.base, let ⟨m, hn, hl'⟩ := I.loc; ⟨m, hn, fun i x v e1 e2 e3 => hl' i x v e1 (w i v e2) e3⟩, I.cell, I.free, I.freeC, I.pin, I.hok, hl.trans I.len⟩
theorem Inv.pins_of {pins' : List (Addr × Obj)} (I : Inv X pins σ H s) (h : ∀ p ∈ pins', s.heap.get? p.1 = some p.2 ∧ H p.1 = none ∧ p.1 ≠ X.env.locals ∧ p.1 ∉ X.fs ∧ ∀ v, p.2.data ≠ .cell v) : Inv X pins' σ H s :=
  ⟨I.ok, I.os, I.bare, I.base, I.loc, I.cell, I.free, I.freeC, fun p hp => (List.mem_append.mp hp).elim (fun z => I.pin p (List.mem_append_left _ z)) (h p), I.hok, I.len⟩

theorem nodup_ix {N : List Str} (hN : N.Nodup) {i j : Nat} {x : Str} (a : N[i]? = some x) (b : N[j]? = some x) : i = j := by
  obtain ⟨h1, e1⟩ := List.getElem?_eq_some_iff.mp a
  obtain ⟨h2, e2⟩ := List.getElem?_eq_some_iff.mp b
  exact (List.getElem_inj hN).mp (e1.trans e2.symm)

/-- a name is stored; what changed -/
theorem store_ok2 {M : Model} {A : Around} {E : Value → Shared → Prop} {i : Nat} {x : Str} {v : V} {u : Value} {Q : Unit → Shared → Prop} (I : Inv X pins σ H s) (hN : X.N.Nodup) (hi : X.N[i]? = some x) (hx : Loc X.env.scope x) (r : RelV v u)
    (h : ∀ s', Inv X pins (σ.set i (some v)) H s' → (∃ a, Heap.SameBut a s.heap s'.heap ∧ (a = X.env.locals ∨ X.env.cells.lookup x = some a)) → Q () s') (hf : X.fn x = true ∨ X.env.scope.names.lookup x = some .local := by first | exact .inl rfl | exact .inr rfl | assumption) : wpAny M A (storeName X.env x u) Q E s := by
  obtain ⟨m, hn, hl⟩ := id I.loc
  have hcls : (X.env.scope.kind == .class || (X.env.scope.kind == .module && X.env.locals != X.env.globals)) = false := by rw [I.ok.kind]; rfl
  have hiσ : i < σ.length := by rw [I.len]; exact (List.getElem?_eq_some_iff.mp hi).1
  have cne := I.cne
  have tracked : ∀ {a : Addr} {h' : Heap}, (∃ o, s.heap.get? a = some o ∧ H a = none) → Heap.SameBut a s.heap h' → HOk X.prog X.w H h' := fun {a h'} ha hs b ob e => by
    obtain ⟨_, _, hfree⟩ := ha
    refine (I.hok b ob e).stay (fun c w' hc q => (hs.2 c ?_).trans q) (fun _ q => q) fun _ _ q => q
    rintro rfl
    rcases hc with rfl | hc
    · rw [hfree] at e; cases e
    · rw [hfree] at hc; cases hc
  rcases hx with hk | hk
  · refine wpAny_storeName_local hk hn (fun h' hn' hs => ?_) hcls
    obtain ⟨oL, _, _, hoL, _⟩ := id hn
    refine h _ ⟨I.ok, I.os, I.bare, ⟨fun b o e n hb hx => ?_, fun b o e n hb hx => ?_, I.base.free, fun b o e hx => ?_, I.base.tups, I.base.frzs, I.base.tbls⟩, ⟨_, hn', fun j y v' e1 e2 e3 => ?_⟩, fun y c e => ?_, I.free, I.freeC, fun p hp => ?_, tracked ⟨oL, hoL, I.free⟩ hs, by simpa using I.len⟩ ⟨_, hs, .inl rfl⟩
    · exact (hs.2 b (Nat.ne_of_lt (Nat.lt_of_lt_of_le (Heap.lt_size e) I.ok.above))).trans (I.base.keep b o e n hb hx)
    · obtain ⟨sl, e1⟩ := I.base.slot b o e n hb hx
      exact ⟨sl, (hs.2 b (Nat.ne_of_lt (Nat.lt_of_lt_of_le (Heap.lt_size e) I.ok.above))).trans e1⟩
    · obtain ⟨o', e1⟩ := I.base.there b o e hx
      exact ⟨o', (hs.2 b (Nat.ne_of_lt (Nat.lt_of_lt_of_le (Heap.lt_size e) I.ok.above))).trans e1⟩
    · by_cases hj : j = i
      · subst hj
        rw [hi] at e1; cases e1
        rw [List.getElem?_set_self hiσ] at e2
        cases e2
        exact ⟨u, r, .inl ⟨hk, by simp⟩⟩
      · rw [List.getElem?_set_ne (Ne.symm hj)] at e2
        obtain ⟨u', r', q⟩ := hl j y v' e1 e2 e3
        refine ⟨u', r', ?_⟩
        rcases q with ⟨k, e⟩ | ⟨k, c, e, z⟩
        · refine .inl ⟨k, ?_⟩
          have : y ≠ x := fun e => hj (nodup_ix hN e1 (e ▸ hi))
          simp [this, e]
        · exact .inr ⟨k, c, e, z.sameBut hs (cne y c e)⟩
    · obtain ⟨w', z⟩ := I.cell y c e
      exact ⟨w', z.sameBut hs (cne y c e)⟩
    · obtain ⟨e, n, ne, nf, d⟩ := I.pin p hp
      exact ⟨(hs.2 p.1 ne).trans e, n, ne, nf, d⟩
  · have hfn : X.fn x = true := by
      rcases hf with z | z
      · exact z
      · rw [z] at hk; cases hk
    obtain ⟨c, hc⟩ := I.ok.has x (.inl hk)
    obtain ⟨w', z⟩ := I.cell x c hc
    refine wpAny_storeName_cell I.ok.kind hk hc z (fun h' hc' hs => ?_)
    obtain ⟨oc, hoc, hocd⟩ := id z
    refine h { s with heap := h' } ⟨I.ok, I.os, I.bare, ⟨fun b o e n hb hx => ?_, fun b o e n hb hx => ?_, I.base.free, fun b o e hx => ?_, I.base.tups, I.base.frzs, I.base.tbls⟩, ⟨m, hn.sameBut hs (Ne.symm (cne x c hc)), fun j y v' e1 e2 e3 => ?_⟩, fun y c' e => ?_, I.free, I.freeC, fun p hp => ?_, tracked ⟨oc, hoc, I.freeC x c hc⟩ hs, by simpa using I.len⟩ ⟨c, hs, .inr hc⟩
    · exact (hs.2 b (Nat.ne_of_lt (Nat.lt_of_lt_of_le (Heap.lt_size e) (I.ok.cab x c hfn hc)))).trans (I.base.keep b o e n hb hx)
    · obtain ⟨sl, e1⟩ := I.base.slot b o e n hb hx
      exact ⟨sl, (hs.2 b (Nat.ne_of_lt (Nat.lt_of_lt_of_le (Heap.lt_size e) (I.ok.cab x c hfn hc)))).trans e1⟩
    · obtain ⟨o', e1⟩ := I.base.there b o e hx
      exact ⟨o', (hs.2 b (Nat.ne_of_lt (Nat.lt_of_lt_of_le (Heap.lt_size e) (I.ok.cab x c hfn hc)))).trans e1⟩
    · by_cases hj : j = i
      · subst hj
        rw [hi] at e1; cases e1
        rw [List.getElem?_set_self hiσ] at e2
        cases e2
        exact ⟨u, r, .inr ⟨.inl hk, c, hc, hc'⟩⟩
      · rw [List.getElem?_set_ne (Ne.symm hj)] at e2
        obtain ⟨u', r', q⟩ := hl j y v' e1 e2 e3
        refine ⟨u', r', ?_⟩
        rcases q with q | ⟨k, c', e, z'⟩
        · exact .inl q
        · refine .inr ⟨k, c', e, z'.sameBut hs ?_⟩
          rintro rfl
          exact hj (nodup_ix hN e1 (I.ok.inj _ _ _ e hc ▸ hi))
    · by_cases hcc : c' = c
      · subst hcc; exact ⟨_, hc'⟩
      · obtain ⟨w2, z2⟩ := I.cell y c' e
        exact ⟨w2, z2.sameBut hs hcc⟩
    · obtain ⟨e, n, ne, nf, d⟩ := I.pin p hp
      refine ⟨(hs.2 p.1 ?_).trans e, n, ne, nf, d⟩
      intro q
      rw [q, hoc] at e
      have q' : oc = p.2 := Option.some.inj e
      exact d w' (by rw [← q']; exact hocd)
theorem store_ok {M : Model} {A : Around} {E : Value → Shared → Prop} {i : Nat} {x : Str} {v : V} {u : Value} {Q : Unit → Shared → Prop} (I : Inv X pins σ H s) (hN : X.N.Nodup) (hi : X.N[i]? = some x) (hx : Loc X.env.scope x) (r : RelV v u)
    (h : ∀ s', Inv X pins (σ.set i (some v)) H s' → Q () s') (hf : X.fn x = true ∨ X.env.scope.names.lookup x = some .local := by first | exact .inl rfl | exact .inr rfl | assumption) : wpAny M A (storeName X.env x u) Q E s :=
  store_ok2 I hN hi hx r (fun s' I' _ => h s' I') hf
/-- behind a call or a block, the state as it is -/
theorem Inv.call' {s' : Shared} {ch : List Addr} (I : Inv X pins σ H s) (ho : s'.os = s.os) (u : Un (frs X.stack) ch H H' s.heap s'.heap) (hok : HOk X.prog X.w H' s'.heap) (hg : AllBare s'.gens)
    (hch : ∀ b ∈ ch, (b ∈ X.ex ∨ X.s₀.heap.objs.size ≤ b) ∧ b ≠ X.env.locals ∧ (∀ x c, X.env.cells.lookup x = some c → c ≠ b) ∧ ∀ p ∈ X.pn ++ pins, p.1 ≠ b) : Inv X pins σ H' s' := by
  obtain ⟨h', g', d', t', o'⟩ := s'
  have e : o' = s.os := ho
  subst e
  exact I.call (g' := g') (t' := t') (d' := d') u hok hg hch
end

/-! ### the judgements -/
/-- an exception: its class, its own dict's address (where it has one), the abstract heap behind it -/
abbrev XK := Value → Option Addr → Hp → Prop
abbrev St := List (Option V)
abbrev VK := V → Hp → Prop
/-- an expression's reading; a test's; an argument list's -/
abbrev TE := St → Hp → VK → Prop
abbrev TT := St → Hp → (Bool → Hp → Prop) → Prop
abbrev TA := St → Hp → (List V → Hp → Prop) → Prop
/-- what is wanted behind a statement -/
structure Ends where
  nx : St → Hp → Prop
  rt : VK
  bk : St → Hp → Prop := fun _ _ => False
  ct : St → Hp → Prop := fun _ _ => False
abbrev TS := Ends → St → Hp → Prop

def EP (X : Cx) (pins : List (Addr × Obj)) (σ : St) (Q : VK) (u : Value) (s' : Shared) : Prop := ∃ v H', Inv X pins σ H' s' ∧ RelV v u ∧ Q v H'
def TP (X : Cx) (pins : List (Addr × Obj)) (σ : St) (Q : Bool → Hp → Prop) (b : Bool) (s' : Shared) : Prop := ∃ H', Inv X pins σ H' s' ∧ Q b H'
def AP (X : Cx) (pins : List (Addr × Obj)) (σ : St) (Q : List V → Hp → Prop) (us : List Value) (s' : Shared) : Prop := ∃ vs H', Inv X pins σ H' s' ∧ Vals vs us ∧ Q vs H'
def SP (X : Cx) (pins : List (Addr × Obj)) (D : Ends) (f : Flow) (s' : Shared) : Prop :=
  match f with
  | .next => ∃ σ' H', Inv X pins σ' H' s' ∧ D.nx σ' H'
  | .brk => ∃ σ' H', Inv X pins σ' H' s' ∧ D.bk σ' H'
  | .cont => ∃ σ' H', Inv X pins σ' H' s' ∧ D.ct σ' H'
  | .ret u => ∃ v σ' H', Inv X pins σ' H' s' ∧ RelV v u ∧ D.rt v H'

def PE (X : Cx) (e : Expr) (t : TE) : Prop :=
  ∀ (pins : List (Addr × Obj)) (s : Shared) (σ : St) (H : Hp) (Q : VK), Inv X pins σ H s → t σ H Q → wpAny (model X.prog X.w) X.A (eval e X.env) (EP X pins σ Q) X.xe s
def PT (X : Cx) (e : Expr) (t : TT) : Prop :=
  ∀ (pins : List (Addr × Obj)) (s : Shared) (σ : St) (H : Hp) (Q : Bool → Hp → Prop), Inv X pins σ H s → t σ H Q → wpAny (model X.prog X.w) X.A (isTrue e X.env (eval e X.env)) (TP X pins σ Q) X.xe s
/-- a test whatever its 'whole' is (and, or) -/
def PW (X : Cx) (e : Expr) (t : TT) : Prop :=
  ∀ (whole : Sem Value) (pins : List (Addr × Obj)) (s : Shared) (σ : St) (H : Hp) (Q : Bool → Hp → Prop), Inv X pins σ H s → t σ H Q → wpAny (model X.prog X.w) X.A (isTrue e X.env whole) (TP X pins σ Q) X.xe s
theorem PW.pt {X : Cx} {e : Expr} {t : TT} (h : PW X e t) : PT X e t := h _
/-- an argument list (no star), from the left -/
def PA (X : Cx) (es : List Expr) (t : TA) : Prop :=
  ∀ (pos : Pos) (pins : List (Addr × Obj)) (s : Shared) (σ : St) (H : Hp) (Q : List V → Hp → Prop), Inv X pins σ H s → t σ H Q → wpAny (model X.prog X.w) X.A (spliced (backTo pos (starEach es X.env))) (AP X pins σ Q) X.xe s
def PS (X : Cx) (st : Stmt) (t : TS) : Prop :=
  ∀ (pins : List (Addr × Obj)) (s : Shared) (σ : St) (H : Hp) (D : Ends), Inv X pins σ H s → t D σ H → wpAny (model X.prog X.w) X.A (exec st X.env) (SP X pins D) X.xe s
def PSs (X : Cx) (st : List Stmt) (t : TS) : Prop :=
  ∀ (pins : List (Addr × Obj)) (s : Shared) (σ : St) (H : Hp) (D : Ends), Inv X pins σ H s → t D σ H → wpAny (model X.prog X.w) X.A (execs st X.env) (SP X pins D) X.xe s
/-- weaken the end -/
theorem thn {α : Type} {t : Sem α} {Q Q' : α → Shared → Prop} {M : Model} {A : Around} {E : Value → Shared → Prop} {s : Shared} (h : wpAny M A t Q E s) (hQ : ∀ a s, Q a s → Q' a s) : wpAny M A t Q' E s := wpAny_mono h hQ fun _ _ x => x
end L2

namespace L2
open PySem PySem.Spec PyProof.Rows
section
variable {X : Cx}

/-! ### names and constants -/
def tVar (i : Nat) : TE := fun σ H Q => ∃ v, σ[i]? = some (some v) ∧ Q v H
def tC (v : V) : TE := fun _ H Q => Q v H
theorem pe_var {i : Nat} {x : Str} {pos : Pos} (hN : X.N[i]? = some x) (hv : Vis X.env.scope x) (hd : (x == ("__debug__" : Str)) = false := by decide) (hcd : (x == ("__classdict__" : Str)) = false := by decide) : PE X (.Name x pos) (tVar i) := by
  intro pins s σ H Q I h
  obtain ⟨v, e, h⟩ := h
  obtain ⟨m, hn, hl⟩ := I.loc
  obtain ⟨u, r, l⟩ := hl i x v hN e hv
  have fin : EP X pins σ Q u s := ⟨v, H, I, r, h⟩
  rcases l with ⟨hk, hm⟩ | ⟨hk, c, hc, hcell⟩
  · exact wpAny_Name (wpAny_loadName_local I.ok.kind hk hn hm fin) hd
  · rcases hk with hk | hk
    · exact wpAny_Name (wpAny_loadName_cell I.ok.kind hk hc hcell fin) hd
    · exact wpAny_Name (wpAny_loadName_free I.ok.kind hk hc hcell fin hcd) hd
theorem pe_int {i j pos} : PE X (.Constant (.int i) j pos) (tC (.int i)) := fun _ _ _ H _ I h => wpAny_Constant_int ⟨.int i, H, I.tok _, ⟨_, rfl⟩, h⟩
theorem pe_bl {b j pos} : PE X (.Constant (.bool b) j pos) (tC (.bl b)) := fun _ _ _ H _ I h => Constant_bool ⟨.bl b, H, I, rfl, h⟩
theorem pe_non {j pos} : PE X (.Constant .none j pos) (tC .non) := fun _ _ _ H _ I h => Constant_none ⟨.non, H, I, rfl, h⟩
theorem pe_str {x j pos} : PE X (.Constant (.str x) j pos) (tC (.str x)) := fun _ _ _ H _ I h => Calls.Constant_str ⟨.str x, H, I.tok _, ⟨_, rfl⟩, h⟩

/-- a global name of the def -/
def Gl (X : Cx) (x : Str) : Prop := X.env.kindOf x = some .globalImplicit
theorem ld_glob {E : Value → Shared → Prop} {pins : List (Addr × Obj)} {s : Shared} {σ : St} {H : Hp} {x : Str} {u : Value} {pos : Pos} {Q : Value → Shared → Prop} (I : Inv X pins σ H s) (hg : Gl X x) (hm : X.mg x = some u) (h : Q u s)
    (hd : (x == ("__debug__" : Str)) = false := by decide) : wpAny (model X.prog X.w) X.A (eval (.Name x pos) X.env) Q E s :=
  Calls.Name_function_global I.ok.kind hg (Calls.loadGlobal_global (by rw [I.ok.glob]; exact I.mod.glob.keeps I.bk) hm h) hd
theorem ld_blt {E : Value → Shared → Prop} {pins : List (Addr × Obj)} {s : Shared} {σ : St} {H : Hp} {x : Str} {u : Value} {pos : Pos} {Q : Value → Shared → Prop} (I : Inv X pins σ H s) (hg : Gl X x) (hm : X.mg x = none) (hv : bootBuiltins x = some u) (h : Q u s)
    (hn : x ≠ "__name__" := by decide) (hd : (x == ("__debug__" : Str)) = false := by decide) : wpAny (model X.prog X.w) X.A (eval (.Name x pos) X.env) Q E s := by
  obtain ⟨mb, h1, h2⟩ := I.mod.blt
  exact Calls.Name_function_global I.ok.kind hg (Calls.loadGlobal_builtin (by rw [I.ok.glob]; exact I.mod.glob.keeps I.bk) hm (by rw [I.ok.blt]; exact h1.keeps I.bk) ((h2 x hn).trans hv) h) hd
/-- a module's constant, a class, a function, as a value -/
theorem pe_glob {x : Str} {v : V} {u : Value} {pos : Pos} (hg : Gl X x) (hm : X.mg x = some u) (r : RelV v u) (hd : (x == ("__debug__" : Str)) = false := by decide) : PE X (.Name x pos) (tC v) :=
  fun _ _ _ H _ I h => ld_glob I hg hm ⟨v, H, I, r, h⟩ hd
theorem pe_bltn {x : Str} {v : V} {u : Value} {pos : Pos} (hg : Gl X x) (hm : X.mg x = none) (hv : bootBuiltins x = some u) (r : RelV v u) (hn : x ≠ "__name__" := by decide) (hd : (x == ("__debug__" : Str)) = false := by decide) : PE X (.Name x pos) (tC v) :=
  fun _ _ _ H _ I h => ld_blt I hg hm hv ⟨v, H, I, r, h⟩ hn hd

/-! ### arithmetic -/
variable {a b : Expr} {ta tb : TE} {pos : Pos}
/-! ### comparisons -/
/-- a comparison as a value, as a test -/
def tB (t : TE) : TT := fun σ H Q => t σ H fun x H1 => ∃ c, x = .bl c ∧ Q c H1
/-- an expression whose value is a bool, as a test -/
theorem pt_val {e : Expr} {t : TE} (h : PE X e t) (he : ∀ whole, isTrue e X.env whole = (do let v ← whole; standAt e.pos; holding [v] (truthy v)) := by intro _; rfl) : PT X e (tB t) := by
  intro pins s σ H Q I hw
  refine isTrue_plain (thn (h pins s σ H _ I hw) fun v s1 ⟨x, H1, I1, r1, q1⟩ => ?_) (he _)
  obtain ⟨d, rfl, q⟩ := q1
  cases r1
  exact wpAny_truthy_bool ⟨H1, I1, q⟩

/-! ### and, or, not -/
variable {tA tB' : TT} {rest : List Expr}
def tAnd (t u : TT) : TT := fun σ H Q => t σ H fun c H1 => if c = true then u σ H1 Q else Q false H1
def tOr (t u : TT) : TT := fun σ H Q => t σ H fun c H1 => if c = true then Q true H1 else u σ H1 Q
def tNot (t : TT) : TT := fun σ H Q => t σ H fun c H1 => Q (!c) H1
theorem pw_and1 (ha : PT X a tA) : PW X (.BoolOp .And [a] pos) tA := by
  intro wh pins s σ H Q I h
  refine isTrue_and (thn (ha pins s σ H Q I h) fun c s1 e => ?_)
  cases c with
  | true => exact isTrue_and_nil e
  | false => exact e
theorem pw_or1 (ha : PT X a tA) : PW X (.BoolOp .Or [a] pos) tA := by
  intro wh pins s σ H Q I h
  refine isTrue_or (thn (ha pins s σ H Q I h) fun c s1 e => ?_)
  cases c with
  | false => exact isTrue_or_nil e
  | true => exact e
theorem pw_and (ha : PT X a tA) (hb : PW X (.BoolOp .And (b :: rest) pos) tB') : PW X (.BoolOp .And (a :: b :: rest) pos) (tAnd tA tB') := by
  intro wh pins s σ H Q I h
  refine isTrue_and (thn (ha pins s σ H _ I h) fun c s1 ⟨H1, I1, q1⟩ => ?_)
  cases c with
  | true => exact hb wh pins s1 σ H1 Q I1 q1
  | false => exact ⟨H1, I1, q1⟩
theorem pw_or (ha : PT X a tA) (hb : PW X (.BoolOp .Or (b :: rest) pos) tB') : PW X (.BoolOp .Or (a :: b :: rest) pos) (tOr tA tB') := by
  intro wh pins s σ H Q I h
  refine isTrue_or (thn (ha pins s σ H _ I h) fun c s1 ⟨H1, I1, q1⟩ => ?_)
  cases c with
  | true => exact ⟨H1, I1, q1⟩
  | false => exact hb wh pins s1 σ H1 Q I1 q1
theorem pt_not (ha : PT X a tA) : PT X (.UnaryOp .Not a pos) (tNot tA) := by
  intro pins s σ H Q I h
  exact isTrue_not (ha pins s σ H (fun c H1 => Q (!c) H1) I h)
/-- .. as values (bools) -/
def tAndV (ta tb : TE) : TE := fun σ H Q => ta σ H fun x H1 => ∃ c, x = .bl c ∧ if c = true then tb σ H1 Q else Q (.bl false) H1
def tNotV (ta : TE) : TE := fun σ H Q => ta σ H fun x H1 => ∃ c, x = .bl c ∧ Q (.bl (!c)) H1
theorem pe_one {op} {t : TE} (h : PE X a t) : PE X (.BoolOp op [a] pos) t := fun pins s σ H Q I hw => BoolOp_one (h pins s σ H Q I hw)
theorem pe_and (ha : PE X a ta) (hb : PE X (.BoolOp .And (b :: rest) pos) tb) : PE X (.BoolOp .And (a :: b :: rest) pos) (tAndV ta tb) := by
  intro pins s σ H Q I h
  refine BoolOp_and (thn (ha pins s σ H _ I h) fun v s1 ⟨x, H1, I1, r1, q1⟩ => ?_)
  obtain ⟨c, rfl, q1⟩ := q1
  cases r1
  refine wpAny_truthy_bool ?_
  cases c with
  | true => exact hb pins s1 σ H1 Q I1 q1
  | false => exact ⟨.bl false, H1, I1, rfl, q1⟩
theorem pe_not (ha : PE X a ta) : PE X (.UnaryOp .Not a pos) (tNotV ta) := by
  intro pins s σ H Q I h
  refine UnaryOp_ (thn (ha pins s σ H _ I h) fun v s1 ⟨x, H1, I1, r1, q1⟩ => ?_)
  obtain ⟨c, rfl, q1⟩ := q1
  cases r1
  exact not_of (wpAny_truthy_bool ⟨.bl (!c), H1, I1, rfl, q1⟩)
/-- a if t else b -/
def tIf (t : TT) (ta tb : TE) : TE := fun σ H Q => t σ H fun c H1 => if c = true then ta σ H1 Q else tb σ H1 Q
theorem pe_ifExp {c : Expr} (hc : PT X c tA) (ha : PE X a ta) (hb : PE X b tb) : PE X (.IfExp c a b pos) (tIf tA ta tb) := by
  intro pins s σ H Q I h
  refine wpAny_IfExp (thn (hc pins s σ H _ I h) fun d s1 ⟨H1, I1, q1⟩ => ?_)
  cases d with
  | true => exact ha pins s1 σ H1 Q I1 q1
  | false => exact hb pins s1 σ H1 Q I1 q1
end
end L2

namespace L2
open PySem PySem.Spec PyProof.Rows

/-! ### a list, a tuple that is read: tracked, frozen, or an object of the module -/
def SqL (K : PySem.W.Frag) (H : Hp) (a : Addr) (xs : List V) : Prop :=
  Rd H a (.lst xs) ∨
    ∃ (o : Obj) (its : Array Value) (n : Nat), K.lookup a = some o ∧ o.cls = .type "list" ∧ o.dict = none ∧ o.data = .seq its n ∧ its.size ≤ sizeLine ∧ Vals xs its.toList
def SqT (K : PySem.W.Frag) (H : Hp) (a : Addr) (xs : List V) : Prop :=
  Rd H a (.tup xs) ∨
    ∃ (o : Obj) (its : Array Value) (n : Nat), K.lookup a = some o ∧ o.cls = .type "tuple" ∧ o.data = .seq its n ∧ its.size ≤ sizeLine ∧ Vals xs its.toList
def absV : Value → Option V
  | .none => some .non
  | .bool b => some (.bl b)
  | .int i _ => some (.int i)
  | .str x _ => some (.str x)
  | .bytes b _ => some (.byt b)
  | .float b _ => some (.flt b)
  | .ref a => some (.ref a)
  | .type n => some (.ty n)
  | _ => none
theorem RelV.abs {x : V} {u : Value} (r : RelV x u) : absV u = some x := by
  cases x with
  | non => cases r; rfl
  | bl _ => cases r; rfl
  | int _ => obtain ⟨t, rfl⟩ := r; rfl
  | str _ => obtain ⟨t, rfl⟩ := r; rfl
  | byt _ => obtain ⟨t, rfl⟩ := r; rfl
  | flt _ => obtain ⟨t, rfl⟩ := r; rfl
  | ref _ => cases r; rfl
  | ty _ => cases r; rfl
theorem RelV.inj {x y : V} {u : Value} (r : RelV x u) (q : RelV y u) : x = y := Option.some.inj (r.abs.symm.trans q.abs)
theorem Vals.inj : ∀ {xs ys : List V} {us : List Value}, Vals xs us → Vals ys us → xs = ys
  | _, _, _, .nil, .nil => rfl
  | _, _, _, .cons r t, .cons r' t' => by rw [r.inj r', Vals.inj t t']
section
variable {X : Cx} {pins : List (Addr × Obj)} {σ : St} {H : Hp} {s : Shared} {a : Addr} {xs ys : List V}
theorem SqL.of {K : PySem.W.Frag} (h : H a = some (.lst xs)) : SqL K H a xs := .inl (.inl h)
theorem SqT.of {K : PySem.W.Frag} (h : H a = some (.tup xs)) : SqT K H a xs := .inl (.inl h)
theorem Inv.list (I : Inv X pins σ H s) (h : SqL X.K H a xs) : ∃ its : List Value, Vals xs its ∧ PlainL s.heap a its.toArray ∧ xs.length ≤ sizeLine := by
  rcases h with h | ⟨o, its, n, hk, hc, hd, hs, hz, r⟩
  · obtain ⟨z, its, n, r, e⟩ := h.ok I.hok
    exact ⟨its, r, ⟨_, n, e, rfl, rfl, rfl⟩, z⟩
  · refine ⟨its.toList, r, ⟨o, n, I.kIn a o hk, hc, hd, by simpa using hs⟩, ?_⟩
    have e := r.length
    simp only [Array.length_toList] at e
    omega
theorem Inv.tuple (I : Inv X pins σ H s) (h : SqT X.K H a xs) : ∃ its : List Value, Vals xs its ∧ IsTup s.heap a its.toArray ∧ xs.length ≤ sizeLine := by
  rcases h with h | ⟨o, its, n, hk, hc, hs, hz, r⟩
  · obtain ⟨z, its, r, p⟩ := h.ok I.hok
    exact ⟨its, r, p, z⟩
  · refine ⟨its.toList, r, ⟨o, I.kIn a o hk, hc, n, by simpa using hs⟩, ?_⟩
    have e := r.length
    simp only [Array.length_toList] at e
    omega
theorem Inv.list_inj (I : Inv X pins σ H s) (h : SqL X.K H a xs) (h' : SqL X.K H a ys) : xs = ys := by
  obtain ⟨its, r, ⟨o, n, e, _, _, d⟩, _⟩ := I.list h
  obtain ⟨its', r', ⟨o', n', e', _, _, d'⟩, _⟩ := I.list h'
  rw [e] at e'; cases e'
  rw [d] at d'
  injection d' with d1 _
  have : its = its' := by simpa using congrArg Array.toList d1
  subst this
  exact r.inj r'
end

/-! ### another wish about exceptions -/
abbrev Cx.wish (X : Cx) (E : Value → Shared → Prop) : Cx := { X with xe := E }
/-- no exception leaves -/
abbrev Cx.nox (X : Cx) : Cx := X.wish fun _ _ => False
theorem Cx.Ok.wish {X : Cx} (ok : X.Ok) (E : Value → Shared → Prop) : (X.wish E).Ok :=
  ⟨ok.mod, ok.kind, ok.glob, ok.blt, ok.above, ok.inj, ok.has, ok.cab, ok.hd, ok.frames, ok.stk, ok.exf, ok.bs, ok.bsz, ok.noex, ok.exfs, ok.funs, ok.frf⟩
theorem Cx.Ok.unwish {X : Cx} {E : Value → Shared → Prop} (ok : (X.wish E).Ok) : X.Ok :=
  ⟨ok.mod, ok.kind, ok.glob, ok.blt, ok.above, ok.inj, ok.has, ok.cab, ok.hd, ok.frames, ok.stk, ok.exf, ok.bs, ok.bsz, ok.noex, ok.exfs, ok.funs, ok.frf⟩
section
variable {X : Cx} {pins : List (Addr × Obj)} {σ : St} {H : Hp} {s : Shared} {E : Value → Shared → Prop}
theorem Inv.wish (I : Inv X pins σ H s) (E : Value → Shared → Prop) : Inv (X.wish E) pins σ H s := ⟨I.ok.wish E, I.os, I.bare, I.base, I.loc, I.cell, I.free, I.freeC, I.pin, I.hok, I.len⟩
theorem Inv.unwish (I : Inv (X.wish E) pins σ H s) : Inv X pins σ H s := ⟨I.ok.unwish, I.os, I.bare, I.base, I.loc, I.cell, I.free, I.freeC, I.pin, I.hok, I.len⟩
theorem SP.unwish {D : Ends} {f : Flow} {s' : Shared} (h : SP (X.wish E) pins D f s') : SP X pins D f s' := by
  cases f with
  | next => obtain ⟨σ', H', I, q⟩ := h; exact ⟨σ', H', I.unwish, q⟩
  | brk => obtain ⟨σ', H', I, q⟩ := h; exact ⟨σ', H', I.unwish, q⟩
  | cont => obtain ⟨σ', H', I, q⟩ := h; exact ⟨σ', H', I.unwish, q⟩
  | ret u => obtain ⟨v, σ', H', I, r, q⟩ := h; exact ⟨v, σ', H', I.unwish, r, q⟩
theorem PE.nox {e : Expr} {t : TE} (h : PE X.nox e t) : PE X e t := fun pins s σ H Q I hw =>
  wpAny_mono (h pins s σ H Q (I.wish _) hw) (fun _ _ ⟨v, H', I', r, q⟩ => ⟨v, H', I'.unwish, r, q⟩) fun _ _ z => False.elim z
theorem PT.nox {e : Expr} {t : TT} (h : PT X.nox e t) : PT X e t := fun pins s σ H Q I hw =>
  wpAny_mono (h pins s σ H Q (I.wish _) hw) (fun _ _ ⟨H', I', q⟩ => ⟨H', I'.unwish, q⟩) fun _ _ z => False.elim z
theorem PSs.nox {st : List Stmt} {t : TS} (h : PSs X.nox st t) : PSs X st t := fun pins s σ H D I hw =>
  wpAny_mono (h pins s σ H D (I.wish _) hw) (fun _ _ q => q.unwish) fun _ _ z => False.elim z
end

/-! ### blocks and small statements -/
section
variable {X : Cx} {st : Stmt} {rest : List Stmt} {t u : TS} {e : Expr} {te : TE} {pos : Pos}
def tNext : TS := fun D σ H => D.nx σ H
def tSeq (t u : TS) : TS := fun D σ H => t { D with nx := u D } σ H
theorem pss_nil : PSs X [] tNext := fun _ _ σ H _ I h => wpAny_execs_nil ⟨σ, H, I, h⟩
theorem pss_cons (h1 : PS X st t) (h2 : PSs X rest u) : PSs X (st :: rest) (tSeq t u) := by
  intro pins s σ H D I h
  refine wpAny_execs_cons (thn (h1 pins s σ H { D with nx := u D } I h) fun f s1 q => ?_)
  cases f with
  | next =>
    obtain ⟨σ', H', I', q⟩ := q
    exact h2 pins s1 σ' H' D I' q
  | ret v => exact q
  | brk => exact q
  | cont => exact q
theorem pss_one (h1 : PS X st t) : PSs X [st] t := by
  intro pins s σ H D I h
  refine wpAny_execs_cons (thn (h1 pins s σ H D I h) fun f s1 q => ?_)
  cases f with
  | next => exact wpAny_execs_nil q
  | ret v => exact q
  | brk => exact q
  | cont => exact q
/-- in a def's body nothing is shown -/
theorem Inv.quiet {pins : List (Addr × Obj)} {σ : St} {H : Hp} {s : Shared} (I : Inv X pins σ H s) : interactive X.env = false := by simp [interactive, I.ok.kind]
/-- an expression whose value is dropped -/
def tDrop (te : TE) : TS := fun D σ H => te σ H fun _ H1 => D.nx σ H1
theorem ps_expr (he : PE X e te) (hs : swapsWith e none pos.line X.env = pure false := by rfl) : PS X (.Expr e pos) (tDrop te) := by
  intro pins s σ H D I h
  exact wpAny_Expr_any (thn (he pins s σ H _ I h) fun v s1 ⟨x, H1, I1, r1, q1⟩ => ⟨σ, H1, I1, q1⟩) I.quiet hs
def tRet (te : TE) : TS := fun D σ H => te σ H D.rt
theorem ps_ret (he : PE X e te) : PS X (.Return (some e) pos) (tRet te) := by
  intro pins s σ H D I h
  exact wpAny_Return_some (thn (he pins s σ H _ I h) fun v s1 ⟨x, H1, I1, r1, q1⟩ => ⟨x, σ, H1, I1, r1, q1⟩)
def tIfS (c : TT) (t u : TS) : TS := fun D σ H => c σ H fun b H1 => if b = true then t D σ H1 else u D σ H1
theorem ps_if {c : Expr} {a b : List Stmt} {tc : TT} (hc : PT X c tc) (ha : PSs X a t) (hb : PSs X b u) : PS X (.If c a b pos) (tIfS tc t u) := by
  intro pins s σ H D I h
  refine wpAny_If (thn (hc pins s σ H _ I h) fun d s1 ⟨H1, I1, q1⟩ => ?_)
  cases d with
  | true => exact ha pins s1 σ H1 D I1 q1
  | false => exact hb pins s1 σ H1 D I1 q1
/-- code that the proof never comes to -/
def tNever : TS := fun _ _ _ => False
theorem ps_never : PS X st tNever := fun _ _ _ _ _ _ h => h.elim
end

/-! ### targets -/
abbrev TG := V → St → Hp → (St → Hp → Prop) → Prop
abbrev TGs := List V → St → Hp → (St → Hp → Prop) → Prop
def PG (X : Cx) (target : Expr) (t : TG) : Prop :=
  ∀ (pins : List (Addr × Obj)) (s : Shared) (σ : St) (H : Hp) (v : V) (u : Value) (Q : St → Hp → Prop), Inv X pins σ H s → RelV v u → t v σ H Q →
    wpAny (model X.prog X.w) X.A (assign target X.env u) (fun _ s' => ∃ σ' H', Inv X pins σ' H' s' ∧ Q σ' H') X.xe s
/-- several targets, one after another -/
def PGs (X : Cx) (ts : List Expr) (t : TGs) : Prop :=
  ∀ (pins : List (Addr × Obj)) (s : Shared) (σ : St) (H : Hp) (vs : List V) (us : List Value) (Q : St → Hp → Prop), Inv X pins σ H s → Vals vs us → t vs σ H Q →
    wpAny (model X.prog X.w) X.A (assignInOrder ((assignEach ts X.env).map (·.2)) us) (fun _ s' => ∃ σ' H', Inv X pins σ' H' s' ∧ Q σ' H') X.xe s
/-- o[i] = v, by values -/
abbrev TSet := V → V → V → Hp → (Hp → Prop) → Prop
def PSet (X : Cx) (t : TSet) : Prop :=
  ∀ (pins : List (Addr × Obj)) (s : Shared) (σ : St) (H : Hp) (o i v : V) (ov iv u : Value) (Q : Hp → Prop), Inv X pins σ H s → RelV o ov → RelV i iv → RelV v u → t o i v H Q →
    wpAny (model X.prog X.w) X.A (setItem ov iv u) (fun _ s' => ∃ H', Inv X pins σ H' s' ∧ Q H') X.xe s
/-- a op= b, by values -/
abbrev TIp := V → V → Hp → VK → Prop
def PIp (X : Cx) (op : Operator) (t : TIp) : Prop :=
  ∀ (pins : List (Addr × Obj)) (s : Shared) (σ : St) (H : Hp) (x y : V) (v u : Value) (Q : VK), Inv X pins σ H s → RelV x v → RelV y u → t x y H Q →
    wpAny (model X.prog X.w) X.A (inplaceOp op v u) (EP X pins σ Q) X.xe s
section
variable {X : Cx} {pos : Pos}
def gName (i : Nat) : TG := fun v σ H Q => Q (σ.set i (some v)) H
theorem pg_name {i : Nat} {x : Str} (hN : X.N.Nodup) (hi : X.N[i]? = some x) (hx : Loc X.env.scope x) (hf : X.fn x = true ∨ X.env.scope.names.lookup x = some .local := by first | exact .inl rfl | exact .inr rfl | assumption) : PG X (.Name x pos) (gName i) := by
  intro pins s σ H v u Q I r h
  exact wpAny_assign_Name (store_ok I hN hi hx r (fun s' I' => ⟨_, H, I', h⟩) hf)
def gNil : TGs := fun vs σ H Q => vs = [] ∧ Q σ H
def gCons (t : TG) (u : TGs) : TGs := fun vs σ H Q => ∃ v r, vs = v :: r ∧ t v σ H fun σ' H' => u r σ' H' Q
theorem pgs_nil : PGs X [] gNil := by
  intro pins s σ H vs us Q I r h
  obtain ⟨e, h⟩ := h
  subst e
  cases r
  exact assignInOrder_nil ⟨σ, H, I, h⟩
theorem pgs_cons {e : Expr} {es : List Expr} {t : TG} {u : TGs} (h1 : PG X e t) (h2 : PGs X es u)
    (hs : (assignEach (e :: es) X.env).map (·.2) = assign e X.env :: (assignEach es X.env).map (·.2) := by rfl) : PGs X (e :: es) (gCons t u) := by
  intro pins s σ H vs us Q I r h
  obtain ⟨v, vr, e1, h⟩ := h
  subst e1
  cases r with
  | cons r rr =>
    rw [hs]
    refine assignInOrder_cons (thn (h1 pins s σ H _ _ _ I r h) fun _ s1 ⟨σ1, H1, I1, q1⟩ => ?_)
    exact h2 pins s1 σ1 H1 _ _ Q I1 rr q1
/-- (a, b, ..) = a tuple of that length -/
def gTup (K : PySem.W.Frag) (n : Nat) (t : TGs) : TG := fun v σ H Q => ∃ a xs, v = .ref a ∧ SqT K H a xs ∧ xs.length = n ∧ t xs σ H Q
theorem pg_tup {es : List Expr} {k : Nat} {t : TGs} {n : Nat} (hc : X.calm = true) (h : PGs X es t)
    (hn : (assignEach es X.env).length = n := by rfl) (hst : (assignEach es X.env).findIdx? (·.1) = none := by rfl) : PG X (.Tuple es k pos) (gTup X.K n t) := by
  intro pins s σ H v u Q I r hw
  obtain ⟨a, xs, e1, hq, hl, hw⟩ := hw
  subst e1
  cases r
  obtain ⟨its, rv, ht, hz⟩ := I.tuple hq
  refine assign_Tuple_tuple (I.ok.hd hc) ht (by simp [hn, ← hl, rv.length]) hst fun h' hx => ?_
  have I1 : Inv X pins σ H { s with heap := h' } := I.kept (t' := s.toks) fun b o e => hx b o (Nat.ne_of_lt (Heap.lt_size e)) e
  exact h pins _ σ H xs _ Q I1 (by simpa using rv) hw
/-- o[i] = .. -/
def gSub (to ti : TE) (t : TSet) : TG := fun v σ H Q => to σ H fun o H1 => ti σ H1 fun i H2 => t o i v H2 fun H3 => Q σ H3
theorem pg_sub {o i : Expr} {to ti : TE} {t : TSet} (ho : PE X o to) (hi : PE X i ti) (hs : PSet X t)
    (ha : ∀ v, assign (.Subscript o i pos) X.env v = (do
      let ov ← holding [v] (eval o X.env)
      let iv ← holding [v, ov] (eval i X.env)
      standAt pos
      holding [v, ov, iv] (setItem ov iv v)
      release [v, ov, iv] []) := by intro _; rfl) : PG X (.Subscript o i pos) (gSub to ti t) := by
  intro pins s σ H v u Q I r h
  rw [ha]
  refine wpAny_bind (wpAny_holding (thn (ho pins s σ H _ I h) fun ov s1 ⟨x, H1, I1, r1, q1⟩ => ?_))
  refine wpAny_bind (wpAny_holding (thn (hi pins s1 σ H1 _ I1 q1) fun iv s2 ⟨y, H2, I2, r2, q2⟩ => ?_))
  refine wpAny_bind (wpAny_standAt (wpAny_bind (wpAny_holding (thn (hs pins s2 σ H2 x y v ov iv u _ I2 r1 r2 r q2) fun _ s3 ⟨H3, I3, q3⟩ => ?_))))
  exact wpAny_release ⟨σ, H3, I3, q3⟩
/-- target = value -/
def tAsg (te : TE) (g : TG) : TS := fun D σ H => te σ H fun x H1 => g x σ H1 D.nx
theorem ps_asg {tg e : Expr} {te : TE} {g : TG} (he : PE X e te) (hg : PG X tg g) (hs : swapsWithSole [tg] e pos.line X.env = pure false := by rfl) (hw : swappedStores [tg] e X.env = pure none := by rfl)
    (h1 : (assignEach [tg] X.env).map (·.2) = [assign tg X.env] := by rfl) : PS X (.Assign [tg] e pos) (tAsg te g) := by
  intro pins s σ H D I h
  refine wpAny_Assign_stores (thn (he pins s σ H _ I h) fun v s1 ⟨x, H1, I1, r1, q1⟩ => ?_) hs hw
  rw [h1]
  exact thn (hg pins s1 σ H1 x v _ I1 r1 q1) fun _ s2 q => q
/-- name = value -/
theorem ps_set {i : Nat} {x : Str} {e : Expr} {te : TE} {pos' : Pos} (hN : X.N.Nodup) (hi : X.N[i]? = some x) (hx : Loc X.env.scope x) (he : PE X e te) (hs : swapsWith e (some (.Name x pos')) pos.line X.env = pure false := by rfl) (hf : X.fn x = true ∨ X.env.scope.names.lookup x = some .local := by first | exact .inl rfl | exact .inr rfl | assumption) :
    PS X (.Assign [.Name x pos'] e pos) (tAsg te (gName i)) := by
  intro pins s σ H D I h
  refine wpAny_Assign_Name (thn (he pins s σ H _ I h) fun v s1 ⟨y, H1, I1, r1, q1⟩ => ?_) hs
  exact store_ok I1 hN hi hx r1 (fun s2 I2 => ⟨_, H1, I2, q1⟩) hf
/-- a, b = x, y with plain local names: stored from the right; the pair itself is not tracked (the opening rows as in PyProof/Rows/TupAssign.lean:23) -/
def tPar (i j : Nat) (ta : TA) : TS := fun D σ H => ta σ H fun vs H1 => ∃ v w, vs = [v, w] ∧ D.nx ((σ.set i (some v)).set j (some w)) H1
theorem ps_par {i j : Nat} {x y : Str} {a b : Expr} {ta : TA} {px py pt : Pos} {kt k2 pt2} (hc : X.calm = true) (hN : X.N.Nodup) (hi : X.N[i]? = some x) (hj : X.N[j]? = some y) (hij : i ≠ j)
    (hx : X.env.scope.names.lookup x = some .local) (hy : X.env.scope.names.lookup y = some .local) (ha : PA X [a, b] ta)
    (hw : swappedStores [.Tuple [.Name x px, .Name y py] kt pt] (.Tuple [a, b] k2 pt2) X.env = pure (some [x, y]))
    (hs : swapsWithSole [.Tuple [.Name x px, .Name y py] kt pt] (.Tuple [a, b] k2 pt2) pos.line X.env = pure false := by rfl) :
    PS X (.Assign [.Tuple [.Name x px, .Name y py] kt pt] (.Tuple [a, b] k2 pt2) pos) (tPar i j ta) := by
  intro pins s σ H D I h
  rw [exec_Assign_arm]
  refine wpAny_bind (wpAny_standAt ?_)
  rw [hs]
  refine wpAny_bind (wpAny_pure ?_)
  rw [if_neg (by decide)]
  refine wpAny_bind (Tuple_ (thn (ha _ pins s σ H _ I h) fun us s1 ⟨vs, H1, I1, r1, q1⟩ => ?_))
  obtain ⟨v, w, e1, q1⟩ := q1
  subst e1
  obtain ⟨u1, u2, rfl, rv, rw'⟩ : ∃ u1 u2, us = [u1, u2] ∧ RelV v u1 ∧ RelV w u2 := by
    cases r1 with
    | cons p q =>
      cases q with
      | cons p' q' =>
        cases q'
        exact ⟨_, _, rfl, p, p'⟩
  refine wpAny_newObj_type ?_ (by show 2 ≤ sizeLine; decide)
  have I2 : Inv X pins σ H1 { s1 with heap := s1.heap.push { cls := .type "tuple", data := .seq [u1, u2].toArray } } := I1.kept (t' := s1.toks) fun b o e => Heap.get?_push_of_some _ e
  rw [hw]
  refine wpAny_bind (wpAny_pure ?_)
  show wpAny (model X.prog X.w) X.A (do rule "assign.swapped-stores"; let items ← unpackItems (.ref s1.heap.objs.size) 2 none; assignInOrder [fun v => bindName X.env y v, fun v => bindName X.env x v] items.reverse; pure Flow.next) _ _ _
  refine wpAny_bind (wpAny_rule (wpAny_bind (unpackItems_tuple (items := #[u1, u2]) (I.ok.hd hc) (IsTup.new s1.heap _) fun h' hx' => ?_)))
  have I3 := I2.kept (h' := h') (t' := s1.toks) fun b o e => hx' b o (Nat.ne_of_lt (Heap.lt_size e)) e
  show wpAny _ _ (assignInOrder [fun v => bindName X.env y v, fun v => bindName X.env x v] [u2, u1] >>= fun _ => pure Flow.next) _ _ _
  refine wpAny_bind (assignInOrder_cons (wpAny_bindName (store_ok I3 hN hj (.inl hy) rw' (fun s2 I4 => ?_) (.inr hy))))
  refine assignInOrder_cons (wpAny_bindName (store_ok I4 hN hi (.inl hx) rv (fun s3 I5 => assignInOrder_nil (wpAny_pure ?_)) (.inr hx)))
  rw [List.set_comm _ _ (Ne.symm hij)] at I5
  exact ⟨_, H1, I5, q1⟩
/-- name op= e -/
def tAug (i : Nat) (te : TE) (ti : TIp) : TS := fun D σ H => ∃ x, σ[i]? = some (some x) ∧ te σ H fun y H1 => ti x y H1 fun z H2 => D.nx (σ.set i (some z)) H2
theorem ps_aug {i : Nat} {x : Str} {e : Expr} {te : TE} {op : Operator} {ti : TIp} {pos' : Pos} (hN : X.N.Nodup) (hi : X.N[i]? = some x) (hx : Loc X.env.scope x) (he : PE X e te) (ho : PIp X op ti) (hf : X.fn x = true ∨ X.env.scope.names.lookup x = some .local := by first | exact .inl rfl | exact .inr rfl | assumption) :
    PS X (.AugAssign (.Name x pos') op e pos) (tAug i te ti) := by
  intro pins s σ H D I h
  obtain ⟨v, e1, h⟩ := h
  obtain ⟨m, hn, hl⟩ := I.loc
  have vis : Vis X.env.scope x := by rcases hx with k | k; exact .inl k; exact .inr (.inl k)
  obtain ⟨u, r, l⟩ := hl i x v hi e1 vis
  refine wpAny_AugAssign_Name ?_
  have go : wpAny (model X.prog X.w) X.A (eval e X.env) (fun w s₂ => wpAny (model X.prog X.w) X.A (inplaceOp op u w) (fun r s₃ => wpAny (model X.prog X.w) X.A (storeName X.env x r) (fun _ => SP X pins D .next) X.xe s₃) X.xe s₂) X.xe s := by
    refine thn (he pins s σ H _ I h) fun w s1 ⟨y, H1, I1, r1, q1⟩ => ?_
    refine thn (ho pins s1 σ H1 v y u w _ I1 r r1 q1) fun z s2 ⟨zv, H2, I2, r2, q2⟩ => ?_
    exact store_ok I2 hN hi hx r2 (fun s3 I3 => ⟨_, H2, I3, q2⟩) hf
  rcases l with ⟨hk, hm⟩ | ⟨hk, c, hc, hcell⟩
  · exact wpAny_loadName_local I.ok.kind hk hn hm go
  · rcases hk with hk | hk
    · exact wpAny_loadName_cell I.ok.kind hk hc hcell go
    · rcases hx with k | k
      · have : X.env.scope.names.lookup x = some .free := hk
        rw [k] at this; cases this
      · have : X.env.scope.names.lookup x = some .free := hk
        rw [k] at this; cases this
/-- ints -/
def ipI (f : Int → Int → Int) : TIp := fun x y H Q => ∃ i j, x = .int i ∧ y = .int j ∧ Q (.int (f i j)) H
theorem ip_add : PIp X .Add (ipI fun i j => i + j) := by
  intro pins s σ H x y v u Q I r1 r2 h
  obtain ⟨i, j, e1, e2, q⟩ := h
  subst e1; subst e2
  obtain ⟨t, rfl⟩ := r1
  obtain ⟨t', rfl⟩ := r2
  exact iadd_int ⟨.int _, H, I.tok _, ⟨_, rfl⟩, q⟩
end

/-! ### while -/
section
variable {X : Cx} {pos : Pos}
/-- the invariant W with its measure -/
def tWhile (c : TT) (tb : TS) : TS := fun D σ H => ∃ W : Nat → St → Hp → Prop, (∃ m, W m σ H) ∧ ∀ m σ H, W m σ H →
  c σ H fun b H1 => if b = true then ∃ N : St → Hp → Prop, (∀ σ' H', N σ' H' → ∃ m', m' < m ∧ W m' σ' H') ∧ tb { D with nx := N, ct := N, bk := D.nx } σ H1 else D.nx σ H1
theorem ps_while {c : Expr} {body : List Stmt} {tc : TT} {tb : TS} (hp : PassesOwn (model X.prog X.w) X.A X.env X.xe) (hc : PT X c tc) (hb : PSs X body tb) : PS X (.While c body [] pos) (tWhile tc tb) := by
  intro pins s σ H D I h
  obtain ⟨W, ⟨m0, w0⟩, turn⟩ := h
  refine wpAny_While (codeAny_whileLoop (fun n s' => ∃ σ' H', Inv X pins σ' H' s' ∧ W n σ' H') ?_ m0 ⟨σ, H, I, w0⟩)
  rintro n s1 ⟨σ1, H1, I1, w1⟩
  refine wpAny_passesOwn hp (thn (hc pins s1 σ1 H1 _ I1 (turn n σ1 H1 w1)) fun b s2 ⟨H2, I2, q2⟩ => ?_)
  cases b with
  | true =>
    obtain ⟨N, hN, q2⟩ := q2
    rw [if_pos rfl]
    refine wpAny_passesOwn hp (thn (hb pins s2 σ1 H2 _ I2 q2) fun f s3 q3 => ?_)
    cases f with
    | next =>
      obtain ⟨σ3, H3, I3, n3⟩ := q3
      obtain ⟨m', hm, w3⟩ := hN σ3 H3 n3
      exact ⟨m', hm, σ3, H3, I3, w3⟩
    | cont =>
      obtain ⟨σ3, H3, I3, n3⟩ := q3
      obtain ⟨m', hm, w3⟩ := hN σ3 H3 n3
      exact ⟨m', hm, σ3, H3, I3, w3⟩
    | brk => exact q3
    | ret v => exact q3
  | false =>
    rw [if_neg Bool.false_ne_true]
    exact wpAny_execs_nil ⟨σ1, H2, I2, q2⟩
end

/-! ### what a loop or a comprehension walks -/
/-- at turn i: it yields x (the heap may grow), or it stops -/
structure It where
  go : Nat → Hp → Prop
  yld : Nat → Hp → V → Hp → Prop
  stop : Nat → Hp → Prop
/-- the iterator's own objects may turn: they are not the frame's, not pinned, younger than the entry (or a comprehension's own) -/
def FpOk (X : Cx) (pins : List (Addr × Obj)) (H : Hp) (b : Addr) : Prop :=
  H b = none ∧ b ≠ X.env.locals ∧ b ∉ X.fs ∧ (b ∈ X.ex ∨ X.s₀.heap.objs.size ≤ b) ∧ (∀ x c, X.env.cells.lookup x = some c → c ≠ b) ∧ ∀ p ∈ X.pn ++ pins, p.1 ≠ b
theorem Inv.fpOk {X : Cx} {pins : List (Addr × Obj)} {σ : St} {H H' : Hp} {s : Shared} {b : Addr} (I : Inv X pins σ H s) (hb : s.heap.objs.size ≤ b) (hn : H' b = none) : FpOk X pins H' b := by
  refine ⟨hn, Nat.ne_of_gt (Nat.lt_of_lt_of_le I.lt hb), I.nofs hb, .inr (Nat.le_trans I.sz hb), fun x c e z => ?_, fun p hp z => ?_⟩
  · obtain ⟨v, q⟩ := I.cell x c e
    exact absurd (Nat.lt_of_lt_of_le q.lt (by rw [z]; exact hb)) (Nat.lt_irrefl _)
  · exact absurd (Nat.lt_of_lt_of_le (Heap.lt_size (I.pin p hp).1) (by rw [z]; exact hb)) (Nat.lt_irrefl _)
structure Turn (P : Program) (w : World) (K : PySem.W.Frag) (tg : Expr) (J : It) (fp : List Addr) (it : Addr) (tn : Nat → Heap → Prop) : Prop where
  mem : it ∈ fp
  obj : ∀ i h, tn i h → ∀ b ∈ fp, ∃ o, h.get? b = some o ∧ ∀ v, o.data ≠ .cell v
  keep : ∀ i h h', tn i h → (∀ b ∈ fp, ∀ o, h.get? b = some o → h'.get? b = some o) → tn i h'
  item : ∀ (X : Cx), X.prog = P → X.w = w → X.K = K → X.calm = true → ∀ (i : Nat) (pins : List (Addr × Obj)) (s : Shared) (σ : St) (H : Hp) (E : Value → Shared → Prop), Inv X pins σ H s → (∀ b ∈ fp, FpOk X pins H b) → tn i s.heap → J.go i H →
    wpAny (model P w) X.A (pyNext (.ref it)) (fun r s1 => ∃ u, r = some u ∧
      wpAny (model P w) X.A (letOwnedTupleGo tg (.ref it) u) (fun _ s2 => ∃ x H', Inv X pins σ H' s2 ∧ RelV x u ∧ J.yld i H x H' ∧ tn (i + 1) s2.heap ∧ ∀ b ∈ fp, H' b = none) E s1) E s
  done : ∀ (X : Cx), X.prog = P → X.w = w → X.K = K → X.calm = true → ∀ (i : Nat) (pins : List (Addr × Obj)) (s : Shared) (σ : St) (H : Hp) (E : Value → Shared → Prop), Inv X pins σ H s → (∀ b ∈ fp, FpOk X pins H b) → tn i s.heap → J.stop i H →
    wpAny (model P w) X.A (pyNext (.ref it)) (fun r s1 => r = none ∧ Inv X pins σ H s1) E s
  self : ∀ (A : Around) (i : Nat) (s : Shared) (Q : Value → Shared → Prop) (E : Value → Shared → Prop), tn i s.heap → Q (.ref it) s → wpAny (model P w) A (pyIter (.ref it)) Q E s
abbrev TI := St → Hp → (It → Hp → Prop) → Prop
/-- an iterator has come -/
def PIE (X : Cx) (pins : List (Addr × Obj)) (σ : St) (tg : Expr) (R : It → Hp → Prop) (itv : Value) (s2 : Shared) : Prop :=
  ∃ (it : Addr) (fp : List Addr) (tn : Nat → Heap → Prop) (J : It) (H' : Hp), itv = .ref it ∧ Inv X pins σ H' s2 ∧ Turn X.prog X.w X.K tg J fp it tn ∧ tn 0 s2.heap ∧ (∀ b ∈ fp, FpOk X pins H' b) ∧ R J H'
def PI (X : Cx) (tg iter : Expr) (wi : TI) : Prop :=
  ∀ (pins : List (Addr × Obj)) (s : Shared) (σ : St) (H : Hp) (R : It → Hp → Prop), Inv X pins σ H s → wi σ H R →
    wpAny (model X.prog X.w) X.A (eval iter X.env) (fun v s1 => wpAny (model X.prog X.w) X.A (pyIter v) (PIE X pins σ tg R) X.xe s1) X.xe s

/-- the step ahead of the store is nothing for an iterator that keeps no tuple -/
theorem go_of {M : Model} {A : Around} {E : Value → Shared → Prop} {s : Shared} {tg : Expr} {it : Addr} {u : Value} {o : Obj} {n : String} {vs : Array Value} {Q : Unit → Shared → Prop} (ho : s.heap.get? it = some o) (hc : o.cls = .type n) (hd : o.data = .fields vs)
    (hn : ["enumerate", "zip", "dict_itemiterator", "dict_reverseitemiterator", "odict_iterator", "itertools.zip_longest", "itertools.pairwise"].contains n = false) (hQ : Q () s) : wpAny M A (letOwnedTupleGo tg (.ref it) u) Q E s := by
  unfold letOwnedTupleGo
  cases tg <;> first
    | exact wpAny_pure hQ
    | (cases u <;> first
        | exact wpAny_pure hQ
        | (refine wpAny_bind (wpAny_load ho ?_)
           rw [hc, hd]
           show wpAny M A (if (["enumerate", "zip", "dict_itemiterator", "dict_reverseitemiterator", "odict_iterator", "itertools.zip_longest", "itertools.pairwise"].contains n && vs[0]? == some (rawInt _)) = true then _ else _) Q E s
           rw [if_neg (by intro h; rw [hn, Bool.false_and] at h; cases h)]
           exact wpAny_pure hQ))

/-- the list at a, as it stands at each turn (a loop may append to it) -/
def Itl (K : PySem.W.Frag) (a : Addr) : It :=
  ⟨fun i H => ∃ xs x, SqL K H a xs ∧ xs[i]? = some x, fun i H x H' => H' = H ∧ ∀ xs, SqL K H a xs → xs[i]? = some x, fun i H => ∃ xs, SqL K H a xs ∧ xs.length ≤ i⟩
/-- lo, lo + 1, .. (n of them) -/
def Itr (lo : Int) (n : Nat) : It := ⟨fun i _ => i < n, fun i H x H' => H' = H ∧ x = .int (lo + i), fun i _ => n ≤ i⟩
theorem turn_list {P : Program} {w : World} {K : PySem.W.Frag} {tg : Expr} (a it : Addr) : Turn P w K tg (Itl K a) [it] it (fun i h => h.IsListIter it a i) where
  mem := by simp
  obj := fun i h st b hb => by
    have e : b = it := by simpa using hb
    subst e
    obtain ⟨o, e, c, d⟩ := st
    exact ⟨o, e, fun v z => by rw [d] at z; cases z⟩
  keep := fun i h h' st k => st.at fun o e => k it (by simp) o e
  item := by
    intro X hP hw hK hc i pins s σ H E I hf st hg
    subst hP hw hK
    obtain ⟨xs, x, hq, hx⟩ := hg
    obtain ⟨its, rv, p, hz⟩ := I.list hq
    obtain ⟨u, hu, ru⟩ := rv.get hx
    obtain ⟨f0, f1, f2, f3, f4, f5⟩ := hf it (by simp)
    refine wpAny_pyNext_list_item st p.isList (x := u) (by simpa using hu) fun h' st' sb => ?_
    have I1 : Inv X pins σ H { s with heap := h' } := I.turned (t' := s.toks) (fun b o hb e => (sb.2 b hb).trans e) f0 f1 f3 f4 f5
    obtain ⟨o, e, c, d⟩ := id st'
    exact ⟨u, rfl, go_of (s := { s with heap := h' }) e c d (by decide) ⟨x, H, I1, ru, ⟨rfl, fun ys hy => by rw [I.list_inj hy hq]; exact hx⟩, st', fun b hb => (hf b hb).1⟩⟩
  done := by
    intro X hP hw hK hc i pins s σ H E I hf st hg
    subst hP hw hK
    obtain ⟨xs, hq, hx⟩ := hg
    obtain ⟨its, rv, p, hz⟩ := I.list hq
    obtain ⟨f0, f1, f2, f3, f4, f5⟩ := hf it (by simp)
    have hl := rv.length
    exact wpAny_pyNext_list_end (I.ok.hd hc) st p.isList (by simp; omega) fun h' eb => ⟨rfl, I.turned (t' := s.toks) (fun b o hb e => eb b o hb e) f0 f1 f3 f4 f5⟩
  self := fun _ _ _ _ _ st h => wpAny_pyIter_listiter st h
theorem turn_range {P : Program} {w : World} {K : PySem.W.Frag} {tg : Expr} (it : Addr) (lo : Int) (n : Nat) : Turn P w K tg (Itr lo n) [it] it (fun i h => IsRangeIter h it (lo + (i : Nat) * 1) ((n : Int) - (i : Nat)) 1) where
  mem := by simp
  obj := fun i h st b hb => by
    have e : b = it := by simpa using hb
    subst e
    exact ⟨_, st, fun v z => by
      have z' : Data.fields _ = Data.cell v := z
      cases z'⟩
  keep := fun i h h' st k => k it (by simp) _ st
  item := by
    intro X hP hw hK hc i pins s σ H E I hf st hg
    subst hP hw hK
    obtain ⟨f0, f1, f2, f3, f4, f5⟩ := hf it (by simp)
    have W := Walks.range (prog := X.prog) (w := X.w) (I.ok.hd hc) it lo 1 n
    refine W.item i s _ _ hg st fun v h' tk hv st' kk => ?_
    obtain ⟨t, rfl⟩ := hv
    have I1 : Inv X pins σ H { s with heap := h', toks := tk } := I.turned (fun b o hb e => kk b o (by simpa using hb) e) f0 f1 f3 f4 f5
    refine ⟨_, rfl, go_of (s := { s with heap := h', toks := tk }) (n := "range_iterator") st' rfl rfl (by decide) ⟨.int (lo + i), H, I1, ⟨t, ?_⟩, ⟨rfl, rfl⟩, st', fun b hb => (hf b hb).1⟩⟩
    rw [Int.mul_one]
  done := by
    intro X hP hw hK hc i pins s σ H E I hf st hg
    subst hP hw hK
    obtain ⟨f0, f1, f2, f3, f4, f5⟩ := hf it (by simp)
    exact wpAny_pyNext_range_end (I.ok.hd hc) st (by have : n ≤ i := hg; omega) fun h' eb => ⟨rfl, I.turned (t' := s.toks) (fun b o hb e => eb b o hb e) f0 f1 f3 f4 f5⟩
  self := fun _ _ _ _ _ st h => wpAny_pyIter_rangeiter st h
end L2

namespace L2
open PySem PySem.Spec PyProof.Rows
section
variable {X : Cx} {tg : Expr}
def iList (K : PySem.W.Frag) (tl : TE) : TI := fun σ H R => tl σ H fun x H1 => ∃ a, x = .ref a ∧ (∃ xs, SqL K H1 a xs) ∧ R (Itl K a) H1
theorem pi_list {l : Expr} {tl : TE} (hl : PE X l tl) : PI X tg l (iList X.K tl) := by
  intro pins s σ H R I h
  refine thn (hl pins s σ H _ I h) fun v s1 ⟨x, H1, I1, r1, q1⟩ => ?_
  obtain ⟨a, e, ⟨xs, hq⟩, q⟩ := q1
  subst e
  cases r1
  obtain ⟨its, rv, p, hz⟩ := I1.list hq
  refine wpAny_pyIter_list p.isList ?_
  refine ⟨s1.heap.objs.size, [s1.heap.objs.size], _, _, H1, rfl, I1.kept (t' := s1.toks) fun b o e => Heap.get?_push_of_some _ e, turn_list a _, ⟨_, Heap.get?_push_size _ rfl, rfl, rfl⟩, fun b hb => ?_, q⟩
  have e : b = s1.heap.objs.size := by simpa using hb
  subst e
  exact I1.fpOk (Nat.le_refl _) (I1.hok.fresh (Nat.le_refl _))
/-- a range object just made, walked -/
theorem range_it {pins : List (Addr × Obj)} {σ : St} {H : Hp} {s : Shared} {R : It → Hp → Prop} {E : Value → Shared → Prop} {lo hi : Int} {t u v : Tok} {tk : Nat} (I : Inv X pins σ H s) (h1 : -(2 ^ 62) ≤ lo) (h2 : lo < 2 ^ 62) (h3 : -(2 ^ 62) ≤ hi) (h4 : hi < 2 ^ 62)
    (q : R (Itr lo (hi - lo).toNat) H) : wpAny (model X.prog X.w) X.A (pyIter (.ref s.heap.objs.size)) (PIE X pins σ tg R) E { s with heap := s.heap.push { cls := .type "range", data := .fields #[.int lo t, .int hi u, .int 1 v] }, toks := tk } := by
  refine wpAny_pyIter_range (IsRange.new ..) (small_one h1 h2 h3 h4) ?_
  have I1 : Inv X pins σ H { s with heap := s.heap.push { cls := .type "range", data := .fields #[.int lo t, .int hi u, .int 1 v] }, toks := tk } := I.kept fun b o e => Heap.get?_push_of_some _ e
  refine ⟨(s.heap.push { cls := .type "range", data := .fields #[.int lo t, .int hi u, .int 1 v] }).objs.size, [(s.heap.push { cls := .type "range", data := .fields #[.int lo t, .int hi u, .int 1 v] }).objs.size], _, _, H, rfl,
    I1.kept (t' := tk) fun b o e => Heap.get?_push_of_some _ e, turn_range _ lo (hi - lo).toNat, ?_, fun b hb => ?_, q⟩
  · have e1 : lo + ((0 : Nat) : Int) * 1 = lo := by simp
    have e2 : (((hi - lo).toNat : Nat) : Int) - ((0 : Nat) : Int) = Builtin.Range.rangeSize lo hi 1 := by rw [rangeSize_one]; split <;> omega
    show IsRangeIter _ _ (lo + ((0 : Nat) : Int) * 1) ((((hi - lo).toNat : Nat) : Int) - ((0 : Nat) : Int)) 1
    rw [e1, e2]
    exact Heap.get?_push_size _ rfl
  · have e : b = (s.heap.push { cls := .type "range", data := .fields #[.int lo t, .int hi u, .int 1 v] }).objs.size := by simpa using hb
    subst e
    exact I1.fpOk (Nat.le_refl _) (I1.hok.fresh (Nat.le_refl _))
def iRng1 (ta : TA) : TI := fun σ H R => ta σ H fun vs H1 => ∃ j : Int, vs = [.int j] ∧ -(2 ^ 62) ≤ j ∧ j < 2 ^ 62 ∧ R (Itr 0 j.toNat) H1
def iRng2 (ta : TA) : TI := fun σ H R => ta σ H fun vs H1 => ∃ i j : Int, vs = [.int i, .int j] ∧ (-(2 ^ 62) ≤ i ∧ i < 2 ^ 62 ∧ -(2 ^ 62) ≤ j ∧ j < 2 ^ 62) ∧ R (Itr i (j - i).toNat) H1
theorem pi_range1 {a : Expr} {ta : TA} {p pos : Pos} (hg : Gl X "range") (hm : X.mg "range" = none) (ha : PA X [a] ta) (hs : starEach [a] X.env = [(false, eval a X.env)] := by rfl) : PI X tg (.Call (.Name "range" p) [a] [] pos) (iRng1 ta) := by
  intro pins s σ H R I h
  refine Call_ (ld_blt I hg hm boot_range (PyProof.Rows.callWith_type1 (thn (ha pos pins s σ H _ I h) fun us s1 ⟨vs, H1, I1, r1, q1⟩ => ?_) hs rfl))
  obtain ⟨j, e, q1, q2, q⟩ := q1
  subst e
  cases r1 with
  | cons r rr =>
    cases rr
    obtain ⟨t, rfl⟩ := r
    exact call_range_1 (range_it I1 (by omega) (by omega) q1 q2 (by simpa using q))
theorem pi_range2 {a b : Expr} {ta : TA} {p pos : Pos} (hg : Gl X "range") (hm : X.mg "range" = none) (ha : PA X [a, b] ta) (hs : starEach [a, b] X.env = [(false, eval a X.env), (false, eval b X.env)] := by rfl) (hs2 : starEach [b] X.env = [(false, eval b X.env)] := by rfl) :
    PI X tg (.Call (.Name "range" p) [a, b] [] pos) (iRng2 ta) := by
  intro pins s σ H R I h
  refine Call_ (ld_blt I hg hm boot_range (PyProof.Rows.callWith_type1 (thn (ha pos pins s σ H _ I h) fun us s1 ⟨vs, H1, I1, r1, q1⟩ => ?_) (by rw [hs, hs2]) (by rw [hs2]; rfl)))
  obtain ⟨i, j, e, ⟨q1, q2, q3, q4⟩, q⟩ := q1
  subst e
  cases r1 with
  | cons r rr =>
    cases rr with
    | cons r' rr =>
      cases rr
      obtain ⟨t, rfl⟩ := r
      obtain ⟨t', rfl⟩ := r'
      exact call_range_2 (range_it I1 q1 q2 q3 q4 q)

/-! ### for -/
/-- W: the invariant by the turn and a measure; N: what the body is to reach -/
def tFor (wi : TI) (g : TG) (tb : TS) : TS := fun D σ H => wi σ H fun J H1 => ∃ W : Nat → Nat → St → Hp → Prop, (∃ m, W 0 m σ H1) ∧ ∀ i m σ H, W i m σ H →
  (J.stop i H ∧ D.nx σ H) ∨ (J.go i H ∧ ∃ N : St → Hp → Prop, (∀ σ' H', N σ' H' → ∃ m', m' < m ∧ W (i + 1) m' σ' H') ∧ ∀ x H', J.yld i H x H' → g x σ H' fun σ2 H2 => tb { D with nx := N, ct := N, bk := D.nx } σ2 H2)
/-- the records at fp as they stand -/
def pinsAt (fp : List Addr) (h : Heap) : List (Addr × Obj) := fp.filterMap fun b => (h.get? b).map fun o => (b, o)
theorem mem_pinsAt {fp : List Addr} {h : Heap} {b : Addr} {o : Obj} (hb : b ∈ fp) (e : h.get? b = some o) : (b, o) ∈ pinsAt fp h := List.mem_filterMap.mpr ⟨b, hb, by rw [e]; rfl⟩
theorem of_pinsAt {fp : List Addr} {h : Heap} {p : Addr × Obj} (hp : p ∈ pinsAt fp h) : p.1 ∈ fp ∧ h.get? p.1 = some p.2 := by
  obtain ⟨b, hb, e⟩ := List.mem_filterMap.mp hp
  cases q : h.get? b with
  | none => rw [q] at e; cases e
  | some o =>
    rw [q] at e
    have e' : (b, o) = p := Option.some.inj e
    subst e'
    exact ⟨hb, q⟩
theorem Inv.pinned {pins : List (Addr × Obj)} {σ : St} {H : Hp} {s : Shared} {fp : List Addr} (I : Inv X pins σ H s) (hf : ∀ b ∈ fp, FpOk X pins H b) (ho : ∀ b ∈ fp, ∃ o, s.heap.get? b = some o ∧ ∀ v, o.data ≠ .cell v) : Inv X (pins ++ pinsAt fp s.heap) σ H s :=
  I.pins_of fun p hp => (List.mem_append.mp hp).elim (fun z => I.pin p (List.mem_append_right _ z)) fun z => by
    obtain ⟨hb, e⟩ := of_pinsAt z
    obtain ⟨f0, f1, f2, _⟩ := hf p.1 hb
    obtain ⟨o, e', d⟩ := ho p.1 hb
    rw [e] at e'; cases e'
    exact ⟨e, f0, f1, f2, d⟩
theorem Inv.unpinned {pins pl : List (Addr × Obj)} {σ : St} {H : Hp} {s : Shared} (I : Inv X (pins ++ pl) σ H s) : Inv X pins σ H s := I.pins_of fun p hp => I.pin p (List.mem_append_right _ (List.mem_append_left _ hp))
theorem ps_for {iter : Expr} {body : List Stmt} {wi : TI} {g : TG} {tb : TS} {pos : Pos} (hp : PassesOwn (model X.prog X.w) X.A X.env X.xe) (hc : X.calm = true) (hi : PI X tg iter wi) (hg : PG X tg g) (hb : PSs X body tb)
    (hs : ∀ x, foldedSetIterable iter X.env x = pure x := by intro _; rfl) : PS X (.For tg iter body [] pos) (tFor wi g tb) := by
  intro pins s σ H D I h
  refine wpAny_For (thn (hi pins s σ H _ I h) fun v s1 h1 => thn h1 fun itv s2 h2 => ?_) hs
  obtain ⟨it, fp, tn, J, H2, e, I2, T, st2, f2, W, ⟨m0, w0⟩, turn⟩ := h2
  subst e
  -- what stays true of the iterator's objects through the loop
  have stat : ∀ {H' : Hp}, (∀ b ∈ fp, H' b = none) → ∀ b ∈ fp, FpOk X pins H' b := fun hn b hb => ⟨hn b hb, (f2 b hb).2⟩
  refine codeAny_forLoop_any (fun n s' => ∃ i σ' H', Inv X pins σ' H' s' ∧ tn i s'.heap ∧ (∀ b ∈ fp, H' b = none) ∧ W i n σ' H') ?_ m0 ⟨0, σ, H2, I2, st2, fun b hb => (f2 b hb).1, w0⟩
  rintro n s3 ⟨i, σ3, H3, I3, st3, fr3, w3⟩
  rcases turn i n σ3 H3 w3 with ⟨stop, qn⟩ | ⟨go, N, hN, step⟩
  · refine wpAny_passesOwn hp (thn (T.done X rfl rfl rfl hc i pins s3 σ3 H3 X.xe I3 (stat fr3) st3 stop) fun r s4 ⟨hr, I4⟩ => ?_)
    subst hr
    exact wpAny_execs_nil ⟨σ3, H3, I4, qn⟩
  · refine wpAny_passesOwn hp (thn (T.item X rfl rfl rfl hc i pins s3 σ3 H3 X.xe I3 (stat fr3) st3 go) fun r s4 ⟨u, hr, h4⟩ => ?_)
    subst hr
    refine wpAny_passesOwn hp (thn h4 fun _ s5 ⟨x, H5, I5, r5, y5, st5, fr5⟩ => ?_)
    have I5' := I5.pinned (stat fr5) (T.obj _ _ st5)
    refine wpAny_passesOwn hp (thn (hg _ s5 σ3 H5 x u _ I5' r5 (step x H5 y5)) fun _ s6 ⟨σ6, H6, I6, q6⟩ => ?_)
    refine wpAny_passesOwn hp (thn (hb _ s6 σ6 H6 _ I6 q6) fun f s7 q7 => ?_)
    have again : ∀ {σ7 : St} {H7 : Hp}, Inv X (pins ++ pinsAt fp s5.heap) σ7 H7 s7 → N σ7 H7 → ∃ m, m < n ∧ ∃ i σ' H', Inv X pins σ' H' s7 ∧ tn i s7.heap ∧ (∀ b ∈ fp, H' b = none) ∧ W i m σ' H' := fun {σ7 H7} I7 n7 => by
      obtain ⟨m', hm, w7⟩ := hN σ7 H7 n7
      refine ⟨m', hm, i + 1, σ7, H7, I7.unpinned, T.keep _ _ _ st5 fun b hb o e => (I7.pin (b, o) (List.mem_append_right _ (List.mem_append_right _ (mem_pinsAt hb e)))).1, fun b hb => ?_, w7⟩
      obtain ⟨o, e, d⟩ := T.obj _ _ st5 b hb
      exact (I7.pin (b, o) (List.mem_append_right _ (List.mem_append_right _ (mem_pinsAt hb e)))).2.1
    cases f with
    | next => obtain ⟨σ7, H7, I7, n7⟩ := q7; exact again I7 n7
    | cont => obtain ⟨σ7, H7, I7, n7⟩ := q7; exact again I7 n7
    | brk => obtain ⟨σ7, H7, I7, q7⟩ := q7; exact ⟨σ7, H7, I7.unpinned, q7⟩
    | ret v => obtain ⟨x7, σ7, H7, I7, r7, q7⟩ := q7; exact ⟨x7, σ7, H7, I7.unpinned, r7, q7⟩
end

/-! ### the forms one uses -/
/-- over a list that the body leaves as it is -/
theorem for_list {K : PySem.W.Frag} {a : Addr} {xs : List V} {g : TG} {tb : TS} {D : Ends} {σ : St} {H : Hp} (Pv : Nat → St → Hp → Prop) (h0 : Pv 0 σ H) (hl : ∀ i σ H, i ≤ xs.length → Pv i σ H → SqL K H a xs)
    (hs : ∀ i x σ H, xs[i]? = some x → Pv i σ H → g x σ H fun σ2 H2 => tb { D with nx := Pv (i + 1), ct := Pv (i + 1), bk := D.nx } σ2 H2) (hd : ∀ σ H, Pv xs.length σ H → D.nx σ H) :
    ∃ W : Nat → Nat → St → Hp → Prop, (∃ m, W 0 m σ H) ∧ ∀ i m σ H, W i m σ H →
      ((Itl K a).stop i H ∧ D.nx σ H) ∨ ((Itl K a).go i H ∧ ∃ N : St → Hp → Prop, (∀ σ' H', N σ' H' → ∃ m', m' < m ∧ W (i + 1) m' σ' H') ∧ ∀ x H', (Itl K a).yld i H x H' → g x σ H' fun σ2 H2 => tb { D with nx := N, ct := N, bk := D.nx } σ2 H2) := by
  refine ⟨fun i m σ H => m = xs.length - i ∧ i ≤ xs.length ∧ Pv i σ H, ⟨xs.length, by simp, Nat.zero_le _, h0⟩, ?_⟩
  rintro i m σ H ⟨rfl, hi, p⟩
  have q := hl i σ H hi p
  by_cases hlt : i < xs.length
  · refine .inr ⟨⟨xs, xs[i], q, by simp [hlt]⟩, Pv (i + 1), fun σ' H' p' => ⟨xs.length - (i + 1), by omega, rfl, hlt, p'⟩, fun x H' y => ?_⟩
    obtain ⟨e, y⟩ := y
    subst e
    exact hs i x σ _ (y xs q) p
  · have e : i = xs.length := by omega
    subst e
    exact .inl ⟨⟨xs, q, Nat.le_refl _⟩, hd σ H p⟩
theorem for_range {lo : Int} {n : Nat} {g : TG} {tb : TS} {D : Ends} {σ : St} {H : Hp} (Pv : Nat → St → Hp → Prop) (h0 : Pv 0 σ H)
    (hs : ∀ i σ H, i < n → Pv i σ H → g (.int (lo + i)) σ H fun σ2 H2 => tb { D with nx := Pv (i + 1), ct := Pv (i + 1), bk := D.nx } σ2 H2) (hd : ∀ σ H, Pv n σ H → D.nx σ H) :
    ∃ W : Nat → Nat → St → Hp → Prop, (∃ m, W 0 m σ H) ∧ ∀ i m σ H, W i m σ H →
      ((Itr lo n).stop i H ∧ D.nx σ H) ∨ ((Itr lo n).go i H ∧ ∃ N : St → Hp → Prop, (∀ σ' H', N σ' H' → ∃ m', m' < m ∧ W (i + 1) m' σ' H') ∧ ∀ x H', (Itr lo n).yld i H x H' → g x σ H' fun σ2 H2 => tb { D with nx := N, ct := N, bk := D.nx } σ2 H2) := by
  refine ⟨fun i m σ H => m = n - i ∧ i ≤ n ∧ Pv i σ H, ⟨n, by simp, Nat.zero_le _, h0⟩, ?_⟩
  rintro i m σ H ⟨rfl, hi, p⟩
  by_cases hlt : i < n
  · refine .inr ⟨hlt, Pv (i + 1), fun σ' H' p' => ⟨n - (i + 1), by omega, rfl, hlt, p'⟩, fun x H' y => ?_⟩
    obtain ⟨e, y⟩ := y
    subst e y
    exact hs i σ _ hlt p
  · have e : i = n := by omega
    subst e
    exact .inl ⟨Nat.le_refl _, hd σ H p⟩
end L2

namespace L2
open PySem PySem.Spec PyProof.Rows

abbrev R2 := V → V → Hp → VK → Prop
/-- a two-place operation on values: f is binaryOp op, inplaceOp op or compareOp op -/
def OpR (X : Cx) (f : Value → Value → Sem Value) (r : R2) : Prop :=
  ∀ (pins : List (Addr × Obj)) (s : Shared) (σ : St) (H : Hp) (x y : V) (v u : Value) (Q : VK), Inv X pins σ H s → RelV x v → RelV y u → r x y H Q →
    wpAny (model X.prog X.w) X.A (f v u) (EP X pins σ Q) X.xe s
/-- a one-place operation -/
def UnR (X : Cx) (f : Value → Sem Value) (r : V → Hp → VK → Prop) : Prop :=
  ∀ (pins : List (Addr × Obj)) (s : Shared) (σ : St) (H : Hp) (x : V) (v : Value) (Q : VK), Inv X pins σ H s → RelV x v → r x H Q →
    wpAny (model X.prog X.w) X.A (f v) (EP X pins σ Q) X.xe s
/-- a call of a value that is known (a builtin, a type) with values -/
def CallR (X : Cx) (f : Value) (r : List V → Hp → VK → Prop) : Prop :=
  ∀ (pins : List (Addr × Obj)) (s : Shared) (σ : St) (H : Hp) (xs : List V) (us : List Value) (Q : VK), Inv X pins σ H s → Vals xs us → r xs H Q →
    wpAny (model X.prog X.w) X.A (call f us) (EP X pins σ Q) X.xe s
def tOp (r : R2) (ta tb : TE) : TE := fun σ H Q => ta σ H fun x H1 => tb σ H1 fun y H2 => r x y H2 Q
def tUn (r : V → Hp → VK → Prop) (ta : TE) : TE := fun σ H Q => ta σ H fun x H1 => r x H1 Q
/-- ints in, under C, and a value out -/
def rI (C : Int → Int → Prop) (g : Int → Int → V) : R2 := fun x y H Q => ∃ i j, x = .int i ∧ y = .int j ∧ C i j ∧ Q (g i j) H
def rI0 (g : Int → Int → V) : R2 := fun x y H Q => ∃ i j, x = .int i ∧ y = .int j ∧ Q (g i j) H
def rU (g : Int → V) : V → Hp → VK → Prop := fun x H Q => ∃ i, x = .int i ∧ Q (g i) H

section
variable {X : Cx} {a b c : Expr} {ta tb tc : TE} {pos : Pos}

theorem binT (ha : PE X a ta) (hb : PE X b tb) {pins : List (Addr × Obj)} {s : Shared} {σ : St} {H : Hp} {R : V → V → Hp → Prop} (I : Inv X pins σ H s)
    (h : ta σ H fun x H1 => tb σ H1 fun y H2 => R x y H2) {Q : Value → Shared → Prop} {f : Value → Value → Sem Value}
    (hf : ∀ v u s2 x y H2, Inv X pins σ H2 s2 → RelV x v → RelV y u → R x y H2 → wpAny (model X.prog X.w) X.A (f v u) Q X.xe s2) :
    wpAny (model X.prog X.w) X.A (eval a X.env) (fun v s₁ => wpAny (model X.prog X.w) X.A (eval b X.env) (fun u s₂ => wpAny (model X.prog X.w) X.A (f v u) Q X.xe s₂) X.xe s₁) X.xe s := by
  refine thn (ha pins s σ H _ I h) fun v s1 ⟨x, H1, I1, r1, q1⟩ => ?_
  refine thn (hb pins s1 σ H1 _ I1 q1) fun u s2 ⟨y, H2, I2, r2, q2⟩ => ?_
  exact hf v u s2 x y H2 I2 r1 r2 q2

theorem pe_op {op : Operator} {r : R2} (ho : OpR X (binaryOp op) r) (ha : PE X a ta) (hb : PE X b tb) : PE X (.BinOp a op b pos) (tOp r ta tb) := by
  intro pins s σ H Q I h
  exact wpAny_BinOp (binT ha hb I h fun v u s2 x y H2 I2 rx ry q => ho pins s2 σ H2 x y v u Q I2 rx ry q)
theorem pe_un {op : UnaryOp} {r : V → Hp → VK → Prop} (ho : UnR X (unaryOp op) r) (ha : PE X a ta) : PE X (.UnaryOp op a pos) (tUn r ta) := by
  intro pins s σ H Q I h
  exact UnaryOp_ (thn (ha pins s σ H _ I h) fun v s1 ⟨x, H1, I1, r1, q1⟩ => ho pins s1 σ H1 x v Q I1 r1 q1)
/-! ### ints -/
theorem opI {f : Value → Value → Sem Value} {C : Int → Int → Prop} {g : Int → Int → Int}
    (rule : ∀ (i j : Int) (t u : Tok) (s : Shared) (Q : Value → Shared → Prop) (E : Value → Shared → Prop), C i j → Q (.int (g i j) s.toks) { s with toks := s.toks + 1 } → wpAny (model X.prog X.w) X.A (f (.int i t) (.int j u)) Q E s) :
    OpR X f (rI C fun i j => .int (g i j)) := by
  intro pins s σ H x y v u Q I rx ry h
  obtain ⟨i, j, rfl, rfl, hc, q⟩ := h
  obtain ⟨t, rfl⟩ := rx
  obtain ⟨t', rfl⟩ := ry
  exact rule i j t t' s _ _ hc ⟨.int (g i j), H, I.tok _, ⟨_, rfl⟩, q⟩
theorem opI0 {f : Value → Value → Sem Value} {g : Int → Int → Int}
    (rule : ∀ (i j : Int) (t u : Tok) (s : Shared) (Q : Value → Shared → Prop) (E : Value → Shared → Prop), Q (.int (g i j) s.toks) { s with toks := s.toks + 1 } → wpAny (model X.prog X.w) X.A (f (.int i t) (.int j u)) Q E s) :
    OpR X f (rI0 fun i j => .int (g i j)) := by
  intro pins s σ H x y v u Q I rx ry h
  obtain ⟨i, j, rfl, rfl, q⟩ := h
  obtain ⟨t, rfl⟩ := rx
  obtain ⟨t', rfl⟩ := ry
  exact rule i j t t' s _ _ ⟨.int (g i j), H, I.tok _, ⟨_, rfl⟩, q⟩
theorem opB0 {f : Value → Value → Sem Value} {g : Int → Int → Bool}
    (rule : ∀ (i j : Int) (t u : Tok) (s : Shared) (Q : Value → Shared → Prop) (E : Value → Shared → Prop), Q (.bool (g i j)) s → wpAny (model X.prog X.w) X.A (f (.int i t) (.int j u)) Q E s) :
    OpR X f (rI0 fun i j => .bl (g i j)) := by
  intro pins s σ H x y v u Q I rx ry h
  obtain ⟨i, j, rfl, rfl, q⟩ := h
  obtain ⟨t, rfl⟩ := rx
  obtain ⟨t', rfl⟩ := ry
  exact rule i j t t' s _ _ ⟨.bl (g i j), H, I, rfl, q⟩

def CDiv (i j : Int) : Prop := 0 < j ∧ j < 1073741824
def CPow (i j : Int) : Prop := 0 ≤ j ∧ j ≤ 1000000 ∧ i.natAbs < 2 ^ 64
def CMul (i j : Int) : Prop := (-(2 ^ 64) < i ∧ i < 2 ^ 64) ∨ (-(2 ^ 64) < j ∧ j < 2 ^ 64)
theorem CMul.ok {i j : Int} (h : CMul i j) : IntMulOk i j := by
  rcases h with ⟨h1, h2⟩ | ⟨h1, h2⟩
  · exact .of_left (intBits_le_64 h1 h2)
  · exact .of_right (intBits_le_64 h1 h2)
theorem op_add : OpR X (binaryOp .Add) (rI0 fun i j => .int (i + j)) := opI0 fun _ _ _ _ _ _ _ q => add_int q
theorem op_sub : OpR X (binaryOp .Sub) (rI0 fun i j => .int (i - j)) := opI0 fun _ _ _ _ _ _ _ q => sub_int q
theorem op_mul : OpR X (binaryOp .Mult) (rI CMul fun i j => .int (i * j)) := opI fun _ _ _ _ _ _ _ hc q => mul_int q hc.ok
/-- // by a positive divisor -/
theorem op_fdiv : OpR X (binaryOp .FloorDiv) (rI CDiv fun i j => .int (i / j)) := opI fun i j _ _ _ _ _ hc q => by
  have h1 : (0 : Int) < j := hc.1
  have h2 : j < 1073741824 := hc.2
  exact floordiv_int (by omega) (by rw [Int.fdiv_eq_ediv_of_nonneg i (by omega)]; exact q) (.inl (PyProof.noPylong_small (by omega)))
/-- % by a positive divisor of any size -/
theorem op_mod : OpR X (binaryOp .Mod) (rI (fun _ j => 0 < j) fun i j => .int (i % j)) := opI fun i j _ _ _ _ _ hc q => by
  have h1 : (0 : Int) < j := hc
  exact mod_int' (by omega) (by rw [Int.fmod_eq_emod_of_nonneg i (by omega)]; exact q)
theorem op_modN : OpR X (binaryOp .Mod) (rI (fun _ j => j ≠ 0) fun i j => .int (i.fmod j)) := opI fun _ _ _ _ _ _ _ hc q => mod_int' hc q
theorem op_pow : OpR X (binaryOp .Pow) (rI CPow fun i j => .int (i ^ j.toNat)) := opI fun _ _ _ _ _ _ _ hc q => pow_int_small hc.1 hc.2.1 hc.2.2 q
theorem unI {f : Value → Sem Value} {g : Int → Int}
    (rule : ∀ (i : Int) (t : Tok) (s : Shared) (Q : Value → Shared → Prop) (E : Value → Shared → Prop), Q (.int (g i) s.toks) { s with toks := s.toks + 1 } → wpAny (model X.prog X.w) X.A (f (.int i t)) Q E s) :
    UnR X f (rU fun i => .int (g i)) := by
  intro pins s σ H x v Q I rx h
  obtain ⟨i, rfl, q⟩ := h
  obtain ⟨t, rfl⟩ := rx
  exact rule i t s _ _ ⟨.int (g i), H, I.tok _, ⟨_, rfl⟩, q⟩
theorem un_neg : UnR X (unaryOp .USub) (rU fun i => .int (-i)) := unI fun _ _ _ _ _ q => neg_int q
/-! ### bools among ints: n += (a < b) -/
end

/-! ### comparisons -/
/-- the scalars that == tells apart as data does -/
def scal : V → V → Bool
  | .non, .non => true | .non, .int _ => true | .int _, .non => true | .non, .bl _ => true | .bl _, .non => true | .non, .str _ => true | .str _, .non => true
  | .int _, .int _ => true | .bl _, .bl _ => true | .str _, .str _ => true | .byt _, .byt _ => true
  | .int _, .str _ => true | .str _, .int _ => true | .bl _, .str _ => true | .str _, .bl _ => true
  | _, _ => false
def rEq : R2 := fun x y H Q => scal x y = true ∧ Q (.bl (decide (x = y))) H
def rNe : R2 := fun x y H Q => scal x y = true ∧ Q (.bl (!decide (x = y))) H

theorem dec_int {i j : Int} : decide (V.int i = V.int j) = (i == j) := by
  rw [Bool.eq_iff_iff]
  simp
theorem dec_bl {i j : Bool} : decide (V.bl i = V.bl j) = (i == j) := by
  rw [Bool.eq_iff_iff]
  simp
theorem dec_str {i j : Str} : decide (V.str i = V.str j) = (i == j) := by
  rw [Bool.eq_iff_iff]
  simp
theorem dec_byt {i j : Array UInt8} : decide (V.byt i = V.byt j) = (i.toList == j.toList) := by
  rw [Bool.eq_iff_iff]
  cases i
  cases j
  simp

section
variable {X : Cx} {a b c : Expr} {ta tb tc : TE} {pos : Pos}
theorem fin_bl {pins : List (Addr × Obj)} {σ : St} {H : Hp} {s : Shared} {Q : VK} {k k' : Bool} (I : Inv X pins σ H s) (q : Q (.bl k) H) (e : k = k') : EP X pins σ Q (.bool k') s := by
  subst e
  exact ⟨.bl k, H, I, rfl, q⟩
theorem op_eq : OpR X (compareOp .Eq) rEq := by
  intro pins s σ H x y v u Q I rx ry h
  obtain ⟨hs, q⟩ := h
  cases x with
  | non =>
    cases rx
    cases y with
    | non => cases ry; exact PySem.EqNone.eq_none_none (fin_bl I q (by simp))
    | bl j => cases ry; exact PySem.EqNone.eq_none_bool (fin_bl I q (by simp))
    | int j => obtain ⟨t', rfl⟩ := ry; exact PySem.EqNone.eq_none_int (fin_bl I q (by simp))
    | str j => obtain ⟨t', rfl⟩ := ry; exact PySem.EqNone.eq_none_str (fin_bl I q (by simp))
    | _ => exact absurd (show false = true from hs) Bool.false_ne_true
  | bl i =>
    cases rx
    cases y with
    | non => cases ry; exact PySem.EqNone.eq_bool_none (fin_bl I q (by simp))
    | bl j => cases ry; exact eq_bool (fin_bl I q dec_bl)
    | str j => obtain ⟨t', rfl⟩ := ry; exact PySem.EqMixed.eq_bool_str (fin_bl I q (by simp))
    | _ => exact absurd (show false = true from hs) Bool.false_ne_true
  | int i =>
    obtain ⟨t, rfl⟩ := rx
    cases y with
    | non => cases ry; exact PySem.EqNone.eq_int_none (fin_bl I q (by simp))
    | int j => obtain ⟨t', rfl⟩ := ry; exact eq_int (fin_bl I q dec_int)
    | str j => obtain ⟨t', rfl⟩ := ry; exact PySem.EqMixed.eq_int_str (fin_bl I q (by simp))
    | _ => exact absurd (show false = true from hs) Bool.false_ne_true
  | str i =>
    obtain ⟨t, rfl⟩ := rx
    cases y with
    | non => cases ry; exact PySem.EqNone.eq_str_none (fin_bl I q (by simp))
    | bl j => cases ry; exact PySem.EqMixed.eq_str_bool (fin_bl I q (by simp))
    | int j => obtain ⟨t', rfl⟩ := ry; exact PySem.EqMixed.eq_str_int (fin_bl I q (by simp))
    | str j => obtain ⟨t', rfl⟩ := ry; exact eq_str (fin_bl I q dec_str)
    | _ => exact absurd (show false = true from hs) Bool.false_ne_true
  | byt i =>
    obtain ⟨t, rfl⟩ := rx
    cases y with
    | byt j => obtain ⟨t', rfl⟩ := ry; exact PySem.W.eq_bytes (fin_bl I q dec_byt)
    | _ => exact absurd (show false = true from hs) Bool.false_ne_true
  | _ => cases y <;> exact absurd (show false = true from hs) Bool.false_ne_true
theorem op_ne : OpR X (compareOp .NotEq) rNe := by
  intro pins s σ H x y v u Q I rx ry h
  obtain ⟨hs, q⟩ := h
  cases x with
  | non =>
    cases rx
    cases y with
    | non => cases ry; exact PySem.EqNone.ne_none_none (fin_bl I q (by simp))
    | bl j => cases ry; exact PySem.EqNone.ne_none_bool (fin_bl I q (by simp))
    | int j => obtain ⟨t', rfl⟩ := ry; exact PySem.EqNone.ne_none_int (fin_bl I q (by simp))
    | str j => obtain ⟨t', rfl⟩ := ry; exact PySem.EqNone.ne_none_str (fin_bl I q (by simp))
    | _ => exact absurd (show false = true from hs) Bool.false_ne_true
  | bl i =>
    cases rx
    cases y with
    | non => cases ry; exact PySem.EqNone.ne_bool_none (fin_bl I q (by simp))
    | bl j => cases ry; exact ne_bool (fin_bl I q (congrArg not dec_bl))
    | str j => obtain ⟨t', rfl⟩ := ry; exact PySem.EqMixed.ne_bool_str (fin_bl I q (by simp))
    | _ => exact absurd (show false = true from hs) Bool.false_ne_true
  | int i =>
    obtain ⟨t, rfl⟩ := rx
    cases y with
    | non => cases ry; exact PySem.EqNone.ne_int_none (fin_bl I q (by simp))
    | int j => obtain ⟨t', rfl⟩ := ry; exact ne_int (fin_bl I q (congrArg not dec_int))
    | str j => obtain ⟨t', rfl⟩ := ry; exact PySem.EqMixed.ne_int_str (fin_bl I q (by simp))
    | _ => exact absurd (show false = true from hs) Bool.false_ne_true
  | str i =>
    obtain ⟨t, rfl⟩ := rx
    cases y with
    | non => cases ry; exact PySem.EqNone.ne_str_none (fin_bl I q (by simp))
    | bl j => cases ry; exact PySem.EqMixed.ne_str_bool (fin_bl I q (by simp))
    | int j => obtain ⟨t', rfl⟩ := ry; exact PySem.EqMixed.ne_str_int (fin_bl I q (by simp))
    | str j => obtain ⟨t', rfl⟩ := ry; exact ne_str (fin_bl I q (congrArg not dec_str))
    | _ => exact absurd (show false = true from hs) Bool.false_ne_true
  | byt i =>
    obtain ⟨t, rfl⟩ := rx
    cases y with
    | byt j => obtain ⟨t', rfl⟩ := ry; exact PySem.W.ne_bytes (fin_bl I q (congrArg not dec_byt))
    | _ => exact absurd (show false = true from hs) Bool.false_ne_true
  | _ => cases y <;> exact absurd (show false = true from hs) Bool.false_ne_true

theorem op_lt : OpR X (compareOp .Lt) (rI0 fun i j => .bl (decide (i < j))) := opB0 fun _ _ _ _ _ _ _ q => lt_int q
theorem op_le : OpR X (compareOp .LtE) (rI0 fun i j => .bl (decide (i ≤ j))) := opB0 fun _ _ _ _ _ _ _ q => le_int q
theorem op_gt : OpR X (compareOp .Gt) (rI0 fun i j => .bl (decide (j < i))) := opB0 fun _ _ _ _ _ _ _ q => gt_int q
theorem op_ge : OpR X (compareOp .GtE) (rI0 fun i j => .bl (decide (j ≤ i))) := opB0 fun _ _ _ _ _ _ _ q => ge_int q
/-- two rules for one operation: by cases -/
theorem OpR.or {f : Value → Value → Sem Value} {r r' : R2} (h : OpR X f r) (h' : OpR X f r') : OpR X f (fun x y H Q => r x y H Q ∨ r' x y H Q) := by
  intro pins s σ H x y v u Q I rx ry q
  rcases q with q | q
  · exact h pins s σ H x y v u Q I rx ry q
  · exact h' pins s σ H x y v u Q I rx ry q

theorem nomark (b : Expr) {op : CmpOp} (h : op ≠ .In := by decide) (h2 : op ≠ .NotIn := by decide) : behindInMarks op b = false := by
  have e1 : (op == CmpOp.In) = false := by cases op <;> first | rfl | exact absurd rfl h
  have e2 : (op == CmpOp.NotIn) = false := by cases op <;> first | rfl | exact absurd rfl h2
  cases b <;> simp [behindInMarks, e1, e2]
/-- a comparison as a value; hm: nomark b, or (for in, not in) by with_unfolding_all rfl -/
theorem pe_cmpR {op : CmpOp} {r : R2} (ho : OpR X (compareOp op) r) (ha : PE X a ta) (hb : PE X b tb) (hm : behindInMarks op b = false) : PE X (.Compare a [op] [b] pos) (tOp r ta tb) := by
  intro pins s σ H Q I h
  exact wpAny_Compare1 (binT ha hb I h fun v u s2 x y H2 I2 rx ry q => ho pins s2 σ H2 x y v u Q I2 rx ry q) hm
/-- a reading of a value as a test -/
def tTest (t : TE) : TT := fun σ H Q => t σ H fun x H' => ∃ k, x = .bl k ∧ Q k H'
theorem pt_cmpR {op : CmpOp} {r : R2} (ho : OpR X (compareOp op) r) (ha : PE X a ta) (hb : PE X b tb) (hm : behindInMarks op b = false) : PT X (.Compare a [op] [b] pos) (tTest (tOp r ta tb)) := by
  intro pins s σ H Q I h
  refine wpAny_isTrue_Compare1 (thn (ha pins s σ H _ I h) fun v s1 ⟨x, H1, I1, r1, q1⟩ => thn (hb pins s1 σ H1 _ I1 q1) fun u s2 ⟨y, H2, I2, r2, q2⟩ =>
    thn (ho pins s2 σ H2 x y v u _ I2 r1 r2 q2) fun c s3 ⟨z, H3, I3, r3, k, e, q3⟩ => ?_) hm
  subst e
  cases r3
  exact wpAny_truthy_bool ⟨H3, I3, q3⟩
/-! ### truth -/
theorem line63 : (sizeLine : Nat) < 2 ^ 63 := by rw [sizeLine_eq]; decide
/-! ### strs and bytes -/
/-! ### scalar builtins, by CallR -/
theorem vals1 {x : V} {us : List Value} (r : Vals [x] us) : ∃ u, us = [u] ∧ RelV x u := by
  cases r with
  | cons r1 r2 => cases r2; exact ⟨_, rfl, r1⟩
theorem vals2 {x y : V} {us : List Value} (r : Vals [x, y] us) : ∃ u w', us = [u, w'] ∧ RelV x u ∧ RelV y w' := by
  cases r with
  | cons r1 r2 =>
    cases r2 with
    | cons r3 r4 => cases r4; exact ⟨_, _, rfl, r1, r3⟩
theorem call_abs : CallR X (.builtin "abs") (fun xs H Q => ∃ i, xs = [.int i] ∧ Q (.int (if i < 0 then -i else i)) H) := by
  intro pins s σ H xs us Q I r h
  obtain ⟨i, rfl, q⟩ := h
  obtain ⟨u, rfl, t, rfl⟩ := vals1 r
  exact call_abs_int fun u tk => ⟨.int (if i < 0 then -i else i), H, I.tok _, ⟨_, rfl⟩, q⟩
theorem call_int1 : CallR X (.type "int") (fun xs H Q => (∃ i, xs = [.int i] ∧ Q (.int i) H) ∨ ∃ k, xs = [.bl k] ∧ Q (.int (if k then 1 else 0)) H) := by
  intro pins s σ H xs us Q I r h
  rcases h with ⟨i, rfl, q⟩ | ⟨k, rfl, q⟩
  · obtain ⟨u, rfl, t, rfl⟩ := vals1 r
    exact call_int_int ⟨.int i, H, I, ⟨_, rfl⟩, q⟩
  · obtain ⟨u, rfl, r1⟩ := vals1 r
    cases r1
    exact call_int_bool ⟨.int (if k then 1 else 0), H, I.tok _, ⟨_, rfl⟩, q⟩
end
end L2

namespace L2
open PySem PySem.Spec PyProof.Rows

/-! ### an instance, its attributes a map -/
structure ObjM (h : Heap) (x dx C : Addr) (mA : Str → Option Value) : Prop where
  obj : h.get? x = some (PySem.W.instObj C dx)
  ns : h.Ns1 dx mA
  ne : dx ≠ x

theorem lookIn_ns {h : Heap} {dx : Addr} {mA : Str → Option Value} (n : h.Ns1 dx mA) : ∃ od, h.get? dx = some od ∧ ∀ name, PySem.W.lookIn name od = some (mA name) := by
  obtain ⟨o, es, ep, ho, hd, hk, _, hm⟩ := n
  refine ⟨o, ho, fun name => ?_⟩
  have e := hm name
  unfold nsFind findBy at e
  rw [← Array.find?_toList] at e
  unfold PySem.W.lookIn
  rw [hd]
  dsimp only
  split
  · rename_i y q
    rw [q] at e
    exact congrArg some e
  · rename_i q
    rw [q] at e
    have a : es.toList.any (·.refKey) = false := by
      rw [List.any_eq_false]
      intro y hy
      obtain ⟨z, t, hkey⟩ := hk y (Array.mem_toList_iff.mp hy)
      simp [DictEntry.refKey, hkey]
    have a' : ¬ es.toList.any (·.refKey) = true := by rw [a]; exact Bool.false_ne_true
    rw [if_neg a']
    exact congrArg some e

theorem ObjM.look {h : Heap} {x dx C : Addr} {mA : Str → Option Value} (I : ObjM h x dx C mA) : ∃ od, PySem.W.InstAt h x (PySem.W.instObj C dx) C (some od) ∧ ∀ name, PySem.W.lookIn name od = some (mA name) :=
  let ⟨od, ho, hl⟩ := lookIn_ns I.ns
  ⟨od, ⟨I.obj, rfl, rfl, ho⟩, hl⟩

section
variable {prog : Program} {w : World} {A : Around} {E : Value → Shared → Prop} {s : Shared} {K : PySem.W.Frag} {x dx C f : Addr} {mA : Str → Option Value} {name : Str} {v : Value}

theorem get_map {expr : Bool} {Q : Value → Shared → Prop} (X : K.In s.heap) (I : ObjM s.heap x dx C mA) (hg : PySem.W.plainGet K C name = true) (hh : PySem.W.hasDictIn K C = true)
    (ha : PySem.W.findIn K (.ref C) name = some none) (hv : mA name = some v) (hv' : PySem.W.handedIn v = true) (h : Q v { s with toks := s.toks + 1 }) :
    wpAny (model prog w) A (getAttr (.ref x) name expr) Q E s := by
  obtain ⟨od, J, hl⟩ := I.look
  exact PySem.W.get_value X J (PySem.W.plainGet_of hg).1 (PySem.W.findObj_own hh ha rfl (by rw [hl, hv])) hv' h

theorem get_meth {pl : Sem Bool} {Q : Value × List Value → Shared → Prop} (X : K.In s.heap) (I : ObjM s.heap x dx C mA) (hg : PySem.W.plainGet K C name = true)
    (hf : PySem.W.findIn K (.ref C) name = some (some (.ref f))) (ht : PySem.W.isFn K (.ref f) = true) (hv : mA name = none) (h : Q (.ref f, [.ref x]) s) :
    wpAny (model prog w) A (getMethod (.ref x) name pl) Q E s := by
  obtain ⟨od, J, hl⟩ := I.look
  exact PySem.W.method_fn X J (PySem.W.plainGet_of hg).1 (PySem.W.plainGet_of hg).2 hf (beq_iff_eq.mp ht) (by show (PySem.W.lookIn name od).map (·.isSome) = some false; rw [hl, hv]; rfl) h

theorem set_map {ns : List Str} {Q : Unit → Shared → Prop} (X : K.In s.heap) (I : ObjM s.heap x dx C mA)
    (hs : PySem.W.findIn K (.ref C) "__setattr__" = some (some (.builtin "object.__setattr__"))) (hp : PySem.W.plainOver K C = true) (ht : PySem.W.takerIn K C name = some none) (hh : PySem.W.hasDictIn K C = true)
    (hw : PySem.Within mA ns) (hsz : ns.length ≤ sizeLine)
    (h : ∀ h', ObjM h' x dx C (fun y => if y = name then some v else mA y) → Heap.SameBut dx s.heap h' → Q () { s with heap := h', toks := s.toks + 2 }) :
    wpAny (model prog w) A (setAttr (.ref x) name v) Q E s := by
  obtain ⟨od, J, hl⟩ := I.look
  refine PySem.W.set_plain X J hs (PySem.W.osa_open (s := { s with toks := s.toks + 1 }) (r := none) X J hp ht fun b => ?_)
  obtain ⟨cd, hc, hd'⟩ := PySem.W.any_some hh
  have hx : s.heap.get? x = some ⟨.ref C, some dx, .plain, #[]⟩ := I.obj
  refine wpAny_bind (wpAny_pure (wpAny_bind (wpAny_bind (wpAny_loadPart hx (wpAny_bind (PySem.W.Looks.here (s := { s with toks := s.toks + 1 }) (PySem.W.looks_clsIn X hc) ?_))))))
  rw [hd']
  refine wpAny_pure (a := some dx) (wpAny_bind (wpAny_pure (wpAny_bind ?_)))
  refine wpAny_nsSet1 (s := { s with toks := s.toks + 1 }) I.ns fun h' hn2 hs2 => ?_
  obtain ⟨oD, esD, epD, hoD, hdD, hcD⟩ := hn2.count (PySem.Within.cons name v hw)
  refine wpAny_bind (wpAny_lookBehind hoD (by rw [hdD]; exact pastItsLine_dict (Nat.le_trans hcD (by rw [List.length_cons]; omega))) ?_)
  exact wpAny_pure (h _ ⟨(hs2.2 _ (Ne.symm I.ne)).trans I.obj, hn2, I.ne⟩ hs2)

/-- C(..): the dict at the heap's end, the instance behind it; then its __init__ -/
theorem make_map {R : Result → Shared → Prop} {vs : List Value} {kw : List (Str × Value)} (X : K.In s.heap) (hm : PySem.W.makesIn K C = true)
    (hi : PySem.W.findIn K (.ref C) "__init__" = some (some (.ref f))) (hf : PySem.W.typeIn K (.ref f) = some (.type "function"))
    (h : codeAny (model prog w) (A.under (.builtin "type.__call__" ⟨.ref C :: vs, kw⟩)) (.call (.ref f) ⟨.ref (s.heap.objs.size + 1) :: vs, kw⟩) (PySem.W.InitBack (s.heap.objs.size + 1) R)
      { s with heap := (s.heap.push PySem.W.emptyDict).push (PySem.W.instObj C s.heap.objs.size) }) :
    codeAny (model prog w) A (.call (.ref C) ⟨vs, kw⟩) R s := by
  obtain ⟨hh, g, d, t, os⟩ := s
  exact PySem.W.make_core (PySem.W.makes_of X hm) (PySem.W.looks_findIn X hi) (fun self => PySem.W.bind_fn X self hf) (.inl rfl) h
/-- C() where there is no __init__ but object's -/
theorem make_map0 {R : Result → Shared → Prop} (X : K.In s.heap) (hm : PySem.W.makesIn K C = true)
    (hi : PySem.W.findIn K (.ref C) "__init__" = some (some (.builtin "object.__init__")))
    (hb : ∀ self, PySem.W.Looks (model prog w) s.heap (bindSpecial (.builtin "object.__init__") self) (.builtin "object.__init__", [self]))
    (h : codeAny (model prog w) (A.under (.builtin "type.__call__" ⟨[.ref C], []⟩)) (.call (.builtin "object.__init__") ⟨[.ref (s.heap.objs.size + 1)], []⟩) (PySem.W.InitBack (s.heap.objs.size + 1) R)
      { s with heap := (s.heap.push PySem.W.emptyDict).push (PySem.W.instObj C s.heap.objs.size) }) :
    codeAny (model prog w) A (.call (.ref C) ⟨[], []⟩) R s := by
  obtain ⟨hh, g, d, t, os⟩ := s
  exact PySem.W.make_core (PySem.W.makes_of X hm) (PySem.W.looks_findIn X hi) hb (.inr ⟨rfl, rfl⟩) h
end

/-! ### the attributes as a list of pairs -/
def putF (f : Str) (v : V) : List (Str × V) → List (Str × V)
  | [] => [(f, v)]
  | (g, x) :: r => if g = f then (g, v) :: r else (g, x) :: putF f v r
theorem lookup_putF (f g : Str) (v : V) : ∀ fs : List (Str × V), (putF f v fs).lookup g = if g = f then some v else fs.lookup g
  | [] => by
    show List.lookup g [(f, v)] = _
    by_cases h : g = f
    · have hb : (g == f) = true := beq_iff_eq.mpr h
      simp only [List.lookup, hb, if_pos h]
    · have hb : (g == f) = false := beq_eq_false_iff_ne.mpr h
      simp only [List.lookup, hb, if_neg h]
  | (k, x) :: r => by
    have ih := lookup_putF f g v r
    rw [show putF f v ((k, x) :: r) = (if k = f then (k, v) :: r else (k, x) :: putF f v r) from rfl]
    by_cases hk : k = f
    · rw [if_pos hk]
      by_cases h : g = k
      · have hb : (g == k) = true := beq_iff_eq.mpr h
        simp only [List.lookup, hb, if_pos (h.trans hk)]
      · have hb : (g == k) = false := beq_eq_false_iff_ne.mpr h
        simp only [List.lookup, hb, if_neg (fun e : g = f => h (e.trans hk.symm))]
    · rw [if_neg hk]
      by_cases h : g = k
      · have hb : (g == k) = true := beq_iff_eq.mpr h
        simp only [List.lookup, hb, if_neg (fun e : g = f => hk (h.symm.trans e))]
      · have hb : (g == k) = false := beq_eq_false_iff_ne.mpr h
        simp only [List.lookup, hb]
        exact ih
theorem keys_putF (f : Str) (v : V) : ∀ fs : List (Str × V), f ∈ (putF f v fs).map (·.1) ∧ ∀ g, g ∈ fs.map (·.1) → g ∈ (putF f v fs).map (·.1)
  | [] => ⟨by simp [putF], fun g h => by simp at h⟩
  | (k, x) :: r => by
    obtain ⟨i1, i2⟩ := keys_putF f v r
    rw [show putF f v ((k, x) :: r) = (if k = f then (k, v) :: r else (k, x) :: putF f v r) from rfl]
    by_cases hk : k = f
    · rw [if_pos hk]
      subst hk
      exact ⟨by simp, fun g h => by simpa using h⟩
    · rw [if_neg hk]
      refine ⟨?_, fun g h => ?_⟩
      · rw [List.map_cons]
        exact List.mem_cons_of_mem _ i1
      · rw [List.map_cons] at h ⊢
        rcases List.mem_cons.mp h with e | e
        · exact List.mem_cons.mpr (.inl e)
        · exact List.mem_cons_of_mem _ (i2 g e)
theorem length_putF (f : Str) (v : V) : ∀ fs : List (Str × V), (putF f v fs).length ≤ fs.length + 1
  | [] => by simp [putF]
  | (k, x) :: r => by
    have ih := length_putF f v r
    rw [show putF f v ((k, x) :: r) = (if k = f then (k, v) :: r else (k, x) :: putF f v r) from rfl]
    by_cases hk : k = f
    · rw [if_pos hk, List.length_cons, List.length_cons]; omega
    · rw [if_neg hk, List.length_cons, List.length_cons]; omega

theorem RelO.some_of {v : V} {o : Option Value} (r : RelO (some v) o) : ∃ u, o = some u ∧ RelV v u := by
  cases o with
  | none => exact (show False from r).elim
  | some u => exact ⟨u, rfl, r⟩
theorem RelO.none_of {o : Option Value} (r : RelO none o) : o = none := by
  cases o with
  | none => rfl
  | some u => exact (show False from r).elim
theorem handed_of {v : V} {u : Value} (r : RelV v u) : PySem.W.handedIn u = true := by
  cases v with
  | non => cases (show u = Value.none from r); rfl
  | bl b => cases (show u = Value.bool b from r); rfl
  | int i => obtain ⟨t, e⟩ := (show ∃ t, u = Value.int i t from r); cases e; rfl
  | str x => obtain ⟨t, e⟩ := (show ∃ t, u = Value.str x t from r); cases e; rfl
  | byt b => obtain ⟨t, e⟩ := (show ∃ t, u = Value.bytes b t from r); cases e; rfl
  | flt b => obtain ⟨t, e⟩ := (show ∃ t, u = Value.float b t from r); cases e; rfl
  | ref a => cases (show u = Value.ref a from r); rfl
  | ty n => cases (show u = Value.type n from r); rfl

section
variable {P : Program} {w : World} {H H' : Hp} {h h' : Heap} {a C dx : Addr} {fs fs' : List (Str × V)}
theorem ins_get (hok : HOk P w H h) (e : H a = some (.ins C dx fs)) : ∃ mA, ObjM h a dx C mA ∧ (∀ f, RelO (fs.lookup f) (mA f)) ∧ PySem.Within mA (fs.map (·.1)) ∧ fs.length ≤ 1000 ∧ H dx = some (.own a) := by
  obtain ⟨d, z, ne, ob, mA, n, r, q⟩ := (show ObjOk P w H h a (.ins C dx fs) from hok a _ e)
  exact ⟨mA, ⟨ob, n, ne⟩, r, q, z, d⟩
end

/-! ### what of the text a class must have -/
structure Cls (K : PySem.W.Frag) (C : Addr) : Prop where
  pg : PySem.W.plainGet K C Str.empty = true
  hd : PySem.W.hasDictIn K C = true
  po : PySem.W.plainOver K C = true
  sa : PySem.W.findIn K (.ref C) "__setattr__" = some (some (.builtin "object.__setattr__"))
theorem Cls.get {K : PySem.W.Frag} {C : Addr} (c : Cls K C) (f : Str) : PySem.W.plainGet K C f = true := c.pg
/-- no class of it has the name -/
def NoAttr (K : PySem.W.Frag) (C : Addr) (f : Str) : Prop := PySem.W.findIn K (.ref C) f = some none
theorem NoAttr.taker {K : PySem.W.Frag} {C : Addr} {f : Str} (n : NoAttr K C f) : PySem.W.takerIn K C f = some none := by
  unfold PySem.W.takerIn
  rw [show PySem.W.findIn K (.ref C) f = some none from n]
  rfl
/-- a constant of the class -/
structure Con (K : PySem.W.Frag) (C : Addr) (f : Str) (v : V) (u : Value) : Prop where
  at_ : PySem.W.findIn K (.ref C) f = some (some u)
  rel : RelV v u
  get : PySem.W.specialIn K u "__get__" = some none
  cp : PySem.W.copiedNames.contains f = false
/-- a method: a plain def of the class or of one above it -/
structure Meth (K : PySem.W.Frag) (C : Addr) (m : Str) (f : Addr) : Prop where
  at_ : PySem.W.findIn K (.ref C) m = some (some (.ref f))
  fn : PySem.W.isFn K (.ref f) = true
  kp : PySem.W.keepIn K (.ref f) = true

section
variable {X : Cx} {pins : List (Addr × Obj)} {σ : St} {H : Hp} {s : Shared} {a C dx : Addr} {fs : List (Str × V)} {f : Str} {v : V} {A : Around} {E : Value → Shared → Prop}

theorem getattr_ok {b : Bool} {Q : Value → Shared → Prop} (I : Inv X pins σ H s) (e : H a = some (.ins C dx fs)) (c : Cls X.K C) (n : NoAttr X.K C f) (l : fs.lookup f = some v)
    (h : ∀ u s', Inv X pins σ H s' → RelV v u → Q u s') : wpAny (model X.prog X.w) A (getAttr (.ref a) f b) Q E s := by
  obtain ⟨mA, O, r, _, _, _⟩ := ins_get I.hok e
  obtain ⟨u, hu, ru⟩ := RelO.some_of (v := v) (o := mA f) (by rw [← l]; exact r f)
  exact get_map I.kIn O (c.get f) c.hd n hu (handed_of ru) (h u _ (I.tok _) ru)

theorem getmeth_ok {m : Str} {g : Addr} {pl : Sem Bool} {Q : Value × List Value → Shared → Prop} (I : Inv X pins σ H s) (e : H a = some (.ins C dx fs)) (c : Cls X.K C) (k : Meth X.K C m g) (l : fs.lookup m = none)
    (h : Q (.ref g, [.ref a]) s) : wpAny (model X.prog X.w) A (getMethod (.ref a) m pl) Q E s := by
  obtain ⟨mA, O, r, _, _, _⟩ := ins_get I.hok e
  have hn : mA m = none := RelO.none_of (by rw [← l]; exact r m)
  exact get_meth I.kIn O (c.get m) k.at_ k.fn hn h

theorem setattr_ok {y : V} {u : Value} {Q : Unit → Shared → Prop} (I : Inv X pins σ H s) (e : H a = some (.ins C dx fs)) (c : Cls X.K C) (n : NoAttr X.K C f) (hl : fs.length < 1000) (ry : RelV y u)
    (h : ∀ s', Inv X pins σ (upd H a (.ins C dx (putF f y fs))) s' → Q () s') : wpAny (model X.prog X.w) A (setAttr (.ref a) f u) Q E s := by
  obtain ⟨mA, O, r, wi, _, ho⟩ := ins_get I.hok e
  have hz : (fs.map (·.1)).length ≤ sizeLine := by rw [List.length_map, sizeLine_eq]; omega
  refine set_map I.kIn O c.sa c.po n.taker c.hd wi hz fun h' O' sb => h _ ?_
  have hd : ∃ o, h'.get? dx = some o := let ⟨o, _, _, e', _⟩ := O'.ns; ⟨o, e'⟩
  refine I.write (x := a) (e := dx) (by rw [e]; exact True.intro) (.inr ho) (fun b q hb z => (sb.2 b hb).trans z) hd ?_
  refine ⟨by rw [upd_ne O.ne]; exact ho, ?_, O.ne, O'.obj, _, O'.ns, fun g => ?_, fun g hg => ?_⟩
  · have := length_putF f y fs; omega
  · show RelO ((putF f y fs).lookup g) (if g = f then some u else mA g)
    rw [lookup_putF]
    by_cases q : g = f
    · rw [if_pos q, if_pos q]; exact ry
    · rw [if_neg q, if_neg q]; exact r g
  · by_cases q : g = f
    · rw [q]; exact (keys_putF f y fs).1
    · refine (keys_putF f y fs).2 g (wi g fun z => hg ?_)
      show (if g = f then some u else mA g) = none
      rw [if_neg q]; exact z

/-- a new instance, tracked, without attributes -/
theorem Inv.made (I : Inv X pins σ H s) : Inv X pins σ (upd (upd H s.heap.objs.size (.own (s.heap.objs.size + 1))) (s.heap.objs.size + 1) (.ins C s.heap.objs.size []))
    { s with heap := (s.heap.push PySem.W.emptyDict).push (PySem.W.instObj C s.heap.objs.size) } := by
  have e1 : (s.heap.push PySem.W.emptyDict).get? s.heap.objs.size = some PySem.W.emptyDict := Heap.get?_push_size s.heap rfl
  have e2 : ((s.heap.push PySem.W.emptyDict).push (PySem.W.instObj C s.heap.objs.size)).get? (s.heap.objs.size + 1) = some (PySem.W.instObj C s.heap.objs.size) := by
    have := Heap.get?_push_size (s.heap.push PySem.W.emptyDict) (o := PySem.W.instObj C s.heap.objs.size) rfl
    rwa [Heap.size_push] at this
  have e3 : (s.heap.push PySem.W.emptyDict).Ns s.heap.objs.size (fun _ => none) := ⟨PySem.W.emptyDict, #[], _, e1, rfl, (fun e he => absurd he (by simp)), fun _ => rfl⟩
  have I1 := I.laid (a := s.heap.objs.size) (o := .own (s.heap.objs.size + 1)) (h' := s.heap.push PySem.W.emptyDict) (t' := s.toks) (fun b u q => Heap.get?_push_of_some _ q) (Nat.le_refl _) ⟨_, e1⟩
  refine I1.laid (a := s.heap.objs.size + 1) (o := .ins C s.heap.objs.size []) (t' := s.toks) (fun b u q => Heap.get?_push_of_some _ q) (Nat.le_of_eq (Heap.size_push _ _)) ?_
  have ne : s.heap.objs.size ≠ s.heap.objs.size + 1 := Nat.ne_of_lt (Nat.lt_succ_self _)
  refine ⟨by rw [upd_ne ne, upd_same], Nat.zero_le _, ne, e2, fun _ => none, (Heap.Ns1.of_empty e3).at fun o q => Heap.get?_push_of_some _ q, fun _ => True.intro, fun y hy => absurd rfl hy⟩

/-- e.f where nothing but the object is asked: through attributeBase (super) and the last hold -/
theorem attr_of {prog : Program} {w : World} {env : Env} {e : Expr} {f : Str} {pos : Pos} {s : Shared} {Q : Value → Shared → Prop} (hb : attributeBase e f env (eval e env) = eval e env)
    (h : wpAny (model prog w) A (eval e env) (fun o s₁ => wpAny (model prog w) A (getAttr o f true) Q E s₁) E s) : wpAny (model prog w) A (eval (.Attribute e f pos) env) Q E s :=
  Attribute_any_ h (by rw [arm_eval_Attribute, hb])
end

/-! ### readings and rules -/
/-- e.f, an attribute of the instance -/
def tFld (K : PySem.W.Frag) (ta : TE) (f : Str) : TE := fun σ H Q => ta σ H fun x H1 => ∃ a C dx fs v, x = .ref a ∧ H1 a = some (.ins C dx fs) ∧ Cls K C ∧ NoAttr K C f ∧ fs.lookup f = some v ∧ Q v H1
/-- e.f = value -/
def sFld (K : PySem.W.Frag) (ta tv : TE) (f : Str) : TS := fun D σ H => tv σ H fun y H1 => ta σ H1 fun x H2 => ∃ a C dx fs, x = .ref a ∧ H2 a = some (.ins C dx fs) ∧ Cls K C ∧ NoAttr K C f ∧ fs.length < 1000 ∧
  D.nx σ (upd H2 a (.ins C dx (putF f y fs)))
section
variable {X : Cx} {o e value : Expr} {f : Str} {pos pos' tpos : Pos} {ta tv : TE}
theorem pe_fld (he : PE X e ta) (hb : attributeBase e f X.env (eval e X.env) = eval e X.env) : PE X (.Attribute e f pos) (tFld X.K ta f) := by
  intro pins s σ H Q I h
  refine attr_of hb (thn (he pins s σ H _ I h) fun u s1 ⟨x, H1, I1, rx, a, C, dx, fs, v, ex, ea, c, n, l, q⟩ => ?_)
  subst ex
  obtain rfl : u = Value.ref a := rx
  exact getattr_ok I1 ea c n l fun u' s2 I2 ru => ⟨v, H1, I2, ru, q⟩
theorem ps_fld (ha : PE X o ta) (hv : PE X value tv) (hs : swapsWith value (some (.Attribute o f pos')) pos.line X.env = pure false) : PS X (.Assign [.Attribute o f pos'] value pos) (sFld X.K ta tv f) := by
  intro pins s σ H D I h
  refine plainObj_wpAny_Assign_Attribute (thn (hv pins s σ H _ I h) fun u s1 ⟨y, H1, I1, ry, q⟩ => thn (ha pins s1 σ H1 _ I1 q) fun ov s2 ⟨x, H2, I2, rx, a, C, dx, fs, ex, ea, c, n, l, q2⟩ => ?_) hs
  subst ex
  obtain rfl : ov = Value.ref a := rx
  exact setattr_ok I2 ea c n l ry fun s3 I3 => ⟨σ, _, I3, q2⟩
end

/-! ### isinstance -/
section
variable {X : Cx} {pins : List (Addr × Obj)} {σ : St} {H : Hp} {s : Shared} {A : Around} {E : Value → Shared → Prop} {Q : Value → Shared → Prop} {c : Value} {b : Bool}
/-- the type of a value, as the fragment's deciders take it; for an instance its class -/
inductive TyOf (K : PySem.W.Frag) (H : Hp) : V → Value → Prop where
  | non : TyOf K H .non (.type "NoneType")
  | bl (x : Bool) : TyOf K H (.bl x) (.type "bool")
  | int (i : Int) : TyOf K H (.int i) (.type "int")
  | str (x : Str) : TyOf K H (.str x) (.type "str")
  | flt (x : UInt64) : TyOf K H (.flt x) (.type "float")
  | lst {a : Addr} {xs : List V} (e : H a = some (.lst xs)) : TyOf K H (.ref a) (.type "list")
  | frz {a : Addr} {o : Obj} {xs : List V} (e : H a = some (.frz o (.lst xs))) : TyOf K H (.ref a) (.type "list")
  | tup {a : Addr} {xs : List V} (e : H a = some (.tup xs)) : TyOf K H (.ref a) (.type "tuple")
  | dK {a : Addr} {kvs : List (Key × V)} (e : H a = some (.dK kvs)) : TyOf K H (.ref a) (.type "dict")
  | dT {a : Addr} {kvs : List (List Key × V)} (e : H a = some (.dT kvs)) : TyOf K H (.ref a) (.type "dict")
  | ins {a C dx : Addr} {fs : List (Str × V)} (e : H a = some (.ins C dx fs)) (cl : Cls K C) (ha : PySem.W.findIn K (.ref C) "__class__" = some (some (.builtin "object.__class__")))
      (hn : PySem.W.specialIn K (.builtin "object.__class__") "__get__" = some (some (.builtin "getset_descriptor.__get__"))) (htk : PySem.W.takesIn K (.builtin "object.__class__") = some true)
      (hm : PySem.W.mroIn K C (.type "object") = some true) : TyOf K H (.ref a) (.ref C)
/-- isinstance(x, c) for one class c, a built-in or an own one: kitOne's answer -/
theorem isinst_ok {x : V} {u t : Value} (I : Inv X pins σ H s) (rx : RelV x u) (ty : TyOf X.K H x t) (e : PySem.W.kitOne X.K t c = some b) (h : ∀ tk, Q (.bool b) { s with toks := tk }) :
    wpAny (model X.prog X.w) A (call (.builtin "isinstance") [u, c]) Q E s := by
  cases ty with
  | non => cases (show u = Value.none from rx); exact PySem.W.kia_one PySem.W.kitx_none I.kIn True.intro e (fun z => nomatch z) h
  | bl y => cases (show u = Value.bool y from rx); exact PySem.W.kia_one PySem.W.kitx_bool I.kIn True.intro e (fun z => nomatch z) h
  | int i => obtain ⟨t, q⟩ := (show ∃ t, u = Value.int i t from rx); cases q; exact PySem.W.kia_one PySem.W.kitx_int I.kIn True.intro e (fun z => nomatch z) h
  | str y => obtain ⟨t, q⟩ := (show ∃ t, u = Value.str y t from rx); cases q; exact PySem.W.kia_one PySem.W.kitx_str I.kIn True.intro e (fun z => nomatch z) h
  | flt y => obtain ⟨t, q⟩ := (show ∃ t, u = Value.float y t from rx); cases q; exact PySem.W.kia_one PySem.W.kitx_float I.kIn True.intro e (fun z => nomatch z) h
  | @lst a xs ea =>
    cases (show u = Value.ref a from rx)
    obtain ⟨_, _, n, _, h1⟩ := (show ObjOk X.prog X.w H s.heap a (.lst xs) from I.hok a _ ea)
    exact PySem.W.kia_one PySem.W.kitx_list I.kIn ⟨_, h1, rfl⟩ e (fun z => nomatch z) h
  | @frz a ob xs ea =>
    cases (show u = Value.ref a from rx)
    obtain ⟨_, _, _, n, _, h1⟩ := (show ObjOk X.prog X.w H s.heap a (.frz ob (.lst xs)) from I.hok a _ ea)
    exact PySem.W.kia_one PySem.W.kitx_list I.kIn ⟨_, h1, rfl⟩ e (fun z => nomatch z) h
  | @tup a xs ea =>
    cases (show u = Value.ref a from rx)
    obtain ⟨_, _, _, p⟩ := (show ObjOk X.prog X.w H s.heap a (.tup xs) from I.hok a _ ea)
    obtain ⟨o, h1, h2, _⟩ := p
    exact PySem.W.kia_one PySem.W.kitx_tuple I.kIn ⟨o, h1, h2⟩ e (fun z => nomatch z) h
  | @dK a kvs ea =>
    cases (show u = Value.ref a from rx)
    obtain ⟨_, _, vs, _, p⟩ := (show ObjOk X.prog X.w H s.heap a (.dK kvs) from I.hok a _ ea)
    obtain ⟨o, es, ep, h1, h2, _⟩ := p
    exact PySem.W.kia_one PySem.W.kitx_dict I.kIn ⟨o, h1, h2.1⟩ e (fun z => nomatch z) h
  | @dT a kvs ea =>
    cases (show u = Value.ref a from rx)
    obtain ⟨_, _, xs, _, o, es, ep, h1, h2, _⟩ := (show ObjOk X.prog X.w H s.heap a (.dT kvs) from I.hok a _ ea)
    exact PySem.W.kia_one PySem.W.kitx_dict I.kIn ⟨o, h1, h2.1⟩ e (fun z => nomatch z) h
  | @ins a C dx fs ea cl ha hn htk hm =>
    cases (show u = Value.ref a from rx)
    obtain ⟨mA, O, _⟩ := ins_get I.hok ea
    obtain ⟨od, J, _⟩ := O.look
    exact PySem.W.kia_one (PySem.W.kitx_own (cl.get _) cl.hd ha hn htk hm) I.kIn J e (fun z => nomatch z) h
end
end L2

namespace L2
open PySem PySem.Spec PyProof.Rows

/-! ### room -/
structure Room (k : Nat) (A : Around) : Prop where
  hd : A.handled = none
  dp : A.depth + 3 * k + 5 < recursionLimit
  un : A.units + 16 * k + 200 < cLine
theorem Room.mono {j k : Nat} {A : Around} (r : Room k A) (h : j ≤ k) : Room j A := ⟨r.hd, by have := r.dp; omega, by have := r.un; omega⟩
theorem Room.deeper {k : Nat} {A : Around} (r : Room (k + 1) A) (env : Env) : Room k (A.deeper env) :=
  ⟨r.hd, by have := r.dp; show A.depth + 1 + 3 * k + 5 < _; omega, by have := r.un; show A.units + 3 + 16 * k + 200 < _; omega⟩
theorem Room.in1 {k : Nat} {A : Around} (r : Room (k + 1) A) : Room k A.in1 :=
  ⟨r.hd, by have := r.dp; show A.depth + 3 * k + 5 < _; omega, by have := r.un; show A.units + 1 + 16 * k + 200 < _; omega⟩
theorem make_depth {A : Around} {C : Addr} {us : List Value} {kw : List (Str × Value)} : (A.under (.builtin "type.__call__" ⟨.ref C :: us, kw⟩)).depth = A.depth + 1 := by
  first | rfl | simp [Around.under, Code.weight, Code.isCreation, Code.isGuard, Code.isCaller, Code.frames, Code.isFrame, guardIds]
theorem make_units {A : Around} {C : Addr} {us : List Value} {kw : List (Str × Value)} : (A.under (.builtin "type.__call__" ⟨.ref C :: us, kw⟩)).units = A.units + 1 := by
  first | rfl | simp [Around.under, Code.cUnits, Code.frames, Code.isFrame]
theorem Room.make {k : Nat} {A : Around} (r : Room (k + 1) A) (C : Addr) (us : List Value) (kw : List (Str × Value)) : Room k (A.under (.builtin "type.__call__" ⟨.ref C :: us, kw⟩)) :=
  ⟨r.hd, by have := r.dp; rw [make_depth]; omega, by have := r.un; rw [make_units]; omega⟩
theorem Room.depth {k : Nat} {A : Around} (r : Room k A) : A.depth < recursionLimit := by have := r.dp; omega
theorem Room.units {k : Nat} {A : Around} (r : Room k A) : A.units + 64 < cLine := by have := r.un; omega
/-! ### argument lists and displays -/
def tNil : TA := fun _ H Q => Q [] H
def tCons (ta : TE) (tr : TA) : TA := fun σ H Q => ta σ H fun x H1 => tr σ H1 fun xs H2 => Q (x :: xs) H2
section
variable {X : Cx} {e : Expr} {es : List Expr} {te : TE} {t : TA} {pos : Pos}
theorem pa_nil : PA X [] tNil := fun _ _ _ _ H Q I h => Calls.spliced_nil ⟨[], H, I, .nil, h⟩
theorem pa_cons (ha : PE X e te) (hr : PA X es t) (hs : starEach (e :: es) X.env = (false, eval e X.env) :: starEach es X.env := by rfl) : PA X (e :: es) (tCons te t) := by
  intro pos pins s σ H Q I h
  rw [hs]
  show wpAny _ _ (spliced ((false, eval e X.env) :: backTo pos (starEach es X.env))) _ _ s
  refine Calls.spliced_cons (thn (ha pins s σ H _ I h) fun u s1 ⟨x, H1, I1, r1, q1⟩ => ?_)
  exact thn (hr pos pins s1 σ H1 _ I1 q1) fun us s2 ⟨xs, H2, I2, r2, q2⟩ => ⟨x :: xs, H2, I2, .cons r1 r2, q2⟩

/-- a tuple, a list of written items -/
def tTup (t : TA) : TE := fun σ H Q => t σ H fun xs H1 => xs.length ≤ sizeLine ∧ ∀ p, H1 p = none → Q (.ref p) (upd H1 p (.tup xs))
def tLst (t : TA) : TE := fun σ H Q => t σ H fun xs H1 => xs.length ≤ sizeLine ∧ ∀ p, H1 p = none → Q (.ref p) (upd H1 p (.lst xs))
theorem pe_tup {x1} (h : PA X es t) : PE X (.Tuple es x1 pos) (tTup t) := by
  intro pins s σ H Q I hq
  refine wpAny_Tuple_spliced (thn (h pos pins s σ H _ I hq) fun us s1 ⟨xs, H1, I1, r, z, q⟩ => ⟨by rw [← r.length]; exact z, ?_⟩)
  have hf : H1 s1.heap.objs.size = none := I1.hok.fresh (Nat.le_refl _)
  refine ⟨.ref s1.heap.objs.size, upd H1 s1.heap.objs.size (.tup xs), I1.laid (t' := s1.toks) (fun b u e => Heap.get?_push_of_some _ e) (Nat.le_refl _) ?_, rfl, q _ hf⟩
  exact ⟨z, us, r, ⟨_, Heap.get?_push_size _ rfl, rfl, _, rfl⟩⟩
theorem pe_lst (h : PA X es t) : PE X (.List es pos) (tLst t) := by
  intro pins s σ H Q I hq
  refine wpAny_List_spliced (thn (h pos pins s σ H _ I hq) fun us s1 ⟨xs, H1, I1, r, z, q⟩ => ⟨by rw [← r.length]; exact z, ?_⟩)
  have hf : H1 s1.heap.objs.size = none := I1.hok.fresh (Nat.le_refl _)
  refine ⟨.ref s1.heap.objs.size, upd H1 s1.heap.objs.size (.lst xs), I1.laid (t' := s1.toks) (fun b u e => Heap.get?_push_of_some _ e) (Nat.le_refl _) ?_, rfl, q _ hf⟩
  exact ⟨z, us, 0, r, Heap.get?_push_size _ rfl⟩
end

/-! ### what a def promises -/
/-- a def's promise: the bound arguments in the parameters' order, the heap, the wanted end, the wanted exception -/
abbrev Sp := List V → Hp → VK → XK → Prop
/-- how an exception lies behind a call (file 08 gives it): the callers' frames, abstract heap and state ahead of the call, the wish, the exception, the state -/
abbrev CXT := List Env → Hp → Shared → XK → Value → Shared → Prop

/-- the state at a call -/
structure Env0 (P : Program) (w : World) (K : PySem.W.Frag) (mg : Str → Option Value) (base : Heap) (A : Around) (outer : List Env) (s : Shared) (H : Hp) : Prop where
  frames : A.frames = some outer
  mod : Mod K mg base
  bs : ∀ b o, base.get? b = some o → s.heap.get? b = some o ∧ H b = none
  bsz : base.objs.size ≤ s.heap.objs.size
  funs : s.heap.FunFrames base outer
  frf : ∀ b ∈ frs outer, H b = none
  hok : HOk P w H s.heap
  bare : AllBare s.gens
/-- a call's end -/
def CE (outer : List Env) (P : Program) (w : World) (H : Hp) (s : Shared) (Q : VK) (u : Value) (s' : Shared) : Prop :=
  ∃ v H', s'.os = s.os ∧ AllBare s'.gens ∧ Un (frs outer) [] H H' s.heap s'.heap ∧ HOk P w H' s'.heap ∧ RelV v u ∧ Q v H'
def CR (CX : CXT) (outer : List Env) (P : Program) (w : World) (H : Hp) (s : Shared) (Q : VK) (E : XK) (r : Result) (s' : Shared) : Prop :=
  match r with
  | .ok (.ret u) => CE outer P w H s Q u s'
  | .ok _ => False
  | .error e => CX outer H s E e s'
structure FnOk (P : Program) (w : World) (K : PySem.W.Frag) (mg : Str → Option Value) (base : Heap) (CX : CXT) (k : Nat) (f : Addr) (fd : FuncData) (ps : List Str) (sp : Sp) : Prop where
  len : ∀ vs H Q E, sp vs H Q E → vs.length = ps.length
  run : ∀ (A : Around) (outer : List Env) (s : Shared) (H : Hp) (args : Args) (us : List Value) (vs : List V) (Q : VK) (E : XK), Room k A → Env0 P w K mg base A outer s H → BindsTo s fd args (ps.zip us) → Vals vs us → sp vs H Q E →
    codeAny (model P w) A (.call (.ref f) args) (CR CX outer P w H s Q E) s
theorem FnOk.mono {P : Program} {w : World} {K : PySem.W.Frag} {mg : Str → Option Value} {base : Heap} {CX : CXT} {j k : Nat} {f : Addr} {fd : FuncData} {ps : List Str} {sp : Sp} (F : FnOk P w K mg base CX j f fd ps sp) (h : j ≤ k) :
    FnOk P w K mg base CX k f fd ps sp := ⟨F.len, fun A outer s H args us vs Q E hr => F.run A outer s H args us vs Q E (hr.mono h)⟩
theorem Env0.make {P : Program} {w : World} {K : PySem.W.Frag} {mg : Str → Option Value} {base : Heap} {A : Around} {outer : List Env} {s : Shared} {H : Hp} (e : Env0 P w K mg base A outer s H) (C : Addr) (us : List Value) (kw : List (Str × Value)) :
    Env0 P w K mg base (A.under (.builtin "type.__call__" ⟨.ref C :: us, kw⟩)) outer s H := ⟨by first | exact e.frames | (simpa [Around.under, Code.envs, Code.isFrame, pushEnvs] using e.frames), e.mod, e.bs, e.bsz, e.funs, e.frf, e.hok, e.bare⟩
theorem Env0.in1 {P : Program} {w : World} {K : PySem.W.Frag} {mg : Str → Option Value} {base : Heap} {A : Around} {outer : List Env} {s : Shared} {H : Hp} (e : Env0 P w K mg base A outer s H) :
    Env0 P w K mg base A.in1 outer s H := ⟨e.frames, e.mod, e.bs, e.bsz, e.funs, e.frf, e.hok, e.bare⟩

section
variable {X : Cx} {pins : List (Addr × Obj)} {σ : St} {H : Hp} {s s' : Shared}
/-- from a body: what a callee wants -/
theorem Inv.env0 (I : Inv X pins σ H s) : Env0 X.prog X.w X.K X.mg X.base X.A X.stack s H :=
  ⟨I.ok.frames, I.ok.mod, I.bs, Nat.le_trans I.ok.bsz I.sz, I.stack, I.stkFree, I.hok, I.bare⟩
/-- behind a call -/
theorem Inv.after {Q : VK} {u : Value} (I : Inv X pins σ H s) (h : CE X.stack X.prog X.w H s Q u s') : EP X pins σ Q u s' := by
  obtain ⟨v, H', os, bare, un, hok, r, q⟩ := h
  obtain ⟨hh, g, d, t, os'⟩ := s'
  obtain rfl : os' = s.os := os
  exact ⟨v, H', I.call (h' := hh) (g' := g) (d' := d) (t' := t) (ch := []) un hok bare (fun b z => absurd z (by simp)), r, q⟩
end

/-! ### calls -/
/-- f(..): the written arguments, then the defaults dvs; E: what is wanted of an exception -/
def tCall (sp : Sp) (dvs : List V) (E : XK) (t : TA) : TE := fun σ H Q => t σ H fun vs H1 => sp (vs ++ dvs) H1 Q E
/-- C(..): a new instance and its dict, then __init__ -/
def tMake (C : Addr) (sp : Sp) (dvs : List V) (E : XK) (t : TA) : TE := fun σ H Q => t σ H fun vs H1 => ∀ x dx, H1 x = none → H1 dx = none → dx ≠ x →
  sp (.ref x :: (vs ++ dvs)) (upd (upd H1 dx (.own x)) x (.ins C dx [])) (fun v H2 => v = .non ∧ Q (.ref x) H2) E

/-- how the parameters are bound: us the positional arguments, kw the keywords' values by name, ds the defaults that fill up -/
def Binds (K : PySem.W.Frag) (fd : FuncData) (ps : List Str) (ds : List Value) : Prop :=
  ∀ (s : Shared) (us : List Value), K.In s.heap → (us ++ ds).length = ps.length → BindsTo s fd ⟨us, []⟩ (ps.zip (us ++ ds))
/-- every parameter is given -/
theorem Binds.all {K : PySem.W.Frag} {fd : FuncData} {ps : List Str} (h : ∀ us : List Value, us.length = ps.length → bindArgs fd ⟨us, []⟩ = pure (ps.zip us)) : Binds K fd ps [] := fun s us _ hl => by
  rw [List.append_nil] at hl ⊢
  exact .of_eq (h us hl)

/-- an exception of a callee reaches what this body wants of exceptions -/
def Passes (CX : CXT) (X : Cx) (E : XK) : Prop := ∀ (pins : List (Addr × Obj)) (σ : St) (H : Hp) (s : Shared) (e : Value) (s' : Shared), Inv X pins σ H s → CX X.stack H s E e s' → X.xe e s'

section
variable {X : Cx} {CX : CXT} {k : Nat} {f C : Addr} {fd : FuncData} {ps : List Str} {sp : Sp} {dvs : List V} {ds : List Value} {E : XK} {x m : Str} {p pos apos : Pos} {e o : Expr} {es : List Expr} {ta : TE} {t : TA}

/-- the callee runs -/
theorem run_fn {pins : List (Addr × Obj)} {σ : St} {H : Hp} {s : Shared} {Q : VK} {us : List Value} {vs : List V} (F : FnOk X.prog X.w X.K X.mg X.base CX k f fd ps sp) (hr : Room k X.A) (hb : Binds X.K fd ps ds) (hd : Vals dvs ds) (hx : Passes CX X E)
    (I : Inv X pins σ H s) (r : Vals vs us) (h : sp (vs ++ dvs) H Q E) : wpAny (model X.prog X.w) X.A (call (.ref f) us) (EP X pins σ Q) X.xe s := by
  have r2 : Vals (vs ++ dvs) (us ++ ds) := r.append hd
  have hl : (us ++ ds).length = ps.length := by rw [← r2.length]; exact F.len _ _ _ _ h
  refine wpAny_call (codeAny_mono (F.run X.A X.stack s H ⟨us, []⟩ (us ++ ds) (vs ++ dvs) Q E hr I.env0 (hb s us I.kIn hl) r2 h) fun r s' hq => ?_)
  cases r with
  | error e => exact hx pins σ H s e s' I hq
  | ok fl =>
    cases fl with
    | ret u => exact I.after hq
    | next => exact False.elim hq
    | brk => exact False.elim hq
    | cont => exact False.elim hq

theorem pe_call (F : FnOk X.prog X.w X.K X.mg X.base CX k f fd ps sp) (hr : Room k X.A) (hg : Gl X x) (hm : X.mg x = some (.ref f)) (hk : PySem.W.keepIn X.K (.ref f) = true) (hb : Binds X.K fd ps ds) (hd : Vals dvs ds) (hx : Passes CX X E)
    (ha : PA X (e :: es) t) (hdb : (x == ("__debug__" : Str)) = false := by decide) (he : starEach (e :: es) X.env = (false, eval e X.env) :: starEach es X.env := by rfl) (hpl : (backTo pos (starEach es X.env)).any (·.1) = false := by rfl) :
    PE X (.Call (.Name x p) (e :: es) [] pos) (tCall sp dvs E t) := by
  intro pins s σ H Q I h
  refine wpAny_Call_Name_kw (ld_glob I hg hm ?_ hdb)
  refine PySem.W.callWith_K (h₀ := X.base) I.ok.mod.kin hk (thn (ha pos pins s σ H _ I h) fun us s1 ⟨vs, H1, I1, r, q⟩ => ⟨I1.kIn, ?_⟩) he hpl
  exact run_fn F hr hb hd hx I1 r q
/-- what a class must have to be made -/
structure Mk (K : PySem.W.Frag) (C f : Addr) : Prop where
  makes : PySem.W.makesIn K C = true
  init : PySem.W.findIn K (.ref C) "__init__" = some (some (.ref f))
  fn : PySem.W.isFn K (.ref f) = true
  kp : PySem.W.keepIn K (.ref C) = true

theorem run_make {pins : List (Addr × Obj)} {σ : St} {H : Hp} {s : Shared} {Q : VK} {us : List Value} {vs : List V} (M : Mk X.K C f) (F : FnOk X.prog X.w X.K X.mg X.base CX k f fd ps sp) (hr : Room (k + 1) X.A) (hb : Binds X.K fd ps ds) (hd : Vals dvs ds)
    (hx : Passes CX X E) (I : Inv X pins σ H s) (r : Vals vs us)
    (h : ∀ x dx, H x = none → H dx = none → dx ≠ x → sp (.ref x :: (vs ++ dvs)) (upd (upd H dx (.own x)) x (.ins C dx [])) (fun v H2 => v = .non ∧ Q (.ref x) H2) E) :
    wpAny (model X.prog X.w) X.A (call (.ref C) us) (EP X pins σ Q) X.xe s := by
  have hq := h (s.heap.objs.size + 1) s.heap.objs.size (I.hok.fresh (Nat.le_succ _)) (I.hok.fresh (Nat.le_refl _)) (Nat.ne_of_lt (Nat.lt_succ_self _))
  have I2 := Inv.made (C := C) I
  have r2 : Vals (V.ref (s.heap.objs.size + 1) :: (vs ++ dvs)) (Value.ref (s.heap.objs.size + 1) :: (us ++ ds)) := .cons rfl (r.append hd)
  have hl : (Value.ref (s.heap.objs.size + 1) :: us ++ ds).length = ps.length := by
    have e := r2.length
    rw [F.len _ _ _ _ hq] at e
    exact e.symm
  refine wpAny_call (make_map (f := f) I.kIn M.makes M.init (beq_iff_eq.mp M.fn) (codeAny_mono (F.run _ X.stack _ _ ⟨Value.ref (s.heap.objs.size + 1) :: us, []⟩ (Value.ref (s.heap.objs.size + 1) :: (us ++ ds)) _ _ E (hr.make C us [])
    (I2.env0.make C us []) (hb _ (Value.ref (s.heap.objs.size + 1) :: us) I2.kIn hl) r2 hq) fun r s' hq' => ?_))
  cases r with
  | error e => exact hx pins σ _ _ e s' I2 hq'
  | ok fl =>
    cases fl with
    | ret u =>
      obtain ⟨v, H', I3, rv, ev, q3⟩ := I2.after hq'
      subst ev
      exact ⟨rv, ⟨V.ref (s.heap.objs.size + 1), H', I3, rfl, q3⟩⟩
    | next => exact False.elim hq'
    | brk => exact False.elim hq'
    | cont => exact False.elim hq'
theorem pe_make (M : Mk X.K C f) (F : FnOk X.prog X.w X.K X.mg X.base CX k f fd ps sp) (hr : Room (k + 1) X.A) (hg : Gl X x) (hm : X.mg x = some (.ref C)) (hb : Binds X.K fd ps ds) (hd : Vals dvs ds) (hx : Passes CX X E)
    (ha : PA X (e :: es) t) (hdb : (x == ("__debug__" : Str)) = false := by decide) (he : starEach (e :: es) X.env = (false, eval e X.env) :: starEach es X.env := by rfl) (hpl : (backTo pos (starEach es X.env)).any (·.1) = false := by rfl) :
    PE X (.Call (.Name x p) (e :: es) [] pos) (tMake C sp dvs E t) := by
  intro pins s σ H Q I h
  refine wpAny_Call_Name_kw (ld_glob I hg hm ?_ hdb)
  refine PySem.W.callWith_K (h₀ := X.base) I.ok.mod.kin M.kp (thn (ha pos pins s σ H _ I h) fun us s1 ⟨vs, H1, I1, r, q⟩ => ⟨I1.kIn, ?_⟩) he hpl
  exact run_make M F hr hb hd hx I1 r q
end

/-! ### keywords -/
/-- the values of the keywords, from the left -/
def PK (X : Cx) (kws : List Keyword) (t : TA) : Prop :=
  ∀ (pos : Pos) (pins : List (Addr × Obj)) (s : Shared) (σ : St) (H : Hp) (Q : List V → Hp → Prop), Inv X pins σ H s → t σ H Q → wpAny (model X.prog X.w) X.A (evalAll ((backToKw pos (keywordEach kws X.env)).map (·.2))) (AP X pins σ Q) X.xe s
section
variable {X : Cx} {CX : CXT} {k : Nat} {f C : Addr} {fd : FuncData} {ps ks : List Str} {sp : Sp} {E : XK} {x m : Str} {p pos apos kpos : Pos} {e o : Expr} {es : List Expr} {kws : List Keyword} {te ta : TE} {t tk : TA} {nm : Option Str}
/-- how a call with keywords binds: g puts the positional values us and the keywords' values ws (names ks) in the parameters' order, defaults among them -/
structure KBinds (K : PySem.W.Frag) (fd : FuncData) (ps ks : List Str) (g : List Value → List Value → List Value) (gV : List V → List V → List V) : Prop where
  to : ∀ (s : Shared) (us ws : List Value), K.In s.heap → (g us ws).length = ps.length → BindsTo s fd ⟨us, ks.zip ws⟩ (ps.zip (g us ws))
  rel : ∀ {vs : List V} {us : List Value} {zs : List V} {ws : List Value}, Vals vs us → Vals zs ws → Vals (gV vs zs) (g us ws)
variable {g : List Value → List Value → List Value} {gV : List V → List V → List V}
end

/-! ### a def's body keeps its promise -/
/-- names: the parameters first -/
structure FnScope (N P : List Str) (sc : Scope) : Prop where
  kind : sc.kind = .function
  co : sc.isCoroutine = false
  gen : sc.isGenerator = false
  nd : N.Nodup
  pre : N.take P.length = P
  par : ∀ x ∈ P, sc.names.lookup x = some .local ∨ sc.names.lookup x = some .cell
  nofree : ∀ y ∈ sc.names, y.2 ≠ .free

theorem bindL_out {kindOf : Str → Option NameKind} {x : Str} : ∀ {binds : List (Str × Value)} {m : Str → Option Value}, (∀ v, (x, v) ∉ binds) → bindL kindOf binds m x = m x
  | [], _, _ => rfl
  | (n, v) :: r, m, h => by
    unfold bindL
    rw [bindL_out fun w hw => h w (List.mem_cons_of_mem _ hw)]
    split
    · have : x ≠ n := by rintro rfl; exact h v List.mem_cons_self
      simp [this]
    · rfl
theorem bindC_out {kindOf : Str → Option NameKind} {x : Str} : ∀ {binds : List (Str × Value)} {m : Str → Option Value}, (∀ v, (x, v) ∉ binds) → bindC kindOf binds m x = m x
  | [], _, _ => rfl
  | (n, v) :: r, m, h => by
    unfold bindC
    rw [bindC_out fun w hw => h w (List.mem_cons_of_mem _ hw)]
    split
    · rfl
    · have : x ≠ n := by rintro rfl; exact h v List.mem_cons_self
      simp [this]
theorem bindL_get {kindOf : Str → Option NameKind} {x : Str} {v : Value} : ∀ {P : List Str} {vs : List Value} {i : Nat} {m : Str → Option Value}, P.Nodup → P[i]? = some x → vs[i]? = some v → kindOf x = some .local →
    bindL kindOf (P.zip vs) m x = some v
  | [], _, _, _, _, h, _, _ => by simp at h
  | _ :: _, [], _, _, _, _, h, _ => by simp at h
  | p :: P, w :: vs, 0, m, nd, h1, h2, hk => by
    simp at h1 h2; subst h1; subst h2
    show bindL kindOf ((p, w) :: P.zip vs) m p = _
    unfold bindL
    rw [bindL_out fun v hv => (List.nodup_cons.mp nd).1 (List.of_mem_zip hv).1, if_pos hk]
    simp
  | p :: P, w :: vs, i + 1, m, nd, h1, h2, hk => by
    show bindL kindOf ((p, w) :: P.zip vs) m x = _
    unfold bindL
    exact bindL_get (i := i) (List.nodup_cons.mp nd).2 (by simpa using h1) (by simpa using h2) hk
theorem bindC_get {kindOf : Str → Option NameKind} {x : Str} {v : Value} : ∀ {P : List Str} {vs : List Value} {i : Nat} {m : Str → Option Value}, P.Nodup → P[i]? = some x → vs[i]? = some v → kindOf x ≠ some .local →
    bindC kindOf (P.zip vs) m x = some v
  | [], _, _, _, _, h, _, _ => by simp at h
  | _ :: _, [], _, _, _, _, h, _ => by simp at h
  | p :: P, w :: vs, 0, m, nd, h1, h2, hk => by
    simp at h1 h2; subst h1; subst h2
    show bindC kindOf ((p, w) :: P.zip vs) m p = _
    unfold bindC
    rw [bindC_out fun v hv => (List.nodup_cons.mp nd).1 (List.of_mem_zip hv).1, if_neg hk]
    simp
  | p :: P, w :: vs, i + 1, m, nd, h1, h2, hk => by
    show bindC kindOf ((p, w) :: P.zip vs) m x = _
    unfold bindC
    exact bindC_get (i := i) (List.nodup_cons.mp nd).2 (by simpa using h1) (by simpa using h2) hk

/-- the names' values at the entry -/
def start (N : List Str) (vs : List V) : St := vs.map some ++ List.replicate (N.length - vs.length) none

/-- the context of a def's body, at its entry; an exception leaves the frame, then lies as CX says -/
def cxOf (CX : CXT) (P : Program) (w : World) (K : PySem.W.Frag) (mg : Str → Option Value) (base : Heap) (N : List Str) (qual : Str) (scope : Scope) (f : Addr) (cd : Value) (A : Around) (outer : List Env) (s : Shared) (H : Hp) (E : XK) : Cx where
  prog := P
  w := w
  K := K
  mg := mg
  base := base
  A := A.deeper (envOfC qual scope s.heap.objs.size f cd)
  N := N
  s₀ := s
  H₀ := H
  env := envOfC qual scope s.heap.objs.size f cd
  outer := outer
  stack := envOfC qual scope s.heap.objs.size f cd :: outer
  ex := []
  calm := true
  fn := fun _ => true
  pn := []
  xe := fun e s' => wpAny (model P w) (A.deeper (envOfC qual scope s.heap.objs.size f cd)) (leaving (envOfC qual scope s.heap.objs.size f cd) e) (fun _ s'' => CX outer H s E e s'') (fun e' s'' => CX outer H s E e' s'') s'

theorem cell_has {sc : Scope} {n : Nat} {x : Str} (h : sc.names.lookup x = some .cell) : ∃ c, (cellsFrom n sc.names []).lookup x = some c := by
  have q := PySem.W.cellsFrom_some sc.names n [] (.inl h)
  exact Option.isSome_iff_exists.mp q

theorem inv_start {CX : CXT} {P : Program} {w : World} {K : PySem.W.Frag} {mg : Str → Option Value} {base : Heap} {N ps : List Str} {qual : Str} {scope : Scope} {f : Addr} {cd : Value} {A : Around} {outer : List Env} {s s1 : Shared} {H : Hp} {E : XK} {us : List Value} {vs : List V}
    (S : FnScope N ps scope) (hd : A.handled = none) (e0 : Env0 P w K mg base A outer s H) (hl : vs.length = ps.length) (r : Vals vs us)
    (x : InCallC s s.heap.objs.size (bindL (envOfC qual scope s.heap.objs.size f cd).kindOf (ps.zip us) fun _ => none) (cellsFrom (s.heap.objs.size + 1) scope.names []) (bindC (envOfC qual scope s.heap.objs.size f cd).kindOf (ps.zip us) fun _ => none) s1) :
    Inv (cxOf CX P w K mg base N qual scope f cd A outer s H E) [] (start N vs) H s1 := by
  have hpl : ps.length ≤ N.length := by have := congrArg List.length S.pre; rw [List.length_take] at this; omega
  obtain ⟨h1, tk, rfl, hk⟩ := x.done
  have noA : ∀ b : Addr, b ∉ (cxOf CX P w K mg base N qual scope f cd A outer s H E).ex := fun b z => absurd (show b ∈ ([] : List Addr) from z) (by simp)
  refine ⟨⟨e0.mod, S.kind, rfl, rfl, Nat.le_refl _, fun y z c h1 h2 => ?_, fun y hy => ?_, fun y c _ h => ?_, fun _ => hd, Around.frames_deeper e0.frames, .inr ⟨rfl, rfl⟩, fun b z => absurd z (noA b), e0.bs, e0.bsz, fun b _ _ => noA b, fun b z => absurd z (noA b), e0.funs, e0.frf⟩,
    rfl, e0.bare, Un.kept hk, ⟨_, x.toInCall.ns, fun i y v h1 h2 h3 => ?_⟩, fun y c h => ⟨_, x.cell y c h⟩, e0.hok.fresh (Nat.le_refl _), fun y c h => ?_, fun p hp => absurd (show p ∈ ([] : List (Addr × Obj)) from hp) (by simp), e0.hok.kept hk, ?_⟩
  · exact name_of_addr x.apart (PySem.mem_of_lookup h1) (PySem.mem_of_lookup h2)
  · have hy : scope.names.lookup y = some .cell ∨ scope.names.lookup y = some .free := hy
    rcases hy with hy | hy
    · exact cell_has hy
    · exact absurd rfl (S.nofree _ (PySem.mem_of_lookup hy))
  · exact Nat.le_of_lt (x.above y c (PySem.mem_of_lookup h))
  · have hi : i < vs.length := by
      unfold start at h2
      by_cases hi : i < vs.length
      · exact hi
      · rw [List.getElem?_append_right (by simpa using hi)] at h2
        rw [List.getElem?_replicate] at h2
        split at h2 <;> cases h2
    have ha : vs[i]? = some v := by
      unfold start at h2
      rw [List.getElem?_append_left (by simpa using hi), List.getElem?_map] at h2
      cases e : vs[i]? with
      | none => rw [e] at h2; cases h2
      | some a => rw [e] at h2; cases h2; rfl
    obtain ⟨u, hu, rv⟩ := r.get ha
    have hp : ps[i]? = some y := by
      rw [← S.pre, List.getElem?_take_of_lt (by omega)]; exact h1
    have ndP : ps.Nodup := by rw [← S.pre]; exact S.nd.sublist (List.take_sublist _ _)
    refine ⟨u, rv, ?_⟩
    rcases S.par y (List.mem_of_getElem? hp) with k | k
    · exact .inl ⟨k, bindL_get ndP hp hu k⟩
    · obtain ⟨c, e⟩ := cell_has (n := s.heap.objs.size + 1) k
      refine .inr ⟨.inl k, c, e, ?_⟩
      have q := x.cell y c e
      rw [bindC_get ndP hp hu (by show scope.names.lookup y ≠ _; rw [k]; decide)] at q
      exact q
  · exact e0.hok.fresh (Nat.le_of_lt (x.above y c (PySem.mem_of_lookup h)))
  · unfold start
    show _ = N.length
    rw [List.length_append, List.length_map, List.length_replicate]
    omega

/-- THE RULE: a def (or a method) of the text, by its body. The body's reading t is chosen for each entry; it is run at the parameters' values -/
theorem fn_of {CX : CXT} {P : Program} {w : World} {K : PySem.W.Frag} {mg : Str → Option Value} {base : Heap} {k : Nat} {f : Addr} {name qual : Str} {params : Arguments} {body : List Stmt} {scope : Scope} {dV kV doc pm cdv ct oc : Value} {an od : Option Addr}
    {osl : Array (Option Value)} {N ps : List Str} {sp : Sp} (lk : K.lookup f = some ⟨oc, od, .func (PySem.W.fnOf name qual params body scope dV kV doc pm an cdv ct), osl⟩) (hcd : PySem.W.codeIn K cdv qual = true) (S : FnScope N ps scope)
    (len : ∀ vs H Q E, sp vs H Q E → vs.length = ps.length)
    (hbody : ∀ (A : Around) (outer : List Env) (s : Shared) (H : Hp) (vs : List V) (Q : VK) (E : XK), Room k (A.deeper (envOfC qual scope s.heap.objs.size f cdv)) → sp vs H Q E →
      ∃ t, PSs (cxOf CX P w K mg base N qual scope f cdv A outer s H E) body t ∧ t { nx := fun _ H' => Q .non H', rt := Q } (start N vs) H) :
    FnOk P w K mg base CX (k + 1) f (PySem.W.fnOf name qual params body scope dV kV doc pm an cdv ct) ps sp := by
  refine ⟨len, fun A outer s H args us vs Q E hr e0 hb r hsp => ?_⟩
  have hl := len _ _ _ _ hsp
  have KX : K.In s.heap := e0.mod.kin.keeps fun b o e => (e0.bs b o e).1
  have lim : s.heap.NoLimit := e0.mod.nolimit.keeps fun b o e => (e0.bs b o e).1
  have hkind : ∀ y ∈ ps.zip us, scope.names.lookup y.1 = some .local ∨ (scope.names.lookup y.1 = some .cell ∧ ((cellsFrom (s.heap.objs.size + 1) scope.names []).lookup y.1).isSome = true) := fun ⟨n, v⟩ hy => by
    rcases S.par n (List.of_mem_zip hy).1 with q | q
    · exact .inl q
    · exact .inr ⟨q, PySem.W.cellsFrom_some _ _ _ (.inl q)⟩
  refine codeAny_call_function hr.depth (KX _ _ lk) rfl S.co S.gen rfl (PySem.W.codeRec_of KX hcd) (hb _ _ _ _ ?_)
  refine wpAny_newFunctionEnv_cells S.kind hkind fun env he s1 x => ?_
  subst he
  refine ⟨lim.keeps x.toInCall.keep, codeAny_func ?_⟩
  obtain ⟨t, ht, hq⟩ := hbody A outer s H vs Q E (hr.deeper _) hsp
  have I : Inv (cxOf CX P w K mg base N qual scope f cdv A outer s H E) [] (start N vs) H s1 := inv_start S hr.hd e0 hl r x
  refine wpAny_mono (ht [] s1 (start N vs) H _ I hq) (fun fl s' hs => ?_) fun e s' hs => hs
  have fin : ∀ {σ' : St} {H' : Hp} {v : V} {u : Value}, Inv (cxOf CX P w K mg base N qual scope f cdv A outer s H E) [] σ' H' s' → RelV v u → Q v H' → CE outer P w H s Q u s' :=
    fun {σ' H' v u} J rv q => ⟨v, H', J.os, J.bare, J.base, J.hok, rv, q⟩
  cases fl with
  | ret u =>
    obtain ⟨v, σ', H', J, rv, q⟩ := hs
    exact fin J rv q
  | next =>
    obtain ⟨σ', H', J, q⟩ := hs
    exact fin (v := V.non) (u := Value.none) J rfl q
  | brk =>
    obtain ⟨_, _, _, q⟩ := hs
    exact False.elim q
  | cont =>
    obtain ⟨_, _, _, q⟩ := hs
    exact False.elim q
end L2

namespace L2
open PySem PySem.Spec PyProof.Rows
section
variable {X : Cx} {x : Str} {p pos : Pos} {e : Expr} {es : List Expr} {t : TA} {id T : String} {r : List V → Hp → VK → Prop}

def tCB (r : List V → Hp → VK → Prop) (t : TA) : TE := fun σ H Q => t σ H fun vs H1 => r vs H1 Q
/-- f(e, ..), f a built-in function -/
theorem pe_callB (hc : CallR X (.builtin id) r) (hg : Gl X x) (hm : X.mg x = none) (hv : bootBuiltins x = some (.builtin id)) (ha : PA X (e :: es) t) (hn : x ≠ "__name__" := by decide) (hdb : (x == ("__debug__" : Str)) = false := by decide)
    (he : starEach (e :: es) X.env = (false, eval e X.env) :: starEach es X.env := by rfl) (hpl : (backTo pos (starEach es X.env)).any (·.1) = false := by rfl) : PE X (.Call (.Name x p) (e :: es) [] pos) (tCB r t) := by
  intro pins s σ H Q I h
  refine wpAny_Call_Name_kw (ld_blt I hg hm hv ?_ hn hdb)
  exact PyProof.Rows.callWith_builtin1 (thn (ha pos pins s σ H _ I h) fun us s1 ⟨vs, H1, I1, r1, q1⟩ => hc pins s1 σ H1 vs us Q I1 r1 q1) he hpl
/-- T(e, ..), T a built-in type -/
theorem pe_callTy (hc : CallR X (.type T) r) (hg : Gl X x) (hm : X.mg x = none) (hv : bootBuiltins x = some (.type T)) (ha : PA X (e :: es) t) (hn : x ≠ "__name__" := by decide) (hdb : (x == ("__debug__" : Str)) = false := by decide)
    (he : starEach (e :: es) X.env = (false, eval e X.env) :: starEach es X.env := by rfl) (hpl : (backTo pos (starEach es X.env)).any (·.1) = false := by rfl) : PE X (.Call (.Name x p) (e :: es) [] pos) (tCB r t) := by
  intro pins s σ H Q I h
  refine wpAny_Call_Name_kw (ld_blt I hg hm hv ?_ hn hdb)
  exact PyProof.Rows.callWith_type1 (thn (ha pos pins s σ H _ I h) fun us s1 ⟨vs, H1, I1, r1, q1⟩ => hc pins s1 σ H1 vs us Q I1 r1 q1) he hpl
end
end L2

namespace HT
open PySem PyProof.Rows

section
open PySem.SeqAt
open PySem.AutoSeq1 (wpAny_loadPart')
open PySem.MeetsSeq PySem.MeetsSeq2 PySem.MeetsSeq3

end

section
variable {prog : Program} {w : World} {A : Around} {E : Value → Shared → Prop} {s : Shared}

/-! ### t[a:b], not the whole -/
/-- a slice's bound as a place among n (d where it is left out) -/
def sIx (n d : Nat) : Option Int → Nat
  | none => d
  | some v => if v < 0 then (v + (n : Int)).toNat else min v.toNat n
theorem sIx_none (n d : Nat) : sIx n d none = d := rfl
theorem sIx_nat (n d k : Nat) : sIx n d (some (k : Int)) = min k n := by
  show (if (k : Int) < 0 then ((k : Int) + (n : Int)).toNat else min (k : Int).toNat n) = min k n
  rw [if_neg (by omega), Int.toNat_natCast]
end
end HT

namespace L2
open PySem PySem.Spec PyProof.Rows

/-! ### the parts of a slice -/
abbrev TO := St → Hp → (Option Int → Hp → Prop) → Prop
/-- a slice's part (left out, or an int) -/
def PO (X : Cx) (e : Option Expr) (t : TO) : Prop :=
  ∀ (pins : List (Addr × Obj)) (s : Shared) (σ : St) (H : Hp) (Q : Option Int → Hp → Prop), Inv X pins σ H s → t σ H Q →
    wpAny (model X.prog X.w) X.A (evalPart e X.env) (fun u s' => ∃ o H', Inv X pins σ H' s' ∧ IsPart u o ∧ Q o H') X.xe s
def tNoPart : TO := fun _ H Q => Q none H
def tPart (t : TE) : TO := fun σ H Q => t σ H fun x H1 => ∃ i, x = .int i ∧ Q (some i) H1

section
variable {X : Cx} {e : Expr} {te : TE} {lo hi : Option Expr} {tl th : TO} {pos p2 : Pos}

theorem po_none : PO X none tNoPart := by
  intro pins s σ H Q I h
  rw [evalPart_none]
  exact wpAny_pure ⟨none, H, I, .none, h⟩
theorem po_some (h : PE X e te) : PO X (some e) (tPart te) := by
  intro pins s σ H Q I hw
  rw [evalPart_some]
  refine thn (h pins s σ H _ I hw) fun u s1 ⟨x, H1, I1, r1, q1⟩ => ?_
  obtain ⟨i, rfl, q⟩ := q1
  obtain ⟨t, rfl⟩ := r1
  exact ⟨some i, H1, I1, .int i t, q⟩

/-- what a slice of a value is, by values: the slice object stands at sl -/
def SlR (X : Cx) (r : V → Option Int → Option Int → Hp → VK → Prop) : Prop :=
  ∀ (pins : List (Addr × Obj)) (s : Shared) (σ : St) (H : Hp) (x : V) (v vl vu : Value) (lo hi : Option Int) (sl : Addr) (Q : VK), Inv X pins σ H s → RelV x v → s.heap.IsSliceOf sl vl vu .none → IsPart vl lo → IsPart vu hi → r x lo hi H Q →
    ∃ T id, typeLookup (.type T) "__getitem__" = pure (some (.builtin id)) ∧ s.TypeIs v T ∧ wpAny (model X.prog X.w) X.A (getItem v (.ref sl)) (EP X pins σ Q) X.xe s
theorem SlR.or {r r' : V → Option Int → Option Int → Hp → VK → Prop} (h : SlR X r) (h' : SlR X r') : SlR X (fun x lo hi H Q => r x lo hi H Q ∨ r' x lo hi H Q) := by
  intro pins s σ H x v vl vu lo hi sl Q I rx hs pl pu q
  rcases q with q | q
  · exact h pins s σ H x v vl vu lo hi sl Q I rx hs pl pu q
  · exact h' pins s σ H x v vl vu lo hi sl Q I rx hs pl pu q
def tSl (r : V → Option Int → Option Int → Hp → VK → Prop) (te : TE) (tl th : TO) : TE := fun σ H Q => te σ H fun x H1 => tl σ H1 fun l H2 => th σ H2 fun u H3 => r x l u H3 Q
/-- a[lo:hi], any a -/
theorem pe_slice {r : V → Option Int → Option Int → Hp → VK → Prop} (hr : SlR X r) (he : PE X e te) (hl : PO X lo tl) (hu : PO X hi th) : PE X (.Subscript e (.Slice lo hi none p2) pos) (tSl r te tl th) := by
  intro pins s σ H Q I h
  refine Subscript_ (thn (he pins s σ H _ I h) fun v s1 ⟨x, H1, I1, r1, q1⟩ => ?_)
  refine wpAny_Slice (thn (hl pins s1 σ H1 _ I1 q1) fun vl s2 ⟨l, H2, I2, pl, q2⟩ => thn (hu pins s2 σ H2 _ I2 q2) fun vu s3 ⟨u, H3, I3, pu, q3⟩ => ?_)
  rw [evalPart_none]
  refine wpAny_pure ?_
  have I4 : Inv X pins σ H3 { s3 with heap := s3.heap.push { cls := .type "slice", data := .fields #[vl, vu, .none] } } := I3.kept (t' := s3.toks) fun b ob q => Heap.get?_push_of_some _ q
  obtain ⟨T, id, hT, ht, hg⟩ := hr pins { s3 with heap := s3.heap.push { cls := .type "slice", data := .fields #[vl, vu, .none] } } σ H3 x v vl vu l u s3.heap.objs.size Q I4 r1 (Heap.IsSliceOf.new ..) pl pu q3
  show wpAny (model X.prog X.w) X.A (subscriptTail e (.Slice lo hi none p2) v (.ref s3.heap.objs.size)) (EP X pins σ Q) X.xe { s3 with heap := s3.heap.push { cls := .type "slice", data := .fields #[vl, vu, .none] } }
  exact tail_any (ops := [.ref s3.heap.objs.size, v]) ht hT hg (by with_unfolding_all rfl)

/-- the items of xs[lo:hi] -/
def cutV (xs : List V) (lo hi : Option Int) : List V := (xs.drop (HT.sIx xs.length 0 lo)).take (HT.sIx xs.length xs.length hi - HT.sIx xs.length 0 lo)
theorem cutV_length (xs : List V) (lo hi : Option Int) : (cutV xs lo hi).length ≤ xs.length := by
  unfold cutV
  rw [List.length_take, List.length_drop]
  omega
/-! ### t < u, t + u -/
end
end L2

namespace L2
open PySem PySem.Spec PyProof.Rows

/-! ### places -/
/-- the place that an index of any sign means -/
def ixN (n : Nat) (i : Int) : Option Nat := if 0 ≤ i then (if i < n then some i.toNat else none) else if -(n : Int) ≤ i then some (i + n).toNat else none
def atI {α : Type} (xs : List α) (i : Int) : Option α := (ixN xs.length i).bind fun j => xs[j]?
theorem ixN_seq {n : Nat} {i : Int} {j : Nat} (h : ixN n i = some j) : seqIndex? i n = some j ∧ j < n ∧ -(n : Int) ≤ i ∧ i < n := by
  unfold ixN at h
  by_cases h0 : 0 ≤ i
  · rw [if_pos h0] at h
    by_cases h1 : i < n
    · rw [if_pos h1] at h
      have e : i.toNat = j := Option.some.inj h
      exact ⟨by rw [seqIndex_of h0 h1, e], by omega, by omega, h1⟩
    · rw [if_neg h1] at h; cases h
  · rw [if_neg h0] at h
    by_cases h1 : -(n : Int) ≤ i
    · rw [if_pos h1] at h
      have e : (i + n).toNat = j := Option.some.inj h
      exact ⟨by rw [seqIndex_neg (by omega) h1, e], by omega, h1, by omega⟩
    · rw [if_neg h1] at h; cases h
theorem atI_get {α : Type} {xs : List α} {i : Int} {v : α} (h : atI xs i = some v) : ∃ j, seqIndex? i xs.length = some j ∧ xs[j]? = some v ∧ j < xs.length ∧ -(xs.length : Int) ≤ i ∧ i < xs.length := by
  unfold atI at h
  cases e : ixN xs.length i with
  | none => rw [e] at h; cases h
  | some j =>
    rw [e] at h
    obtain ⟨h1, h2, h3, h4⟩ := ixN_seq e
    exact ⟨j, h1, h, h2, h3, h4⟩
theorem atI_nat {α : Type} {xs : List α} {j : Nat} {v : α} (h : xs[j]? = some v) : atI xs (j : Int) = some v := by
  have hj : j < xs.length := (List.getElem?_eq_some_iff.mp h).1
  have e : ixN xs.length (j : Int) = some j := by
    unfold ixN
    rw [if_pos (by omega), if_pos (by omega)]; simp
  unfold atI; rw [e]; exact h
/-! ### what may be subscripted -/
/-- what stands as an index of a plain subscript -/
def PlainIx (b : Expr) : Prop := ∀ o i, subscripted b false o i = operate [o, i] (getItem o i)
/-- a subscript by values -/
def IxR (X : Cx) (r : R2) : Prop :=
  ∀ (value slice : Expr) (pins : List (Addr × Obj)) (s : Shared) (σ : St) (H : Hp) (x y : V) (v u : Value) (Q : VK), Inv X pins σ H s → RelV x v → RelV y u → r x y H Q →
    subscripted slice false v u = operate [v, u] (getItem v u) → wpAny (model X.prog X.w) X.A (subscriptTail value slice v u) (EP X pins σ Q) X.xe s
/-- a call of a builtin's method by values: the receiver, the arguments -/
def MtR (X : Cx) (id : String) (r : V → List V → Hp → VK → Prop) : Prop :=
  ∀ (pins : List (Addr × Obj)) (s : Shared) (σ : St) (H : Hp) (x : V) (xs : List V) (v : Value) (us : List Value) (Q : VK), Inv X pins σ H s → RelV x v → Vals xs us → r x xs H Q →
    wpAny (model X.prog X.w) X.A (call (.builtin id) (v :: us)) (EP X pins σ Q) X.xe s
section
variable {X : Cx} {a b : Expr} {ta tb : TE} {pos : Pos}
theorem IxR.or {r r' : R2} (h : IxR X r) (h' : IxR X r') : IxR X (fun x y H Q => r x y H Q ∨ r' x y H Q) := by
  intro value slice pins s σ H x y v u Q I rx ry q hs
  rcases q with q | q
  · exact h value slice pins s σ H x y v u Q I rx ry q hs
  · exact h' value slice pins s σ H x y v u Q I rx ry q hs
theorem MtR.or {id : String} {r r' : V → List V → Hp → VK → Prop} (h : MtR X id r) (h' : MtR X id r') : MtR X id (fun x xs H Q => r x xs H Q ∨ r' x xs H Q) := by
  intro pins s σ H x xs v us Q I rx rs q
  rcases q with q | q
  · exact h pins s σ H x xs v us Q I rx rs q
  · exact h' pins s σ H x xs v us Q I rx rs q
/-- a[b] -/
theorem pe_ix {r : R2} (hr : IxR X r) (ha : PE X a ta) (hb : PE X b tb) (hs : PlainIx b) : PE X (.Subscript a b pos) (tOp r ta tb) := by
  intro pins s σ H Q I h
  exact Subscript_ (binT ha hb I h fun v u s2 x y H2 I2 rx ry q => hr a b pins s2 σ H2 x y v u Q I2 rx ry q (hs _ _))

def rIxL (K : PySem.W.Frag) : R2 := fun x y H Q => ∃ p xs i v, x = .ref p ∧ y = .int i ∧ SqL K H p xs ∧ atI xs i = some v ∧ Q v H
def rIxT (K : PySem.W.Frag) : R2 := fun x y H Q => ∃ p xs i v, x = .ref p ∧ y = .int i ∧ SqT K H p xs ∧ atI xs i = some v ∧ Q v H
theorem ix_list : IxR X (rIxL X.K) := by
  intro value slice pins s σ H x y v u Q I rx ry h hs
  obtain ⟨p, xs, i, z, rfl, rfl, hq, he, q⟩ := h
  cases rx
  obtain ⟨t, rfl⟩ := ry
  obtain ⟨its, r, pl, hz⟩ := I.list hq
  obtain ⟨j, h1, h2, h3, h4, h5⟩ := atI_get he
  obtain ⟨w, ew, rw'⟩ := r.get h2
  have hl := r.length
  have hn := line63
  have fin : EP X pins σ Q w s := ⟨z, H, I, rw', q⟩
  by_cases h0 : 0 ≤ i
  · have hj : i.toNat = j := by
      rw [seqIndex_of h0 h5] at h1
      exact Option.some.inj h1
    exact item_listR pl.isList h0 (by omega) (by rw [hj]; simpa using ew) fin hs
  · have hj : (i + (its.toArray.size : Int)).toNat = j := by
      rw [seqIndex_neg (by omega) h4] at h1
      rw [List.size_toArray, ← hl]
      exact Option.some.inj h1
    exact subscriptTail_builtinR (x := w) pl.isList.typeIs slot_list_getitem.lookup
      (wpAny_getItem_list_neg (Q := fun r s' => r = w ∧ EP X pins σ Q r s') pl.isList (by omega) (by rw [List.size_toArray] <;> omega) (by omega) (by rw [hj]; simpa using ew) ⟨rfl, fin⟩) hs
theorem ix_tup : IxR X (rIxT X.K) := by
  intro value slice pins s σ H x y v u Q I rx ry h hs
  obtain ⟨p, xs, i, z, rfl, rfl, hq, he, q⟩ := h
  cases rx
  obtain ⟨t, rfl⟩ := ry
  obtain ⟨its, r, pl, hz⟩ := I.tuple hq
  obtain ⟨j, h1, h2, h3, h4, h5⟩ := atI_get he
  obtain ⟨w, ew, rw'⟩ := r.get h2
  have hl := r.length
  have hn := line63
  have fin : EP X pins σ Q w s := ⟨z, H, I, rw', q⟩
  exact subscriptTail_builtinR (x := w) pl.typeIs slot_tuple_getitem.lookup
    (getItem_tuple (j := j) (Q := fun r s' => r = w ∧ EP X pins σ Q r s') pl (by omega) (by omega) (by rw [List.size_toArray, ← hl]; exact h1) (by simpa using ew) ⟨rfl, fin⟩) hs
/-! ### xs[i] = v, any sign -/
/-- the list's object behind a store -/
theorem mapSeq_set (its : List Value) (n j : Nat) (u : Value) : Obj.mapSeq (·.setIfInBounds j u) { cls := .type "list", data := .seq its.toArray n } = { cls := .type "list", data := .seq (its.set j u).toArray n } := by
  simp [Obj.mapSeq]
theorem Inv.lst {pins : List (Addr × Obj)} {σ : St} {H : Hp} {s : Shared} {p : Addr} {xs : List V} (I : Inv X pins σ H s) (h : H p = some (.lst xs)) :
    ∃ (its : List Value) (n : Nat), Vals xs its ∧ s.heap.get? p = some { cls := .type "list", data := .seq its.toArray n } ∧ xs.length ≤ sizeLine := by
  obtain ⟨z, its, n, r, e⟩ := I.hok p _ h
  exact ⟨its, n, r, e, z⟩
/-- the list at p is written by an update of its object -/
theorem Inv.lstUpd {pins : List (Addr × Obj)} {σ : St} {H : Hp} {s : Shared} {p : Addr} {xs ys : List V} {its its' : List Value} {n n' : Nat} {f : Obj → Obj} (I : Inv X pins σ H s) (h : H p = some (.lst xs))
    (ho : s.heap.get? p = some { cls := .type "list", data := .seq its.toArray n }) (hf : f { cls := .type "list", data := .seq its.toArray n } = { cls := .type "list", data := .seq its'.toArray n' }) (r : Vals ys its') (hz : ys.length ≤ sizeLine) (t : Nat) :
    Inv X pins σ (upd H p (.lst ys)) { s with heap := s.heap.update p f, toks := t } := by
  have e : (s.heap.update p f).get? p = some { cls := .type "list", data := .seq its'.toArray n' } := by
    rw [Heap.get?_update_self f ho (by rw [hf] <;> rfl), hf]
  refine I.write (x := p) (e := p) (by rw [h]; trivial) (.inl rfl) (fun b u hb q => (Heap.get?_update_other _ _ (Ne.symm hb)).trans q) ⟨_, e⟩ ?_
  exact ⟨hz, its', n', r, e⟩
def rSetL : V → V → V → Hp → (Hp → Prop) → Prop := fun o i v H Q => ∃ p xs k j, o = .ref p ∧ i = .int k ∧ H p = some (.lst xs) ∧ ixN xs.length k = some j ∧ Q (upd H p (.lst (xs.set j v)))
theorem set_list : PSet X rSetL := by
  intro pins s σ H o i v ov iv u Q I ro ri rv h
  obtain ⟨p, xs, k, j, rfl, rfl, hp, hj, q⟩ := h
  cases ro
  obtain ⟨t, rfl⟩ := ri
  obtain ⟨its, n, r, ho, hz⟩ := I.lst hp
  obtain ⟨h1, h2, h3, h4⟩ := ixN_seq hj
  have hl := r.length
  have hn := line63
  have I' : Inv X pins σ (upd H p (.lst (xs.set j v))) { s with heap := s.heap.update p (Obj.mapSeq (·.setIfInBounds j u)) } :=
    I.lstUpd hp ho (mapSeq_set its n j u) (r.set rv j) (by rw [List.length_set]; exact hz) s.toks
  by_cases h0 : 0 ≤ k
  · have hk : k.toNat = j := by
      rw [seqIndex_of h0 h4] at h1
      exact Option.some.inj h1
    exact PySem.W.ki_setAt ho h0 (by omega) (by rw [List.size_toArray, ← hl]; exact h4) (by rw [hk]; exact ⟨_, I', q⟩)
  · have hk : (k + (its.toArray.size : Int)).toNat = j := by
      rw [seqIndex_neg (by omega) h3] at h1
      rw [List.size_toArray, ← hl]
      exact Option.some.inj h1
    exact PySem.W.ki_setBack ho (by omega) (by rw [List.size_toArray, ← hl]; exact h3) (by omega) (by rw [hk]; exact ⟨_, I', q⟩)

/-! ### slices -/
theorem slice_bounds (lo hi : Option Int) (n : Nat) : (sliceBounds lo hi none n).1 = ((HT.sIx n 0 lo : Nat) : Int) ∧ (sliceBounds lo hi none n).2.1 = ((HT.sIx n n hi : Nat) : Int) ∧ (sliceBounds lo hi none n).2.2 = 1 := by
  refine ⟨?_, ?_, rfl⟩
  · cases lo with
    | none => simp [sliceBounds, HT.sIx]
    | some i =>
      simp only [sliceBounds, HT.sIx, Option.getD_none, show (1 : Int) > 0 by decide, if_true]
      by_cases h : i < 0
      · simp only [h, if_true] <;> omega
      · simp only [h, if_false] <;> omega
  · cases hi with
    | none => simp [sliceBounds, HT.sIx]
    | some i =>
      simp only [sliceBounds, HT.sIx, Option.getD_none, show (1 : Int) > 0 by decide, if_true]
      by_cases h : i < 0
      · simp only [h, if_true] <;> omega
      · simp only [h, if_false] <;> omega
theorem slicePick_cut (its : List Value) (lo hi : Option Int) : slicePick its.toArray lo hi none = ((its.drop (HT.sIx its.length 0 lo)).take (HT.sIx its.length its.length hi - HT.sIx its.length 0 lo)).toArray := by
  obtain ⟨h1, h2, h3⟩ := slice_bounds lo hi its.toArray.size
  unfold slicePick
  rw [h1, h2, h3]
  simp only [sliceRange_one, pick_run, List.size_toArray] <;> rfl
/-- xs[lo:hi] of a list: a new list -/
def rSlL (K : PySem.W.Frag) : V → Option Int → Option Int → Hp → VK → Prop := fun x lo hi H Q => ∃ a xs, x = .ref a ∧ SqL K H a xs ∧ ∀ p, H p = none → Q (.ref p) (upd H p (.lst (cutV xs lo hi)))
theorem sl_list : SlR X (rSlL X.K) := by
  intro pins s σ H x v vl vu lo hi sl Q I rx hs pl pu h
  obtain ⟨a, xs, rfl, hx, q⟩ := h
  cases rx
  obtain ⟨its, r, ht, hz⟩ := I.list hx
  have hlen := r.length
  refine ⟨"list", _, slot_list_getitem.lookup, ht.isList.typeIs, ?_⟩
  refine wpAny_getItem_list_slice ht.isList hs pl pu .none (by simp) ?_ (by rw [List.size_toArray] <;> omega)
  rw [slicePick_cut, ← hlen]
  refine ⟨.ref s.heap.objs.size, _, I.laid (t' := s.toks) (o := .lst (cutV xs lo hi)) (fun b ob q => Heap.get?_push_of_some _ q) (Nat.le_refl _) ?_, rfl, q _ (I.hok.fresh (Nat.le_refl _))⟩
  exact ⟨Nat.le_trans (cutV_length xs lo hi) hz, _, 0, (r.drop (HT.sIx xs.length 0 lo)).take (HT.sIx xs.length xs.length hi - HT.sIx xs.length 0 lo), Heap.get?_push_size _ rfl⟩

/-! ### in, not in: flat items -/
/-! ### len, list(x), tuple(x) of any list or tuple that is read -/
theorem call_len_seq : CallR X (.builtin "len") (fun xs H Q => ∃ p ys, xs = [.ref p] ∧ (SqL X.K H p ys ∨ SqT X.K H p ys) ∧ Q (.int ys.length) H) := by
  intro pins s σ H xs us Q I r h
  obtain ⟨p, ys, rfl, hq, q⟩ := h
  obtain ⟨u, rfl, rx⟩ := vals1 r
  cases rx
  have hn := line63
  rcases hq with hq | hq
  · obtain ⟨its, r', pl, hz⟩ := I.list hq
    have hlen := r'.length
    exact Calls.call_len_list pl.isList (by simp only [List.size_toArray] <;> omega) ⟨.int ys.length, H, I.tok _, ⟨s.toks + 1, by rw [List.size_toArray, hlen]⟩, q⟩
  · obtain ⟨its, r', pl, hz⟩ := I.tuple hq
    have hlen := r'.length
    exact len_tuple pl (by simp only [List.size_toArray] <;> omega) ⟨.int ys.length, H, I.tok _, ⟨s.toks + 1, by rw [List.size_toArray, hlen]⟩, q⟩
theorem CallR.or {f : Value} {r r' : List V → Hp → VK → Prop} (h : CallR X f r) (h' : CallR X f r') : CallR X f (fun xs H Q => r xs H Q ∨ r' xs H Q) := by
  intro pins s σ H xs us Q I rs q
  rcases q with q | q
  · exact h pins s σ H xs us Q I rs q
  · exact h' pins s σ H xs us Q I rs q
theorem call_list_of : CallR X (.type "list") (fun xs H Q => ∃ p ys, xs = [.ref p] ∧ (SqL X.K H p ys ∨ SqT X.K H p ys) ∧ ∀ l, H l = none → Q (.ref l) (upd H l (.lst ys))) := by
  intro pins s σ H xs us Q I r h
  obtain ⟨p, ys, rfl, hq, q⟩ := h
  obtain ⟨u, rfl, rx⟩ := vals1 r
  cases rx
  have fin : ∀ (its : List Value), Vals ys its → ys.length ≤ sizeLine → ∀ (h' : Heap) (c' : Nat), (∀ b o', s.heap.get? b = some o' → h'.get? b = some o') →
      h'.get? s.heap.objs.size = some { cls := .type "list", dict := none, data := .seq its.toArray c', slots := #[] } → EP X pins σ Q (.ref s.heap.objs.size) { s with heap := h' } := fun its r' hz h' c' kp e =>
    ⟨.ref s.heap.objs.size, _, I.laid (t' := s.toks) kp (Nat.le_refl _) (show ObjOk X.prog X.w _ h' _ (.lst ys) from ⟨hz, its, c', r', e⟩), rfl, q _ (I.hok.fresh (Nat.le_refl _))⟩
  rcases hq with hq | hq
  · obtain ⟨its, r', pl, hz⟩ := I.list hq
    have hlen := r'.length
    obtain ⟨o, ho, hc, n, hd⟩ := pl.isList
    exact call_list_seq p (.inl rfl) ho hc hd (fun h' c' kp e => fin its r' hz h' c' kp e) (by simp only [List.size_toArray] <;> omega)
  · obtain ⟨its, r', pl, hz⟩ := I.tuple hq
    have hlen := r'.length
    obtain ⟨o, ho, hc, n, hd⟩ := pl
    exact call_list_seq p (.inr rfl) ho hc hd (fun h' c' kp e => fin its r' hz h' c' kp e) (by simp only [List.size_toArray] <;> omega)
/-! ### the call of a builtin's method: o.m(..) -/
/-- the value is of that builtin type -/
def tyV (K : PySem.W.Frag) (T : String) (x : V) (H : Hp) : Prop := match x with
  | .str _ => T = "str"
  | .int _ => T = "int"
  | .ref p => (T = "list" ∧ ∃ xs, SqL K H p xs) ∨ (T = "tuple" ∧ ∃ o, K.lookup p = some o ∧ o.cls = .type "tuple" ∧ o.dict = none) ∨
      (T = "dict" ∧ ((∃ kvs, H p = some (.dK kvs)) ∨ ∃ kvs, H p = some (.dT kvs))) ∨ (T = "set" ∧ ∃ S n, H p = some (.set S n))
  | _ => False
theorem tyV_is {pins : List (Addr × Obj)} {σ : St} {H : Hp} {s : Shared} {T : String} {x : V} {v : Value} (I : Inv X pins σ H s) (r : RelV x v) (ty : tyV X.K T x H) :
    s.TypeIs v T ∧ ∀ a, v = .ref a → ∃ ob, s.heap.get? a = some ob ∧ ob.dict = none := by
  cases x with
  | str z =>
    obtain ⟨t, rfl⟩ := r
    cases (show T = "str" from ty)
    exact ⟨typeIs_str s z t, fun _ e => nomatch e⟩
  | int i =>
    obtain ⟨t, rfl⟩ := r
    cases (show T = "int" from ty)
    exact ⟨typeIs_int s i t, fun _ e => nomatch e⟩
  | ref p =>
    cases r
    rcases ty with ⟨rfl, xs, hq⟩ | ⟨rfl, o, hk, hc, hd⟩ | ⟨rfl, hk⟩ | ⟨rfl, S, n, hk⟩
    · obtain ⟨its, _, pl, _⟩ := I.list hq
      refine ⟨pl.isList.typeIs, fun a e => ?_⟩
      cases e
      obtain ⟨o, n, e, c, hd, _⟩ := pl
      exact ⟨o, e, hd⟩
    · refine ⟨⟨o, I.kIn p o hk, hc⟩, fun a e => ?_⟩
      cases e
      exact ⟨o, I.kIn _ o hk, hd⟩
    · have z : ∃ o, s.heap.get? p = some o ∧ o.ExactDict := by
        rcases hk with ⟨kvs, hk⟩ | ⟨kvs, hk⟩
        · obtain ⟨_, _, _, _, o, _, _, e, ex, _⟩ := I.hok p _ hk
          exact ⟨o, e, ex⟩
        · obtain ⟨_, _, _, _, o, _, _, e, ex, _⟩ := I.hok p _ hk
          exact ⟨o, e, ex⟩
      obtain ⟨o, e, ex⟩ := z
      refine ⟨⟨o, e, ex.1⟩, fun a e2 => ?_⟩
      cases e2
      exact ⟨o, e, ex.2.1⟩
    · obtain ⟨o, _, _, _, e, ex, _⟩ := I.hok p _ hk
      refine ⟨⟨o, e, ex.1⟩, fun a e2 => ?_⟩
      cases e2
      exact ⟨o, e, ex.2.1⟩
  | _ => exact False.elim ty
def tBM (K : PySem.W.Frag) (T : String) (r : V → List V → Hp → VK → Prop) (to : TE) (t : TA) : TE := fun σ H Q => to σ H fun x H1 => tyV K T x H1 ∧ t σ H1 fun xs H2 => r x xs H2 Q
variable {o e : Expr} {es : List Expr} {to : TE} {t : TA} {name : Str} {apos cpos : Pos} {T id : String} {r : V → List V → Hp → VK → Prop}
theorem pe_bm (pa : PlainAttrs T) (slot : Slot T name id) (hty : typeOf (.builtin id) = pure (.type "method_descriptor")) (hm : MtR X id r) (ho : PE X o to) (ha : PA X (e :: es) t)
    (hbase : attributeBase o name X.env (eval o X.env) = eval o X.env := by rfl)
    (hfew : ((backTo cpos (starEach (e :: es) X.env)).all (fun x => !x.1) && (backToKw cpos (keywordEach [] X.env)).all (fun x => x.1.isSome)
      && decide ((e :: es).length + ([] : List Keyword).length + (if ([] : List Keyword).isEmpty then 0 else 1) < 30)) = true := by rfl)
    (hline : (apos.endLine == cpos.line) = true := by rfl) (hs : starEach (e :: es) X.env = (false, eval e X.env) :: starEach es X.env := by rfl) (hplain : (backTo cpos (starEach es X.env)).any (·.1) = false := by rfl) :
    PE X (.Call (.Attribute o name apos) (e :: es) [] cpos) (tBM X.K T r to t) := by
  intro pins s σ H Q I h
  refine wpAny_Call_method_late hbase hfew hline rfl (thn (ho pins s σ H _ I h) fun v s1 ⟨x, H1, I1, r1, ty, q1⟩ => ?_)
  obtain ⟨h1, h2⟩ := tyV_is I1 r1 ty
  refine ⟨T, id, pa, slot, hty, h1, h2, ?_⟩
  have hA := ha cpos pins s1 σ H1 _ I1 q1
  rw [hs] at hA ⊢
  refine Calls.callWith_builtin (by show (false || (backTo cpos (starEach es X.env)).any (·.1)) = false; rw [hplain] <;> rfl) (Calls.evalArgs_plain ?_)
  exact thn hA fun us s2 ⟨vs, H2, I2, r2, q2⟩ => hm pins s2 σ H2 x vs v us Q I2 r1 r2 q2
/- xs.append(e), list.index on a module's tuple .. are MtR facts of 06m -/
end
end L2

namespace L2
open PySem PySem.Spec PyProof.Rows

def MtM (X : Cx) (id : String) (r : V → List V → Hp → VK → Prop) : Prop :=
  ∀ (pins : List (Addr × Obj)) (s : Shared) (σ : St) (H : Hp) (x : V) (xs : List V) (v : Value) (us : List Value) (Q : VK), Inv X pins σ H s → RelV x v → Vals xs us → r x xs H Q →
    wpAny (model X.prog X.w) X.A (call (.builtin id) (v :: us)) (EP X pins σ Q) X.xe s

/-! ### lists of values -/
theorem Vals.one : ∀ {x : V} {us : List Value}, Vals [x] us → ∃ u, us = [u] ∧ RelV x u
  | _, _, .cons r .nil => ⟨_, rfl, r⟩
theorem Vals.two : ∀ {x y : V} {us : List Value}, Vals [x, y] us → ∃ u v, us = [u, v] ∧ RelV x u ∧ RelV y v
  | _, _, _, .cons r (.cons q .nil) => ⟨_, _, rfl, r, q⟩
theorem Vals.zero : ∀ {us : List Value}, Vals [] us → us = []
  | _, .nil => rfl
theorem Vals.reverse {xs : List V} {us : List Value} (h : Vals xs us) : Vals xs.reverse us.reverse := by
  induction h with
  | nil => exact .nil
  | cons r t ih => rw [List.reverse_cons, List.reverse_cons]; exact Vals.append ih (.cons r .nil)
section
variable {X : Cx} {pins : List (Addr × Obj)} {σ : St} {H : Hp} {s : Shared} {l b : Addr} {xs ys zs : List V}

/-! ### the two steps: a tracked list is rewritten, a new list is laid -/
theorem Inv.lset {its its' : List Value} {n : Nat} {f : Array Value → Array Value} {t' : Nat} (I : Inv X pins σ H s) (hH : H l = some (.lst xs))
    (e : s.heap.get? l = some { cls := .type "list", data := .seq its.toArray n }) (hf : f its.toArray = its'.toArray) (hv : Vals ys its') (hz : ys.length ≤ sizeLine) :
    Inv X pins σ (upd H l (.lst ys)) { s with heap := s.heap.update l (Obj.mapSeq f), toks := t' } := by
  have q := PySem.IsL.update e f
  rw [hf] at q
  refine I.write (x := l) (e := l) (by rw [hH]; exact trivial) (.inl rfl) (fun b' u hb hu => (Heap.get?_update_other s.heap (Obj.mapSeq f) (Ne.symm hb)).trans hu) ⟨_, q⟩ ?_
  exact ⟨hz, its', _, hv, q⟩
theorem Inv.lnew {its : List Value} {t' : Nat} (I : Inv X pins σ H s) (hv : Vals ys its) (hz : ys.length ≤ sizeLine) :
    Inv X pins σ (upd H s.heap.objs.size (.lst ys)) { s with heap := s.heap.push { cls := .type "list", data := .seq its.toArray }, toks := t' } :=
  I.laid (fun _ _ q => Heap.get?_push_of_some _ q) (Nat.le_refl _) ⟨hz, its, 0, hv, Heap.get?_push_size _ rfl⟩
theorem Inv.fresh (I : Inv X pins σ H s) : H s.heap.objs.size = none := I.hok.fresh (Nat.le_refl _)
theorem Inv.lstM (I : Inv X pins σ H s) (hH : H l = some (.lst xs)) : xs.length ≤ sizeLine ∧ ∃ (its : List Value) (n : Nat), Vals xs its ∧ xs.length = its.length ∧ s.heap.get? l = some { cls := .type "list", data := .seq its.toArray n } := by
  obtain ⟨z, its, n, r, e⟩ := I.hok l _ hH
  exact ⟨z, its, n, r, r.length, e⟩

end

section
variable {X : Cx}

/-! ### methods -/
def rAppend : V → List V → Hp → VK → Prop := fun x vs H Q => ∃ l xs y, x = .ref l ∧ vs = [y] ∧ H l = some (.lst xs) ∧ xs.length < sizeLine ∧ Q .non (upd H l (.lst (xs ++ [y])))
theorem mt_append : MtM X "list.append" rAppend := by
  intro pins s σ H x vs v us Q I rx rv h
  obtain ⟨l, xs, y, rfl, rfl, hH, hz, q⟩ := h
  cases rx
  obtain ⟨u, rfl, ru⟩ := rv.one
  obtain ⟨z, its, n, r, hl, e⟩ := I.lstM hH
  refine call_meets F.slot_list_append ⟨_, e, rfl⟩ F.entry_list_append (F.args_list_append_2 _ _) (PySem.list_append l its.toArray n u (by rw [List.size_toArray]; omega)) ⟨e, ?_⟩
  refine ⟨.non, _, I.lset (its' := its ++ [u]) hH e (by simp) (r.append (.cons ru .nil)) ?_, rfl, q⟩
  rw [List.length_append, List.length_singleton]
  omega

/-! ### list + list, list += list, list * int -/
def rCat : R2 := fun x y H Q => ∃ l b xs zs, x = .ref l ∧ y = .ref b ∧ H l = some (.lst xs) ∧ H b = some (.lst zs) ∧ xs.length + zs.length ≤ sizeLine ∧ ∀ p, H p = none → Q (.ref p) (upd H p (.lst (xs ++ zs)))
theorem op_cat : OpR X (binaryOp .Add) rCat := by
  intro pins s σ H x y v u Q I rx ry h
  obtain ⟨l, b, xs, zs, rfl, rfl, hH, hB, hz, q⟩ := h
  cases rx
  cases ry
  obtain ⟨z, its, n, r, hl, e⟩ := I.lstM hH
  obtain ⟨z2, its2, n2, r2, hl2, e2⟩ := I.lstM hB
  refine PySem.P.add_list e e2 ?_ (by rw [List.size_toArray, List.size_toArray]; omega)
  have ea : its.toArray ++ its2.toArray = (its ++ its2).toArray := by simp
  rw [ea]
  exact ⟨.ref _, _, I.lnew (t' := s.toks) (r.append r2) (by rw [List.length_append]; omega), rfl, q _ I.fresh⟩
/-! ### del xs[i] -/
end

/-! ### xs[a:b] = ys -/
section
variable {prog : Program} {w : World} {A : Around} {E : Value → Shared → Prop} {s : Shared}
end

section
variable {X : Cx}
end
end L2

namespace Att
open PySem PySem.W PySem.Calls PyProof.Rows

/-! ### the script -/
theorem ints_of_wellAll {P : Params} {h : Heap} : ∀ (ns : List Int) (vs : List Value), WellAll P h vs (ns.map WData.int) → IntsAre vs ns := by
  intro ns
  induction ns with
  | nil =>
    intro vs w
    rw [List.map_nil] at w
    cases w
    exact .nil
  | cons n ns ih =>
    intro vs w
    rw [List.map_cons] at w
    cases w with
    | cons a b =>
      cases a
      exact .cons _ _ (ih _ b)

theorem script_of {l : OpenLaw} {n : Nat} (hn : l.most = some n) {P : Params} {h : Heap} {args : List WData} {vals : List Value}
    (hpre : l.row.toRowW.claim.pre args = true) (hwl : WellAll P h vals args) :
    ∃ a vs ns, vals = [Value.ref a] ∧ args = [WData.list (ns.map WData.int)] ∧ h.get? a = some { cls := .type "list", data := .seq vs.toArray } ∧ IntsAre vs ns ∧ ns.length ≤ n := by
  have hsh : WShape.hasAll [] args [.list .int] = true := (pre_splitW hpre).1
  have hc : l.pre.holds [] { args := args } = true := (pre_splitW hpre).2
  obtain ⟨d, r, rfl, h1, h2⟩ := hasAllW_cons hsh
  obtain rfl := hasAllW_nil h2
  obtain ⟨xs, rfl, h3⟩ := hasW_list h1
  obtain ⟨ns, rfl⟩ := items_int h3
  have hlen : ns.length ≤ n := by
    unfold OpenLaw.pre at hc
    have h4 : (WTm.not (.lt (.lit (.int (n : Int))) (.len (.arg 0)))).holds [] { args := [.list (ns.map .int)] } = true := by
      have h4 := (holds_andW hc).1
      rw [hn] at h4
      exact h4
    have h5 := condW_of h4 (w_not (w_lt w_lit (w_len_list (w_arg rfl))))
    rw [List.length_map] at h5
    refine Nat.le_of_not_lt fun q => ?_
    have q' : (n : Int) < ((ns.length : Nat) : Int) := by omega
    first
      | (rw [decide_eq_true q'] at h5; exact absurd h5 (by decide))
      | (simp at h5; omega)
  cases hwl with
  | cons w1 w2 =>
    cases w2
    cases w1 with
    | list ho hall => exact ⟨_, _, ns, rfl, rfl, ho, ints_of_wellAll ns _ hall, hlen⟩

theorem post_true (l : OpenLaw) (args : List WData) : l.row.toRowW.claim.post args (.bool true) args = true :=
  postW_of (r := l.row.toRowW) (X := (true == true))
    (show WShape.has [] (.bool true) .bool = true by first | rfl | decide | simp [WShape.has, WShape.arms, WShape.armsAll])
    (show (WTm.eq .res (.lit (.bool true))).value [] { args := args, res := some (.bool true), after := args } = some (.bool (true == true)) from w_eq_bool (w_res rfl) w_lit) rfl

/-! ### the attachment: holds_open's last premise (the goal 'hc' behind k_head) from a wpAny of the law's body -/
/-- the same from a codeAny of the CALL (for a layer whose function contracts speak of calls) -/
theorem attach_call {l : OpenLaw} {n : Nat} {q : Program} {loose : List Str} {XP : (Str → Option Value) → Heap → Prop} {YP : World → Heap → Prop} {d : DefRec}
    (hn : l.most = some n) (hdf : d.params.defaults = [])
    (call : ∀ (w : World) (s₀ s₁ : Shared) (mg mb : Str → Option Value) (fa : Addr) (o : Obj) (pm cd doc : Value) (a : Addr) (vs : List Value) (ns : List Int),
      Ground q loose [] XP w s₀ mg mb s₁.heap → YP w s₁.heap →
      s₁.heap.get? fa = some o → o.data = .func (docDef d.name d.params d.body d.scope pm cd doc) → s₁.heap.CodeRec cd d.name → mg d.name = some (.ref fa) →
      s₁.heap.get? a = some { cls := .type "list", data := .seq vs.toArray } → IntsAre vs ns → ns.length ≤ n → s₁.gens = #[] →
      codeAny (model l.prog w) callerA (.call (.ref fa) ⟨[.ref a], []⟩) (fun r s' => r = .ok (.ret (.bool true)) ∧ OldK s₁.heap s'.heap ∧ s'.os = s₁.os ∧ AllBare s'.gens) s₁) :
    WalkO q loose XP YP l.row.toRowW d [] (fun f vs => PySem.call f vs) := by
  intro w s₀ s₁ mg mb G Y fa o pm cd doc dV kV ho hd hcd hD hmg hg args vals as hpre hlay hrd hwl hlo
  obtain rfl : dV = .none := Dflts.none hD hdf
  obtain rfl : kV = .none := Dflts.noKw hD
  obtain ⟨a, vs, ns, rfl, rfl, hobj, hints, hlen⟩ := script_of hn hpre hwl
  refine enter_call (codeAny_mono (call w s₀ s₁ mg mb fa o pm cd doc a vs ns G Y ho (fd_plain hd) hcd hmg hobj hints hlen hg) fun r s' hq => ?_)
  obtain ⟨rfl, h2, h3, h4⟩ := hq
  exact ⟨.inl ⟨.bool true, .bool true, [], rfl, fun _ => rfl, .bool true, post_true l _, fun _ => ⟨List.Pairwise.nil, fun _ hm => (nomatch hm)⟩⟩, h2, h3, h4⟩

/-! ### rules over ANY heap (no ledger) from facts about the written part K: the library's own take a ledger (News) for what they write -/
section
variable {prog : Program} {w : World} {A : Around} {E : Value → Shared → Prop} {s : Shared} {K : Frag}

/-! the whole heap as the ledger: makes every rule that writes through a ledger a rule over any heap -/
def ledger (h : Heap) (L d : Addr) : List (Addr × Obj) := (List.range h.objs.size).filterMap fun a => if a = L ∨ a = d then none else (h.get? a).map fun o => (a, o)
end
end Att

namespace L2
open PySem PySem.Spec PyProof.Rows

theorem vals_ints : ∀ {vs : List Value} {ns : List Int}, IntsAre vs ns → Vals (ns.map V.int) vs
  | _, _, .nil => .nil
  | _, _, .cons n t h => .cons ⟨t, rfl⟩ (vals_ints h)

/-- nothing is tracked but the script, known to the object (or it is an object of the module) -/
def Only (H : Hp) : Prop := ∀ b, H b = none ∨ ∃ o xs, H b = some (.frz o (.lst xs))

/-- THE HEAD: the law's promise, at the heap behind the top. F, the promise of the law's def, may use that base is part of the heap (so K.In base, base.Ns mainGlobals mg stand in Mod) -/
theorem law_call {P : Program} {w : World} {K : PySem.W.Frag} {mg mb : Str → Option Value} {CX : CXT} {k : Nat} {fa a : Addr} {fd : FuncData} {x : Str} {sp : Sp} {s₁ : Shared} {vs : List Value} {ns : List Int}
    (KX : K.In s₁.heap) (hns : s₁.heap.Ns mainGlobals mg) (hb : s₁.heap.Ns builtinsNs mb) (hbb : ∀ x : Str, x ≠ "__name__" → mb x = bootBuiltins x) (hlim : s₁.heap.NoLimit) (hg : s₁.gens = #[])
    (ha : s₁.heap.get? a = some { cls := .type "list", data := .seq vs.toArray }) (hi : IntsAre vs ns) (hl : ns.length ≤ sizeLine) (hr : Room k callerA)
    (F : ∀ base : Heap, K.In base → base.Ns mainGlobals mg → FnOk P w K mg base CX k fa fd [x] sp) (hbind : ∀ (s : Shared) (u : Value), BindsTo s fd ⟨[u], []⟩ [(x, u)])
    (hsp : ∀ H : Hp, Only H → SqL K H a (ns.map V.int) → sp [.ref a] H (fun v _ => v = .bl true) fun _ _ _ => False)
    (hCX : ∀ H e s', CX [] H s₁ (fun _ _ _ => False) e s' → False) :
    codeAny (model P w) callerA (.call (.ref fa) ⟨[.ref a], []⟩) (fun r s' => r = .ok (.ret (.bool true)) ∧ OldK s₁.heap s'.heap ∧ s'.os = s₁.os ∧ AllBare s'.gens) s₁ := by
  have rv := vals_ints hi
  have lenV := hi.length
  -- from an abstract heap in which nothing but the script may be tracked
  have core : ∀ H : Hp, Only H → SqL K H a (ns.map V.int) → HOk P w H s₁.heap → (∀ b, H b ≠ none → b = a) → (H a ≠ none → K.lookup a = none) →
      codeAny (model P w) callerA (.call (.ref fa) ⟨[.ref a], []⟩) (fun r s' => r = .ok (.ret (.bool true)) ∧ OldK s₁.heap s'.heap ∧ s'.os = s₁.os ∧ AllBare s'.gens) s₁ := by
    intro H hO hS hok hA hK
    have base_of : ∀ {b : Addr} {o : Obj}, s₁.heap.get? b = some o → H b = none → (hidT s₁.heap H).get? b = some o := fun e n => hidT_get e n
    have noA : ∀ {b : Addr} {o : Obj} {es : Array DictEntry} {ep : Nat}, s₁.heap.get? b = some o → o.data = .dict es ep → H b = none := fun {b o es ep} e d => by
      cases q : H b with
      | none => rfl
      | some u =>
        have e' : b = a := hA b (by rw [q]; simp)
        subst e'
        rw [ha] at e; cases e
        have d' : Data.seq vs.toArray _ = Data.dict es ep := d
        cases d'
    have nsK : ∀ {b : Addr} {m : Str → Option Value}, s₁.heap.Ns b m → (hidT s₁.heap H).Ns b m := fun {b m} ⟨o, es, ep, e, d, r⟩ => ⟨o, es, ep, base_of e (noA e d), d, r⟩
    have hKb : K.In (hidT s₁.heap H) := fun b o e => base_of (KX b o e) (by
      cases q : H b with
      | none => rfl
      | some u =>
        have e' : b = a := hA b (by rw [q]; simp)
        subst e'
        rw [hK (by rw [q]; simp)] at e; cases e)
    have hM : Mod K mg (hidT s₁.heap H) := ⟨hKb, nsK hns, ⟨mb, nsK hb, hbb⟩, let ⟨mc, h1, h2⟩ := hlim; ⟨mc, nsK h1, h2⟩⟩
    have e0 : Env0 P w K mg (hidT s₁.heap H) callerA [] s₁ H := ⟨rfl, hM, fun b o e => of_hidT e, Nat.le_of_eq (hidT_size _ _), trivial, fun b hb => absurd (show b ∈ ([] : List Addr) from hb) (by simp), hok, .of_eq hg⟩
    refine codeAny_mono ((F _ hKb (nsK hns)).run callerA [] s₁ H ⟨[.ref a], []⟩ [.ref a] [.ref a] _ _ hr e0 (hbind s₁ (.ref a)) (.cons rfl .nil) (hsp H hO hS)) fun r s' h => ?_
    cases r with
    | error e => exact (hCX H e s' h).elim
    | ok fl =>
      cases fl with
      | next => exact False.elim h
      | brk => exact False.elim h
      | cont => exact False.elim h
      | ret u =>
        obtain ⟨v, H', os, bare, un, hok', r', q⟩ := h
        have q' : v = .bl true := q
        subst q'
        obtain rfl : u = Value.bool true := r'
        refine ⟨rfl, OldK.of_keep fun b o e => ?_, os, bare⟩
        cases q : H b with
        | none => exact un.keep b o e q (by intro z; exact absurd (show b ∈ ([] : List Addr) from z) (by simp)) (by simp)
        | some u =>
          rcases hO b with z | ⟨ob, xs, z⟩
          · rw [q] at z; cases z
          · have z2 := un.frzs b ob _ z
            obtain ⟨e1, _⟩ := hok b _ z
            obtain ⟨e2, _⟩ := hok' b _ z2
            rw [e] at e1; cases e1
            exact e2
  cases hk : K.lookup a with
  | some o =>
    -- the script is one of the module's own objects
    have e := KX a o hk
    rw [ha] at e
    cases e
    refine core (fun _ => none) (fun _ => .inl rfl) (.inr ⟨_, vs.toArray, _, hk, rfl, rfl, rfl, by rw [List.size_toArray, lenV]; exact hl, by simpa using rv⟩) (fun b u z => by have z' : (none : Option HO) = some u := z; cases z') (fun b z => absurd rfl z) fun z => absurd rfl z
  | none =>
    refine core (fun b => if b = a then some (.frz { cls := .type "list", data := .seq vs.toArray } (.lst (ns.map V.int))) else none) (fun b => ?_) (.inl (.inr ⟨{ cls := .type "list", data := .seq vs.toArray }, if_pos rfl⟩)) (fun b u z => ?_) (fun b z => ?_) fun _ => hk
    · by_cases hb : b = a
      · exact .inr ⟨_, _, if_pos hb⟩
      · exact .inl (if_neg hb)
    · by_cases hb : b = a
      · have z' := (if_pos hb).symm.trans z
        cases z'
        subst hb
        exact ⟨ha, by rw [List.length_map]; exact hl, vs, _, rv, ha⟩
      · have z' := (if_neg hb).symm.trans z
        cases z'
    · by_cases hb : b = a
      · exact hb
      · exact absurd (if_neg hb) z
end L2

namespace L2
open PySem PySem.Spec PyProof.Rows

abbrev KOf {K : PySem.W.Frag} {h : Heap} (_ : K.In h) : PySem.W.Frag := K

/-- the goal that k_head leaves (case hc), from the law's promise. F gives the function object fd (K's own) once, then the promise over every base -/
theorem walk_of {l : PySem.W.OpenLaw} {n k : Nat} {q : Program} {loose : List Str} {XP : (Str → Option Value) → Heap → Prop} {YP : World → Heap → Prop} {d : DefRec} {K : Params → PySem.W.Frag} {CX : World → CXT} {sp : World → Sp} {x : Str}
    (hn : l.most = some n) (hn2 : n ≤ sizeLine) (hdf : d.params.defaults = []) (hr : Room k callerA)
    (hY : ∀ (w : World) (h : Heap), YP w h → (K w.params).In h)
    (F : ∀ (w : World) (mg : Str → Option Value) (fa : Addr) (h : Heap), (K w.params).In h → h.Ns mainGlobals mg → mg d.name = some (.ref fa) →
      ∃ fd : FuncData, (∀ (s : Shared) (u : Value), BindsTo s fd ⟨[u], []⟩ [(x, u)]) ∧
        ∀ base : Heap, (K w.params).In base → base.Ns mainGlobals mg → FnOk l.prog w (K w.params) mg base (CX w) k fa fd [x] (sp w))
    (hsp : ∀ (w : World) (H : Hp) (a : Addr) (ns : List Int), ns.length ≤ n → Only H → SqL (K w.params) H a (ns.map V.int) → sp w [.ref a] H (fun v _ => v = .bl true) fun _ _ _ => False)
    (hCX : ∀ (w : World) (H : Hp) (s : Shared) (e : Value) (s' : Shared), CX w [] H s (fun _ _ _ => False) e s' → False) :
    PySem.W.WalkO q loose XP YP l.row.toRowW d [] (fun f vs => PySem.call f vs) := by
  refine Att.attach_call hn hdf fun w s₀ s₁ mg mb fa o pm cd doc a vs ns G Y ho hd hcd hmg hobj hints hlen hg => ?_
  have KX := hY w _ Y
  obtain ⟨fd, hb, hF⟩ := F w mg fa _ KX G.T.g hmg
  exact law_call KX G.T.g G.T.b G.T.builtins G.T.nolimit hg hobj hints (Nat.le_trans hlen hn2) hr hF hb (fun H hO hS => hsp w H a ns hlen hO hS) fun H e s' => hCX w H s₁ e s'
end L2

/- THE LAST THEOREM (shape; LID, My.* are yours):
   My.Adr: a structure of the addresses that your layer names (classes, functions); My.Txt K t: a structure (Prop) of the equations over K;
   My.txt_mk : {K} {implicit addresses ..} (e1 : nsIn K mainGlobals "law" = some (some (.ref f))) (e2 : K.lookup f = some ⟨oc, od, .func (fnOf "law" "law" params body scope dV kV doc pm an cdv ct), sl⟩) (e3 : codeIn K cdv "law" = true) .. : ∃ t, My.Txt K t

set_option maxRecDepth 100000 in
set_option maxHeartbeats 0 in
theorem PySem.Challenge.cw_LID_holds : PySem.Challenge.rw_LID.Holds := by
  w_on; o_law; k_head; (case hw => w_witness2)
  k_fill
  refine L2.walk_of (l := PySem.Challenge.rw_LID) (n := 63) (k := 40) (x := "script") (CX := fun w => ..) (sp := fun _ => My.sp_law) rfl (by decide) rfl ⟨rfl, by decide, by decide⟩ (fun w h Y => PySem.W.kIn_of Y) ?F ?S ?C
  case F =>
    intro w mg fa h KX G hmg
    have T : ∃ t, My.Txt (L2.KOf KX) t := by
      dsimp only [L2.KOf]                          -- K must stand as «<heap const> w.params» for k_is
      refine' My.txt_mk ?e1 ?e2 ?e3 ..
      (case e1 => PySem.W.k_is)                    -- in the order: a name -> its address -> its object -> its parts
      (case e2 => PySem.W.k_is)
      ..
    obtain ⟨t, T⟩ := T
    have e0 := hmg.symm.trans (PySem.W.mg_of KX G T.law)
    cases e0                                       -- fa is the law's own address
    exact ⟨_, fun s u => .of_eq rfl, fun base kb nb => My.law_fn T kb nb⟩     -- if «.of_eq rfl» comes too early: refine' ⟨_, ?b, fun base kb nb => My.law_fn T kb nb⟩; exact fun s u => .of_eq rfl
  case S => exact fun w H a ns hl hO hS => ..
  case C => exact ..
(the tactic k_is has no namespace: write k_is) -/

/-! SHORT WORDS over the layer: a def of the text, its body, what a loop and a test want. -/
namespace L2
open PySem PySem.Spec PyProof.Rows

/-! ### the text by places -/
/-- the j-th statement of a class's body -/
def inClass (s : Stmt) (j : Nat) : Stmt := match s with
  | .ClassDef _ _ _ body _ _ _ _ _ _ _ => body.getD j (.Pass ⟨0, 0, 0, 0⟩)
  | _ => .Pass ⟨0, 0, 0, 0⟩
def defArgs (s : Stmt) : Arguments := match s with
  | .FunctionDef _ a _ _ _ _ _ _ _ _ => a
  | _ => { posonlyargs := [], args := [], vararg := none, kwonlyargs := [], kw_defaults := [], kwarg := none, defaults := [] }
def defBody (s : Stmt) : List Stmt := match s with
  | .FunctionDef _ _ b _ _ _ _ _ _ _ => b
  | _ => []
def defScope (s : Stmt) : Scope := match s with
  | .FunctionDef _ _ _ _ _ _ sc _ _ _ => sc
  | _ => { kind := .function, names := [], isGenerator := false, isCoroutine := false }

/-! ### no exception leaves a def -/
abbrev CX0 : CXT := fun _ _ _ _ _ _ => False
abbrev E0 : XK := fun _ _ _ => False
theorem pass0 {X : Cx} : Passes CX0 X E0 := fun _ _ _ _ _ _ _ h => h.elim

/-! ### a def (or method) of the text as it stands behind the top -/
structure Fun (K : PySem.W.Frag) (x qual : Str) (st : Stmt) (f : Addr) (fd : FuncData) : Prop where
  ex : ∃ (oc : Value) (od : Option Addr) (kV doc pm : Value) (an : Option Addr) (cdv ct : Value) (osl : Array (Option Value)),
    fd = PySem.W.fnOf x qual (defArgs st) (defBody st) (defScope st) .none kV doc pm an cdv ct ∧ K.lookup f = some ⟨oc, od, .func fd, osl⟩ ∧ PySem.W.codeIn K cdv qual = true
  kp : PySem.W.keepIn K (.ref f) = true
section
variable {P : Program} {w : World} {K : PySem.W.Frag} {mg : Str → Option Value} {base : Heap}
/-- THE RULE for a def: its body as a term of rules, and the reading of that term -/
theorem Fun.ok {x qual : Str} {st : Stmt} {f : Addr} {fd : FuncData} {N ps : List Str} {k : Nat} {sp : Sp} (F : Fun K x qual st f fd) (S : FnScope N ps (defScope st)) (len : ∀ vs H Q E, sp vs H Q E → vs.length = ps.length)
    (hbody : ∀ (cdv : Value) (A : Around) (outer : List Env) (s : Shared) (H : Hp) (vs : List V) (Q : VK) (E : XK), Room k (A.deeper (envOfC qual (defScope st) s.heap.objs.size f cdv)) → sp vs H Q E →
      ∃ t, PSs (cxOf CX0 P w K mg base N qual (defScope st) f cdv A outer s H E).nox (defBody st) t ∧ t { nx := fun _ H' => Q .non H', rt := Q } (start N vs) H) : FnOk P w K mg base CX0 (k + 1) f fd ps sp := by
  obtain ⟨oc, od, kV, doc, pm, an, cdv, ct, osl, rfl, lk, hcd⟩ := F.ex
  refine fn_of lk hcd S len fun A outer s H vs Q E hr hsp => ?_
  obtain ⟨t, h, q⟩ := hbody cdv A outer s H vs Q E hr hsp
  exact ⟨t, h.nox, q⟩
/-- how its arguments bind (no defaults): h is «fun _ _ _ _ _ _ us hl => match us, hl with | [_, _], _ => rfl», one _ a parameter -/
theorem Fun.binds {x qual : Str} {st : Stmt} {f : Addr} {fd : FuncData} {ps : List Str} (F : Fun K x qual st f fd)
    (h : ∀ (kV doc pm : Value) (an : Option Addr) (cdv ct : Value) (us : List Value), us.length = ps.length → bindArgs (PySem.W.fnOf x qual (defArgs st) (defBody st) (defScope st) .none kV doc pm an cdv ct) ⟨us, []⟩ = pure (ps.zip us)) : Binds K fd ps [] := by
  obtain ⟨oc, od, kV, doc, pm, an, cdv, ct, osl, rfl, lk, hcd⟩ := F.ex
  exact .all (h kV doc pm an cdv ct)
theorem fun_mk {x qual : Str} {st : Stmt} {f : Addr} {oc : Value} {od an : Option Addr} {osl : Array (Option Value)} {kV doc pm cdv ct : Value} (l : K.lookup f = some ⟨oc, od, .func (PySem.W.fnOf x qual (defArgs st) (defBody st) (defScope st) .none kV doc pm an cdv ct), osl⟩)
    (c : PySem.W.codeIn K cdv qual = true) (k : PySem.W.keepIn K (.ref f) = true) : Fun K x qual st f (PySem.W.fnOf x qual (defArgs st) (defBody st) (defScope st) .none kV doc pm an cdv ct) := ⟨⟨oc, od, kV, doc, pm, an, cdv, ct, osl, rfl, l, c⟩, k⟩
end
theorem small1000 {n : Nat} (h : n ≤ 1000) : n < sizeLine := Nat.lt_of_le_of_lt h (by decide)

/-! ### expressions in short: the name that stands in the i-th slot -/
section
variable {X : Cx}
theorem pv (i : Nat) {x : Str} {pos : Pos} (hN : X.N[i]? = some x := by rfl) (hv : Vis X.env.scope x := by first | exact Or.inl rfl | exact Or.inr (Or.inl rfl) | exact Or.inr (Or.inr rfl)) (hd : (x == ("__debug__" : Str)) = false := by decide)
    (hcd : (x == ("__classdict__" : Str)) = false := by decide) : PE X (.Name x pos) (tVar i) := pe_var hN hv hd hcd
end

/-! ### tests -/
theorem iteF {A B : Prop} (h : B) : if false = true then A else B := by
  rw [if_neg Bool.false_ne_true]
  exact h
theorem iteT {A B : Prop} (h : A) : if true = true then A else B := by
  rw [if_pos rfl]
  exact h
theorem ite2 {c A B : Prop} [Decidable c] (h1 : c → A) (h2 : ¬ c → B) : if c then A else B := by
  by_cases h : c
  · rw [if_pos h]
    exact h1 h
  · rw [if_neg h]
    exact h2 h
/-! ### heaps -/
/-- all that was tracked is as it was -/
def Same (H H' : Hp) : Prop := ∀ b o, H b = some o → H' b = some o
theorem Same.refl (H : Hp) : Same H H := fun _ _ h => h
theorem Same.trans {H H1 H2 : Hp} (a : Same H H1) (b : Same H1 H2) : Same H H2 := fun c o h => b c o (a c o h)
theorem Same.free {H H' : Hp} (e : Same H H') {l : Addr} (h : H' l = Option.none) : H l = Option.none := by
  cases q : H l with
  | none => rfl
  | some o =>
    rw [e l o q] at h
    cases h
theorem Same.seq {K : PySem.W.Frag} {H H' : Hp} {a : Addr} {xs : List V} (e : Same H H') (h : SqL K H a xs) : SqL K H' a xs := by
  rcases h with (h | ⟨o, h⟩) | h
  · exact .inl (.inl (e _ _ h))
  · exact .inl (.inr ⟨o, e _ _ h⟩)
  · exact .inr h

end L2

set_option maxHeartbeats 4000000

/-! EXT: ints of any size, isinstance, defs by their names -/
namespace L2
open PySem PySem.Spec PyProof.Rows
theorem bits_le {k : Int} {n : Nat} (h : k.natAbs < 2 ^ n) : Builtin.Int.intBits k ≤ n := by
  unfold Builtin.Int.intBits
  split
  · exact Nat.zero_le _
  · rename_i h0
    have hk : k.natAbs ≠ 0 := by
      intro z
      apply h0
      have : k = 0 := by omega
      simp [this]
    have : k.natAbs.log2 < n := (Nat.log2_lt hk).mpr h
    omega
theorem big_600 : 10 ^ 150 < 2 ^ 600 := by decide +kernel
theorem mul_fit {i j : Int} (h : i.natAbs ≤ 10 ^ 150) (h' : j.natAbs ≤ 10 ^ 150) : IntMulOk i j :=
  .of_bits (Nat.le_trans (bits_le (n := 600) (Nat.lt_of_le_of_lt h big_600)) (by decide)) (Nat.le_trans (bits_le (n := 600) (Nat.lt_of_le_of_lt h' big_600)) (by decide))
theorem log_fit {j : Int} (h : j.natAbs ≤ 10 ^ 150) : j.natAbs.log2 < 9000 := by
  rcases Nat.eq_zero_or_pos j.natAbs with z | z
  · rw [z]; decide
  · exact Nat.lt_trans ((Nat.log2_lt (Nat.ne_of_gt z)).mpr (Nat.lt_of_le_of_lt h big_600)) (by decide)
section
variable {X : Cx}
theorem op_mulO : OpR X (binaryOp .Mult) (rI IntMulOk fun i j => .int (i * j)) := opI fun _ _ _ _ _ _ _ hc q => mul_int q hc
theorem op_fdivO : OpR X (binaryOp .FloorDiv) (rI (fun _ j => j ≠ 0 ∧ j.natAbs ≤ 10 ^ 150) fun i j => .int (i.fdiv j)) := opI fun _ _ _ _ _ _ _ hc q => floordiv_int hc.1 q (.inl (PyProof.noPylong_of_log2 (log_fit hc.2)))
/-- a built-in type as a value -/
theorem pe_ty {x : Str} {T : String} {pos : Pos} (hg : Gl X x) (hm : X.mg x = none) (hv : bootBuiltins x = some (.type T)) (hn : x ≠ "__name__" := by decide) (hd : (x == ("__debug__" : Str)) = false := by decide) : PE X (.Name x pos) (tC (.ty T)) := pe_bltn hg hm hv rfl hn hd
/-- isinstance(x, T), T a built-in type -/
theorem call_isinst : CallR X (.builtin "isinstance") (fun xs H Q => ∃ x T t b, xs = [x, .ty T] ∧ TyOf X.K H x t ∧ PySem.W.kitOne X.K t (.type T) = some b ∧ Q (.bl b) H) := by
  intro pins s σ H xs us Q I r h
  obtain ⟨x, T, t, b, rfl, ty, hk, q⟩ := h
  obtain ⟨u, w', rfl, r1, r2⟩ := vals2 r
  cases r2
  exact isinst_ok I r1 ty hk fun tk => ⟨.bl b, H, I.tok _, rfl, q⟩
end
theorem kit_same (K : PySem.W.Frag) (t : Value) (h : (t == t) = true := by rfl) : PySem.W.kitOne K t t = some true := by
  unfold PySem.W.kitOne
  rw [if_pos h]
theorem kit_type (K : PySem.W.Frag) {t T : String} {b : Bool} (h0 : ((Value.type t) == (Value.type T)) = false) (h1 : PySem.W.kitMeta T = true) (h : (PySem.fastBuiltinMro t).map (·.contains (Value.type T)) = some b) : PySem.W.kitOne K (.type t) (.type T) = some b := by
  unfold PySem.W.kitOne PySem.W.kitCls
  rw [if_neg (by rw [h0]; exact Bool.false_ne_true)]
  show (if PySem.W.kitMeta T = true then PySem.W.subIn K (Value.type t) (Value.type T) else none) = some b
  rw [if_pos h1]
  exact h
theorem kit_int_bool (K : PySem.W.Frag) : PySem.W.kitOne K (.type "int") (.type "bool") = some false := kit_type K (by decide +kernel) (by decide +kernel) (by decide +kernel)
/-! ### tests on ints -/
section
variable {A B : Prop}
theorem if_dec {p : Prop} [Decidable p] (h1 : p → A) (h2 : ¬ p → B) : if decide p = true then A else B := ite2 (fun c => h1 (of_decide_eq_true c)) fun c => h2 (of_decide_eq_false (Bool.eq_false_iff.mpr c))
theorem if_ndec {p : Prop} [Decidable p] (h1 : ¬ p → A) (h2 : p → B) : if (!decide p) = true then A else B := by
  by_cases h : p
  · rw [decide_eq_true h]; exact iteF (h2 h)
  · rw [decide_eq_false h]; exact iteT (h1 h)
theorem if_eqI {a b : Int} (h1 : a = b → A) (h2 : a ≠ b → B) : if decide (V.int a = V.int b) = true then A else B := if_dec (fun e => h1 (V.int.inj e)) fun e => h2 fun z => e (by rw [z])
theorem if_neI {a b : Int} (h1 : a ≠ b → A) (h2 : a = b → B) : if (!decide (V.int a = V.int b)) = true then A else B := if_ndec (fun e => h1 fun z => e (by rw [z])) fun e => h2 (V.int.inj e)
end
theorem eqI_true {a b : Int} (h : a = b) : decide (V.int a = V.int b) = true := decide_eq_true (by rw [h])
theorem eqI_iff (a b : Int) : decide (V.int a = V.int b) = decide (a = b) := by
  by_cases h : a = b
  · rw [decide_eq_true h, eqI_true h]
  · rw [decide_eq_false h, decide_eq_false fun z => h (V.int.inj z)]

/-! ### defs by their names -/
structure Here (K : PySem.W.Frag) (mg : Str → Option Value) (x : Str) (st : Stmt) : Prop where
  ex : ∃ (f : Addr) (fd : FuncData), Fun K x x st f fd ∧ mg x = some (.ref f)
structure Has (P : Program) (w : World) (K : PySem.W.Frag) (mg : Str → Option Value) (base : Heap) (x : Str) (k : Nat) (ps : List Str) (sp : Sp) : Prop where
  ex : ∃ (f : Addr) (fd : FuncData), FnOk P w K mg base CX0 k f fd ps sp ∧ mg x = some (.ref f) ∧ PySem.W.keepIn K (.ref f) = true ∧ Binds K fd ps []
section
variable {P : Program} {w : World} {K : PySem.W.Frag} {mg : Str → Option Value} {base : Heap} {x : Str} {st : Stmt} {k j : Nat} {ps : List Str} {sp : Sp}
theorem Has.mono (h : Has P w K mg base x j ps sp) (e : j ≤ k) : Has P w K mg base x k ps sp :=
  let ⟨f, fd, a, b, c, d⟩ := h.ex
  ⟨f, fd, a.mono e, b, c, d⟩
theorem Here.has (h : Here K mg x st) (b : ∀ f fd, Fun K x x st f fd → Binds K fd ps []) (ok : ∀ f fd, Fun K x x st f fd → FnOk P w K mg base CX0 k f fd ps sp) : Has P w K mg base x k ps sp :=
  let ⟨f, fd, F, m⟩ := h.ex
  ⟨f, fd, ok f fd F, m, F.kp, b f fd F⟩
theorem here_mk {h : Heap} {f : Addr} {oc : Value} {od an : Option Addr} {osl : Array (Option Value)} {kV doc pm cdv ct : Value} (X : K.In h) (G : h.Ns mainGlobals mg) (a : PySem.W.nsIn K mainGlobals x = some (some (.ref f)))
    (l : K.lookup f = some ⟨oc, od, .func (PySem.W.fnOf x x (defArgs st) (defBody st) (defScope st) .none kV doc pm an cdv ct), osl⟩)
    (c : PySem.W.codeIn K cdv x = true) (k : PySem.W.keepIn K (.ref f) = true) : Here K mg x st := ⟨f, _, fun_mk l c k, PySem.W.mg_of X G a⟩
end
theorem pe_has {X : Cx} {x : Str} {k : Nat} {ps : List Str} {sp : Sp} {e : Expr} {es : List Expr} {t : TA} {p pos : Pos} (h : Has X.prog X.w X.K X.mg X.base x k ps sp) (hr : Room k X.A) (hg : Gl X x) (ha : PA X (e :: es) t) (hdb : (x == ("__debug__" : Str)) = false := by decide)
    (he : starEach (e :: es) X.env = (false, eval e X.env) :: starEach es X.env := by rfl) (hpl : (backTo pos (starEach es X.env)).any (·.1) = false := by rfl) : PE X (.Call (.Name x p) (e :: es) [] pos) (tCall sp [] E0 t) := by
  obtain ⟨f, fd, F, hm, hk, hb⟩ := h.ex
  exact pe_call F hr hg hm hk hb .nil pass0 ha hdb he hpl
theorem same_new {H : Hp} {p : Addr} (h : H p = none) (o : HO) : Same H (upd H p o) := fun b u q => by rw [upd_ne (ne_of_none q h)]; exact q
theorem Same.tup {K : PySem.W.Frag} {H H' : Hp} {a : Addr} {xs : List V} (e : Same H H') (h : SqT K H a xs) : SqT K H' a xs := by
  rcases h with (h | ⟨o, h⟩) | h
  · exact .inl (.inl (e _ _ h))
  · exact .inl (.inr ⟨o, e _ _ h⟩)
  · exact .inr h
end L2


/-! COMP: a list comprehension of one clause, without tests -/
namespace L2
open PySem PySem.Spec PyProof.Rows
def clOf (cells : List (Str × Addr)) : List (Str × NameKind) → List (Str × Addr) → List (Str × Addr)
  | [], cs => cs
  | (n, k) :: r, cs => clOf cells r (if k = NameKind.free then (match cells.lookup n with | some a => (n, a) :: cs | none => cs) else cs)
theorem clOf_sub {cells : List (Str × Addr)} : ∀ (ns : List (Str × NameKind)) (cs : List (Str × Addr)), (∀ p ∈ cs, cells.lookup p.1 = some p.2) → ∀ p ∈ clOf cells ns cs, cells.lookup p.1 = some p.2
  | [], _, h => h
  | (n, k) :: r, cs, h => by
    refine clOf_sub r _ fun p hp => ?_
    by_cases hk : k = NameKind.free
    · rw [if_pos hk] at hp
      cases e : cells.lookup n with
      | none => rw [e] at hp; exact h p hp
      | some a =>
        rw [e] at hp
        rcases List.mem_cons.mp hp with rfl | hp
        · exact e
        · exact h p hp
    · rw [if_neg hk] at hp
      exact h p hp
theorem clOf_old {cells : List (Str × Addr)} : ∀ (ns : List (Str × NameKind)) (cs : List (Str × Addr)), ∀ p ∈ cs, p ∈ clOf cells ns cs
  | [], _, _, h => h
  | (n, k) :: r, cs, p, h => by
    refine clOf_old r _ p ?_
    by_cases hk : k = NameKind.free
    · rw [if_pos hk]
      cases e : cells.lookup n with
      | none => exact h
      | some a => exact List.mem_cons_of_mem _ h
    · rw [if_neg hk]; exact h
theorem clOf_has {cells : List (Str × Addr)} {x : Str} : ∀ (ns : List (Str × NameKind)) (cs : List (Str × Addr)), (x, NameKind.free) ∈ ns → (∃ c, cells.lookup x = some c) → ∃ c, (x, c) ∈ clOf cells ns cs
  | (n, k) :: r, cs, h, hc => by
    rcases List.mem_cons.mp h with e | h
    · cases e
      obtain ⟨c, hc⟩ := hc
      refine ⟨c, clOf_old r _ _ ?_⟩
      rw [if_pos rfl, hc]
      exact List.mem_cons_self
    · exact clOf_has r _ h hc
theorem lookup_of_mem {β : Type} {x : Str} {c : β} : ∀ {l : List (Str × β)}, (x, c) ∈ l → ∃ d, l.lookup x = some d
  | (n, a) :: r, h => by
    by_cases hx : x = n
    · exact ⟨a, by simp [List.lookup_cons, hx]⟩
    · rcases List.mem_cons.mp h with e | h
      · cases e; exact absurd rfl hx
      · obtain ⟨d, hd⟩ := lookup_of_mem h
        refine ⟨d, ?_⟩
        have hb : (x == n) = false := beq_eq_false_iff_ne.mpr hx
        simp only [List.lookup_cons, hb]
        exact hd
theorem closure_go {env : Env} {α : Type} (k : List (Str × Addr) → Sem α) : ∀ (ns : List (Str × NameKind)) (cs : List (Str × Addr)), (∀ y, (y, NameKind.free) ∈ ns → ∃ c, env.cells.lookup y = some c) →
    (forIn ns cs (fun (x : Str × NameKind) (r : List (Str × Addr)) => if (x.2 == NameKind.free) = true then (do let a ← cellOf env x.1; pure (ForInStep.yield ((x.1, a) :: r))) else pure (ForInStep.yield r)) : Sem _) = pure (clOf env.cells ns cs)
  | [], cs, _ => rfl
  | (n, kd) :: r, cs, h => by
    have ih := fun cs => closure_go k r cs fun y hy => h y (List.mem_cons_of_mem _ hy)
    rw [List.forIn_cons]
    by_cases hk : kd = NameKind.free
    · subst hk
      obtain ⟨c, hc⟩ := h n List.mem_cons_self
      show ((cellOf env n >>= fun a => pure (ForInStep.yield ((n, a) :: cs))) >>= _ : Sem _) = _
      have hce : cellOf env n = pure c := by unfold cellOf; rw [hc]
      rw [hce]
      show (forIn r ((n, c) :: cs) _ : Sem _) = _
      rw [ih]
      show _ = pure (clOf env.cells r (if NameKind.free = NameKind.free then (match env.cells.lookup n with | some a => (n, a) :: cs | none => cs) else cs))
      rw [if_pos rfl, hc]
    · have hb : (kd == NameKind.free) = false := by simpa using hk
      show ((if (kd == NameKind.free) = true then (do let a ← cellOf env n; pure (ForInStep.yield ((n, a) :: cs))) else pure (ForInStep.yield cs)) >>= _ : Sem _) = _
      rw [hb, if_neg Bool.false_ne_true]
      show (forIn r cs _ : Sem _) = _
      rw [ih]
      show _ = pure (clOf env.cells r (if kd = NameKind.free then _ else cs))
      rw [if_neg hk]
theorem closure_eq {scope : Scope} {env : Env} (h : ∀ y, (y, NameKind.free) ∈ scope.names → ∃ c, env.cells.lookup y = some c) : closureFor scope env = pure (clOf env.cells scope.names []) := by
  unfold closureFor
  have := closure_go (env := env) (α := List (Str × Addr)) pure scope.names [] h
  show (forIn scope.names [] (fun (x : Str × NameKind) (r : List (Str × Addr)) => if (x.2 == NameKind.free) = true then (do let a ← cellOf env x.1; pure (ForInStep.yield ((x.1, a) :: r))) else pure (ForInStep.yield r)) >>= fun cs => pure cs : Sem _) = _
  rw [this]
  rfl
theorem free_has {scope : Scope} {env : Env} (h : (scope.names.all fun y => !(y.2 == NameKind.free) || (env.cells.lookup y.1).isSome) = true) : ∀ y, (y, NameKind.free) ∈ scope.names → ∃ c, env.cells.lookup y = some c := fun y hy => by
  have e : (env.cells.lookup y).isSome = true := List.all_eq_true.mp h (y, NameKind.free) hy
  exact Option.isSome_iff_exists.mp e
/-- the names that the clause's block takes from outside: their slots there and their names -/
def CapsOk (X : Cx) (scope : Scope) : List (Nat × Str) → Prop
  | [] => True
  | p :: r => (X.N[p.1]? = some p.2 ∧ scope.names.lookup p.2 = some .free ∧ (X.env.kindOf p.2 = some .cell ∨ X.env.kindOf p.2 = some .free)) ∧ CapsOk X scope r
theorem CapsOk.mem {X : Cx} {scope : Scope} : ∀ {caps : List (Nat × Str)}, CapsOk X scope caps → ∀ p ∈ caps, X.N[p.1]? = some p.2 ∧ scope.names.lookup p.2 = some .free ∧ (X.env.kindOf p.2 = some .cell ∨ X.env.kindOf p.2 = some .free)
  | [], _, _, h => nomatch h
  | _ :: _, ⟨h1, h2⟩, p, h => by
    rcases List.mem_cons.mp h with rfl | h
    · exact h1
    · exact h2.mem p h
/-- the block's context -/
def compCx (X : Cx) (scope : Scope) (N : List Str) (s₀ : Shared) (H₀ : Hp) (C : Addr) (fp : List Addr) : Cx where
  prog := X.prog
  w := X.w
  K := X.K
  mg := X.mg
  base := X.base
  A := X.A
  N := N
  s₀ := s₀
  H₀ := H₀
  env := compEnvC scope (clOf X.env.cells scope.names []) C X.env
  outer := X.stack
  stack := X.stack
  ex := fp
  fn := fun _ => false
  calm := X.calm
  pn := []
  xe := fun _ _ => False
/-- the block's slots at a turn's start: its own k names, then those from outside -/
def st0 (k : Nat) (caps : List (Nat × Str)) (σ : St) : St := List.replicate k none ++ caps.map fun p => (σ[p.1]?).join
/-- one turn of the comprehension's loop -/
theorem compLoop_own {prog : Program} {w : World} {A : Around} {R : Result → Shared → Prop} {s : Shared} {elt target iter : Expr} {scope : Scope} {pos : Pos} {it acc : Value} {env : Env} (I : Nat → Shared → Prop)
    (turn : ∀ n s, I n s → wpAny (model prog w) A (pyNext it) (fun r s₁ => match r with
      | none => R (.ok .next) s₁
      | some v => wpAny (model prog w) A (letOwnedTupleGo target it v) (fun _ s₁ => wpAny (model prog w) A (assign target env v) (fun _ s₂ => wpAny (model prog w) A (eval elt env) (fun x s₃ =>
          wpAny (model prog w) A (call (.builtin "list.append") [acc, x]) (fun _ s₄ => ∃ m, m < n ∧ I m s₄) (fun _ _ => False) s₃)
          (fun _ _ => False) s₂) (fun _ _ => False) s₁) (fun _ _ => False) s₁) (fun _ _ => False) s)
    (n : Nat) (h : I n s) :
    codeAny (model prog w) A (.compLoop (.ListComp elt [⟨target, iter, [], 0⟩] scope pos) 0 it acc env) R s := by
  refine codeAny_loop rfl I (fun n s hI => ?_) n h
  show wpAny _ _ ((compTurn (.ListComp elt [⟨target, iter, [], 0⟩] scope pos) 0 it acc env).onRaise (fun x => do noteFrame x env; theTreesLotGoes x)) _ _ s
  refine wpAny_noted ?_
  rw [compTurn_list1]
  refine wpAny_bind (wpAny_standAt (wpAny_bind (wpAny_mono (turn n s hI) (fun r s₁ h₁ => ?_) fun _ _ h' => False.elim h')))
  cases r with
  | none => exact wpAny_pure h₁
  | some v =>
    refine wpAny_bind (wpAny_mono h₁ (fun _ s₁ h₁ => ?_) fun _ _ h' => False.elim h')
    exact wpAny_bind (wpAny_mono h₁ (fun _ s₂ h₂ => wpAny_bind (wpAny_bind (wpAny_mono h₂ (fun x s₃ h₃ => wpAny_bind (wpAny_mono h₃
      (fun _ s₄ h₄ => wpAny_pure (wpAny_pure ⟨rfl, h₄⟩)) fun _ _ h' => False.elim h')) fun _ _ h' => False.elim h'))) fun _ _ h' => False.elim h')
/-- what a comprehension reads as -/
def tCompB (k : Nat) (caps : List (Nat × Str)) (g : TG) (te : TE) (σ : St) (J : It) (H : Hp) (Q : List V → Hp → Prop) : Prop :=
  ∃ W : Nat → Nat → List V → Hp → Prop, (∃ m, W 0 m [] H) ∧ ∀ i m ys H', W i m ys H' → ys.length ≤ sizeLine ∧ ((J.stop i H' ∧ Q ys H') ∨
    (J.go i H' ∧ ys.length < sizeLine ∧ ∃ N : V → Hp → Prop, (∀ v H4, N v H4 → ∃ m', m' < m ∧ W (i + 1) m' (ys ++ [v]) H4) ∧
      ∀ x H2, J.yld i H' x H2 → g x (st0 k caps σ) H2 fun σ2 H3 => (∀ (i : Nat) v, (st0 k caps σ)[i]? = some (some v) → σ2[i]? = some (some v)) ∧ te σ2 H3 N))
def tComp (k : Nat) (caps : List (Nat × Str)) (wi : TI) (g : TG) (te : TE) : TE := fun σ H Q => wi σ H fun J H1 => tCompB k caps g te σ J H1 fun ys H2 => ∀ D, H2 D = none → Q (.ref D) (upd H2 D (.lst ys))
section
variable {X : Cx} {tg iter elt : Expr} {scope : Scope} {pos : Pos} {wi : TI} {g : TG} {te : TE} {own : List Str} {caps : List (Nat × Str)}
theorem relabel_kind {scope : Scope} {env : Env} {x : Str} (hx : scope.names.lookup x = some .free) : (relabel scope env).names.lookup x = some .cell ∨ (relabel scope env).names.lookup x = some .free := by
  unfold relabel
  show (scope.names.map _).lookup x = _ ∨ (scope.names.map _).lookup x = _
  generalize scope.names = ns at hx
  induction ns with
  | nil => simp at hx
  | cons p r ih =>
    obtain ⟨n, k⟩ := p
    rw [List.map_cons]
    by_cases hn : x = n
    · subst hn
      simp only [List.lookup_cons, beq_self_eq_true] at hx
      cases hx
      by_cases hc : ((NameKind.free == NameKind.free) && env.scope.kind == .function && env.kindOf x == some .cell) = true
      · left
        show List.lookup x ((if _ = true then (x, NameKind.cell) else (x, NameKind.free)) :: _) = _
        rw [if_pos hc]
        simp [List.lookup_cons]
      · right
        show List.lookup x ((if _ = true then (x, NameKind.cell) else (x, NameKind.free)) :: _) = _
        rw [if_neg hc]
        simp [List.lookup_cons]
    · have hb : (x == n) = false := beq_eq_false_iff_ne.mpr hn
      simp only [List.lookup_cons, hb] at hx
      have := ih hx
      show List.lookup x ((if _ = true then (n, NameKind.cell) else (n, k)) :: _) = _ ∨ List.lookup x ((if _ = true then (n, NameKind.cell) else (n, k)) :: _) = _
      split <;> (simp only [List.lookup_cons, hb]; exact this)
theorem relabel_back {scope : Scope} {env : Env} {x : Str} (hc : ∀ y ∈ scope.names, y.2 ≠ .cell) (hx : (relabel scope env).names.lookup x = some .cell ∨ (relabel scope env).names.lookup x = some .free) : (x, NameKind.free) ∈ scope.names := by
  unfold relabel at hx
  have hx : (scope.names.map fun (n, k) => if (k == NameKind.free && env.scope.kind == .function && env.kindOf n == some .cell) then (n, NameKind.cell) else (n, k)).lookup x = some .cell ∨ (scope.names.map fun (n, k) => if (k == NameKind.free && env.scope.kind == .function && env.kindOf n == some .cell) then (n, NameKind.cell) else (n, k)).lookup x = some .free := hx
  generalize scope.names = ns at hx hc
  induction ns with
  | nil => simp at hx
  | cons p r ih =>
    obtain ⟨n, k⟩ := p
    rw [List.map_cons] at hx
    have hr := fun z => ih z (fun y hy => hc y (List.mem_cons_of_mem _ hy))
    by_cases hn : x = n
    · subst hn
      by_cases hk : k = NameKind.free
      · subst hk; exact List.mem_cons_self
      · have hb : (k == NameKind.free) = false := by simpa using hk
        have hx' : List.lookup x ((x, k) :: List.map (fun (p : Str × NameKind) => match p with | (n, k) => if (k == NameKind.free && env.scope.kind == .function && env.kindOf n == some .cell) = true then (n, NameKind.cell) else (n, k)) r) = some .cell ∨ List.lookup x ((x, k) :: List.map (fun (p : Str × NameKind) => match p with | (n, k) => if (k == NameKind.free && env.scope.kind == .function && env.kindOf n == some .cell) = true then (n, NameKind.cell) else (n, k)) r) = some .free := by
          simpa [hb] using hx
        simp only [List.lookup_cons, beq_self_eq_true, Option.some.injEq] at hx'
        rcases hx' with e | e
        · exact absurd e (hc (x, k) List.mem_cons_self)
        · exact absurd e hk
    · have hb : (x == n) = false := beq_eq_false_iff_ne.mpr hn
      refine List.mem_cons_of_mem _ (hr ?_)
      have hx2 : List.lookup x ((if (k == NameKind.free && env.scope.kind == .function && env.kindOf n == some .cell) = true then (n, NameKind.cell) else (n, k)) :: List.map (fun (p : Str × NameKind) => match p with | (n, k) => if (k == NameKind.free && env.scope.kind == .function && env.kindOf n == some .cell) = true then (n, NameKind.cell) else (n, k)) r) = some .cell ∨ List.lookup x ((if (k == NameKind.free && env.scope.kind == .function && env.kindOf n == some .cell) = true then (n, NameKind.cell) else (n, k)) :: List.map (fun (p : Str × NameKind) => match p with | (n, k) => if (k == NameKind.free && env.scope.kind == .function && env.kindOf n == some .cell) = true then (n, NameKind.cell) else (n, k)) r) = some .free := hx
      split at hx2 <;> (simp only [List.lookup_cons, hb] at hx2; exact hx2)
end
end L2


namespace L2
open PySem PySem.Spec PyProof.Rows
section
variable {X : Cx} {tg iter elt : Expr} {scope : Scope} {pos : Pos} {wi : TI} {g : TG} {te : TE} {own : List Str} {caps : List (Nat × Str)}
/-- the block's context stands -/
theorem compCx_ok {pins : List (Addr × Obj)} {σ : St} {H : Hp} {s : Shared} {fp : List Addr} {C : Addr} {N : List Str} (I : Inv X pins σ H s) (hkind : scope.kind = .function) (hcell : ∀ y ∈ scope.names, y.2 ≠ .cell)
    (hfree : ∀ y, (y, NameKind.free) ∈ scope.names → ∃ c, X.env.cells.lookup y = some c) (hC : s.heap.objs.size ≤ C) (hf : ∀ b ∈ fp, FpOk X pins H b) (hlt : ∀ b ∈ fp, b < s.heap.objs.size) : (compCx X scope N s H C fp).Ok := by
  have sub : ∀ x c, (clOf X.env.cells scope.names []).lookup x = some c → X.env.cells.lookup x = some c := fun x c e => clOf_sub scope.names [] (fun p hp => (nomatch hp)) (x, c) (PySem.mem_of_lookup e)
  refine ⟨I.ok.mod, hkind, I.ok.glob, I.ok.blt, hC, fun x y c h1 h2 => I.ok.inj x y c (sub x c h1) (sub y c h2), fun x hx => ?_, fun x c h => (Bool.false_ne_true h).elim, I.ok.hd, I.ok.frames, .inl rfl, fun b hb => ⟨?_, fun x c e => (hf b hb).2.2.2.2.1 x c (sub x c e)⟩, I.bs, Nat.le_trans I.ok.bsz I.sz, fun b o e hb => ?_, fun b hb z => ?_, I.stack, I.stkFree⟩
  · obtain ⟨c, hc⟩ := clOf_has scope.names [] (relabel_back hcell hx) (hfree x (relabel_back hcell hx))
    exact lookup_of_mem hc
  · exact Nat.ne_of_lt (Nat.lt_of_lt_of_le (hlt b hb) hC)
  · rcases (hf b hb).2.2.2.1 with z | z
    · exact I.ok.noex b o e z
    · exact absurd (Nat.lt_of_lt_of_le (Heap.lt_size e) (Nat.le_trans I.ok.bsz z)) (Nat.lt_irrefl _)
  · rcases List.mem_cons.mp (I.stkSub b z) with e | e
    · exact (hf b hb).2.1 e
    · exact (hf b hb).2.2.1 e
theorem st0_len (k : Nat) (caps : List (Nat × Str)) (σ : St) : (st0 k caps σ).length = k + caps.length := by
  unfold st0
  rw [List.length_append, List.length_replicate, List.length_map]
theorem st0_get {k : Nat} {caps : List (Nat × Str)} {σ : St} {i : Nat} {v : V} (h : (st0 k caps σ)[i]? = some (some v)) : k ≤ i ∧ ∃ p, caps[i - k]? = some p ∧ σ[p.1]? = some (some v) := by
  unfold st0 at h
  by_cases hi : i < k
  · rw [List.getElem?_append_left (by rw [List.length_replicate]; exact hi), List.getElem?_replicate, if_pos hi] at h
    cases h
  · have hk : k ≤ i := Nat.not_lt.mp hi
    refine ⟨hk, ?_⟩
    rw [List.getElem?_append_right (by rw [List.length_replicate]; exact hk), List.length_replicate, List.getElem?_map] at h
    cases e : caps[i - k]? with
    | none => rw [e] at h; cases h
    | some p =>
      rw [e] at h
      refine ⟨p, rfl, ?_⟩
      have h' : (σ[p.1]?).join = some v := Option.some.inj h
      cases q : σ[p.1]? with
      | none => rw [q] at h'; cases h'
      | some o => rw [q] at h'; cases o with
        | none => cases h'
        | some w => cases h'; rfl
theorem comp_core {pins : List (Addr × Obj)} {σ : St} {H : Hp} {s : Shared} {fp : List Addr} {it : Addr} {tn : Nat → Heap → Prop} {J : It} {E : Value → Shared → Prop} {RR : Value → Addr → Result → Shared → Prop} {QL : List V → Hp → Prop}
    (I : Inv X pins σ H s) (hc : X.calm = true) (T : Turn X.prog X.w X.K tg J fp it tn) (st : tn 0 s.heap) (hf : ∀ b ∈ fp, FpOk X pins H b)
    (hkind : scope.kind = .function) (hcell : ∀ y ∈ scope.names, y.2 ≠ .cell) (hfree : ∀ y, (y, NameKind.free) ∈ scope.names → ∃ c, X.env.cells.lookup y = some c) (hcap : CapsOk X scope caps)
    (hg : ∀ s₀ H₀ C, PG (compCx X scope (own ++ caps.map (·.2)) s₀ H₀ C fp) tg g) (he : ∀ s₀ H₀ C, PE (compCx X scope (own ++ caps.map (·.2)) s₀ H₀ C fp) elt te)
    (hB : tCompB own.length caps g te σ J H QL)
    (fin : ∀ D C s' m ys H', s.heap.objs.size ≤ C → D ≠ C → s'.heap.Ns C m → Inv X pins σ (upd H' D (.lst ys)) s' → H' D = none → H' C = none → QL ys H' → RR (.ref D) C (.ok .next) s') :
    wpAny (model X.prog X.w) X.A (newList []) (fun acc s₃ => wpAny (model X.prog X.w) X.A (newFunctionEnv scope X.env.globals (clOf X.env.cells scope.names []) [] X.env.qual none .none (some X.env)) (fun cenv s₄ =>
      codeAny (model X.prog X.w) X.A (.compStart (.ListComp elt [⟨tg, iter, [], 0⟩] scope pos) 0 (.ref it) acc { cenv with scope := relabel scope X.env }) (RR acc cenv.locals) s₄) E s₃) E s := by
  refine wpAny_newObj_type (wpAny_newFunctionEnv hcell (by intro y hy; simp at hy) (fun h₁ hns₁ hsb₁ => ?_) hkind)
  dsimp only at hns₁ hsb₁ ⊢
  generalize hH2 : s.heap.push { cls := .type "list", dict := none, data := .seq ([] : List Value).toArray } = H2 at hns₁ hsb₁ ⊢
  have hC : H2.objs.size = s.heap.objs.size + 1 := by rw [← hH2, Heap.size_push]
  generalize hCC : H2.objs.size = C at *
  have hCle : s.heap.objs.size ≤ C := by rw [hC]; exact Nat.le_succ _
  generalize hDD : s.heap.objs.size = D at *
  have hDC : D ≠ C := by rw [hC]; exact Nat.ne_of_lt (Nat.lt_succ_self _)
  have below : ∀ b, b < D → b ≠ C ∧ b ≠ D := fun b hb => ⟨by rw [hC]; exact Nat.ne_of_lt (Nat.lt_succ_of_lt hb), Nat.ne_of_lt hb⟩
  have lts : ∀ {b o}, s.heap.get? b = some o → b < D := fun {b o} e => by rw [← hDD]; exact Heap.lt_size e
  have old : ∀ b o, s.heap.get? b = some o → h₁.get? b = some o := fun b o e => hsb₁.extBut b o (below b (lts e)).1 (Heap.get?_push_of_some _ (hH2 ▸ Heap.get?_push_of_some _ e))
  have hacc : h₁.get? D = some { cls := .type "list", data := .seq ([] : List Value).toArray 0 } := hsb₁.extBut _ _ hDC (Heap.get?_push_of_some _ (hH2 ▸ (hDD ▸ Heap.get?_push_size _ rfl)))
  have hlt : ∀ b ∈ fp, b < D := fun b hb => let ⟨o, e, _⟩ := T.obj 0 _ st b hb; lts e
  have freshS : ∀ b, D ≤ b → s.heap.get? b = none := fun b hb => by
    cases e : s.heap.get? b with
    | none => rfl
    | some o => exact absurd (lts e) (Nat.not_lt.mpr hb)
  have nH : ∀ b, D ≤ b → H b = none := fun b hb => I.hok.fresh (by rw [hDD]; exact hb)
  let Y : Cx := compCx X scope (own ++ caps.map (·.2)) s H C fp
  have okY : Y.Ok := compCx_ok I hkind hcell hfree (by rw [hDD]; exact hCle) hf (by rw [hDD]; exact hlt)
  have sub : ∀ x c, (clOf X.env.cells scope.names []).lookup x = some c → X.env.cells.lookup x = some c := fun x c e => clOf_sub scope.names [] (fun p hp => (nomatch hp)) (x, c) (PySem.mem_of_lookup e)
  have celllt : ∀ x c, X.env.cells.lookup x = some c → c < D := fun x c e => by
    obtain ⟨v, o, ho, _⟩ := I.cell x c e
    exact lts ho
  have stklt : ∀ b ∈ frs X.stack, b < D := fun b hb => by
    rcases List.mem_cons.mp (I.stkSub b hb) with e | e
    · rw [e, ← hDD]; exact I.lt
    · obtain ⟨_, o, ho, _⟩ := I.funs.mem e
      exact lts ho
  -- the block's own invariant at its start
  have I0 : Inv Y [] (st0 own.length caps σ) H { s with heap := h₁, toks := s.toks + ([] : List (Str × Value)).length } := by
    refine ⟨okY, rfl, I.bare, Un.kept old, ⟨_, hns₁, fun i x v h1 h2 h3 => ?_⟩, fun x c e => ?_, nH C hCle, fun x c e => I.freeC x c (sub x c e), fun p hp => ?_, I.hok.kept old, ?_⟩
    · obtain ⟨hk, p, hp, hv⟩ := st0_get h2
      have h1' : caps[i - own.length]?.map (·.2) = some x := by
        have : (own ++ caps.map (·.2))[i]? = some x := h1
        rw [List.getElem?_append_right hk, List.getElem?_map] at this
        exact this
      rw [hp] at h1'
      cases h1'
      obtain ⟨q1, q2, q3⟩ := hcap.mem p (List.mem_of_getElem? hp)
      obtain ⟨m, hn, hl⟩ := I.loc
      obtain ⟨u, r, l⟩ := hl p.1 p.2 v q1 hv (by rcases q3 with z | z; exact .inr (.inl z); exact .inr (.inr z))
      refine ⟨u, r, .inr ⟨relabel_kind q2, ?_⟩⟩
      rcases l with ⟨z, _⟩ | ⟨_, c, hc', z⟩
      · rcases q3 with y | y <;> (rw [y] at z; cases z)
      · have hm : (p.2, NameKind.free) ∈ scope.names := PySem.mem_of_lookup q2
        obtain ⟨d, hd⟩ := clOf_has scope.names [] hm ⟨c, hc'⟩
        obtain ⟨d', hd'⟩ := lookup_of_mem hd
        have e := sub _ _ hd'
        rw [hc'] at e
        cases e
        obtain ⟨oc, ho, hdt⟩ := z
        exact ⟨c, hd', oc, old _ _ ho, hdt⟩
    · obtain ⟨v, o, ho, hd⟩ := I.cell x c (sub x c e)
      exact ⟨v, o, old _ _ ho, hd⟩
    · exact absurd (show p ∈ ([] : List (Addr × Obj)) from hp) (by simp)
    · rw [st0_len]
      show _ = (own ++ caps.map (·.2)).length
      rw [List.length_append, List.length_map]
  have pinD : ∀ {its : List Value} {n : Nat} {σ' : St} {H' : Hp} {s' : Shared}, Inv Y [] σ' H' s' → H' D = none → s'.heap.get? D = some { cls := .type "list", data := .seq its.toArray n } → Inv Y [(D, { cls := .type "list", data := .seq its.toArray n })] σ' H' s' := fun {its n σ' H' s'} J hn e =>
    J.pins_of fun p hp => by
      have ep : p = (D, { cls := .type "list", data := .seq its.toArray n }) := List.mem_singleton.mp hp
      subst ep
      refine ⟨e, hn, hDC, fun z => ?_, fun v z => by cases z⟩
      exact absurd (stklt D z) (Nat.lt_irrefl _)
  obtain ⟨W, ⟨m0, w0⟩, turn⟩ := hB
  have fpY : ∀ {H' : Hp} {pins' : List (Addr × Obj)}, (∀ b ∈ fp, H' b = none) → (∀ p ∈ pins', ∀ b ∈ fp, p.1 ≠ b) → ∀ b ∈ fp, FpOk Y pins' H' b := fun {H' pins'} hn hp b hb =>
    ⟨hn b hb, (okY.exf b hb).1, okY.exfs b hb, .inl hb, (okY.exf b hb).2, fun p q => hp p (by simpa [Y, compCx] using q) b hb⟩
  have loop : ∀ s₃ : Shared, s₃ = { s with heap := h₁, toks := s.toks + ([] : List (Str × Value)).length } →
      codeAny (model X.prog X.w) X.A (.compLoop (.ListComp elt [⟨tg, iter, [], 0⟩] scope pos) 0 (.ref it) (.ref D) (compEnvC scope (clOf X.env.cells scope.names []) C X.env)) (RR (.ref D) C) s₃ := by
    rintro s₃ rfl
    refine compLoop_own (fun k s' => ∃ (i : Nat) (ys : List V) (its : List Value) (n : Nat) (H' : Hp), Inv Y [(D, { cls := .type "list", data := .seq its.toArray n })] (st0 own.length caps σ) H' s' ∧ tn i s'.heap ∧ (∀ b ∈ fp, H' b = none) ∧ Vals ys its ∧ W i k ys H') ?_ m0
      ⟨0, [], [], 0, H, pinD I0 (nH D (Nat.le_refl _)) hacc, T.keep _ _ _ st fun b _ o e => old b o e, fun b hb => (hf b hb).1, .nil, w0⟩
    rintro k s3 ⟨i, ys, its, n, H3, I3, st3, fr3, rv, w3⟩
    obtain ⟨pD, nD, _⟩ := I3.pin (D, { cls := .type "list", data := .seq its.toArray n }) (List.mem_append_right _ List.mem_cons_self)
    have ff := fpY (pins' := [(D, { cls := .type "list", data := .seq its.toArray n })]) fr3 (fun p hp b hb => by
      rw [List.mem_singleton.mp hp]; exact (Ne.symm (below b (hlt b hb)).2))
    obtain ⟨hsz, turn⟩ := turn i k ys H3 w3
    rcases turn with ⟨stop, q⟩ | ⟨go, hsz', NN, hNN, step⟩
    · refine thn (T.done Y rfl rfl rfl hc i _ s3 _ H3 _ I3 ff st3 stop) fun r s4 ⟨hr, I4⟩ => ?_
      subst hr
      obtain ⟨m4, hn4, _⟩ := I4.loc
      obtain ⟨pD4, nD4, _⟩ := I4.pin (D, { cls := .type "list", data := .seq its.toArray n }) (List.mem_append_right _ List.mem_cons_self)
      refine fin D C s4 m4 ys H3 hCle hDC hn4 ?_ nD4 I4.free q
      have hk := I4.base
      have hok4 : HOk X.prog X.w H3 s4.heap := I4.hok
      have neD : ∀ b u, H3 b = some u → b ≠ D := fun b u e z => by rw [z, nD4] at e; cases e
      refine I.call' (ch := fp) I4.os ⟨fun b o e n hb hx => hk.keep b o e n hb hx, fun b o e n hb hx => hk.slot b o e n hb hx, fun b o e n hx => ?_, fun b o e hx => hk.there b o e hx, fun b xs e => ?_, fun b o u e => ?_, fun b ps e => ?_⟩ ?_ I4.bare ?_
      · rw [upd_ne (below b (lts e)).2]; exact hk.free b o e n hx
      · have := hk.tups b xs e
        rw [upd_ne (neD b _ this)]; exact this
      · have := hk.frzs b o u e
        rw [upd_ne (neD b _ this)]; exact this
      · obtain ⟨more, e'⟩ := hk.tbls b ps e
        exact ⟨more, by rw [upd_ne (neD b _ e')]; exact e'⟩
      · intro b u e
        by_cases hb : b = D
        · subst hb
          rw [upd_same] at e
          cases e
          exact ⟨hsz, its, n, rv, pD4⟩
        · rw [upd_ne hb] at e
          exact (hok4 b u e).stay (fun c v _ q => q) (fun c q => by rw [upd_ne (neD c _ q)]; exact q) fun c xs q => by rw [upd_ne (neD c _ q)]; exact q
      · intro b hb
        obtain ⟨_, f1, _, f3, f4, f5⟩ := hf b hb
        exact ⟨f3, f1, f4, f5⟩
    · refine thn (T.item Y rfl rfl rfl hc i _ s3 _ H3 _ I3 ff st3 go) fun r s4 ⟨u, hr, h4⟩ => ?_
      subst hr
      refine thn h4 fun _ s5 ⟨x, H5, I5, r5, y5, st5, fr5⟩ => ?_
      have ff5 := fpY (pins' := [(D, { cls := .type "list", data := .seq its.toArray n })]) fr5 (fun p hp b hb => by
        rw [List.mem_singleton.mp hp]; exact (Ne.symm (below b (hlt b hb)).2))
      have I5' := I5.pinned ff5 (T.obj _ _ st5)
      refine thn (hg s H C _ s5 _ H5 x u _ I5' r5 (step x H5 y5)) fun _ s6 ⟨σ6, H6, I6, wk, q6⟩ => ?_
      refine thn (he s H C _ s6 σ6 H6 _ I6 q6) fun y s7 ⟨v, H7, I7, r7, n7⟩ => ?_
      obtain ⟨m', hm, w7⟩ := hNN v H7 n7
      obtain ⟨pD7, nD7, _, _, _⟩ := I7.pin (D, { cls := .type "list", data := .seq its.toArray n }) (List.mem_append_right _ (List.mem_append_left _ List.mem_cons_self))
      refine append_at (n := n) pD7 (fun h' hs' hD' => ?_) (by rw [List.size_toArray, ← rv.length]; exact hsz)
      have st7 : tn (i + 1) s7.heap := T.keep _ _ _ st5 fun b hb o e => (I7.pin (b, o) (List.mem_append_right _ (List.mem_append_right _ (mem_pinsAt hb e)))).1
      have fr7 : ∀ b ∈ fp, H7 b = none := fun b hb => by
        obtain ⟨o, e, d⟩ := T.obj _ _ st5 b hb
        exact (I7.pin (b, o) (List.mem_append_right _ (List.mem_append_right _ (mem_pinsAt hb e)))).2.1
      have I8 : Inv Y [] σ6 H7 s7 := I7.pins_of fun p hp => (nomatch hp)
      have I9 : Inv Y [] (st0 own.length caps σ) H7 s7 := I8.weak (by rw [I0.len, I8.len]) wk
      have I10 : Inv Y [] (st0 own.length caps σ) H7 { s7 with heap := h' } := I9.turned (t' := s7.toks) (it := D) (fun b o hb e => hs'.extBut b o hb e) nD7 hDC (.inr (Nat.le_of_eq hDD)) (fun x c e => Nat.ne_of_lt (celllt x c (sub x c e))) (fun p hp => absurd (show p ∈ ([] : List (Addr × Obj)) from hp) (by simp))
      refine ⟨m', hm, i + 1, ys ++ [v], its ++ [y], n + 1, H7, pinD I10 nD7 ?_, ?_, fr7, rv.append (.cons r7 .nil), w7⟩
      · rw [hD', List.push_toArray]
      · exact T.keep _ _ _ st7 fun b hb o e => hs'.extBut b o (below b (hlt b hb)).2 e
  have tn1 : tn 0 h₁ := T.keep _ _ _ st fun b _ o e => old b o e
  exact codeAny_compStart_list (loop _ rfl) (T.self _ 0 _ _ _ tn1 (loop _ rfl))
end
end L2


namespace L2
open PySem PySem.Spec PyProof.Rows
section
variable {X : Cx} {tg iter elt : Expr} {scope : Scope} {pos : Pos} {wi : TI} {g : TG} {te : TE} {own : List Str} {caps : List (Nat × Str)}
/-- [elt for tg in iter] -/
theorem pe_comp (own : List Str) (caps : List (Nat × Str)) (hc : X.calm = true) (hi : PI X tg iter wi) (hg : ∀ fp s₀ H₀ C, PG (compCx X scope (own ++ caps.map (·.2)) s₀ H₀ C fp) tg g) (he : ∀ fp s₀ H₀ C, PE (compCx X scope (own ++ caps.map (·.2)) s₀ H₀ C fp) elt te)
    (hcap : CapsOk X scope caps)
    (hfr : (scope.names.all fun y => !(y.2 == NameKind.free) || (X.env.cells.lookup y.1).isSome) = true := by rfl)
    (hkind : scope.kind = .function := by rfl) (hcell : ∀ y ∈ scope.names, y.2 ≠ .cell := by decide +kernel)
    (hnames : ∀ y ∈ scope.names, y.2 = .local → scope.names.lookup y.1 = some .local := by decide +kernel) (hs : ∀ x, foldedSetIterable iter X.env x = pure x := by intro _; rfl) :
    PE X (.ListComp elt [⟨tg, iter, [], 0⟩] scope pos) (tComp own.length caps wi g te) := by
  intro pins s σ H Q I h
  have hfree := free_has hfr
  have hclos := closure_eq hfree
  rw [eval_ListComp]
  refine wpAny_comprehension_free (use := none) rfl hs hclos hkind hnames (thn (hi pins s σ H _ I h) fun v s1 h1 => thn h1 fun itv s2 h2 => ?_)
  obtain ⟨it, fp, tn, J, H2, e, I2, T, st2, f2, hB⟩ := h2
  subst e
  refine comp_core (RR := fun acc C => compPost (model X.prog X.w) X.A X.xe none (EP X pins σ Q) acc C) I2 hc T st2 f2 hkind hcell hfree hcap (hg fp) (he fp) hB ?_
  intro D C s' m ys H' hC hDC hn I3 nD nC q
  refine ⟨m, hn, fun h' hs' => ⟨.ref D, upd H' D (.lst ys), ?_, rfl, q D nD⟩⟩
  exact I3.turned (t' := s'.toks) (it := C) (fun b o hb e => hs'.extBut b o hb e) (by rw [upd_ne (Ne.symm hDC)]; exact nC) (Ne.symm (Nat.ne_of_lt (Nat.lt_of_lt_of_le I2.lt hC))) (.inr (Nat.le_trans I2.sz hC))
    (fun x c e z => by
      obtain ⟨v, o, ho, _⟩ := I2.cell x c e
      rw [z] at ho
      exact absurd (Nat.lt_of_lt_of_le (Heap.lt_size ho) hC) (Nat.lt_irrefl _))
    (fun p hp z => by
      have := (I2.pin p hp).1
      rw [z] at this
      exact absurd (Nat.lt_of_lt_of_le (Heap.lt_size this) hC) (Nat.lt_irrefl _))
/-- name = [elt for tg in iter], stored the swapped way -/
theorem ps_setComp {i : Nat} {x : Str} {pos' spos : Pos} (own : List Str) (caps : List (Nat × Str)) (hN : X.N.Nodup) (hx1 : X.N[i]? = some x) (hx : X.env.scope.names.lookup x = some .local) (hc : X.calm = true) (hi : PI X tg iter wi)
    (hg : ∀ fp s₀ H₀ C, PG (compCx X scope (own ++ caps.map (·.2)) s₀ H₀ C fp) tg g) (he : ∀ fp s₀ H₀ C, PE (compCx X scope (own ++ caps.map (·.2)) s₀ H₀ C fp) elt te)
    (hcap : CapsOk X scope caps)
    (hfr : (scope.names.all fun y => !(y.2 == NameKind.free) || (X.env.cells.lookup y.1).isSome) = true := by rfl)
    (hsw : swapsWith (.ListComp elt [⟨tg, iter, [], 0⟩] scope pos) (some (.Name x pos')) spos.line X.env = pure true := by rfl)
    (hkind : scope.kind = .function := by rfl) (hcell : ∀ y ∈ scope.names, y.2 ≠ .cell := by decide +kernel)
    (hnames : ∀ y ∈ scope.names, y.2 = .local → scope.names.lookup y.1 = some .local := by decide +kernel) (hs : ∀ x, foldedSetIterable iter X.env x = pure x := by intro _; rfl) :
    PS X (.Assign [.Name x pos'] (.ListComp elt [⟨tg, iter, [], 0⟩] scope pos) spos) (tAsg (tComp own.length caps wi g te) (gName i)) := by
  intro pins s σ H D0 I h
  have hfree := free_has hfr
  have hclos := closure_eq hfree
  rw [exec_Assign_Name_used _ _ _ _ hsw]
  refine wpAny_bind (wpAny_standAt (wpAny_bind ?_))
  show wpAny _ X.A (do let _ ← comprehension (.ListComp elt [⟨tg, iter, [], 0⟩] scope pos) scope X.env _ (newList []) false (eval iter X.env) (some (assign (.Name x pos') X.env))) _ _ s
  refine wpAny_bind (wpAny_mono (wpAny_comprehension_free (use := some (assign (.Name x pos') X.env)) (Q := fun _ s' => SP X pins D0 .next s') rfl hs hclos hkind hnames (thn (hi pins s σ H _ I h) fun v s1 h1 => thn h1 fun itv s2 h2 => ?_)) (fun _ s' hq => wpAny_pure (wpAny_pure hq)) fun _ _ e => e)
  obtain ⟨it, fp, tn, J, H2, e, I2, T, st2, f2, hB⟩ := h2
  subst e
  refine comp_core (RR := fun acc C => compPost (model X.prog X.w) X.A X.xe (some (assign (.Name x pos') X.env)) (fun _ s' => SP X pins D0 .next s') acc C) I2 hc T st2 f2 hkind hcell hfree hcap (hg fp) (he fp) hB ?_
  intro D C s' m ys H' hC hDC hn I3 nD nC q
  show wpAny _ X.A (assign (.Name x pos') X.env (.ref D)) _ _ _
  have hCl : C ≠ X.env.locals := Ne.symm (Nat.ne_of_lt (Nat.lt_of_lt_of_le I2.lt hC))
  have hCc : ∀ x c, X.env.cells.lookup x = some c → c ≠ C := fun x c e z => by
    obtain ⟨v, o, ho, _⟩ := I2.cell x c e
    rw [z] at ho
    exact absurd (Nat.lt_of_lt_of_le (Heap.lt_size ho) hC) (Nat.lt_irrefl _)
  refine wpAny_assign_Name (store_ok2 I3 hN hx1 (.inl hx) (v := .ref D) rfl (fun s4 I4 ⟨a, sb, ha⟩ => ?_) (.inr hx))
  have hCa : C ≠ a := by
    rcases ha with e | e
    · rw [e]; exact hCl
    · exact Ne.symm (hCc x a e)
  refine ⟨m, hn.sameBut sb hCa, fun h' hs' => ⟨_, _, ?_, q D nD⟩⟩
  exact I4.turned (t' := s4.toks) (it := C) (fun b o hb e => hs'.extBut b o hb e) (by rw [upd_ne (Ne.symm hDC)]; exact nC) hCl (.inr (Nat.le_trans I2.sz hC)) hCc
    (fun p hp z => by
      have := (I2.pin p hp).1
      rw [z] at this
      exact absurd (Nat.lt_of_lt_of_le (Heap.lt_size this) hC) (Nat.lt_irrefl _))
/-- the forms one uses -/
theorem keep1 {x : V} {cs : List (Option V)} : ∀ (i : Nat) v, ((none : Option V) :: cs)[i]? = some (some v) → ((some x) :: cs)[i]? = some (some v)
  | 0, v, h => by simp at h
  | i + 1, v, h => by simpa using h
theorem comp_list {K : PySem.W.Frag} {a : Addr} {xs : List V} {σ : St} {H : Hp} {QL : List V → Hp → Prop} (Pv : Nat → List V → Hp → Prop) (hz : xs.length ≤ 1000) (h0 : Pv 0 [] H) (hl : ∀ i ys H, i ≤ xs.length → Pv i ys H → SqL K H a xs)
    (hs : ∀ i x ys H, xs[i]? = some x → ys.length = i → Pv i ys H → te (some x :: caps.map fun p => (σ[p.1]?).join) H fun v H' => Pv (i + 1) (ys ++ [v]) H') (hd : ∀ ys H, ys.length = xs.length → Pv xs.length ys H → QL ys H) :
    tCompB 1 caps (gName 0) te σ (Itl K a) H QL := by
  have hz' : xs.length < sizeLine := small1000 hz
  refine ⟨fun i m ys H => m = xs.length - i ∧ i ≤ xs.length ∧ ys.length = i ∧ Pv i ys H, ⟨_, rfl, Nat.zero_le _, rfl, h0⟩, ?_⟩
  rintro i m ys H' ⟨rfl, hi, hy, p⟩
  have q := hl i ys H' hi p
  refine ⟨by omega, ?_⟩
  by_cases hlt : i < xs.length
  · refine .inr ⟨⟨xs, xs[i], q, by simp [hlt]⟩, by omega, fun v H4 => Pv (i + 1) (ys ++ [v]) H4, fun v H4 p' => ⟨xs.length - (i + 1), by omega, rfl, hlt, by rw [List.length_append, hy]; rfl, p'⟩, fun x H2 y => ?_⟩
    obtain ⟨e, y⟩ := y
    subst e
    exact ⟨keep1, hs i x ys _ (y xs q) hy p⟩
  · have e : i = xs.length := by omega
    subst e
    exact .inl ⟨⟨xs, q, Nat.le_refl _⟩, hd ys H' hy p⟩
theorem comp_range {lo : Int} {n : Nat} {σ : St} {H : Hp} {QL : List V → Hp → Prop} (Pv : Nat → List V → Hp → Prop) (hz : n ≤ 1000) (h0 : Pv 0 [] H)
    (hs : ∀ i ys H, i < n → ys.length = i → Pv i ys H → te (some (.int (lo + i)) :: caps.map fun p => (σ[p.1]?).join) H fun v H' => Pv (i + 1) (ys ++ [v]) H') (hd : ∀ ys H, ys.length = n → Pv n ys H → QL ys H) :
    tCompB 1 caps (gName 0) te σ (Itr lo n) H QL := by
  have hz' : n < sizeLine := small1000 hz
  refine ⟨fun i m ys H => m = n - i ∧ i ≤ n ∧ ys.length = i ∧ Pv i ys H, ⟨_, rfl, Nat.zero_le _, rfl, h0⟩, ?_⟩
  rintro i m ys H' ⟨rfl, hi, hy, p⟩
  refine ⟨by omega, ?_⟩
  by_cases hlt : i < n
  · refine .inr ⟨hlt, by omega, fun v H4 => Pv (i + 1) (ys ++ [v]) H4, fun v H4 p' => ⟨n - (i + 1), by omega, rfl, hlt, by rw [List.length_append, hy]; rfl, p'⟩, fun x H2 y => ?_⟩
    obtain ⟨e, y⟩ := y
    subst e y
    exact ⟨keep1, hs i ys _ hlt hy p⟩
  · have e : i = n := by omega
    subst e
    exact .inl ⟨Nat.le_refl _, hd ys H' hy p⟩
end
end L2


/-! EXT2: classes and their methods by promises; pairs compared -/
namespace L2
open PySem PySem.Spec PyProof.Rows
/-- a method of the class at C keeps a promise; dvs: the defaults that fill up -/
structure HasM (P : Program) (w : World) (K : PySem.W.Frag) (mg : Str → Option Value) (base : Heap) (C : Addr) (m : Str) (k : Nat) (ps : List Str) (dvs : List V) (sp : Sp) : Prop where
  ex : ∃ (f : Addr) (fd : FuncData) (ds : List Value), FnOk P w K mg base CX0 k f fd ps sp ∧ Meth K C m f ∧ Binds K fd ps ds ∧ Vals dvs ds
theorem HasM.mono {P : Program} {w : World} {K : PySem.W.Frag} {mg : Str → Option Value} {base : Heap} {C : Addr} {m : Str} {j k : Nat} {ps : List Str} {dvs : List V} {sp : Sp} (h : HasM P w K mg base C m j ps dvs sp) (e : j ≤ k) : HasM P w K mg base C m k ps dvs sp :=
  let ⟨f, fd, ds, a, b, c, d⟩ := h.ex
  ⟨f, fd, ds, a.mono e, b, c, d⟩
/-- o.m(..) whatever class o is of -/
def tMethA (P : Program) (w : World) (K : PySem.W.Frag) (mg : Str → Option Value) (base : Heap) (m : Str) (k : Nat) (ta : TE) (t : TA) : TE := fun σ H Q => ta σ H fun x H1 => ∃ a C dx fs ps dvs sp, x = .ref a ∧ H1 a = some (.ins C dx fs) ∧ Cls K C ∧ HasM P w K mg base C m k ps dvs sp ∧ fs.lookup m = none ∧
  t σ H1 fun vs H2 => sp (x :: (vs ++ dvs)) H2 Q E0
section
variable {X : Cx} {k : Nat} {m x : Str} {p pos apos : Pos} {e o : Expr} {es : List Expr} {ta : TE} {t : TA}
theorem pe_methA {pl : Sem Bool} (he : PE X o ta) (hr : Room k X.A) (ha : PA X (e :: es) t)
    (hst : starEach (e :: es) X.env = (false, eval e X.env) :: starEach es X.env := by rfl) (hpl : (backTo pos (starEach es X.env)).any (·.1) = false := by rfl)
    (ht : eval (.Call (.Attribute o m apos) (e :: es) [] pos) X.env = (do
      let ov ← eval o X.env
      standAt apos.atName
      let (f, first) ← holding [ov] (getMethod ov m pl)
      callWith pos f first (backTo pos (starEach (e :: es) X.env)) (backToKw pos (keywordEach [] X.env))) := by rfl) :
    PE X (.Call (.Attribute o m apos) (e :: es) [] pos) (tMethA X.prog X.w X.K X.mg X.base m k ta t) := by
  intro pins s σ H Q I h
  refine PySem.W.methodCall_KW (pl := pl) (thn (he pins s σ H _ I h) fun u s1 ⟨x, H1, I1, rx, a, C, dx, fs, ps, dvs, sp, ex, ea, c, hM, l, q⟩ => ?_) ht
  subst ex
  obtain rfl : u = Value.ref a := rx
  obtain ⟨f, fd, ds, F, hm, hb, hd⟩ := hM.ex
  refine getmeth_ok I1 ea c hm l ?_
  refine PySem.W.callWith_K (first := [.ref a]) (h₀ := X.base) I.ok.mod.kin hm.kp (thn (ha pos pins s1 σ H1 _ I1 q) fun us s2 ⟨vs, H2, I2, r, q2⟩ => ⟨I2.kIn, ?_⟩) hst hpl
  exact run_fn (us := .ref a :: us) (vs := .ref a :: vs) F hr hb hd pass0 I2 (.cons rfl r) q2
/-- a class whose __init__ keeps a promise -/
structure HasI (P : Program) (w : World) (K : PySem.W.Frag) (mg : Str → Option Value) (base : Heap) (C : Addr) (k : Nat) (ps : List Str) (sp : Sp) : Prop where
  ex : ∃ (f : Addr) (fd : FuncData), Mk K C f ∧ FnOk P w K mg base CX0 k f fd ps sp ∧ Binds K fd ps []
theorem pe_makeI {C : Addr} {ps : List Str} {sp : Sp} (h : HasI X.prog X.w X.K X.mg X.base C k ps sp) (hr : Room (k + 1) X.A) (hg : Gl X x) (hm : X.mg x = some (.ref C)) (ha : PA X (e :: es) t) (hdb : (x == ("__debug__" : Str)) = false := by decide)
    (he : starEach (e :: es) X.env = (false, eval e X.env) :: starEach es X.env := by rfl) (hpl : (backTo pos (starEach es X.env)).any (·.1) = false := by rfl) : PE X (.Call (.Name x p) (e :: es) [] pos) (tMake C sp [] E0 t) := by
  obtain ⟨f, fd, M, F, b⟩ := h.ex
  exact pe_make M F hr hg hm b .nil pass0 ha hdb he hpl
/-- a method of the text as it stands behind the top -/
structure HereM (K : PySem.W.Frag) (C : Addr) (m qual : Str) (st : Stmt) : Prop where
  ex : ∃ (f : Addr) (fd : FuncData), Fun K m qual st f fd ∧ Meth K C m f
theorem HereM.hasM {P : Program} {w : World} {K : PySem.W.Frag} {mg : Str → Option Value} {base : Heap} {C : Addr} {m qual : Str} {st : Stmt} {k : Nat} {ps : List Str} {sp : Sp} (h : HereM K C m qual st)
    (b : ∀ f fd, Fun K m qual st f fd → Binds K fd ps []) (ok : ∀ f fd, Fun K m qual st f fd → FnOk P w K mg base CX0 k f fd ps sp) : HasM P w K mg base C m k ps [] sp :=
  let ⟨f, fd, F, M⟩ := h.ex
  ⟨f, fd, [], ok f fd F, M, b f fd F, .nil⟩
theorem hereM_mk {K : PySem.W.Frag} {C : Addr} {m qual : Str} {st : Stmt} {f : Addr} {oc : Value} {od an : Option Addr} {osl : Array (Option Value)} {kV doc pm cdv ct : Value} (a : PySem.W.findIn K (.ref C) m = some (some (.ref f))) (i : PySem.W.isFn K (.ref f) = true)
    (l : K.lookup f = some ⟨oc, od, .func (PySem.W.fnOf m qual (defArgs st) (defBody st) (defScope st) .none kV doc pm an cdv ct), osl⟩)
    (c : PySem.W.codeIn K cdv qual = true) (k : PySem.W.keepIn K (.ref f) = true) : HereM K C m qual st := ⟨f, _, fun_mk l c k, a, i, k⟩
/-- the __init__ of a class -/
structure HereI (K : PySem.W.Frag) (C : Addr) (qual : Str) (st : Stmt) : Prop where
  ex : ∃ (f : Addr) (fd : FuncData), Fun K "__init__" qual st f fd ∧ Mk K C f
theorem HereI.hasI {P : Program} {w : World} {K : PySem.W.Frag} {mg : Str → Option Value} {base : Heap} {C : Addr} {qual : Str} {st : Stmt} {k : Nat} {ps : List Str} {sp : Sp} (h : HereI K C qual st)
    (b : ∀ f fd, Fun K "__init__" qual st f fd → Binds K fd ps []) (ok : ∀ f fd, Fun K "__init__" qual st f fd → FnOk P w K mg base CX0 k f fd ps sp) : HasI P w K mg base C k ps sp :=
  let ⟨f, fd, F, M⟩ := h.ex
  ⟨f, fd, M, ok f fd F, b f fd F⟩
theorem hereI_mk {K : PySem.W.Frag} {C : Addr} {qual : Str} {st : Stmt} {f : Addr} {oc : Value} {od an : Option Addr} {osl : Array (Option Value)} {kV doc pm cdv ct : Value} (mk : PySem.W.makesIn K C = true) (a : PySem.W.findIn K (.ref C) "__init__" = some (some (.ref f))) (i : PySem.W.isFn K (.ref f) = true)
    (kc : PySem.W.keepIn K (.ref C) = true) (l : K.lookup f = some ⟨oc, od, .func (PySem.W.fnOf "__init__" qual (defArgs st) (defBody st) (defScope st) .none kV doc pm an cdv ct), osl⟩)
    (c : PySem.W.codeIn K cdv qual = true) (k : PySem.W.keepIn K (.ref f) = true) : HereI K C qual st := ⟨f, _, fun_mk l c k, mk, a, i, kc⟩
/-- a class without an __init__ of its own -/
structure Mk0 (K : PySem.W.Frag) (C : Addr) : Prop where
  makes : PySem.W.makesIn K C = true
  init : PySem.W.findIn K (.ref C) "__init__" = some (some (.builtin "object.__init__"))
  kp : PySem.W.keepIn K (.ref C) = true
def tMake00 (C : Addr) : TE := fun _ H Q => ∀ x dx, H x = none → H dx = none → dx ≠ x → Q (.ref x) (upd (upd H dx (.own x)) x (.ins C dx []))
theorem run_make00 {C : Addr} {pins : List (Addr × Obj)} {σ : St} {H : Hp} {s : Shared} {Q : VK} (M : Mk0 X.K C) (I : Inv X pins σ H s)
    (h : ∀ x dx, H x = none → H dx = none → dx ≠ x → Q (.ref x) (upd (upd H dx (.own x)) x (.ins C dx []))) : wpAny (model X.prog X.w) X.A (call (.ref C) []) (EP X pins σ Q) X.xe s := by
  have hq := h (s.heap.objs.size + 1) s.heap.objs.size (I.hok.fresh (Nat.le_succ _)) (I.hok.fresh (Nat.le_refl _)) (Nat.ne_of_lt (Nat.lt_succ_self _))
  have I2 := Inv.made (C := C) I
  refine wpAny_call (make_map0 I.kIn M.makes M.init (fun self => PySem.W.Looks.of_pure (PySem.W.oi_bind self)) ?_)
  have Y := PySem.W.makes_of (M := model X.prog X.w) I.kIn M.makes
  obtain ⟨hh, g, d, t, os⟩ := s
  have t1 : PySem.W.Looks (model X.prog X.w) ((hh.push PySem.W.emptyDict).push (PySem.W.instObj C hh.objs.size)) (typeOf (.ref (hh.objs.size + 1))) (.ref C) :=
    (PySem.W.Looks.ld (o := PySem.W.instObj C hh.objs.size) (by have := Heap.get?_push_size (hh.push PySem.W.emptyDict) (o := PySem.W.instObj C hh.objs.size) rfl; rwa [Heap.size_push] at this)).andThen .now
  have t2 : PySem.W.Looks (model X.prog X.w) ((hh.push PySem.W.emptyDict).push (PySem.W.instObj C hh.objs.size)) (isInstance (.ref (hh.objs.size + 1)) (.type "object")) true := t1.andThen (Y.top.keeps fun b o e => Heap.get?_push_of_some _ (Heap.get?_push_of_some _ e))
  refine codeAny_call_builtin PySem.W.oi_plain PySem.W.entry_oi (@PySem.W.check_slot (model X.prog X.w) _ _ _ "object.__init__" "object" "__init__" (.ref (hh.objs.size + 1)) [] [] _ PySem.W.oi_kind PySem.W.oi_split t2 (PySem.W.oi_args (.ref (hh.objs.size + 1))) ?_)
  rw [PySem.W.oi_run]
  refine wpAny_pure (And.intro rfl ?_)
  exact ⟨V.ref (hh.objs.size + 1), _, I2, rfl, hq⟩
theorem pe_make00 {C : Addr} (M : Mk0 X.K C) (hg : Gl X x) (hm : X.mg x = some (.ref C)) (hdb : (x == ("__debug__" : Str)) = false := by decide) : PE X (.Call (.Name x p) [] [] pos) (tMake00 C) := by
  intro pins s σ H Q I h
  refine wpAny_Call_Name_kw (ld_glob I hg hm ?_ hdb)
  exact PySem.W.callWith_K0 I.kIn M.kp (run_make00 M I h)
end
end L2

namespace M1
theorem fmod_gcd (a b : Int) : Int.gcd b (a.fmod b) = Int.gcd a b := by
  have h : a.fmod b = a - b * a.fdiv b := Int.fmod_def a b
  rw [h, Int.gcd_comm a b]
  have : a - b * a.fdiv b = a + b * (-(a.fdiv b)) := by rw [Int.mul_neg]; omega
  rw [this]
  simp
theorem abs_if (i : Int) : (if i < 0 then -i else i) = (i.natAbs : Int) := by split <;> omega
theorem gcd_zero' (a : Int) : (Int.gcd a 0 : Int) = (if a < 0 then -a else a) := by
  rw [abs_if, Int.gcd_zero_right]
theorem fmod_neg_le (a : Int) {b : Int} (h : b < 0) : a.fmod b ≤ 0 ∧ b < a.fmod b := by
  have e := Int.neg_fmod_neg a b
  have h1 := Int.fmod_nonneg_of_pos (-a) (b := -b) (by omega)
  have h2 := Int.fmod_lt_of_pos (-a) (b := -b) (by omega)
  omega
theorem fmod_lt (a : Int) {b : Int} (h : b ≠ 0) : (a.fmod b).natAbs < b.natAbs := by
  rcases Int.lt_or_gt_of_ne h with h | h
  · have h1 := fmod_neg_le a h
    omega
  · have h1 := Int.fmod_nonneg_of_pos a h
    have h2 := Int.fmod_lt_of_pos a h
    omega
theorem fmod_sign (a : Int) {b : Int} (h : b ≠ 0) : (0 ≤ b ∧ 0 ≤ a.fmod b) ∨ (b ≤ 0 ∧ a.fmod b ≤ 0) := by
  rcases Int.lt_or_gt_of_ne h with h | h
  · exact .inr ⟨by omega, (fmod_neg_le a h).1⟩
  · exact .inl ⟨by omega, Int.fmod_nonneg_of_pos a h⟩
/-- what holds between two turns of shares -/
structure Sh (x y a u1 v1 b u2 v2 : Int) : Prop where
  ea : a = u1 * x + v1 * y
  eb : b = u2 * x + v2 * y
  g : Int.gcd a b = Int.gcd x y
  st : (a = x ∧ u1 = 1 ∧ v1 = 0 ∧ b = y ∧ u2 = 0 ∧ v2 = 1) ∨
    (a ≠ 0 ∧ ((0 ≤ a ∧ 0 ≤ b) ∨ (a ≤ 0 ∧ b ≤ 0)) ∧ a.natAbs ≤ y.natAbs ∧ b.natAbs ≤ y.natAbs ∧ u1.natAbs ≤ y.natAbs ∧ v1.natAbs ≤ x.natAbs + 2 * y.natAbs ∧
      u2.natAbs * a.natAbs + u1.natAbs * b.natAbs ≤ y.natAbs ∧ v2.natAbs * a.natAbs + v1.natAbs * b.natAbs ≤ x.natAbs + 2 * y.natAbs)
theorem Sh.start (x y : Int) : Sh x y x 1 0 y 0 1 := ⟨by omega, by omega, rfl, .inl ⟨rfl, rfl, rfl, rfl, rfl, rfl⟩⟩
theorem le_mul_nat {a b c : Nat} (h : a * b ≤ c) (hb : b ≠ 0) : a ≤ c := Nat.le_trans (Nat.le_mul_of_pos_right a (Nat.pos_of_ne_zero hb)) h
theorem le_c1 {X Y : Nat} : X ≤ X + 2 * Y + 1 := by omega
theorem le_c2 {X Y : Nat} : Y ≤ X + 2 * Y + 1 := by omega
theorem le_c3 {X Y : Nat} : 1 ≤ X + 2 * Y + 1 := by omega
theorem le_c4 {X Y : Nat} (h : 1 ≤ Y) : 1 ≤ X + 2 * Y := by omega
theorem Sh.bound {x y a u1 v1 b u2 v2 : Int} (h : Sh x y a u1 v1 b u2 v2) :
    a.natAbs ≤ x.natAbs + 2 * y.natAbs + 1 ∧ u1.natAbs ≤ x.natAbs + 2 * y.natAbs + 1 ∧ v1.natAbs ≤ x.natAbs + 2 * y.natAbs + 1 ∧
    b.natAbs ≤ x.natAbs + 2 * y.natAbs + 1 ∧ u2.natAbs ≤ x.natAbs + 2 * y.natAbs + 1 ∧ v2.natAbs ≤ x.natAbs + 2 * y.natAbs + 1 := by
  rcases h.st with ⟨rfl, rfl, rfl, rfl, rfl, rfl⟩ | ⟨ha, _, h1, h2, h3, h4, h5, h6⟩
  · exact ⟨le_c1, le_c3, Nat.zero_le _, le_c2, Nat.zero_le _, le_c3⟩
  · have ha' : a.natAbs ≠ 0 := Int.natAbs_ne_zero.mpr ha
    have k1 : u2.natAbs ≤ y.natAbs := le_mul_nat (b := a.natAbs) (Nat.le_trans (Nat.le_add_right _ _) h5) ha'
    have k2 : v2.natAbs ≤ x.natAbs + 2 * y.natAbs := le_mul_nat (b := a.natAbs) (Nat.le_trans (Nat.le_add_right _ _) h6) ha'
    exact ⟨Nat.le_trans h1 le_c2, Nat.le_trans h3 le_c2, Nat.le_succ_of_le h4, Nat.le_trans h2 le_c2, Nat.le_trans k1 le_c2, Nat.le_succ_of_le k2⟩
theorem rest_eq (a b : Int) : a - a.fdiv b * b = a.fmod b := by rw [Int.fmod_def, Int.mul_comm]
theorem fdiv_small (a : Int) {b : Int} (hb : b ≠ 0) : (a.fdiv b).natAbs ≤ a.natAbs + 1 := by
  have e := Int.mul_fdiv_add_fmod a b
  have l := fmod_lt a hb
  have k : (b * a.fdiv b).natAbs = b.natAbs * (a.fdiv b).natAbs := Int.natAbs_mul ..
  have z : b * a.fdiv b = a - a.fmod b := by omega
  have n1 : b.natAbs * (a.fdiv b).natAbs ≤ a.natAbs + (b.natAbs - 1) := by
    rw [← k, z]
    have := Int.natAbs_sub_le a (a.fmod b)
    omega
  generalize (a.fdiv b).natAbs = q at *
  generalize b.natAbs = c at *
  have hc : 1 ≤ c := by omega
  rcases Nat.lt_or_ge (a.natAbs + 1) q with h | h
  · have : c * (a.natAbs + 2) ≤ c * q := Nat.mul_le_mul_left c h
    have e2 : c * (a.natAbs + 2) = c * a.natAbs + c * 2 := Nat.mul_add ..
    have e3 : a.natAbs ≤ c * a.natAbs := Nat.le_mul_of_pos_left _ hc
    omega
  · exact h
theorem fdiv_nn {a b : Int} (h : (0 ≤ a ∧ 0 ≤ b) ∨ (a ≤ 0 ∧ b ≤ 0)) : 0 ≤ a.fdiv b := by
  rcases h with ⟨h1, h2⟩ | ⟨h1, h2⟩
  · exact Int.fdiv_nonneg h1 h2
  · rw [← Int.neg_fdiv_neg]; exact Int.fdiv_nonneg (by omega) (by omega)
theorem abs_split {a b : Int} (hb : b ≠ 0) (h : (0 ≤ a ∧ 0 ≤ b) ∨ (a ≤ 0 ∧ b ≤ 0)) : (a.fdiv b).natAbs * b.natAbs + (a.fmod b).natAbs = a.natAbs := by
  have e := Int.mul_fdiv_add_fmod a b
  have q := fdiv_nn h
  have s := fmod_sign a hb
  rw [← Int.natAbs_mul, Int.mul_comm]
  have pq : (0 ≤ b ∧ 0 ≤ b * a.fdiv b) ∨ (b ≤ 0 ∧ b * a.fdiv b ≤ 0) := by
    rcases h with ⟨h1, h2⟩ | ⟨h1, h2⟩
    · exact .inl ⟨h2, Int.mul_nonneg h2 q⟩
    · refine .inr ⟨h2, ?_⟩
      have := Int.mul_nonneg (show 0 ≤ -b by omega) q
      rw [Int.neg_mul] at this
      omega
  rcases pq with ⟨b1, p1⟩ | ⟨b1, p1⟩
  · rcases s with ⟨_, s1⟩ | ⟨b2, _⟩
    · rw [← Int.natAbs_add_of_nonneg p1 s1, e]
    · exact absurd (Int.le_antisymm b2 b1) hb
  · rcases s with ⟨b2, _⟩ | ⟨_, s1⟩
    · exact absurd (Int.le_antisymm b1 b2) hb
    · rw [← Int.natAbs_add_of_nonpos p1 s1, e]
theorem sub_mul_le (u q v : Int) : (u - q * v).natAbs ≤ u.natAbs + q.natAbs * v.natAbs := by
  have := Int.natAbs_sub_le u (q * v)
  rw [Int.natAbs_mul] at this
  exact this
theorem nat_turn {u1 u2 q a b r u C : Nat} (hu : u ≤ u1 + q * u2) (ha : q * b + r = a) (h : u2 * a + u1 * b ≤ C) : u * b + u2 * r ≤ C := by
  have h1 : u * b ≤ (u1 + q * u2) * b := Nat.mul_le_mul_right b hu
  have h2 : (u1 + q * u2) * b = u1 * b + u2 * (q * b) := by
    rw [Nat.add_mul, Nat.mul_comm q u2, Nat.mul_assoc]
  have h3 : u2 * a = u2 * (q * b) + u2 * r := by rw [← ha, Nat.mul_add]
  omega
theorem lin_turn {x y a b q u1 v1 u2 v2 : Int} (ea : a = u1 * x + v1 * y) (eb : b = u2 * x + v2 * y) : a - q * b = (u1 - q * u2) * x + (v1 - q * v2) * y := by
  rw [ea, eb, Int.sub_mul, Int.sub_mul, Int.mul_add, Int.mul_assoc, Int.mul_assoc]
  omega
theorem two_le {M A R B : Nat} (h : M ≤ A + R) (l : R < B) : M + R ≤ A + 2 * B := by omega
theorem Sh.turn {x y a u1 v1 b u2 v2 : Int} (h : Sh x y a u1 v1 b u2 v2) (hb : b ≠ 0) :
    Sh x y b u2 v2 (a - a.fdiv b * b) (u1 - a.fdiv b * u2) (v1 - a.fdiv b * v2) := by
  have er := rest_eq a b
  refine ⟨h.eb, lin_turn h.ea h.eb, ?_, .inr ?_⟩
  · rw [er, fmod_gcd]; exact h.g
  · have lt := fmod_lt a hb
    have sg := fmod_sign a hb
    rw [er]
    refine ⟨hb, sg, ?_⟩
    rcases h.st with ⟨rfl, rfl, rfl, rfl, rfl, rfl⟩ | ⟨ha, hs, h1, h2, h3, h4, h5, h6⟩
    · have e0 : (1 : Int) - a.fdiv b * 0 = 1 := by omega
      have e1 : (0 : Int) - a.fdiv b * 1 = -(a.fdiv b) := by omega
      rw [e0, e1, Int.natAbs_neg]
      refine ⟨Nat.le_refl _, Nat.le_of_lt lt, Nat.zero_le _, le_c4 (Nat.pos_of_ne_zero (Int.natAbs_ne_zero.mpr hb)), ?_, ?_⟩
      · show 1 * b.natAbs + 0 * (a.fmod b).natAbs ≤ b.natAbs
        rw [Nat.one_mul, Nat.zero_mul]
        exact Nat.le_refl _
      · show (a.fdiv b).natAbs * b.natAbs + 1 * (a.fmod b).natAbs ≤ a.natAbs + 2 * b.natAbs
        have e := Int.mul_fdiv_add_fmod a b
        have k : (b * a.fdiv b).natAbs = b.natAbs * (a.fdiv b).natAbs := Int.natAbs_mul ..
        have z : b * a.fdiv b = a - a.fmod b := by omega
        rw [Nat.mul_comm, ← k, z, Nat.one_mul]
        exact two_le (Int.natAbs_sub_le a (a.fmod b)) lt
    · have sp := abs_split hb hs
      have ha' : a.natAbs ≠ 0 := Int.natAbs_ne_zero.mpr ha
      have k1 : u2.natAbs ≤ y.natAbs := le_mul_nat (b := a.natAbs) (Nat.le_trans (Nat.le_add_right _ _) h5) ha'
      have k2 : v2.natAbs ≤ x.natAbs + 2 * y.natAbs := le_mul_nat (b := a.natAbs) (Nat.le_trans (Nat.le_add_right _ _) h6) ha'
      exact ⟨h2, Nat.le_trans (Nat.le_of_lt lt) h2, k1, k2, nat_turn (sub_mul_le ..) sp h5, nat_turn (sub_mul_le ..) sp h6⟩
/-- behind the loop -/
theorem Sh.done {x y a u1 v1 u2 v2 : Int} (h : Sh x y a u1 v1 0 u2 v2) : (a.natAbs : Int) = Int.gcd x y ∧ a = x * u1 + y * v1 := by
  have g := h.g
  rw [Int.gcd_zero_right] at g
  refine ⟨by rw [g], ?_⟩
  rw [Int.mul_comm x, Int.mul_comm y]; exact h.ea
end M1

namespace M2
/-- no whole number from 2 on, whose square is no greater, divides it -/
def Prm (n : Int) : Prop := 2 ≤ n ∧ ∀ d : Int, 2 ≤ d → d * d ≤ n → ¬ d ∣ n
theorem sq_mono {a b : Int} (ha : 0 ≤ a) (h : a ≤ b) : a * a ≤ b * b := Int.mul_le_mul h h ha (by omega)
theorem prm_two : Prm 2 := ⟨by omega, fun d h1 h2 => by have := sq_mono (a := 2) (by omega) h1; omega⟩
theorem even_not {n : Int} (h : 2 ≤ n) (h2 : n ≠ 2) (e : n % 2 = 0) : ¬ Prm n := fun p => p.2 2 (by omega) (by omega) (Int.dvd_of_emod_eq_zero e)
theorem prm_even {n : Int} (h : 2 ≤ n) (e : n % 2 = 0) : Prm n ↔ n = 2 := by
  constructor
  · intro p
    refine Decidable.byContradiction fun z => even_not h z e p
  · rintro rfl
    exact prm_two
/-- nothing below t divides n -/
def No (n t : Int) : Prop := ∀ d : Int, 2 ≤ d → d < t → ¬ d ∣ n
theorem No.odd {n : Int} (e : ¬ n % 2 = 0) : No n 3 := fun d h1 h2 hd => by
  have : d = 2 := by omega
  subst this
  exact e (Int.emod_eq_zero_of_dvd hd)
theorem No.two {n : Int} : No n 2 := fun d h1 h2 => by omega
theorem No.one {n t : Int} (h : No n t) (hn : ¬ t ∣ n) : No n (t + 1) := fun d h1 h2 => by
  rcases (by omega : d < t ∨ d = t) with z | z
  · exact h d h1 z
  · rw [z]; exact hn
theorem No.next {n t : Int} (h : No n t) (e : ¬ n % 2 = 0) (ho : t % 2 = 1) (hn : ¬ t ∣ n) : No n (t + 2) := fun d h1 h2 hd => by
  rcases (by omega : d < t ∨ d = t ∨ d = t + 1) with z | z | z
  · exact h d h1 z hd
  · rw [z] at hd; exact hn hd
  · have h2d : (2 : Int) ∣ d := Int.dvd_of_emod_eq_zero (by omega)
    exact e (Int.emod_eq_zero_of_dvd (Int.dvd_trans h2d hd))
theorem No.done {n t : Int} (h : No n t) (h2 : 2 ≤ n) (ht : 0 ≤ t) (hl : ¬ t * t ≤ n) : Prm n := ⟨h2, fun d h1 hd => h d h1 (by
  refine Int.lt_of_not_ge fun z => hl ?_
  exact Int.le_trans (sq_mono ht z) hd)⟩
theorem found {n t : Int} (ht : 2 ≤ t) (hl : t * t ≤ n) (hd : t ∣ n) : ¬ Prm n := fun p => p.2 t ht hl hd
theorem le_of_sq {n t : Int} (ht : 2 ≤ t) (hl : t * t ≤ n) : t + t ≤ n := by
  have : t * 2 ≤ t * t := Int.mul_le_mul_of_nonneg_left ht (by omega)
  omega
theorem fmod_dvd {n t : Int} (ht : 0 < t) : n.fmod t = 0 ↔ t ∣ n := by
  rw [Int.fmod_eq_emod_of_nonneg n (by omega)]
  exact ⟨Int.dvd_of_emod_eq_zero, Int.emod_eq_zero_of_dvd⟩
theorem big_check : ∀ d : Nat, d < 1000 → 2 ≤ d → 999983 % d ≠ 0 := by decide +kernel
theorem prm_big : Prm 999983 := by
  refine ⟨by omega, fun d h1 h2 hd => ?_⟩
  have hl : d < 1000 := by
    refine Int.lt_of_not_ge fun z => ?_
    have := sq_mono (a := 1000) (by omega) z
    omega
  have e := Int.emod_eq_zero_of_dvd hd
  refine big_check d.toNat (by omega) (by omega) ?_
  have ed : d = (d.toNat : Int) := by omega
  rw [ed] at e
  have e2 : ((999983 % d.toNat : Nat) : Int) = 0 := by rw [Int.natCast_emod]; exact e
  exact Int.natCast_eq_zero.mp e2
/-- a divisor of a prime is 1 or the prime -/
theorem prm_dvd {p d : Int} (h : Prm p) (h1 : 1 < d) (hd : d ∣ p) : d = p := by
  obtain ⟨k, hk⟩ := hd
  have hp := h.1
  refine Decidable.byContradiction fun z => ?_
  have kpos : 0 < k := by
    refine Int.lt_of_not_ge fun q => ?_
    have := Int.mul_nonneg (show 0 ≤ d by omega) (show 0 ≤ -k by omega)
    rw [Int.mul_neg] at this
    omega
  have k1 : k ≠ 1 := fun q => z (by rw [hk, q, Int.mul_one])
  rcases (by omega : d ≤ k ∨ k ≤ d) with q | q
  · exact h.2 d (by omega) (by rw [hk]; exact Int.mul_le_mul_of_nonneg_left q (by omega)) ⟨k, hk⟩
  · exact h.2 k (by omega) (by rw [hk]; exact Int.mul_le_mul_of_nonneg_right q (by omega)) ⟨d, by rw [hk, Int.mul_comm]⟩
theorem prm_gcd {p b : Int} (h : Prm p) (hb : ¬ p ∣ b) : Int.gcd b p = 1 := by
  have h1 := Int.gcd_dvd_right b p
  have h2 := Int.gcd_dvd_left b p
  have hp := h.1
  have hne : Int.gcd b p ≠ 0 := fun z => by
    rw [z] at h1
    have := Int.zero_dvd.mp h1
    omega
  refine Decidable.byContradiction fun z => hb ?_
  have e := prm_dvd h (show (1 : Int) < (Int.gcd b p : Int) by omega) h1
  rw [e] at h2
  exact h2
end M2

namespace M3
theorem cop_mul_left {a b c : Int} (h1 : Int.gcd a c = 1) (h2 : Int.gcd b c = 1) : Int.gcd (a * b) c = 1 := by
  rw [Int.gcd_eq_natAbs_gcd_natAbs] at *
  rw [Int.natAbs_mul]
  exact Nat.Coprime.mul_left h1 h2
theorem cop_symm {a b : Int} (h : Int.gcd a b = 1) : Int.gcd b a = 1 := by rw [Int.gcd_comm]; exact h
theorem cop_mul_right {a b c : Int} (h1 : Int.gcd c a = 1) (h2 : Int.gcd c b = 1) : Int.gcd c (a * b) = 1 := cop_symm (cop_mul_left (cop_symm h1) (cop_symm h2))
theorem cop_left {a b c : Int} (h : Int.gcd (a * b) c = 1) : Int.gcd a c = 1 := by
  rw [Int.gcd_eq_natAbs_gcd_natAbs] at *
  rw [Int.natAbs_mul] at h
  exact Nat.Coprime.coprime_dvd_left ⟨b.natAbs, rfl⟩ h
theorem cop_left' {a b c : Int} (h : Int.gcd (a * b) c = 1) : Int.gcd b c = 1 := cop_left (b := a) (by rw [Int.mul_comm]; exact h)
theorem cop_right {a b c : Int} (h : Int.gcd c (a * b) = 1) : Int.gcd c a = 1 := cop_symm (cop_left (cop_symm h))
theorem cop_right' {a b c : Int} (h : Int.gcd c (a * b) = 1) : Int.gcd c b = 1 := cop_symm (cop_left' (cop_symm h))
/-- two numbers by what they share -/
theorem by_gcd {a b : Int} (hb : Int.gcd a b ≠ 0) : ∃ x y : Int, a = (Int.gcd a b : Int) * x ∧ b = (Int.gcd a b : Int) * y ∧ Int.gcd x y = 1 := by
  obtain ⟨x, hx⟩ := Int.gcd_dvd_left a b
  obtain ⟨y, hy⟩ := Int.gcd_dvd_right a b
  refine ⟨x, y, hx, hy, ?_⟩
  have e : Int.gcd ((Int.gcd a b : Int) * x) ((Int.gcd a b : Int) * y) = Int.gcd a b * Int.gcd x y := by
    rw [Int.gcd_mul_left]
    simp
  rw [← hx, ← hy] at e
  have e2 : Int.gcd a b * Int.gcd x y = Int.gcd a b * 1 := by omega
  exact Nat.eq_of_mul_eq_mul_left (Nat.pos_of_ne_zero hb) e2
theorem gcd_ne {a b : Int} (h : b ≠ 0) : Int.gcd a b ≠ 0 := fun z => h (Int.gcd_eq_zero_iff.mp z).2
theorem fdiv_mul {g x : Int} (hg : g ≠ 0) : (g * x).fdiv g = x := Int.mul_fdiv_cancel_left x hg
theorem pos_mul {g x : Int} (hg : 0 < g) (h : 0 < g * x) : 0 < x := by
  refine Int.lt_of_not_ge fun z => ?_
  have := Int.mul_nonneg (Int.le_of_lt hg) (show 0 ≤ -x by omega)
  rw [Int.mul_neg] at this
  omega
/-- the lowest form of top and bottom -/
theorem low {t b : Int} (hb : 0 < b) : Int.gcd (t.fdiv (Int.gcd t b)) (b.fdiv (Int.gcd t b)) = 1 ∧ 0 < b.fdiv (Int.gcd t b) ∧ t.fdiv (Int.gcd t b) * b = t * b.fdiv (Int.gcd t b) ∧
    (t.fdiv (Int.gcd t b)).natAbs ≤ t.natAbs ∧ (b.fdiv (Int.gcd t b)).natAbs ≤ b.natAbs := by
  have hg := gcd_ne (a := t) (b := b) (by omega)
  obtain ⟨x, y, hx, hy, c⟩ := by_gcd hg
  generalize Int.gcd t b = g at *
  have hg' : (g : Int) ≠ 0 := by omega
  subst hx hy
  rw [fdiv_mul hg', fdiv_mul hg']
  have yp := pos_mul (show (0 : Int) < g by omega) hb
  refine ⟨c, yp, by ac_rfl, ?_, ?_⟩
  · rw [Int.natAbs_mul]; exact Nat.le_mul_of_pos_left _ (by omega)
  · rw [Int.natAbs_mul]; exact Nat.le_mul_of_pos_left _ (by omega)
theorem le_mul_abs (g x : Int) (hg : g ≠ 0) : x.natAbs ≤ (g * x).natAbs := by
  rw [Int.natAbs_mul]; exact Nat.le_mul_of_pos_left _ (by omega)
/-- the sum of two fractions, by what the bottoms share -/
theorem plus_ok {a1 b1 a2 b2 : Int} (h1 : 0 < b1) (h2 : 0 < b2) (c1 : Int.gcd a1 b1 = 1) (c2 : Int.gcd a2 b2 = 1) {top : Int}
    (ht : top = a1 * b2.fdiv (Int.gcd b1 b2) + a2 * b1.fdiv (Int.gcd b1 b2)) :
    Int.gcd top (Int.gcd b1 b2) ≠ 0 ∧ 0 < b1.fdiv (Int.gcd b1 b2) * b2.fdiv (Int.gcd top (Int.gcd b1 b2)) ∧
    Int.gcd (top.fdiv (Int.gcd top (Int.gcd b1 b2))) (b1.fdiv (Int.gcd b1 b2) * b2.fdiv (Int.gcd top (Int.gcd b1 b2))) = 1 ∧
    top.fdiv (Int.gcd top (Int.gcd b1 b2)) * (b1 * b2) = (a1 * b2 + a2 * b1) * (b1.fdiv (Int.gcd b1 b2) * b2.fdiv (Int.gcd top (Int.gcd b1 b2))) := by
  have hg := gcd_ne (a := b1) (b := b2) (by omega)
  obtain ⟨p, q, hp, hq, cpq⟩ := by_gcd hg
  generalize hG : Int.gcd b1 b2 = g at *
  have hg' : (g : Int) ≠ 0 := by omega
  have e1 : b1.fdiv g = p := by rw [hp]; exact fdiv_mul hg'
  have e2 : b2.fdiv g = q := by rw [hq]; exact fdiv_mul hg'
  rw [e1, e2] at ht
  rw [e1]
  have hl := gcd_ne (a := top) (b := (g : Int)) hg'
  obtain ⟨t, r, ht2, hr, ctr⟩ := by_gcd hl
  generalize hL : Int.gcd top g = l at *
  have hl' : (l : Int) ≠ 0 := by omega
  have e3 : top.fdiv l = t := by rw [ht2]; exact fdiv_mul hl'
  have e4 : b2 = l * (r * q) := by rw [hq, hr]; ac_rfl
  have e5 : b2.fdiv l = r * q := by rw [e4]; exact fdiv_mul hl'
  rw [e3, e5]
  have pp : 0 < p := pos_mul (show (0 : Int) < g by omega) (by rw [← hp]; exact h1)
  have rq : 0 < r * q := pos_mul (show (0 : Int) < l by omega) (by rw [← e4]; exact h2)
  have tp : Int.gcd top p = 1 := by
    rw [ht, Int.gcd_add_mul_right_left]
    exact cop_mul_left (cop_right' (a := g) (by rw [← hp]; exact c1)) (cop_symm cpq)
  have tq : Int.gcd top q = 1 := by
    rw [ht, Int.add_comm, Int.gcd_add_mul_right_left]
    exact cop_mul_left (cop_right' (a := g) (by rw [← hq]; exact c2)) cpq
  rw [ht2] at tp tq
  refine ⟨hl, Int.mul_pos pp rq, cop_mul_right (cop_left' tp) (cop_mul_right ctr (cop_left' tq)), ?_⟩
  have k1 : a1 * b2 + a2 * b1 = g * (l * t) := by
    rw [← ht2, ht, Int.mul_add, hp, hq]
    congr 1 <;> ac_rfl
  rw [k1, hp, hq]
  have k2 : (g : Int) * (l * t) * (p * (r * q)) = g * t * p * q * (l * r) := by ac_rfl
  rw [k2, ← hr]
  ac_rfl
/-- the product of two fractions -/
theorem times_ok {a1 b1 a2 b2 : Int} (h1 : 0 < b1) (h2 : 0 < b2) (c1 : Int.gcd a1 b1 = 1) (c2 : Int.gcd a2 b2 = 1) :
    0 < b1.fdiv (Int.gcd a2 b1) * b2.fdiv (Int.gcd a1 b2) ∧
    Int.gcd (a1.fdiv (Int.gcd a1 b2) * a2.fdiv (Int.gcd a2 b1)) (b1.fdiv (Int.gcd a2 b1) * b2.fdiv (Int.gcd a1 b2)) = 1 ∧
    a1.fdiv (Int.gcd a1 b2) * a2.fdiv (Int.gcd a2 b1) * (b1 * b2) = a1 * a2 * (b1.fdiv (Int.gcd a2 b1) * b2.fdiv (Int.gcd a1 b2)) := by
  have hf := gcd_ne (a := a1) (b := b2) (by omega)
  have hr := gcd_ne (a := a2) (b := b1) (by omega)
  obtain ⟨x, y, hx, hy, cxy⟩ := by_gcd hf
  obtain ⟨z, w, hz, hw, czw⟩ := by_gcd hr
  generalize Int.gcd a1 b2 = f at *
  generalize Int.gcd a2 b1 = r at *
  have hf' : (f : Int) ≠ 0 := by omega
  have hr' : (r : Int) ≠ 0 := by omega
  have e1 : a1.fdiv f = x := by rw [hx]; exact fdiv_mul hf'
  have e2 : b2.fdiv f = y := by rw [hy]; exact fdiv_mul hf'
  have e3 : a2.fdiv r = z := by rw [hz]; exact fdiv_mul hr'
  have e4 : b1.fdiv r = w := by rw [hw]; exact fdiv_mul hr'
  rw [e1, e2, e3, e4]
  have yp := pos_mul (show (0 : Int) < f by omega) (by rw [← hy]; exact h2)
  have wp := pos_mul (show (0 : Int) < r by omega) (by rw [← hw]; exact h1)
  rw [hx, hw] at c1
  rw [hz, hy] at c2
  refine ⟨Int.mul_pos wp yp, cop_mul_left (cop_mul_right (cop_right' (cop_left' c1)) cxy) (cop_mul_right czw (cop_right' (cop_left' c2))), ?_⟩
  rw [hx, hy, hz, hw]
  ac_rfl
theorem fdiv_le {a : Int} {g : Int} (h : g ∣ a) (hg : g ≠ 0) : (a.fdiv g).natAbs ≤ a.natAbs := by
  obtain ⟨x, rfl⟩ := h
  rw [fdiv_mul hg]
  exact le_mul_abs g x hg
end M3

/-! EXC: own exceptions: raised, passed on, caught, asked for their class -/
namespace L2
open PySem PySem.Spec PyProof.Rows
/-- an own exception's class, as the written part has it -/
structure XCls (K : PySem.W.Frag) (C : Addr) : Prop where
  ga : PySem.W.findIn K (.ref C) "__getattribute__" = some (some (.builtin "BaseException.__getattribute__"))
  ha : PySem.W.findIn K (.ref C) "__getattr__" = some none
  cl : PySem.W.findIn K (.ref C) "__class__" = some (some (.builtin "object.__class__"))
  hn : PySem.W.specialIn K (.builtin "object.__class__") "__get__" = some (some (.builtin "getset_descriptor.__get__"))
  tk : PySem.W.takesIn K (.builtin "object.__class__") = some true
  ob : PySem.W.mroIn K C (.type "object") = some true
  be : PySem.W.mroIn K C (.type "BaseException") = some true
  hd : PySem.W.hasDictIn K C = true
section
variable {prog : Program} {w : World} {A : Around} {E : Value → Shared → Prop} {s : Shared} {K : PySem.W.Frag} {x C : Addr} {ox : Obj} {od : Option Obj}
theorem findObj_any {K : PySem.W.Frag} {C : Addr} {od : Option Obj} {name : Str} {a g : Value} (hc : (PySem.W.clsIn K C).isSome = true) (ha : PySem.W.findIn K (.ref C) name = some (some a)) (hg : PySem.W.specialIn K a "__get__" = some (some g)) (ht : PySem.W.takesIn K a = some true) :
    PySem.W.findObj K C od name = some (.bind g a) := by
  obtain ⟨cd, hc⟩ := Option.isSome_iff_exists.mp hc
  unfold PySem.W.findObj
  rw [hc, Option.bind_some, ha, Option.bind_some]
  simp [hg, ht]
theorem bexc_call (c : XCls K C) {tk : Tok} {R : Result → Shared → Prop} (X : K.In s.heap) (I : PySem.W.InstAt s.heap x ox C od) (h : R (.ok (.ret (.ref C))) s) :
    codeAny (model prog w) A (.call (.builtin "BaseException.__getattribute__") ⟨[.ref x, .str "__class__" tk], []⟩) R s := by
  have hf : PySem.W.findObj K C od "__class__" = some (.bind (.builtin "getset_descriptor.__get__") (.builtin "object.__class__")) := findObj_any (by obtain ⟨cd, hc, _⟩ := PySem.W.any_some c.hd; rw [hc]; rfl) c.cl c.hn c.tk
  obtain ⟨hh, gg, d, t, os⟩ := s
  have L0 := I.type (M := model prog w)
  have LF := PySem.W.looks_find (M := model prog w) X I hf
  have LB : PySem.W.Looks (model prog w) hh (isInstance (.ref x) (.type "BaseException")) true := L0.andThen (PySem.W.looks_mroIn X c.be)
  have LG := PySem.W.looks_mroIn (M := model prog w) X c.be
  refine codeAny_call_builtin F.excAttr_ValueError.ga.plain F.entry_bexc_ga ?_
  have hk : builtinKind "BaseException.__getattribute__" = some .slot := by decide +kernel
  have hsplit : splitId "BaseException.__getattribute__" = some ("BaseException", "__getattribute__") := by decide +kernel
  have ha := F.args_bexc_ga (.ref x) (.str "__class__" tk)
  simp only [checkBuiltinCall, hk, hsplit]
  refine wpAny_bind (LB.at ?_)
  simp only [Bool.not_true, Bool.false_eq_true, if_false]
  refine wpAny_of_eq ha ?_
  refine wpAny_bind (wpAny_pure (wpAny_bind (wpAny_pure (wpAny_bind (L0.at (wpAny_bind (LF.at ?_)))))))
  show wpAny _ _ (holding [Value.builtin "object.__class__"] (call (.builtin "getset_descriptor.__get__") [.builtin "object.__class__", .ref x, .ref C]) >>= ret) _ _ _
  exact wpAny_bind (wpAny_holding (wpAny_call (PySem.W.class_get (s := ⟨hh, gg, d, t, os⟩) X I c.ob (wpAny_pure h))))
theorem exc_class (c : XCls K C) {Q : Option Value → Shared → Prop} (X : K.In s.heap) (I : PySem.W.InstAt s.heap x ox C od) (h : Q (some (.ref C)) { s with toks := s.toks + 1 }) : wpAny (model prog w) A (getAttr? (.ref x) "__class__") Q E s := by
  have L0 := I.type (M := model prog w)
  have L1 := PySem.W.looks_findIn (M := model prog w) X c.ga
  have L3 := PySem.W.looks_findIn (M := model prog w) X c.ha
  obtain ⟨hh, g, d, t, os⟩ := s
  unfold getAttr? getAttrBy? getAttrBy
  refine wpAny_bind (wpAny_mkText (wpAny_bind (wpAny_attempt (wpAny_holding (wpAny_bind (L0.at (wpAny_bind (L1.at ?_))))))))
  show wpAny _ _ (getAttrByItsOwn _ _ _ _ _ _) _ _ _
  unfold getAttrByItsOwn
  refine wpAny_bind (L3.at ?_)
  refine wpAny_bind (wpAny_attempt (wpAny_holding ?_))
  show wpAny _ _ (boundAndCalled _ _ _) _ _ _
  unfold boundAndCalled
  refine wpAny_bind (wpAny_of_eq (F.excAttr_ValueError.ga.bind (.ref x)) ?_)
  refine wpAny_call (bexc_call (s := ⟨hh, g, d, t + 1, os⟩) c X I ?_)
  exact PySem.W.handed_on rfl (wpAny_pure h)
theorem kitx_exc (c : XCls K C) : PySem.W.KitX K (.ref x) (.ref C) (fun h => ∃ ox od, PySem.W.InstAt h x ox C od) where
  ty := fun _ _ _ ⟨_, _, I⟩ => I.type
  it := fun _ _ X _ => by
    obtain ⟨cdD, hcD, _⟩ := PySem.W.any_some c.hd
    unfold PySem.W.clsIn at hcD
    split at hcD
    · rename_i c' d' cd' sl' ho
      intro A' Q' E' s' k q
      unfold isType loadHead
      exact wpAny_bind (wpAny_loadPart (k _ _ (X _ _ ho)) (wpAny_pure q))
    · cases hcD
  ne := fun h tp dd its n sl X htp => by
    obtain ⟨cdD, hcD, _⟩ := PySem.W.any_some c.hd
    refine Bool.eq_false_iff.mpr fun q => ?_
    have e : C = tp := Value.ref.inj (beq_iff_eq.mp q)
    subst e
    unfold PySem.W.clsIn at hcD
    split at hcD
    · rename_i c' d' cd' sl' ho
      exact nomatch (X _ _ ho).symm.trans htp
    · cases hcD
  ca := fun X ⟨_, _, I⟩ k => exc_class c X I k
end
end L2

namespace L2
open PySem PySem.Spec PyProof.Rows
/-- the exception at e: its class, its own dict, its arguments, its newest record, whose mark of flight is fl -/
def Tr (h B : Heap) (e : Addr) (cls a0 : Value) (dd : Option Addr) (fl : Value) : Prop :=
  ∃ oe vs T oT ts, h.get? e = some oe ∧ oe.cls = cls ∧ oe.dict = dd ∧ oe.data = .fields vs ∧ vs[0]? = some a0 ∧ vs[1]? = some (.ref T) ∧ B.get? T = none ∧ T ≠ e ∧ h.get? T = some oT ∧ oT.data = .fields ts ∧ ts[3]? = some fl
theorem dict_mapFields (o : Obj) (f) : (o.mapFields f).dict = o.dict := by
  obtain ⟨c, d, dt, sl⟩ := o
  cases dt <;> rfl
/-- a change of records alone -/
theorem upTo_update {h : Heap} {a : Addr} {o : Obj} {vs : Array Value} (f : Array Value → Array Value) (ho : h.get? a = some o) (hd : o.data = .fields vs) : h.UpToSlots (h.update a (Obj.mapFields f)) := fun b u e n =>
  ⟨u.slots, by
    rw [Heap.get?_update_other _ _ fun z => by subst z; rw [ho] at e; cases e; exact n vs hd]
    exact e⟩
theorem frames_up {h h' B : Heap} {l : List Env} (u : h.UpToSlots h') (f : h.FunFrames B l) : h'.FunFrames B l := f.of_keeps fun b o e n => let ⟨sl, q⟩ := u b o e n; ⟨_, q, rfl⟩
section
variable {M : Model} {A : Around} {E : Value → Shared → Prop} {s : Shared} {B : Heap} {env : Env} {outer : List Env} {L e : Addr} {oe : Obj} {vs : Array Value} {cls a0 : Value} {dd : Option Addr} {Q : Unit → Shared → Prop}
/-- a new record for the frame that runs -/
theorem note_core {hd0 : Value} {hn : Bool} (hfr : A.frames = some (env :: outer)) (fl : s.heap.FunFrames B (env :: outer)) (hf : env.frame = some L) (he : s.heap.get? e = some oe) (st : B.StaysIn s.heap) (nb : B.get? e = none) (hd : oe.data = .fields vs)
    (h0 : vs[0]? = some a0) (hz : 1 < vs.size) (k : ∀ h', B.StaysIn h' → h'.FunFrames B (env :: outer) → Tr h' B e oe.cls a0 oe.dict (rawInt L) → s.heap.UpToSlots h' → Q () { s with heap := h' }) :
    wpAny M A (do let a ← frameOf env; let pl ← entryPlaceOf L hn; let b ← EntryCells.newEntry hd0 a .none (rawInt L) .none pl; setField (.ref e) 1 b) Q E s := by
  have notf : e ∉ (env :: outer).filterMap (·.frame) := fun hm => by
    obtain ⟨_, o, ho, n⟩ := fl.mem hm
    rw [he] at ho; cases ho; exact n vs hd
  refine wpAny_bind (wpAny_frameOf_fun hfr fl hf fun h1 so => wpAny_bind (wpAny_entryPlaceOf fun pl hpl => ?_))
  have u1 : s.heap.UpToSlots h1 := fun b o q _ => so.2.2 b o q
  have st1 : B.StaysIn h1 := fun b o q => (so.2.1 b fun hm => by rw [(fl.mem hm).1] at q; cases q).trans (st b o q)
  have he1 : h1.get? e = some oe := (so.2.1 e notf).trans he
  unfold EntryCells.newEntry newFields
  refine wpAny_bind (wpAny_newObj_type ?_ (hpl.sizeOk5 _ _ _ _ _))
  generalize ht : ([hd0, Value.ref L, .none, rawInt L, .none] ++ (if pl.isEmpty then List.replicate 6 Value.none else pl)).toArray = ts
  have ht3 : ts[3]? = some (rawInt L) := by rw [← ht]; simp
  have he2 := Heap.get?_push_of_some (h := h1) { cls := .type "traceback", dict := none, data := .fields ts } he1
  refine wpAny_setField he2 hd hz (k _ ?_ ?_ ?_ ?_)
  · intro b o q
    rw [Heap.get?_update_other _ _ fun z => by subst z; rw [nb] at q; cases q]
    exact Heap.get?_push_of_some _ (st1 b o q)
  · exact frames_up ((u1.trans (.of_keeps fun b o q => Heap.get?_push_of_some _ q)).trans (upTo_update _ he2 hd)) fl
  · have nT : h1.objs.size ≠ e := Nat.ne_of_gt (Heap.lt_size he1)
    refine ⟨_, _, h1.objs.size, { cls := .type "traceback", dict := none, data := .fields ts }, ts, Heap.get?_update_self _ he2 (Obj.isFreed_of_fields (Obj.data_mapFields hd _)), Obj.cls_mapFields _ _, dict_mapFields _ _, Obj.data_mapFields hd _, ?_, ?_, st1.fresh, nT, ?_, rfl, ht3⟩
    · rw [Array.getElem?_setIfInBounds_ne (by decide)]; exact h0
    · simp [hz]
    · rw [Heap.get?_update_other _ _ (Ne.symm nT)]
      exact Heap.get?_push_size h1 rfl
  · exact (u1.trans (.of_keeps fun b o q => Heap.get?_push_of_some _ q)).trans (upTo_update _ he2 hd)
/-- a new exception is noted -/
theorem note_first (hfr : A.frames = some (env :: outer)) (fl : s.heap.FunFrames B (env :: outer)) (hf : env.frame = some L) (he : s.heap.get? e = some oe) (st : B.StaysIn s.heap) (nb : B.get? e = none) (hd : oe.data = .fields vs)
    (h0 : vs[0]? = some a0) (h1 : vs[1]? = some .none) (k : ∀ h', B.StaysIn h' → h'.FunFrames B (env :: outer) → Tr h' B e oe.cls a0 oe.dict (rawInt L) → s.heap.UpToSlots h' → Q () { s with heap := h' }) :
    wpAny M A (noteFrame (.ref e) env) Q E s := by
  unfold noteFrame
  simp only [hf]
  refine wpAny_bind (wpAny_field he hd h1 ?_)
  rw [if_neg (by decide)]
  exact note_core hfr fl hf he st nb hd h0 (Array.getElem?_eq_some_iff.mp h1).1 k
/-- one that flies is noted -/
theorem note_next (hfr : A.frames = some (env :: outer)) (fl : s.heap.FunFrames B (env :: outer)) (hf : env.frame = some L) (tr : Tr s.heap B e cls a0 dd .none) (st : B.StaysIn s.heap) (nb : B.get? e = none)
    (k : ∀ h', B.StaysIn h' → h'.FunFrames B (env :: outer) → Tr h' B e cls a0 dd (rawInt L) → s.heap.UpToSlots h' → Q () { s with heap := h' }) : wpAny M A (noteFrame (.ref e) env) Q E s := by
  obtain ⟨oe, vs, T, oT, ts, he, rfl, rfl, hd, h0, h1, nT, hTe, hT, hdT, h3⟩ := tr
  unfold noteFrame
  simp only [hf]
  refine wpAny_bind (wpAny_field he hd h1 ?_)
  rw [if_pos (show (Value.ref T != Value.none) = true from by simp)]
  refine wpAny_bind (wpAny_field hT hdT h3 ?_)
  rw [if_neg (show ¬ ((Value.none == rawInt L) = true) from by simp [rawInt])]
  have u := upTo_update (·.setIfInBounds 3 Value.none) hT hdT
  refine wpAny_bind (wpAny_setField hT hdT (Array.getElem?_eq_some_iff.mp h3).1 (note_core (s := { s with heap := s.heap.update T (Obj.mapFields (·.setIfInBounds 3 Value.none)) }) hfr (frames_up u fl) hf (by rw [Heap.get?_update_other _ _ hTe]; exact he) (fun b o q => ?_) nb hd h0 (Array.getElem?_eq_some_iff.mp h1).1 fun h' a b c d => k h' a b c (u.trans d)))
  rw [Heap.get?_update_other _ _ fun z => by subst z; rw [nT] at q; cases q]
  exact st b o q
/-- the mark of flight goes -/
theorem mark_off {fl0 : Value} {l : List Env} (fl : s.heap.FunFrames B l) (tr : Tr s.heap B e cls a0 dd fl0) (st : B.StaysIn s.heap)
    (k : ∀ h', B.StaysIn h' → h'.FunFrames B l → Tr h' B e cls a0 dd .none → s.heap.UpToSlots h' → Q () { s with heap := h' }) : wpAny M A (setFlight (.ref e) none) Q E s := by
  obtain ⟨oe, vs, T, oT, ts, he, rfl, rfl, hd, h0, h1, nT, hTe, hT, hdT, h3⟩ := tr
  have h3' : 3 < ts.size := (Array.getElem?_eq_some_iff.mp h3).1
  have u := upTo_update (·.setIfInBounds 3 ((none : Option Addr).elim Value.none fun f => rawInt f)) hT hdT
  unfold setFlight
  refine wpAny_bind (wpAny_field he hd h1 ?_)
  rw [if_pos (show (Value.ref T != Value.none) = true from by simp)]
  refine wpAny_setField hT hdT h3' (k _ (fun b o q => ?_) (frames_up u fl) ⟨oe, vs, T, _, _, ?_, rfl, rfl, hd, h0, h1, nT, hTe, Heap.get?_update_self _ hT (Obj.isFreed_of_fields (Obj.data_mapFields hdT _)), Obj.data_mapFields hdT _, by simp [h3']⟩ u)
  · rw [Heap.get?_update_other _ _ fun z => by subst z; rw [nT] at q; cases q]
    exact st b o q
  · rw [Heap.get?_update_other _ _ hTe]; exact he
end
end L2

namespace L2
open PySem PySem.Spec PyProof.Rows
/-- an exception in the air: B is all that no flight touches -/
structure Air (P : Program) (w : World) (B : Heap) (l : List Env) (H : Hp) (h : Heap) (e t : Addr) (cls : Value) (dd : Option Addr) (fl : Value) : Prop where
  hok : HOk P w H h
  st : B.StaysIn h
  nb : B.get? e = none
  fr : h.FunFrames B l
  tr : Tr h B e cls (.ref t) dd fl
  tk : ∀ b u, H b = some u → ∃ o, B.get? b = some o
theorem Air.free {P : Program} {w : World} {B : Heap} {l : List Env} {H : Hp} {h : Heap} {e t : Addr} {cls : Value} {dd : Option Addr} {fl : Value} (a : Air P w B l H h e t cls dd fl) : H e = none := by
  cases q : H e with
  | none => rfl
  | some u => obtain ⟨o, z⟩ := a.tk e u q; rw [a.nb] at z; cases z
theorem hok_in {P : Program} {w : World} {B : Heap} {H : Hp} {h h' : Heap} (x : HOk P w H h) (st : B.StaysIn h) (st' : B.StaysIn h') (tk : ∀ b u, H b = some u → ∃ o, B.get? b = some o) : HOk P w H h' := fun a o e =>
  (x a o e).stay (fun b u hb q => by
    have : ∃ v, H b = some v := by
      rcases hb with rfl | hb
      · exact ⟨o, e⟩
      · exact ⟨_, hb⟩
    obtain ⟨v, hv⟩ := this
    obtain ⟨ob, z⟩ := tk b v hv
    have e2 := (st b ob z).symm.trans q
    cases e2
    exact st' b _ z) (fun _ q => q) fun _ _ q => q
/-- how an exception lies behind a call -/
def CXx (P : Program) (w : World) : CXT := fun outer H s E ev s' =>
  ∃ (e t : Addr) (cls : Value) (dd : Option Addr) (H' : Hp) (B : Heap), ev = .ref e ∧ s'.os = s.os ∧ AllBare s'.gens ∧ Un (frs outer) [] H H' s.heap s'.heap ∧ Air P w B outer H' s'.heap e t cls dd .none ∧
    (∀ b o, s.heap.get? b = some o → H b = none → b ∉ frs outer → B.get? b = some o) ∧ (∀ b o, s.heap.get? b = some o → b ∉ frs outer → ∃ o', B.get? b = some o') ∧ E cls dd H'
section
variable {M : Model} {A : Around} {E : Value → Shared → Prop} {s : Shared} {P : Program} {w : World} {B : Heap} {env : Env} {outer : List Env} {H : Hp} {L e t : Addr} {cls : Value} {dd : Option Addr} {fl : Value} {Q : Unit → Shared → Prop} {B0 : Heap}
theorem Air.note (a : Air P w B (env :: outer) H s.heap e t cls dd .none) (hfr : A.frames = some (env :: outer)) (hf : env.frame = some L) (k : ∀ h', Air P w B (env :: outer) H h' e t cls dd (rawInt L) → s.heap.UpToSlots h' → Q () { s with heap := h' }) :
    wpAny M A (noteFrame (.ref e) env) Q E s :=
  note_next hfr a.fr hf a.tr a.st a.nb fun h' st fr tr up => k h' ⟨hok_in a.hok a.st st a.tk, st, a.nb, fr, tr, a.tk⟩ up
theorem Air.off {l : List Env} (a : Air P w B l H s.heap e t cls dd fl) (k : ∀ h', Air P w B l H h' e t cls dd .none → s.heap.UpToSlots h' → Q () { s with heap := h' }) : wpAny M A (setFlight (.ref e) none) Q E s :=
  mark_off a.fr a.tr a.st fun h' st fr tr up => k h' ⟨hok_in a.hok a.st st a.tk, st, a.nb, fr, tr, a.tk⟩ up
theorem Air.leave (a : Air P w B (env :: outer) H s.heap e t cls dd .none) (hfr : A.frames = some (env :: outer)) (hf : env.frame = some L) (k : ∀ h', Air P w B outer H h' e t cls dd .none → s.heap.UpToSlots h' → Q () { s with heap := h' }) :
    wpAny M A (leaving env (.ref e)) Q E s := by
  unfold leaving
  refine wpAny_bind (a.note hfr hf fun h1 a1 u1 => ?_)
  refine Air.off (s := { s with heap := h1 }) a1 fun h2 a2 u2 => ?_
  obtain ⟨_, _, fr⟩ := a2.fr
  exact k h2 ⟨a2.hok, a2.st, a2.nb, fr, a2.tr, a2.tk⟩ (u1.trans u2)
/-- a new exception comes into the air -/
theorem air_new {s0 : Heap} {vs : List Value} (hok : HOk P w H s0) (fl0 : s0.FunFrames B0 (env :: outer)) (hm : Heap.MadeExcOf s0 s.heap e cls vs) (hn : ∀ b ∈ frs (env :: outer), H b = none) (hfr : A.frames = some (env :: outer)) (hf : env.frame = some L)
    (k : ∀ h' t, Air P w (PySem.W.hideAll s0 (frs (env :: outer))) (env :: outer) H h' e t cls none (rawInt L) → s0.UpToSlots h' → Q () { s with heap := h' }) : wpAny M A (noteFrame (.ref e) env) Q E s := by
  obtain ⟨t, he, _, _⟩ := hm.there
  have st0 : (PySem.W.hideAll s0 (frs (env :: outer))).StaysIn s0 := fun b o q => PySem.W.of_hideAll _ q
  have st : (PySem.W.hideAll s0 (frs (env :: outer))).StaysIn s.heap := fun b o q => hm.keeps b o (st0 b o q)
  have tk : ∀ b u, H b = some u → ∃ o, (PySem.W.hideAll s0 (frs (env :: outer))).get? b = some o := fun b u q => by
    have lt := hok.lt q
    obtain ⟨o, ho⟩ : ∃ o, s0.get? b = some o := by
      have x := hok b u q
      cases u with
      | lst xs => obtain ⟨_, _, _, _, z⟩ := x; exact ⟨_, z⟩
      | tup xs => obtain ⟨_, _, _, o, z, _⟩ := x; exact ⟨_, z⟩
      | dK kvs => obtain ⟨_, _, _, _, o, _, _, z, _⟩ := x; exact ⟨_, z⟩
      | dT kvs => obtain ⟨_, _, _, _, o, _, _, z, _⟩ := x; exact ⟨_, z⟩
      | set S n => obtain ⟨o, _, _, _, z, _⟩ := x; exact ⟨_, z⟩
      | ins C dx fs => obtain ⟨_, _, _, z, _⟩ := x; exact ⟨_, z⟩
      | own y => obtain ⟨_, z⟩ := x; exact ⟨_, z⟩
      | xd fs => obtain ⟨_, ⟨_, _, _, z, _⟩, _⟩ := x; exact ⟨_, z⟩
      | rng lo hi => obtain ⟨_, _, _, z⟩ := x; exact ⟨_, z⟩
      | frz ob v => obtain ⟨z, _⟩ := x; exact ⟨_, z⟩
      | tbl ps => exact ⟨_, (show s0.get? b = some _ from x)⟩
      | met f y => exact ⟨_, (show s0.get? b = some _ from x)⟩
      | ext φ => obtain ⟨_, ⟨_, z⟩, _⟩ := x; exact ⟨_, z⟩
    exact ⟨o, PySem.W.hideAll_get _ ho fun hm => by rw [hn b hm] at q; cases q⟩
  have nb : (PySem.W.hideAll s0 (frs (env :: outer))).get? e = none := by
    cases q : (PySem.W.hideAll s0 (frs (env :: outer))).get? e with
    | none => rfl
    | some o => have := st0 e o q; rw [hm.new] at this; cases this
  have fl1 : s0.FunFrames (PySem.W.hideAll s0 (frs (env :: outer))) (env :: outer) := PySem.W.funFrames_hide fl0 fun x hx a ha => List.mem_filterMap.mpr ⟨x, hx, ha⟩
  refine note_first hfr (frames_up (.of_keeps hm.keeps) fl1) hf he st nb rfl rfl rfl fun h' st' fr tr up => ?_
  exact k h' t ⟨hok_in hok st0 st' tk, st', nb, fr, tr, tk⟩ ((Heap.UpToSlots.of_keeps hm.keeps).trans up)
end
end L2

namespace L2
open PySem PySem.Spec PyProof.Rows
theorem mem_frs {env : Env} {outer : List Env} {L b : Addr} (hf : env.frame = some L) : b ∈ frs (env :: outer) ↔ b = L ∨ b ∈ frs outer := by
  unfold frs
  rw [List.filterMap_cons, hf, List.mem_cons]
section
variable {X : Cx} {pins : List (Addr × Obj)} {σ : St} {H1 H2 : Hp} {s1 : Shared} {B h2 h3 : Heap}
/-- behind a flight that stays in this frame -/
theorem un_stay (U : Un (frs X.stack) [] H1 H2 s1.heap h2) (fr : h2.FunFrames B X.stack) (up : h2.UpToSlots h3) (st : B.StaysIn h3) (in1 : ∀ b o, s1.heap.get? b = some o → H1 b = none → b ∉ frs X.stack → B.get? b = some o)
    (in2 : ∀ b o, s1.heap.get? b = some o → b ∉ frs X.stack → ∃ o', B.get? b = some o') : Un (frs X.stack) [] H1 H2 s1.heap h3 where
  keep := fun b o q n hb _ => st b o (in1 b o q n hb)
  slot := fun b o q n hb hx => by
    obtain ⟨sl, e⟩ := U.slot b o q n hb hx
    obtain ⟨_, o', e', nf⟩ := fr.mem hb
    rw [e] at e'
    cases e'
    obtain ⟨sl', e2⟩ := up b _ e nf
    exact ⟨sl', e2⟩
  free := U.free
  there := fun b o q hx => by
    by_cases hb : b ∈ frs X.stack
    · obtain ⟨_, o', e', nf⟩ := fr.mem hb
      obtain ⟨sl, e2⟩ := up b _ e' nf
      exact ⟨_, e2⟩
    · obtain ⟨o', z⟩ := in2 b o q hb
      exact ⟨o', st b o' z⟩
  tups := U.tups
  frzs := U.frzs
  tbls := U.tbls
/-- behind a flight that leaves this frame -/
theorem un_left (I : Inv X pins σ H1 s1) (hx : X.ex = []) (hs : X.stack = X.env :: X.outer) (hf : X.env.frame = some X.env.locals) (U : Un (frs X.stack) [] H1 H2 s1.heap h2) (fr : h2.FunFrames B X.stack) (up : h2.UpToSlots h3) (st : B.StaysIn h3)
    (in1 : ∀ b o, s1.heap.get? b = some o → H1 b = none → b ∉ frs X.stack → B.get? b = some o) (in2 : ∀ b o, s1.heap.get? b = some o → b ∉ frs X.stack → ∃ o', B.get? b = some o') :
    Un X.fs [] X.H₀ H2 X.s₀.heap h3 ∧ (∀ b o, X.s₀.heap.get? b = some o → X.H₀ b = none → b ∉ X.fs → B.get? b = some o) ∧ ∀ b o, X.s₀.heap.get? b = some o → b ∉ X.fs → ∃ o', B.get? b = some o' := by
  have V := un_stay U fr up st in1 in2
  have ib : Un X.fs [] X.H₀ H1 X.s₀.heap s1.heap := by have := I.base; rw [hx] at this; exact this
  have ne : ∀ b o, X.s₀.heap.get? b = some o → b ≠ X.env.locals := fun b o q z => by
    subst z
    exact absurd (Nat.lt_of_lt_of_le (Heap.lt_size q) I.ok.above) (Nat.lt_irrefl _)
  have nm : ∀ b o, X.s₀.heap.get? b = some o → b ∉ X.fs → b ∉ frs X.stack := fun b o q hb z => by
    rw [hs] at z
    rcases (mem_frs hf).mp z with e | e
    · exact ne b o q e
    · exact hb e
  have sub : ∀ b, b ∈ X.fs → b ∈ frs X.stack := fun b hb => by rw [hs]; exact (mem_frs hf).mpr (.inr hb)
  refine ⟨⟨fun b o q n hb hx => ?_, fun b o q n hb hx => ?_, fun b o q n hx => ?_, fun b o q hx => ?_, fun b xs q => V.tups b xs (ib.tups b xs q), fun b o u q => V.frzs b o u (ib.frzs b o u q), fun b ps q => ?_⟩, fun b o q n hb => ?_, fun b o q hb => ?_⟩
  · exact V.keep b o (ib.keep b o q n hb hx) (ib.free b o q n hx) (nm b o q hb) hx
  · obtain ⟨sl, e⟩ := ib.slot b o q n hb hx
    obtain ⟨sl', e'⟩ := V.slot b _ e (ib.free b o q n hx) (sub b hb) hx
    exact ⟨sl', e'⟩
  · obtain ⟨o', e⟩ := ib.there b o q hx
    exact V.free b o' e (ib.free b o q n hx) hx
  · obtain ⟨o', e⟩ := ib.there b o q hx
    exact V.there b o' e hx
  · obtain ⟨m1, e1⟩ := ib.tbls b ps q
    obtain ⟨m2, e2⟩ := V.tbls b _ e1
    exact ⟨m1 ++ m2, by rw [e2, Array.append_assoc]⟩
  · exact in1 b o (ib.keep b o q n hb (by simp)) (ib.free b o q n (by simp)) (nm b o q hb)
  · obtain ⟨o', e⟩ := ib.there b o q (by simp)
    exact in2 b o' e (nm b o q hb)
end
/-! ### a def out of which an exception may fly -/
section
variable {P : Program} {w : World} {K : PySem.W.Frag} {mg : Str → Option Value} {base : Heap} {N : List Str} {qual : Str} {scope : Scope} {f : Addr} {cd : Value} {A : Around} {outer : List Env} {s : Shared} {H : Hp} {E : XK}
abbrev cxX (P : Program) (w : World) (K : PySem.W.Frag) (mg : Str → Option Value) (base : Heap) (N : List Str) (qual : Str) (scope : Scope) (f : Addr) (cd : Value) (A : Around) (outer : List Env) (s : Shared) (H : Hp) (E : XK) : Cx :=
  cxOf (CXx P w) P w K mg base N qual scope f cd A outer s H E
/-- a callee's exception passes on -/
def PassS (X : Cx) (E : St → XK) : Prop := ∀ (pins : List (Addr × Obj)) (σ : St) (H : Hp) (s : Shared) (e : Value) (s' : Shared), Inv X pins σ H s → CXx X.prog X.w X.stack H s (E σ) e s' → X.xe e s'
theorem passE : PassS (cxX P w K mg base N qual scope f cd A outer s H E) fun _ => E := by
  intro pins σ H1 s1 ev s2 I h
  obtain ⟨e, t, cls, dd, H2, B, rfl, os, bare, U, a, in1, in2, q⟩ := h
  show wpAny (model P w) (A.deeper (envOfC qual scope s.heap.objs.size f cd)) (leaving (envOfC qual scope s.heap.objs.size f cd) (.ref e)) _ _ s2
  have hfr := I.ok.frames
  refine Air.leave (L := s.heap.objs.size) a hfr rfl fun h3 a3 up => ?_
  obtain ⟨u, i1, i2⟩ := un_left I rfl rfl rfl U a.fr up a3.st in1 in2
  exact ⟨e, t, cls, dd, H2, B, rfl, os.trans I.os, bare, u, a3, i1, i2, q⟩
/-- where no exception may come -/
theorem passN {X : Cx} : PassS X fun _ => E0 := fun _ _ _ _ _ _ _ ⟨_, _, _, _, _, _, _, _, _, _, _, _, _, q⟩ => q.elim
/-- a new exception leaves -/
def RaiseOk (X : Cx) (E : XK) : Prop := ∀ (pins : List (Addr × Obj)) (σ : St) (H : Hp) (s : Shared) (h' : Heap) (e : Addr) (cls : Value) (vs : List Value), Inv X pins σ H s → Heap.MadeExcOf s.heap h' e cls vs → E cls none H → X.xe (.ref e) { s with heap := h' }
theorem raiseE : RaiseOk (cxX P w K mg base N qual scope f cd A outer s H E) E := by
  intro pins σ H1 s1 h' e cls vs I hm q
  show wpAny (model P w) (A.deeper (envOfC qual scope s.heap.objs.size f cd)) (leaving (envOfC qual scope s.heap.objs.size f cd) (.ref e)) _ _ _
  have hfr := I.ok.frames
  unfold leaving
  refine wpAny_bind (air_new (s := { s1 with heap := h' }) I.hok I.stack hm I.stkFree hfr rfl fun h2 t a2 u2 => ?_)
  refine Air.off (s := { s1 with heap := h2 }) a2 fun h3 a3 u3 => ?_
  obtain ⟨_, _, fr⟩ := a3.fr
  have fr0 : s1.heap.FunFrames (PySem.W.hideAll s1.heap (frs (cxX P w K mg base N qual scope f cd A outer s H E).stack)) (cxX P w K mg base N qual scope f cd A outer s H E).stack := PySem.W.funFrames_hide I.stack fun x hx a ha => List.mem_filterMap.mpr ⟨x, hx, ha⟩
  obtain ⟨u, i1, i2⟩ := un_left I rfl rfl rfl .refl fr0 (u2.trans u3) a3.st (fun b o e _ hb => PySem.W.hideAll_get _ e hb) (fun b o e hb => ⟨o, PySem.W.hideAll_get _ e hb⟩)
  exact ⟨e, t, cls, none, H1, _, rfl, I.os, I.bare, u, ⟨a3.hok, a3.st, a3.nb, fr, a3.tr, a3.tk⟩, i1, i2, q⟩
theorem Fun.okx {x qual : Str} {st : Stmt} {f : Addr} {fd : FuncData} {N ps : List Str} {k : Nat} {sp : Sp} (F : Fun K x qual st f fd) (S : FnScope N ps (defScope st)) (len : ∀ vs H Q E, sp vs H Q E → vs.length = ps.length)
    (hbody : ∀ (cdv : Value) (A : Around) (outer : List Env) (s : Shared) (H : Hp) (vs : List V) (Q : VK) (E : XK), Room k (A.deeper (envOfC qual (defScope st) s.heap.objs.size f cdv)) → sp vs H Q E →
      ∃ t, PSs (cxX P w K mg base N qual (defScope st) f cdv A outer s H E) (defBody st) t ∧ t { nx := fun _ H' => Q .non H', rt := Q } (start N vs) H) : FnOk P w K mg base (CXx P w) (k + 1) f fd ps sp := by
  obtain ⟨oc, od, kV, doc, pm, an, cdv, ct, osl, rfl, lk, hcd⟩ := F.ex
  exact fn_of lk hcd S len fun A outer s H vs Q E hr hsp => hbody cdv A outer s H vs Q E hr hsp
end
theorem PS.nox {X : Cx} {st : Stmt} {t : TS} (h : PS X.nox st t) : PS X st t := fun pins s σ H D I hw =>
  wpAny_mono (h pins s σ H D (I.wish _) hw) (fun _ _ q => q.unwish) fun _ _ z => False.elim z
/-! ### calls that may raise -/
structure HasX (P : Program) (w : World) (K : PySem.W.Frag) (mg : Str → Option Value) (base : Heap) (x : Str) (k : Nat) (ps : List Str) (sp : Sp) : Prop where
  ex : ∃ (f : Addr) (fd : FuncData), FnOk P w K mg base (CXx P w) k f fd ps sp ∧ mg x = some (.ref f) ∧ PySem.W.keepIn K (.ref f) = true ∧ Binds K fd ps []
structure HasMX (P : Program) (w : World) (K : PySem.W.Frag) (mg : Str → Option Value) (base : Heap) (C : Addr) (m : Str) (k : Nat) (ps : List Str) (dvs : List V) (sp : Sp) : Prop where
  ex : ∃ (f : Addr) (fd : FuncData) (ds : List Value), FnOk P w K mg base (CXx P w) k f fd ps sp ∧ Meth K C m f ∧ Binds K fd ps ds ∧ Vals dvs ds
structure HasIX (P : Program) (w : World) (K : PySem.W.Frag) (mg : Str → Option Value) (base : Heap) (C : Addr) (k : Nat) (ps : List Str) (sp : Sp) : Prop where
  ex : ∃ (f : Addr) (fd : FuncData), Mk K C f ∧ FnOk P w K mg base (CXx P w) k f fd ps sp ∧ Binds K fd ps []
section
variable {P : Program} {w : World} {K : PySem.W.Frag} {mg : Str → Option Value} {base : Heap} {x m qual : Str} {C : Addr} {st : Stmt} {j k : Nat} {ps : List Str} {dvs : List V} {sp : Sp}
theorem HasX.mono (h : HasX P w K mg base x j ps sp) (e : j ≤ k) : HasX P w K mg base x k ps sp := let ⟨f, fd, a, b, c, d⟩ := h.ex; ⟨f, fd, a.mono e, b, c, d⟩
theorem HasMX.mono (h : HasMX P w K mg base C m j ps dvs sp) (e : j ≤ k) : HasMX P w K mg base C m k ps dvs sp := let ⟨f, fd, ds, a, b, c, d⟩ := h.ex; ⟨f, fd, ds, a.mono e, b, c, d⟩
theorem HasIX.mono (h : HasIX P w K mg base C j ps sp) (e : j ≤ k) : HasIX P w K mg base C k ps sp := let ⟨f, fd, a, b, c⟩ := h.ex; ⟨f, fd, a, b.mono e, c⟩
theorem Here.hasX (h : Here K mg x st) (b : ∀ f fd, Fun K x x st f fd → Binds K fd ps []) (ok : ∀ f fd, Fun K x x st f fd → FnOk P w K mg base (CXx P w) k f fd ps sp) : HasX P w K mg base x k ps sp :=
  let ⟨f, fd, F, m⟩ := h.ex
  ⟨f, fd, ok f fd F, m, F.kp, b f fd F⟩
theorem HereM.hasMX (h : HereM K C m qual st) (b : ∀ f fd, Fun K m qual st f fd → Binds K fd ps []) (ok : ∀ f fd, Fun K m qual st f fd → FnOk P w K mg base (CXx P w) k f fd ps sp) : HasMX P w K mg base C m k ps [] sp :=
  let ⟨f, fd, F, M⟩ := h.ex
  ⟨f, fd, [], ok f fd F, M, b f fd F, .nil⟩
end
section
variable {X : Cx} {k : Nat} {f C : Addr} {fd : FuncData} {ps : List Str} {sp : Sp} {dvs : List V} {ds : List Value} {E : St → XK} {x m : Str} {p pos apos : Pos} {e o : Expr} {es : List Expr} {ta : TE} {t : TA}
theorem run_fnS {pins : List (Addr × Obj)} {σ : St} {H : Hp} {s : Shared} {Q : VK} {us : List Value} {vs : List V} (F : FnOk X.prog X.w X.K X.mg X.base (CXx X.prog X.w) k f fd ps sp) (hr : Room k X.A) (hb : Binds X.K fd ps ds) (hd : Vals dvs ds) (hx : PassS X E)
    (I : Inv X pins σ H s) (r : Vals vs us) (h : sp (vs ++ dvs) H Q (E σ)) : wpAny (model X.prog X.w) X.A (call (.ref f) us) (EP X pins σ Q) X.xe s := by
  have r2 : Vals (vs ++ dvs) (us ++ ds) := r.append hd
  have hl : (us ++ ds).length = ps.length := by rw [← r2.length]; exact F.len _ _ _ _ h
  refine wpAny_call (codeAny_mono (F.run X.A X.stack s H ⟨us, []⟩ (us ++ ds) (vs ++ dvs) Q (E σ) hr I.env0 (hb s us I.kIn hl) r2 h) fun r s' hq => ?_)
  cases r with
  | error e => exact hx pins σ H s e s' I hq
  | ok fl =>
    cases fl with
    | ret u => exact I.after hq
    | next => exact False.elim hq
    | brk => exact False.elim hq
    | cont => exact False.elim hq
/-- f(e, ..), which may raise -/
theorem pe_hasX (h : HasX X.prog X.w X.K X.mg X.base x k ps sp) (hx : PassS X E) (hr : Room k X.A) (hg : Gl X x) (ha : PA X (e :: es) t) (hdb : (x == ("__debug__" : Str)) = false := by decide)
    (he : starEach (e :: es) X.env = (false, eval e X.env) :: starEach es X.env := by rfl) (hpl : (backTo pos (starEach es X.env)).any (·.1) = false := by rfl) :
    PE X (.Call (.Name x p) (e :: es) [] pos) (fun σ H Q => t σ H fun vs H1 => sp vs H1 Q (E σ)) := by
  obtain ⟨f, fd, F, hm, hk, hb⟩ := h.ex
  intro pins s σ H Q I h
  refine wpAny_Call_Name_kw (ld_glob I hg hm ?_ hdb)
  refine PySem.W.callWith_K (h₀ := X.base) I.ok.mod.kin hk (thn (ha pos pins s σ H _ I h) fun us s1 ⟨vs, H1, I1, r, q⟩ => ⟨I1.kIn, ?_⟩) he hpl
  exact run_fnS (dvs := []) F hr hb .nil hx I1 r (by rw [List.append_nil]; exact q)
/-- o.m(e, ..), which may raise, whatever class o is of -/
def tMethX (P : Program) (w : World) (K : PySem.W.Frag) (mg : Str → Option Value) (base : Heap) (m : Str) (k : Nat) (E : St → XK) (ta : TE) (t : TA) : TE := fun σ H Q => ta σ H fun x H1 => ∃ a C dx fs ps dvs sp, x = .ref a ∧ H1 a = some (.ins C dx fs) ∧ Cls K C ∧ HasMX P w K mg base C m k ps dvs sp ∧ fs.lookup m = none ∧
  t σ H1 fun vs H2 => sp (x :: (vs ++ dvs)) H2 Q (E σ)
theorem pe_methX {pl : Sem Bool} (he : PE X o ta) (hx : PassS X E) (hr : Room k X.A) (ha : PA X (e :: es) t)
    (hst : starEach (e :: es) X.env = (false, eval e X.env) :: starEach es X.env := by rfl) (hpl : (backTo pos (starEach es X.env)).any (·.1) = false := by rfl)
    (ht : eval (.Call (.Attribute o m apos) (e :: es) [] pos) X.env = (do
      let ov ← eval o X.env
      standAt apos.atName
      let (f, first) ← holding [ov] (getMethod ov m pl)
      callWith pos f first (backTo pos (starEach (e :: es) X.env)) (backToKw pos (keywordEach [] X.env))) := by rfl) :
    PE X (.Call (.Attribute o m apos) (e :: es) [] pos) (tMethX X.prog X.w X.K X.mg X.base m k E ta t) := by
  intro pins s σ H Q I h
  refine PySem.W.methodCall_KW (pl := pl) (thn (he pins s σ H _ I h) fun u s1 ⟨x, H1, I1, rx, a, C, dx, fs, ps, dvs, sp, ex, ea, c, hM, l, q⟩ => ?_) ht
  subst ex
  obtain rfl : u = Value.ref a := rx
  obtain ⟨f, fd, ds, F, hm, hb, hd⟩ := hM.ex
  refine getmeth_ok I1 ea c hm l ?_
  refine PySem.W.callWith_K (first := [.ref a]) (h₀ := X.base) I.ok.mod.kin hm.kp (thn (ha pos pins s1 σ H1 _ I1 q) fun us s2 ⟨vs, H2, I2, r, q2⟩ => ⟨I2.kIn, ?_⟩) hst hpl
  exact run_fnS (us := .ref a :: us) (vs := .ref a :: vs) F hr hb hd hx I2 (.cons rfl r) q2
end
end L2

namespace L2
open PySem PySem.Spec PyProof.Rows
abbrev bmV : List Value := [.type "ValueError", .type "Exception", .type "BaseException", .type "object"]
/-- an own exception class of the text, under ValueError, without an __init__ of its own -/
structure ExcC (K : PySem.W.Frag) (mg : Str → Option Value) (x : Str) (C : Addr) : Prop where
  cls : XCls K C
  mgx : mg x = some (.ref C)
  ein : PySem.W.excIn K C bmV "ValueError.__new__" = true
theorem ExcC.obj {K : PySem.W.Frag} {mg : Str → Option Value} {x : Str} {C : Addr} (c : ExcC K mg x C) {h : Heap} (X : K.In h) : OwnCls x C bmV "ValueError.__new__" mg h := by
  refine ⟨c.mgx, ?_⟩
  have q := c.ein
  unfold PySem.W.excIn at q
  split at q
  · rename_i dd cd sl ho
    split at q
    · rename_i C' bm k0 k1 k2 k3 n k5 hm hs
      simp only [Bool.and_eq_true, beq_iff_eq, Bool.not_eq_true'] at q
      obtain ⟨⟨⟨⟨⟨rfl, rfl⟩, hdel⟩, ht⟩, hok⟩, hni⟩ := q
      obtain ⟨nm, bs, mro, ns, qn, hd, sn, sub, ab, col, del⟩ := cd
      dsimp only at hm hdel hok hni
      subst hm hdel
      obtain ⟨l⟩ := sl
      have hl : l = [k0, k1, k2, k3, some (.builtin "ValueError.__new__"), k5] := hs
      subst hl
      exact ⟨bm, ns, nm, qn, bs, hd, sn, sub, ab, col, dd, k0, k1, k2, k3, k5, _, X _ _ ho, .of_isNs (PySem.W.isNs_of_in X hok), PySem.W.nsMap_none_of_in X hok hni, PySem.W.tail_of_in X ht⟩
    · cases q
  · cases q
section
variable {X : Cx} {k : Nat} {C : Addr} {ps : List Str} {sp : Sp} {x m : Str} {p pos np cpos : Pos} {e : Expr} {es : List Expr} {t : TA}
/-- raise C(e, ..) -/
theorem ps_raise {E : XK} (c : ExcC X.K X.mg x C) (hR : RaiseOk X E) (hcalm : X.calm = true) (hg : Gl X x) (ha : PA X (e :: es) t) (hl : (e :: es).length ≤ 1000 := by decide)
    (he : starEach (e :: es) X.env = (false, eval e X.env) :: starEach es X.env := by rfl) (hpl : (backTo cpos (starEach es X.env)).any (·.1) = false := by rfl) (hdb : (x == ("__debug__" : Str)) = false := by decide) :
    PS X (.Raise (some (.Call (.Name x np) (e :: es) [] cpos)) none pos) (fun _ σ H => t σ H fun vs H1 => vs.length ≤ 1000 ∧ E (.ref C) none H1) := by
  intro pins s σ H D I h
  obtain ⟨bm, N, nm, q, bs, hdct, sn, sub, ab, col, dd, k0, k1, k2, k3, k5, mN, hC, hN, hni, T⟩ := (c.obj I.mod.kin).obj
  refine wpAny_Raise_call_subT (C := C) (nm := nm) (q := q) (N := N) (bs := bs) (bm := bm) (hdct := hdct) (sn := sn) (sub := sub) (ab := ab) (col := col) (dd := dd) (k0 := k0) (k1 := k1) (k2 := k2) (k3 := k3) (k5 := k5) PySem.F.excBase_ValueError
    (mN := mN) (T.hasType PySem.F.excBase_ValueError.hasBase) (I.ok.hd hcalm) (by rw [he]; show (false || (backTo cpos (starEach es X.env)).any (·.1)) = false; rw [hpl]; rfl) hni (ld_glob I hg c.mgx ⟨rfl, ?_⟩ hdb)
  have z := ha cpos pins s σ H _ I h
  rw [he] at z ⊢
  refine Calls.evalArgs_plain (wpAny_mono z (fun us s2 ⟨vs, H2, I2, r, hv, q2⟩ => ⟨rfl, ?_, I2.bk _ _ hC, hN.keeps I2.bk, T.keeps I2.bk, fun h' e' hm => hR pins σ H2 s2 h' e' _ _ I2 hm q2⟩) fun _ _ y => y)
  rw [← r.length]
  exact Nat.le_of_lt (small1000 hv)
end
end L2

namespace L2
open PySem PySem.Spec PyProof.Rows
/-- an exception that was caught -/
def excO (e C : Addr) (dd : Option Addr) : HO := .ext fun h => ∃ oe vs, h.get? e = some oe ∧ oe.cls = .ref C ∧ oe.dict = dd ∧ oe.data = .fields vs
section
variable {X : Cx} {pins : List (Addr × Obj)} {σ σ1 : St} {H H1 : Hp} {s s1 : Shared} {e C : Addr} {dd : Option Addr}
theorem Inv.track (I : Inv X pins σ H s) (I1 : Inv X pins σ1 H1 s1) (ne : s1.heap.get? e = none) (hn : H e = none) {oe : Obj} {vs : Array Value} (he : s.heap.get? e = some oe) (hc : oe.cls = .ref C) (hd : oe.dict = dd) (hv : oe.data = .fields vs) : Inv X pins σ (upd H e (excO e C dd)) s := by
  have nx : ∀ b u, H b = some u → b ≠ e := fun b u q z => by subst z; rw [hn] at q; cases q
  have nh : ∀ b o, s1.heap.get? b = some o → b ≠ e := fun b o q z => by subst z; rw [ne] at q; cases q
  have ib := I.base
  refine ⟨I.ok, I.os, I.bare, ⟨ib.keep, ib.slot, fun b o q n hx => ?_, ib.there, fun b xs q => ?_, fun b o u q => ?_, fun b ps q => ?_⟩, I.loc, I.cell, ?_, fun x c q => ?_, fun p hp => ?_, fun b u q => ?_, I.len⟩
  · obtain ⟨o', z⟩ := I1.base.there b o q hx
    rw [upd_ne (nh b o' z)]
    exact ib.free b o q n hx
  · have z := ib.tups b xs q
    rw [upd_ne (nx b _ z)]; exact z
  · have z := ib.frzs b o u q
    rw [upd_ne (nx b _ z)]; exact z
  · obtain ⟨m, z⟩ := ib.tbls b ps q
    exact ⟨m, by rw [upd_ne (nx b _ z)]; exact z⟩
  · obtain ⟨m, ⟨o, es, ep, z, _⟩, _⟩ := I1.loc
    rw [upd_ne (nh _ o z)]; exact I.free
  · obtain ⟨v, o, z, _⟩ := I1.cell x c q
    rw [upd_ne (nh _ o z)]; exact I.freeC x c q
  · obtain ⟨a, b, c, d, f⟩ := I.pin p hp
    exact ⟨a, by rw [upd_ne (nh _ _ (I1.pin p hp).1)]; exact b, c, d, f⟩
  · by_cases hb : b = e
    · subst hb
      rw [upd_same] at q
      cases q
      refine ⟨⟨oe, vs, he, hc, hd, hv⟩, ⟨oe, he⟩, fun h1 h2 => ?_⟩
      rintro ⟨o1, v1, a, b, c, d⟩ k
      exact ⟨o1, v1, k _ a, b, c, d⟩
    · rw [upd_ne hb] at q
      exact (I.hok b u q).stay (fun c v _ z => z) (fun c z => by rw [upd_ne (nx c _ z)]; exact z) fun c xs z => by rw [upd_ne (nx c _ z)]; exact z
/-- within the suite of an except clause -/
def Cx.suite (X : Cx) (e : Addr) : Cx := { X with A := X.A.mark (some (.ref e)), calm := false, xe := fun _ _ => False }
theorem Inv.suite (I : Inv X pins σ H s) (e : Addr) : Inv (X.suite e) pins σ H s :=
  ⟨⟨I.ok.mod, I.ok.kind, I.ok.glob, I.ok.blt, I.ok.above, I.ok.inj, I.ok.has, I.ok.cab, (fun z => nomatch z), I.ok.frames, I.ok.stk, I.ok.exf, I.ok.bs, I.ok.bsz, I.ok.noex, I.ok.exfs, I.ok.funs, I.ok.frf⟩, I.os, I.bare, I.base, I.loc, I.cell, I.free, I.freeC, I.pin, I.hok, I.len⟩
theorem Inv.unsuite (ok : X.Ok) (I : Inv (X.suite e) pins σ H s) : Inv X pins σ H s := ⟨ok, I.os, I.bare, I.base, I.loc, I.cell, I.free, I.freeC, I.pin, I.hok, I.len⟩
/-- within the body of a try -/
abbrev Cx.tryB (X : Cx) (pn : List (Addr × Obj)) (xe : Value → Shared → Prop) : Cx := { X with pn := pn, xe := xe }
theorem Inv.tryB (I : Inv X pins σ H s) (xe : Value → Shared → Prop) : Inv (X.tryB (X.pn ++ pins) xe) [] σ H s :=
  ⟨⟨I.ok.mod, I.ok.kind, I.ok.glob, I.ok.blt, I.ok.above, I.ok.inj, I.ok.has, I.ok.cab, I.ok.hd, I.ok.frames, I.ok.stk, I.ok.exf, I.ok.bs, I.ok.bsz, I.ok.noex, I.ok.exfs, I.ok.funs, I.ok.frf⟩, I.os, I.bare, I.base, I.loc, I.cell, I.free, I.freeC, fun p hp => I.pin p (by rw [List.append_nil] at hp; exact hp), I.hok, I.len⟩
theorem Inv.untryB {xe : Value → Shared → Prop} {pins' : List (Addr × Obj)} (ok : X.Ok) (I : Inv (X.tryB (X.pn ++ pins) xe) pins' σ H s) : Inv X pins σ H s :=
  ⟨ok, I.os, I.bare, I.base, I.loc, I.cell, I.free, I.freeC, fun p hp => I.pin p (List.mem_append_left _ hp), I.hok, I.len⟩
/-- a name goes -/
theorem Inv.drop {i : Nat} {n : Str} {h' : Heap} {v : Option Value} {m : Str → Option Value} {t' : Nat} (I : Inv X pins σ H s) (hN : X.N.Nodup) (hi : X.N[i]? = some n) (hm : s.heap.Ns X.env.locals m)
    (hl : ∀ (j : Nat) (x : Str) (u : V), X.N[j]? = some x → σ[j]? = some (some u) → Vis X.env.scope x → ∃ z, RelV u z ∧ Look X.env s.heap m x z)
    (hn : h'.Ns X.env.locals (fun x => if x = n then v else m x)) (sb : Heap.SameBut X.env.locals s.heap h') : Inv X pins (σ.set i none) H { s with heap := h', toks := t' } := by
  have keep : ∀ b o, b ≠ X.env.locals → s.heap.get? b = some o → h'.get? b = some o := fun b o hb q => sb.extBut b o hb q
  have ne0 : ∀ b o, X.s₀.heap.get? b = some o → b ≠ X.env.locals := fun b o q z => by
    subst z
    exact absurd (Nat.lt_of_lt_of_le (Heap.lt_size q) I.ok.above) (Nat.lt_irrefl _)
  have nt : ∀ b u, H b = some u → b ≠ X.env.locals := fun b u q z => by subst z; rw [I.free] at q; cases q
  have ib := I.base
  have hσ : i < σ.length := by rw [I.len]; exact (List.getElem?_eq_some_iff.mp hi).1
  refine ⟨I.ok, I.os, I.bare, ⟨fun b o q a c d => keep b o (ne0 b o q) (ib.keep b o q a c d), fun b o q a c d => ?_, ib.free, fun b o q d => ?_, ib.tups, ib.frzs, ib.tbls⟩, ⟨_, hn, fun j x u a b c => ?_⟩, fun x c q => ?_, I.free, I.freeC, fun p hp => ?_, fun b u q => ?_, ?_⟩
  · obtain ⟨sl, z⟩ := ib.slot b o q a c d
    exact ⟨sl, keep b _ (ne0 b o q) z⟩
  · obtain ⟨o', z⟩ := ib.there b o q d
    exact ⟨o', keep b o' (ne0 b o q) z⟩
  · have hji : j ≠ i := fun z => by
      subst z
      rw [List.getElem?_set_self hσ] at b
      cases b
    rw [List.getElem?_set_ne (Ne.symm hji)] at b
    obtain ⟨z, r, lk⟩ := hl j x u a b c
    have hxn : x ≠ n := fun z => by
      subst z
      exact hji ((List.getElem?_inj (List.getElem?_eq_some_iff.mp a).1 hN).mp (a.trans hi.symm))
    refine ⟨z, r, ?_⟩
    rcases lk with ⟨k1, k2⟩ | ⟨k1, cc, k2, oc, k3, k4⟩
    · exact .inl ⟨k1, by show (if x = n then v else m x) = some z; rw [if_neg hxn]; exact k2⟩
    · exact .inr ⟨k1, cc, k2, oc, keep _ _ (I.cne x cc k2) k3, k4⟩
  · obtain ⟨v0, oc, k3, k4⟩ := I.cell x c q
    exact ⟨v0, oc, keep _ _ (I.cne x c q) k3, k4⟩
  · obtain ⟨a, b, c, d, f⟩ := I.pin p hp
    exact ⟨keep _ _ c a, b, c, d, f⟩
  · exact (I.hok b u q).stay (fun c w hc z => keep c w (by rcases hc with rfl | hc; exact nt _ _ q; exact nt _ _ hc) z) (fun _ z => z) fun _ _ z => z
  · rw [List.length_set]; exact I.len
theorem exc_matches {prog : Program} {w : World} {A : Around} {E : Value → Shared → Prop} {K : PySem.W.Frag} {CE : Addr} {Q : Bool → Shared → Prop} {oe : Obj} (KX : K.In s.heap) (ht : PySem.W.typeIn K (.ref CE) = some (.type "type")) (hb : PySem.W.mroIn K CE (.type "BaseException") = some true)
    (hcl : (PySem.W.clsIn K CE).isSome = true) (hm : PySem.W.mroIn K C (.ref CE) = some true) (he : s.heap.get? e = some oe) (hc : oe.cls = .ref C) (h : Q true s) : wpAny (model prog w) A (excMatches (.ref e) (.ref CE)) Q E s := by
  obtain ⟨hh, g, d, tk, os⟩ := s
  have L1 := PySem.W.looks_typeIn (M := model prog w) KX ht
  have L2 := PySem.W.looks_mroIn (M := model prog w) KX hb
  have L3 := PySem.W.looks_mroIn (M := model prog w) KX hm
  have L0 : PySem.W.Looks (model prog w) hh (typeOf (.ref e)) (.ref C) := hc ▸ (PySem.W.Looks.ld he).andThen .now
  have f := tc_notTuple
  have L4 : PySem.W.Looks (model prog w) hh (isInstance (.ref CE) (.type "tuple")) false := L1.andThen (PySem.W.Looks.of_pure f)
  have L5 : PySem.W.Looks (model prog w) hh (isType (.ref CE)) true := by
    obtain ⟨cd, z⟩ := Option.isSome_iff_exists.mp hcl
    unfold PySem.W.clsIn at z
    split at z
    · rename_i c' d' cd' sl' ho
      intro A' Q' E' s' k q
      unfold isType loadHead
      exact wpAny_bind (wpAny_loadPart (k _ _ (KX _ _ ho)) (wpAny_pure q))
    · cases z
  unfold excMatches
  refine wpAny_bind (m := isInstance (.ref CE) (.type "tuple")) (L4.at ?_)
  refine wpAny_bind (m := (pure [Value.ref CE] : Sem (List Value))) (wpAny_pure ?_)
  refine wpAny_bind ?_
  rw [List.forIn_cons]
  refine wpAny_bind (wpAny_bind (m := isExcClass (.ref CE)) ?_)
  unfold isExcClass
  refine wpAny_bind (L5.at (L2.at ?_))
  refine wpAny_pure (wpAny_pure (a := PUnit.unit) ?_)
  refine wpAny_bind (L0.at (wpAny_bind ?_))
  rw [List.forIn_cons]
  refine wpAny_bind (wpAny_bind (L3.at ?_))
  refine wpAny_pure (wpAny_pure (wpAny_pure h))
/-- what is wanted of an exception that a try catches -/
def Caught (K : PySem.W.Frag) (CE : Addr) (i : Nat) (ts : Addr → TS) (D : Ends) : St → XK := fun σ1 cls dd H1 => ∃ C, cls = .ref C ∧ PySem.W.mroIn K C (.ref CE) = some true ∧
  ∀ e, H1 e = none → ts e { nx := fun σ2 H2 => D.nx (σ2.set i none) H2, rt := fun _ _ => False } (σ1.set i (some (.ref e))) (upd H1 e (excO e C dd))
def tTry (K : PySem.W.Frag) (CE : Addr) (i : Nat) (tb : (St → XK) → List (Addr × Obj) → (Value → Shared → Prop) → TS) (ts : Addr → TS) : TS := fun D σ H => ∀ pn xe, tb (Caught K CE i ts D) pn xe D σ H
/-- the class that a clause names -/
structure CatC (K : PySem.W.Frag) (mg : Str → Option Value) (x : Str) (CE : Addr) : Prop where
  mgx : mg x = some (.ref CE)
  ty : PySem.W.typeIn K (.ref CE) = some (.type "type")
  be : PySem.W.mroIn K CE (.type "BaseException") = some true
  cl : (PySem.W.clsIn K CE).isSome = true
theorem ps_try {body : List Stmt} {b₀ : Stmt} {suite : List Stmt} {cx n : Str} {np hpos pos : Pos} {i : Nat} {CE : Addr} {tb : (St → XK) → List (Addr × Obj) → (Value → Shared → Prop) → TS} {ts : Addr → TS} (cE : CatC X.K X.mg cx CE) (hN : X.N.Nodup) (hi : X.N[i]? = some n) (hl : X.env.scope.names.lookup n = some .local) (hg : Gl X cx)
    (hb : ∀ (E : St → XK) (pn : List (Addr × Obj)) (xe : Value → Shared → Prop), PassS (X.tryB pn xe) E → PSs (X.tryB pn xe) body (tb E pn xe)) (hs : ∀ e, PSs (X.suite e) (b₀ :: suite) (ts e))
    (hstk : X.stack = X.env :: X.outer := by rfl) (hf : X.env.frame = some X.env.locals := by rfl) (hdb : (cx == ("__debug__" : Str)) = false := by decide) :
    PS X (.Try body [.ExceptHandler (some (.Name cx np)) (some n) (b₀ :: suite) hpos] [] [] pos) (tTry X.K CE i tb ts) := by
  intro pins s σ H D I h
  let EE := Caught X.K CE i ts D
  let XE : Value → Shared → Prop := fun ev s' => ∃ σ1 H1 s1, Inv X pins σ1 H1 s1 ∧ CXx X.prog X.w X.stack H1 s1 (EE σ1) ev s'
  have pass : PassS (X.tryB (X.pn ++ pins) XE) EE := fun pins' σ1 H1 s1 ev s' I' h' => ⟨σ1, H1, s1, I'.untryB I.ok, h'⟩
  have back : ∀ f s', SP (X.tryB (X.pn ++ pins) XE) [] D f s' → SP X pins D f s' := fun f s' q => by
    cases f with
    | next => obtain ⟨σ', H', J, q⟩ := q; exact ⟨σ', H', J.untryB I.ok, q⟩
    | brk => obtain ⟨σ', H', J, q⟩ := q; exact ⟨σ', H', J.untryB I.ok, q⟩
    | cont => obtain ⟨σ', H', J, q⟩ := q; exact ⟨σ', H', J.untryB I.ok, q⟩
    | ret u => obtain ⟨v, σ', H', J, r, q⟩ := q; exact ⟨v, σ', H', J.untryB I.ok, r, q⟩
  refine wpAny_Try_except (wpAny_mono (hb EE _ XE pass [] s σ H D (I.tryB XE) (h _ _)) (fun f s1 q => ?_) fun ev s2 hx => ?_)
  · have q' := back f s1 q
    cases f with
    | next => exact wpAny_execs_nil q'
    | brk => exact q'
    | cont => exact q'
    | ret u => exact q'
  obtain ⟨σ1, H1, s1, I1, e, t, cls, dd, H2, B, rfl, os, bare, U, a, in1, in2, C, rfl, hm, k⟩ := hx
  have hfr := I.ok.frames
  rw [hstk] at hfr
  have a' : Air X.prog X.w B (X.env :: X.outer) H2 s2.heap e t (.ref C) dd .none := by rw [← hstk]; exact a
  refine a'.note hfr hf fun h4 a4 u4 => ?_
  refine Air.off (s := { s2 with heap := h4 }) a4 fun h5 a5 u5 => ?_
  have U5 := un_stay U a.fr (u4.trans u5) a5.st in1 in2
  have I5 : Inv X pins σ1 H2 { s2 with heap := h5 } := I1.call' (ch := []) os U5 a5.hok bare fun b z => absurd z (by simp)
  refine wpAny_handleBy_cons (codeAny_handlers_test (ld_glob (X := X.suite e) (I5.suite e) hg cE.mgx ?_ hdb)) (by intro q; cases q)
  obtain ⟨oe, vs, T, oT, tvs, he5, hc5, _⟩ := id a5.tr
  refine exc_matches (s := { s2 with heap := h5 }) I5.kIn cE.ty cE.be cE.cl hm he5 hc5 ?_
  refine codeAny_handlers_suite_as (Air.off (s := { s2 with heap := h5 }) a5 fun h6 a6 u6 => ?_)
  have U6 := un_stay U a.fr ((u4.trans u5).trans u6) a6.st in1 in2
  have I6 : Inv X pins σ1 H2 { s2 with heap := h6 } := I1.call' (ch := []) os U6 a6.hok bare fun b z => absurd z (by simp)
  obtain ⟨oe6, vs6, T6, oT6, tvs6, he6, hc6, hd6, hv6, _⟩ := id a6.tr
  have ne1 : s1.heap.get? e = none := by
    cases q : s1.heap.get? e with
    | none => rfl
    | some o =>
      by_cases hb : e ∈ frs X.stack
      · obtain ⟨_, o', z, nf⟩ := a6.fr.mem (by rw [hstk] at hb; exact hb)
        rw [he6] at z; cases z; exact absurd hv6 (nf _)
      · obtain ⟨o', z⟩ := in2 e o q hb
        rw [a.nb] at z; cases z
  have I7 := I6.track I1 ne1 a6.free he6 hc6 hd6 hv6
  refine store_ok (X := X) (v := .ref e) I7 hN hi (.inl hl) rfl (fun s8 I8 => ?_) (.inr hl)
  refine wpAny_mono (hs e pins s8 _ _ _ (I8.suite e) (k e a6.free)) (fun f s9 q => ?_) fun _ _ z => False.elim z
  cases f with
  | brk => obtain ⟨_, _, _, z⟩ := q; exact False.elim z
  | cont => obtain ⟨_, _, _, z⟩ := q; exact False.elim z
  | ret u => obtain ⟨_, _, _, _, _, z⟩ := q; exact False.elim z
  | next =>
    obtain ⟨σ9, H9, J, q⟩ := q
    have I9 := J.unsuite I.ok
    obtain ⟨m, hn, lk⟩ := id I9.loc
    refine wpAny_nameGoes_keeps hl hn (by rw [I.ok.kind]; rfl) fun h' v hn' sb => ?_
    exact ⟨_, _, I9.drop hN hi hn lk hn' sb, q⟩
end
end L2

namespace L2
open PySem PySem.Spec PyProof.Rows
/-- the type of a value, caught exceptions too -/
inductive TyX (K : PySem.W.Frag) (H : Hp) : V → Value → Prop where
  | of {x : V} {t : Value} (h : TyOf K H x t) : TyX K H x t
  | exc {e C : Addr} (h : H e = some (excO e C none)) (c : XCls K C) : TyX K H (.ref e) (.ref C)
/-- the class asked for: a type, a class of the text, a tuple of these -/
inductive AskC (K : PySem.W.Frag) (H : Hp) (t : Value) : V → Bool → Prop where
  | ty {T : String} {b : Bool} (h : PySem.W.kitOne K t (.type T) = some b) : AskC K H t (.ty T) b
  | ref {C : Addr} {b : Bool} (h : PySem.W.kitOne K t (.ref C) = some b) : AskC K H t (.ref C) b
  | tup {tp : Addr} {cs : List Addr} {b : Bool} (h : H tp = some (.tup (cs.map V.ref))) (q : PySem.W.kitAny K t (cs.map Value.ref) = some b) : AskC K H t (.ref tp) b
theorem vals_refs : ∀ {cs : List Addr} {us : List Value}, Vals (cs.map V.ref) us → us = cs.map Value.ref
  | [], _, .nil => rfl
  | _ :: _, _, .cons r t => by cases (show _ = Value.ref _ from r); rw [vals_refs t]; rfl
section
variable {X : Cx}
theorem call_isinstX : CallR X (.builtin "isinstance") (fun xs H Q => ∃ x c t b, xs = [x, c] ∧ TyX X.K H x t ∧ AskC X.K H t c b ∧ Q (.bl b) H) := by
  intro pins s σ H xs us Q I r h
  obtain ⟨x, c, t, b, rfl, ty, ask, q⟩ := h
  obtain ⟨u, w', rfl, r1, r2⟩ := vals2 r
  have fin : ∀ tk, EP X pins σ Q (.bool b) { s with toks := tk } := fun tk => ⟨.bl b, H, I.tok _, rfl, q⟩
  -- the kit of the value
  obtain ⟨G, Z, g, hb⟩ : ∃ G : Heap → Prop, PySem.W.KitX X.K u t G ∧ G s.heap ∧ u ≠ .builtin "__main__.__loader__#opaque" := by
    cases ty with
    | exc he c =>
      rename_i e C
      cases (show u = Value.ref e from r1)
      obtain ⟨⟨oe, vs, a1, a2, a3, a4⟩, _, _⟩ := (show ObjOk X.prog X.w H s.heap e (excO e C none) from I.hok e _ he)
      refine ⟨_, kitx_exc c, ⟨oe, none, a1, a2, ?_, ?_⟩, fun z => nomatch z⟩
      · unfold PySem.W.notCls; rw [a4]
      · rw [a3]; trivial
    | of ty =>
      cases ty with
      | non => cases (show u = Value.none from r1); exact ⟨_, PySem.W.kitx_none, True.intro, fun z => nomatch z⟩
      | bl y => cases (show u = Value.bool y from r1); exact ⟨_, PySem.W.kitx_bool, True.intro, fun z => nomatch z⟩
      | int i => obtain ⟨t, q⟩ := (show ∃ t, u = Value.int i t from r1); cases q; exact ⟨_, PySem.W.kitx_int, True.intro, fun z => nomatch z⟩
      | str y => obtain ⟨t, q⟩ := (show ∃ t, u = Value.str y t from r1); cases q; exact ⟨_, PySem.W.kitx_str, True.intro, fun z => nomatch z⟩
      | flt y => obtain ⟨t, q⟩ := (show ∃ t, u = Value.float y t from r1); cases q; exact ⟨_, PySem.W.kitx_float, True.intro, fun z => nomatch z⟩
      | @lst a xs ea =>
        cases (show u = Value.ref a from r1)
        obtain ⟨_, _, n, _, h1⟩ := (show ObjOk X.prog X.w H s.heap a (.lst xs) from I.hok a _ ea)
        exact ⟨_, PySem.W.kitx_list, ⟨_, h1, rfl⟩, fun z => nomatch z⟩
      | @frz a ob xs ea =>
        cases (show u = Value.ref a from r1)
        obtain ⟨_, _, _, n, _, h1⟩ := (show ObjOk X.prog X.w H s.heap a (.frz ob (.lst xs)) from I.hok a _ ea)
        exact ⟨_, PySem.W.kitx_list, ⟨_, h1, rfl⟩, fun z => nomatch z⟩
      | @tup a xs ea =>
        cases (show u = Value.ref a from r1)
        obtain ⟨_, _, _, p⟩ := (show ObjOk X.prog X.w H s.heap a (.tup xs) from I.hok a _ ea)
        obtain ⟨o, h1, h2, _⟩ := p
        exact ⟨_, PySem.W.kitx_tuple, ⟨o, h1, h2⟩, fun z => nomatch z⟩
      | @dK a kvs ea =>
        cases (show u = Value.ref a from r1)
        obtain ⟨_, _, vs, _, p⟩ := (show ObjOk X.prog X.w H s.heap a (.dK kvs) from I.hok a _ ea)
        obtain ⟨o, es, ep, h1, h2, _⟩ := p
        exact ⟨_, PySem.W.kitx_dict, ⟨o, h1, h2.1⟩, fun z => nomatch z⟩
      | @dT a kvs ea =>
        cases (show u = Value.ref a from r1)
        obtain ⟨_, _, xs, _, o, es, ep, h1, h2, _⟩ := (show ObjOk X.prog X.w H s.heap a (.dT kvs) from I.hok a _ ea)
        exact ⟨_, PySem.W.kitx_dict, ⟨o, h1, h2.1⟩, fun z => nomatch z⟩
      | @ins a C dx fs ea cl ha hn htk hm =>
        cases (show u = Value.ref a from r1)
        obtain ⟨mA, O, _⟩ := ins_get I.hok ea
        obtain ⟨od, J, _⟩ := O.look
        exact ⟨_, PySem.W.kitx_own (cl.get _) cl.hd ha hn htk hm, J, fun z => nomatch z⟩
  cases ask with
  | ty k => cases (show w' = Value.type _ from r2); exact PySem.W.kia_one Z I.kIn g k hb fin
  | ref k => cases (show w' = Value.ref _ from r2); exact PySem.W.kia_one Z I.kIn g k hb fin
  | @tup tp cs b ht k =>
    cases (show w' = Value.ref tp from r2)
    obtain ⟨_, its, rv, o, h1, h2, n, h3⟩ := (show ObjOk X.prog X.w H s.heap tp (.tup (cs.map V.ref)) from I.hok tp _ ht)
    obtain ⟨oc, od, odt, osl⟩ := o
    dsimp only at h2 h3
    subst h2 h3
    exact PySem.W.kia_tup Z I.kIn g h1 (by rw [vals_refs rv]; exact k) hb fin
end
theorem kit_ref {K : PySem.W.Frag} {C D : Addr} {b : Bool} (hc : (PySem.W.clsIn K D).isSome = true) (ht : PySem.W.typeIn K (.ref D) = some (.type "type")) (hm : PySem.W.mroIn K C (.ref D) = some b) (hne : C ≠ D) : PySem.W.kitOne K (.ref C) (.ref D) = some b := by
  unfold PySem.W.kitOne PySem.W.kitCls
  rw [if_neg (fun z => hne (Value.ref.inj (beq_iff_eq.mp z)))]
  show (if ((PySem.W.clsIn K D).isSome && PySem.W.typeIn K (.ref D) == some (.type "type")) = true then PySem.W.subIn K (.ref C) (.ref D) else none) = some b
  rw [hc, ht]
  exact hm
theorem kit_self {K : PySem.W.Frag} {C : Addr} : PySem.W.kitOne K (.ref C) (.ref C) = some true := by
  unfold PySem.W.kitOne
  rw [if_pos (beq_iff_eq.mpr rfl)]
theorem kit_bty {K : PySem.W.Frag} {C : Addr} {T : String} {b : Bool} (h1 : PySem.W.kitMeta T = true) (hm : PySem.W.mroIn K C (.type T) = some b) : PySem.W.kitOne K (.ref C) (.type T) = some b := by
  unfold PySem.W.kitOne PySem.W.kitCls
  rw [if_neg (fun z => nomatch (beq_iff_eq.mp z : Value.ref C = Value.type T))]
  show (if PySem.W.kitMeta T = true then PySem.W.subIn K (.ref C) (.type T) else none) = some b
  rw [if_pos h1]
  exact hm
theorem kit_V (K : PySem.W.Frag) {C : Addr} (hm : PySem.W.mroIn K C (.type "ValueError") = some true) : PySem.W.kitOne K (.ref C) (.type "ValueError") = some true := kit_bty (by decide +kernel) hm
end L2

namespace L2
open PySem PySem.Spec PyProof.Rows
/-! ### defs with defaults -/
structure FunD (K : PySem.W.Frag) (x qual : Str) (st : Stmt) (f : Addr) (fd : FuncData) (T : Addr) (items : Array Value) : Prop where
  ex : ∃ (oc : Value) (od : Option Addr) (kV doc pm : Value) (an : Option Addr) (cdv ct : Value) (osl : Array (Option Value)),
    fd = PySem.W.fnOf x qual (defArgs st) (defBody st) (defScope st) (.ref T) kV doc pm an cdv ct ∧ K.lookup f = some ⟨oc, od, .func fd, osl⟩ ∧ PySem.W.codeIn K cdv qual = true
  tp : ∃ (tc : Value) (td : Option Addr) (n : Nat) (tsl : Array (Option Value)), K.lookup T = some ⟨tc, td, .seq items n, tsl⟩
  kp : PySem.W.keepIn K (.ref f) = true
section
variable {P : Program} {w : World} {K : PySem.W.Frag} {mg : Str → Option Value} {base : Heap} {x qual m : Str} {st : Stmt} {f C T : Addr} {fd : FuncData} {items : Array Value} {N ps : List Str} {k : Nat} {sp : Sp} {ds : List Value} {dvs : List V}
theorem FunD.ok (F : FunD K x qual st f fd T items) (S : FnScope N ps (defScope st)) (len : ∀ vs H Q E, sp vs H Q E → vs.length = ps.length)
    (hbody : ∀ (cdv : Value) (A : Around) (outer : List Env) (s : Shared) (H : Hp) (vs : List V) (Q : VK) (E : XK), Room k (A.deeper (envOfC qual (defScope st) s.heap.objs.size f cdv)) → sp vs H Q E →
      ∃ t, PSs (cxOf CX0 P w K mg base N qual (defScope st) f cdv A outer s H E).nox (defBody st) t ∧ t { nx := fun _ H' => Q .non H', rt := Q } (start N vs) H) : FnOk P w K mg base CX0 (k + 1) f fd ps sp := by
  obtain ⟨oc, od, kV, doc, pm, an, cdv, ct, osl, rfl, lk, hcd⟩ := F.ex
  refine fn_of lk hcd S len fun A outer s H vs Q E hr hsp => ?_
  obtain ⟨t, h, q⟩ := hbody cdv A outer s H vs Q E hr hsp
  exact ⟨t, h.nox, q⟩
theorem FunD.okx (F : FunD K x qual st f fd T items) (S : FnScope N ps (defScope st)) (len : ∀ vs H Q E, sp vs H Q E → vs.length = ps.length)
    (hbody : ∀ (cdv : Value) (A : Around) (outer : List Env) (s : Shared) (H : Hp) (vs : List V) (Q : VK) (E : XK), Room k (A.deeper (envOfC qual (defScope st) s.heap.objs.size f cdv)) → sp vs H Q E →
      ∃ t, PSs (cxX P w K mg base N qual (defScope st) f cdv A outer s H E) (defBody st) t ∧ t { nx := fun _ H' => Q .non H', rt := Q } (start N vs) H) : FnOk P w K mg base (CXx P w) (k + 1) f fd ps sp := by
  obtain ⟨oc, od, kV, doc, pm, an, cdv, ct, osl, rfl, lk, hcd⟩ := F.ex
  exact fn_of lk hcd S len fun A outer s H vs Q E hr hsp => hbody cdv A outer s H vs Q E hr hsp
theorem FunD.binds (F : FunD K x qual st f fd T items) (h : ∀ (kV doc pm : Value) (an : Option Addr) (cdv ct : Value) (us : List Value), (us ++ ds).length = ps.length →
      ∃ g : Option (Array Value) → Sem (List (Str × Value)), bindArgs (PySem.W.fnOf x qual (defArgs st) (defBody st) (defScope st) (.ref T) kV doc pm an cdv ct) ⟨us, []⟩ = seqItems? (.ref T) >>= g ∧ g (some items) = pure (ps.zip (us ++ ds))) : Binds K fd ps ds := by
  obtain ⟨oc, od, kV, doc, pm, an, cdv, ct, osl, rfl, lk, hcd⟩ := F.ex
  obtain ⟨tc, td, n, tsl, lt⟩ := F.tp
  intro s us KX hl
  obtain ⟨g, h1, h2⟩ := h kV doc pm an cdv ct us hl
  exact .of_defaults rfl (KX _ _ lt) rfl h1 h2
structure HereD (K : PySem.W.Frag) (C : Addr) (m qual : Str) (st : Stmt) (items : Array Value) : Prop where
  ex : ∃ (f : Addr) (fd : FuncData) (T : Addr), FunD K m qual st f fd T items ∧ Meth K C m f
theorem HereD.hasM (h : HereD K C m qual st items) (hv : Vals dvs ds) (b : ∀ f fd T, FunD K m qual st f fd T items → Binds K fd ps ds) (ok : ∀ f fd T, FunD K m qual st f fd T items → FnOk P w K mg base CX0 k f fd ps sp) : HasM P w K mg base C m k ps dvs sp :=
  let ⟨f, fd, T, F, M⟩ := h.ex
  ⟨f, fd, ds, ok f fd T F, M, b f fd T F, hv⟩
theorem HereD.hasMX (h : HereD K C m qual st items) (hv : Vals dvs ds) (b : ∀ f fd T, FunD K m qual st f fd T items → Binds K fd ps ds) (ok : ∀ f fd T, FunD K m qual st f fd T items → FnOk P w K mg base (CXx P w) k f fd ps sp) : HasMX P w K mg base C m k ps dvs sp :=
  let ⟨f, fd, T, F, M⟩ := h.ex
  ⟨f, fd, ds, ok f fd T F, M, b f fd T F, hv⟩
theorem hereD_mk {oc : Value} {od an : Option Addr} {osl : Array (Option Value)} {kV doc pm cdv ct tc : Value} {td : Option Addr} {n : Nat} {tsl : Array (Option Value)} (a : PySem.W.findIn K (.ref C) m = some (some (.ref f))) (i : PySem.W.isFn K (.ref f) = true)
    (l : K.lookup f = some ⟨oc, od, .func (PySem.W.fnOf m qual (defArgs st) (defBody st) (defScope st) (.ref T) kV doc pm an cdv ct), osl⟩) (lt : K.lookup T = some ⟨tc, td, .seq items n, tsl⟩)
    (c : PySem.W.codeIn K cdv qual = true) (k : PySem.W.keepIn K (.ref f) = true) : HereD K C m qual st items := ⟨f, _, T, ⟨⟨oc, od, kV, doc, pm, an, cdv, ct, osl, rfl, l, c⟩, ⟨tc, td, n, tsl, lt⟩, k⟩, a, i, k⟩
end
theorem len1 {us : List Value} (h : us.length = 1) : ∃ a, us = [a] := match us, h with | [a], _ => ⟨a, rfl⟩
theorem len2 {us : List Value} (h : us.length = 2) : ∃ a b, us = [a, b] := match us, h with | [a, b], _ => ⟨a, b, rfl⟩
theorem len3 {us : List Value} (h : us.length = 3) : ∃ a b c, us = [a, b, c] := match us, h with | [a, b, c], _ => ⟨a, b, c, rfl⟩
theorem len4 {us : List Value} (h : us.length = 4) : ∃ a b c d, us = [a, b, c, d] := match us, h with | [a, b, c, d], _ => ⟨a, b, c, d, rfl⟩
end L2

/-! ZIP: two lists walked side by side -/
namespace L2
open PySem PySem.Spec PyProof.Rows
section
variable {X : Cx} {pins : List (Addr × Obj)} {σ : St} {H : Hp} {s : Shared} {h' : Heap} {fp : List Addr} {t' : Nat}
/-- the iterator's objects turn -/
theorem Inv.multi (I : Inv X pins σ H s) (hf : ∀ b ∈ fp, FpOk X pins H b) (k : ∀ c o, c ∉ fp → s.heap.get? c = some o → h'.get? c = some o) : Inv X pins σ H { s with heap := h', toks := t' } := by
  refine I.call (ch := fp) ⟨fun b o q n hb hx => k b o hx q, fun b o q n hb hx => ⟨o.slots, k b o hx q⟩, fun b o q n hx => n, fun b o q hx => ⟨o, k b o hx q⟩, fun _ _ q => q, fun _ _ _ q => q, fun b ps q => ⟨#[], by rw [q]; simp⟩⟩ (fun b u q => ?_) I.bare fun b hb => ?_
  · refine (I.hok b u q).stay (fun c v hc z => k c v (fun m => ?_) z) (fun _ z => z) fun _ _ z => z
    rcases hc with rfl | hc
    · rw [(hf c m).1] at q; cases q
    · rw [(hf c m).1] at hc; cases hc
  · obtain ⟨_, a, _, b, c, d⟩ := hf b hb
    exact ⟨b, a, c, d⟩
/-- and a new tuple comes of it -/
theorem Inv.multiT {T : Addr} {xs : List V} {its : List Value} (I : Inv X pins σ H s) (hf : ∀ b ∈ fp, FpOk X pins H b) (k : ∀ c o, c ∉ fp → s.heap.get? c = some o → h'.get? c = some o) (hT : s.heap.objs.size ≤ T) (ht : IsTup h' T its.toArray) (r : Vals xs its) (hz : xs.length ≤ sizeLine) :
    Inv X pins σ (upd H T (.tup xs)) { s with heap := h', toks := t' } := by
  have nT := I.hok.fresh hT
  have nx : ∀ b u, H b = some u → b ≠ T := fun b u q z => by subst z; rw [nT] at q; cases q
  refine I.call (ch := fp) ⟨fun b o q n hb hx => k b o hx q, fun b o q n hb hx => ⟨o.slots, k b o hx q⟩, fun b o q n hx => ?_, fun b o q hx => ⟨o, k b o hx q⟩, fun b _ q => by rw [upd_ne (nx b _ q)]; exact q, fun b _ _ q => by rw [upd_ne (nx b _ q)]; exact q, fun b ps q => ⟨#[], by rw [upd_ne (nx b _ q), q]; simp⟩⟩ (fun b u q => ?_) I.bare fun b hb => ?_
  · rw [upd_ne (Nat.ne_of_lt (Nat.lt_of_lt_of_le (Heap.lt_size q) hT))]; exact n
  · by_cases hb : b = T
    · subst hb
      rw [upd_same] at q
      cases q
      exact ⟨hz, its, r, ht⟩
    · rw [upd_ne hb] at q
      refine (I.hok b u q).stay (fun c v hc z => k c v (fun m => ?_) z) (fun c z => by rw [upd_ne (nx c _ z)]; exact z) fun c _ z => by rw [upd_ne (nx c _ z)]; exact z
      rcases hc with rfl | hc
      · rw [(hf c m).1] at q; cases q
      · rw [(hf c m).1] at hc; cases hc
  · obtain ⟨_, a, _, b, c, d⟩ := hf b hb
    exact ⟨b, a, c, d⟩
end
/-- the lists at a and b side by side: at each turn a new pair -/
def Itz (K : PySem.W.Frag) (a b : Addr) : It :=
  ⟨fun i H => ∃ xs ys x y, SqL K H a xs ∧ SqL K H b ys ∧ xs[i]? = some x ∧ ys[i]? = some y,
   fun i H v H' => ∃ T, H T = none ∧ v = .ref T ∧ ∃ x y, (∀ xs, SqL K H a xs → xs[i]? = some x) ∧ (∀ ys, SqL K H b ys → ys[i]? = some y) ∧ H' = upd H T (.tup [x, y]),
   fun i H => ∃ xs ys, SqL K H a xs ∧ SqL K H b ys ∧ (xs.length ≤ i ∨ ys.length ≤ i)⟩
theorem turn_zip {P : Program} {w : World} {K : PySem.W.Frag} {elts : List Expr} {k0} {pos : Pos} {a b z TI TO i1 i2 : Addr} (D : ZipApart z TI TO i1 i2 a b) :
    Turn P w K (.Tuple elts k0 pos) (Itz K a b) [z, TI, TO, i1, i2] z (fun i h => IsZip h z TI TO .none ∧ IsPair h TI (.ref i1) (.ref i2) ∧ (∃ p q, IsPair h TO p q) ∧ h.IsListIter i1 a i ∧ h.IsListIter i2 b i) where
  mem := by simp
  obj := fun i h ⟨hz, hTI, ⟨p, q, hTO⟩, ⟨o1, e1, _, d1⟩, ⟨o2, e2, _, d2⟩⟩ c hc => by
    simp only [List.mem_cons, List.not_mem_nil, or_false] at hc
    rcases hc with rfl | rfl | rfl | rfl | rfl
    · exact ⟨_, hz, fun v e => nomatch (show Data.fields _ = Data.cell v from e)⟩
    · exact ⟨_, hTI, fun v e => nomatch (show Data.seq _ _ = Data.cell v from e)⟩
    · exact ⟨_, hTO, fun v e => nomatch (show Data.seq _ _ = Data.cell v from e)⟩
    · exact ⟨o1, e1, fun v e => by rw [d1] at e; cases e⟩
    · exact ⟨o2, e2, fun v e => by rw [d2] at e; cases e⟩
  keep := fun i h h' ⟨hz, hTI, ⟨p, q, hTO⟩, h1, h2⟩ k =>
    ⟨k z (by simp) _ hz, k TI (by simp) _ hTI, ⟨p, q, k TO (by simp) _ hTO⟩, h1.at fun o e => k i1 (by simp) o e, h2.at fun o e => k i2 (by simp) o e⟩
  item := by
    intro X hP hw hK hc i pins s σ H E I hf ⟨hz, hTI, ⟨p, q, hTO⟩, h1, h2⟩ hg
    subst hP hw hK
    obtain ⟨xs, ys, x, y, hq1, hq2, hx, hy⟩ := hg
    obtain ⟨its, rv, pl, _⟩ := I.list hq1
    obtain ⟨jts, rw', pl2, _⟩ := I.list hq2
    obtain ⟨u, hu, ru⟩ := rv.get hx
    obtain ⟨v, hv, rw2⟩ := rw'.get hy
    refine wpAny_pyNext_zip_item D hz hTI hTO h1 h2 pl.isList pl2.isList (x := u) (y := v) (by simpa using hu) (by simpa using hv) fun h' a1 a2 a3 a4 a5 a6 a7 => ?_
    refine ⟨_, rfl, wpAny_letOwnedTupleGo_zip (s := { s with heap := h' }) a1 fun h2' b1 b2 => ?_⟩
    have kz : ∀ c o, c ∉ [z, TI, TO, i1, i2] → s.heap.get? c = some o → h2'.get? c = some o := fun c o hc e => by
      simp only [List.mem_cons, List.not_mem_nil, or_false, not_or] at hc
      obtain ⟨n1, n2, n3, n4, n5⟩ := hc
      exact b2.extBut _ _ n1 (a7 c o n1 n3 n4 n5 e)
    have nTz : s.heap.objs.size ≠ z := Nat.ne_of_gt (Heap.lt_size hz)
    have fresh := I.hok.fresh (Nat.le_refl s.heap.objs.size)
    have I2 : Inv X pins σ (upd H s.heap.objs.size (.tup [x, y])) { s with heap := h2' } := I.multiT (t' := s.toks) (its := [u, v]) hf kz (Nat.le_refl _) ⟨_, b2.extBut _ _ nTz a5, rfl, _, rfl⟩ (.cons ru (.cons rw2 .nil)) (by show 2 ≤ sizeLine; decide)
    refine ⟨.ref s.heap.objs.size, _, I2, rfl, ⟨_, fresh, rfl, x, y, fun xs' e => by rw [I.list_inj e hq1]; exact hx, fun ys' e => by rw [I.list_inj e hq2]; exact hy, rfl⟩, ⟨b1, ?_, ⟨u, v, ?_⟩, a3.extBut b2.extBut D.i1z, a4.extBut b2.extBut D.i2z⟩, fun c hc => ?_⟩
    · exact b2.extBut _ _ D.TIz (a7 _ _ D.TIz D.TITO D.TIi1 D.TIi2 hTI)
    · exact b2.extBut _ _ D.TOz a2
    · have lt : c < s.heap.objs.size := by
        simp only [List.mem_cons, List.not_mem_nil, or_false] at hc
        obtain ⟨_, e1, _⟩ := id h1
        obtain ⟨_, e2, _⟩ := id h2
        rcases hc with rfl | rfl | rfl | rfl | rfl
        · exact Heap.lt_size hz
        · exact Heap.lt_size hTI
        · exact Heap.lt_size hTO
        · exact Heap.lt_size e1
        · exact Heap.lt_size e2
      rw [upd_ne (Nat.ne_of_lt lt)]
      exact (hf c hc).1
  done := by
    intro X hP hw hK hc i pins s σ H E I hf ⟨hz, hTI, ⟨p, q, hTO⟩, h1, h2⟩ hg
    subst hP hw hK
    obtain ⟨xs, ys, hq1, hq2, hx⟩ := hg
    obtain ⟨its, rv, pl, _⟩ := I.list hq1
    obtain ⟨jts, rw', pl2, _⟩ := I.list hq2
    have l1 := rv.length
    have l2 := rw'.length
    refine wpAny_pyNext_zip_end (I.ok.hd hc) D hz hTI hTO h1 h2 pl.isList pl2.isList ?_ fun h' k => ⟨rfl, I.multi (t' := s.toks) hf fun c o hc e => ?_⟩
    · rcases hx with hx | hx
      · left; simp; omega
      · right; simp; omega
    · simp only [List.mem_cons, List.not_mem_nil, or_false, not_or] at hc
      obtain ⟨n1, n2, n3, n4, n5⟩ := hc
      exact k c o n1 n3 n4 n5 e
  self := fun _ _ _ _ _ ⟨hz, _⟩ h => wpAny_pyIter_zip hz h
section
variable {X : Cx}
def iZip (K : PySem.W.Frag) (ta : TA) : TI := fun σ H R => ta σ H fun vs H1 => ∃ a b, vs = [.ref a, .ref b] ∧ (∃ xs, SqL K H1 a xs) ∧ (∃ ys, SqL K H1 b ys) ∧ R (Itz K a b) H1
theorem pi_zip {e1 e2 : Expr} {elts : List Expr} {k0} {tpos : Pos} {ta : TA} {p pos : Pos} (hg : Gl X "zip") (hm : X.mg "zip" = none) (ha : PA X [e1, e2] ta) (hs : starEach [e1, e2] X.env = [(false, eval e1 X.env), (false, eval e2 X.env)] := by rfl) (hs2 : starEach [e2] X.env = [(false, eval e2 X.env)] := by rfl) :
    PI X (.Tuple elts k0 tpos) (.Call (.Name "zip" p) [e1, e2] [] pos) (iZip X.K ta) := by
  intro pins s σ H R I h
  refine wpAny_Call_Name_kw (ld_blt I hg hm PyProof.Rows.Boot.«zip» (PyProof.Rows.callWith_type1 (thn (ha pos pins s σ H _ I h) fun us s1 ⟨vs, H1, I1, r1, q1⟩ => ?_) (by rw [hs, hs2]) (by rw [hs2]; rfl)))
  obtain ⟨a, b, e, ⟨xs, hq1⟩, ⟨ys, hq2⟩, q⟩ := q1
  subst e
  obtain ⟨u, v, rfl, ru, rv⟩ := vals2 r1
  cases (show u = Value.ref a from ru)
  cases (show v = Value.ref b from rv)
  obtain ⟨its, _, pl, _⟩ := I1.list hq1
  obtain ⟨jts, _, pl2, _⟩ := I1.list hq2
  have la : a < s1.heap.objs.size := by obtain ⟨o, e, _⟩ := pl.isList; exact Heap.lt_size e
  have lb : b < s1.heap.objs.size := by obtain ⟨o, e, _⟩ := pl2.isList; exact Heap.lt_size e
  refine call_zip_2 pl.isList pl2.isList fun h' hz hTI hTO h1 h2 hsz k => ?_
  refine wpAny_pyIter_zip (s := { s1 with heap := h' }) hz ?_
  refine ⟨_, [s1.heap.objs.size + 4, s1.heap.objs.size + 2, s1.heap.objs.size + 3, s1.heap.objs.size, s1.heap.objs.size + 1], _, _, H1, rfl, I1.kept (t' := s1.toks) k, turn_zip (zipApart_new la lb), ⟨hz, hTI, ⟨_, _, hTO⟩, h1, h2⟩, fun c hc => ?_, q⟩
  have hc' : s1.heap.objs.size ≤ c := by
    simp only [List.mem_cons, List.not_mem_nil, or_false] at hc
    rcases hc with rfl | rfl | rfl | rfl | rfl <;> omega
  exact I1.fpOk hc' (I1.hok.fresh hc')
end
section
variable {caps : List (Nat × Str)} {te : TE}
/-- [e for x, y in zip(a, b)] -/
theorem keep2 {x y : V} {cs : List (Option V)} : ∀ (i : Nat) v, ((none : Option V) :: none :: cs)[i]? = some (some v) → ((some x) :: (some y) :: cs)[i]? = some (some v)
  | 0, v, h => by simp at h
  | 1, v, h => by simp at h
  | i + 2, v, h => by simpa using h
end
end L2

/-! deep equality of lists; scripts whose ints' bits are bounded -/
namespace L2
open PySem PySem.Spec PyProof.Rows
def One1 (x y : V) : Prop := x = y ∧ ((∃ i, x = .int i) ∨ ∃ a, x = .ref a)
/-- equal things, n levels deep -/
def EqD (K : PySem.W.Frag) (H : Hp) : Nat → V → V → Prop
  | 0, x, y => One1 x y
  | n + 1, x, y => One1 x y ∨ ∃ a b xs ys, x = .ref a ∧ y = .ref b ∧ SqL K H a xs ∧ SqL K H b ys ∧ xs.length = ys.length ∧ ∀ (i : Nat) u v, xs[i]? = some u → ys[i]? = some v → EqD K H n u v
theorem One1.at {x y : V} {v u : Value} {A : Around} {s : Shared} (h : One1 x y) (rx : RelV x v) (ry : RelV y u) : SeqAt.EqAt A s v u true := by
  obtain ⟨rfl, ⟨i, rfl⟩ | ⟨a, rfl⟩⟩ := h
  · obtain ⟨t1, rfl⟩ := rx
    obtain ⟨t2, rfl⟩ := ry
    have := SeqAt.EqAt.int_int (A := A) (s := s) i t1 i t2
    simpa using this
  · cases rx
    cases ry
    exact SeqAt.EqAt.same _
theorem all_range_true (n : Nat) : (List.range n).all (fun _ => true) = true := by simp
theorem EqD.at {X : Cx} {pins : List (Addr × Obj)} {σ : St} {H : Hp} {s : Shared} (I : Inv X pins σ H s) : ∀ (n : Nat) (A : Around) (x y : V) (v u : Value), A.units + n < cLine → EqD X.K H n x y → RelV x v → RelV y u → SeqAt.EqAt A s v u true
  | 0, A, x, y, v, u, _, h, rx, ry => One1.at h rx ry
  | n + 1, A, x, y, v, u, hu, h, rx, ry => by
    rcases h with h | ⟨a, b, xs, ys, rfl, rfl, hx, hy, hl, hi⟩
    · exact h.at rx ry
    · cases rx
      cases ry
      by_cases hab : a = b
      · subst hab
        exact SeqAt.EqAt.same _
      obtain ⟨its, r1, p1, _⟩ := I.list hx
      obtain ⟨jts, r2, p2, _⟩ := I.list hy
      have l1 := r1.length
      have l2 := r2.length
      refine SeqAt.EqAt.of_refs hab ?_
      have := SeqAt.RcAt.lists (A := A) (e := fun _ => true) p1.isList p2.isList (by simp; omega) (by omega) (fun j h1 h2 => ?_)
      · rwa [all_range_true] at this
      · have j1 : j < xs.length := by simp at h1; omega
        have j2 : j < ys.length := by simp at h2; omega
        obtain ⟨v1, e1, q1⟩ := r1.get (i := j) (x := xs[j]) (by simp [j1])
        obtain ⟨v2, e2, q2⟩ := r2.get (i := j) (x := ys[j]) (by simp [j2])
        have f1 : its.toArray[j] = v1 := by
          have : its[j]? = some its.toArray[j] := by simp at h1; simp [h1]
          rw [this] at e1; exact Option.some.inj e1
        have f2 : jts.toArray[j] = v2 := by
          have : jts[j]? = some jts.toArray[j] := by simp at h2; simp [h2]
          rw [this] at e2; exact Option.some.inj e2
        rw [f1, f2]
        exact EqD.at I n A.in1 _ _ _ _ (by show A.units + 1 + n < cLine; omega) (hi j _ _ (by simp [j1]) (by simp [j2])) q1 q2
/-- an int of the script has at most so many bits -/
def Bits (n : Nat) (i : Int) : Prop := Builtin.Int.intBits i ≤ n
theorem bits_weight (i : Int) : (PySem.W.WData.int i).weight = Builtin.Int.intBits i := by
  simp only [PySem.W.WData.weight, Builtin.Int.intBits]
theorem weight_mem : ∀ (ns : List Int) (n : Nat), PySem.W.WData.weightAll (ns.map PySem.W.WData.int) ≤ n → ∀ i ∈ ns, Bits n i
  | [], _, _, _, h => nomatch h
  | j :: ns, n, hw, i, h => by
    simp only [List.map_cons, PySem.W.WData.weightAll] at hw
    rcases List.mem_cons.mp h with rfl | h
    · show Builtin.Int.intBits i ≤ n
      rw [← bits_weight]; omega
    · exact weight_mem ns n (by omega) i h
theorem attach_callB {l : PySem.W.OpenLaw} {n : Nat} {q : Program} {loose : List Str} {XP : (Str → Option Value) → Heap → Prop} {YP : World → Heap → Prop} {d : DefRec}
    (hn : l.most = some n) (hdf : d.params.defaults = [])
    (call : ∀ (w : World) (s₀ s₁ : Shared) (mg mb : Str → Option Value) (fa : Addr) (a : Addr) (vs : List Value) (ns : List Int),
      PySem.W.Ground q loose [] XP w s₀ mg mb s₁.heap → YP w s₁.heap → mg d.name = some (.ref fa) →
      s₁.heap.get? a = some { cls := .type "list", data := .seq vs.toArray } → IntsAre vs ns → ns.length ≤ n → (∀ i ∈ ns, Bits 1048576 i) → s₁.gens = #[] →
      codeAny (model l.prog w) callerA (.call (.ref fa) ⟨[.ref a], []⟩) (fun r s' => r = .ok (.ret (.bool true)) ∧ OldK s₁.heap s'.heap ∧ s'.os = s₁.os ∧ AllBare s'.gens) s₁) :
    PySem.W.WalkO q loose XP YP l.row.toRowW d [] (fun f vs => PySem.call f vs) := by
  refine fun w s₀ s₁ mg mb G Y fa o pm cd doc dV kV ho hd hcd hD hmg hg args vals as hpre hlay hrd hwl hlo => ?_
  have hb : ∀ (a : Addr) (vs : List Value) (ns : List Int), vals = [Value.ref a] → args = [PySem.W.WData.list (ns.map PySem.W.WData.int)] → ∀ i ∈ ns, Bits 1048576 i := by
    rintro a vs ns - rfl
    refine weight_mem ns _ ?_
    have h1 : (PySem.W.WData.list (ns.map PySem.W.WData.int)).layable = true := (PySem.W.layW_cons hlay).1
    unfold PySem.W.WData.layable at h1
    simp only [Bool.and_eq_true, decide_eq_true_eq] at h1
    have := h1.2
    simp only [PySem.W.WData.weight] at this
    exact this
  obtain rfl : dV = .none := PySem.W.Dflts.none hD hdf
  obtain rfl : kV = .none := PySem.W.Dflts.noKw hD
  obtain ⟨a, vs, ns, rfl, rfl, hobj, hints, hlen⟩ := Att.script_of hn hpre hwl
  refine PySem.W.enter_call (codeAny_mono (call w s₀ s₁ mg mb fa a vs ns G Y hmg hobj hints hlen (hb a vs ns rfl rfl) hg) fun r s' hq => ?_)
  obtain ⟨rfl, h2, h3, h4⟩ := hq
  exact ⟨.inl ⟨.bool true, .bool true, [], rfl, fun _ => rfl, .bool true, Att.post_true l _, fun _ => ⟨List.Pairwise.nil, fun _ hm => (nomatch hm)⟩⟩, h2, h3, h4⟩
theorem walk_ofB {l : PySem.W.OpenLaw} {n k : Nat} {q : Program} {loose : List Str} {XP : (Str → Option Value) → Heap → Prop} {YP : World → Heap → Prop} {d : DefRec} {K : Params → PySem.W.Frag} {CX : World → CXT} {sp : World → Sp} {x : Str}
    (hn : l.most = some n) (hn2 : n ≤ sizeLine) (hdf : d.params.defaults = []) (hr : Room k callerA)
    (hY : ∀ (w : World) (h : Heap), YP w h → (K w.params).In h)
    (F : ∀ (w : World) (mg : Str → Option Value) (fa : Addr) (h : Heap), (K w.params).In h → h.Ns mainGlobals mg → mg d.name = some (.ref fa) →
      ∃ fd : FuncData, (∀ (s : Shared) (u : Value), BindsTo s fd ⟨[u], []⟩ [(x, u)]) ∧
        ∀ base : Heap, (K w.params).In base → base.Ns mainGlobals mg → FnOk l.prog w (K w.params) mg base (CX w) k fa fd [x] (sp w))
    (hsp : ∀ (w : World) (H : Hp) (a : Addr) (ns : List Int), ns.length ≤ n → (∀ i ∈ ns, Bits 1048576 i) → Only H → SqL (K w.params) H a (ns.map V.int) → sp w [.ref a] H (fun v _ => v = .bl true) fun _ _ _ => False)
    (hCX : ∀ (w : World) (H : Hp) (s : Shared) (e : Value) (s' : Shared), CX w [] H s (fun _ _ _ => False) e s' → False) :
    PySem.W.WalkO q loose XP YP l.row.toRowW d [] (fun f vs => PySem.call f vs) := by
  refine attach_callB hn hdf fun w s₀ s₁ mg mb fa a vs ns G Y hmg hobj hints hlen hbits hg => ?_
  have KX := hY w _ Y
  obtain ⟨fd, hb, hF⟩ := F w mg fa _ KX G.T.g hmg
  exact law_call KX G.T.g G.T.b G.T.builtins G.T.nolimit hg hobj hints (Nat.le_trans hlen hn2) hr hF hb (fun H hO hS => hsp w H a ns hlen hbits hO hS) fun H e s' => hCX w H s₁ e s'
theorem Bits.lt {n : Nat} {i : Int} (h : Bits n i) : i.natAbs < 2 ^ n := by
  unfold Bits Builtin.Int.intBits at h
  by_cases h0 : i = 0
  · subst h0; exact Nat.pos_of_ne_zero (by simp)
  · have : i.natAbs.log2 + 1 ≤ n := by simpa [h0] using h
    exact (Nat.log2_lt (by omega)).mp (by omega)
theorem Bits.of {n : Nat} {i : Int} (h : i.natAbs < 2 ^ n) : Bits n i := bits_le h
theorem Bits.cell {n : Nat} {c k : Int} (h : Bits n c) (h0 : 0 ≤ k) (h1 : k < 256) : Bits (n + 17) (c * (k + 2) + k * k) := by
  refine Bits.of ?_
  have hc := h.lt
  have e1 : (c * (k + 2)).natAbs ≤ c.natAbs * 258 := by
    rw [Int.natAbs_mul]
    exact Nat.mul_le_mul_left _ (by omega)
  have e2 : (k * k).natAbs ≤ 256 * 256 := by
    rw [Int.natAbs_mul]
    exact Nat.mul_le_mul (by omega) (by omega)
  have e3 : 2 ^ (n + 17) = 2 ^ n * 131072 := by rw [Nat.pow_add]
  have e4 : 1 ≤ 2 ^ n := Nat.pos_of_ne_zero (by simp)
  rw [e3]
  generalize 2 ^ n = P at *
  omega
theorem Bits.mono {m n : Nat} {i : Int} (h : Bits m i) (hm : m ≤ n) : Bits n i := Nat.le_trans h hm
theorem Bits.mul {i j : Int} (h : Bits 2097152 i) (h' : Bits 2097152 j) : IntMulOk i j := by
  have h1 : Builtin.Int.intBits i ≤ 2097152 := h
  have h2 : Builtin.Int.intBits j ≤ 2097152 := h'
  have h3 : Builtin.Int.intTooBig (Builtin.Int.intBits i + Builtin.Int.intBits j) = false := by
    unfold Builtin.Int.intTooBig
    rw [bitsLine_eq]
    exact decide_eq_false (by omega)
  unfold IntMulOk
  rw [h3]
  simp
end L2

/-! rules in a comprehension's block: what is read names the outer context alone -/
namespace L2
open PySem PySem.Spec PyProof.Rows
section
variable {X : Cx}
theorem ix_listK (K : PySem.W.Frag) (h : X.K = K) : IxR X (rIxL K) := by subst h; exact ix_list
theorem ix_tupK (K : PySem.W.Frag) (h : X.K = K) : IxR X (rIxT K) := by subst h; exact ix_tup
theorem call_list_ofK (K : PySem.W.Frag) (h : X.K = K) : CallR X (.type "list") (fun xs H Q => ∃ p ys, xs = [.ref p] ∧ (SqL K H p ys ∨ SqT K H p ys) ∧ ∀ l, H l = none → Q (.ref l) (upd H l (.lst ys))) := by subst h; exact call_list_of
structure CxIs (X : Cx) (P : Program) (w : World) (K : PySem.W.Frag) (mg : Str → Option Value) (base : Heap) : Prop where
  p : X.prog = P
  w : X.w = w
  k : X.K = K
  m : X.mg = mg
  b : X.base = base
variable {o e : Expr} {es : List Expr} {m : Str} {apos pos : Pos} {ta : TE} {t : TA} {k : Nat} {E : St → XK}
theorem pe_methAK {pl : Sem Bool} {P : Program} {w : World} {K : PySem.W.Frag} {mg : Str → Option Value} {base : Heap} (hX : CxIs X P w K mg base) (he : PE X o ta) (hr : Room k X.A) (ha : PA X (e :: es) t)
    (hst : starEach (e :: es) X.env = (false, eval e X.env) :: starEach es X.env := by rfl) (hpl : (backTo pos (starEach es X.env)).any (·.1) = false := by rfl)
    (ht : eval (.Call (.Attribute o m apos) (e :: es) [] pos) X.env = (do
      let ov ← eval o X.env
      standAt apos.atName
      let (f, first) ← holding [ov] (getMethod ov m pl)
      callWith pos f first (backTo pos (starEach (e :: es) X.env)) (backToKw pos (keywordEach [] X.env))) := by rfl) :
    PE X (.Call (.Attribute o m apos) (e :: es) [] pos) (tMethA P w K mg base m k ta t) := by
  obtain ⟨rfl, rfl, rfl, rfl, rfl⟩ := hX
  exact pe_methA he hr ha hst hpl ht
end
end L2

/-! [e for x, y in zip(a, b)]: the target as the rules give it -/
namespace L2
open PySem PySem.Spec PyProof.Rows
theorem pg_tupK {X : Cx} {pos : Pos} (K : PySem.W.Frag) (h : X.K = K) {es : List Expr} {k : Nat} {t : TGs} {n : Nat} (hc : X.calm = true) (h1 : PGs X es t)
    (hn : (assignEach es X.env).length = n := by rfl) (hst : (assignEach es X.env).findIdx? (·.1) = none := by rfl) : PG X (.Tuple es k pos) (gTup K n t) := by subst h; exact pg_tup hc h1 hn hst
theorem comp_zip2 {caps : List (Nat × Str)} {te : TE} {K : PySem.W.Frag} {a b : Addr} {xs ys : List V} {σ : St} {H : Hp} {QL : List V → Hp → Prop} (Pv : Nat → List V → Hp → Prop) (hz : xs.length ≤ 1000) (h0 : Pv 0 [] H) (hl : ∀ i zs H, Pv i zs H → SqL K H a xs ∧ SqL K H b ys)
    (hs : ∀ i x y T zs H, xs[i]? = some x → ys[i]? = some y → zs.length = i → H T = none → Pv i zs H → te (some x :: some y :: caps.map fun p => (σ[p.1]?).join) (upd H T (.tup [x, y])) fun v H' => Pv (i + 1) (zs ++ [v]) H')
    (hd : ∀ zs H, zs.length = min xs.length ys.length → Pv (min xs.length ys.length) zs H → QL zs H) :
    tCompB 2 caps (gTup K 2 (gCons (gName 0) (gCons (gName 1) gNil))) te σ (Itz K a b) H QL := by
  have hz' : xs.length < sizeLine := small1000 hz
  refine ⟨fun i m zs H => m = min xs.length ys.length - i ∧ i ≤ min xs.length ys.length ∧ zs.length = i ∧ Pv i zs H, ⟨_, rfl, Nat.zero_le _, rfl, h0⟩, ?_⟩
  rintro i m zs H' ⟨rfl, hi, hy, p⟩
  obtain ⟨q1, q2⟩ := hl i zs H' p
  refine ⟨by omega, ?_⟩
  by_cases hlt : i < min xs.length ys.length
  · have l1 : i < xs.length := by omega
    have l2 : i < ys.length := by omega
    refine .inr ⟨⟨xs, ys, xs[i], ys[i], q1, q2, by simp [l1], by simp [l2]⟩, by omega, fun v H4 => Pv (i + 1) (zs ++ [v]) H4, fun v H4 p' => ⟨min xs.length ys.length - (i + 1), by omega, rfl, hlt, by rw [List.length_append, hy]; rfl, p'⟩, fun x H2 y => ?_⟩
    obtain ⟨T, nT, rfl, u, v, e1, e2, rfl⟩ := y
    exact ⟨T, [u, v], rfl, SqT.of upd_same, rfl, u, _, rfl, v, _, rfl, rfl, keep2, hs i u v T zs H' (e1 xs q1) (e2 ys q2) hy nT p⟩
  · have e : i = min xs.length ys.length := by omega
    subst e
    exact .inl ⟨⟨xs, ys, q1, q2, by omega⟩, hd zs H' hy p⟩
end L2

/-! greater numbers, and sum -/
namespace L2
open PySem PySem.Spec PyProof.Rows
theorem big_L : 10 ^ 1000 < 2 ^ 4000 := by decide +kernel
theorem log_fitL {j : Int} (h : j.natAbs ≤ 10 ^ 1000) : j.natAbs.log2 < 9000 := by
  rcases Nat.eq_zero_or_pos j.natAbs with z | z
  · rw [z]; decide
  · exact Nat.lt_trans ((Nat.log2_lt (Nat.ne_of_gt z)).mpr (Nat.lt_of_le_of_lt h big_L)) (by decide)
section
variable {X : Cx}
theorem op_fdivL : OpR X (binaryOp .FloorDiv) (rI (fun _ j => j ≠ 0 ∧ j.natAbs ≤ 10 ^ 1000) fun i j => .int (i.fdiv j)) := opI fun _ _ _ _ _ _ _ hc q => floordiv_int hc.1 q (.inl (PyProof.noPylong_of_log2 (log_fitL hc.2)))
end
end L2

/-! [e for x in it] where an inner comprehension takes x: x stands in a cell of the block's own -/
namespace L2
open PySem PySem.Spec PyProof.Rows
/-- the block's own cell: one, of the name x0 -/
structure OneCell (scope : Scope) (x0 : Str) : Prop where
  one : ∀ y ∈ scope.names, y.2 = .cell → y.1 = x0
  lk : scope.names.lookup x0 = some .cell
  cf : ∀ n acc, cellsFrom n scope.names acc = (x0, n) :: acc
  pc : ∀ h, pushCells h scope.names = h.push { cls := .type "cell", data := .cell none }
section
variable {X : Cx} {tg iter elt : Expr} {scope : Scope} {pos : Pos} {wi : TI} {g : TG} {te : TE} {own : List Str} {caps : List (Nat × Str)} {x0 : Str}
end
end L2

/-! C(e, ..) whose __init__ may raise -/
namespace L2
open PySem PySem.Spec PyProof.Rows
section
variable {X : Cx} {k : Nat} {f C : Addr} {fd : FuncData} {ps : List Str} {sp : Sp} {dvs : List V} {ds : List Value} {E : St → XK} {x : Str} {p pos : Pos} {e : Expr} {es : List Expr} {t : TA}
end
end L2

/-! rules whose premises nothing looks into (long displays) -/
namespace L2
open PySem PySem.Spec PyProof.Rows
@[irreducible] def PEI (X : Cx) (e : Expr) (t : TE) : Prop := PE X e t
@[irreducible] def PSI (X : Cx) (st : Stmt) (t : TS) : Prop := PS X st t
@[irreducible] def PSsI (X : Cx) (st : List Stmt) (t : TS) : Prop := PSs X st t
section
variable {X : Cx} {st : Stmt} {rest : List Stmt} {t u : TS} {e : Expr} {te : TE} {pos : Pos}
end
end L2

/-! all([..]); things as trees of data, and their equality -/
namespace L2
open PySem PySem.Spec PyProof.Rows
section
variable {X : Cx}
end
/-- flat things -/
def Fl (H : Hp) (x : V) (d : PyData) : Prop := (x = .non ∧ d = .none) ∨ (∃ b, x = .bl b ∧ d = .bool b) ∨ (∃ i, x = .int i ∧ d = .int i) ∨ (∃ y, x = .str y ∧ d = .str y) ∨ (∃ a, x = .ref a ∧ d = .dict [] ∧ H a = some (.dK []))
/-- x is the tree d, n levels deep -/
def Rp (H : Hp) : Nat → V → PyData → Prop
  | 0, x, d => Fl H x d
  | n + 1, x, d => Fl H x d ∨ (∃ a xs ds, x = .ref a ∧ d = .list ds ∧ H a = some (.lst xs) ∧ xs.length = ds.length ∧ ∀ (i : Nat) u e, xs[i]? = some u → ds[i]? = some e → Rp H n u e) ∨
      (∃ a xs ds, x = .ref a ∧ d = .tuple ds ∧ H a = some (.tup xs) ∧ xs.length = ds.length ∧ ∀ (i : Nat) u e, xs[i]? = some u → ds[i]? = some e → Rp H n u e)
theorem Fl.same {H H' : Hp} {x : V} {d : PyData} (h : Fl H x d) (S : Same H H') : Fl H' x d := by
  rcases h with h | h | h | h | ⟨a, e1, e2, h⟩
  · exact .inl h
  · exact .inr (.inl h)
  · exact .inr (.inr (.inl h))
  · exact .inr (.inr (.inr (.inl h)))
  · exact .inr (.inr (.inr (.inr ⟨a, e1, e2, S _ _ h⟩)))
theorem Rp.same {H H' : Hp} (S : Same H H') : ∀ {n : Nat} {x : V} {d : PyData}, Rp H n x d → Rp H' n x d
  | 0, _, _, h => Fl.same h S
  | n + 1, x, d, h => by
    rcases h with h | ⟨a, xs, ds, e1, e2, h, l, r⟩ | ⟨a, xs, ds, e1, e2, h, l, r⟩
    · exact .inl (Fl.same h S)
    · exact .inr (.inl ⟨a, xs, ds, e1, e2, S _ _ h, l, fun i u e a b => Rp.same S (r i u e a b)⟩)
    · exact .inr (.inr ⟨a, xs, ds, e1, e2, S _ _ h, l, fun i u e a b => Rp.same S (r i u e a b)⟩)
theorem Rp.up {H : Hp} : ∀ {n : Nat} {x : V} {d : PyData}, Rp H n x d → Rp H (n + 1) x d
  | 0, _, _, h => .inl h
  | n + 1, x, d, h => by
    rcases h with h | ⟨a, xs, ds, e1, e2, h, l, r⟩ | ⟨a, xs, ds, e1, e2, h, l, r⟩
    · exact .inl h
    · exact .inr (.inl ⟨a, xs, ds, e1, e2, h, l, fun i u e a b => Rp.up (r i u e a b)⟩)
    · exact .inr (.inr ⟨a, xs, ds, e1, e2, h, l, fun i u e a b => Rp.up (r i u e a b)⟩)
theorem Rp.mono {H : Hp} {x : V} {d : PyData} {n m : Nat} (h : Rp H n x d) (l : n ≤ m) : Rp H m x d := by
  induction m with
  | zero => obtain rfl : n = 0 := by omega
            exact h
  | succ m ih =>
    by_cases e : n = m + 1
    · subst e; exact h
    · exact (ih (by omega)).up
section
variable {X : Cx} {pins : List (Addr × Obj)} {σ : St} {H : Hp} {s : Shared}
theorem dK_of (I : Inv X pins σ H s) {a : Addr} (h : H a = some (.dK [])) : (a == sysModules) = false ∧ s.heap.DictOf (mixKind X.prog X.w) a [] := by
  obtain ⟨_, z, vs, kv, p⟩ := (show ObjOk X.prog X.w H s.heap a (.dK []) from I.hok a _ h)
  cases kv
  exact ⟨z, p⟩
theorem dict_any {P P' : Program} {w w' : World} {h : Heap} {a : Addr} (d : h.DictOf (mixKind P w) a []) : h.DictOf (mixKind P' w') a [] := by
  obtain ⟨o, es, ep, h1, h2, h3, h4, h5, h6⟩ := d
  refine ⟨o, es, ep, h1, h2, h3, ?_, ?_, h6⟩
  · have : es.toList = [] := by cases q : es.toList with
      | nil => rfl
      | cons x r => rw [q] at h5; cases h5
    intro e he
    rw [Array.mem_def, this] at he
    cases he
  · cases q : es.toList with
    | nil => exact .nil
    | cons x r => rw [q] at h5; cases h5
theorem Fl.rc {A : Around} {x y : V} {v u : Value} {d : PyData} (I : Inv X pins σ H s) (hu : A.units < cLine) (hx : Fl H x d) (hy : Fl H y d) (rx : RelV x v) (ry : RelV y u) : SeqAt.RcAt A s v u true ∧ SeqAt.RcNeAt A s v u false := by
  rcases hx with ⟨rfl, rfl⟩ | ⟨b, rfl, rfl⟩ | ⟨i, rfl, rfl⟩ | ⟨z, rfl, rfl⟩ | ⟨a, rfl, rfl, ha⟩ <;> rcases hy with ⟨rfl, e⟩ | ⟨b', rfl, e⟩ | ⟨i', rfl, e⟩ | ⟨z', rfl, e⟩ | ⟨a', rfl, e, ha'⟩ <;> cases e
  · cases rx; cases ry; exact ⟨SeqAt.RcAt.none_none, SeqAt.RcNeAt.none_none⟩
  · cases rx; cases ry
    exact ⟨by have := SeqAt.RcAt.bool_bool (A := A) (s := s) b b; simpa using this, by have := SeqAt.RcNeAt.bool_bool (A := A) (s := s) b b; simpa using this⟩
  · obtain ⟨t1, rfl⟩ := rx
    obtain ⟨t2, rfl⟩ := ry
    exact ⟨by have := SeqAt.RcAt.int_int (A := A) (s := s) i t1 i t2; simpa using this, by have := SeqAt.RcNeAt.int_int (A := A) (s := s) i t1 i t2; simpa using this⟩
  · obtain ⟨t1, rfl⟩ := rx
    obtain ⟨t2, rfl⟩ := ry
    exact ⟨by have := SeqAt.RcAt.str_str (A := A) (s := s) z t1 z t2; simpa using this, by have := SeqAt.RcNeAt.str_str (A := A) (s := s) z t1 z t2; simpa using this⟩
  · cases rx; cases ry
    obtain ⟨n1, d1⟩ := dK_of I ha
    obtain ⟨n2, d2⟩ := dK_of I ha'
    refine ⟨fun prog w E Q q => ?_, fun prog w E Q q => ?_⟩
    · exact PySem.W.keq_eq (knd := mixKind prog w) (r := true) n1 n2 (dict_any d1) (dict_any d2) hu (fun _ => .nil) q
    · exact PySem.W.keq_ne (knd := mixKind prog w) (r := true) n1 n2 (dict_any d1) (dict_any d2) hu (fun _ => .nil) q
theorem Fl.at {A : Around} {x y : V} {v u : Value} {d : PyData} (I : Inv X pins σ H s) (hu : A.units < cLine) (hx : Fl H x d) (hy : Fl H y d) (rx : RelV x v) (ry : RelV y u) : SeqAt.EqAt A s v u true := by
  have rc := (Fl.rc I hu hx hy rx ry).1
  rcases hx with ⟨rfl, rfl⟩ | ⟨b, rfl, rfl⟩ | ⟨i, rfl, rfl⟩ | ⟨z, rfl, rfl⟩ | ⟨a, rfl, rfl, ha⟩ <;> rcases hy with ⟨rfl, e⟩ | ⟨b', rfl, e⟩ | ⟨i', rfl, e⟩ | ⟨z', rfl, e⟩ | ⟨a', rfl, e, ha'⟩ <;> cases e
  · cases rx; cases ry; exact SeqAt.EqAt.same _
  · cases rx; cases ry; exact SeqAt.EqAt.same _
  · obtain ⟨t1, rfl⟩ := rx
    obtain ⟨t2, rfl⟩ := ry
    have := SeqAt.EqAt.int_int (A := A) (s := s) i t1 i t2
    simpa using this
  · obtain ⟨t1, rfl⟩ := rx
    obtain ⟨t2, rfl⟩ := ry
    have := SeqAt.EqAt.str_str (A := A) (s := s) z t1 z t2
    simpa using this
  · cases rx; cases ry
    by_cases hab : a = a'
    · subst hab; exact SeqAt.EqAt.same _
    · exact SeqAt.EqAt.of_refs hab rc
theorem Vals.at2 {xs : List V} {its : List Value} (r : Vals xs its) {j : Nat} (h : j < its.toArray.size) : ∃ x, xs[j]? = some x ∧ RelV x its.toArray[j] := by
  have l := r.length
  have j1 : j < xs.length := by simp at h; omega
  obtain ⟨v1, e1, q1⟩ := r.get (i := j) (x := xs[j]) (by simp [j1])
  have f1 : its.toArray[j] = v1 := by
    have : its[j]? = some its.toArray[j] := by simp at h; simp [h]
    rw [this] at e1; exact Option.some.inj e1
  exact ⟨xs[j], by simp [j1], by rw [f1]; exact q1⟩
theorem get_of_lt {α β : Type} {xs : List α} {ds : List β} {j : Nat} {x : α} (h : xs[j]? = some x) (l : xs.length = ds.length) : ∃ d, ds[j]? = some d := by
  have := (List.getElem?_eq_some_iff.mp h).1
  exact ⟨ds[j]'(by omega), List.getElem?_eq_getElem (by omega)⟩
theorem Rp.both (I : Inv X pins σ H s) : ∀ (n : Nat) (A : Around) (x y : V) (v u : Value) (d : PyData), A.units + n < cLine → Rp H n x d → Rp H n y d → RelV x v → RelV y u → SeqAt.EqAt A s v u true ∧ SeqAt.RcAt A s v u true ∧ SeqAt.RcNeAt A s v u false
  | 0, A, x, y, v, u, d, hu, hx, hy, rx, ry => ⟨Fl.at I hu hx hy rx ry, Fl.rc I hu hx hy rx ry⟩
  | n + 1, A, x, y, v, u, d, hu, hx, hy, rx, ry => by
    have hu0 : A.units < cLine := by omega
    rcases hx with hx | ⟨a, xs, ds, rfl, rfl, ha, hl, hi⟩ | ⟨a, xs, ds, rfl, rfl, ha, hl, hi⟩
    · have hy' : Fl H y d := by
        rcases hy with hy | ⟨b, ys, es, rfl, rfl, hb, hm, hj⟩ | ⟨b, ys, es, rfl, rfl, hb, hm, hj⟩
        · exact hy
        · rcases hx with ⟨_, e⟩ | ⟨_, _, e⟩ | ⟨_, _, e⟩ | ⟨_, _, e⟩ | ⟨_, _, e, _⟩ <;> cases e
        · rcases hx with ⟨_, e⟩ | ⟨_, _, e⟩ | ⟨_, _, e⟩ | ⟨_, _, e⟩ | ⟨_, _, e, _⟩ <;> cases e
      exact ⟨Fl.at I hu0 hx hy' rx ry, Fl.rc I hu0 hx hy' rx ry⟩
    · obtain ⟨b, ys, rfl, hb, hm, hj⟩ : ∃ b ys, y = .ref b ∧ H b = some (.lst ys) ∧ ys.length = ds.length ∧ ∀ (i : Nat) u e, ys[i]? = some u → ds[i]? = some e → Rp H n u e := by
        rcases hy with hy | ⟨b, ys, es, e1, e2, hb, hm, hj⟩ | ⟨b, ys, es, e1, e2, hb, hm, hj⟩
        · rcases hy with ⟨_, e⟩ | ⟨_, _, e⟩ | ⟨_, _, e⟩ | ⟨_, _, e⟩ | ⟨_, _, e, _⟩ <;> cases e
        · cases e2; exact ⟨b, ys, e1, hb, hm, hj⟩
        · cases e2
      cases rx
      cases ry
      obtain ⟨its, r1, p1, _⟩ := I.list (SqL.of ha)
      obtain ⟨jts, r2, p2, _⟩ := I.list (SqL.of hb)
      have l1 := r1.length
      have l2 := r2.length
      have el : ∀ (j : Nat) (h1 : j < its.toArray.size) (h2 : j < jts.toArray.size), SeqAt.EqAt A.in1 s its.toArray[j] jts.toArray[j] true := fun j h1 h2 => by
        obtain ⟨x1, g1, q1⟩ := r1.at2 h1
        obtain ⟨x2, g2, q2⟩ := r2.at2 h2
        obtain ⟨d, gd⟩ := get_of_lt g1 hl
        exact (Rp.both I n A.in1 _ _ _ _ d (by show A.units + 1 + n < cLine; omega) (hi j _ _ g1 gd) (hj j _ _ g2 gd) q1 q2).1
      have rc := SeqAt.RcAt.lists (A := A) (e := fun _ => true) p1.isList p2.isList (by simp; omega) hu0 el
      have rn := SeqAt.RcNeAt.lists (A := A) (e := fun _ => true) p1.isList p2.isList (by simp; omega) hu0 el
      rw [all_range_true] at rc rn
      refine ⟨?_, rc, rn⟩
      by_cases hab : a = b
      · subst hab; exact SeqAt.EqAt.same _
      · exact SeqAt.EqAt.of_refs hab rc
    · obtain ⟨b, ys, rfl, hb, hm, hj⟩ : ∃ b ys, y = .ref b ∧ H b = some (.tup ys) ∧ ys.length = ds.length ∧ ∀ (i : Nat) u e, ys[i]? = some u → ds[i]? = some e → Rp H n u e := by
        rcases hy with hy | ⟨b, ys, es, e1, e2, hb, hm, hj⟩ | ⟨b, ys, es, e1, e2, hb, hm, hj⟩
        · rcases hy with ⟨_, e⟩ | ⟨_, _, e⟩ | ⟨_, _, e⟩ | ⟨_, _, e⟩ | ⟨_, _, e, _⟩ <;> cases e
        · cases e2
        · cases e2; exact ⟨b, ys, e1, hb, hm, hj⟩
      cases rx
      cases ry
      obtain ⟨its, r1, p1, _⟩ := I.tuple (SqT.of ha)
      obtain ⟨jts, r2, p2, _⟩ := I.tuple (SqT.of hb)
      have l1 := r1.length
      have l2 := r2.length
      have el : ∀ (j : Nat) (h1 : j < its.toArray.size) (h2 : j < jts.toArray.size), SeqAt.EqAt A.in1 s its.toArray[j] jts.toArray[j] true := fun j h1 h2 => by
        obtain ⟨x1, g1, q1⟩ := r1.at2 h1
        obtain ⟨x2, g2, q2⟩ := r2.at2 h2
        obtain ⟨d, gd⟩ := get_of_lt g1 hl
        exact (Rp.both I n A.in1 _ _ _ _ d (by show A.units + 1 + n < cLine; omega) (hi j _ _ g1 gd) (hj j _ _ g2 gd) q1 q2).1
      have es : (its.toArray.size == jts.toArray.size) = true := by simp; omega
      have rc := SeqAt.RcAt.tuples (A := A) (e := fun _ => true) p1 p2 hu0 el
      have rn := SeqAt.RcNeAt.tuples (A := A) (e := fun _ => true) p1 p2 hu0 el
      rw [all_range_true, es] at rc rn
      refine ⟨?_, rc, rn⟩
      by_cases hab : a = b
      · subst hab; exact SeqAt.EqAt.same _
      · exact SeqAt.EqAt.of_refs hab rc
end
section
variable {X : Cx} {k : Nat}
/-- the same tree: equal -/
def rEqT : R2 := fun x y H Q => ∃ d, Rp H 8 x d ∧ Rp H 8 y d ∧ Q (.bl true) H
def rNeT : R2 := fun x y H Q => ∃ d, Rp H 8 x d ∧ Rp H 8 y d ∧ Q (.bl false) H
theorem op_eqT (hr : Room k X.A) : OpR X (compareOp .Eq) rEqT := by
  intro pins s σ H x y v u Q I rx ry h
  obtain ⟨d, hx, hy, q⟩ := h
  have hu := hr.units
  exact (Rp.both I 8 X.A x y v u d (by omega) hx hy rx ry).2.1 _ _ _ _ ⟨.bl true, H, I, rfl, q⟩
theorem op_neT (hr : Room k X.A) : OpR X (compareOp .NotEq) rNeT := by
  intro pins s σ H x y v u Q I rx ry h
  obtain ⟨d, hx, hy, q⟩ := h
  have hu := hr.units
  exact (Rp.both I 8 X.A x y v u d (by omega) hx hy rx ry).2.2 _ _ _ _ ⟨.bl false, H, I, rfl, q⟩
end
end L2

/-! long displays step by step; lists of things and of trees alongside -/
namespace L2
open PySem PySem.Spec PyProof.Rows
section
variable {X : Cx} {es : List Expr} {te : TE} {t : TA} {p : Pos} {k : Nat}
end
/-- two lists alongside -/
def All2 (R : V → PyData → Prop) (xs : List V) (ds : List PyData) : Prop := xs.length = ds.length ∧ ∀ (i : Nat) v d, xs[i]? = some v → ds[i]? = some d → R v d
section
variable {R R' : V → PyData → Prop} {xs ys : List V} {ds es : List PyData} {x : V} {d : PyData}
theorem All2.nil : All2 R [] [] := ⟨rfl, fun i v d h => by simp at h⟩
theorem All2.cons (h : R x d) (t : All2 R xs ds) : All2 R (x :: xs) (d :: ds) := by
  refine ⟨by simp [t.1], fun i v e hv he => ?_⟩
  cases i with
  | zero => cases hv; cases he; exact h
  | succ i => exact t.2 i v e (by simpa using hv) (by simpa using he)
theorem All2.mono (h : All2 R xs ds) (f : ∀ v d, R v d → R' v d) : All2 R' xs ds := ⟨h.1, fun i v d a b => f v d (h.2 i v d a b)⟩
theorem All2.append (h : All2 R xs ds) (g : All2 R ys es) : All2 R (xs ++ ys) (ds ++ es) := by
  refine ⟨by rw [List.length_append, List.length_append, h.1, g.1], fun i v e hv he => ?_⟩
  have l := h.1
  by_cases hi : i < xs.length
  · rw [List.getElem?_append_left hi] at hv
    rw [List.getElem?_append_left (by omega)] at he
    exact h.2 i v e hv he
  · rw [List.getElem?_append_right (by omega)] at hv he
    rw [← l] at he
    exact g.2 _ v e hv he
theorem All2.take (h : All2 R xs ds) (n : Nat) : All2 R (xs.take n) (ds.take n) := by
  refine ⟨by rw [List.length_take, List.length_take, h.1], fun i v e hv he => ?_⟩
  rw [List.getElem?_take] at hv he
  split at hv
  · rename_i hi
    rw [if_pos hi] at he
    exact h.2 i v e hv he
  · cases hv
theorem All2.drop (h : All2 R xs ds) (n : Nat) : All2 R (xs.drop n) (ds.drop n) := by
  refine ⟨by rw [List.length_drop, List.length_drop, h.1], fun i v e hv he => ?_⟩
  rw [List.getElem?_drop] at hv he
  exact h.2 _ v e hv he
theorem All2.set (h : All2 R xs ds) (n : Nat) (g : R x d) : All2 R (xs.set n x) (ds.set n d) := by
  refine ⟨by rw [List.length_set, List.length_set, h.1], fun i v e hv he => ?_⟩
  rw [List.getElem?_set] at hv he
  have l := h.1
  split at hv
  · rename_i hi
    rw [if_pos hi] at he
    split at hv
    · rename_i hl
      rw [if_pos (by omega)] at he
      cases hv; cases he; exact g
    · cases hv
  · rename_i hi
    rw [if_neg hi] at he
    exact h.2 i v e hv he
theorem All2.one (h : R x d) : All2 R [x] [d] := .cons h .nil
theorem All2.get (h : All2 R xs ds) {i : Nat} (hv : xs[i]? = some x) : ∃ d, ds[i]? = some d ∧ R x d := by
  obtain ⟨d, e⟩ := get_of_lt hv h.1
  exact ⟨d, e, h.2 i x d hv e⟩
theorem All2.get' (h : All2 R xs ds) {i : Nat} (hi : i < ds.length) : ∃ x, xs[i]? = some x ∧ R x ds[i] := by
  have l := h.1
  exact ⟨xs[i]'(by omega), List.getElem?_eq_getElem (by omega), h.2 i _ _ (List.getElem?_eq_getElem (by omega)) (List.getElem?_eq_getElem hi)⟩
theorem rp_lst {H : Hp} {n : Nat} {a : Addr} (h : H a = some (.lst xs)) (g : All2 (Rp H n) xs ds) : Rp H (n + 1) (.ref a) (.list ds) := .inr (.inl ⟨a, xs, ds, rfl, rfl, h, g.1, g.2⟩)
theorem rp_tup {H : Hp} {n : Nat} {a : Addr} (h : H a = some (.tup xs)) (g : All2 (Rp H n) xs ds) : Rp H (n + 1) (.ref a) (.tuple ds) := .inr (.inr ⟨a, xs, ds, rfl, rfl, h, g.1, g.2⟩)
end
end L2

/-! numbers of either kind, exactly: fractions as Rat, rests as Fin -/
namespace L2
open PySem PySem.Spec PyProof.Rows
theorem Bits.le {n : Nat} {i j : Int} (h : Bits n j) (l : i.natAbs ≤ j.natAbs) : Bits n i := Bits.of (Nat.lt_of_le_of_lt l h.lt)
theorem Bits.up {n m : Nat} {i : Int} (h : Bits n i) (l : n ≤ m) : Bits m i := Nat.le_trans h l
theorem Bits.mulT {i j : Int} (h : Bits 1000000 i) (h' : Bits 1000000 j) : IntMulOk i j := Bits.mul (h.up (by decide)) (h'.up (by decide))
theorem Bits.mulG {i j : Int} (h : Bits 1000000 i) (h' : Bits 4000 j) : IntMulOk i j := h.mulT (h'.up (by decide))
theorem Bits.times {n m : Nat} {i j : Int} (h : Bits n i) (h' : Bits m j) : Bits (n + m) (i * j) := Bits.of (by
  rw [Int.natAbs_mul, Nat.pow_add]
  exact Nat.mul_lt_mul'' h.lt h'.lt)
theorem Bits.plus {n : Nat} {i j : Int} (h : Bits n i) (h' : Bits n j) : Bits (n + 1) (i + j) := Bits.of (by
  have := Int.natAbs_add_le i j
  have a := h.lt
  have b := h'.lt
  rw [Nat.pow_succ]
  omega)
theorem Bits.log {n : Nat} {i : Int} (h : Bits n i) (h0 : i ≠ 0) : i.natAbs.log2 < n := by
  have : i.natAbs.log2 + 1 ≤ n := by unfold Bits Builtin.Int.intBits at h; simpa [h0] using h
  omega
section
variable {X : Cx}
theorem op_fdivG : OpR X (binaryOp .FloorDiv) (rI (fun _ j => j ≠ 0 ∧ Bits 4000 j) fun i j => .int (i.fdiv j)) := opI fun _ _ _ _ _ _ _ hc q => floordiv_int hc.1 q (.inl (PyProof.noPylong_of_log2 (Nat.lt_trans (hc.2.log hc.1) (by decide))))
end
end L2

/-! lists alongside, of whatever -/
namespace L2
open PySem PySem.Spec PyProof.Rows
/-- two lists alongside -/
def AllG {β : Type} (R : V → β → Prop) (xs : List V) (ds : List β) : Prop := xs.length = ds.length ∧ ∀ (i : Nat) v d, xs[i]? = some v → ds[i]? = some d → R v d
section
variable {β : Type} {R R' : V → β → Prop} {xs ys : List V} {ds es : List β} {x : V} {d : β}
theorem AllG.nil : AllG R [] [] := ⟨rfl, fun i v d h => by simp at h⟩
theorem AllG.cons (h : R x d) (t : AllG R xs ds) : AllG R (x :: xs) (d :: ds) := by
  refine ⟨by simp [t.1], fun i v e hv he => ?_⟩
  cases i with
  | zero => cases hv; cases he; exact h
  | succ i => exact t.2 i v e (by simpa using hv) (by simpa using he)
theorem AllG.mono (h : AllG R xs ds) (f : ∀ v d, R v d → R' v d) : AllG R' xs ds := ⟨h.1, fun i v d a b => f v d (h.2 i v d a b)⟩
theorem AllG.append (h : AllG R xs ds) (g : AllG R ys es) : AllG R (xs ++ ys) (ds ++ es) := by
  refine ⟨by rw [List.length_append, List.length_append, h.1, g.1], fun i v e hv he => ?_⟩
  have l := h.1
  by_cases hi : i < xs.length
  · rw [List.getElem?_append_left hi] at hv
    rw [List.getElem?_append_left (by omega)] at he
    exact h.2 i v e hv he
  · rw [List.getElem?_append_right (by omega)] at hv he
    rw [← l] at he
    exact g.2 _ v e hv he
theorem AllG.take (h : AllG R xs ds) (n : Nat) : AllG R (xs.take n) (ds.take n) := by
  refine ⟨by rw [List.length_take, List.length_take, h.1], fun i v e hv he => ?_⟩
  rw [List.getElem?_take] at hv he
  split at hv
  · rename_i hi
    rw [if_pos hi] at he
    exact h.2 i v e hv he
  · cases hv
theorem AllG.drop (h : AllG R xs ds) (n : Nat) : AllG R (xs.drop n) (ds.drop n) := by
  refine ⟨by rw [List.length_drop, List.length_drop, h.1], fun i v e hv he => ?_⟩
  rw [List.getElem?_drop] at hv he
  exact h.2 _ v e hv he
theorem AllG.set (h : AllG R xs ds) (n : Nat) (g : R x d) : AllG R (xs.set n x) (ds.set n d) := by
  refine ⟨by rw [List.length_set, List.length_set, h.1], fun i v e hv he => ?_⟩
  rw [List.getElem?_set] at hv he
  have l := h.1
  split at hv
  · rename_i hi
    rw [if_pos hi] at he
    split at hv
    · rename_i hl
      rw [if_pos (by omega)] at he
      cases hv; cases he; exact g
    · cases hv
  · rename_i hi
    rw [if_neg hi] at he
    exact h.2 i v e hv he
theorem AllG.one (h : R x d) : AllG R [x] [d] := .cons h .nil
theorem AllG.get (h : AllG R xs ds) {i : Nat} (hv : xs[i]? = some x) : ∃ d, ds[i]? = some d ∧ R x d := by
  obtain ⟨d, e⟩ := get_of_lt hv h.1
  exact ⟨d, e, h.2 i x d hv e⟩
theorem AllG.get' (h : AllG R xs ds) {i : Nat} (hi : i < ds.length) : ∃ x, xs[i]? = some x ∧ R x ds[i] := by
  have l := h.1
  exact ⟨xs[i]'(by omega), List.getElem?_eq_getElem (by omega), h.2 i _ _ (List.getElem?_eq_getElem (by omega)) (List.getElem?_eq_getElem hi)⟩
theorem AllG.at (h : AllG R xs ds) {i : Nat} {b : β} (hd : ds[i]? = some b) : ∃ x, xs[i]? = some x ∧ R x b := by
  have l := h.1
  have hi := (List.getElem?_eq_some_iff.mp hd).1
  exact ⟨xs[i]'(by omega), List.getElem?_eq_getElem (by omega), h.2 i _ _ (List.getElem?_eq_getElem (by omega)) hd⟩
theorem AllG.all2 {D : β → PyData} {R2 : V → PyData → Prop} (h : AllG R xs ds) (f : ∀ v b, R v b → R2 v (D b)) : All2 R2 xs (ds.map D) := by
  refine ⟨by rw [List.length_map]; exact h.1, fun i v d hv hd => ?_⟩
  rw [List.getElem?_map] at hd
  cases e : ds[i]? with
  | none => rw [e] at hd; cases hd
  | some b => rw [e] at hd; cases hd; exact f v b (h.2 i v b hv e)
theorem AllG.zip {α : Type} {R3 : V → α → Prop} {as : List α} (h : AllG R xs ds) (g : AllG R3 ys as) {i : Nat} {a b : V} (ha : xs[i]? = some a) (hb : ys[i]? = some b) : ∃ p q, ds[i]? = some p ∧ as[i]? = some q ∧ R a p ∧ R3 b q := by
  obtain ⟨p, hp, rp⟩ := h.get ha
  obtain ⟨q, hq, rq⟩ := g.get hb
  exact ⟨p, q, hp, hq, rp, rq⟩
end
end L2

/-! x in (0, (0, 1)) -/
namespace L2
open PySem PySem.Spec PyProof.Rows
section
variable {X : Cx} {k : Nat}
theorem valsB2 {x y : V} {us : List Value} (r : Vals [x, y] us) : ∃ u v, us = [u, v] ∧ RelV x u ∧ RelV y v := by
  cases r with
  | cons r t => cases t with
    | cons r2 t2 => cases t2; exact ⟨_, _, rfl, r, r2⟩
end
end L2

/-! for x in reversed(a); x not in (0, (0, 1)) -/
namespace L2
open PySem PySem.Spec PyProof.Rows
section
variable {X : Cx} {tg : Expr}
end
section
variable {X : Cx} {k : Nat}
end
end L2

/-! name = [..] with a cell of its own, stored the swapped way -/
namespace L2
open PySem PySem.Spec PyProof.Rows
section
variable {X : Cx} {tg iter elt : Expr} {scope : Scope} {pos : Pos} {wi : TI} {g : TG} {te : TE} {own : List Str} {caps : List (Nat × Str)}
end
end L2

/-! equality of two numbers, of whole ones or of pairs -/
namespace L2
open PySem PySem.Spec PyProof.Rows
def EqNum (H : Hp) (x y : V) (b : Bool) : Prop := (∃ i j : Int, x = .int i ∧ y = .int j ∧ b = decide (i = j)) ∨
  (∃ (a c : Addr) (n1 d1 n2 d2 : Int), x = .ref a ∧ y = .ref c ∧ H a = some (.tup [.int n1, .int d1]) ∧ H c = some (.tup [.int n2, .int d2]) ∧ b = (decide (n1 = n2) && decide (d1 = d2)))
section
variable {X : Cx} {k : Nat}
def rEqN : R2 := fun x y H Q => ∃ b, EqNum H x y b ∧ Q (.bl b) H
theorem pair_at {pins : List (Addr × Obj)} {s : Shared} {σ : St} {H : Hp} {a c : Addr} {n1 d1 n2 d2 : Int} {A : Around} (I : Inv X pins σ H s) (ha : H a = some (.tup [.int n1, .int d1])) (hc : H c = some (.tup [.int n2, .int d2])) (hu : A.units < cLine) :
    SeqAt.RcAt A s (.ref a) (.ref c) (decide (n1 = n2) && decide (d1 = d2)) ∧ SeqAt.RcNeAt A s (.ref a) (.ref c) (!(decide (n1 = n2) && decide (d1 = d2))) := by
  obtain ⟨its, r1, p1, _⟩ := I.tuple (SqT.of ha)
  obtain ⟨u1, u2, rfl, ru1, ru2⟩ := valsB2 r1
  obtain ⟨t1, rfl⟩ := ru1
  obtain ⟨t2, rfl⟩ := ru2
  obtain ⟨jts, r2, p2, _⟩ := I.tuple (SqT.of hc)
  obtain ⟨w1, w2, rfl, rw1, rw2⟩ := valsB2 r2
  obtain ⟨s1, rfl⟩ := rw1
  obtain ⟨s2, rfl⟩ := rw2
  have el : ∀ (j : Nat) (h1 : j < (#[Value.int n1 t1, Value.int d1 t2] : Array Value).size) (h2 : j < (#[Value.int n2 s1, Value.int d2 s2] : Array Value).size), SeqAt.EqAt A.in1 s (#[Value.int n1 t1, Value.int d1 t2] : Array Value)[j] (#[Value.int n2 s1, Value.int d2 s2] : Array Value)[j] (if j = 0 then n1 == n2 else d1 == d2) := fun j h1 h2 => by
    have h1' : j < 2 := h1
    match j, h1' with
    | 0, _ => exact SeqAt.EqAt.int_int n1 t1 n2 s1
    | 1, _ => exact SeqAt.EqAt.int_int d1 t2 d2 s2
  have e : ((List.range (min (#[Value.int n1 t1, Value.int d1 t2]).size (#[Value.int n2 s1, Value.int d2 s2]).size)).all (fun j => if j = 0 then n1 == n2 else d1 == d2) && (#[Value.int n1 t1, Value.int d1 t2]).size == (#[Value.int n2 s1, Value.int d2 s2]).size) = (decide (n1 = n2) && decide (d1 = d2)) := by
    show ((n1 == n2) && ((d1 == d2) && true) && true) = _
    rw [Bool.and_true, Bool.and_true]
    rfl
  have rc := SeqAt.RcAt.tuples (A := A) (e := fun j => if j = 0 then n1 == n2 else d1 == d2) p1 p2 hu el
  have rn := SeqAt.RcNeAt.tuples (A := A) (e := fun j => if j = 0 then n1 == n2 else d1 == d2) p1 p2 hu el
  rw [e] at rc rn
  exact ⟨rc, rn⟩
theorem op_eqN (hr : Room k X.A) : OpR X (compareOp .Eq) rEqN := by
  intro pins s σ H x y v u Q I rx ry h
  obtain ⟨b, hb, q⟩ := h
  rcases hb with ⟨i, j, rfl, rfl, rfl⟩ | ⟨a, c, n1, d1, n2, d2, rfl, rfl, ha, hc, rfl⟩
  · refine op_eq pins s σ H _ _ v u Q I rx ry ⟨rfl, ?_⟩
    have : decide (V.int i = V.int j) = decide (i = j) := by rw [dec_int]; rfl
    rw [this]; exact q
  · cases rx
    cases ry
    have hu : X.A.units < cLine := by have := hr.units; omega
    exact (pair_at I ha hc hu).1 _ _ _ _ ⟨.bl _, H, I, rfl, q⟩
end
end L2

/-! a list comprehension of one clause with one test -/
namespace L2
open PySem PySem.Spec PyProof.Rows
theorem compLoop_ownT {prog : Program} {w : World} {A : Around} {R : Result → Shared → Prop} {s : Shared} {elt target iter cnd : Expr} {scope : Scope} {pos : Pos} {it acc : Value} {env : Env} (I : Nat → Shared → Prop)
    (turn : ∀ n s, I n s → wpAny (model prog w) A (pyNext it) (fun r s₁ => match r with
      | none => R (.ok .next) s₁
      | some v => wpAny (model prog w) A (letOwnedTupleGo target it v) (fun _ s₁ => wpAny (model prog w) A (assign target env v) (fun _ s₂ => wpAny (model prog w) A (isTrue cnd env (eval cnd env)) (fun ok s₃ =>
          match ok with
          | true => wpAny (model prog w) A (eval elt env) (fun x s₄ => wpAny (model prog w) A (call (.builtin "list.append") [acc, x]) (fun _ s₅ => ∃ m, m < n ∧ I m s₅) (fun _ _ => False) s₄) (fun _ _ => False) s₃
          | false => ∃ m, m < n ∧ I m s₃)
          (fun _ _ => False) s₂) (fun _ _ => False) s₁) (fun _ _ => False) s₁) (fun _ _ => False) s)
    (n : Nat) (h : I n s) :
    codeAny (model prog w) A (.compLoop (.ListComp elt [⟨target, iter, [cnd], 0⟩] scope pos) 0 it acc env) R s := by
  refine codeAny_loop rfl I (fun n s hI => ?_) n h
  show wpAny _ _ ((compTurn (.ListComp elt [⟨target, iter, [cnd], 0⟩] scope pos) 0 it acc env).onRaise (fun x => do noteFrame x env; theTreesLotGoes x)) _ _ s
  refine wpAny_noted ?_
  rw [compTurn_list]
  refine wpAny_bind (wpAny_standAt (wpAny_bind (wpAny_mono (turn n s hI) (fun r s₁ h₁ => ?_) fun _ _ h' => False.elim h')))
  cases r with
  | none => exact wpAny_pure h₁
  | some v =>
    refine wpAny_bind (wpAny_mono h₁ (fun _ s₁ h₁ => ?_) fun _ _ h' => False.elim h')
    refine wpAny_bind (wpAny_mono h₁ (fun _ s₂ h₂ => wpAny_bind (wpAny_mono (wpAny_tests_one h₂) (fun ok s₃ h₃ => ?_) fun _ _ h' => False.elim h')) fun _ _ h' => False.elim h')
    cases ok with
    | false => exact wpAny_pure ⟨rfl, h₃⟩
    | true =>
      exact wpAny_bind (wpAny_bind (wpAny_mono h₃ (fun x s₄ h₄ => wpAny_bind (wpAny_mono h₄ (fun _ s₅ h₅ => wpAny_pure (wpAny_pure ⟨rfl, h₅⟩)) fun _ _ h' => False.elim h')) fun _ _ h' => False.elim h'))
def tCompBT (k : Nat) (caps : List (Nat × Str)) (g : TG) (tt : TT) (te : TE) (σ : St) (J : It) (H : Hp) (Q : List V → Hp → Prop) : Prop :=
  ∃ W : Nat → Nat → List V → Hp → Prop, (∃ m, W 0 m [] H) ∧ ∀ i m ys H', W i m ys H' → ys.length ≤ sizeLine ∧ ((J.stop i H' ∧ Q ys H') ∨
    (J.go i H' ∧ ys.length < sizeLine ∧ ∃ (N : V → Hp → Prop) (N0 : Hp → Prop), (∀ v H4, N v H4 → ∃ m', m' < m ∧ W (i + 1) m' (ys ++ [v]) H4) ∧ (∀ H4, N0 H4 → ∃ m', m' < m ∧ W (i + 1) m' ys H4) ∧
      ∀ x H2, J.yld i H' x H2 → g x (st0 k caps σ) H2 fun σ2 H3 => (∀ (i : Nat) v, (st0 k caps σ)[i]? = some (some v) → σ2[i]? = some (some v)) ∧ tt σ2 H3 fun b H4 => match b with | true => te σ2 H4 N | false => N0 H4))
def tCompT (k : Nat) (caps : List (Nat × Str)) (wi : TI) (g : TG) (tt : TT) (te : TE) : TE := fun σ H Q => wi σ H fun J H1 => tCompBT k caps g tt te σ J H1 fun ys H2 => ∀ D, H2 D = none → Q (.ref D) (upd H2 D (.lst ys))
section
variable {X : Cx} {tg iter elt cnd : Expr} {scope : Scope} {pos : Pos} {wi : TI} {g : TG} {tt : TT} {te : TE} {own : List Str} {caps : List (Nat × Str)}
theorem comp_coreT {pins : List (Addr × Obj)} {σ : St} {H : Hp} {s : Shared} {fp : List Addr} {it : Addr} {tn : Nat → Heap → Prop} {J : It} {E : Value → Shared → Prop} {RR : Value → Addr → Result → Shared → Prop} {QL : List V → Hp → Prop}
    (I : Inv X pins σ H s) (hc : X.calm = true) (T : Turn X.prog X.w X.K tg J fp it tn) (st : tn 0 s.heap) (hf : ∀ b ∈ fp, FpOk X pins H b)
    (hkind : scope.kind = .function) (hcell : ∀ y ∈ scope.names, y.2 ≠ .cell) (hfree : ∀ y, (y, NameKind.free) ∈ scope.names → ∃ c, X.env.cells.lookup y = some c) (hcap : CapsOk X scope caps)
    (hg : ∀ s₀ H₀ C, PG (compCx X scope (own ++ caps.map (·.2)) s₀ H₀ C fp) tg g) (ht : ∀ s₀ H₀ C, PT (compCx X scope (own ++ caps.map (·.2)) s₀ H₀ C fp) cnd tt) (he : ∀ s₀ H₀ C, PE (compCx X scope (own ++ caps.map (·.2)) s₀ H₀ C fp) elt te)
    (hB : tCompBT own.length caps g tt te σ J H QL)
    (fin : ∀ D C s' m ys H', s.heap.objs.size ≤ C → D ≠ C → s'.heap.Ns C m → Inv X pins σ (upd H' D (.lst ys)) s' → H' D = none → H' C = none → QL ys H' → RR (.ref D) C (.ok .next) s') :
    wpAny (model X.prog X.w) X.A (newList []) (fun acc s₃ => wpAny (model X.prog X.w) X.A (newFunctionEnv scope X.env.globals (clOf X.env.cells scope.names []) [] X.env.qual none .none (some X.env)) (fun cenv s₄ =>
      codeAny (model X.prog X.w) X.A (.compStart (.ListComp elt [⟨tg, iter, [cnd], 0⟩] scope pos) 0 (.ref it) acc { cenv with scope := relabel scope X.env }) (RR acc cenv.locals) s₄) E s₃) E s := by
  refine wpAny_newObj_type (wpAny_newFunctionEnv hcell (by intro y hy; simp at hy) (fun h₁ hns₁ hsb₁ => ?_) hkind)
  dsimp only at hns₁ hsb₁ ⊢
  generalize hH2 : s.heap.push { cls := .type "list", dict := none, data := .seq ([] : List Value).toArray } = H2 at hns₁ hsb₁ ⊢
  have hC : H2.objs.size = s.heap.objs.size + 1 := by rw [← hH2, Heap.size_push]
  generalize hCC : H2.objs.size = C at *
  have hCle : s.heap.objs.size ≤ C := by rw [hC]; exact Nat.le_succ _
  generalize hDD : s.heap.objs.size = D at *
  have hDC : D ≠ C := by rw [hC]; exact Nat.ne_of_lt (Nat.lt_succ_self _)
  have below : ∀ b, b < D → b ≠ C ∧ b ≠ D := fun b hb => ⟨by rw [hC]; exact Nat.ne_of_lt (Nat.lt_succ_of_lt hb), Nat.ne_of_lt hb⟩
  have lts : ∀ {b o}, s.heap.get? b = some o → b < D := fun {b o} e => by rw [← hDD]; exact Heap.lt_size e
  have old : ∀ b o, s.heap.get? b = some o → h₁.get? b = some o := fun b o e => hsb₁.extBut b o (below b (lts e)).1 (Heap.get?_push_of_some _ (hH2 ▸ Heap.get?_push_of_some _ e))
  have hacc : h₁.get? D = some { cls := .type "list", data := .seq ([] : List Value).toArray 0 } := hsb₁.extBut _ _ hDC (Heap.get?_push_of_some _ (hH2 ▸ (hDD ▸ Heap.get?_push_size _ rfl)))
  have hlt : ∀ b ∈ fp, b < D := fun b hb => let ⟨o, e, _⟩ := T.obj 0 _ st b hb; lts e
  have freshS : ∀ b, D ≤ b → s.heap.get? b = none := fun b hb => by
    cases e : s.heap.get? b with
    | none => rfl
    | some o => exact absurd (lts e) (Nat.not_lt.mpr hb)
  have nH : ∀ b, D ≤ b → H b = none := fun b hb => I.hok.fresh (by rw [hDD]; exact hb)
  let Y : Cx := compCx X scope (own ++ caps.map (·.2)) s H C fp
  have okY : Y.Ok := compCx_ok I hkind hcell hfree (by rw [hDD]; exact hCle) hf (by rw [hDD]; exact hlt)
  have sub : ∀ x c, (clOf X.env.cells scope.names []).lookup x = some c → X.env.cells.lookup x = some c := fun x c e => clOf_sub scope.names [] (fun p hp => (nomatch hp)) (x, c) (PySem.mem_of_lookup e)
  have celllt : ∀ x c, X.env.cells.lookup x = some c → c < D := fun x c e => by
    obtain ⟨v, o, ho, _⟩ := I.cell x c e
    exact lts ho
  have stklt : ∀ b ∈ frs X.stack, b < D := fun b hb => by
    rcases List.mem_cons.mp (I.stkSub b hb) with e | e
    · rw [e, ← hDD]; exact I.lt
    · obtain ⟨_, o, ho, _⟩ := I.funs.mem e
      exact lts ho
  -- the block's own invariant at its start
  have I0 : Inv Y [] (st0 own.length caps σ) H { s with heap := h₁, toks := s.toks + ([] : List (Str × Value)).length } := by
    refine ⟨okY, rfl, I.bare, Un.kept old, ⟨_, hns₁, fun i x v h1 h2 h3 => ?_⟩, fun x c e => ?_, nH C hCle, fun x c e => I.freeC x c (sub x c e), fun p hp => ?_, I.hok.kept old, ?_⟩
    · obtain ⟨hk, p, hp, hv⟩ := st0_get h2
      have h1' : caps[i - own.length]?.map (·.2) = some x := by
        have : (own ++ caps.map (·.2))[i]? = some x := h1
        rw [List.getElem?_append_right hk, List.getElem?_map] at this
        exact this
      rw [hp] at h1'
      cases h1'
      obtain ⟨q1, q2, q3⟩ := hcap.mem p (List.mem_of_getElem? hp)
      obtain ⟨m, hn, hl⟩ := I.loc
      obtain ⟨u, r, l⟩ := hl p.1 p.2 v q1 hv (by rcases q3 with z | z; exact .inr (.inl z); exact .inr (.inr z))
      refine ⟨u, r, .inr ⟨relabel_kind q2, ?_⟩⟩
      rcases l with ⟨z, _⟩ | ⟨_, c, hc', z⟩
      · rcases q3 with y | y <;> (rw [y] at z; cases z)
      · have hm : (p.2, NameKind.free) ∈ scope.names := PySem.mem_of_lookup q2
        obtain ⟨d, hd⟩ := clOf_has scope.names [] hm ⟨c, hc'⟩
        obtain ⟨d', hd'⟩ := lookup_of_mem hd
        have e := sub _ _ hd'
        rw [hc'] at e
        cases e
        obtain ⟨oc, ho, hdt⟩ := z
        exact ⟨c, hd', oc, old _ _ ho, hdt⟩
    · obtain ⟨v, o, ho, hd⟩ := I.cell x c (sub x c e)
      exact ⟨v, o, old _ _ ho, hd⟩
    · exact absurd (show p ∈ ([] : List (Addr × Obj)) from hp) (by simp)
    · rw [st0_len]
      show _ = (own ++ caps.map (·.2)).length
      rw [List.length_append, List.length_map]
  have pinD : ∀ {its : List Value} {n : Nat} {σ' : St} {H' : Hp} {s' : Shared}, Inv Y [] σ' H' s' → H' D = none → s'.heap.get? D = some { cls := .type "list", data := .seq its.toArray n } → Inv Y [(D, { cls := .type "list", data := .seq its.toArray n })] σ' H' s' := fun {its n σ' H' s'} J hn e =>
    J.pins_of fun p hp => by
      have ep : p = (D, { cls := .type "list", data := .seq its.toArray n }) := List.mem_singleton.mp hp
      subst ep
      refine ⟨e, hn, hDC, fun z => ?_, fun v z => by cases z⟩
      exact absurd (stklt D z) (Nat.lt_irrefl _)
  obtain ⟨W, ⟨m0, w0⟩, turn⟩ := hB
  have fpY : ∀ {H' : Hp} {pins' : List (Addr × Obj)}, (∀ b ∈ fp, H' b = none) → (∀ p ∈ pins', ∀ b ∈ fp, p.1 ≠ b) → ∀ b ∈ fp, FpOk Y pins' H' b := fun {H' pins'} hn hp b hb =>
    ⟨hn b hb, (okY.exf b hb).1, okY.exfs b hb, .inl hb, (okY.exf b hb).2, fun p q => hp p (by simpa [Y, compCx] using q) b hb⟩
  have loop : ∀ s₃ : Shared, s₃ = { s with heap := h₁, toks := s.toks + ([] : List (Str × Value)).length } →
      codeAny (model X.prog X.w) X.A (.compLoop (.ListComp elt [⟨tg, iter, [cnd], 0⟩] scope pos) 0 (.ref it) (.ref D) (compEnvC scope (clOf X.env.cells scope.names []) C X.env)) (RR (.ref D) C) s₃ := by
    rintro s₃ rfl
    refine compLoop_ownT (fun k s' => ∃ (i : Nat) (ys : List V) (its : List Value) (n : Nat) (H' : Hp), Inv Y [(D, { cls := .type "list", data := .seq its.toArray n })] (st0 own.length caps σ) H' s' ∧ tn i s'.heap ∧ (∀ b ∈ fp, H' b = none) ∧ Vals ys its ∧ W i k ys H') ?_ m0
      ⟨0, [], [], 0, H, pinD I0 (nH D (Nat.le_refl _)) hacc, T.keep _ _ _ st fun b _ o e => old b o e, fun b hb => (hf b hb).1, .nil, w0⟩
    rintro k s3 ⟨i, ys, its, n, H3, I3, st3, fr3, rv, w3⟩
    obtain ⟨pD, nD, _⟩ := I3.pin (D, { cls := .type "list", data := .seq its.toArray n }) (List.mem_append_right _ List.mem_cons_self)
    have ff := fpY (pins' := [(D, { cls := .type "list", data := .seq its.toArray n })]) fr3 (fun p hp b hb => by
      rw [List.mem_singleton.mp hp]; exact (Ne.symm (below b (hlt b hb)).2))
    obtain ⟨hsz, turn⟩ := turn i k ys H3 w3
    rcases turn with ⟨stop, q⟩ | ⟨go, hsz', NN, N0, hNN, hN0, step⟩
    · refine thn (T.done Y rfl rfl rfl hc i _ s3 _ H3 _ I3 ff st3 stop) fun r s4 ⟨hr, I4⟩ => ?_
      subst hr
      obtain ⟨m4, hn4, _⟩ := I4.loc
      obtain ⟨pD4, nD4, _⟩ := I4.pin (D, { cls := .type "list", data := .seq its.toArray n }) (List.mem_append_right _ List.mem_cons_self)
      refine fin D C s4 m4 ys H3 hCle hDC hn4 ?_ nD4 I4.free q
      have hk := I4.base
      have hok4 : HOk X.prog X.w H3 s4.heap := I4.hok
      have neD : ∀ b u, H3 b = some u → b ≠ D := fun b u e z => by rw [z, nD4] at e; cases e
      refine I.call' (ch := fp) I4.os ⟨fun b o e n hb hx => hk.keep b o e n hb hx, fun b o e n hb hx => hk.slot b o e n hb hx, fun b o e n hx => ?_, fun b o e hx => hk.there b o e hx, fun b xs e => ?_, fun b o u e => ?_, fun b ps e => ?_⟩ ?_ I4.bare ?_
      · rw [upd_ne (below b (lts e)).2]; exact hk.free b o e n hx
      · have := hk.tups b xs e
        rw [upd_ne (neD b _ this)]; exact this
      · have := hk.frzs b o u e
        rw [upd_ne (neD b _ this)]; exact this
      · obtain ⟨more, e'⟩ := hk.tbls b ps e
        exact ⟨more, by rw [upd_ne (neD b _ e')]; exact e'⟩
      · intro b u e
        by_cases hb : b = D
        · subst hb
          rw [upd_same] at e
          cases e
          exact ⟨hsz, its, n, rv, pD4⟩
        · rw [upd_ne hb] at e
          exact (hok4 b u e).stay (fun c v _ q => q) (fun c q => by rw [upd_ne (neD c _ q)]; exact q) fun c xs q => by rw [upd_ne (neD c _ q)]; exact q
      · intro b hb
        obtain ⟨_, f1, _, f3, f4, f5⟩ := hf b hb
        exact ⟨f3, f1, f4, f5⟩
    · refine thn (T.item Y rfl rfl rfl hc i _ s3 _ H3 _ I3 ff st3 go) fun r s4 ⟨u, hr, h4⟩ => ?_
      subst hr
      refine thn h4 fun _ s5 ⟨x, H5, I5, r5, y5, st5, fr5⟩ => ?_
      have ff5 := fpY (pins' := [(D, { cls := .type "list", data := .seq its.toArray n })]) fr5 (fun p hp b hb => by
        rw [List.mem_singleton.mp hp]; exact (Ne.symm (below b (hlt b hb)).2))
      have I5' := I5.pinned ff5 (T.obj _ _ st5)
      refine thn (hg s H C _ s5 _ H5 x u _ I5' r5 (step x H5 y5)) fun _ s6 ⟨σ6, H6, I6, wk, q6⟩ => ?_
      refine thn (ht s H C _ s6 σ6 H6 _ I6 q6) fun bb s6 ⟨H6, I6, q6⟩ => ?_
      cases bb with
      | false =>
        have q6 : N0 H6 := q6
        obtain ⟨m', hm, w7⟩ := hN0 H6 q6
        have st6 : tn (i + 1) s6.heap := T.keep _ _ _ st5 fun b hb o e => (I6.pin (b, o) (List.mem_append_right _ (List.mem_append_right _ (mem_pinsAt hb e)))).1
        have fr6 : ∀ b ∈ fp, H6 b = none := fun b hb => by
          obtain ⟨o, e, d⟩ := T.obj _ _ st5 b hb
          exact (I6.pin (b, o) (List.mem_append_right _ (List.mem_append_right _ (mem_pinsAt hb e)))).2.1
        obtain ⟨pD6, nD6, _, _, _⟩ := I6.pin (D, { cls := .type "list", data := .seq its.toArray n }) (List.mem_append_right _ (List.mem_append_left _ List.mem_cons_self))
        have I8 : Inv Y [] σ6 H6 s6 := I6.pins_of fun p hp => (nomatch hp)
        have I9 : Inv Y [] (st0 own.length caps σ) H6 s6 := I8.weak (by rw [I0.len, I8.len]) wk
        exact ⟨m', hm, i + 1, ys, its, n, H6, pinD I9 nD6 pD6, st6, fr6, rv, w7⟩
      | true =>
        have q6 : te σ6 H6 NN := q6
        refine thn (he s H C _ s6 σ6 H6 _ I6 q6) fun y s7 ⟨v, H7, I7, r7, n7⟩ => ?_
        obtain ⟨m', hm, w7⟩ := hNN v H7 n7
        obtain ⟨pD7, nD7, _, _, _⟩ := I7.pin (D, { cls := .type "list", data := .seq its.toArray n }) (List.mem_append_right _ (List.mem_append_left _ List.mem_cons_self))
        refine append_at (n := n) pD7 (fun h' hs' hD' => ?_) (by rw [List.size_toArray, ← rv.length]; exact hsz)
        have st7 : tn (i + 1) s7.heap := T.keep _ _ _ st5 fun b hb o e => (I7.pin (b, o) (List.mem_append_right _ (List.mem_append_right _ (mem_pinsAt hb e)))).1
        have fr7 : ∀ b ∈ fp, H7 b = none := fun b hb => by
          obtain ⟨o, e, d⟩ := T.obj _ _ st5 b hb
          exact (I7.pin (b, o) (List.mem_append_right _ (List.mem_append_right _ (mem_pinsAt hb e)))).2.1
        have I8 : Inv Y [] σ6 H7 s7 := I7.pins_of fun p hp => (nomatch hp)
        have I9 : Inv Y [] (st0 own.length caps σ) H7 s7 := I8.weak (by rw [I0.len, I8.len]) wk
        have I10 : Inv Y [] (st0 own.length caps σ) H7 { s7 with heap := h' } := I9.turned (t' := s7.toks) (it := D) (fun b o hb e => hs'.extBut b o hb e) nD7 hDC (.inr (Nat.le_of_eq hDD)) (fun x c e => Nat.ne_of_lt (celllt x c (sub x c e))) (fun p hp => absurd (show p ∈ ([] : List (Addr × Obj)) from hp) (by simp))
        refine ⟨m', hm, i + 1, ys ++ [v], its ++ [y], n + 1, H7, pinD I10 nD7 ?_, ?_, fr7, rv.append (.cons r7 .nil), w7⟩
        · rw [hD', List.push_toArray]
        · exact T.keep _ _ _ st7 fun b hb o e => hs'.extBut b o (below b (hlt b hb)).2 e
  have tn1 : tn 0 h₁ := T.keep _ _ _ st fun b _ o e => old b o e
  exact codeAny_compStart_list (loop _ rfl) (T.self _ 0 _ _ _ tn1 (loop _ rfl))
/-- [elt for tg in iter] -/
theorem pe_compT (own : List Str) (caps : List (Nat × Str)) (hc : X.calm = true) (hi : PI X tg iter wi) (hg : ∀ fp s₀ H₀ C, PG (compCx X scope (own ++ caps.map (·.2)) s₀ H₀ C fp) tg g) (ht : ∀ fp s₀ H₀ C, PT (compCx X scope (own ++ caps.map (·.2)) s₀ H₀ C fp) cnd tt) (he : ∀ fp s₀ H₀ C, PE (compCx X scope (own ++ caps.map (·.2)) s₀ H₀ C fp) elt te)
    (hcap : CapsOk X scope caps)
    (hfr : (scope.names.all fun y => !(y.2 == NameKind.free) || (X.env.cells.lookup y.1).isSome) = true := by rfl)
    (hkind : scope.kind = .function := by rfl) (hcell : ∀ y ∈ scope.names, y.2 ≠ .cell := by decide +kernel)
    (hnames : ∀ y ∈ scope.names, y.2 = .local → scope.names.lookup y.1 = some .local := by decide +kernel) (hs : ∀ x, foldedSetIterable iter X.env x = pure x := by intro _; rfl) :
    PE X (.ListComp elt [⟨tg, iter, [cnd], 0⟩] scope pos) (tCompT own.length caps wi g tt te) := by
  intro pins s σ H Q I h
  have hfree := free_has hfr
  have hclos := closure_eq hfree
  rw [eval_ListComp]
  refine wpAny_comprehension_free (use := none) rfl hs hclos hkind hnames (thn (hi pins s σ H _ I h) fun v s1 h1 => thn h1 fun itv s2 h2 => ?_)
  obtain ⟨it, fp, tn, J, H2, e, I2, T, st2, f2, hB⟩ := h2
  subst e
  refine comp_coreT (RR := fun acc C => compPost (model X.prog X.w) X.A X.xe none (EP X pins σ Q) acc C) I2 hc T st2 f2 hkind hcell hfree hcap (hg fp) (ht fp) (he fp) hB ?_
  intro D C s' m ys H' hC hDC hn I3 nD nC q
  refine ⟨m, hn, fun h' hs' => ⟨.ref D, upd H' D (.lst ys), ?_, rfl, q D nD⟩⟩
  exact I3.turned (t' := s'.toks) (it := C) (fun b o hb e => hs'.extBut b o hb e) (by rw [upd_ne (Ne.symm hDC)]; exact nC) (Ne.symm (Nat.ne_of_lt (Nat.lt_of_lt_of_le I2.lt hC))) (.inr (Nat.le_trans I2.sz hC))
    (fun x c e z => by
      obtain ⟨v, o, ho, _⟩ := I2.cell x c e
      rw [z] at ho
      exact absurd (Nat.lt_of_lt_of_le (Heap.lt_size ho) hC) (Nat.lt_irrefl _))
    (fun p hp z => by
      have := (I2.pin p hp).1
      rw [z] at this
      exact absurd (Nat.lt_of_lt_of_le (Heap.lt_size this) hC) (Nat.lt_irrefl _))
theorem compT_list {caps : List (Nat × Str)} {tt : TT} {te : TE} {K : PySem.W.Frag} {a : Addr} {xs : List V} {σ : St} {H : Hp} {QL : List V → Hp → Prop} (Pv : Nat → List V → Hp → Prop) (hz : xs.length ≤ 1000) (h0 : Pv 0 [] H) (hl : ∀ i ys H, i ≤ xs.length → Pv i ys H → SqL K H a xs)
    (hs : ∀ i x ys H, xs[i]? = some x → ys.length ≤ i → Pv i ys H → tt (some x :: caps.map fun p => (σ[p.1]?).join) H fun b H' => match b with | true => te (some x :: caps.map fun p => (σ[p.1]?).join) H' fun v H'' => Pv (i + 1) (ys ++ [v]) H'' | false => Pv (i + 1) ys H') (hd : ∀ ys H, ys.length ≤ xs.length → Pv xs.length ys H → QL ys H) :
    tCompBT 1 caps (gName 0) tt te σ (Itl K a) H QL := by
  have hz' : xs.length < sizeLine := small1000 hz
  refine ⟨fun i m ys H => m = xs.length - i ∧ i ≤ xs.length ∧ ys.length ≤ i ∧ Pv i ys H, ⟨_, rfl, Nat.zero_le _, Nat.le_refl _, h0⟩, ?_⟩
  rintro i m ys H' ⟨rfl, hi, hy, p⟩
  have q := hl i ys H' hi p
  refine ⟨by omega, ?_⟩
  by_cases hlt : i < xs.length
  · refine .inr ⟨⟨xs, xs[i], q, by simp [hlt]⟩, by omega, fun v H4 => Pv (i + 1) (ys ++ [v]) H4, fun H4 => Pv (i + 1) ys H4, fun v H4 p' => ⟨xs.length - (i + 1), by omega, rfl, hlt, by rw [List.length_append, List.length_singleton]; omega, p'⟩, fun H4 p' => ⟨xs.length - (i + 1), by omega, rfl, hlt, by omega, p'⟩, fun x H2 y => ?_⟩
    obtain ⟨e, y⟩ := y
    subst e
    exact ⟨keep1, hs i x ys _ (y xs q) hy p⟩
  · have e : i = xs.length := by omega
    subst e
    exact .inl ⟨⟨xs, q, Nat.le_refl _⟩, hd ys H' hy p⟩
end
end L2

/-! a name forgotten behind a statement -/
namespace L2
open PySem PySem.Spec PyProof.Rows
end L2

namespace My
open PySem L2 PyProof.Rows
def top (i : Nat) : Stmt := PySem.Challenge.pw_turnframe_k32_by_steps.main.body.getD i (.Pass ⟨0, 0, 0, 0⟩)
abbrev s_is_square : Stmt := top 12
abbrev s_need_square : Stmt := top 13
abbrev s_scaled_row : Stmt := top 14
abbrev s_plus_row : Stmt := top 15
abbrev s_freed : Stmt := top 16
abbrev s_is_whole : Stmt := top 19
abbrev s_divisor : Stmt := top 20
abbrev s_shares : Stmt := top 21
abbrev s_less_times : Stmt := top 22
abbrev s_is_prime : Stmt := top 23
abbrev s_sign_of : Stmt := top 24
abbrev s_make_turn : Stmt := top 26
abbrev s_is_idle : Stmt := top 28
abbrev s_take : Stmt := top 29
abbrev s_take_bottoms : Stmt := top 30
abbrev s_first_filled : Stmt := top 31
abbrev s_empty_column : Stmt := top 32
abbrev s_emptied : Stmt := top 33
abbrev s_by_steps : Stmt := top 35
abbrev s_Kind_common_bottom : Stmt := inClass (top 37) 2
abbrev s_Fractions_number : Stmt := inClass (top 38) 0
abbrev s_Fractions_plus : Stmt := inClass (top 38) 1
abbrev s_Fractions_minus : Stmt := inClass (top 38) 2
abbrev s_Fractions_times : Stmt := inClass (top 38) 3
abbrev s_Fractions_back : Stmt := inClass (top 38) 4
abbrev s_Fractions_common_bottom : Stmt := inClass (top 38) 6
abbrev s_Fractions_is_nought : Stmt := inClass (top 38) 8
abbrev s_Rests___init__ : Stmt := inClass (top 39) 0
abbrev s_Rests_number : Stmt := inClass (top 39) 1
abbrev s_Rests_plus : Stmt := inClass (top 39) 2
abbrev s_Rests_minus : Stmt := inClass (top 39) 3
abbrev s_Rests_times : Stmt := inClass (top 39) 4
abbrev s_Rests_back : Stmt := inClass (top 39) 5
abbrev s_Rests_is_nought : Stmt := inClass (top 39) 7
abbrev s_l_whole : Stmt := top 41
abbrev s_l_divisor : Stmt := top 42
abbrev s_l_is_prime : Stmt := top 43
abbrev s_l_prime : Stmt := top 44
abbrev s_l_kind : Stmt := top 45
abbrev s_l_lowest : Stmt := top 46
abbrev s_l_plus : Stmt := top 47
abbrev s_l_times : Stmt := top 48
abbrev s_l_made : Stmt := top 49
abbrev s_l_drawn : Stmt := top 50
abbrev s_l_begun : Stmt := top 51
abbrev s_l_scale : Stmt := top 52
abbrev s_l_turn : Stmt := top 53
abbrev s_l_behind : Stmt := top 54
abbrev s_l_due : Stmt := top 55
abbrev s_l_number_is : Stmt := top 56
abbrev s_l_refused : Stmt := top 57
abbrev s_l_not_square : Stmt := top 58
abbrev s_law : Stmt := top 59

/-! what many laws share: the names, the numbers' defs, the kinds' methods -/
structure Nm (mg : Str → Option Value) : Prop where
  abs : mg "abs" = none
  isinstance : mg "isinstance" = none
  int : mg "int" = none
  bool : mg "bool" = none
  tuple : mg "tuple" = none
  list : mg "list" = none
  len : mg "len" = none
  range : mg "range" = none
  PB : ∃ t, mg "PRIME_BOUND" = some (.int 1000000 t)
theorem nm_mk {mg : Str → Option Value} {v : Value} (h1 : mg "PRIME_BOUND" = some v) (h2 : ∃ t, v = .int 1000000 t) (a1 : mg "abs" = none) (a2 : mg "isinstance" = none) (a3 : mg "int" = none) (a4 : mg "bool" = none) (a5 : mg "tuple" = none) (a6 : mg "list" = none) (a7 : mg "len" = none) (a8 : mg "range" = none) : Nm mg :=
  ⟨a1, a2, a3, a4, a5, a6, a7, a8, let ⟨t, e⟩ := h2; ⟨t, by rw [h1, e]⟩⟩
/-- what the kinds' classes are: C.1 Fractions, C.2 Rests -/
structure Kd (K : PySem.W.Frag) (mg : Str → Option Value) (CF CR : Addr) : Prop where
  clF : Cls K CF
  clR : Cls K CR
  nP : NoAttr K CR "prime"
  mkF : Mk0 K CF
  mgF : mg "Fractions" = some (.ref CF)
  mgR : mg "Rests" = some (.ref CR)
def fsR (p : Int) : List (Str × V) := putF "prime" (.int p) []
theorem fsR_prime (p : Int) : (fsR p).lookup ("prime" : Str) = some (.int p) := by
  unfold fsR
  rw [lookup_putF, if_pos rfl]
theorem fsR_no (p : Int) {m : Str} (h : ¬ m = "prime") : (fsR p).lookup m = none := by
  unfold fsR
  rw [lookup_putF, if_neg h]
  rfl
/-- a fraction in its one form -/
structure Fc (a b : Int) : Prop where
  pos : 0 < b
  cop : Int.gcd a b = 1
def FrA (CF : Addr) (H : Hp) (a : Addr) : Prop := ∃ dx, H a = some (.ins CF dx [])
theorem nat_pos {b : Int} (h : 0 < b) : 0 < b.natAbs := Nat.pos_of_ne_zero (Int.natAbs_ne_zero.mpr (Int.ne_of_gt h))
def sp_divisor : Sp := fun vs H Q _ => ∃ a b : Int, vs = [.int a, .int b] ∧ Q (.int (Int.gcd a b)) H
section
variable {P : Program} {w : World} {K : PySem.W.Frag} {mg : Str → Option Value} {base : Heap}
theorem sc_divisor : FnScope ["one", "other", "rest"] ["one", "other"] (defScope s_divisor) := ⟨rfl, rfl, rfl, by decide +kernel, rfl, by decide +kernel, by decide +kernel⟩
theorem ok_divisor (h : Here K mg "divisor" s_divisor) (T : Nm mg) : Has P w K mg base "divisor" 1 ["one", "other"] sp_divisor := by
  refine h.has (fun f fd F => F.binds fun _ _ _ _ _ _ us hl => by obtain ⟨_, _, rfl⟩ := len2 hl; exact rfl) fun f fd F => F.ok sc_divisor (fun vs H Q E h => ?_) (fun cdv A outer s H vs Q E hr h => ?_)
  · obtain ⟨a, b, rfl, _⟩ := h
    rfl
  obtain ⟨x, y, rfl, k⟩ := h
  have nd := sc_divisor.nd
  refine ⟨_, (pss_cons (ps_while PassesOwn.never (pt_cmpR op_ne (pv 1) pe_int (nomark _)) (pss_cons (ps_set (i := 2) nd rfl (Or.inl rfl) (pe_op op_modN (pv 0) (pv 1)))
      (pss_cons (ps_set (i := 0) nd rfl (Or.inl rfl) (pv 1))
      (pss_one (ps_set (i := 1) nd rfl (Or.inl rfl) (pv 2))))))
    (pss_one (ps_ret (pe_callB call_abs (by rfl) T.abs boot_abs (pa_cons (pv 0) pa_nil))))), ?_⟩
  refine ⟨fun m σ H' => ∃ (a b : Int) (r : Option V), m = b.natAbs ∧ σ = [some (.int a), some (.int b), r] ∧ H' = H ∧ Int.gcd a b = Int.gcd x y, ⟨_, x, y, none, rfl, rfl, rfl, rfl⟩, ?_⟩
  rintro m σ H' ⟨a, b, r, rfl, rfl, rfl, g⟩
  refine ⟨_, rfl, rfl, _, rfl, ?_⟩
  refine if_neI (fun hb => ⟨_, fun _ _ h => h, ?_⟩) (fun hb => ?_)
  · refine ⟨_, rfl, _, rfl, _, _, rfl, rfl, hb, _, rfl, _, rfl, ?_⟩
    exact ⟨_, M1.fmod_lt a hb, b, a.fmod b, _, rfl, rfl, rfl, by rw [M1.fmod_gcd]; exact g⟩
  · refine ⟨_, rfl, _, rfl, ?_⟩
    subst hb
    rw [← M1.gcd_zero' a, g]
    exact k
end

section
variable {P : Program} {w : World} {K : PySem.W.Frag} {mg : Str → Option Value} {base : Heap}
theorem sc_l_divisor : FnScope ["_law_one", "_law_other"] ["_law_one", "_law_other"] (defScope s_l_divisor) := ⟨rfl, rfl, rfl, by decide +kernel, rfl, by decide +kernel, by decide +kernel⟩
theorem ok_l_divisor (h : Here K mg "_law_divisor" s_l_divisor) (T : Nm mg) : Has P w K mg base "_law_divisor" 1 ["_law_one", "_law_other"] sp_divisor := by
  refine h.has (fun f fd F => F.binds fun _ _ _ _ _ _ us hl => by obtain ⟨_, _, rfl⟩ := len2 hl; exact rfl) fun f fd F => F.ok sc_l_divisor (fun vs H Q E h => ?_) (fun cdv A outer s H vs Q E hr h => ?_)
  · obtain ⟨a, b, rfl, _⟩ := h
    rfl
  obtain ⟨x, y, rfl, k⟩ := h
  have nd := sc_l_divisor.nd
  refine ⟨_, (pss_cons (ps_while PassesOwn.never (pt_cmpR op_ne (pv 1) pe_int (nomark _)) (pss_one (ps_par (i := 0) (j := 1) rfl nd rfl rfl (by decide) rfl rfl (pa_cons (pv 1) (pa_cons (pe_op op_modN (pv 0) (pv 1)) pa_nil)) rfl)))
    (pss_one (ps_ret (pe_callB call_abs (by rfl) T.abs boot_abs (pa_cons (pv 0) pa_nil))))), ?_⟩
  refine ⟨fun m σ H' => ∃ (a b : Int), m = b.natAbs ∧ σ = [some (.int a), some (.int b)] ∧ H' = H ∧ Int.gcd a b = Int.gcd x y, ⟨_, x, y, rfl, rfl, rfl, rfl⟩, ?_⟩
  rintro m σ H' ⟨a, b, rfl, rfl, rfl, g⟩
  refine ⟨_, rfl, rfl, _, rfl, ?_⟩
  refine if_neI (fun hb => ⟨_, fun _ _ h => h, ?_⟩) (fun hb => ?_)
  · refine ⟨_, rfl, _, rfl, _, rfl, _, _, rfl, rfl, hb, _, _, rfl, ?_⟩
    exact ⟨_, M1.fmod_lt a hb, b, a.fmod b, rfl, rfl, rfl, by rw [M1.fmod_gcd]; exact g⟩
  · refine ⟨_, rfl, _, rfl, ?_⟩
    subst hb
    rw [← M1.gcd_zero' a, g]
    exact k
end

def sp_whole : Sp := fun vs H Q _ => ∃ i : Int, vs = [.int i] ∧ Q (.bl true) H
section
variable {P : Program} {w : World} {K : PySem.W.Frag} {mg : Str → Option Value} {base : Heap}
theorem sc_is_whole : FnScope ["thing"] ["thing"] (defScope s_is_whole) := ⟨rfl, rfl, rfl, by decide +kernel, rfl, by decide +kernel, by decide +kernel⟩
theorem ok_is_whole (h : Here K mg "is_whole" s_is_whole) (T : Nm mg) : Has P w K mg base "is_whole" 1 ["thing"] sp_whole := by
  refine h.has (fun f fd F => F.binds fun _ _ _ _ _ _ us hl => by obtain ⟨_, rfl⟩ := len1 hl; exact rfl) fun f fd F => F.ok sc_is_whole (fun vs H Q E h => ?_) (fun cdv A outer s H vs Q E hr h => ?_)
  · obtain ⟨_, rfl, _⟩ := h
    rfl
  obtain ⟨i, rfl, k⟩ := h
  refine ⟨_, (pss_one (ps_ret (pe_and (pe_callB call_isinst (by rfl) T.isinstance boot_isinstance (pa_cons (pv 0) (pa_cons (pe_ty (by rfl) T.int boot_int) pa_nil))) (pe_one (pe_not (pe_callB call_isinst (by rfl) T.isinstance boot_isinstance (pa_cons (pv 0) (pa_cons (pe_ty (by rfl) T.bool boot_bool) pa_nil)))))))), ?_⟩
  refine ⟨_, rfl, _, _, _, _, rfl, .int i, kit_same K _, _, rfl, ?_⟩
  refine iteT ?_
  exact ⟨_, rfl, _, _, _, _, rfl, .int i, kit_int_bool K, _, rfl, k⟩
end

section
variable {P : Program} {w : World} {K : PySem.W.Frag} {mg : Str → Option Value} {base : Heap}
theorem sc_l_whole : FnScope ["_law_found"] ["_law_found"] (defScope s_l_whole) := ⟨rfl, rfl, rfl, by decide +kernel, rfl, by decide +kernel, by decide +kernel⟩
theorem ok_l_whole (h : Here K mg "_law_whole" s_l_whole) (T : Nm mg) : Has P w K mg base "_law_whole" 1 ["_law_found"] sp_whole := by
  refine h.has (fun f fd F => F.binds fun _ _ _ _ _ _ us hl => by obtain ⟨_, rfl⟩ := len1 hl; exact rfl) fun f fd F => F.ok sc_l_whole (fun vs H Q E h => ?_) (fun cdv A outer s H vs Q E hr h => ?_)
  · obtain ⟨_, rfl, _⟩ := h
    rfl
  obtain ⟨i, rfl, k⟩ := h
  refine ⟨_, (pss_one (ps_ret (pe_and (pe_callB call_isinst (by rfl) T.isinstance boot_isinstance (pa_cons (pv 0) (pa_cons (pe_ty (by rfl) T.int boot_int) pa_nil))) (pe_one (pe_not (pe_callB call_isinst (by rfl) T.isinstance boot_isinstance (pa_cons (pv 0) (pa_cons (pe_ty (by rfl) T.bool boot_bool) pa_nil)))))))), ?_⟩
  refine ⟨_, rfl, _, _, _, _, rfl, .int i, kit_same K _, _, rfl, ?_⟩
  refine iteT ?_
  exact ⟨_, rfl, _, _, _, _, rfl, .int i, kit_int_bool K, _, rfl, k⟩
end

def sp_prime : Sp := fun vs H Q _ => ∃ n : Int, vs = [.int n] ∧ n < 1000000 ∧ (M2.Prm n → Q (.bl true) H) ∧ (¬ M2.Prm n → Q (.bl false) H)
section
variable {P : Program} {w : World} {K : PySem.W.Frag} {mg : Str → Option Value} {base : Heap}
theorem sc_is_prime : FnScope ["number", "trial"] ["number"] (defScope s_is_prime) := ⟨rfl, rfl, rfl, by decide +kernel, rfl, by decide +kernel, by decide +kernel⟩
theorem ok_is_prime (h : Here K mg "is_prime" s_is_prime) (T : Nm mg) : Has P w K mg base "is_prime" 1 ["number"] sp_prime := by
  refine h.has (fun f fd F => F.binds fun _ _ _ _ _ _ us hl => by obtain ⟨_, rfl⟩ := len1 hl; exact rfl) fun f fd F => F.ok sc_is_prime (fun vs H Q E h => ?_) (fun cdv A outer s H vs Q E hr h => ?_)
  · obtain ⟨_, rfl, _⟩ := h
    rfl
  obtain ⟨n, rfl, hn, kt, kf⟩ := h
  have nd := sc_is_prime.nd
  obtain ⟨tk, hPB⟩ := T.PB
  refine ⟨_, (pss_cons (ps_if (pw_or (pt_cmpR op_lt (pv 0) pe_int (nomark _)) (pw_or1 (pt_cmpR op_ge (pv 0) (pe_glob (v := .int 1000000) (by rfl) hPB ⟨tk, rfl⟩) (nomark _)))).pt (pss_one (ps_ret pe_bl)) pss_nil)
    (pss_cons (ps_if (pt_cmpR op_eq (pe_op op_mod (pv 0) pe_int) pe_int (nomark _)) (pss_one (ps_ret (pe_cmpR op_eq (pv 0) pe_int (nomark _)))) pss_nil)
    (pss_cons (ps_set (i := 1) nd rfl (Or.inl rfl) pe_int)
    (pss_cons (ps_while PassesOwn.never (pt_cmpR op_le (pe_op op_mulO (pv 1) (pv 1)) (pv 0) (nomark _)) (pss_cons (ps_if (pt_cmpR op_eq (pe_op op_modN (pv 0) (pv 1)) pe_int (nomark _)) (pss_one (ps_ret pe_bl)) pss_nil)
      (pss_one (ps_aug (i := 1) nd rfl (Or.inl rfl) pe_int ip_add))))
    (pss_one (ps_ret pe_bl)))))), ?_⟩
  refine ⟨_, rfl, _, _, rfl, rfl, _, rfl, ?_⟩
  refine if_dec (fun h => iteT (kf fun p => by have := p.1; omega)) (fun h2 => ?_)
  refine ⟨_, rfl, _, _, rfl, rfl, _, rfl, ?_⟩
  refine if_dec (fun h => absurd h (by omega)) (fun _ => ?_)
  refine ⟨_, rfl, _, _, rfl, rfl, (by show (0 : Int) < _; decide), rfl, _, rfl, ?_⟩
  refine if_eqI (fun e => ?_) (fun e => ?_)
  · refine ⟨_, rfl, rfl, ?_⟩
    rw [eqI_iff]
    have iff := M2.prm_even (n := n) (by omega) e
    by_cases hp : n = 2
    · rw [decide_eq_true hp]; exact kt (iff.mpr hp)
    · rw [decide_eq_false hp]; exact kf fun z => hp (iff.mp z)
  refine ⟨fun m σ H' => ∃ t : Int, m = (n + 2 - t).toNat ∧ σ = [some (.int n), some (.int t)] ∧ H' = H ∧ 3 ≤ t ∧ t % 2 = 1 ∧ t ≤ n + 2 ∧ M2.No n t, ⟨_, 3, rfl, rfl, rfl, by omega, by omega, by omega, M2.No.odd e⟩, ?_⟩
  rintro m σ H' ⟨t, rfl, rfl, rfl, h3, ho, hle, no⟩
  have tf : t.natAbs ≤ 10 ^ 150 := Nat.le_trans (show t.natAbs ≤ 1000002 by omega) (by decide)
  refine ⟨_, rfl, _, rfl, _, _, rfl, rfl, (mul_fit tf tf), _, rfl, _, _, rfl, rfl, _, rfl, ?_⟩
  refine if_dec (fun hl => ⟨_, fun _ _ h => h, ?_⟩) (fun hl => ?_)
  · refine ⟨_, rfl, _, rfl, _, _, rfl, rfl, (show t ≠ 0 by omega), rfl, _, rfl, ?_⟩
    have lt := M2.le_of_sq (by omega) hl
    refine if_eqI (fun z => kf (M2.found (by omega) hl ((M2.fmod_dvd (by omega)).mp z))) (fun z => ?_)
    refine ⟨_, rfl, _, _, rfl, rfl, ?_⟩
    exact ⟨_, by omega, t + 2, rfl, rfl, rfl, by omega, by omega, by omega, no.next e ho fun d => z ((M2.fmod_dvd (by omega)).mpr d)⟩
  · exact kt (no.done (by omega) (by omega) hl)
end

section
variable {P : Program} {w : World} {K : PySem.W.Frag} {mg : Str → Option Value} {base : Heap}
theorem sc_l_is_prime : FnScope ["_law_number", "_law_by"] ["_law_number"] (defScope s_l_is_prime) := ⟨rfl, rfl, rfl, by decide +kernel, rfl, by decide +kernel, by decide +kernel⟩
theorem ok_l_is_prime (h : Here K mg "_law_is_prime" s_l_is_prime) : Has P w K mg base "_law_is_prime" 1 ["_law_number"] sp_prime := by
  refine h.has (fun f fd F => F.binds fun _ _ _ _ _ _ us hl => by obtain ⟨_, rfl⟩ := len1 hl; exact rfl) fun f fd F => F.ok sc_l_is_prime (fun vs H Q E h => ?_) (fun cdv A outer s H vs Q E hr h => ?_)
  · obtain ⟨_, rfl, _⟩ := h
    rfl
  obtain ⟨n, rfl, hn, kt, kf⟩ := h
  have nd := sc_l_is_prime.nd
  refine ⟨_, (pss_cons (ps_set (i := 1) nd rfl (Or.inl rfl) pe_int)
    (pss_cons (ps_while PassesOwn.never (pt_cmpR op_le (pe_op op_mulO (pv 1) (pv 1)) (pv 0) (nomark _)) (pss_cons (ps_if (pt_cmpR op_eq (pe_op op_modN (pv 0) (pv 1)) pe_int (nomark _)) (pss_one (ps_ret pe_bl)) pss_nil)
      (pss_one (ps_set (i := 1) nd rfl (Or.inl rfl) (pe_op op_add (pv 1) pe_int)))))
    (pss_one (ps_ret (pe_cmpR op_gt (pv 0) pe_int (nomark _)))))), ?_⟩
  refine ⟨fun m σ H' => ∃ t : Int, m = (n + 2 - t).toNat ∧ σ = [some (.int n), some (.int t)] ∧ H' = H ∧ 2 ≤ t ∧ (t ≤ 2 ∨ t ≤ n) ∧ M2.No n t, ⟨_, 2, rfl, rfl, rfl, by omega, by omega, M2.No.two⟩, ?_⟩
  rintro m σ H' ⟨t, rfl, rfl, rfl, h3, hle, no⟩
  have tf : t.natAbs ≤ 10 ^ 150 := Nat.le_trans (show t.natAbs ≤ 1000002 by omega) (by decide)
  refine ⟨_, rfl, _, rfl, _, _, rfl, rfl, (mul_fit tf tf), _, rfl, _, _, rfl, rfl, _, rfl, ?_⟩
  refine if_dec (fun hl => ⟨_, fun _ _ h => h, ?_⟩) (fun hl => ?_)
  · refine ⟨_, rfl, _, rfl, _, _, rfl, rfl, (show t ≠ 0 by omega), rfl, _, rfl, ?_⟩
    have lt := M2.le_of_sq (by omega) hl
    refine if_eqI (fun z => kf (M2.found (by omega) hl ((M2.fmod_dvd (by omega)).mp z))) (fun z => ?_)
    refine ⟨_, rfl, _, _, rfl, rfl, ?_⟩
    exact ⟨_, by omega, t + 1, rfl, rfl, rfl, by omega, by omega, no.one fun d => z ((M2.fmod_dvd (by omega)).mpr d)⟩
  · refine ⟨_, rfl, _, _, rfl, rfl, ?_⟩
    show Q (V.bl (decide (1 < n))) _
    by_cases h2 : 1 < n
    · rw [decide_eq_true h2]; exact kt (no.done (by omega) (by omega) hl)
    · rw [decide_eq_false h2]; exact kf fun p => by have := p.1; omega
end

def sp_less_times (K : PySem.W.Frag) : Sp := fun vs H Q _ => ∃ (p r : Addr) (q a0 a1 a2 b0 b1 b2 : Int), vs = [.ref p, .int q, .ref r] ∧ SqT K H p [.int a0, .int a1, .int a2] ∧ SqT K H r [.int b0, .int b1, .int b2] ∧
  IntMulOk q b0 ∧ IntMulOk q b1 ∧ IntMulOk q b2 ∧ ∀ t, H t = none → Q (.ref t) (upd H t (.tup [.int (a0 - q * b0), .int (a1 - q * b1), .int (a2 - q * b2)]))
section
variable {P : Program} {w : World} {K : PySem.W.Frag} {mg : Str → Option Value} {base : Heap}
theorem sc_less_times : FnScope ["some", "factor", "others"] ["some", "factor", "others"] (defScope s_less_times) := ⟨rfl, rfl, rfl, by decide +kernel, rfl, by decide +kernel, by decide +kernel⟩
theorem ok_less_times (h : Here K mg "less_times" s_less_times) : Has P w K mg base "less_times" 1 ["some", "factor", "others"] (sp_less_times K) := by
  refine h.has (fun f fd F => F.binds fun _ _ _ _ _ _ us hl => by obtain ⟨_, _, _, rfl⟩ := len3 hl; exact rfl) fun f fd F => F.ok sc_less_times (fun vs H Q E h => ?_) (fun cdv A outer s H vs Q E hr h => ?_)
  · obtain ⟨_, _, _, _, _, _, _, _, _, rfl, _⟩ := h
    rfl
  obtain ⟨p, r, q, a0, a1, a2, b0, b1, b2, rfl, hp, hq, m0, m1, m2, k⟩ := h
  refine ⟨_, (pss_one (ps_ret (pe_tup (pa_cons (pe_op op_sub (pe_ix ix_tup (pv 0) pe_int (fun _ _ => rfl)) (pe_op op_mulO (pv 1) (pe_ix ix_tup (pv 2) pe_int (fun _ _ => rfl)))) (pa_cons (pe_op op_sub (pe_ix ix_tup (pv 0) pe_int (fun _ _ => rfl)) (pe_op op_mulO (pv 1) (pe_ix ix_tup (pv 2) pe_int (fun _ _ => rfl)))) (pa_cons (pe_op op_sub (pe_ix ix_tup (pv 0) pe_int (fun _ _ => rfl)) (pe_op op_mulO (pv 1) (pe_ix ix_tup (pv 2) pe_int (fun _ _ => rfl)))) pa_nil)))))), ?_⟩
  refine ⟨_, rfl, _, _, _, _, rfl, rfl, hp, rfl, _, rfl, _, rfl, _, _, _, _, rfl, rfl, hq, rfl, _, _, rfl, rfl, m0, _, _, rfl, rfl, ?_⟩
  refine ⟨_, rfl, _, _, _, _, rfl, rfl, hp, rfl, _, rfl, _, rfl, _, _, _, _, rfl, rfl, hq, rfl, _, _, rfl, rfl, m1, _, _, rfl, rfl, ?_⟩
  refine ⟨_, rfl, _, _, _, _, rfl, rfl, hp, rfl, _, rfl, _, rfl, _, _, _, _, rfl, rfl, hq, rfl, _, _, rfl, rfl, m2, _, _, rfl, rfl, ?_⟩
  exact ⟨(by show 3 ≤ sizeLine; decide), k⟩
end

def sp_shares : Sp := fun vs H Q _ => ∃ x y : Int, vs = [.int x, .int y] ∧ x.natAbs ≤ 10 ^ 100 ∧ y.natAbs ≤ 10 ^ 100 ∧
  ∀ (t : Addr) (H' : Hp) (u v : Int), Same H H' → H' t = some (.tup [.int (Int.gcd x y), .int u, .int v]) → (Int.gcd x y : Int) = x * u + y * v → u.natAbs ≤ 10 ^ 101 → v.natAbs ≤ 10 ^ 101 → Q (.ref t) H'
section
variable {P : Program} {w : World} {K : PySem.W.Frag} {mg : Str → Option Value} {base : Heap}
theorem sc_shares : FnScope ["one", "other", "upper", "lower", "following"] ["one", "other"] (defScope s_shares) := ⟨rfl, rfl, rfl, by decide +kernel, rfl, by decide +kernel, by decide +kernel⟩
theorem ok_shares (h : Here K mg "shares" s_shares) (h_less_times : Has P w K mg base "less_times" 1 ["some", "factor", "others"] (sp_less_times K)) : Has P w K mg base "shares" 2 ["one", "other"] sp_shares := by
  refine h.has (fun f fd F => F.binds fun _ _ _ _ _ _ us hl => by obtain ⟨_, _, rfl⟩ := len2 hl; exact rfl) fun f fd F => F.ok sc_shares (fun vs H Q E h => ?_) (fun cdv A outer s H vs Q E hr h => ?_)
  · obtain ⟨_, _, rfl, _⟩ := h
    rfl
  obtain ⟨x, y, rfl, bx, bY, k⟩ := h
  have nd := sc_shares.nd
  refine ⟨_, (pss_cons (ps_set (i := 2) nd rfl (Or.inl rfl) (pe_tup (pa_cons (pv 0) (pa_cons pe_int (pa_cons pe_int pa_nil)))))
    (pss_cons (ps_set (i := 3) nd rfl (Or.inl rfl) (pe_tup (pa_cons (pv 1) (pa_cons pe_int (pa_cons pe_int pa_nil)))))
    (pss_cons (ps_while PassesOwn.never (pt_cmpR op_ne (pe_ix ix_tup (pv 3) pe_int (fun _ _ => rfl)) pe_int (nomark _)) (pss_cons (ps_set (i := 4) nd rfl (Or.inl rfl) (pe_has h_less_times hr (by rfl) (pa_cons (pv 2) (pa_cons (pe_op op_fdivO (pe_ix ix_tup (pv 2) pe_int (fun _ _ => rfl)) (pe_ix ix_tup (pv 3) pe_int (fun _ _ => rfl))) (pa_cons (pv 3) pa_nil)))))
      (pss_cons (ps_set (i := 2) nd rfl (Or.inl rfl) (pv 3))
      (pss_one (ps_set (i := 3) nd rfl (Or.inl rfl) (pv 4))))))
    (pss_cons (ps_if (pt_cmpR op_lt (pe_ix ix_tup (pv 2) pe_int (fun _ _ => rfl)) pe_int (nomark _)) (pss_one (ps_ret (pe_has h_less_times hr (by rfl) (pa_cons (pe_tup (pa_cons pe_int (pa_cons pe_int (pa_cons pe_int pa_nil)))) (pa_cons pe_int (pa_cons (pv 2) pa_nil)))))) pss_nil)
    (pss_one (ps_ret (pv 2))))))), ?_⟩
  refine ⟨_, rfl, (by show 3 ≤ sizeLine; decide), fun p0 hp0 => ?_⟩
  refine ⟨_, rfl, (by show 3 ≤ sizeLine; decide), fun p1 hp1 => ?_⟩
  have S0 : Same H (upd H p0 (.tup [.int x, .int 1, .int 0])) := same_new hp0 _
  have S1 := S0.trans (same_new hp1 (.tup [.int y, .int 0, .int 1]))
  refine ⟨fun m σ H' => ∃ (p r : Addr) (f : Option V) (a u1 v1 b u2 v2 : Int), m = b.natAbs ∧ σ = [some (.int x), some (.int y), some (.ref p), some (.ref r), f] ∧ Same H H' ∧ H' p = some (.tup [.int a, .int u1, .int v1]) ∧ H' r = some (.tup [.int b, .int u2, .int v2]) ∧ M1.Sh x y a u1 v1 b u2 v2,
    ⟨_, p0, p1, none, x, 1, 0, y, 0, 1, rfl, rfl, S1, by rw [upd_ne (ne_of_none upd_same hp1)]; exact upd_same, upd_same, M1.Sh.start x y⟩, ?_⟩
  rintro m σ H' ⟨p, r, f, a, u1, v1, b, u2, v2, rfl, rfl, S, hp, hr', I⟩
  have bd := I.bound
  have lim : x.natAbs + 2 * y.natAbs + 1 + 1 ≤ 10 ^ 150 := by omega
  have lim0 := Nat.le_of_succ_le lim
  refine ⟨_, rfl, _, _, _, _, rfl, rfl, SqT.of hr', rfl, rfl, _, rfl, ?_⟩
  refine if_neI (fun hb => ⟨_, fun _ _ h => h, ?_⟩) (fun hb => ?_)
  · refine ⟨_, rfl, _, rfl, _, _, _, _, rfl, rfl, SqT.of hp, rfl, _, rfl, _, _, _, _, rfl, rfl, SqT.of hr', rfl, _, _, rfl, rfl, ⟨hb, Nat.le_trans bd.2.2.2.1 lim0⟩, _, rfl, ?_⟩
    have fd := Nat.le_trans (M1.fdiv_small a hb) (Nat.le_trans (Nat.succ_le_succ bd.1) lim)
    refine ⟨p, r, a.fdiv b, a, u1, v1, b, u2, v2, rfl, SqT.of hp, SqT.of hr', mul_fit fd (Nat.le_trans bd.2.2.2.1 lim0), mul_fit fd (Nat.le_trans bd.2.2.2.2.1 lim0), mul_fit fd (Nat.le_trans bd.2.2.2.2.2 lim0), fun t ht => ?_⟩
    refine ⟨_, rfl, _, rfl, ?_⟩
    exact ⟨_, (by rw [M1.rest_eq]; exact M1.fmod_lt a hb), r, t, _, b, u2, v2, _, _, _, rfl, rfl, S.trans (same_new ht _), by rw [upd_ne (ne_of_none hr' ht)]; exact hr', upd_same, I.turn hb⟩
  · subst hb
    obtain ⟨g1, g2⟩ := I.done
    refine ⟨_, rfl, _, _, _, _, rfl, rfl, SqT.of hp, rfl, _, _, rfl, rfl, _, rfl, ?_⟩
    refine if_dec (fun hn => ?_) (fun hn => ?_)
    · refine ⟨(by show 3 ≤ sizeLine; decide), fun z hz => ?_⟩
      refine ⟨_, rfl, ?_⟩
      refine ⟨z, p, 1, 0, 0, 0, a, u1, v1, rfl, SqT.of upd_same, SqT.of (by rw [upd_ne (ne_of_none hp hz)]; exact hp), mul_fit (by decide) (Nat.le_trans bd.1 lim0), mul_fit (by decide) (Nat.le_trans bd.2.1 lim0), mul_fit (by decide) (Nat.le_trans bd.2.2.1 lim0), fun t ht => ?_⟩
      have ed : (0 : Int) - 1 * a = Int.gcd x y := by omega
      refine k t _ (0 - 1 * u1) (0 - 1 * v1) ((S.trans (same_new hz _)).trans (same_new ht _)) (by rw [upd_same, ed]) ?_ (by omega) (by omega)
      rw [← ed, g2, Int.one_mul, Int.one_mul, Int.one_mul, Int.mul_sub, Int.mul_sub]
      omega
    · refine ⟨_, rfl, ?_⟩
      have ed : a = Int.gcd x y := by omega
      refine k p H' u1 v1 S (by rw [← ed]; exact hp) (by rw [← ed]; exact g2) (by omega) (by omega)
end

def ReA (CR : Addr) (p : Int) (H : Hp) (a : Addr) : Prop := ∃ dx, H a = some (.ins CR dx (fsR p))
def sp_Rinit (CR : Addr) : Sp := fun vs H Q _ => ∃ (x dx : Addr) (p : Int), vs = [.ref x, .int p] ∧ H x = some (.ins CR dx []) ∧ M2.Prm p ∧ p < 1000000 ∧ Q .non (upd H x (.ins CR dx (fsR p)))
section
variable {P : Program} {w : World} {K : PySem.W.Frag} {mg : Str → Option Value} {base : Heap}
theorem sc_Rests___init__ : FnScope ["self", "prime"] ["self", "prime"] (defScope s_Rests___init__) := ⟨rfl, rfl, rfl, by decide +kernel, rfl, by decide +kernel, by decide +kernel⟩
theorem ok_Rinit {CR : Addr} (h : HereI K CR "Rests.__init__" s_Rests___init__) (cl : Cls K CR) (nP : NoAttr K CR "prime") (h_is_whole : Has P w K mg base "is_whole" 1 ["thing"] sp_whole) (h_is_prime : Has P w K mg base "is_prime" 1 ["number"] sp_prime) : HasI P w K mg base CR 2 ["self", "prime"] (sp_Rinit CR) := by
  refine h.hasI (fun f fd F => F.binds fun _ _ _ _ _ _ us hl => by obtain ⟨_, _, rfl⟩ := len2 hl; exact rfl) fun f fd F => F.ok sc_Rests___init__ (fun vs H Q E h => ?_) (fun cdv A outer s H vs Q E hr h => ?_)
  · obtain ⟨_, _, _, rfl, _⟩ := h
    rfl
  obtain ⟨x, dx, p, rfl, hx, hp, lp, k⟩ := h
  refine ⟨_, (pss_cons (ps_if (pw_or (pt_not (pt_val (pe_has h_is_whole hr (by rfl) (pa_cons (pv 1) pa_nil)))) (pw_or1 (pt_not (pt_val (pe_has h_is_prime hr (by rfl) (pa_cons (pv 1) pa_nil)))))).pt (pss_one ps_never) pss_nil)
    (pss_one (ps_fld (pv 0) (pv 1) rfl))), ?_⟩
  refine ⟨_, rfl, p, rfl, _, rfl, ?_⟩
  refine iteF ?_
  refine ⟨_, rfl, p, rfl, lp, fun _ => ⟨_, rfl, ?_⟩, fun z => absurd hp z⟩
  refine iteF ?_
  exact ⟨_, rfl, _, rfl, x, CR, dx, _, rfl, hx, cl, nP, (by show 0 < 1000; decide), k⟩
end

/-! the refusals -/
structure CN (K : PySem.W.Frag) (mg : Str → Option Value) (x : Str) (C : Addr) : Prop where
  m : mg x = some (.ref C)
  c : PySem.W.isClsIn K C = true
  t : PySem.W.typeIn K (.ref C) = some (.type "type")
structure Rf (K : PySem.W.Frag) (mg : Str → Option Value) (CE cK cN cF cT cI cX cM cR : Addr) : Prop where
  e : CN K mg "FrameError" CE
  eb : PySem.W.mroIn K CE (.type "BaseException") = some true
  k : CN K mg "NoKind" cK
  n : CN K mg "NoNumber" cN
  f : CN K mg "NoFit" cF
  t : CN K mg "NoTurn" cT
  i : CN K mg "NoInverse" cI
  x : CN K mg "NoText" cX
  m : CN K mg "NoName" cM
  r : CN K mg "NoRow" cR
  ve : mg "ValueError" = none
theorem Rf.cat {K : PySem.W.Frag} {mg : Str → Option Value} {CE cK cN cF cT cI cX cM cR : Addr} (R : Rf K mg CE cK cN cF cT cI cX cM cR) : CatC K mg "FrameError" CE := ⟨R.e.m, R.e.t, R.eb, R.e.c⟩
/-- C stands under none of these -/
def Apart (K : PySem.W.Frag) (C : Addr) : List Addr → Prop
  | [] => True
  | D :: r => (PySem.W.mroIn K C (.ref D) = some false ∧ C ≠ D) ∧ Apart K C r
/-- the class that is raised: under FrameError and ValueError, under none of os -/
structure Rz (K : PySem.W.Frag) (mg : Str → Option Value) (x : Str) (CE C : Addr) (os : List Addr) : Prop where
  c : ExcC K mg x C
  e : PySem.W.mroIn K C (.ref CE) = some true
  v : PySem.W.mroIn K C (.type "ValueError") = some true
  o : Apart K C os
theorem CN.no {K : PySem.W.Frag} {mg : Str → Option Value} {x : Str} {C D : Addr} (n : CN K mg x D) (h : PySem.W.mroIn K C (.ref D) = some false ∧ C ≠ D) : PySem.W.kitOne K (.ref C) (.ref D) = some false := kit_ref n.c n.t h.1 h.2

/-! tables: lists of rows -/
def rowV (m : Nat) (g : Nat → V) : List V := (List.range m).map g
theorem map_ref_get {rs : List Addr} {i : Nat} {x : V} (h : (rs.map V.ref)[i]? = some x) : ∃ r, rs[i]? = some r ∧ x = .ref r := by
  rw [List.getElem?_map] at h
  cases e : rs[i]? with
  | none => rw [e] at h; cases h
  | some r => rw [e] at h; exact ⟨r, rfl, (Option.some.inj h).symm⟩
theorem ref_at {rs : List Addr} {i : Nat} {r : Addr} (h : rs[i]? = some r) : atI (rs.map V.ref) (i : Int) = some (.ref r) := atI_nat (by rw [List.getElem?_map, h]; rfl)
/-- the rows at rs: row i holds g i 0, .. -/
def Rows (H : Hp) (rs : List Addr) (m : Nat) (g : Nat → Nat → V) : Prop := ∀ (i : Nat) (r : Addr), rs[i]? = some r → H r = some (.lst (rowV m (g i)))
structure Tb (H : Hp) (t : Addr) (rs : List Addr) (m : Nat) (g : Nat → Nat → V) : Prop where
  l : H t = some (.lst (rs.map V.ref))
  r : Rows H rs m g
/-- none of these was there -/
structure New (H : Hp) (rs : List Addr) : Prop where
  nd : rs.Nodup
  no : ∀ r ∈ rs, H r = none
theorem New.nil {H : Hp} : New H [] := ⟨List.nodup_nil, fun _ h => nomatch h⟩
theorem New.snoc {H : Hp} {rs : List Addr} {r : Addr} (h : New H rs) (n : H r = none) (hr : r ∉ rs) : New H (rs ++ [r]) :=
  ⟨by rw [List.nodup_append]; exact ⟨h.nd, by simp, fun a ha b hb => by rw [List.mem_singleton] at hb; subst hb; exact fun z => hr (z ▸ ha)⟩, fun x hx => by
    rcases List.mem_append.mp hx with hx | hx
    · exact h.no x hx
    · rw [List.mem_singleton.mp hx]; exact n⟩
theorem Rows.same {H H' : Hp} {rs : List Addr} {m : Nat} {g : Nat → Nat → V} (h : Rows H rs m g) (S : Same H H') : Rows H' rs m g := fun i r e => S _ _ (h i r e)
theorem Tb.same {H H' : Hp} {t : Addr} {rs : List Addr} {m : Nat} {g : Nat → Nat → V} (h : Tb H t rs m g) (S : Same H H') : Tb H' t rs m g := ⟨S _ _ h.l, h.r.same S⟩
theorem Rows.snoc {H : Hp} {rs : List Addr} {r : Addr} {m : Nat} {g : Nat → Nat → V} (h : Rows H rs m g) (e : H r = some (.lst (rowV m (g rs.length)))) : Rows H (rs ++ [r]) m g := fun i x hx => by
  rw [List.getElem?_append] at hx
  split at hx
  · exact h i x hx
  · rename_i hi
    have : i - rs.length = 0 := by
      cases q : i - rs.length with
      | zero => rfl
      | succ n => rw [q] at hx; simp at hx
    have hi2 : i = rs.length := by omega
    subst hi2
    simp at hx
    subst hx
    exact e
theorem Rows.notin {H : Hp} {rs : List Addr} {r : Addr} {m : Nat} {g : Nat → Nat → V} (h : Rows H rs m g) (n : H r = none) : r ∉ rs := fun z => by
  obtain ⟨i, hi, e⟩ := List.getElem_of_mem z
  have := h i r (by rw [← e]; simp [hi])
  rw [this] at n
  cases n
theorem nodup_inj {l : List Addr} (h : l.Nodup) {i j : Nat} {a : Addr} (hi : l[i]? = some a) (hj : l[j]? = some a) : i = j := by
  obtain ⟨l1, e1⟩ := List.getElem?_eq_some_iff.mp hi
  obtain ⟨l2, e2⟩ := List.getElem?_eq_some_iff.mp hj
  have p := List.pairwise_iff_getElem.mp h
  rcases Nat.lt_trichotomy i j with c | c | c
  · exact absurd (e1.trans e2.symm) (p i j l1 l2 c)
  · exact c
  · exact absurd (e2.trans e1.symm) (p j i l2 l1 c)
theorem New.out {H : Hp} {rs : List Addr} {a : Addr} {o : HO} (h : New H rs) (q : H a = some o) : a ∉ rs := fun m => by rw [h.no a m] at q; cases q
theorem ixN_nat {n i : Nat} (h : i < n) : ixN n ((i : Nat) : Int) = some i := by
  have := atI_nat (xs := List.range n) (j := i) (v := i) (by simp [h])
  unfold atI at this
  rw [List.length_range] at this
  cases q : ixN n (i : Int) with
  | none => rw [q] at this; cases this
  | some j =>
    rw [q] at this
    simp only [Option.bind_some] at this
    have h2 := (List.getElem?_eq_some_iff.mp this).2
    simp at h2
    rw [h2]
/-- the kind at k is that of p: 0 fractions, else rests by p -/
def KdA (CF CR : Addr) (p : Int) (H : Hp) (k : Addr) : Prop := (p = 0 ∧ FrA CF H k) ∨ (M2.Prm p ∧ p < 1000000 ∧ ReA CR p H k)
theorem KdA.same {CF CR : Addr} {p : Int} {H H' : Hp} {k : Addr} (h : KdA CF CR p H k) (S : Same H H') : KdA CF CR p H' k := by
  rcases h with ⟨e, dx, h⟩ | ⟨e, l, dx, h⟩
  · exact .inl ⟨e, dx, S _ _ h⟩
  · exact .inr ⟨e, l, dx, S _ _ h⟩
/-- v is the number e, in its one form -/
def Ez (H : Hp) (p e : Int) (v : V) : Prop := (p = 0 ∧ ∃ t, v = .ref t ∧ H t = some (.tup [.int e, .int 1])) ∨ (0 < p ∧ v = .int e)
theorem Ez.same {H H' : Hp} {p e : Int} {v : V} (h : Ez H p e v) (S : Same H H') : Ez H' p e v := by
  rcases h with ⟨z, t, rfl, h⟩ | h
  · exact .inl ⟨z, t, rfl, S _ _ h⟩
  · exact .inr h

theorem int_at {ns : List Int} {i : Nat} (h : i < ns.length) : atI (ns.map V.int) (i : Int) = some (.int ns[i]) := atI_nat (by rw [List.getElem?_map, List.getElem?_eq_getElem h] <;> rfl)
/-- 0, or a prime below a million -/
def PK (p : Int) : Prop := p = 0 ∨ (M2.Prm p ∧ p < 1000000)
theorem PK.ge {p : Int} (h : PK p) : 0 ≤ p := by
  rcases h with rfl | ⟨h, _⟩
  · exact Int.le_refl _
  · have := h.1; omega
/-- a number of the kind of p, drawn: at most sixty figures -/
def Nu (H : Hp) (p : Int) (v : V) : Prop := (p = 0 ∧ ∃ t a b, v = .ref t ∧ H t = some (.tup [.int a, .int b]) ∧ Fc a b ∧ a.natAbs ≤ 10 ^ 60 ∧ b.natAbs ≤ 10 ^ 60) ∨ (0 < p ∧ ∃ x, v = .int x ∧ 0 ≤ x ∧ x < p)
theorem Nu.same {H H' : Hp} {p : Int} {v : V} (h : Nu H p v) (S : Same H H') : Nu H' p v := by
  rcases h with ⟨z, t, a, b, rfl, h, r⟩ | h
  · exact .inl ⟨z, t, a, b, rfl, S _ _ h, r⟩
  · exact .inr h
theorem pickP (c : Int) : ∃ m : Int, atI [V.int 11, V.int 11, V.int 999982] (c % 3) = some (.int m) ∧ 11 ≤ m ∧ m ≤ 999982 := by
  rcases (by omega : c % 3 = 0 ∨ c % 3 = 1 ∨ c % 3 = 2) with e | e | e <;> rw [e]
  · exact ⟨11, rfl, by decide, by decide⟩
  · exact ⟨11, rfl, by decide, by decide⟩
  · exact ⟨999982, rfl, by decide, by decide⟩
/-- the cells -/
structure Ce (H : Hp) (c : Addr) (cs : List Int) : Prop where
  l : H c = some (.lst (cs.map V.int))
  h1 : 1 ≤ cs.length
  h2 : cs.length ≤ 66
  b : ∀ i ∈ cs, Bits 1048576 i
theorem Ce.same {H H' : Hp} {c : Addr} {cs : List Int} (h : Ce H c cs) (S : Same H H') : Ce H' c cs := ⟨S _ _ h.l, h.h1, h.h2, h.b⟩
/-- same but for these -/
def Off (D : List Addr) (H H' : Hp) : Prop := ∀ a o, a ∉ D → H a = some o → H' a = some o
theorem Off.same {D : List Addr} {H0 H H' : Hp} (O : Off D H H') (S : Same H0 H) (n : ∀ r ∈ D, H0 r = none) : Same H0 H' := fun b o q => O b o (fun m => by rw [n b m] at q; cases q) (S _ _ q)
/-- the same number, in its one form -/
def NuEq (H : Hp) (p : Int) (x y : V) : Prop := (0 < p ∧ ∃ i, x = .int i ∧ y = .int i) ∨ (p = 0 ∧ ∃ s t a b, x = .ref s ∧ y = .ref t ∧ H s = some (.tup [.int a, .int b]) ∧ H t = some (.tup [.int a, .int b]))
theorem NuEq.same {H H' : Hp} {p : Int} {x y : V} (h : NuEq H p x y) (S : Same H H') : NuEq H' p x y := by
  rcases h with h | ⟨z, s, t, a, b, e1, e2, h1, h2⟩
  · exact .inl h
  · exact .inr ⟨z, s, t, a, b, e1, e2, S _ _ h1, S _ _ h2⟩
theorem Nu.eq {H : Hp} {p : Int} {x : V} (h : Nu H p x) : NuEq H p x x := by
  rcases h with ⟨z, t, a, b, e, h, _⟩ | ⟨z, i, e, _⟩
  · exact .inr ⟨z, t, t, a, b, e, e, h, h⟩
  · exact .inl ⟨z, i, e, e⟩
theorem Ez.eq {H : Hp} {p e : Int} {x y : V} (h : Ez H p e x) (h' : Ez H p e y) : NuEq H p x y := by
  rcases h with ⟨z, t, e1, h1⟩ | ⟨z, e1⟩
  · rcases h' with ⟨_, t', e2, h2⟩ | ⟨z', _⟩
    · exact .inr ⟨z, t, t', _, _, e1, e2, h1, h2⟩
    · omega
  · rcases h' with ⟨z', _⟩ | ⟨_, e2⟩
    · omega
    · exact .inl ⟨z, _, e1, e2⟩
theorem Nu.kind {H : Hp} {p : Int} {x : V} (h : Nu H p x) : (∃ i, x = .int i) ∨ ∃ a, x = .ref a := by
  rcases h with ⟨_, t, _, _, e, _⟩ | ⟨_, i, e, _⟩
  · exact .inr ⟨t, e⟩
  · exact .inl ⟨i, e⟩
end My

namespace My
open PySem L2 PyProof.Rows
/-- a field -/
class Fd (α : Type) extends Lean.Grind.CommRing α where
  inv : α → α
  mul_inv : ∀ a : α, a ≠ 0 → a * inv a = 1
  zne : (0 : α) ≠ 1
instance : Fd Rat where
  inv := Rat.inv
  mul_inv := fun a h => Rat.mul_inv_cancel a h
  zne := by decide
theorem bez : ∀ a b : Nat, ∃ u v : Int, a * u + b * v = (Nat.gcd a b : Int) := by
  intro a b
  induction a, b using Nat.gcd.induction with
  | H0 n => exact ⟨0, 1, by simp⟩
  | H1 m n hm ih =>
    obtain ⟨u, v, e⟩ := ih
    refine ⟨v - (n / m : Nat) * u, u, ?_⟩
    rw [Nat.gcd_rec, ← e]
    have h : (n : Int) = m * (n / m : Nat) + (n % m : Nat) := by
      have := Nat.div_add_mod n m
      exact_mod_cast this.symm
    rw [Int.mul_sub]
    conv => lhs; rw [h]
    rw [Int.add_mul]
    generalize ((n / m : Nat) : Int) = q
    generalize ((n % m : Nat) : Int) = r
    have e1 : (m : Int) * (q * u) = m * q * u := by rw [Int.mul_assoc]
    omega
/-- a prime below a million -/
structure PrN (p : Nat) : Prop where
  pr : M2.Prm (p : Int)
  lt : p < 1000000
theorem PrN.two {p : Nat} (h : PrN p) : 2 ≤ p := by have := h.pr.1; omega
theorem PrN.nz {p : Nat} (h : PrN p) : NeZero p := ⟨by have := h.two; omega⟩
theorem fin_inv {p : Nat} (h : PrN p) : letI := h.nz; ∀ a : Fin p, a ≠ 0 → ∃ b : Fin p, a * b = 1 := by
  letI := h.nz
  intro a ha
  have h2 := h.two
  have nd : ¬ (p : Int) ∣ (a.val : Int) := by
    rintro ⟨k, hk⟩
    have hv : a.val ≠ 0 := fun z => ha (Fin.ext (by simpa using z))
    have hl := a.isLt
    have hk0 : 0 < k := by
      rcases Int.lt_or_le 0 k with c | c
      · exact c
      · have : (p : Int) * k ≤ 0 := Int.mul_nonpos_of_nonneg_of_nonpos (by omega) c
        omega
    have : (p : Int) * 1 ≤ p * k := Int.mul_le_mul_of_nonneg_left (by omega) (by omega)
    omega
  have g := M2.prm_gcd h.pr nd
  obtain ⟨u, v, e⟩ := bez a.val p
  have g' : Nat.gcd a.val p = 1 := by
    have : Int.gcd (a.val : Int) (p : Int) = Nat.gcd a.val p := rfl
    omega
  rw [g'] at e
  refine ⟨⟨(u % p).toNat, ?_⟩, ?_⟩
  · have := Int.emod_lt_of_pos u (show 0 < (p : Int) by omega)
    have := Int.emod_nonneg u (show (p : Int) ≠ 0 by omega)
    omega
  · refine Fin.ext ?_
    rw [Fin.val_mul]
    have e0 := Int.emod_nonneg u (show (p : Int) ≠ 0 by omega)
    have e1 : ((a.val * (u % p).toNat % p : Nat) : Int) = ((1 : Nat) : Int) := by
      rw [Int.natCast_emod, Int.natCast_mul, Int.toNat_of_nonneg e0, Int.mul_emod, Int.emod_emod_of_dvd _ (Int.dvd_refl _), ← Int.mul_emod]
      have : (a.val : Int) * u = 1 - p * v := by omega
      rw [this, Int.sub_emod, Int.mul_emod_right]
      simp
      exact Int.emod_eq_of_lt (by omega) (by omega)
    have e2 : a.val * (u % p).toNat % p = 1 := by exact_mod_cast e1
    have e3 : (1 : Fin p).val = 1 := by
      show 1 % p = 1
      exact Nat.mod_eq_of_lt h2
    rw [e3]
    exact e2
@[reducible] noncomputable def finFd {p : Nat} (h : PrN p) : Fd (Fin p) :=
  letI := h.nz
  { (inferInstance : Lean.Grind.CommRing (Fin p)) with
    inv := fun a => if ha : a ≠ 0 then Classical.choose (fin_inv h a ha) else 0
    mul_inv := fun a ha => by
      simp only [dif_pos ha]
      exact Classical.choose_spec (fin_inv h a ha)
    zne := fun z => by
      have := congrArg Fin.val z
      have h2 := h.two
      have e3 : (1 : Fin p).val = 1 := by
        show 1 % p = 1
        exact Nat.mod_eq_of_lt h2
      have e4 : (0 : Fin p).val = 0 := by simp
      rw [e3, e4] at this
      cases this }
/-- the kinds -/
inductive KX where
  | q
  | r (p : Nat) (h : PrN p)
@[reducible] def KX.F : KX → Type
  | .q => Rat
  | .r p _ => Fin p
noncomputable instance (κ : KX) : Fd κ.F := match κ with
  | .q => inferInstanceAs (Fd Rat)
  | .r _ h => finFd h
def KX.P : KX → Int
  | .q => 0
  | .r p _ => p
/-- a number as a tree -/
def KX.D : (κ : KX) → κ.F → PyData
  | .q, x => .tuple [.int x.num, .int x.den]
  | .r _ _, x => .int x.val
/-- v is the number x -/
def NR (κ : KX) (H : Hp) (v : V) (x : κ.F) : Prop := match κ with
  | .q => ∃ a, v = .ref a ∧ H a = some (.tup [.int x.num, .int x.den])
  | .r _ _ => v = .int x.val
theorem NR.same {κ : KX} {H H' : Hp} {v : V} {x : κ.F} (h : NR κ H v x) (S : Same H H') : NR κ H' v x := by
  cases κ with
  | q => obtain ⟨a, e, h⟩ := h; exact ⟨a, e, S _ _ h⟩
  | r p hp => exact h
theorem NR.off {κ : KX} {H H' : Hp} {t : Addr} {ys : List V} {v : V} {x : κ.F} (h : NR κ H v x) (ht : H t = some (.lst ys)) (O : Off [t] H H') : NR κ H' v x := by
  cases κ with
  | q =>
    obtain ⟨a, e, h⟩ := h
    refine ⟨a, e, O _ _ (fun m => ?_) h⟩
    rw [List.mem_singleton.mp m, ht] at h
    cases h
  | r p hp => exact h
theorem fl_int' {H : Hp} {i : Int} : Fl H (.int i) (.int i) := .inr (.inr (.inl ⟨i, rfl, rfl⟩))
theorem NR.rp {κ : KX} {H : Hp} {v : V} {x : κ.F} (h : NR κ H v x) : Rp H 1 v (κ.D x) := by
  cases κ with
  | q =>
    obtain ⟨a, rfl, h⟩ := h
    exact rp_tup h (.cons fl_int' (.cons fl_int' .nil))
  | r p hp =>
    have h : v = .int x.val := h
    subst h
    exact .inl fl_int'
/-- its size: what the sums and products of the model take -/
def Bd (κ : KX) (n m : Nat) (x : κ.F) : Prop := match κ with
  | .q => Bits n x.num ∧ Bits m (x.den : Int)
  | .r _ _ => True
theorem rat_of {n d N D : Int} (fc : Fc n d) (hD : 0 < D) (e : n * D = N * d) : (Rat.divInt N D).num = n ∧ ((Rat.divInt N D).den : Int) = d := by
  have hd := fc.pos
  have q0 : ∃ q : Rat, q.num = n ∧ (q.den : Int) = d := by
    refine ⟨⟨n, d.toNat, by omega, ?_⟩, rfl, by show ((d.toNat : Nat) : Int) = d; omega⟩
    have := fc.cop
    rw [Nat.coprime_iff_gcd_eq_one]
    have e : Int.gcd n d = Nat.gcd n.natAbs d.natAbs := rfl
    have e2 : d.natAbs = d.toNat := by omega
    rw [← e2]
    omega
  obtain ⟨q, e1, e2⟩ := q0
  have : Rat.divInt N D = q := by
    rw [← Rat.num_divInt_den q, e1, e2, Rat.divInt_eq_divInt_iff (by omega) (by omega)]
    exact e.symm
  rw [this]
  exact ⟨e1, e2⟩
theorem rat_fc (x : Rat) : Fc x.num x.den := ⟨by have := x.den_nz; omega, by
  have := x.reduced
  rw [Nat.coprime_iff_gcd_eq_one] at this
  exact this⟩
theorem rat_add {x y : Rat} {n d : Int} (fc : Fc n d) (e : n * ((x.den : Int) * y.den) = (x.num * y.den + y.num * x.den) * d) : (x + y).num = n ∧ ((x + y).den : Int) = d := by
  have hx := (rat_fc x).pos
  have hy := (rat_fc y).pos
  have : x + y = Rat.divInt (x.num * y.den + y.num * x.den) ((x.den : Int) * y.den) := by
    rw [← Rat.divInt_add_divInt _ _ (by omega) (by omega), Rat.num_divInt_den, Rat.num_divInt_den]
  rw [this]
  exact rat_of fc (Int.mul_pos hx hy) e
theorem rat_mul {x y : Rat} {n d : Int} (fc : Fc n d) (e : n * ((x.den : Int) * y.den) = (x.num * y.num) * d) : (x * y).num = n ∧ ((x * y).den : Int) = d := by
  have hx := (rat_fc x).pos
  have hy := (rat_fc y).pos
  have : x * y = Rat.divInt (x.num * y.num) ((x.den : Int) * y.den) := by
    rw [← Rat.divInt_mul_divInt, Rat.num_divInt_den, Rat.num_divInt_den]
  rw [this]
  exact rat_of fc (Int.mul_pos hx hy) e
end My

namespace My
open PySem L2 PyProof.Rows

def sp_FplusG (K : PySem.W.Frag) (CF : Addr) : Sp := fun vs H Q _ => ∃ (s p q : Addr) (a1 b1 a2 b2 : Int), vs = [.ref s, .ref p, .ref q] ∧ FrA CF H s ∧ SqT K H p [.int a1, .int b1] ∧ SqT K H q [.int a2, .int b2] ∧ Fc a1 b1 ∧ Fc a2 b2 ∧
  Bits 1000000 a1 ∧ Bits 4000 b1 ∧ Bits 1000000 a2 ∧ Bits 4000 b2 ∧
  ∀ (t : Addr) (H' : Hp) (x y : Int), Same H H' → H' t = some (.tup [.int x, .int y]) → H t = none → Fc x y → x * (b1 * b2) = (a1 * b2 + a2 * b1) * y → Q (.ref t) H'
section
variable {P : Program} {w : World} {K : PySem.W.Frag} {mg : Str → Option Value} {base : Heap}
theorem sc_Fractions_plusG : FnScope ["self", "one", "other", "common", "ahead", "top", "left"] ["self", "one", "other"] (defScope s_Fractions_plus) := ⟨rfl, rfl, rfl, by decide +kernel, rfl, by decide +kernel, by decide +kernel⟩
theorem ok_FplusG {CF : Addr} (h : HereM K CF "plus" "Fractions.plus" s_Fractions_plus) (h_divisor : Has P w K mg base "divisor" 1 ["one", "other"] sp_divisor) : HasM P w K mg base CF "plus" 2 ["self", "one", "other"] [] (sp_FplusG K CF) := by
  refine h.hasM (fun f fd F => F.binds fun _ _ _ _ _ _ us hl => by obtain ⟨_, _, _, rfl⟩ := len3 hl; exact rfl) fun f fd F => F.ok sc_Fractions_plusG (fun vs H Q E h => ?_) (fun cdv A outer s H vs Q E hr h => ?_)
  · obtain ⟨_, _, _, _, _, _, _, rfl, _⟩ := h
    rfl
  obtain ⟨sf, p, q, a1, b1, a2, b2, rfl, _, hp, hq, f1, f2, la1, lb1, la2, lb2, k⟩ := h
  have nd := sc_Fractions_plusG.nd
  refine ⟨_, (pss_cons (ps_set (i := 3) nd rfl (Or.inl rfl) (pe_has h_divisor hr (by rfl) (pa_cons (pe_ix ix_tup (pv 1) pe_int (fun _ _ => rfl)) (pa_cons (pe_ix ix_tup (pv 2) pe_int (fun _ _ => rfl)) pa_nil))))
    (pss_cons (ps_set (i := 4) nd rfl (Or.inl rfl) (pe_op op_fdivG (pe_ix ix_tup (pv 1) pe_int (fun _ _ => rfl)) (pv 3)))
    (pss_cons (ps_set (i := 5) nd rfl (Or.inl rfl) (pe_op op_add (pe_op op_mulO (pe_ix ix_tup (pv 1) pe_int (fun _ _ => rfl)) (pe_op op_fdivG (pe_ix ix_tup (pv 2) pe_int (fun _ _ => rfl)) (pv 3))) (pe_op op_mulO (pe_ix ix_tup (pv 2) pe_int (fun _ _ => rfl)) (pv 4))))
    (pss_cons (ps_set (i := 6) nd rfl (Or.inl rfl) (pe_has h_divisor hr (by rfl) (pa_cons (pv 5) (pa_cons (pv 3) pa_nil))))
    (pss_one (ps_ret (pe_tup (pa_cons (pe_op op_fdivG (pv 5) (pv 6)) (pa_cons (pe_op op_mulO (pv 4) (pe_op op_fdivG (pe_ix ix_tup (pv 2) pe_int (fun _ _ => rfl)) (pv 6))) pa_nil))))))))), ?_⟩
  have hb1 := f1.pos
  have hb2 := f2.pos
  have hg := M3.gcd_ne (a := b1) (b := b2) (by omega)
  have gl : Int.gcd b1 b2 ≤ b2.natAbs := Nat.le_of_dvd (by omega) (Int.natAbs_dvd_natAbs.mpr (Int.gcd_dvd_right b1 b2))
  have hg1 : (Int.gcd b1 b2 : Int) ≠ 0 ∧ Bits 4000 (Int.gcd b1 b2 : Int) := ⟨by omega, lb2.le (by rw [Int.natAbs_natCast]; exact gl)⟩
  have d1 := M3.fdiv_le (Int.gcd_dvd_left b1 b2) hg1.1
  have d2 := M3.fdiv_le (Int.gcd_dvd_right b1 b2) hg1.1
  refine ⟨_, rfl, _, _, _, _, rfl, rfl, hp, rfl, _, rfl, _, _, _, _, rfl, rfl, hq, rfl, b1, b2, rfl, ?_⟩
  refine ⟨_, rfl, _, _, _, _, rfl, rfl, hp, rfl, _, rfl, _, _, rfl, rfl, hg1, ?_⟩
  refine ⟨_, rfl, _, _, _, _, rfl, rfl, hp, rfl, _, rfl, _, _, _, _, rfl, rfl, hq, rfl, _, rfl, _, _, rfl, rfl, hg1, _, _, rfl, rfl, la1.mulG (lb2.le d2), _, rfl, _, _, _, _, rfl, rfl, hq, rfl, _, rfl, _, _, rfl, rfl, la2.mulG (lb1.le d1), _, _, rfl, rfl, ?_⟩
  refine ⟨_, rfl, _, rfl, _, _, rfl, ?_⟩
  obtain ⟨o1, o2, o3, o4⟩ := M3.plus_ok hb1 hb2 f1.cop f2.cop rfl
  have ll : Int.gcd (a1 * b2.fdiv (Int.gcd b1 b2) + a2 * b1.fdiv (Int.gcd b1 b2)) (Int.gcd b1 b2) ≤ Int.gcd b1 b2 := Nat.le_of_dvd (by omega) (Int.ofNat_dvd.mp (Int.gcd_dvd_right (a1 * b2.fdiv (Int.gcd b1 b2) + a2 * b1.fdiv (Int.gcd b1 b2)) (Int.gcd b1 b2)))
  have hl1 : (Int.gcd (a1 * b2.fdiv (Int.gcd b1 b2) + a2 * b1.fdiv (Int.gcd b1 b2)) (Int.gcd b1 b2) : Int) ≠ 0 ∧ Bits 4000 (Int.gcd (a1 * b2.fdiv (Int.gcd b1 b2) + a2 * b1.fdiv (Int.gcd b1 b2)) (Int.gcd b1 b2) : Int) := ⟨by have := M3.gcd_ne (a := a1 * b2.fdiv (Int.gcd b1 b2) + a2 * b1.fdiv (Int.gcd b1 b2)) (b := (Int.gcd b1 b2 : Int)) (by omega); omega, lb2.le (by rw [Int.natAbs_natCast]; exact Nat.le_trans ll gl)⟩
  have d3 := M3.fdiv_le (Int.gcd_dvd_left (a1 * b2.fdiv (Int.gcd b1 b2) + a2 * b1.fdiv (Int.gcd b1 b2)) (Int.gcd b1 b2)) hl1.1
  have d4 := M3.fdiv_le (Int.dvd_trans (Int.gcd_dvd_right (a1 * b2.fdiv (Int.gcd b1 b2) + a2 * b1.fdiv (Int.gcd b1 b2)) (Int.gcd b1 b2)) (Int.gcd_dvd_right b1 b2)) hl1.1
  refine ⟨_, rfl, _, rfl, _, _, rfl, rfl, hl1, _, rfl, _, rfl, _, _, _, _, rfl, rfl, hq, rfl, _, rfl, _, _, rfl, rfl, hl1, _, _, rfl, rfl, ((lb1.le d1).up (by decide)).mulG (lb2.le d4), (by show 2 ≤ sizeLine; decide), fun t ht' => ?_⟩
  exact k t _ _ _ (same_new ht' _) upd_same ht' ⟨o2, o3⟩ o4
end

def sp_FtimesG (K : PySem.W.Frag) (CF : Addr) : Sp := fun vs H Q _ => ∃ (s p q : Addr) (a1 b1 a2 b2 : Int), vs = [.ref s, .ref p, .ref q] ∧ FrA CF H s ∧ SqT K H p [.int a1, .int b1] ∧ SqT K H q [.int a2, .int b2] ∧ Fc a1 b1 ∧ Fc a2 b2 ∧
  Bits 1000000 a1 ∧ Bits 4000 b1 ∧ Bits 1000000 a2 ∧ Bits 4000 b2 ∧
  ∀ (t : Addr) (H' : Hp) (x y : Int), Same H H' → H' t = some (.tup [.int x, .int y]) → H t = none → Fc x y → x * (b1 * b2) = (a1 * a2) * y → Q (.ref t) H'
section
variable {P : Program} {w : World} {K : PySem.W.Frag} {mg : Str → Option Value} {base : Heap}
theorem sc_Fractions_timesG : FnScope ["self", "one", "other", "falling", "rising", "top"] ["self", "one", "other"] (defScope s_Fractions_times) := ⟨rfl, rfl, rfl, by decide +kernel, rfl, by decide +kernel, by decide +kernel⟩
theorem ok_FtimesG {CF : Addr} (h : HereM K CF "times" "Fractions.times" s_Fractions_times) (h_divisor : Has P w K mg base "divisor" 1 ["one", "other"] sp_divisor) : HasM P w K mg base CF "times" 2 ["self", "one", "other"] [] (sp_FtimesG K CF) := by
  refine h.hasM (fun f fd F => F.binds fun _ _ _ _ _ _ us hl => by obtain ⟨_, _, _, rfl⟩ := len3 hl; exact rfl) fun f fd F => F.ok sc_Fractions_timesG (fun vs H Q E h => ?_) (fun cdv A outer s H vs Q E hr h => ?_)
  · obtain ⟨_, _, _, _, _, _, _, rfl, _⟩ := h
    rfl
  obtain ⟨sf, p, q, a1, b1, a2, b2, rfl, _, hp, hq, f1, f2, la1, lb1, la2, lb2, k⟩ := h
  have nd := sc_Fractions_timesG.nd
  refine ⟨_, (pss_cons (ps_set (i := 3) nd rfl (Or.inl rfl) (pe_has h_divisor hr (by rfl) (pa_cons (pe_ix ix_tup (pv 1) pe_int (fun _ _ => rfl)) (pa_cons (pe_ix ix_tup (pv 2) pe_int (fun _ _ => rfl)) pa_nil))))
    (pss_cons (ps_set (i := 4) nd rfl (Or.inl rfl) (pe_has h_divisor hr (by rfl) (pa_cons (pe_ix ix_tup (pv 2) pe_int (fun _ _ => rfl)) (pa_cons (pe_ix ix_tup (pv 1) pe_int (fun _ _ => rfl)) pa_nil))))
    (pss_cons (ps_set (i := 5) nd rfl (Or.inl rfl) (pe_op op_mulO (pe_op op_fdivG (pe_ix ix_tup (pv 1) pe_int (fun _ _ => rfl)) (pv 3)) (pe_op op_fdivG (pe_ix ix_tup (pv 2) pe_int (fun _ _ => rfl)) (pv 4))))
    (pss_one (ps_ret (pe_tup (pa_cons (pv 5) (pa_cons (pe_op op_mulO (pe_op op_fdivG (pe_ix ix_tup (pv 1) pe_int (fun _ _ => rfl)) (pv 4)) (pe_op op_fdivG (pe_ix ix_tup (pv 2) pe_int (fun _ _ => rfl)) (pv 3))) pa_nil)))))))), ?_⟩
  have hb1 := f1.pos
  have hb2 := f2.pos
  have hf := M3.gcd_ne (a := a1) (b := b2) (by omega)
  have hg := M3.gcd_ne (a := a2) (b := b1) (by omega)
  have gf : Int.gcd a1 b2 ≤ b2.natAbs := Nat.le_of_dvd (nat_pos hb2) (Int.natAbs_dvd_natAbs.mpr (Int.gcd_dvd_right a1 b2))
  have gg : Int.gcd a2 b1 ≤ b1.natAbs := Nat.le_of_dvd (nat_pos hb1) (Int.natAbs_dvd_natAbs.mpr (Int.gcd_dvd_right a2 b1))
  have hf1 : (Int.gcd a1 b2 : Int) ≠ 0 ∧ Bits 4000 (Int.gcd a1 b2 : Int) := ⟨by omega, lb2.le (by rw [Int.natAbs_natCast]; exact gf)⟩
  have hg1 : (Int.gcd a2 b1 : Int) ≠ 0 ∧ Bits 4000 (Int.gcd a2 b1 : Int) := ⟨by omega, lb1.le (by rw [Int.natAbs_natCast]; exact gg)⟩
  have d1 := M3.fdiv_le (Int.gcd_dvd_left a1 b2) hf1.1
  have d2 := M3.fdiv_le (Int.gcd_dvd_right a1 b2) hf1.1
  have d3 := M3.fdiv_le (Int.gcd_dvd_left a2 b1) hg1.1
  have d4 := M3.fdiv_le (Int.gcd_dvd_right a2 b1) hg1.1
  refine ⟨_, rfl, _, _, _, _, rfl, rfl, hp, rfl, _, rfl, _, _, _, _, rfl, rfl, hq, rfl, a1, b2, rfl, ?_⟩
  refine ⟨_, rfl, _, _, _, _, rfl, rfl, hq, rfl, _, rfl, _, _, _, _, rfl, rfl, hp, rfl, a2, b1, rfl, ?_⟩
  refine ⟨_, rfl, _, _, _, _, rfl, rfl, hp, rfl, _, rfl, _, _, rfl, rfl, hf1, _, rfl, _, _, _, _, rfl, rfl, hq, rfl, _, rfl, _, _, rfl, rfl, hg1, _, _, rfl, rfl, (la1.le d1).mulT (la2.le d3), ?_⟩
  refine ⟨_, rfl, _, rfl, _, _, _, _, rfl, rfl, hp, rfl, _, rfl, _, _, rfl, rfl, hg1, _, rfl, _, _, _, _, rfl, rfl, hq, rfl, _, rfl, _, _, rfl, rfl, hf1, _, _, rfl, rfl, ((lb1.le d4).up (by decide)).mulG (lb2.le d2), (by show 2 ≤ sizeLine; decide), fun t ht' => ?_⟩
  obtain ⟨o2, o3, o4⟩ := M3.times_ok hb1 hb2 f1.cop f2.cop
  exact k t _ _ _ (same_new ht' _) upd_same ht' ⟨o2, o3⟩ o4
end

def sp_Rop (CR : Addr) (g : Int → Int → Int) : Sp := fun vs H Q _ => ∃ (s : Addr) (p a b : Int), vs = [.ref s, .int a, .int b] ∧ ReA CR p H s ∧ 2 ≤ p ∧ a.natAbs ≤ 10 ^ 150 ∧ b.natAbs ≤ 10 ^ 150 ∧ Q (.int (g a b % p)) H

section
variable {P : Program} {w : World} {K : PySem.W.Frag} {mg : Str → Option Value} {base : Heap}
theorem sc_Rests_plus : FnScope ["self", "one", "other"] ["self", "one", "other"] (defScope s_Rests_plus) := ⟨rfl, rfl, rfl, by decide +kernel, rfl, by decide +kernel, by decide +kernel⟩
theorem ok_Rplus {CR : Addr} (h : HereM K CR "plus" "Rests.plus" s_Rests_plus) (cl : Cls K CR) (nP : NoAttr K CR "prime") : HasM P w K mg base CR "plus" 1 ["self", "one", "other"] [] (sp_Rop CR fun a b => a + b) := by
  refine h.hasM (fun f fd F => F.binds fun _ _ _ _ _ _ us hl => by obtain ⟨_, _, _, rfl⟩ := len3 hl; exact rfl) fun f fd F => F.ok sc_Rests_plus (fun vs H Q E h => ?_) (fun cdv A outer s H vs Q E hr h => ?_)
  · obtain ⟨_, _, _, _, rfl, _⟩ := h
    rfl
  obtain ⟨sr, p, a, b, rfl, ⟨dx, hs⟩, h2, la, lb, k⟩ := h
  refine ⟨_, (pss_one (ps_ret (pe_op op_modN (pe_op op_add (pv 1) (pv 2)) (pe_fld (pv 0) rfl)))), ?_⟩
  refine ⟨_, rfl, _, rfl, _, _, rfl, rfl, _, rfl, sr, CR, dx, _, _, rfl, hs, cl, nP, fsR_prime p, _, _, rfl, rfl, (show p ≠ 0 by omega), ?_⟩
  show Q (V.int ((a + b).fmod p)) _
  rw [Int.fmod_eq_emod_of_nonneg _ (by omega)]
  exact k
end

section
variable {P : Program} {w : World} {K : PySem.W.Frag} {mg : Str → Option Value} {base : Heap}
theorem sc_Rests_times : FnScope ["self", "one", "other"] ["self", "one", "other"] (defScope s_Rests_times) := ⟨rfl, rfl, rfl, by decide +kernel, rfl, by decide +kernel, by decide +kernel⟩
theorem ok_Rtimes {CR : Addr} (h : HereM K CR "times" "Rests.times" s_Rests_times) (cl : Cls K CR) (nP : NoAttr K CR "prime") : HasM P w K mg base CR "times" 1 ["self", "one", "other"] [] (sp_Rop CR fun a b => a * b) := by
  refine h.hasM (fun f fd F => F.binds fun _ _ _ _ _ _ us hl => by obtain ⟨_, _, _, rfl⟩ := len3 hl; exact rfl) fun f fd F => F.ok sc_Rests_times (fun vs H Q E h => ?_) (fun cdv A outer s H vs Q E hr h => ?_)
  · obtain ⟨_, _, _, _, rfl, _⟩ := h
    rfl
  obtain ⟨sr, p, a, b, rfl, ⟨dx, hs⟩, h2, la, lb, k⟩ := h
  refine ⟨_, (pss_one (ps_ret (pe_op op_modN (pe_op op_mulO (pv 1) (pv 2)) (pe_fld (pv 0) rfl)))), ?_⟩
  refine ⟨_, rfl, _, rfl, _, _, rfl, rfl, mul_fit la lb, _, rfl, sr, CR, dx, _, _, rfl, hs, cl, nP, fsR_prime p, _, _, rfl, rfl, (show p ≠ 0 by omega), ?_⟩
  show Q (V.int ((a * b).fmod p)) _
  rw [Int.fmod_eq_emod_of_nonneg _ (by omega)]
  exact k
end

theorem F_low {t b : Int} (hb : b ≠ 0) : ∃ c : Int, c = (if b < 0 then -(Int.gcd t b : Int) else (Int.gcd t b : Int)) ∧ c ≠ 0 ∧ c.natAbs ≤ b.natAbs ∧ Fc (t.fdiv c) (b.fdiv c) ∧ t.fdiv c * b = t * b.fdiv c ∧ (t.fdiv c).natAbs ≤ t.natAbs ∧ (b.fdiv c).natAbs ≤ b.natAbs := by
  have hg := M3.gcd_ne (a := t) hb
  have gl : Int.gcd t b ≤ b.natAbs := Nat.le_of_dvd (by omega) (Int.natAbs_dvd_natAbs.mpr (Int.gcd_dvd_right t b))
  by_cases h : b < 0
  · refine ⟨-(Int.gcd t b : Int), by rw [if_pos h], by omega, by omega, ?_⟩
    have e1 : t.fdiv (-(Int.gcd t b : Int)) = (-t).fdiv (Int.gcd t b) := by rw [← Int.neg_fdiv_neg, Int.neg_neg]
    have e2 : b.fdiv (-(Int.gcd t b : Int)) = (-b).fdiv (Int.gcd t b) := by rw [← Int.neg_fdiv_neg, Int.neg_neg]
    have e3 : Int.gcd t b = Int.gcd (-t) (-b) := by rw [Int.neg_gcd, Int.gcd_neg]
    obtain ⟨l1, l2, l3, l4, l5⟩ := M3.low (t := -t) (b := -b) (by omega)
    rw [e1, e2, e3]
    refine ⟨⟨l2, l1⟩, ?_, by omega, by omega⟩
    rw [Int.mul_neg, Int.neg_mul] at l3
    exact Int.neg_inj.mp l3
  · refine ⟨(Int.gcd t b : Int), by rw [if_neg h], by omega, by omega, ?_⟩
    obtain ⟨l1, l2, l3, l4, l5⟩ := M3.low (t := t) (b := b) (by omega)
    exact ⟨⟨l2, l1⟩, l3, l4, l5⟩
def sp_Fnumber (cN : Addr) : Sp := fun vs H Q E => ∃ (s : Addr) (t b : Int), vs = [.ref s, .int t, .int b] ∧ b.natAbs ≤ 10 ^ 150 ∧ (b = 0 → E (.ref cN) none H) ∧
  (b ≠ 0 → ∀ (r : Addr) (x y : Int), H r = none → Fc x y → x * b = t * y → x.natAbs ≤ t.natAbs → y.natAbs ≤ b.natAbs → Q (.ref r) (upd H r (.tup [.int x, .int y])))
section
variable {P : Program} {w : World} {K : PySem.W.Frag} {mg : Str → Option Value} {base : Heap}
theorem sc_Fractions_number : FnScope ["self", "top", "bottom", "common"] ["self", "top", "bottom"] (defScope s_Fractions_number) := ⟨rfl, rfl, rfl, by decide +kernel, rfl, by decide +kernel, by decide +kernel⟩
theorem run_Fnumber {cN : Addr} {f T : Addr} {fd : FuncData} {items : Array Value} (F : FunD K "number" "Fractions.number" s_Fractions_number f fd T items) (c : ExcC K mg "NoNumber" cN) (h_divisor : Has P w K mg base "divisor" 1 ["one", "other"] sp_divisor) : FnOk P w K mg base (CXx P w) 2 f fd ["self", "top", "bottom"] (sp_Fnumber cN) := by
  refine F.okx sc_Fractions_number (fun vs H Q E h => ?_) (fun cdv A outer s H vs Q E hr h => ?_)
  · obtain ⟨_, _, _, rfl, _⟩ := h
    rfl
  obtain ⟨sf, t, b, rfl, lb, k0, k⟩ := h
  have nd := sc_Fractions_number.nd
  refine ⟨_, (pss_cons (ps_if (pt_cmpR op_eq (pv 2) pe_int (nomark _)) (pss_one (ps_raise c raiseE rfl (by rfl) (pa_cons pe_str pa_nil))) pss_nil)
    (pss_cons (ps_set (i := 3) nd rfl (Or.inl rfl) (pe_has h_divisor hr (by rfl) (pa_cons (pv 1) (pa_cons (pv 2) pa_nil))))
    (pss_cons (ps_if (pt_cmpR op_lt (pv 2) pe_int (nomark _)) (pss_one (ps_set (i := 3) nd rfl (Or.inl rfl) (pe_un un_neg (pv 3)))) pss_nil)
    (pss_one (ps_ret (pe_tup (pa_cons (pe_op op_fdivO (pv 1) (pv 3)) (pa_cons (pe_op op_fdivO (pv 2) (pv 3)) pa_nil)))))))), ?_⟩
  refine ⟨_, rfl, rfl, _, rfl, ?_⟩
  refine if_eqI (fun z => ⟨(by show 1 ≤ 1000; decide), k0 z⟩) (fun hb => ?_)
  refine ⟨_, rfl, _, rfl, t, b, rfl, ?_⟩
  obtain ⟨c, ec, c0, cl, fc, e, l1, l2⟩ := F_low (t := t) hb
  refine ⟨_, rfl, _, _, rfl, rfl, _, rfl, ?_⟩
  refine if_dec (fun hn => ?_) (fun hn => ?_)
  · refine ⟨_, rfl, _, rfl, ?_⟩
    have ec' : c = -(Int.gcd t b : Int) := by rw [ec, if_pos hn]
    refine ⟨_, rfl, _, rfl, _, _, rfl, rfl, (by rw [← ec']; exact ⟨c0, by omega⟩), _, rfl, _, rfl, _, _, rfl, rfl, (by rw [← ec']; exact ⟨c0, by omega⟩), (by show 2 ≤ sizeLine; decide), fun r hr' => ?_⟩
    rw [← ec']
    exact k hb r _ _ hr' fc e l1 l2
  · have ec' : c = (Int.gcd t b : Int) := by rw [ec, if_neg hn]
    refine ⟨_, rfl, _, rfl, _, _, rfl, rfl, (by rw [← ec']; exact ⟨c0, by omega⟩), _, rfl, _, rfl, _, _, rfl, rfl, (by rw [← ec']; exact ⟨c0, by omega⟩), (by show 2 ≤ sizeLine; decide), fun r hr' => ?_⟩
    rw [← ec']
    exact k hb r _ _ hr' fc e l1 l2
theorem ok_Fnumber1 {CF cN : Addr} {tk : Tok} (h : HereD K CF "number" "Fractions.number" s_Fractions_number #[.int 1 tk]) (c : ExcC K mg "NoNumber" cN) (h_divisor : Has P w K mg base "divisor" 1 ["one", "other"] sp_divisor) : HasMX P w K mg base CF "number" 2 ["self", "top", "bottom"] [.int 1] (sp_Fnumber cN) :=
  h.hasMX (ds := [.int 1 tk]) (.cons ⟨_, rfl⟩ .nil) (fun f fd T F => F.binds fun _ _ _ _ _ _ us hl => by obtain ⟨_, _, rfl⟩ := len2 (show us.length = 2 by simpa using hl); exact ⟨_, rfl, rfl⟩) fun f fd T F => run_Fnumber F c h_divisor
end

theorem R_num {p t b u v r : Int} (hp : 2 ≤ p) (h : (1 : Int) = b * u + p * v) (hr : r = t * u % p) : 0 ≤ r ∧ r < p ∧ p ∣ r * b - t := by
  subst hr
  refine ⟨Int.emod_nonneg _ (by omega), Int.emod_lt_of_pos _ (by omega), ?_⟩
  have e := Int.emod_add_mul_ediv (t * u) p
  have e1 : t * u % p = t * u - p * (t * u / p) := by omega
  refine ⟨-(t * v) - (t * u / p) * b, ?_⟩
  rw [e1]
  have e2 : t = t * b * u + t * p * v := by
    have := congrArg (t * ·) h
    simp only [Int.mul_one, Int.mul_add] at this
    rw [Int.mul_assoc, Int.mul_assoc]; exact this
  generalize t * u / p = k at *
  rw [Int.sub_mul, Int.mul_sub, Int.mul_neg, Int.mul_assoc p k b]
  have e3 : t * u * b = t * b * u := by rw [Int.mul_assoc, Int.mul_comm u b, ← Int.mul_assoc]
  have e4 : p * (t * v) = t * p * v := by rw [← Int.mul_assoc, Int.mul_comm p t]
  omega
def sp_Rnumber (CR cN : Addr) : Sp := fun vs H Q E => ∃ (s : Addr) (p t b : Int), vs = [.ref s, .int t, .int b] ∧ ReA CR p H s ∧ M2.Prm p ∧ p < 1000000 ∧ t.natAbs ≤ 10 ^ 140 ∧ b.natAbs ≤ 10 ^ 100 ∧ (p ∣ b → E (.ref cN) none H) ∧
  (¬ p ∣ b → ∀ (H' : Hp) (r : Int), Same H H' → 0 ≤ r → r < p → p ∣ r * b - t → Q (.int r) H')
section
variable {P : Program} {w : World} {K : PySem.W.Frag} {mg : Str → Option Value} {base : Heap}
theorem sc_Rests_number : FnScope ["self", "top", "bottom"] ["self", "top", "bottom"] (defScope s_Rests_number) := ⟨rfl, rfl, rfl, by decide +kernel, rfl, by decide +kernel, by decide +kernel⟩
theorem run_Rnumber {CR cN : Addr} {f T : Addr} {fd : FuncData} {items : Array Value} (F : FunD K "number" "Rests.number" s_Rests_number f fd T items) (cl : Cls K CR) (nP : NoAttr K CR "prime") (c : ExcC K mg "NoNumber" cN) (h_shares : Has P w K mg base "shares" 2 ["one", "other"] sp_shares) : FnOk P w K mg base (CXx P w) 3 f fd ["self", "top", "bottom"] (sp_Rnumber CR cN) := by
  refine F.okx sc_Rests_number (fun vs H Q E h => ?_) (fun cdv A outer s H vs Q E hr h => ?_)
  · obtain ⟨_, _, _, _, rfl, _⟩ := h
    rfl
  obtain ⟨sr, p, t, b, rfl, ⟨dx, hs⟩, pr, lp, lt, lb, k0, k⟩ := h
  have h2 := pr.1
  refine ⟨_, (pss_cons (ps_if (pt_cmpR op_eq (pe_op op_modN (pv 2) (pe_fld (pv 0) rfl)) pe_int (nomark _)) (pss_one (ps_raise c raiseE rfl (by rfl) (pa_cons pe_str pa_nil))) pss_nil)
    (pss_one (ps_ret (pe_op op_modN (pe_op op_mulO (pv 1) (pe_ix ix_tup (pe_has h_shares hr (by rfl) (pa_cons (pv 2) (pa_cons (pe_fld (pv 0) rfl) pa_nil))) pe_int (fun _ _ => rfl))) (pe_fld (pv 0) rfl))))), ?_⟩
  refine ⟨_, rfl, _, rfl, sr, CR, dx, _, _, rfl, hs, cl, nP, fsR_prime p, _, _, rfl, rfl, (show p ≠ 0 by omega), rfl, _, rfl, ?_⟩
  refine if_eqI (fun z => ⟨(by show 1 ≤ 1000; decide), k0 ((M2.fmod_dvd (by omega)).mp z)⟩) (fun hb => ?_)
  have hb' : ¬ p ∣ b := fun z => hb ((M2.fmod_dvd (by omega)).mpr z)
  have g1 := M2.prm_gcd pr hb'
  refine ⟨_, rfl, _, rfl, _, rfl, sr, CR, dx, _, _, rfl, hs, cl, nP, fsR_prime p, b, p, rfl, lb, by omega, fun q H1 u v S hq e bu bv => ?_⟩
  refine ⟨_, _, _, _, rfl, rfl, SqT.of hq, rfl, _, _, rfl, rfl, mul_fit (by omega) (by omega), _, rfl, sr, CR, dx, _, _, rfl, S _ _ hs, cl, nP, fsR_prime p, _, _, rfl, rfl, (show p ≠ 0 by omega), ?_⟩
  rw [g1] at e
  obtain ⟨r0, r1, r2⟩ := R_num (p := p) (t := t) (b := b) (r := t * u % p) h2 e rfl
  show Q (V.int ((t * u).fmod p)) _
  rw [Int.fmod_eq_emod_of_nonneg _ (by omega)]
  exact k hb' H1 _ S r0 r1 r2
theorem ok_Rnumber {CR cN : Addr} {tk : Tok} (h : HereD K CR "number" "Rests.number" s_Rests_number #[.int 1 tk]) (cl : Cls K CR) (nP : NoAttr K CR "prime") (c : ExcC K mg "NoNumber" cN) (h_shares : Has P w K mg base "shares" 2 ["one", "other"] sp_shares) : HasMX P w K mg base CR "number" 3 ["self", "top", "bottom"] [] (sp_Rnumber CR cN) :=
  h.hasMX (ds := []) .nil (fun f fd T F => F.binds fun _ _ _ _ _ _ us hl => by obtain ⟨_, _, _, rfl⟩ := len3 (show us.length = 3 by simpa using hl); exact ⟨_, rfl, rfl⟩) fun f fd T F => run_Rnumber F cl nP c h_shares
theorem ok_Rnumber1 {CR cN : Addr} {tk : Tok} (h : HereD K CR "number" "Rests.number" s_Rests_number #[.int 1 tk]) (cl : Cls K CR) (nP : NoAttr K CR "prime") (c : ExcC K mg "NoNumber" cN) (h_shares : Has P w K mg base "shares" 2 ["one", "other"] sp_shares) : HasMX P w K mg base CR "number" 3 ["self", "top", "bottom"] [.int 1] (sp_Rnumber CR cN) :=
  h.hasMX (ds := [.int 1 tk]) (.cons ⟨_, rfl⟩ .nil) (fun f fd T F => F.binds fun _ _ _ _ _ _ us hl => by obtain ⟨_, _, rfl⟩ := len2 (show us.length = 2 by simpa using hl); exact ⟨_, rfl, rfl⟩) fun f fd T F => run_Rnumber F cl nP c h_shares
end

def sp_FminusG (K : PySem.W.Frag) (CF : Addr) : Sp := fun vs H Q _ => ∃ (s p q : Addr) (a1 b1 a2 b2 : Int), vs = [.ref s, .ref p, .ref q] ∧ FrA CF H s ∧ SqT K H p [.int a1, .int b1] ∧ SqT K H q [.int a2, .int b2] ∧ Fc a1 b1 ∧ Fc a2 b2 ∧
  Bits 1000000 a1 ∧ Bits 4000 b1 ∧ Bits 1000000 a2 ∧ Bits 4000 b2 ∧
  ∀ (t : Addr) (H' : Hp) (x y : Int), Same H H' → H' t = some (.tup [.int x, .int y]) → H t = none → Fc x y → x * (b1 * b2) = (a1 * b2 + (-a2) * b1) * y → Q (.ref t) H'
section
variable {P : Program} {w : World} {K : PySem.W.Frag} {mg : Str → Option Value} {base : Heap}
theorem sc_Fractions_minusG : FnScope ["self", "one", "other"] ["self", "one", "other"] (defScope s_Fractions_minus) := ⟨rfl, rfl, rfl, by decide +kernel, rfl, by decide +kernel, by decide +kernel⟩
theorem ok_FminusG {CF : Addr} (h : HereM K CF "minus" "Fractions.minus" s_Fractions_minus) (cl : Cls K CF) (hM : HasM P w K mg base CF "plus" 2 ["self", "one", "other"] [] (sp_FplusG K CF)) : HasM P w K mg base CF "minus" 3 ["self", "one", "other"] [] (sp_FminusG K CF) := by
  refine h.hasM (fun f fd F => F.binds fun _ _ _ _ _ _ us hl => by obtain ⟨_, _, _, rfl⟩ := len3 hl; exact rfl) fun f fd F => F.ok sc_Fractions_minusG (fun vs H Q E h => ?_) (fun cdv A outer s H vs Q E hr h => ?_)
  · obtain ⟨_, _, _, _, _, _, _, rfl, _⟩ := h
    rfl
  obtain ⟨sf, p, q, a1, b1, a2, b2, rfl, ⟨dx, hs⟩, hp, hq, f1, f2, la1, lb1, la2, lb2, k⟩ := h
  refine ⟨_, (pss_one (ps_ret (pe_methA (pv 0) hr (pa_cons (pv 1) (pa_cons (pe_tup (pa_cons (pe_un un_neg (pe_ix ix_tup (pv 2) pe_int (fun _ _ => rfl))) (pa_cons (pe_ix ix_tup (pv 2) pe_int (fun _ _ => rfl)) pa_nil))) pa_nil))))), ?_⟩
  refine ⟨_, rfl, _, _, _, _, _, _, _, rfl, hs, cl, hM, rfl, _, rfl, _, rfl, _, _, _, _, rfl, rfl, hq, rfl, _, rfl, _, rfl, _, _, _, _, rfl, rfl, hq, rfl, (by show 2 ≤ sizeLine; decide), fun r hr' => ?_⟩
  have S := same_new hr' (.tup [.int (-a2), .int b2])
  refine ⟨sf, p, r, a1, b1, -a2, b2, rfl, ⟨dx, S _ _ hs⟩, S.tup hp, SqT.of upd_same, f1, ⟨f2.pos, by rw [Int.neg_gcd]; exact f2.cop⟩, la1, lb1, la2.le (by omega), lb2, fun t H' x y S' ht hn fc e => ?_⟩
  exact k t H' x y (S.trans S') ht (by
    cases z : H t with
    | none => rfl
    | some o => rw [S t o z] at hn; cases hn) fc e
end

section
variable {P : Program} {w : World} {K : PySem.W.Frag} {mg : Str → Option Value} {base : Heap}
theorem sc_Rests_minus : FnScope ["self", "one", "other"] ["self", "one", "other"] (defScope s_Rests_minus) := ⟨rfl, rfl, rfl, by decide +kernel, rfl, by decide +kernel, by decide +kernel⟩
theorem ok_Rminus {CR : Addr} (h : HereM K CR "minus" "Rests.minus" s_Rests_minus) (cl : Cls K CR) (nP : NoAttr K CR "prime") : HasM P w K mg base CR "minus" 1 ["self", "one", "other"] [] (sp_Rop CR fun a b => a - b) := by
  refine h.hasM (fun f fd F => F.binds fun _ _ _ _ _ _ us hl => by obtain ⟨_, _, _, rfl⟩ := len3 hl; exact rfl) fun f fd F => F.ok sc_Rests_minus (fun vs H Q E h => ?_) (fun cdv A outer s H vs Q E hr h => ?_)
  · obtain ⟨_, _, _, _, rfl, _⟩ := h
    rfl
  obtain ⟨sr, p, a, b, rfl, ⟨dx, hs⟩, h2, la, lb, k⟩ := h
  refine ⟨_, (pss_one (ps_ret (pe_op op_modN (pe_op op_sub (pv 1) (pv 2)) (pe_fld (pv 0) rfl)))), ?_⟩
  refine ⟨_, rfl, _, rfl, _, _, rfl, rfl, _, rfl, sr, CR, dx, _, _, rfl, hs, cl, nP, fsR_prime p, _, _, rfl, rfl, (show p ≠ 0 by omega), ?_⟩
  show Q (V.int ((a - b).fmod p)) _
  rw [Int.fmod_eq_emod_of_nonneg _ (by omega)]
  exact k
end

def sp_Fback (K : PySem.W.Frag) (cN : Addr) : Sp := fun vs H Q E => ∃ (s p : Addr) (a b : Int), vs = [.ref s, .ref p] ∧ SqT K H p [.int a, .int b] ∧ Fc a b ∧ (a = 0 → E (.ref cN) none H) ∧
  (a ≠ 0 → ∀ (r : Addr) (x y : Int), H r = none → Fc x y → x * a = b * y → x.natAbs = b.natAbs → y.natAbs = a.natAbs → Q (.ref r) (upd H r (.tup [.int x, .int y])))
section
variable {P : Program} {w : World} {K : PySem.W.Frag} {mg : Str → Option Value} {base : Heap}
theorem sc_Fractions_back : FnScope ["self", "one"] ["self", "one"] (defScope s_Fractions_back) := ⟨rfl, rfl, rfl, by decide +kernel, rfl, by decide +kernel, by decide +kernel⟩
theorem ok_Fback {CF cN : Addr} (h : HereM K CF "back" "Fractions.back" s_Fractions_back) (c_NoNumber : ExcC K mg "NoNumber" cN) : HasMX P w K mg base CF "back" 1 ["self", "one"] [] (sp_Fback K cN) := by
  refine h.hasMX (fun f fd F => F.binds fun _ _ _ _ _ _ us hl => by obtain ⟨_, _, rfl⟩ := len2 hl; exact rfl) fun f fd F => F.okx sc_Fractions_back (fun vs H Q E h => ?_) (fun cdv A outer s H vs Q E hr h => ?_)
  · obtain ⟨_, _, _, _, rfl, _⟩ := h
    rfl
  obtain ⟨sf, p, a, b, rfl, hp, fc, k0, k⟩ := h
  have hb := fc.pos
  refine ⟨_, (pss_cons (ps_if (pt_cmpR op_eq (pe_ix ix_tup (pv 1) pe_int (fun _ _ => rfl)) pe_int (nomark _)) (pss_one (ps_raise c_NoNumber raiseE rfl (by rfl) (pa_cons pe_str pa_nil))) pss_nil)
    (pss_cons (ps_if (pt_cmpR op_lt (pe_ix ix_tup (pv 1) pe_int (fun _ _ => rfl)) pe_int (nomark _)) (pss_one (ps_ret (pe_tup (pa_cons (pe_un un_neg (pe_ix ix_tup (pv 1) pe_int (fun _ _ => rfl))) (pa_cons (pe_un un_neg (pe_ix ix_tup (pv 1) pe_int (fun _ _ => rfl))) pa_nil))))) pss_nil)
    (pss_one (ps_ret (pe_tup (pa_cons (pe_ix ix_tup (pv 1) pe_int (fun _ _ => rfl)) (pa_cons (pe_ix ix_tup (pv 1) pe_int (fun _ _ => rfl)) pa_nil))))))), ?_⟩
  refine ⟨_, rfl, _, _, _, _, rfl, rfl, hp, rfl, rfl, _, rfl, ?_⟩
  refine if_eqI (fun z => ⟨(by show 1 ≤ 1000; decide), k0 z⟩) (fun ha => ?_)
  refine ⟨_, rfl, _, _, _, _, rfl, rfl, hp, rfl, _, _, rfl, rfl, _, rfl, ?_⟩
  refine if_dec (fun hn => ?_) (fun hn => ?_)
  · refine ⟨_, rfl, _, _, _, _, rfl, rfl, hp, rfl, _, rfl, _, rfl, _, _, _, _, rfl, rfl, hp, rfl, _, rfl, (by show 2 ≤ sizeLine; decide), fun r hr' => ?_⟩
    refine k ha r (-b) (-a) hr' ⟨by omega, ?_⟩ (by rw [Int.neg_mul, Int.mul_neg]) (by omega) (by omega)
    rw [Int.neg_gcd, Int.gcd_neg, Int.gcd_comm]; exact fc.cop
  · refine ⟨_, rfl, _, _, _, _, rfl, rfl, hp, rfl, _, rfl, _, _, _, _, rfl, rfl, hp, rfl, (by show 2 ≤ sizeLine; decide), fun r hr' => ?_⟩
    exact k ha r b a hr' ⟨by omega, by rw [Int.gcd_comm]; exact fc.cop⟩ rfl rfl rfl
end

def sp_Rback (CR cN : Addr) : Sp := fun vs H Q E => ∃ (s : Addr) (p a : Int), vs = [.ref s, .int a] ∧ ReA CR p H s ∧ M2.Prm p ∧ p < 1000000 ∧ a.natAbs ≤ 10 ^ 100 ∧ (p ∣ a → E (.ref cN) none H) ∧
  (¬ p ∣ a → ∀ (H' : Hp) (r : Int), Same H H' → 0 ≤ r → r < p → p ∣ r * a - 1 → Q (.int r) H')
section
variable {P : Program} {w : World} {K : PySem.W.Frag} {mg : Str → Option Value} {base : Heap}
theorem sc_Rests_back : FnScope ["self", "one"] ["self", "one"] (defScope s_Rests_back) := ⟨rfl, rfl, rfl, by decide +kernel, rfl, by decide +kernel, by decide +kernel⟩
theorem ok_Rback {CR cN : Addr} (h : HereM K CR "back" "Rests.back" s_Rests_back) (cl : Cls K CR) (hN : HasMX P w K mg base CR "number" 3 ["self", "top", "bottom"] [] (sp_Rnumber CR cN)) : HasMX P w K mg base CR "back" 4 ["self", "one"] [] (sp_Rback CR cN) := by
  refine h.hasMX (fun f fd F => F.binds fun _ _ _ _ _ _ us hl => by obtain ⟨_, _, rfl⟩ := len2 hl; exact rfl) fun f fd F => F.okx sc_Rests_back (fun vs H Q E h => ?_) (fun cdv A outer s H vs Q E hr h => ?_)
  · obtain ⟨_, _, _, rfl, _⟩ := h
    rfl
  obtain ⟨sr, p, a, rfl, ⟨dx, hs⟩, pr, lp, la, k0, k⟩ := h
  refine ⟨_, (pss_one (ps_ret (pe_methX (pv 0) passE hr (pa_cons pe_int (pa_cons (pv 1) pa_nil))))), ?_⟩
  exact ⟨_, rfl, sr, CR, dx, _, _, _, _, rfl, hs, cl, hN, fsR_no p (by decide), _, rfl, sr, p, 1, a, rfl, ⟨dx, hs⟩, pr, lp, by decide, la, k0, k⟩
end

def sp_Fnought (K : PySem.W.Frag) (CF : Addr) : Sp := fun vs H Q _ => ∃ (s p : Addr) (a b : Int), vs = [.ref s, .ref p] ∧ SqT K H p [.int a, .int b] ∧ Q (.bl (decide (a = 0))) H
section
variable {P : Program} {w : World} {K : PySem.W.Frag} {mg : Str → Option Value} {base : Heap}
theorem sc_Fractions_is_nought : FnScope ["self", "one"] ["self", "one"] (defScope s_Fractions_is_nought) := ⟨rfl, rfl, rfl, by decide +kernel, rfl, by decide +kernel, by decide +kernel⟩
theorem ok_Fnought {CF : Addr} (h : HereM K CF "is_nought" "Fractions.is_nought" s_Fractions_is_nought) : HasM P w K mg base CF "is_nought" 1 ["self", "one"] [] (sp_Fnought K CF) := by
  refine h.hasM (fun f fd F => F.binds fun _ _ _ _ _ _ us hl => by obtain ⟨_, _, rfl⟩ := len2 hl; exact rfl) fun f fd F => F.ok sc_Fractions_is_nought (fun vs H Q E h => ?_) (fun cdv A outer s H vs Q E hr h => ?_)
  · obtain ⟨_, _, _, _, rfl, _⟩ := h
    rfl
  obtain ⟨sf, p, a, b, rfl, hp, k⟩ := h
  refine ⟨_, (pss_one (ps_ret (pe_cmpR op_eq (pe_ix ix_tup (pv 1) pe_int (fun _ _ => rfl)) pe_int (nomark _)))), ?_⟩
  refine ⟨_, rfl, _, _, _, _, rfl, rfl, hp, rfl, rfl, ?_⟩
  rw [eqI_iff]
  exact k
end

def sp_Rnought : Sp := fun vs H Q _ => ∃ (s : Addr) (a : Int), vs = [.ref s, .int a] ∧ Q (.bl (decide (a = 0))) H
section
variable {P : Program} {w : World} {K : PySem.W.Frag} {mg : Str → Option Value} {base : Heap}
theorem sc_Rests_is_nought : FnScope ["self", "one"] ["self", "one"] (defScope s_Rests_is_nought) := ⟨rfl, rfl, rfl, by decide +kernel, rfl, by decide +kernel, by decide +kernel⟩
theorem ok_Rnought {CR : Addr} (h : HereM K CR "is_nought" "Rests.is_nought" s_Rests_is_nought) : HasM P w K mg base CR "is_nought" 1 ["self", "one"] [] sp_Rnought := by
  refine h.hasM (fun f fd F => F.binds fun _ _ _ _ _ _ us hl => by obtain ⟨_, _, rfl⟩ := len2 hl; exact rfl) fun f fd F => F.ok sc_Rests_is_nought (fun vs H Q E h => ?_) (fun cdv A outer s H vs Q E hr h => ?_)
  · obtain ⟨_, _, rfl, _⟩ := h
    rfl
  obtain ⟨sf, a, rfl, k⟩ := h
  refine ⟨_, (pss_one (ps_ret (pe_cmpR op_eq (pv 1) pe_int (nomark _)))), ?_⟩
  refine ⟨_, rfl, rfl, ?_⟩
  rw [eqI_iff]
  exact k
end

end My

namespace My
open PySem L2 PyProof.Rows
theorem divInt_eq (N : Int) {D : Int} (hD : 0 < D) : (Rat.divInt N D).num * D = N * (Rat.divInt N D).den := by
  have h := Rat.num_divInt_den (Rat.divInt N D)
  have hd := (rat_fc (Rat.divInt N D)).pos
  have := (Rat.divInt_eq_divInt_iff (n₁ := (Rat.divInt N D).num) (d₁ := ((Rat.divInt N D).den : Int)) (n₂ := N) (d₂ := D) (by omega) (by omega)).mp h
  exact this
theorem cop_dvd {a b c : Int} (h : a ∣ b * c) (g : Int.gcd a b = 1) : a ∣ c := by
  rw [← Int.natAbs_dvd_natAbs] at h ⊢
  rw [Int.natAbs_mul] at h
  exact Nat.Coprime.dvd_of_dvd_mul_left g h
theorem divInt_sz (N : Int) {D : Int} (hD : 0 < D) : ((Rat.divInt N D).den : Int) ∣ D ∧ (Rat.divInt N D).num ∣ N := by
  have e := divInt_eq N hD
  have c := (rat_fc (Rat.divInt N D)).cop
  generalize (Rat.divInt N D).num = n at *
  generalize ((Rat.divInt N D).den : Int) = d at *
  refine ⟨?_, ?_⟩
  · refine cop_dvd (b := n) ⟨N, ?_⟩ (by rw [Int.gcd_comm]; exact c)
    rw [e, Int.mul_comm]
  · refine cop_dvd (b := d) ⟨D, ?_⟩ c
    rw [e, Int.mul_comm]
theorem le_of_dvd' {a b : Int} (h : a ∣ b) (hb : b ≠ 0) : a.natAbs ≤ b.natAbs := Nat.le_of_dvd (by omega) (Int.natAbs_dvd_natAbs.mpr h)
theorem bits_dvd {n : Nat} {a b : Int} (h : a ∣ b) (hb : Bits n b) (hz : b = 0 → a = 0) : Bits n a := by
  by_cases z : b = 0
  · rw [hz z]; exact Nat.zero_le _
  · exact hb.le (le_of_dvd' h z)
theorem num_zero (N : Int) {D : Int} (hD : 0 < D) (z : N = 0) : (Rat.divInt N D).num = 0 := by
  subst z
  have e := divInt_eq 0 hD
  rw [Int.zero_mul] at e
  rcases Int.mul_eq_zero.mp e with h | h
  · exact h
  · omega
/-- the kind at s -/
def KdX (CF CR : Addr) (κ : KX) (H : Hp) (s : Addr) : Prop := match κ with
  | .q => FrA CF H s
  | .r p _ => ReA CR p H s
theorem KdX.same {CF CR : Addr} {κ : KX} {H H' : Hp} {k : Addr} (h : KdX CF CR κ H k) (S : Same H H') : KdX CF CR κ H' k := by
  cases κ with
  | q => obtain ⟨dx, h⟩ := h; exact ⟨dx, S _ _ h⟩
  | r p hp => obtain ⟨dx, h⟩ := h; exact ⟨dx, S _ _ h⟩
theorem kdx_of {CF CR : Addr} {p : Int} {H : Hp} {s : Addr} (h : KdA CF CR p H s) : ∃ κ : KX, κ.P = p ∧ KdX CF CR κ H s := by
  rcases h with ⟨rfl, h⟩ | ⟨pr, lp, h⟩
  · exact ⟨.q, rfl, h⟩
  · have h2 := pr.1
    have e : ((p.toNat : Nat) : Int) = p := by omega
    refine ⟨.r p.toNat ⟨by rw [e]; exact pr, by omega⟩, e, ?_⟩
    show ReA CR ((p.toNat : Nat) : Int) H s
    rw [e]; exact h
abbrev B1 (κ : KX) (x : κ.F) : Prop := Bd κ 1000000 4000 x
theorem rest_small {p : Nat} (h : PrN p) (x : Fin p) : ((x.val : Int)).natAbs ≤ 10 ^ 150 := by
  have := x.isLt
  have := h.lt
  exact Nat.le_trans (show _ ≤ 1000000 by omega) (by decide)
/-- what a kind's method of two numbers tells -/
def Meth2 (P : Program) (w : World) (K : PySem.W.Frag) (mg : Str → Option Value) (base : Heap) (CF CR : Addr) (m : Str) (g : (κ : KX) → κ.F → κ.F → κ.F) : Prop :=
  ∀ (κ : KX) (H : Hp) (s : Addr), KdX CF CR κ H s → ∃ C dx fs ps dvs sp, H s = some (.ins C dx fs) ∧ Cls K C ∧ HasM P w K mg base C m 2 ps dvs sp ∧ fs.lookup m = none ∧ dvs = [] ∧
    ∀ (H' : Hp) (u v : V) (x y : κ.F) (Q : VK), Same H H' → NR κ H' u x → NR κ H' v y → B1 κ x → B1 κ y → (∀ t H'', Same H' H'' → NR κ H'' t (g κ x y) → Q t H'') → sp [.ref s, u, v] H' Q E0
end My

namespace My
open PySem L2 PyProof.Rows

section
variable {P : Program} {w : World} {K : PySem.W.Frag} {mg : Str → Option Value} {base : Heap} {CF CR : Addr}
theorem meth_plus (kd : Kd K mg CF CR) (hF : HasM P w K mg base CF "plus" 2 ["self", "one", "other"] [] (sp_FplusG K CF)) (hR : HasM P w K mg base CR "plus" 2 ["self", "one", "other"] [] (sp_Rop CR fun a b => a + b)) : Meth2 P w K mg base CF CR "plus" (fun _ x y => x + y) := by
  intro κ H s hk
  cases κ with
  | q =>
    obtain ⟨dx, h⟩ := hk
    refine ⟨CF, dx, [], _, _, _, h, kd.clF, hF, rfl, rfl, fun H' u v x y Q S hu hv bx by' k => ?_⟩
    obtain ⟨a, rfl, hu⟩ := hu
    obtain ⟨b, rfl, hv⟩ := hv
    refine ⟨s, a, b, _, _, _, _, rfl, ⟨dx, S _ _ h⟩, SqT.of hu, SqT.of hv, rat_fc x, rat_fc y, bx.1, bx.2, by'.1, by'.2, fun t H'' n d S' ht hn fc e => ?_⟩
    obtain ⟨e1, e2⟩ := rat_add (x := x) (y := y) fc e
    refine k (.ref t) H'' S' ⟨t, rfl, ?_⟩
    show H'' t = some (.tup [.int (x + y).num, .int ((x + y).den : Int)])
    rw [e1, e2]
    exact ht
  | r p hp =>
    obtain ⟨dx, h⟩ := hk
    refine ⟨CR, dx, fsR p, _, _, _, h, kd.clR, hR, fsR_no _ (by decide), rfl, fun H' u v x y Q S hu hv _ _ k => ?_⟩
    have hu : u = .int x.val := hu
    have hv : v = .int y.val := hv
    subst hu hv
    refine ⟨s, p, _, _, rfl, ⟨dx, S _ _ h⟩, by have := hp.two; omega, rest_small hp x, rest_small hp y, k _ H' (Same.refl _) ?_⟩
    show V.int (((x.val : Int) + y.val) % p) = V.int ((Fin.val (x + y) : Nat) : Int)
    have e : Fin.val (x + y) = (x.val + y.val) % p := Fin.val_add x y
    rw [e, Int.natCast_emod, Int.natCast_add]
end

section
variable {P : Program} {w : World} {K : PySem.W.Frag} {mg : Str → Option Value} {base : Heap} {CF CR : Addr}
theorem meth_times (kd : Kd K mg CF CR) (hF : HasM P w K mg base CF "times" 2 ["self", "one", "other"] [] (sp_FtimesG K CF)) (hR : HasM P w K mg base CR "times" 2 ["self", "one", "other"] [] (sp_Rop CR fun a b => a * b)) : Meth2 P w K mg base CF CR "times" (fun _ x y => x * y) := by
  intro κ H s hk
  cases κ with
  | q =>
    obtain ⟨dx, h⟩ := hk
    refine ⟨CF, dx, [], _, _, _, h, kd.clF, hF, rfl, rfl, fun H' u v x y Q S hu hv bx by' k => ?_⟩
    obtain ⟨a, rfl, hu⟩ := hu
    obtain ⟨b, rfl, hv⟩ := hv
    refine ⟨s, a, b, _, _, _, _, rfl, ⟨dx, S _ _ h⟩, SqT.of hu, SqT.of hv, rat_fc x, rat_fc y, bx.1, bx.2, by'.1, by'.2, fun t H'' n d S' ht hn fc e => ?_⟩
    obtain ⟨e1, e2⟩ := rat_mul (x := x) (y := y) fc e
    refine k (.ref t) H'' S' ⟨t, rfl, ?_⟩
    show H'' t = some (.tup [.int (x * y).num, .int ((x * y).den : Int)])
    rw [e1, e2]
    exact ht
  | r p hp =>
    obtain ⟨dx, h⟩ := hk
    refine ⟨CR, dx, fsR p, _, _, _, h, kd.clR, hR, fsR_no _ (by decide), rfl, fun H' u v x y Q S hu hv _ _ k => ?_⟩
    have hu : u = .int x.val := hu
    have hv : v = .int y.val := hv
    subst hu hv
    refine ⟨s, p, _, _, rfl, ⟨dx, S _ _ h⟩, by have := hp.two; omega, rest_small hp x, rest_small hp y, k _ H' (Same.refl _) ?_⟩
    show V.int (((x.val : Int) * y.val) % p) = V.int ((Fin.val (x * y) : Nat) : Int)
    have e : Fin.val (x * y) = (x.val * y.val) % p := Fin.val_mul x y
    rw [e, Int.natCast_emod, Int.natCast_mul]
end

end My

set_option maxHeartbeats 1000000
namespace L2
open PySem PySem.Spec PyProof.Rows
section
variable {X : Cx}
theorem op_fdivH : OpR X (binaryOp .FloorDiv) (rI (fun _ j => j ≠ 0 ∧ Bits 8000 j) fun i j => .int (i.fdiv j)) := opI fun _ _ _ _ _ _ _ hc q => floordiv_int hc.1 q (.inl (PyProof.noPylong_of_log2 (Nat.lt_trans (hc.2.log hc.1) (by decide))))
end
end L2
namespace My
open PySem L2 PyProof.Rows
section
variable {κ : KX}
/-- rows at as -/
def RowsX (κ : KX) (H : Hp) (as : List Addr) (R : List (List κ.F)) : Prop := as.length = R.length ∧ ∀ (i : Nat) a f, as[i]? = some a → R[i]? = some f → ∃ xs, H a = some (.lst xs) ∧ AllG (NR κ H) xs f
def AllR (Pr : κ.F → Prop) (R : List (List κ.F)) : Prop := ∀ f ∈ R, ∀ x ∈ f, Pr x
theorem RowsX.same {H H' : Hp} {as : List Addr} {R : List (List κ.F)} (h : RowsX κ H as R) (S : Same H H') : RowsX κ H' as R :=
  ⟨h.1, fun i a f ha hf => let ⟨xs, hx, al⟩ := h.2 i a f ha hf; ⟨xs, S _ _ hx, al.mono fun _ _ n => n.same S⟩⟩
theorem RowsX.off {H H' : Hp} {t : Addr} {as : List Addr} {R : List (List κ.F)} {ys : List V} (h : RowsX κ H as R) (n : t ∉ as) (ht : H t = some (.lst ys)) (O : Off [t] H H') : RowsX κ H' as R :=
  ⟨h.1, fun i a f ha hf => let ⟨xs, hx, al⟩ := h.2 i a f ha hf; ⟨xs, O _ _ (fun m => n (by rw [← List.mem_singleton.mp m]; exact List.mem_of_getElem? ha)) hx, al.mono fun _ _ n => n.off ht O⟩⟩
theorem RowsX.get {H : Hp} {as : List Addr} {R : List (List κ.F)} (h : RowsX κ H as R) {i : Nat} (hi : i < R.length) : ∃ a xs, as[i]? = some a ∧ H a = some (.lst xs) ∧ AllG (NR κ H) xs R[i] := by
  have l := h.1
  obtain ⟨xs, hx, al⟩ := h.2 i (as[i]'(by omega)) R[i] (List.getElem?_eq_getElem (by omega)) (List.getElem?_eq_getElem hi)
  exact ⟨_, xs, List.getElem?_eq_getElem (by omega), hx, al⟩
theorem RowsX.set {H : Hp} {as : List Addr} {R : List (List κ.F)} (h : RowsX κ H as R) (i : Nat) {a : Addr} {xs : List V} {f : List κ.F} (hx : H a = some (.lst xs)) (al : AllG (NR κ H) xs f) : RowsX κ H (as.set i a) (R.set i f) := by
  have l := h.1
  refine ⟨by rw [List.length_set, List.length_set, l], fun j b g hb hg => ?_⟩
  rw [List.getElem?_set] at hb hg
  split at hb
  · rename_i e
    rw [if_pos e] at hg
    split at hb
    · rename_i hl
      rw [if_pos (by omega)] at hg
      cases hb; cases hg; exact ⟨xs, hx, al⟩
    · cases hb
  · rename_i e
    rw [if_neg e] at hg
    exact h.2 j b g hb hg
/-- turns -/
inductive Tn (κ : KX) where
  | swap (i j : Int)
  | scale (i : Int) (c : κ.F)
  | add (i j : Int) (c : κ.F)
def TR (κ : KX) (H : Hp) (v : V) (t : Tn κ) : Prop := match t with
  | .swap i j => ∃ a, v = .ref a ∧ H a = some (.tup [.str "swap", .int i, .int j])
  | .scale i c => ∃ a u, v = .ref a ∧ H a = some (.tup [.str "scale", .int i, u]) ∧ NR κ H u c
  | .add i j c => ∃ a u, v = .ref a ∧ H a = some (.tup [.str "add", .int i, .int j, u]) ∧ NR κ H u c
theorem TR.same {H H' : Hp} {v : V} {t : Tn κ} (h : TR κ H v t) (S : Same H H') : TR κ H' v t := by
  cases t with
  | swap i j => obtain ⟨a, e, h⟩ := h; exact ⟨a, e, S _ _ h⟩
  | scale i c => obtain ⟨a, u, e, h, n⟩ := h; exact ⟨a, u, e, S _ _ h, n.same S⟩
  | add i j c => obtain ⟨a, u, e, h, n⟩ := h; exact ⟨a, u, e, S _ _ h, n.same S⟩
theorem TR.off {H H' : Hp} {t : Addr} {ys : List V} {v : V} {x : Tn κ} (h : TR κ H v x) (ht : H t = some (.lst ys)) (O : Off [t] H H') : TR κ H' v x := by
  have na : ∀ a zs, H a = some (.tup zs) → a ∉ [t] := fun a zs q m => by rw [List.mem_singleton.mp m, ht] at q; cases q
  cases x with
  | swap i j => obtain ⟨a, e, h⟩ := h; exact ⟨a, e, O _ _ (na _ _ h) h⟩
  | scale i c => obtain ⟨a, u, e, h, n⟩ := h; exact ⟨a, u, e, O _ _ (na _ _ h) h, n.off ht O⟩
  | add i j c => obtain ⟨a, u, e, h, n⟩ := h; exact ⟨a, u, e, O _ _ (na _ _ h) h, n.off ht O⟩
def Tn.D : Tn κ → PyData
  | .swap i j => .tuple [.str "swap", .int i, .int j]
  | .scale i c => .tuple [.str "scale", .int i, κ.D c]
  | .add i j c => .tuple [.str "add", .int i, .int j, κ.D c]
theorem fl_str' {H : Hp} {x : Str} : Fl H (.str x) (.str x) := .inr (.inr (.inr (.inl ⟨x, rfl, rfl⟩)))
theorem TR.rp {H : Hp} {v : V} {t : Tn κ} (h : TR κ H v t) : Rp H 2 v t.D := by
  cases t with
  | swap i j =>
    obtain ⟨a, rfl, h⟩ := h
    exact rp_tup h (.cons (.inl fl_str') (.cons (.inl fl_int') (.cons (.inl fl_int') .nil)))
  | scale i c =>
    obtain ⟨a, u, rfl, h, n⟩ := h
    exact rp_tup h (.cons (.inl fl_str') (.cons (.inl fl_int') (.cons n.rp .nil)))
  | add i j c =>
    obtain ⟨a, u, rfl, h, n⟩ := h
    exact rp_tup h (.cons (.inl fl_str') (.cons (.inl fl_int') (.cons (.inl fl_int') (.cons n.rp .nil))))
/-- a turn for n rows -/
def Tn.ok (n : Nat) : Tn κ → Prop
  | .swap i j => (0 ≤ i ∧ i < n) ∧ (0 ≤ j ∧ j < n) ∧ i ≠ j
  | .scale i c => (0 ≤ i ∧ i < n) ∧ c ≠ 0
  | .add i j _ => (0 ≤ i ∧ i < n) ∧ (0 ≤ j ∧ j < n) ∧ i ≠ j
def Tn.bd : Tn κ → Prop
  | .swap _ _ => True
  | .scale _ c => B1 κ c
  | .add _ _ c => B1 κ c
/-- the table behind a turn -/
noncomputable def doT (t : Tn κ) (R : List (List κ.F)) : List (List κ.F) := match t with
  | .swap i j => (R.set i.toNat (R.getD j.toNat [])).set j.toNat (R.getD i.toNat [])
  | .scale i c => R.set i.toNat ((R.getD i.toNat []).map (c * ·))
  | .add i j c => R.set i.toNat (List.zipWith (· + ·) (R.getD i.toNat []) ((R.getD j.toNat []).map (c * ·)))
theorem doT_len (t : Tn κ) (R : List (List κ.F)) : (doT t R).length = R.length := by
  cases t <;> simp [doT]
end
def sp_scaled_rowX (CF CR : Addr) : Sp := fun vs H Q _ => ∃ (κ : KX) (s r : Addr) (cv : V) (c : κ.F) (xs : List V) (f : List κ.F), vs = [.ref s, cv, .ref r] ∧ KdX CF CR κ H s ∧ NR κ H cv c ∧ H r = some (.lst xs) ∧ AllG (NR κ H) xs f ∧ B1 κ c ∧ (∀ x ∈ f, B1 κ x) ∧ f.length ≤ 1000 ∧
  ∀ (H' : Hp) (D : Addr) (ys : List V), Same H H' → H D = none → H' D = some (.lst ys) → AllG (NR κ H') ys (f.map (c * ·)) → Q (.ref D) H'
def sp_plus_rowX (CF CR : Addr) : Sp := fun vs H Q _ => ∃ (κ : KX) (s r1 r2 : Addr) (xs ys : List V) (f g : List κ.F), vs = [.ref s, .ref r1, .ref r2] ∧ KdX CF CR κ H s ∧ H r1 = some (.lst xs) ∧ H r2 = some (.lst ys) ∧ AllG (NR κ H) xs f ∧ AllG (NR κ H) ys g ∧ (∀ x ∈ f, B1 κ x) ∧ (∀ x ∈ g, B1 κ x) ∧ f.length ≤ 1000 ∧
  ∀ (H' : Hp) (D : Addr) (zs : List V), Same H H' → H D = none → H' D = some (.lst zs) → AllG (NR κ H') zs (List.zipWith (· + ·) f g) → Q (.ref D) H'
theorem ite_yes {p : Prop} [Decidable p] {A B : Prop} (h : p) (k : A) : if decide p = true then A else B := by rw [if_pos (decide_eq_true h)]; exact k
theorem ite_no {p : Prop} [Decidable p] {A B : Prop} (h : ¬ p) (k : B) : if decide p = true then A else B := by rw [if_neg (by simpa using h)]; exact k
theorem s12 : V.str "swap" ≠ V.str "scale" := by decide
theorem s13 : V.str "swap" ≠ V.str "add" := by decide
theorem s23 : V.str "scale" ≠ V.str "add" := by decide
theorem s21 : V.str "scale" ≠ V.str "swap" := by decide
theorem s31 : V.str "add" ≠ V.str "swap" := by decide
theorem s32 : V.str "add" ≠ V.str "scale" := by decide
theorem nodup_of_inj {l : List Addr} (h : ∀ (i j : Nat) a, l[i]? = some a → l[j]? = some a → i = j) : l.Nodup := by
  refine List.pairwise_iff_getElem.mpr fun i j hi hj lt e => ?_
  have := h i j l[i] (List.getElem?_eq_getElem hi) (by rw [e]; exact List.getElem?_eq_getElem hj)
  omega
theorem nodup_set {l : List Addr} {i : Nat} {a : Addr} (h : l.Nodup) (n : a ∉ l) : (l.set i a).Nodup := by
  refine nodup_of_inj fun x y b hx hy => ?_
  rw [List.getElem?_set] at hx hy
  split at hx
  · rename_i e1
    split at hy
    · rename_i e2; omega
    · split at hx
      · cases hx; exact absurd (List.mem_of_getElem? hy) n
      · cases hx
  · split at hy
    · split at hy
      · cases hy; exact absurd (List.mem_of_getElem? hx) n
      · cases hy
    · exact nodup_inj h hx hy
theorem get_swap {l : List Addr} {i j : Nat} {a b : Addr} (hi : l[i]? = some a) (hj : l[j]? = some b) (x : Nat) : ((l.set i b).set j a)[x]? = if x = j then some a else if x = i then some b else l[x]? := by
  have li := (List.getElem?_eq_some_iff.mp hi).1
  have lj := (List.getElem?_eq_some_iff.mp hj).1
  rw [List.getElem?_set]
  by_cases e : j = x
  · subst e
    rw [if_pos rfl, if_pos (by rw [List.length_set]; exact lj), if_pos rfl]
  · rw [if_neg e, if_neg (fun z => e z.symm), List.getElem?_set]
    by_cases e2 : i = x
    · subst e2
      rw [if_pos rfl, if_pos li, if_pos rfl]
    · rw [if_neg e2, if_neg (fun z => e2 z.symm)]
theorem nodup_swap {l : List Addr} {i j : Nat} {a b : Addr} (h : l.Nodup) (hi : l[i]? = some a) (hj : l[j]? = some b) : ((l.set i b).set j a).Nodup := by
  refine nodup_of_inj fun x y c hx hy => ?_
  rw [get_swap hi hj] at hx hy
  have inj := fun {p q : Nat} {d : Addr} (h1 : l[p]? = some d) (h2 : l[q]? = some d) => nodup_inj h h1 h2
  by_cases x1 : x = j
  · rw [if_pos x1] at hx
    cases hx
    by_cases y1 : y = j
    · omega
    · rw [if_neg y1] at hy
      by_cases y2 : y = i
      · rw [if_pos y2] at hy; cases hy; have := inj hi hj; omega
      · rw [if_neg y2] at hy; have := inj hi hy; omega
  · rw [if_neg x1] at hx
    by_cases x2 : x = i
    · rw [if_pos x2] at hx
      cases hx
      by_cases y1 : y = j
      · rw [if_pos y1] at hy; cases hy; have := inj hi hj; omega
      · rw [if_neg y1] at hy
        by_cases y2 : y = i
        · omega
        · rw [if_neg y2] at hy; have := inj hj hy; omega
    · rw [if_neg x2] at hx
      by_cases y1 : y = j
      · rw [if_pos y1] at hy; cases hy; have := inj hi hx; omega
      · rw [if_neg y1] at hy
        by_cases y2 : y = i
        · rw [if_pos y2] at hy; cases hy; have := inj hj hx; omega
        · rw [if_neg y2] at hy; exact inj hx hy
theorem mem_swap {l : List Addr} {i j : Nat} {a b c : Addr} (hi : l[i]? = some a) (hj : l[j]? = some b) (m : c ∈ (l.set i b).set j a) : c ∈ l := by
  rcases List.mem_or_eq_of_mem_set m with m | rfl
  · rcases List.mem_or_eq_of_mem_set m with m | rfl
    · exact m
    · exact List.mem_of_getElem? hj
  · exact List.mem_of_getElem? hi
/-- what a turn asks of the sizes -/
def Tn.pre {κ : KX} (R : List (List κ.F)) : Tn κ → Prop
  | .swap _ _ => True
  | .scale i c => B1 κ c ∧ ∀ x ∈ R.getD i.toNat [], B1 κ x
  | .add i j c => B1 κ c ∧ (∀ x ∈ R.getD i.toNat [], B1 κ x) ∧ ∀ y ∈ R.getD j.toNat [], B1 κ y ∧ B1 κ (c * y)
def sp_make_turn (CF CR : Addr) : Sp := fun vs H Q _ => ∃ (κ : KX) (s r : Addr) (as : List Addr) (R : List (List κ.F)) (tv : V) (t : Tn κ), vs = [.ref s, .ref r, tv] ∧ KdX CF CR κ H s ∧ H r = some (.lst (as.map V.ref)) ∧ RowsX κ H as R ∧ r ∉ as ∧ (∀ f ∈ R, f.length ≤ 1000) ∧ TR κ H tv t ∧ t.ok R.length ∧ t.pre R ∧
  ∀ (H' : Hp) (as' : List Addr), Off [r] H H' → H' r = some (.lst (as'.map V.ref)) → RowsX κ H' as' (doT t R) → r ∉ as' → (as.Nodup → as'.Nodup) → (∀ a ∈ as', a ∈ as ∨ H a = none) → Q .non H'
def Nought (P : Program) (w : World) (K : PySem.W.Frag) (mg : Str → Option Value) (base : Heap) (CF CR : Addr) : Prop :=
  ∀ (κ : KX) (H : Hp) (s : Addr), KdX CF CR κ H s → ∃ C dx fs ps dvs sp, H s = some (.ins C dx fs) ∧ Cls K C ∧ HasM P w K mg base C "is_nought" 2 ps dvs sp ∧ fs.lookup ("is_nought" : Str) = none ∧ dvs = [] ∧
    ∀ (u : V) (x : κ.F) (Q : VK), NR κ H u x → (∀ b : Bool, (b = true ↔ x = 0) → Q (.bl b) H) → sp [.ref s, u] H Q E0
noncomputable def runT {κ : KX} (ts : List (Tn κ)) (R : List (List κ.F)) : List (List κ.F) := ts.foldl (fun R t => doT t R) R
theorem runT_len {κ : KX} (ts : List (Tn κ)) : ∀ R : List (List κ.F), (runT ts R).length = R.length := by
  induction ts with
  | nil => exact fun R => rfl
  | cons t ts ih => exact fun R => by show (runT ts (doT t R)).length = _; rw [ih, doT_len]
theorem runT_snoc {κ : KX} (ts : List (Tn κ)) (t : Tn κ) (R : List (List κ.F)) : runT (ts ++ [t]) R = doT t (runT ts R) := by
  unfold runT
  rw [List.foldl_append]
  rfl
theorem getD_get {α : Type} {R : List (List α)} {i : Nat} {f : List α} (h : R[i]? = some f) : R.getD i [] = f := by rw [List.getD_eq_getElem?_getD, h]; rfl
/-- as many numbers in each row -/
def Wid {α : Type} (m : Nat) (R : List (List α)) : Prop := ∀ f ∈ R, f.length = m
theorem Wid.get {α : Type} {m : Nat} {R : List (List α)} (h : Wid m R) {i : Nat} (hi : i < R.length) : (R.getD i []).length = m := by
  rw [getD_get (List.getElem?_eq_getElem hi)]
  exact h _ (List.getElem_mem hi)
theorem Wid.set {α : Type} {m i : Nat} {R : List (List α)} {f : List α} (h : Wid m R) (e : f.length = m) : Wid m (R.set i f) := fun g hg => by
  rcases List.mem_or_eq_of_mem_set hg with hg | rfl
  · exact h g hg
  · exact e
theorem doT_wid {κ : KX} {m : Nat} {t : Tn κ} {R : List (List κ.F)} (h : Wid m R) (ok : t.ok R.length) : Wid m (doT t R) := by
  cases t with
  | swap i j =>
    obtain ⟨hi, hj, _⟩ := ok
    exact (h.set (h.get (by omega))).set (h.get (by omega))
  | scale i c =>
    obtain ⟨hi, _⟩ := ok
    refine h.set ?_
    rw [List.length_map]
    exact h.get (by omega)
  | add i j c =>
    obtain ⟨hi, hj, _⟩ := ok
    refine h.set ?_
    rw [List.length_zipWith, List.length_map, h.get (by omega), h.get (by omega)]
    exact Nat.min_self m
theorem off_upd' {H H' : Hp} {t : Addr} {o : HO} (S : Same H H') : Off [t] H (upd H' t o) := fun b u n q => by
  rw [upd_ne (fun z => n (by rw [z]; exact List.mem_singleton.mpr rfl))]
  exact S _ _ q
theorem ref_atI {as : List Addr} {i : Int} {a : Addr} (h0 : 0 ≤ i) (h : as[i.toNat]? = some a) : atI (as.map V.ref) i = some (.ref a) := by
  have e : i = ((i.toNat : Nat) : Int) := by omega
  rw [e]
  exact ref_at h
theorem ixN_int {n : Nat} {i : Int} (h0 : 0 ≤ i) (h : i < n) : ixN n i = some i.toNat := by
  have e : i = ((i.toNat : Nat) : Int) := by omega
  rw [e, Int.toNat_natCast]
  exact ixN_nat (by omega)
theorem map_set_ref {as : List Addr} {i : Nat} {a : Addr} : (as.map V.ref).set i (.ref a) = (as.set i a).map V.ref := by rw [List.map_set]
theorem RowsX.notin {κ : KX} {H : Hp} {as : List Addr} {R : List (List κ.F)} {r : Addr} (h : RowsX κ H as R) (n : H r = none) : r ∉ as := fun m => by
  obtain ⟨i, hi, e⟩ := List.getElem_of_mem m
  have l := h.1
  obtain ⟨zs, hz, _⟩ := h.2 i r _ (by rw [← e]; exact List.getElem?_eq_getElem hi) (List.getElem?_eq_getElem (show i < R.length by omega))
  rw [hz] at n; cases n
theorem RowsX.snoc {κ : KX} {H : Hp} {as : List Addr} {R : List (List κ.F)} {a : Addr} {xs : List V} {f : List κ.F} (h : RowsX κ H as R) (hx : H a = some (.lst xs)) (al : AllG (NR κ H) xs f) : RowsX κ H (as ++ [a]) (R ++ [f]) := by
  have l := h.1
  refine ⟨by rw [List.length_append, List.length_append, l]; rfl, fun i b g hb hg => ?_⟩
  by_cases hi : i < as.length
  · rw [List.getElem?_append_left hi] at hb
    rw [List.getElem?_append_left (by omega)] at hg
    exact h.2 i b g hb hg
  · rw [List.getElem?_append_right (by omega)] at hb hg
    rw [← l] at hg
    cases q : i - as.length with
    | zero => rw [q] at hb hg; cases hb; cases hg; exact ⟨xs, hx, al⟩
    | succ n => rw [q] at hb; simp at hb
theorem RowsX.nil {κ : KX} {H : Hp} : RowsX κ H [] [] := ⟨rfl, fun i a f h => by simp at h⟩
open PySem L2 PyProof.Rows
/-- the size of a number of the table behind n turns -/
def Sz (κ : KX) (n : Nat) (x : κ.F) : Prop := match κ with
  | .q => (x.den : Int) ∣ 60 * 12 ^ n ∧ Bits (200 + 700 * n) x.num
  | .r _ _ => True
/-- the size of a turn's number -/
def Sc (κ : KX) (x : κ.F) : Prop := match κ with
  | .q => (x.den : Int) ∣ 12 ∧ Bits 200 x.num
  | .r _ _ => True
theorem lo_q {t b : Int} (hb : 0 < b) : (t.fdiv (Int.gcd t b) = (Rat.divInt t b).num) ∧ (b.fdiv (Int.gcd t b) = ((Rat.divInt t b).den : Int)) := by
  obtain ⟨l1, l2, l3, _, _⟩ := M3.low (t := t) hb
  obtain ⟨e1, e2⟩ := rat_of (N := t) (D := b) ⟨l2, l1⟩ hb l3
  exact ⟨e1.symm, e2.symm⟩
def sp_lowQ : Sp := fun vs H Q _ => ∃ t b : Int, vs = [.int t, .int b] ∧ 0 < b ∧ Bits 8000 b ∧ ∀ r, H r = none → Q (.ref r) (upd H r (.tup [.int (Rat.divInt t b).num, .int ((Rat.divInt t b).den : Int)]))
def sp_l_op2 (g : (κ : KX) → κ.F → κ.F → κ.F) : Sp := fun vs H Q _ => ∃ (κ : KX) (u v : V) (x y : κ.F), vs = [.int κ.P, u, v] ∧ NR κ H u x ∧ NR κ H v y ∧ B1 κ x ∧ B1 κ y ∧ ∀ H' t, Same H H' → NR κ H' t (g κ x y) → Q t H'
theorem dvd60 {b : Int} (h0 : 1 ≤ b) (h : b ≤ 6) : b ∣ 60 := by
  rcases (by omega : b = 1 ∨ b = 2 ∨ b = 3 ∨ b = 4 ∨ b = 5 ∨ b = 6) with rfl | rfl | rfl | rfl | rfl | rfl <;> decide
theorem r_pos {p : Nat} {h : PrN p} : 0 < (KX.r p h).P := by have := h.two; show 0 < (p : Int); omega
theorem r_emod {p : Nat} (h : PrN p) (c : Int) : ∃ x : Fin p, (c.fmod (p : Int)) = (x.val : Int) := by
  have h2 := h.two
  rw [Int.fmod_eq_emod_of_nonneg _ (by omega)]
  have e0 := Int.emod_nonneg c (show (p : Int) ≠ 0 by omega)
  have e1 := Int.emod_lt_of_pos c (show 0 < (p : Int) by omega)
  exact ⟨⟨(c % p).toNat, by omega⟩, by show c % p = (((c % p).toNat : Nat) : Int); omega⟩
theorem AllR.snoc {κ : KX} {Pr : κ.F → Prop} {R : List (List κ.F)} {f : List κ.F} (h : AllR Pr R) (g : ∀ x ∈ f, Pr x) : AllR Pr (R ++ [f]) := fun e he => by
  rcases List.mem_append.mp he with he | he
  · exact h e he
  · rw [List.mem_singleton.mp he]; exact g
theorem Wid.snoc {α : Type} {m : Nat} {R : List (List α)} {f : List α} (h : Wid m R) (e : f.length = m) : Wid m (R ++ [f]) := fun g hg => by
  rcases List.mem_append.mp hg with hg | hg
  · exact h g hg
  · rw [List.mem_singleton.mp hg]; exact e
theorem if_yes' {a b : Int} {A B : Prop} (h : a = b) (k : A) : if decide (V.int a = V.int b) = true then A else B := if_eqI (fun _ => k) (fun z => absurd h z)
theorem if_no' {a b : Int} {A B : Prop} (h : a ≠ b) (k : B) : if decide (V.int a = V.int b) = true then A else B := if_eqI (fun z => absurd z h) (fun _ => k)
def TSc {κ : KX} : Tn κ → Prop
  | .swap _ _ => True
  | .scale _ c => Sc κ c
  | .add _ _ c => Sc κ c
noncomputable abbrev K1 (κ : KX) : κ.F := 1
noncomputable abbrev K0 (κ : KX) : κ.F := 0
theorem one_val {p : Nat} (h : PrN p) : Fin.val (K1 (.r p h)) = 1 := by
  show 1 % p = 1
  exact Nat.mod_eq_of_lt h.two
theorem zero_val {p : Nat} (h : PrN p) : Fin.val (K0 (.r p h)) = 0 := by
  show 0 % p = 0
  exact Nat.zero_mod p
theorem fmodN {a : Int} {n : Nat} (h : 1 ≤ n) : ∃ i : Nat, a.fmod (n : Int) = (i : Int) ∧ i < n := by
  rw [Int.fmod_eq_emod_of_nonneg _ (by omega)]
  have e0 := Int.emod_nonneg a (show (n : Int) ≠ 0 by omega)
  have e1 := Int.emod_lt_of_pos a (show 0 < (n : Int) by omega)
  exact ⟨(a % n).toNat, by omega, by omega⟩
def sp_l_behindX : Sp := fun vs H Q _ => ∃ (κ : KX) (t : Addr) (rs : List Addr) (R : List (List κ.F)) (tv : V) (tt : Tn κ), vs = [.int κ.P, .ref t, tv] ∧ H t = some (.lst (rs.map V.ref)) ∧ RowsX κ H rs R ∧ R.length ≤ 1000 ∧ (∀ f ∈ R, f.length ≤ 1000) ∧ TR κ H tv tt ∧ tt.ok R.length ∧ tt.pre R ∧
  ∀ (H' : Hp) (D : Addr) (rs' : List Addr), Same H H' → H' D = some (.lst (rs'.map V.ref)) → RowsX κ H' rs' (doT tt R) → Q (.ref D) H'
theorem kitAny_no {K : PySem.W.Frag} {t : Value} : ∀ {cs : List Addr}, (∀ c ∈ cs, PySem.W.kitOne K t (.ref c) = some false) → PySem.W.kitAny K t (cs.map Value.ref) = some false
  | [], _ => rfl
  | c :: cs, h => by
    have h1 := h c (by simp)
    have h2 := kitAny_no (cs := cs) fun x hx => h x (by simp [hx])
    simp only [List.map_cons, PySem.W.kitAny, h1, h2]
def tabD {κ : KX} (R : List (List κ.F)) : PyData := .list (R.map fun f => .list (f.map κ.D))
theorem RowsX.rp {κ : KX} {H : Hp} {t : Addr} {as : List Addr} {R : List (List κ.F)} (h : RowsX κ H as R) (ht : H t = some (.lst (as.map V.ref))) : Rp H 3 (.ref t) (tabD R) := by
  refine rp_lst ht ⟨by rw [List.length_map, List.length_map]; exact h.1, fun i v d hv hd => ?_⟩
  obtain ⟨a, ha, rfl⟩ := map_ref_get hv
  rw [List.getElem?_map] at hd
  cases e : R[i]? with
  | none => rw [e] at hd; cases hd
  | some f =>
    rw [e] at hd
    cases hd
    obtain ⟨xs, hx, al⟩ := h.2 i a f ha e
    exact rp_lst hx (al.all2 fun _ _ n => n.rp)
def sp_l_number_isX : Sp := fun vs H Q _ => ∃ (κ : KX) (u v : V) (x : κ.F), vs = [.int κ.P, u, v] ∧ NR κ H u x ∧ NR κ H v x ∧ Q (.bl true) H
theorem runT_wid {κ : KX} {m : Nat} {ts : List (Tn κ)} : ∀ {R : List (List κ.F)}, Wid m R → (∀ t ∈ ts, t.ok R.length) → Wid m (runT ts R) := by
  induction ts with
  | nil => exact fun h _ => h
  | cons t ts ih =>
    intro R h ok
    show Wid m (runT ts (doT t R))
    refine ih (doT_wid h (ok t (by simp))) fun t' ht' => ?_
    rw [doT_len]
    exact ok t' (by simp [ht'])
theorem pow12 (n : Nat) : 0 < (60 : Int) * 12 ^ n := Int.mul_pos (by decide) (Int.pow_pos (by decide))
theorem bits_den {n : Nat} {d : Int} (h : d ∣ 60 * 12 ^ n) : Bits (6 + 4 * n) d := by
  refine Bits.of ?_
  have h1 := le_of_dvd' h (by have := pow12 n; omega)
  refine Nat.lt_of_le_of_lt h1 ?_
  rw [Int.natAbs_mul, Int.natAbs_pow]
  show 60 * 12 ^ n < 2 ^ (6 + 4 * n)
  rw [Nat.pow_add, Nat.pow_mul]
  have a : 12 ^ n ≤ (2 ^ 4) ^ n := Nat.pow_le_pow_left (by decide) n
  have b : 0 < (2 ^ 4) ^ n := Nat.pow_pos (by decide)
  show 60 * 12 ^ n < 64 * _
  omega
section
variable {κ : KX}
theorem Sz.up {n : Nat} {x : κ.F} (h : Sz κ n x) : Sz κ (n + 1) x := by
  cases κ with
  | q =>
    refine ⟨Int.dvd_trans h.1 ?_, h.2.up (by omega)⟩
    rw [Int.pow_succ, ← Int.mul_assoc]
    exact Int.dvd_mul_right _ _
  | r p hp => trivial
theorem Sz.b1 {n : Nat} {x : κ.F} (hn : κ = .q → n ≤ 70) (h : Sz κ n x) : B1 κ x := by
  cases κ with
  | q =>
    have hn := hn rfl
    exact ⟨h.2.up (by omega), (bits_den h.1).up (by omega)⟩
  | r p hp => trivial
theorem Sc.b1 {x : κ.F} (h : Sc κ x) : B1 κ x := by
  cases κ with
  | q =>
    refine ⟨h.2.up (by decide), ?_⟩
    have : ((x.den : Nat) : Int) ∣ 60 * 12 ^ 1 := Int.dvd_trans h.1 (by decide)
    exact (bits_den this).up (by decide)
  | r p hp => trivial
theorem AllR.getD {Pr : κ.F → Prop} {R : List (List κ.F)} (h : AllR Pr R) (i : Nat) : ∀ x ∈ R.getD i [], Pr x := fun x hx => by
  rw [List.getD_eq_getElem?_getD] at hx
  cases e : R[i]? with
  | none => rw [e] at hx; cases hx
  | some f => rw [e] at hx; exact h f (List.mem_of_getElem? e) x hx
theorem AllR.set {Pr : κ.F → Prop} {R : List (List κ.F)} {i : Nat} {f : List κ.F} (h : AllR Pr R) (g : ∀ x ∈ f, Pr x) : AllR Pr (R.set i f) := fun e he => by
  rcases List.mem_or_eq_of_mem_set he with he | rfl
  · exact h e he
  · exact g
theorem mem_zipWith {α : Type} {f : α → α → α} {z : α} : ∀ {a b : List α}, z ∈ List.zipWith f a b → ∃ x ∈ a, ∃ y ∈ b, z = f x y
  | [], _, h => by simp at h
  | _ :: _, [], h => by simp at h
  | x :: a, y :: b, h => by
    rw [List.zipWith_cons_cons] at h
    rcases List.mem_cons.mp h with rfl | h
    · exact ⟨x, by simp, y, by simp, rfl⟩
    · obtain ⟨u, hu, v, hv, e⟩ := mem_zipWith h
      exact ⟨u, by simp [hu], v, by simp [hv], e⟩
end
/-- the law's turns -/
structure TU (κ : KX) (H : Hp) (U : Addr) (n : Nat) (tvs : List V) (ts : List (Tn κ)) : Prop where
  l : H U = some (.lst tvs)
  al : AllG (TR κ H) tvs ts
  ok : ∀ t ∈ ts, t.ok n
  sc : ∀ t ∈ ts, TSc t
  l1 : 1 ≤ ts.length
  l3 : ts.length ≤ 300
  lq : κ = .q → ts.length ≤ 64
theorem TU.same {κ : KX} {H H' : Hp} {U : Addr} {n : Nat} {tvs : List V} {ts : List (Tn κ)} (h : TU κ H U n tvs ts) (S : Same H H') : TU κ H' U n tvs ts := ⟨S _ _ h.l, h.al.mono fun _ _ n => n.same S, h.ok, h.sc, h.l1, h.l3, h.lq⟩
theorem cut_takeX (xs : List V) (n : Nat) : cutV xs none (some (n : Int)) = xs.take n := by
  unfold cutV
  rw [HT.sIx_none, List.drop_zero, Nat.sub_zero]
  rw [HT.sIx_nat, Nat.min_def]
  split
  · rfl
  · rw [List.take_of_length_le (Nat.le_refl _), List.take_of_length_le (by omega)]
theorem cut_dropX (xs : List V) (n : Nat) : cutV xs (some (n : Int)) none = xs.drop n := by
  unfold cutV
  rw [HT.sIx_none, HT.sIx_nat]
  by_cases h : n ≤ xs.length
  · rw [Nat.min_eq_left h, List.take_of_length_le]
    rw [List.length_drop]
    omega
  · rw [Nat.min_eq_right (by omega), List.drop_of_length_le (by omega), List.drop_of_length_le (by omega)]
    simp
end My

namespace My
open PySem L2 PyProof.Rows
theorem inv_uniq {α : Type} [Fd α] {x r : α} (h : x * r = 1) : r = Fd.inv x := by
  have hx : x ≠ 0 := fun z => by
    subst z
    have e : (0 : α) * r = 0 := by grind
    rw [e] at h
    exact Fd.zne h
  have := Fd.mul_inv x hx
  grind
theorem rat_mk {n d : Int} (fc : Fc n d) : ∃ q : Rat, q.num = n ∧ (q.den : Int) = d := by
  have hd := fc.pos
  refine ⟨⟨n, d.toNat, by omega, ?_⟩, rfl, by show ((d.toNat : Nat) : Int) = d; omega⟩
  have := fc.cop
  rw [Nat.coprime_iff_gcd_eq_one]
  have e : Int.gcd n d = Nat.gcd n.natAbs d.natAbs := rfl
  have e2 : d.natAbs = d.toNat := by omega
  rw [← e2]
  omega
theorem rat_inv {q : Rat} {x y : Int} (fc : Fc x y) (e : x * q.num = q.den * y) : (Fd.inv q : Rat).num = x ∧ ((Fd.inv q : Rat).den : Int) = y := by
  obtain ⟨r, e1, e2⟩ := rat_mk fc
  have m := rat_mul (x := q) (y := r) (n := 1) (d := 1) ⟨by decide, by decide⟩ (by rw [e1, e2]; have : q.num * x = x * q.num := Int.mul_comm _ _; omega)
  have h1 : q * r = 1 := by
    rw [← Rat.num_divInt_den (q * r), m.1, m.2]; rfl
  have := inv_uniq (α := Rat) h1
  rw [← this]
  exact ⟨e1, e2⟩
theorem rat_sub {x y : Rat} {n d : Int} (fc : Fc n d) (e : n * ((x.den : Int) * y.den) = (x.num * y.den + (-y.num) * x.den) * d) : (x - y).num = n ∧ ((x - y).den : Int) = d := by
  have h1 : (-y).num = -y.num := rfl
  have h2 : (-y).den = y.den := rfl
  have : x - y = x + (-y) := by grind
  rw [this]
  refine rat_add (x := x) (y := -y) fc ?_
  rw [h1, h2]; exact e
noncomputable abbrev KX.mulF (κ : KX) (x y : κ.F) : κ.F := x * y
noncomputable abbrev KX.invF (κ : KX) (x : κ.F) : κ.F := Fd.inv x
theorem inv_uniqK {κ : KX} {x r : κ.F} (h : κ.mulF x r = K1 κ) : r = κ.invF x := inv_uniq h
/-- x is the whole number t -/
def NumV (κ : KX) (t : Int) (x : κ.F) : Prop := match κ with
  | .q => x.num = t ∧ x.den = 1
  | .r p _ => t.natAbs ≤ 10 ^ 140 ∧ (x.val : Int) = t % p
theorem numV0 {κ : KX} : NumV κ 0 0 := by
  cases κ with
  | q => exact ⟨rfl, rfl⟩
  | r p h => exact ⟨by decide, by show ((Fin.val (K0 (.r p h)) : Nat) : Int) = _; rw [zero_val]; simp⟩
theorem numV1 {κ : KX} : NumV κ 1 1 := by
  cases κ with
  | q => exact ⟨rfl, rfl⟩
  | r p h => exact ⟨by decide, by
      show ((Fin.val (K1 (.r p h)) : Nat) : Int) = _
      rw [one_val]
      have := h.two
      exact (Int.emod_eq_of_lt (by decide) (by omega)).symm⟩
theorem NumV.uniq {κ : KX} {t : Int} {x y : κ.F} (h : NumV κ t x) (h' : NumV κ t y) : x = y := by
  cases κ with
  | q =>
    have e1 : Rat.num x = Rat.num y := h.1.trans h'.1.symm
    have e2 : Rat.den x = Rat.den y := h.2.trans h'.2.symm
    exact Rat.ext e1 e2
  | r p hp =>
    refine Fin.ext ?_
    have e : (Fin.val x : Int) = Fin.val y := h.2.trans h'.2.symm
    omega
def MethM (P : Program) (w : World) (K : PySem.W.Frag) (mg : Str → Option Value) (base : Heap) (CF CR : Addr) : Prop :=
  ∀ (κ : KX) (H : Hp) (s : Addr), KdX CF CR κ H s → ∃ C dx fs ps dvs sp, H s = some (.ins C dx fs) ∧ Cls K C ∧ HasM P w K mg base C "minus" 3 ps dvs sp ∧ fs.lookup ("minus" : Str) = none ∧ dvs = [] ∧
    ∀ (H' : Hp) (u v : V) (x y : κ.F) (Q : VK), Same H H' → NR κ H' u x → NR κ H' v y → B1 κ x → B1 κ y → (∀ t H'', Same H' H'' → NR κ H'' t (x - y) → Q t H'') → sp [.ref s, u, v] H' Q E0
def MethNum (P : Program) (w : World) (K : PySem.W.Frag) (mg : Str → Option Value) (base : Heap) (CF CR : Addr) : Prop :=
  ∀ (κ : KX) (H : Hp) (s : Addr), KdX CF CR κ H s → ∃ C dx fs ps dvs sp, H s = some (.ins C dx fs) ∧ Cls K C ∧ HasMX P w K mg base C "number" 3 ps dvs sp ∧ fs.lookup ("number" : Str) = none ∧ dvs = [.int 1] ∧
    ∀ (H' : Hp) (t : Int) (x : κ.F) (Q : VK) (E : XK), Same H H' → NumV κ t x → (∀ v H'', Same H' H'' → NR κ H'' v x → Q v H'') → sp [.ref s, .int t, .int 1] H' Q E
def MethBack (P : Program) (w : World) (K : PySem.W.Frag) (mg : Str → Option Value) (base : Heap) (CF CR : Addr) : Prop :=
  ∀ (κ : KX) (H : Hp) (s : Addr), KdX CF CR κ H s → ∃ C dx fs ps dvs sp, H s = some (.ins C dx fs) ∧ Cls K C ∧ HasMX P w K mg base C "back" 4 ps dvs sp ∧ fs.lookup ("back" : Str) = none ∧ dvs = [] ∧
    ∀ (H' : Hp) (u : V) (x : κ.F) (Q : VK) (E : XK), Same H H' → NR κ H' u x → x ≠ 0 → (∀ v H'', Same H' H'' → NR κ H'' v (Fd.inv x) → Q v H'') → sp [.ref s, u] H' Q E
section
variable {P : Program} {w : World} {K : PySem.W.Frag} {mg : Str → Option Value} {base : Heap} {CF CR cN : Addr}
theorem meth_minus (kd : Kd K mg CF CR) (hF : HasM P w K mg base CF "minus" 3 ["self", "one", "other"] [] (sp_FminusG K CF)) (hR : HasM P w K mg base CR "minus" 3 ["self", "one", "other"] [] (sp_Rop CR fun a b => a - b)) : MethM P w K mg base CF CR := by
  intro κ H s hk
  cases κ with
  | q =>
    obtain ⟨dx, h⟩ := hk
    refine ⟨CF, dx, [], _, _, _, h, kd.clF, hF, rfl, rfl, fun H' u v x y Q S hu hv bx by' k => ?_⟩
    obtain ⟨a, rfl, hu⟩ := hu
    obtain ⟨b, rfl, hv⟩ := hv
    refine ⟨s, a, b, _, _, _, _, rfl, ⟨dx, S _ _ h⟩, SqT.of hu, SqT.of hv, rat_fc x, rat_fc y, bx.1, bx.2, by'.1, by'.2, fun t H'' n d S' ht hn fc e => ?_⟩
    obtain ⟨e1, e2⟩ := rat_sub (x := x) (y := y) fc e
    refine k (.ref t) H'' S' ⟨t, rfl, ?_⟩
    show H'' t = some (.tup [.int (x - y : Rat).num, .int ((x - y : Rat).den : Int)])
    rw [e1, e2]
    exact ht
  | r p hp =>
    obtain ⟨dx, h⟩ := hk
    refine ⟨CR, dx, fsR p, _, _, _, h, kd.clR, hR, fsR_no _ (by decide), rfl, fun H' u v x y Q S hu hv _ _ k => ?_⟩
    have hu : u = .int x.val := hu
    have hv : v = .int y.val := hv
    subst hu hv
    refine ⟨s, p, _, _, rfl, ⟨dx, S _ _ h⟩, by have := hp.two; omega, rest_small hp x, rest_small hp y, k _ H' (Same.refl _) ?_⟩
    show V.int (((x.val : Int) - y.val) % p) = V.int ((Fin.val (x - y) : Nat) : Int)
    have e : Fin.val (x - y) = (p - y.val + x.val) % p := rfl
    have ly := y.isLt
    have e2 : (((p - y.val + x.val : Nat)) : Int) = ((x.val : Int) - y.val) + p := by omega
    rw [e, Int.natCast_emod, e2, Int.add_emod_right]
theorem meth_number (kd : Kd K mg CF CR) (hF : HasMX P w K mg base CF "number" 3 ["self", "top", "bottom"] [.int 1] (sp_Fnumber cN)) (hR : HasMX P w K mg base CR "number" 3 ["self", "top", "bottom"] [.int 1] (sp_Rnumber CR cN)) : MethNum P w K mg base CF CR := by
  intro κ H s hk
  cases κ with
  | q =>
    obtain ⟨dx, h⟩ := hk
    refine ⟨CF, dx, [], _, _, _, h, kd.clF, hF, rfl, rfl, fun H' t x Q E S hx k => ⟨s, t, 1, rfl, by decide, fun z => absurd z (by decide), fun _ r n d nr fc e l1 l2 => ?_⟩⟩
    have y1 : d = 1 := by
      have := fc.pos
      have l3 : d.natAbs ≤ 1 := l2
      omega
    subst y1
    have x1 : n = t := by omega
    subst x1
    have e1 : Rat.num x = n := hx.1
    have e2 : Rat.den x = 1 := hx.2
    refine k _ _ (same_new nr _) ⟨r, rfl, ?_⟩
    show upd H' r _ r = some (.tup [.int (Rat.num x), .int ((Rat.den x : Nat) : Int)])
    rw [e1, e2]; exact upd_same
  | r p hp =>
    obtain ⟨dx, h⟩ := hk
    have h2 := hp.pr.1
    refine ⟨CR, dx, _, _, _, _, h, kd.clR, hR, fsR_no p (by decide), rfl, fun H' t x Q E S hx k => ⟨s, p, t, 1, rfl, ⟨dx, S _ _ h⟩, hp.pr, by have := hp.lt; omega, hx.1, by decide, fun z => ?_, fun _ H'' r S' r0 r1 rd => ?_⟩⟩
    · have := Int.le_of_dvd (by decide) z
      omega
    · refine k _ H'' S' ?_
      show V.int r = V.int ((Fin.val x : Nat) : Int)
      have e : (Fin.val x : Int) = t % p := hx.2
      rw [e]
      congr 1
      rw [Int.mul_one] at rd
      have e3 : r % p = t % p := Int.emod_eq_emod_iff_emod_sub_eq_zero.mpr (Int.emod_eq_zero_of_dvd rd)
      rw [← e3]
      exact (Int.emod_eq_of_lt r0 r1).symm
theorem meth_back (kd : Kd K mg CF CR) (hF : HasMX P w K mg base CF "back" 4 ["self", "one"] [] (sp_Fback K cN)) (hR : HasMX P w K mg base CR "back" 4 ["self", "one"] [] (sp_Rback CR cN)) : MethBack P w K mg base CF CR := by
  intro κ H s hk
  cases κ with
  | q =>
    obtain ⟨dx, h⟩ := hk
    refine ⟨CF, dx, [], _, _, _, h, kd.clF, hF, rfl, rfl, fun H' u x Q E S hu hx k => ?_⟩
    obtain ⟨a, rfl, hu⟩ := hu
    have hn : Rat.num x ≠ 0 := fun z => hx (Rat.num_eq_zero.mp z)
    refine ⟨s, a, _, _, rfl, SqT.of hu, rat_fc x, fun z => absurd z hn, fun _ r n d nr fc e l1 l2 => ?_⟩
    obtain ⟨e1, e2⟩ := rat_inv (q := x) fc e
    refine k _ _ (same_new nr _) ⟨r, rfl, ?_⟩
    show upd H' r _ r = some (.tup [.int (Fd.inv x : Rat).num, .int ((Fd.inv x : Rat).den : Int)])
    rw [e1, e2]; exact upd_same
  | r p hp =>
    obtain ⟨dx, h⟩ := hk
    have h2 := hp.two
    refine ⟨CR, dx, _, _, _, _, h, kd.clR, hR, fsR_no p (by decide), rfl, fun H' u x Q E S hu hx k => ?_⟩
    have hu : u = .int x.val := hu
    subst hu
    have xl := x.isLt
    have x0 : x.val ≠ 0 := fun z => hx (show x = K0 (.r p hp) from Fin.ext (by rw [zero_val]; exact z))
    have nd : ¬ (p : Int) ∣ (x.val : Int) := fun z => by
      have := Int.le_of_dvd (by omega) z
      omega
    refine ⟨s, p, _, rfl, ⟨dx, S _ _ h⟩, hp.pr, by have := hp.lt; omega, Nat.le_trans (show _ ≤ 1000000 by have := hp.lt; omega) (by decide), fun z => absurd z nd, fun _ H'' r S' r0 r1 rd => ?_⟩
    refine k _ H'' S' ?_
    have hy : (KX.r p hp).mulF x (⟨r.toNat, by omega⟩ : Fin p) = K1 (.r p hp) := by
      refine Fin.ext ?_
      show Fin.val ((x : Fin p) * (⟨r.toNat, by omega⟩ : Fin p)) = Fin.val (K1 (.r p hp))
      rw [one_val, Fin.val_mul]
      show x.val * r.toNat % p = 1
      have e : ((x.val * r.toNat % p : Nat) : Int) = ((1 : Nat) : Int) := by
        rw [Int.natCast_emod, Int.natCast_mul, Int.toNat_of_nonneg r0]
        have e3 : r * (x.val : Int) % p = 1 % p := Int.emod_eq_emod_iff_emod_sub_eq_zero.mpr (Int.emod_eq_zero_of_dvd rd)
        rw [Int.mul_comm, e3]
        exact Int.emod_eq_of_lt (by decide) (by omega)
      exact_mod_cast e
    have := inv_uniqK (κ := .r p hp) hy
    show V.int r = V.int ((Fin.val ((KX.r p hp).invF x) : Nat) : Int)
    rw [show (KX.r p hp).invF x = _ from this.symm]
    show V.int r = V.int ((r.toNat : Nat) : Int)
    rw [Int.toNat_of_nonneg r0]
end
end My
namespace My
open PySem L2 PyProof.Rows
theorem b1_zero {κ : KX} : B1 κ 0 := by
  cases κ with
  | q => exact ⟨Bits.of (by show (0 : Int).natAbs < _; exact Nat.two_pow_pos _), Bits.of (by show (1 : Int).natAbs < _; exact Nat.lt_of_lt_of_le (show 1 < 2 ^ 1 by decide) (Nat.pow_le_pow_right (by decide) (by decide)))⟩
  | r p h => trivial
end My

set_option maxHeartbeats 1000000
namespace My
open PySem L2 PyProof.Rows
section
variable {κ : KX}
/-- the number of row i and column j -/
noncomputable def ent (R : List (List κ.F)) (i j : Nat) : κ.F := (R.getD i []).getD j 0
theorem getD_set_self {α : Type} {R : List (List α)} {i : Nat} {f : List α} (h : i < R.length) : (R.set i f).getD i [] = f := getD_get (by rw [List.getElem?_set, if_pos rfl, if_pos h])
theorem getD_set_ne {α : Type} {R : List (List α)} {i j : Nat} {f : List α} (h : i ≠ j) : (R.set i f).getD j [] = R.getD j [] := by
  rw [List.getD_eq_getElem?_getD, List.getD_eq_getElem?_getD, List.getElem?_set, if_neg h]
theorem ent_set {R : List (List κ.F)} {i k j : Nat} {f : List κ.F} (h : i < R.length) : ent (R.set i f) k j = if k = i then f.getD j 0 else ent R k j := by
  unfold ent
  by_cases e : k = i
  · subst e; rw [if_pos rfl, getD_set_self h]
  · rw [if_neg e, getD_set_ne (Ne.symm e)]
theorem getD_mul (f : List κ.F) (c : κ.F) (j : Nat) : (f.map (c * ·)).getD j 0 = c * f.getD j 0 := by
  rw [List.getD_eq_getElem?_getD, List.getD_eq_getElem?_getD, List.getElem?_map]
  cases f[j]? with
  | none => show (0 : κ.F) = c * 0; grind
  | some x => rfl
theorem getD_add {f g : List κ.F} (h : f.length = g.length) (j : Nat) : (List.zipWith (· + ·) f g).getD j 0 = f.getD j 0 + g.getD j 0 := by
  rw [List.getD_eq_getElem?_getD, List.getD_eq_getElem?_getD, List.getD_eq_getElem?_getD, List.getElem?_zipWith]
  by_cases hj : j < f.length
  · rw [List.getElem?_eq_getElem hj, List.getElem?_eq_getElem (by omega)]; rfl
  · rw [List.getElem?_eq_none (by omega), List.getElem?_eq_none (by omega)]
    show (0 : κ.F) = 0 + 0
    grind
theorem ent_swap {R : List (List κ.F)} {a b : Int} (ha : a.toNat < R.length) (hb : b.toNat < R.length) (i j : Nat) : ent (doT (.swap a b) R) i j = if i = b.toNat then ent R a.toNat j else if i = a.toNat then ent R b.toNat j else ent R i j := by
  show ent ((R.set a.toNat (R.getD b.toNat [])).set b.toNat (R.getD a.toNat [])) i j = _
  rw [ent_set (by rw [List.length_set]; exact hb), ent_set ha]
  rfl
theorem ent_scale {R : List (List κ.F)} {a : Int} {c : κ.F} (ha : a.toNat < R.length) (i j : Nat) : ent (doT (.scale a c) R) i j = if i = a.toNat then c * ent R i j else ent R i j := by
  show ent (R.set a.toNat ((R.getD a.toNat []).map (c * ·))) i j = _
  rw [ent_set ha, getD_mul]
  by_cases e : i = a.toNat
  · rw [if_pos e, if_pos e, e]; rfl
  · rw [if_neg e, if_neg e]
theorem ent_add {m : Nat} {R : List (List κ.F)} {a b : Int} {c : κ.F} (wd : Wid m R) (ha : a.toNat < R.length) (hb : b.toNat < R.length) (i j : Nat) : ent (doT (.add a b c) R) i j = if i = a.toNat then ent R i j + c * ent R b.toNat j else ent R i j := by
  show ent (R.set a.toNat (List.zipWith (· + ·) (R.getD a.toNat []) ((R.getD b.toNat []).map (c * ·)))) i j = _
  rw [ent_set ha, getD_add (by rw [List.length_map, wd.get ha, wd.get hb]), getD_mul]
  by_cases e : i = a.toNat
  · rw [if_pos e, if_pos e, e]; rfl
  · rw [if_neg e, if_neg e]
theorem RowsX.ent {m : Nat} {H : Hp} {as : List Addr} {R : List (List κ.F)} (rx : RowsX κ H as R) (wd : Wid m R) {i j : Nat} (hi : i < R.length) (hj : j < m) : ∃ a xs v, as[i]? = some a ∧ H a = some (.lst xs) ∧ xs[j]? = some v ∧ NR κ H v (ent R i j) := by
  obtain ⟨a, xs, ha, hx, al⟩ := rx.get hi
  have l := wd.get hi
  have e : R.getD i [] = R[i] := getD_get (List.getElem?_eq_getElem hi)
  rw [e] at l
  obtain ⟨v, hv, nv⟩ := al.get' (i := j) (by omega)
  refine ⟨a, xs, v, ha, hx, hv, ?_⟩
  unfold My.ent
  rw [e, List.getD_eq_getElem?_getD, List.getElem?_eq_getElem (by omega)]
  exact nv
theorem ent_all {m : Nat} {Pr : κ.F → Prop} {R : List (List κ.F)} (wd : Wid m R) (h : ∀ i < R.length, ∀ j < m, Pr (ent R i j)) : AllR Pr R := by
  intro f hf x hx
  obtain ⟨i, hi, rfl⟩ := List.getElem_of_mem hf
  obtain ⟨j, hj, rfl⟩ := List.getElem_of_mem hx
  have l := wd _ hf
  have := h i hi j (by omega)
  unfold ent at this
  rw [getD_get (List.getElem?_eq_getElem hi), List.getD_eq_getElem?_getD, List.getElem?_eq_getElem hj] at this
  exact this
theorem ent_row {m : Nat} {Pr : κ.F → Prop} {R : List (List κ.F)} (wd : Wid m R) {i : Nat} (hi : i < R.length) (h : ∀ j < m, Pr (ent R i j)) : ∀ x ∈ R.getD i [], Pr x := by
  intro x hx
  obtain ⟨j, hj, rfl⟩ := List.getElem_of_mem hx
  have l := wd.get hi
  have := h j (by omega)
  unfold ent at this
  rw [List.getD_eq_getElem?_getD, List.getElem?_eq_getElem hj] at this
  exact this
theorem all_ent {m : Nat} {Pr : κ.F → Prop} {R : List (List κ.F)} (wd : Wid m R) (h : AllR Pr R) {i j : Nat} (hi : i < R.length) (hj : j < m) : Pr (ent R i j) := by
  have l := wd.get hi
  unfold ent
  rw [List.getD_eq_getElem?_getD, List.getElem?_eq_getElem (by omega)]
  refine h _ ?_ _ (List.getElem_mem _)
  rw [getD_get (List.getElem?_eq_getElem hi)]
  exact List.getElem_mem hi
/-- tables alike number by number are alike -/
theorem ent_ext {m : Nat} {R S : List (List κ.F)} (l : R.length = S.length) (w1 : Wid m R) (w2 : Wid m S) (h : ∀ i < R.length, ∀ j < m, ent R i j = ent S i j) : R = S := by
  apply List.ext_getElem l
  intro i h1 h2
  have a := w1 _ (List.getElem_mem h1)
  have b := w2 _ (List.getElem_mem h2)
  apply List.ext_getElem (by omega)
  intro j h3 h4
  have := h i h1 j (by omega)
  unfold ent at this
  rw [getD_get (List.getElem?_eq_getElem h1), getD_get (List.getElem?_eq_getElem h2), List.getD_eq_getElem?_getD, List.getElem?_eq_getElem h3, List.getD_eq_getElem?_getD, List.getElem?_eq_getElem h4] at this
  exact this
theorem doT_one {m : Nat} {R : List (List κ.F)} {a : Int} (wd : Wid m R) (ha : a.toNat < R.length) (ok : (Tn.scale (κ := κ) a 1).ok R.length) : doT (.scale a 1) R = R := by
  refine ent_ext (m := m) (doT_len _ _) (doT_wid wd ok) wd fun i hi j hj => ?_
  rw [ent_scale ha]
  split
  · grind
  · rfl
theorem doT_nil {m : Nat} {R : List (List κ.F)} {a b : Int} (wd : Wid m R) (ok : (Tn.add (κ := κ) a b 0).ok R.length) : doT (.add a b 0) R = R := by
  obtain ⟨⟨a0, a1⟩, ⟨b0, b1⟩, ne⟩ := id ok
  refine ent_ext (m := m) (doT_len _ _) (doT_wid wd ok) wd fun i hi j hj => ?_
  rw [ent_add wd (by omega) (by omega)]
  split
  · grind
  · rfl
/-- x is a whole number of a bits over D -/
def QS (κ : KX) (D : Int) (a : Nat) (x : κ.F) : Prop := match κ with
  | .q => ∃ X : Int, x = Rat.divInt X D ∧ Bits a X
  | .r _ _ => True
theorem QS.mono {D : Int} {a b : Nat} {x : κ.F} (h : QS κ D a x) (l : a ≤ b) : QS κ D b x := by
  cases κ with
  | r p hp => exact trivial
  | q => obtain ⟨X, e, hX⟩ := h; exact ⟨X, e, hX.up l⟩
theorem QS.mul {D E : Int} {a b : Nat} {x y : κ.F} (h : QS κ D a x) (g : QS κ E b y) : QS κ (D * E) (a + b) (x * y) := by
  cases κ with
  | r p hp => exact trivial
  | q =>
    obtain ⟨X, rfl, hX⟩ := h
    obtain ⟨Y, rfl, hY⟩ := g
    exact ⟨X * Y, Rat.divInt_mul_divInt _ _, hX.times hY⟩
theorem QS.add {D : Int} (hD : 0 < D) {a : Nat} {x y : κ.F} (h : QS κ D a x) (g : QS κ D a y) : QS κ D (a + 1) (x + y) := by
  cases κ with
  | r p hp => exact trivial
  | q =>
    obtain ⟨X, rfl, hX⟩ := h
    obtain ⟨Y, rfl, hY⟩ := g
    refine ⟨X + Y, ?_, hX.plus hY⟩
    show Rat.divInt X D + Rat.divInt Y D = _
    rw [Rat.divInt_add_divInt _ _ (by omega) (by omega), Rat.divInt_eq_divInt_iff (Int.ne_of_gt (Int.mul_pos hD hD)) (by omega), ← Int.add_mul, Int.mul_assoc]
theorem QS.neg {D : Int} {a : Nat} {x : κ.F} (h : QS κ D a x) : QS κ D a (0 - x) := by
  cases κ with
  | r p hp => exact trivial
  | q =>
    obtain ⟨X, rfl, hX⟩ := h
    refine ⟨-X, ?_, hX.le (by omega)⟩
    have e : (0 - Rat.divInt X D : Rat) = -Rat.divInt X D := by grind
    exact e.trans (Rat.neg_divInt X D)
theorem QS.zero {D : Int} {a : Nat} : QS κ D a 0 := by
  cases κ with
  | r p hp => exact trivial
  | q => exact ⟨0, (Rat.zero_divInt D).symm, Nat.zero_le _⟩
theorem QS.up {D E : Int} (hD : 0 < D) (hE : 0 < E) {a e : Nat} {x : κ.F} (h : QS κ D a x) (bE : Bits e E) : QS κ (D * E) (a + e) x := by
  cases κ with
  | r p hp => exact trivial
  | q =>
    obtain ⟨X, rfl, hX⟩ := h
    refine ⟨X * E, ?_, hX.times bE⟩
    rw [Rat.divInt_eq_divInt_iff (by omega) (Int.ne_of_gt (Int.mul_pos hD hE)), Int.mul_assoc, Int.mul_comm D E]
theorem QS.b1 {D : Int} (hD : 0 < D) {a : Nat} {x : κ.F} (h : QS κ D a x) (bD : Bits 4000 D) (ha : a ≤ 1000000) : B1 κ x := by
  cases κ with
  | r p hp => exact trivial
  | q =>
    obtain ⟨X, rfl, hX⟩ := h
    obtain ⟨z1, z2⟩ := divInt_sz X hD
    exact ⟨bits_dvd z2 (hX.up ha) (num_zero X hD), bits_dvd z1 bD (fun z => by omega)⟩
theorem QS.inv {D : Int} (hD : 0 < D) {a d : Nat} (h1 : 1 ≤ a) {x : κ.F} (h : QS κ D a x) (bD : Bits d D) (h0 : x ≠ 0) : ∃ L : Int, 0 < L ∧ Bits a L ∧ QS κ L d (Fd.inv x) := by
  cases κ with
  | r p hp => exact ⟨1, by decide, Bits.of (by show 1 < _; exact Nat.lt_of_lt_of_le (show 1 < 2 ^ 1 by decide) (Nat.pow_le_pow_right (by decide) h1)), trivial⟩
  | q =>
    obtain ⟨X, rfl, hX⟩ := h
    have X0 : X ≠ 0 := fun z => by subst z; exact h0 (Rat.zero_divInt D)
    have key : ∀ Y L : Int, 0 < L → X * Y = D * L → (Fd.inv (Rat.divInt X D) : Rat) = Rat.divInt Y L := fun Y L hL e => by
      refine (inv_uniq (α := Rat) ?_).symm
      rw [Rat.divInt_mul_divInt, e]
      have : (D * L : Int) ≠ 0 := Int.ne_of_gt (Int.mul_pos hD hL)
      exact Rat.divInt_self' this
    rcases Int.lt_or_gt_of_ne X0 with c | c
    · refine ⟨-X, by omega, hX.le (by omega), -D, key (-D) (-X) (by omega) ?_, bD.le (by omega)⟩
      rw [Int.mul_neg, Int.mul_neg, Int.mul_comm]
    · exact ⟨X, c, hX, D, key D X c (Int.mul_comm _ _), bD⟩
theorem qs_one : QS κ 1 1 1 := by
  cases κ with
  | r p hp => exact trivial
  | q => exact ⟨1, by rfl, Bits.of (by decide)⟩
end
end My

set_option maxHeartbeats 1000000
namespace My
open PySem L2 PyProof.Rows
/-- sizes with room above -/
abbrev B1s (κ : KX) (x : κ.F) : Prop := Bd κ 900000 3700 x
theorem B1s.b1 {κ : KX} {x : κ.F} (h : B1s κ x) : B1 κ x := by
  cases κ with
  | q => exact ⟨h.1.up (by decide), h.2.up (by decide)⟩
  | r p hp => exact trivial
theorem QS.b1s {κ : KX} {D : Int} (hD : 0 < D) {a : Nat} {x : κ.F} (h : QS κ D a x) (bD : Bits 3700 D) (ha : a ≤ 900000) : B1s κ x := by
  cases κ with
  | r p hp => exact trivial
  | q =>
    obtain ⟨X, rfl, hX⟩ := h
    obtain ⟨z1, z2⟩ := divInt_sz X hD
    exact ⟨bits_dvd z2 (hX.up ha) (num_zero X hD), bits_dvd z1 bD (fun z => by omega)⟩
/-- what a turn asks of the sizes, with room above -/
def Tn.preS {κ : KX} (R : List (List κ.F)) : Tn κ → Prop
  | .swap _ _ => True
  | .scale i c => B1s κ c ∧ ∀ x ∈ R.getD i.toNat [], B1s κ x
  | .add i j c => B1s κ c ∧ (∀ x ∈ R.getD i.toNat [], B1s κ x) ∧ ∀ y ∈ R.getD j.toNat [], B1s κ y ∧ B1s κ (c * y)
theorem Tn.preS.pre {κ : KX} {R : List (List κ.F)} {t : Tn κ} (h : t.preS R) : t.pre R := by
  cases t with
  | swap i j => trivial
  | scale i c => exact ⟨h.1.b1, fun x hx => (h.2 x hx).b1⟩
  | add i j c => exact ⟨h.1.b1, fun x hx => (h.2.1 x hx).b1, fun x hx => ⟨(h.2.2 x hx).1.b1, (h.2.2 x hx).2.b1⟩⟩
section
variable {κ : KX}
/-- reduced in the first c columns, but for the leads' worth x -/
structure Ech (R : List (List κ.F)) (n c : Nat) (ls : List Nat) (x : κ.F) : Prop where
  le : ls.length ≤ n
  lt : ∀ k < ls.length, ls.getD k 0 < c
  inc : ∀ k k', k < k' → k' < ls.length → ls.getD k 0 < ls.getD k' 0
  x0 : x ≠ 0
  col : ∀ k < ls.length, ∀ i < n, ent R i (ls.getD k 0) = if i = k then x else 0
  low : ∀ i, ls.length ≤ i → i < n → ∀ j < c, ent R i j = 0
  pre : ∀ k < ls.length, ∀ j < ls.getD k 0, ent R k j = 0
theorem ech_nil {R : List (List κ.F)} {n : Nat} : Ech R n 0 [] 1 := ⟨Nat.zero_le _, fun k h => by simp at h, fun k k' _ h => by simp at h, fun z => Fd.zne z.symm, fun k h => by simp at h, fun i _ _ j hj => by omega, fun k h => by simp at h⟩
theorem Ech.skip {R : List (List κ.F)} {n c : Nat} {ls : List Nat} {x : κ.F} (h : Ech R n c ls x) (z : ∀ i, ls.length ≤ i → i < n → ent R i c = 0) : Ech R n (c + 1) ls x where
  le := h.le
  lt := fun k hk => by have := h.lt k hk; omega
  inc := h.inc
  x0 := h.x0
  col := h.col
  low := fun i h1 h2 j hj => by
    by_cases e : j = c
    · subst e; exact z i h1 h2
    · exact h.low i h1 h2 j (by omega)
  pre := h.pre
theorem Ech.swap {R : List (List κ.F)} {n c f : Nat} {ls : List Nat} {x : κ.F} (h : Ech R n c ls x) (hn : R.length = n) (h1 : ls.length ≤ f) (h2 : f < n) : Ech (doT (.swap (ls.length : Int) (f : Int)) R) n c ls x := by
  have e := ent_swap (R := R) (a := (ls.length : Int)) (b := (f : Int)) (by rw [Int.toNat_natCast]; omega) (by rw [Int.toNat_natCast]; omega)
  simp only [Int.toNat_natCast] at e
  refine ⟨h.le, h.lt, h.inc, h.x0, fun k hk i hi => ?_, fun i a b j hj => ?_, fun k hk j hj => ?_⟩
  · rw [e]
    by_cases e1 : i = f
    · rw [if_pos e1, h.col k hk _ (by omega), if_neg (by omega), if_neg (by omega)]
    · rw [if_neg e1]
      by_cases e2 : i = ls.length
      · rw [if_pos e2, h.col k hk _ h2, if_neg (by omega), if_neg (by omega)]
      · rw [if_neg e2, h.col k hk i hi]
  · rw [e]
    by_cases e1 : i = f
    · rw [if_pos e1]; exact h.low _ (Nat.le_refl _) (by omega) j hj
    · rw [if_neg e1]
      by_cases e2 : i = ls.length
      · rw [if_pos e2]; exact h.low _ h1 h2 j hj
      · rw [if_neg e2]; exact h.low i a b j hj
  · rw [e, if_neg (by omega), if_neg (by omega)]
    exact h.pre k hk j hj
/-- what a pivot makes of a number -/
noncomputable def newE (R : List (List κ.F)) (l c : Nat) (x : κ.F) (i j : Nat) : κ.F := if i = l then ent R l j else Fd.inv x * (ent R l c * ent R i j + (0 - ent R i c) * ent R l j)
theorem getD_snoc_lt {ls : List Nat} {c k : Nat} (h : k < ls.length) : (ls ++ [c]).getD k 0 = ls.getD k 0 := by
  rw [List.getD_eq_getElem?_getD, List.getD_eq_getElem?_getD, List.getElem?_append_left h]
theorem getD_snoc_eq {ls : List Nat} {c : Nat} : (ls ++ [c]).getD ls.length 0 = c := by
  rw [List.getD_eq_getElem?_getD, List.getElem?_append_right (Nat.le_refl _), Nat.sub_self]; rfl
theorem Ech.pivot {R R' : List (List κ.F)} {n c : Nat} {ls : List Nat} {x : κ.F} (h : Ech R n c ls x) (hl : ls.length < n) (h0 : ent R ls.length c ≠ 0) (e : ∀ i < n, ∀ j, ent R' i j = newE R ls.length c x i j) : Ech R' n (c + 1) (ls ++ [c]) (ent R ls.length c) := by
  have hx := Fd.mul_inv x h.x0
  have ln : (ls ++ [c]).length = ls.length + 1 := by simp
  refine ⟨by omega, fun k hk => ?_, fun k k' h1 h2 => ?_, h0, fun k hk i hi => ?_, fun i a b j hj => ?_, fun k hk j hj => ?_⟩
  · rcases Nat.lt_or_ge k ls.length with q | q
    · rw [getD_snoc_lt q]; have := h.lt k q; omega
    · have : k = ls.length := by omega
      subst this
      rw [getD_snoc_eq]; omega
  · have q : k < ls.length := by omega
    rw [getD_snoc_lt q]
    rcases Nat.lt_or_ge k' ls.length with q' | q'
    · rw [getD_snoc_lt q']; exact h.inc k k' h1 q'
    · have : k' = ls.length := by omega
      subst this
      rw [getD_snoc_eq]; exact h.lt k q
  · rw [e i hi]
    unfold newE
    rcases Nat.lt_or_ge k ls.length with q | q
    · rw [getD_snoc_lt q]
      have c1 := h.col k q ls.length hl
      rw [if_neg (by omega)] at c1
      have c2 := h.col k q i hi
      by_cases e1 : i = ls.length
      · rw [if_pos e1, c1, if_neg (by omega)]
      · rw [if_neg e1, c1, c2]
        by_cases e2 : i = k
        · rw [if_pos e2, if_pos e2]; grind
        · rw [if_neg e2, if_neg e2]; grind
    · have : k = ls.length := by omega
      subst this
      rw [getD_snoc_eq]
      by_cases e1 : i = ls.length
      · rw [if_pos e1, if_pos e1]
      · rw [if_neg e1, if_neg e1]; grind
  · rw [e i b]
    unfold newE
    rw [if_neg (by omega)]
    by_cases e1 : j = c
    · subst e1; grind
    · have z1 := h.low i (by omega) b j (by omega)
      have z2 := h.low ls.length (Nat.le_refl _) hl j (by omega)
      rw [z1, z2]; grind
  · rw [e k (by omega)]
    unfold newE
    rcases Nat.lt_or_ge k ls.length with q | q
    · rw [getD_snoc_lt q] at hj
      have := h.lt k q
      have z1 := h.pre k q j hj
      have z2 := h.low ls.length (Nat.le_refl _) hl j (by omega)
      rw [if_neg (by omega), z1, z2]; grind
    · have : k = ls.length := by omega
      subst this
      rw [getD_snoc_eq] at hj
      rw [if_pos rfl]
      exact h.low ls.length (Nat.le_refl _) hl j hj
/-- sizes, stage by stage -/
def dS : Nat → Nat | 0 => 1 | 1 => 3 | 2 => 306 | 3 => 1214 | _ => 3636
def aS : Nat → Nat | 0 => 300 | 1 => 602 | 2 => 1208 | 3 => 2723 | _ => 6661
def dL : Nat → Nat | 0 => 1 | k + 1 => dS k
def aL : Nat → Nat | 0 => 1 | k + 1 => aS k
theorem sz_num {k : Nat} (h : k < 4) : 2 * dS k + aL k ≤ dS (k + 1) ∧ 2 * aS k + 1 + dL k ≤ aS (k + 1) ∧ aS k + dS k + aL k ≤ aS (k + 1) ∧ 2 * dS k ≤ 3700 ∧ aL k ≤ 3700 ∧ 1 ≤ aL k ∧ 2 * aS k + 1 ≤ 900000 ∧ dL k ≤ 900000 := by
  match k, h with
  | 0, _ => decide
  | 1, _ => decide
  | 2, _ => decide
  | 3, _ => decide
def Stg (κ : KX) (R : List (List κ.F)) (k : Nat) (x : κ.F) : Prop := κ = .q → ∃ D D' : Int, 0 < D ∧ Bits (dS k) D ∧ AllR (QS κ D (aS k)) R ∧ 0 < D' ∧ Bits (dL k) D' ∧ QS κ D' (aL k) x
structure PivB (x : κ.F) (PQ PN : κ.F → Prop) : Prop where
  ent : ∀ y, PQ y → B1s κ y
  neg : ∀ y, PQ y → B1s κ (0 - y)
  mul : ∀ h y, PQ h → PQ y → B1s κ (h * y)
  nml : ∀ z e, PQ z → PQ e → B1s κ ((0 - z) * e)
  sum : ∀ h y z e, PQ h → PQ y → PQ z → PQ e → B1s κ (h * y + (0 - z) * e)
  inv : B1s κ (Fd.inv x)
  new : ∀ h y z e, PQ h → PQ y → PQ z → PQ e → PN (Fd.inv x * (h * y + (0 - z) * e))
  keep : ∀ y, PQ y → PN y
theorem b1_r {p : Nat} {hp : PrN p} {x : (KX.r p hp).F} : B1s (.r p hp) x := trivial
theorem stg_piv {R : List (List κ.F)} {k : Nat} {x : κ.F} (h : Stg κ R k x) (x0 : x ≠ 0) (hk : κ = .q → k < 4) : ∃ PQ PN : κ.F → Prop, AllR PQ R ∧ PivB x PQ PN ∧ ∀ R' y, AllR PN R' → PQ y → Stg κ R' (k + 1) y := by
  cases κ with
  | r p hp =>
    refine ⟨fun _ => True, fun _ => True, fun _ _ _ _ => trivial, ⟨fun _ _ => b1_r, fun _ _ => b1_r, fun _ _ _ _ => b1_r, fun _ _ _ _ => b1_r, fun _ _ _ _ _ _ _ _ => b1_r, b1_r, fun _ _ _ _ _ _ _ _ => trivial, fun _ _ => trivial⟩, fun R' y _ _ z => nomatch z⟩
  | q =>
    obtain ⟨n1, n2, n3, n4, n5, n6, n7, n8⟩ := sz_num (hk rfl)
    obtain ⟨D, D', hD, bD, qR, hD', bD', qx⟩ := h rfl
    obtain ⟨L, hL, bL, qI⟩ := QS.inv hD' n6 qx bD' x0
    have hDD : 0 < D * D := Int.mul_pos hD hD
    have bDD : Bits (2 * dS k) (D * D) := (bD.times bD).up (by omega)
    have bDD4 : Bits 3700 (D * D) := bDD.up n4
    have qm : ∀ h y : Rat, QS .q D (aS k) h → QS .q D (aS k) y → QS .q (D * D) (2 * aS k) (h * y) := fun h y a b => (QS.mul (κ := .q) a b).mono (by omega)
    have qs : ∀ h y z e : Rat, QS .q D (aS k) h → QS .q D (aS k) y → QS .q D (aS k) z → QS .q D (aS k) e → QS .q (D * D) (2 * aS k + 1) (h * y + (0 - z) * e) := fun h y z e a b c d => QS.add (κ := .q) hDD (qm h y a b) (qm _ e (QS.neg (κ := .q) c) d)
    refine ⟨QS .q D (aS k), QS .q (D * D * L) (aS (k + 1)), qR, ⟨fun y a => QS.b1s hD a (bD.up (by omega)) (by omega), fun y a => QS.b1s hD (QS.neg (κ := .q) a) (bD.up (by omega)) (by omega), fun h y a b => QS.b1s hDD (qm h y a b) bDD4 (by omega), fun z e a b => QS.b1s hDD (qm _ e (QS.neg (κ := .q) a) b) bDD4 (by omega), fun h y z e a b c d => QS.b1s hDD (qs h y z e a b c d) bDD4 (by omega), QS.b1s hL qI (bL.up n5) n8, fun h y z e a b c d => ?_, fun y a => ?_⟩, fun R' y a b _ => ?_⟩
    · have := QS.mul (κ := .q) qI (qs h y z e a b c d)
      rw [Int.mul_comm L] at this
      exact this.mono (by omega)
    · have := QS.up (κ := .q) hD (Int.mul_pos hD hL) a (bD.times bL)
      rw [← Int.mul_assoc] at this
      exact this.mono (by omega)
    · exact ⟨D * D * L, D, Int.mul_pos hDD hL, (bDD.times bL).up (by omega), a, hD, bD, b⟩
end
end My

set_option maxHeartbeats 1000000
/-! the scales among the turns -/
namespace My
open PySem L2 PyProof.Rows
section
variable {κ : KX}
noncomputable def pwr (x : κ.F) : Nat → κ.F
  | 0 => 1
  | n + 1 => pwr x n * x
theorem pwr_mul (a b : κ.F) : ∀ n, pwr (a * b) n = pwr a n * pwr b n
  | 0 => by show (1 : κ.F) = 1 * 1; grind
  | n + 1 => by
    show pwr (a * b) n * (a * b) = pwr a n * a * (pwr b n * b)
    rw [pwr_mul a b n]; grind
theorem pwr_one : ∀ n, pwr (1 : κ.F) n = 1
  | 0 => rfl
  | n + 1 => by
    show pwr (1 : κ.F) n * 1 = 1
    rw [pwr_one n]; grind
noncomputable def scT : Tn κ → κ.F
  | .swap _ _ => 1
  | .scale _ c => c
  | .add _ _ _ => 1
noncomputable def scF : List (Tn κ) → κ.F
  | [] => 1
  | t :: ts => scT t * scF ts
theorem scF_snoc (ts : List (Tn κ)) (t : Tn κ) : scF (ts ++ [t]) = scT t * scF ts := by
  induction ts with
  | nil => rfl
  | cons u us ih =>
    show scT u * scF (us ++ [t]) = scT t * (scT u * scF us)
    rw [ih]; grind
def swT : Tn κ → Nat
  | .swap _ _ => 1
  | .scale _ _ => 0
  | .add _ _ _ => 0
def swN : List (Tn κ) → Nat
  | [] => 0
  | t :: ts => swT t + swN ts
theorem swN_snoc (ts : List (Tn κ)) (t : Tn κ) : swN (ts ++ [t]) = swN ts + swT t := by
  induction ts with
  | nil => show swT t + 0 = 0 + swT t; omega
  | cons u us ih =>
    show swT u + swN (us ++ [t]) = swT u + swN us + swT t
    rw [ih]; omega
end
end My

set_option maxHeartbeats 1000000
namespace My
open PySem L2 PyProof.Rows
theorem nr_eq {κ : KX} {H : Hp} {u v : V} {x y : κ.F} (hu : NR κ H u x) (hv : NR κ H v y) : ∃ b, EqNum H u v b ∧ (b = true ↔ x = y) := by
  cases κ with
  | q =>
    obtain ⟨a, rfl, ha⟩ := hu
    obtain ⟨c, rfl, hc⟩ := hv
    refine ⟨_, .inr ⟨a, c, _, _, _, _, rfl, rfl, ha, hc, rfl⟩, ?_⟩
    rw [Bool.and_eq_true_iff, decide_eq_true_iff, decide_eq_true_iff]
    constructor
    · rintro ⟨e1, e2⟩
      exact Rat.ext e1 (by omega)
    · intro e
      have e : x = y := e
      subst e
      exact ⟨rfl, rfl⟩
  | r p hp =>
    have hu : u = .int x.val := hu
    have hv : v = .int y.val := hv
    refine ⟨_, .inl ⟨_, _, hu, hv, rfl⟩, ?_⟩
    rw [decide_eq_true_iff]
    constructor
    · intro e; exact Fin.ext (by omega)
    · intro e
      have e : x = y := e
      subst e; rfl
/-- a turn that changes nothing -/
def Tn.idle {κ : KX} : Tn κ → Prop
  | .swap _ _ => False
  | .scale _ c => c = 1
  | .add _ _ c => c = 0
theorem doT_idle {κ : KX} {m : Nat} {t : Tn κ} {R : List (List κ.F)} (wd : Wid m R) (ok : t.ok R.length) (h : t.idle) : doT t R = R := by
  cases t with
  | swap i j => exact absurd h id
  | scale i c =>
    have h : c = 1 := h
    subst h
    exact doT_one wd (by have := ok.1; omega) ok
  | add i j c =>
    have h : c = 0 := h
    subst h
    exact doT_nil wd ok
section
variable {κ : KX}
theorem getD_map {g : List κ.F → List κ.F} (g0 : g [] = []) (R : List (List κ.F)) (i : Nat) : (R.map g).getD i [] = g (R.getD i []) := by
  rw [List.getD_eq_getElem?_getD, List.getD_eq_getElem?_getD, List.getElem?_map]
  cases R[i]? with
  | none => exact g0.symm
  | some f => rfl
theorem take_doT (pw : Nat) (t : Tn κ) (R : List (List κ.F)) : (doT t R).map (List.take pw) = doT t (R.map (List.take pw)) := by
  have gd := getD_map (κ := κ) (g := List.take pw) List.take_nil R
  cases t with
  | swap i j =>
    show ((R.set i.toNat (R.getD j.toNat [])).set j.toNat (R.getD i.toNat [])).map (List.take pw) = ((R.map (List.take pw)).set i.toNat ((R.map (List.take pw)).getD j.toNat [])).set j.toNat ((R.map (List.take pw)).getD i.toNat [])
    rw [List.map_set, List.map_set, gd, gd]
  | scale i c =>
    show (R.set i.toNat ((R.getD i.toNat []).map (c * ·))).map (List.take pw) = (R.map (List.take pw)).set i.toNat (((R.map (List.take pw)).getD i.toNat []).map (c * ·))
    rw [List.map_set, gd, List.map_take]
  | add i j c =>
    show (R.set i.toNat (List.zipWith (· + ·) (R.getD i.toNat []) ((R.getD j.toNat []).map (c * ·)))).map (List.take pw) = (R.map (List.take pw)).set i.toNat (List.zipWith (· + ·) ((R.map (List.take pw)).getD i.toNat []) (((R.map (List.take pw)).getD j.toNat []).map (c * ·)))
    rw [List.map_set, gd, gd, List.take_zipWith, List.map_take]
theorem pre_map {g : List κ.F → List κ.F} (g0 : g [] = []) (hg : ∀ f x, x ∈ g f → x ∈ f) {t : Tn κ} {R : List (List κ.F)} (h : t.preS R) : t.preS (R.map g) := by
  have gd := getD_map (κ := κ) g0 R
  cases t with
  | swap i j => trivial
  | scale i c => exact ⟨h.1, fun x hx => h.2 x (by rw [gd] at hx; exact hg _ x hx)⟩
  | add i j c => exact ⟨h.1, fun x hx => h.2.1 x (by rw [gd] at hx; exact hg _ x hx), fun x hx => h.2.2 x (by rw [gd] at hx; exact hg _ x hx)⟩
theorem pre_take (pw : Nat) {t : Tn κ} {R : List (List κ.F)} (h : t.preS R) : t.preS (R.map (List.take pw)) := pre_map List.take_nil (fun _ _ hx => List.mem_of_mem_take hx) h
theorem ent_take {pw : Nat} {R : List (List κ.F)} {i j : Nat} (h : j < pw) : ent (R.map (List.take pw)) i j = ent R i j := by
  unfold ent
  rw [getD_map List.take_nil]
  generalize R.getD i [] = f
  rw [List.getD_eq_getElem?_getD, List.getD_eq_getElem?_getD, List.getElem?_take, if_pos h]
theorem wid_take {pw m : Nat} {R : List (List κ.F)} (wd : Wid m R) (h : pw ≤ m) : Wid pw (R.map (List.take pw)) := fun f hf => by
  obtain ⟨g, hg, rfl⟩ := List.mem_map.mp hf
  rw [List.length_take, wd g hg]; omega
end
/-- rows and turns under way: r and u are their lists, no row is of Z -/
structure Wk (κ : KX) (Z : List Addr) (R0 : List (List κ.F)) (pw m : Nat) (r u : Addr) (H : Hp) (R : List (List κ.F)) (ts : List (Tn κ)) : Prop where
  rows : ∃ as : List Addr, H r = some (.lst (as.map V.ref)) ∧ RowsX κ H as (R.map (List.take pw)) ∧ ∀ z ∈ Z, z ∉ as
  turns : ∃ tvs : List V, H u = some (.lst tvs) ∧ AllG (TR κ H) tvs ts
  run : R = runT ts R0
  ok : ∀ t ∈ ts, t.ok R0.length
  pre : ∀ (i : Nat) t, ts[i]? = some t → t.preS (runT (ts.take i) R0)
  wid : Wid m R0
  ne : r ≠ u
  m7 : m ≤ 1000
  l3 : ts.length ≤ 400
  zr : r ∈ Z
  zu : u ∈ Z
  za : ∀ z ∈ Z, ∃ o, H z = some o
  wm : pw ≤ m
section
variable {κ : KX} {Z : List Addr} {R0 R : List (List κ.F)} {pw m : Nat} {r u : Addr} {H : Hp} {ts : List (Tn κ)}
theorem Wk.len (h : Wk κ Z R0 pw m r u H R ts) : R.length = R0.length := by rw [h.run, runT_len]
theorem Wk.wd (h : Wk κ Z R0 pw m r u H R ts) : Wid m R := by rw [h.run]; exact runT_wid h.wid h.ok
theorem Wk.same {H' : Hp} (h : Wk κ Z R0 pw m r u H R ts) (S : Same H H') : Wk κ Z R0 pw m r u H' R ts := by
  obtain ⟨as, h1, h2, h3⟩ := h.rows
  obtain ⟨tvs, g1, g2⟩ := h.turns
  exact ⟨⟨as, S _ _ h1, h2.same S, h3⟩, ⟨tvs, S _ _ g1, g2.mono fun _ _ n => n.same S⟩, h.run, h.ok, h.pre, h.wid, h.ne, h.m7, h.l3, h.zr, h.zu, fun z hz => let ⟨o, e⟩ := h.za z hz; ⟨o, S _ _ e⟩, h.wm⟩
theorem Wk.offL {H' : Hp} {L : Addr} {ys zs : List V} (h : Wk κ Z R0 pw m r u H R ts) (zL : L ∈ Z) (n1 : L ≠ r) (n2 : L ≠ u) (hL : H L = some (.lst ys)) (hL' : H' L = some (.lst zs)) (O : Off [L] H H') : Wk κ Z R0 pw m r u H' R ts := by
  obtain ⟨as, h1, h2, h3⟩ := h.rows
  obtain ⟨tvs, g1, g2⟩ := h.turns
  refine ⟨⟨as, O _ _ (fun z => n1 (List.mem_singleton.mp z).symm) h1, h2.off (h3 L zL) hL O, h3⟩, ⟨tvs, O _ _ (fun z => n2 (List.mem_singleton.mp z).symm) g1, g2.mono fun _ _ n => n.off hL O⟩, h.run, h.ok, h.pre, h.wid, h.ne, h.m7, h.l3, h.zr, h.zu, fun z hz => ?_, h.wm⟩
  by_cases e : z = L
  · subst e; exact ⟨_, hL'⟩
  · obtain ⟨o, q⟩ := h.za z hz
    exact ⟨o, O _ _ (fun w => e (List.mem_singleton.mp w)) q⟩
theorem Wk.ent (h : Wk κ Z R0 pw m r u H R ts) {i j : Nat} (hi : i < R0.length) (hj : j < pw) : ∃ (as : List Addr) (a : Addr) (xs : List V) (v : V), H r = some (.lst (as.map V.ref)) ∧ as.length = R0.length ∧ as[i]? = some a ∧ H a = some (.lst xs) ∧ xs[j]? = some v ∧ NR κ H v (My.ent R i j) := by
  obtain ⟨as, h1, h2, h3⟩ := h.rows
  obtain ⟨a, xs, v, e1, e2, e3, e4⟩ := h2.ent (wid_take h.wd h.wm) (by rw [List.length_map, h.len]; exact hi) hj
  rw [ent_take hj] at e4
  exact ⟨as, a, xs, v, h1, by rw [h2.1, List.length_map, h.len], e1, e2, e3, e4⟩
theorem Wk.rl (h : Wk κ Z R0 pw m r u H R ts) : ∃ as : List Addr, H r = some (.lst (as.map V.ref)) ∧ as.length = R0.length := by
  obtain ⟨as, h1, h2, h3⟩ := h.rows
  exact ⟨as, h1, by rw [h2.1, List.length_map, h.len]⟩
theorem Wk.ul (h : Wk κ Z R0 pw m r u H R ts) : ∃ tvs : List V, H u = some (.lst tvs) := let ⟨tvs, g1, _⟩ := h.turns; ⟨tvs, g1⟩
end
theorem TR.off2 {κ : KX} {H H' : Hp} {r u : Addr} {ys zs : List V} {v : V} {x : Tn κ} (h : TR κ H v x) (hr : H r = some (.lst ys)) (hu : H u = some (.lst zs)) (O : Off [r, u] H H') : TR κ H' v x := by
  have na : ∀ a ws, H a = some (.tup ws) → a ∉ [r, u] := fun a ws q m => by
    rcases List.mem_cons.mp m with e | e
    · rw [e, hr] at q; cases q
    · rw [List.mem_singleton.mp e, hu] at q; cases q
  have nn : ∀ w c, NR κ H w c → NR κ H' w c := fun w c n => by
    cases κ with
    | q => obtain ⟨a, e, n⟩ := n; exact ⟨a, e, O _ _ (na _ _ n) n⟩
    | r p hp => exact n
  cases x with
  | swap i j => obtain ⟨a, e, h⟩ := h; exact ⟨a, e, O _ _ (na _ _ h) h⟩
  | scale i c => obtain ⟨a, w, e, h, n⟩ := h; exact ⟨a, w, e, O _ _ (na _ _ h) h, nn _ _ n⟩
  | add i j c => obtain ⟨a, w, e, h, n⟩ := h; exact ⟨a, w, e, O _ _ (na _ _ h) h, nn _ _ n⟩
theorem NR.off2 {κ : KX} {H H' : Hp} {r u : Addr} {ys zs : List V} {v : V} {x : κ.F} (h : NR κ H v x) (hr : H r = some (.lst ys)) (hu : H u = some (.lst zs)) (O : Off [r, u] H H') : NR κ H' v x := by
  cases κ with
  | q =>
    obtain ⟨a, e, n⟩ := h
    refine ⟨a, e, O _ _ (fun m => ?_) n⟩
    rcases List.mem_cons.mp m with e | e
    · rw [e, hr] at n; cases n
    · rw [List.mem_singleton.mp e, hu] at n; cases n
  | r p hp => exact h
theorem KdX.off2 {CF CR : Addr} {κ : KX} {H H' : Hp} {s r u : Addr} {ys zs : List V} (h : KdX CF CR κ H s) (hr : H r = some (.lst ys)) (hu : H u = some (.lst zs)) (O : Off [r, u] H H') : KdX CF CR κ H' s := by
  have key : ∀ C dx fs, H s = some (.ins C dx fs) → H' s = some (.ins C dx fs) := fun C dx fs q => O _ _ (fun m => by
    rcases List.mem_cons.mp m with e | e
    · rw [e, hr] at q; cases q
    · rw [List.mem_singleton.mp e, hu] at q; cases q) q
  cases κ with
  | q => obtain ⟨dx, h⟩ := h; exact ⟨dx, key _ _ _ h⟩
  | r p hp => obtain ⟨dx, h⟩ := h; exact ⟨dx, key _ _ _ h⟩
def sp_is_idle (CF CR : Addr) : Sp := fun vs H Q _ => ∃ (κ : KX) (s : Addr) (tv : V) (t : Tn κ), vs = [.ref s, tv] ∧ KdX CF CR κ H s ∧ TR κ H tv t ∧ ∀ H' (b : Bool), Same H H' → (b = true ↔ t.idle) → Q (.bl b) H'
def sp_take (CF CR : Addr) : Sp := fun vs H Q _ => ∃ (κ : KX) (s r u : Addr) (Z : List Addr) (R0 : List (List κ.F)) (pw m : Nat) (R : List (List κ.F)) (ts : List (Tn κ)) (tv : V) (t : Tn κ), vs = [.ref s, .ref r, .ref u, tv] ∧ KdX CF CR κ H s ∧ Wk κ Z R0 pw m r u H R ts ∧ ts.length < 400 ∧ TR κ H tv t ∧ t.ok R0.length ∧ t.preS R ∧
  ∀ H' ts', Off [r, u] H H' → Wk κ Z R0 pw m r u H' (doT t R) ts' → ts'.length ≤ ts.length + 1 → scF ts' = scT t * scF ts → Q .non H'
/-- what common_bottom tells -/
def BotV (κ : KX) (f : List κ.F) (A : Int) : Prop := match κ with
  | .q => 0 < A ∧ (∀ x ∈ f, ((Rat.den x : Nat) : Int) ∣ A) ∧ ∀ B : Int, (∀ x ∈ f, ((Rat.den x : Nat) : Int) ∣ B) → A ∣ B
  | .r _ _ => A = 1
def DvB (κ : KX) (B : Int) (x : κ.F) : Prop := match κ with
  | .q => ((Rat.den x : Nat) : Int) ∣ B
  | .r _ _ => True
def MethBot (P : Program) (w : World) (K : PySem.W.Frag) (mg : Str → Option Value) (base : Heap) (CF CR : Addr) : Prop :=
  ∀ (κ : KX) (H : Hp) (s : Addr), KdX CF CR κ H s → ∃ C dx fs ps dvs sp, H s = some (.ins C dx fs) ∧ Cls K C ∧ HasM P w K mg base C "common_bottom" 2 ps dvs sp ∧ fs.lookup ("common_bottom" : Str) = none ∧ dvs = [] ∧
    ∀ (r : Addr) (xs : List V) (f : List κ.F) (B : Int) (Q : VK), H r = some (.lst xs) → AllG (NR κ H) xs f → 0 < B → Bits 4000 B → (∀ x ∈ f, DvB κ B x) → (∀ A : Int, BotV κ f A → Q (.int A) H) → sp [.ref s, .ref r] H Q E0
def sp_FbottomX (K : PySem.W.Frag) : Sp := fun vs H Q _ => ∃ (s r : Addr) (xs : List V) (f : List Rat) (B : Int), vs = [.ref s, .ref r] ∧ H r = some (.lst xs) ∧ AllG (NR .q H) xs f ∧ 0 < B ∧ Bits 4000 B ∧ (∀ x ∈ f, ((Rat.den x : Nat) : Int) ∣ B) ∧ ∀ A : Int, BotV .q f A → Q (.int A) H
def sp_Kbottom : Sp := fun vs H Q _ => ∃ (s r : Addr), vs = [.ref s, .ref r] ∧ Q (.int 1) H
def sp_first_filled (CF CR : Addr) : Sp := fun vs H Q _ => ∃ (κ : KX) (s r u : Addr) (Z : List Addr) (R0 : List (List κ.F)) (pw m : Nat) (R : List (List κ.F)) (ts : List (Tn κ)) (l c : Nat), vs = [.ref s, .ref r, .int (l : Int), .int (c : Int)] ∧ KdX CF CR κ H s ∧ Wk κ Z R0 pw m r u H R ts ∧ c < pw ∧ l ≤ R0.length ∧ R0.length ≤ 1000 ∧
  ∀ f : Nat, l ≤ f → f ≤ R0.length → (f < R0.length → ent R f c ≠ 0) → (∀ i, l ≤ i → i < f → ent R i c = 0) → Q (.int (f : Int)) H
/-- lcm -/
theorem lcm_step {b d : Int} (hb : 0 < b) (hd : 0 < d) : 0 < b.fdiv (Int.gcd b d) * d ∧ b ∣ b.fdiv (Int.gcd b d) * d ∧ d ∣ b.fdiv (Int.gcd b d) * d ∧ ∀ B : Int, b ∣ B → d ∣ B → b.fdiv (Int.gcd b d) * d ∣ B := by
  have hg : (Int.gcd b d : Int) ≠ 0 := by have := M3.gcd_ne (a := b) (b := d) (by omega); omega
  have gp : 0 < (Int.gcd b d : Int) := by omega
  obtain ⟨q, hq⟩ := Int.gcd_dvd_left b d
  obtain ⟨e, he⟩ := Int.gcd_dvd_right b d
  have eb : b.fdiv (Int.gcd b d) = q := by
    rw [Int.fdiv_eq_ediv_of_nonneg _ (by omega)]
    conv => lhs; lhs; rw [hq]
    exact Int.mul_ediv_cancel_left q hg
  have hq0 : 0 < q := by
    rcases Int.lt_or_le 0 q with c | c
    · exact c
    · have : (Int.gcd b d : Int) * q ≤ 0 := Int.mul_nonpos_of_nonneg_of_nonpos (by omega) c
      omega
  rw [eb]
  have eq : q * d = b * e := by
    calc q * d = q * ((Int.gcd b d : Int) * e) := by rw [← he]
      _ = (Int.gcd b d : Int) * q * e := by rw [← Int.mul_assoc, Int.mul_comm q]
      _ = b * e := by rw [← hq]
  have cop : Int.gcd q e = 1 := by
    have h1 := Int.gcd_mul_left (Int.gcd b d : Int) q e
    rw [← hq, ← he, Int.natAbs_natCast] at h1
    have h2 : 0 < Int.gcd b d := by omega
    have h3 : Int.gcd b d * 1 = Int.gcd b d * Int.gcd q e := by rw [Nat.mul_one]; exact h1
    exact (Nat.eq_of_mul_eq_mul_left h2 h3).symm
  refine ⟨Int.mul_pos hq0 hd, ⟨e, eq⟩, ⟨q, Int.mul_comm _ _⟩, ?_⟩
  rintro B ⟨s, hs⟩ ⟨t, ht⟩
  -- b s = d t: q s = e t, so q | t
  have h5 : q * s = e * t := by
    have : (Int.gcd b d : Int) * (q * s) = (Int.gcd b d : Int) * (e * t) := by
      rw [← Int.mul_assoc, ← Int.mul_assoc, ← hq, ← he, ← hs, ← ht]
    exact Int.eq_of_mul_eq_mul_left hg this
  have h6 : q ∣ t := cop_dvd (b := e) ⟨s, h5.symm⟩ cop
  obtain ⟨z, hz⟩ := h6
  exact ⟨z, by rw [ht, hz, ← Int.mul_assoc, Int.mul_comm d q]⟩
end My

namespace My
open PySem L2 PyProof.Rows

section
variable {P : Program} {w : World} {K : PySem.W.Frag} {mg : Str → Option Value} {base : Heap} {CF CR : Addr}
theorem sc_scaled_row : FnScope ["kind", "number", "row"] ["kind", "number", "row"] (defScope s_scaled_row) := ⟨rfl, rfl, rfl, by decide +kernel, rfl, by decide +kernel, by decide +kernel⟩
theorem ok_scaled_rowX (h : Here K mg "scaled_row" s_scaled_row) (mt : Meth2 P w K mg base CF CR "times" (fun _ x y => x * y)) : Has P w K mg base "scaled_row" 3 ["kind", "number", "row"] (sp_scaled_rowX CF CR) := by
  refine h.has (fun f fd F => F.binds fun _ _ _ _ _ _ us hl => by obtain ⟨_, _, _, rfl⟩ := len3 hl; exact rfl) fun f fd F => F.ok sc_scaled_row (fun vs H Q E h => ?_) (fun cdv A outer s H vs Q E hr h => ?_)
  · obtain ⟨_, _, _, _, _, _, _, rfl, _⟩ := h
    rfl
  obtain ⟨κ, sk, r, cv, c, xs, f, rfl, hk, hc, hr', al, bc, bf, lf, k⟩ := h
  refine ⟨_, (pss_one (ps_ret (pe_comp ["each"] [(0, "kind"), (1, "number")] rfl (pi_list (pv 2)) (by exact fun _ _ _ _ => (pg_name (i := 0) (show (["each", "kind", "number"] : List Str).Nodup by decide +kernel) rfl (Or.inl rfl))) (by exact fun _ _ _ _ => (pe_methAK ⟨rfl, rfl, rfl, rfl, rfl⟩ (pv 1) hr (pa_cons (pv 2) (pa_cons (pv 0) pa_nil)))) ⟨⟨rfl, rfl, Or.inl rfl⟩, ⟨⟨rfl, rfl, Or.inl rfl⟩, trivial⟩⟩))), ?_⟩
  refine ⟨_, rfl, r, rfl, ⟨_, SqL.of hr'⟩, ?_⟩
  have l := al.1
  refine comp_list (K := K) (a := r) (xs := xs) (fun i ys H2 => Same H H2 ∧ AllG (NR κ H2) ys ((f.take i).map (c * ·))) (by omega) ⟨Same.refl H, .nil⟩ (fun i ys H2 _ q => SqL.of (q.1 _ _ hr')) ?_ ?_
  · rintro i x ys H2 hx hl ⟨S, e⟩
    obtain ⟨y, hy, ny⟩ := al.get hx
    obtain ⟨C, dx, fs, ps, dvs, sp, h1, h2, h3, h4, rfl, h5⟩ := mt κ H2 sk (hk.same S)
    refine ⟨_, rfl, sk, C, dx, fs, ps, _, sp, rfl, h1, h2, h3, h4, _, rfl, _, rfl, h5 _ _ _ c y _ (Same.refl _) (hc.same S) (ny.same S) bc (bf y (List.mem_of_getElem? hy)) fun t H3 S3 nt => ?_⟩
    refine ⟨S.trans S3, ?_⟩
    rw [List.take_succ, hy, List.map_append]
    exact (e.mono fun _ _ n => n.same S3).append (.one nt)
  · rintro ys H2 hl ⟨S, e⟩ D hD
    rw [l, List.take_length] at e
    exact k _ D ys (S.trans (same_new hD _)) (S.free hD) upd_same (e.mono fun _ _ n => n.same (same_new hD _))
end

section
variable {P : Program} {w : World} {K : PySem.W.Frag} {mg : Str → Option Value} {base : Heap} {CF CR : Addr}
theorem sc_plus_row : FnScope ["kind", "row", "other"] ["kind", "row", "other"] (defScope s_plus_row) := ⟨rfl, rfl, rfl, by decide +kernel, rfl, by decide +kernel, by decide +kernel⟩
theorem ok_plus_rowX (h : Here K mg "plus_row" s_plus_row) (Tz : mg "zip" = none) (mp : Meth2 P w K mg base CF CR "plus" (fun _ x y => x + y)) : Has P w K mg base "plus_row" 3 ["kind", "row", "other"] (sp_plus_rowX CF CR) := by
  refine h.has (fun f fd F => F.binds fun _ _ _ _ _ _ us hl => by obtain ⟨_, _, _, rfl⟩ := len3 hl; exact rfl) fun f fd F => F.ok sc_plus_row (fun vs H Q E h => ?_) (fun cdv A outer s H vs Q E hr h => ?_)
  · obtain ⟨_, _, _, _, _, _, _, _, rfl, _⟩ := h
    rfl
  obtain ⟨κ, sk, r1, r2, xs, ys, f, g, rfl, hk, h1, h2, a1, a2, b1, b2, lf, k⟩ := h
  refine ⟨_, (pss_one (ps_ret (pe_comp ["left", "right"] [(0, "kind")] rfl (pi_zip (by rfl) Tz (pa_cons (pv 1) (pa_cons (pv 2) pa_nil))) (by exact fun _ _ _ _ => (pg_tupK (n := 2) K rfl rfl (pgs_cons (pg_name (i := 0) (show (["left", "right", "kind"] : List Str).Nodup by decide +kernel) rfl (Or.inl rfl)) (pgs_cons (pg_name (i := 1) (show (["left", "right", "kind"] : List Str).Nodup by decide +kernel) rfl (Or.inl rfl)) pgs_nil)))) (by exact fun _ _ _ _ => (pe_methAK ⟨rfl, rfl, rfl, rfl, rfl⟩ (pv 2) hr (pa_cons (pv 0) (pa_cons (pv 1) pa_nil)))) ⟨⟨rfl, rfl, Or.inl rfl⟩, trivial⟩))), ?_⟩
  refine ⟨_, rfl, _, rfl, r1, r2, rfl, ⟨_, SqL.of h1⟩, ⟨_, SqL.of h2⟩, ?_⟩
  have l1 := a1.1
  have l2 := a2.1
  refine comp_zip2 (K := K) (a := r1) (b := r2) (xs := xs) (ys := ys) (fun i zs H2 => Same H H2 ∧ AllG (NR κ H2) zs (List.zipWith (· + ·) (f.take i) (g.take i))) (by omega) ⟨Same.refl H, .nil⟩ (fun i zs H2 q => ⟨SqL.of (q.1 _ _ h1), SqL.of (q.1 _ _ h2)⟩) ?_ ?_
  · rintro i x y T zs H2 hx hy hl nT ⟨S, e⟩
    obtain ⟨p, q, hp, hq, np, nq⟩ := a1.zip a2 hx hy
    have ST := same_new nT (.tup [x, y])
    generalize upd H2 T (.tup [x, y]) = H3 at *
    have S3 := S.trans ST
    obtain ⟨C, dx, fs, ps, dvs, sp, c1, c2, c3, c4, rfl, c5⟩ := mp κ H3 sk (hk.same S3)
    refine ⟨_, rfl, sk, C, dx, fs, ps, _, sp, rfl, c1, c2, c3, c4, _, rfl, _, rfl, c5 _ _ _ p q _ (Same.refl _) (np.same S3) (nq.same S3) (b1 p (List.mem_of_getElem? hp)) (b2 q (List.mem_of_getElem? hq)) fun t H4 S4 nt => ?_⟩
    refine ⟨S3.trans S4, ?_⟩
    rw [List.take_succ, hp, List.take_succ, hq]
    have lp := (List.getElem?_eq_some_iff.mp hp).1
    have lq := (List.getElem?_eq_some_iff.mp hq).1
    rw [show (some p).toList = [p] from rfl, show (some q).toList = [q] from rfl, List.zipWith_append (by rw [List.length_take, List.length_take]; omega)]
    exact (e.mono fun _ _ n => n.same (ST.trans S4)).append (.one nt)
  · rintro zs H2 hl ⟨S, e⟩ D hD
    have ez : List.zipWith (· + ·) (f.take (min xs.length ys.length)) (g.take (min xs.length ys.length)) = List.zipWith (· + ·) f g := by
      rw [← List.take_zipWith, List.take_of_length_le]
      rw [List.length_zipWith]
      omega
    rw [ez] at e
    exact k _ D zs (S.trans (same_new hD _)) (S.free hD) upd_same (e.mono fun _ _ n => n.same (same_new hD _))
end

section
variable {P : Program} {w : World} {K : PySem.W.Frag} {mg : Str → Option Value} {base : Heap} {CF CR : Addr}
theorem meth_nought (kd : Kd K mg CF CR) (hF : HasM P w K mg base CF "is_nought" 2 ["self", "one"] [] (sp_Fnought K CF)) (hR : HasM P w K mg base CR "is_nought" 2 ["self", "one"] [] sp_Rnought) : Nought P w K mg base CF CR := by
  intro κ H s hk
  cases κ with
  | q =>
    obtain ⟨dx, h⟩ := hk
    refine ⟨CF, dx, [], _, _, _, h, kd.clF, hF, rfl, rfl, fun u x Q hu k => ?_⟩
    obtain ⟨a, rfl, hu⟩ := hu
    refine ⟨s, a, _, _, rfl, SqT.of hu, k _ ?_⟩
    rw [decide_eq_true_iff]
    exact Rat.num_eq_zero
  | r p hp =>
    obtain ⟨dx, h⟩ := hk
    refine ⟨CR, dx, fsR p, _, _, _, h, kd.clR, hR, fsR_no _ (by decide), rfl, fun u x Q hu k => ?_⟩
    have hu : u = .int x.val := hu
    subst hu
    refine ⟨s, _, rfl, k _ ?_⟩
    rw [decide_eq_true_iff]
    letI := hp.nz
    have z : (0 : Fin p).val = 0 := by simp
    constructor
    · intro e
      exact Fin.ext (by rw [z]; omega)
    · intro e
      have e : x = (0 : Fin p) := e
      rw [e, z]; rfl
end

section
variable {P : Program} {w : World} {K : PySem.W.Frag} {mg : Str → Option Value} {base : Heap} {CF CR cT : Addr}
theorem sc_make_turn : FnScope ["kind", "rows", "turn", "place", "kept"] ["kind", "rows", "turn"] (defScope s_make_turn) := ⟨rfl, rfl, rfl, by decide +kernel, rfl, by decide +kernel, by decide +kernel⟩
theorem ok_make_turn (h : Here K mg "make_turn" s_make_turn) (h_scaled_row : Has P w K mg base "scaled_row" 3 ["kind", "number", "row"] (sp_scaled_rowX CF CR)) (h_plus_row : Has P w K mg base "plus_row" 3 ["kind", "row", "other"] (sp_plus_rowX CF CR)) : Has P w K mg base "make_turn" 4 ["kind", "rows", "turn"] (sp_make_turn CF CR) := by
  refine h.has (fun f fd F => F.binds fun _ _ _ _ _ _ us hl => by obtain ⟨_, _, _, rfl⟩ := len3 hl; exact rfl) fun f fd F => F.ok sc_make_turn (fun vs H Q E h => ?_) (fun cdv A outer s H vs Q E hr h => ?_)
  · obtain ⟨_, _, _, _, _, _, _, rfl, _⟩ := h
    rfl
  obtain ⟨κ, sk, r, as, R, tv, t, rfl, hk, hR, rx, nr, l1000, ht, ok, pre, k⟩ := h
  have nd := sc_make_turn.nd
  refine ⟨_, (pss_cons (ps_set (i := 3) nd rfl (Or.inl rfl) (pe_ix ix_tup (pv 2) pe_int (fun _ _ => rfl)))
    (pss_one (ps_if (pt_cmpR op_eq (pe_ix ix_tup (pv 2) pe_int (fun _ _ => rfl)) pe_str (nomark _)) (pss_cons (ps_set (i := 4) nd rfl (Or.inl rfl) (pe_ix ix_list (pv 1) (pv 3) (fun _ _ => rfl)))
      (pss_cons (ps_asg (pe_ix ix_list (pv 1) (pe_ix ix_tup (pv 2) pe_int (fun _ _ => rfl)) (fun _ _ => rfl)) (pg_sub (pv 1) (pv 3) set_list))
      (pss_one (ps_asg (pv 4) (pg_sub (pv 1) (pe_ix ix_tup (pv 2) pe_int (fun _ _ => rfl)) set_list))))) (pss_one (ps_if (pt_cmpR op_eq (pe_ix ix_tup (pv 2) pe_int (fun _ _ => rfl)) pe_str (nomark _)) (pss_one (ps_asg (pe_has h_scaled_row hr (by rfl) (pa_cons (pv 0) (pa_cons (pe_ix ix_tup (pv 2) pe_int (fun _ _ => rfl)) (pa_cons (pe_ix ix_list (pv 1) (pv 3) (fun _ _ => rfl)) pa_nil)))) (pg_sub (pv 1) (pv 3) set_list))) (pss_one (ps_asg (pe_has h_plus_row hr (by rfl) (pa_cons (pv 0) (pa_cons (pe_ix ix_list (pv 1) (pv 3) (fun _ _ => rfl)) (pa_cons (pe_has h_scaled_row hr (by rfl) (pa_cons (pv 0) (pa_cons (pe_ix ix_tup (pv 2) pe_int (fun _ _ => rfl)) (pa_cons (pe_ix ix_list (pv 1) (pe_ix ix_tup (pv 2) pe_int (fun _ _ => rfl)) (fun _ _ => rfl)) pa_nil)))) pa_nil)))) (pg_sub (pv 1) (pv 3) set_list)))))))), ?_⟩
  have la := rx.1
  have lm : (as.map V.ref).length = R.length := by rw [List.length_map]; exact la
  cases t with
  | swap i j =>
    obtain ⟨a, rfl, ha⟩ := ht
    obtain ⟨⟨i0, i1⟩, ⟨j0, j1⟩, ne⟩ := ok
    obtain ⟨b, xs, hb, hx, al⟩ := rx.get (i := i.toNat) (by omega)
    obtain ⟨c, ys, hc, hy, bl⟩ := rx.get (i := j.toNat) (by omega)
    refine ⟨_, rfl, a, _, 1, _, rfl, rfl, SqT.of ha, rfl, ?_⟩
    refine ⟨_, rfl, a, _, 0, _, rfl, rfl, SqT.of ha, rfl, rfl, _, rfl, ite_yes rfl ?_⟩
    refine ⟨_, rfl, _, rfl, r, _, _, _, rfl, rfl, SqL.of hR, ref_atI i0 hb, ?_⟩
    refine ⟨_, rfl, _, rfl, a, _, 2, _, rfl, rfl, SqT.of ha, rfl, r, _, _, _, rfl, rfl, SqL.of hR, ref_atI j0 hc, ?_⟩
    refine ⟨_, rfl, _, rfl, r, _, _, _, rfl, rfl, hR, ixN_int i0 (by rw [lm]; exact i1), ?_⟩
    rw [map_set_ref]
    have nra : a ≠ r := fun z => by rw [z, hR] at ha; cases ha
    refine ⟨_, rfl, _, rfl, _, rfl, a, _, 2, _, rfl, rfl, SqT.of (by rw [upd_ne nra]; exact ha), rfl, r, _, _, _, rfl, rfl, upd_same, ixN_int j0 (by rw [List.length_map, List.length_set, la]; exact j1), ?_⟩
    rw [map_set_ref]
    have O : Off [r] H (upd (upd H r (.lst ((as.set i.toNat c).map V.ref))) r (.lst (((as.set i.toNat c).set j.toNat b).map V.ref))) := fun x o n q => by
      have nx : x ≠ r := fun z => n (by rw [z]; exact List.mem_singleton.mpr rfl)
      rw [upd_ne nx, upd_ne nx]; exact q
    have rx' := rx.off nr hR O
    obtain ⟨xs', hx', al'⟩ := rx'.2 i.toNat b _ hb (List.getElem?_eq_getElem (by omega))
    obtain ⟨ys', hy', bl'⟩ := rx'.2 j.toNat c _ hc (List.getElem?_eq_getElem (by omega))
    refine k _ ((as.set i.toNat c).set j.toNat b) O upd_same ?_ (fun m => nr (mem_swap hb hc m)) (fun ndp => nodup_swap ndp hb hc) (fun x m => .inl (mem_swap hb hc m))
    show RowsX κ _ _ ((R.set i.toNat (R.getD j.toNat [])).set j.toNat (R.getD i.toNat []))
    rw [getD_get (List.getElem?_eq_getElem (show j.toNat < R.length by omega)), getD_get (List.getElem?_eq_getElem (show i.toNat < R.length by omega))]
    exact (rx'.set _ hy' bl').set _ hx' al'
  | scale i c =>
    obtain ⟨a, u, rfl, ha, nu⟩ := ht
    obtain ⟨⟨i0, i1⟩, _⟩ := ok
    obtain ⟨b, xs, hb, hx, al⟩ := rx.get (i := i.toNat) (by omega)
    have eg := getD_get (List.getElem?_eq_getElem (show i.toNat < R.length by omega))
    obtain ⟨bc, bx⟩ := pre
    rw [eg] at bx
    refine ⟨_, rfl, a, _, 1, _, rfl, rfl, SqT.of ha, rfl, ?_⟩
    refine ⟨_, rfl, a, _, 0, _, rfl, rfl, SqT.of ha, rfl, rfl, _, rfl, ite_no s21 ?_⟩
    refine ⟨_, rfl, a, _, 0, _, rfl, rfl, SqT.of ha, rfl, rfl, _, rfl, ite_yes rfl ?_⟩
    refine ⟨_, rfl, _, rfl, a, _, 2, _, rfl, rfl, SqT.of ha, rfl, _, rfl, _, rfl, r, _, _, _, rfl, rfl, SqL.of hR, ref_atI i0 hb, κ, sk, b, u, c, xs, _, rfl, hk, nu, hx, al, bc, bx, l1000 _ (List.getElem_mem (by omega)), fun H1 D ys S1 nD hD bl => ?_⟩
    refine ⟨_, rfl, _, rfl, r, _, _, _, rfl, rfl, S1 _ _ hR, ixN_int i0 (by rw [lm]; exact i1), ?_⟩
    rw [map_set_ref]
    have O : Off [r] H (upd H1 r (.lst ((as.set i.toNat D).map V.ref))) := off_upd' S1
    have O1 : Off [r] H1 (upd H1 r (.lst ((as.set i.toNat D).map V.ref))) := off_upd' (Same.refl H1)
    have nDr : D ≠ r := fun z => by rw [z, hR] at nD; cases nD
    have nDa : D ∉ as := fun m => by
      obtain ⟨n, hn, e⟩ := List.getElem_of_mem m
      obtain ⟨zs, hz, _⟩ := rx.2 n D _ (by rw [← e]; exact List.getElem?_eq_getElem hn) (List.getElem?_eq_getElem (show n < R.length by omega))
      rw [hz] at nD; cases nD
    refine k _ (as.set i.toNat D) O upd_same ?_ (fun m => ?_) (fun ndp => nodup_set ndp nDa) (fun x m => ?_)
    · show RowsX κ _ _ (R.set i.toNat ((R.getD i.toNat []).map (c * ·)))
      rw [eg]
      exact (rx.off nr hR O).set _ (by rw [upd_ne nDr]; exact hD) (bl.mono fun _ _ n => n.off (S1 _ _ hR) O1)
    · rcases List.mem_or_eq_of_mem_set m with m | z
      · exact nr m
      · exact nDr z.symm
    · rcases List.mem_or_eq_of_mem_set m with m | rfl
      · exact .inl m
      · exact .inr nD
  | add i j c =>
    obtain ⟨a, u, rfl, ha, nu⟩ := ht
    obtain ⟨⟨i0, i1⟩, ⟨j0, j1⟩, _⟩ := ok
    obtain ⟨b, xs, hb, hx, al⟩ := rx.get (i := i.toNat) (by omega)
    obtain ⟨e, zs, he, hz, el⟩ := rx.get (i := j.toNat) (by omega)
    have eg := getD_get (List.getElem?_eq_getElem (show i.toNat < R.length by omega))
    have eh := getD_get (List.getElem?_eq_getElem (show j.toNat < R.length by omega))
    obtain ⟨bc, bx, by'⟩ := pre
    rw [eg] at bx
    rw [eh] at by'
    refine ⟨_, rfl, a, _, 1, _, rfl, rfl, SqT.of ha, rfl, ?_⟩
    refine ⟨_, rfl, a, _, 0, _, rfl, rfl, SqT.of ha, rfl, rfl, _, rfl, ite_no s31 ?_⟩
    refine ⟨_, rfl, a, _, 0, _, rfl, rfl, SqT.of ha, rfl, rfl, _, rfl, ite_no s32 ?_⟩
    refine ⟨_, rfl, _, rfl, _, rfl, r, _, _, _, rfl, rfl, SqL.of hR, ref_atI i0 hb, _, rfl, _, rfl, a, _, 3, _, rfl, rfl, SqT.of ha, rfl, _, rfl, _, rfl, a, _, 2, _, rfl, rfl, SqT.of ha, rfl, r, _, _, _, rfl, rfl, SqL.of hR, ref_atI j0 he, κ, sk, e, u, c, zs, _, rfl, hk, nu, hz, el, bc, fun y hy => (by' y hy).1, l1000 _ (List.getElem_mem (by omega)), fun H1 D1 ws S1 nD1 hD1 wl => ?_⟩
    refine ⟨κ, sk, b, D1, xs, ws, _, _, rfl, hk.same S1, S1 _ _ hx, hD1, al.mono fun _ _ n => n.same S1, wl, bx, fun y hy => ?_, l1000 _ (List.getElem_mem (by omega)), fun H2 D ys S2 nD hD bl => ?_⟩
    · obtain ⟨z, hz', rfl⟩ := List.mem_map.mp hy
      exact (by' z hz').2
    have S12 := S1.trans S2
    refine ⟨_, rfl, _, rfl, r, _, _, _, rfl, rfl, S12 _ _ hR, ixN_int i0 (by rw [lm]; exact i1), ?_⟩
    rw [map_set_ref]
    have O : Off [r] H (upd H2 r (.lst ((as.set i.toNat D).map V.ref))) := off_upd' S12
    have O1 : Off [r] H2 (upd H2 r (.lst ((as.set i.toNat D).map V.ref))) := off_upd' (Same.refl H2)
    have nD0 : H D = none := S1.free nD
    have nDr : D ≠ r := fun z => by rw [z, hR] at nD0; cases nD0
    have nDa : D ∉ as := fun m => by
      obtain ⟨n, hn, e⟩ := List.getElem_of_mem m
      obtain ⟨zs, hz, _⟩ := rx.2 n D _ (by rw [← e]; exact List.getElem?_eq_getElem hn) (List.getElem?_eq_getElem (show n < R.length by omega))
      rw [hz] at nD0; cases nD0
    refine k _ (as.set i.toNat D) O upd_same ?_ (fun m => ?_) (fun ndp => nodup_set ndp nDa) (fun x m => ?_)
    · show RowsX κ _ _ (R.set i.toNat (List.zipWith (· + ·) (R.getD i.toNat []) ((R.getD j.toNat []).map (c * ·))))
      rw [eg, eh]
      exact (rx.off nr hR O).set _ (by rw [upd_ne nDr]; exact hD) (bl.mono fun _ _ n => n.off (S12 _ _ hR) O1)
    · rcases List.mem_or_eq_of_mem_set m with m | z
      · exact nr m
      · exact nDr z.symm
    · rcases List.mem_or_eq_of_mem_set m with m | rfl
      · exact .inl m
      · exact .inr nD0
end

end My

namespace My
open PySem L2 PyProof.Rows

theorem scF_idle {κ : KX} {t : Tn κ} {ts : List (Tn κ)} (h : t.idle) : scF ts = scT t * scF ts := by
  cases t with
  | swap i j => exact absurd h id
  | scale i c =>
    have h : c = 1 := h
    show _ = c * _
    rw [h]; grind
  | add i j c => show _ = 1 * _; grind
section
variable {P : Program} {w : World} {K : PySem.W.Frag} {mg : Str → Option Value} {base : Heap} {CF CR : Addr}
theorem sc_is_idle : FnScope ["kind", "turn"] ["kind", "turn"] (defScope s_is_idle) := ⟨rfl, rfl, rfl, by decide +kernel, rfl, by decide +kernel, by decide +kernel⟩
theorem ok_is_idle (h : Here K mg "is_idle" s_is_idle) (mn : MethNum P w K mg base CF CR) (nt : Nought P w K mg base CF CR) : Has P w K mg base "is_idle" 4 ["kind", "turn"] (sp_is_idle CF CR) := by
  refine h.has (fun f fd F => F.binds fun _ _ _ _ _ _ us hl => by obtain ⟨_, _, rfl⟩ := len2 hl; exact rfl) fun f fd F => F.ok sc_is_idle (fun vs H Q E h => ?_) (fun cdv A outer s H vs Q E hr h => ?_)
  · obtain ⟨_, _, _, _, rfl, _⟩ := h
    rfl
  obtain ⟨κ, sk, tv, t, rfl, hk, ht, k⟩ := h
  refine ⟨_, (pss_cons (ps_if (pt_cmpR op_eq (pe_ix ix_tup (pv 1) pe_int (fun _ _ => rfl)) pe_str (nomark _)) (pss_one (ps_ret (pe_cmpR (op_eqN hr) (pe_ix ix_tup (pv 1) pe_int (fun _ _ => rfl)) (pe_methX (pv 0) passN hr (pa_cons pe_int pa_nil)) (nomark _)))) pss_nil)
    (pss_one (ps_ret (pe_and (pe_cmpR op_eq (pe_ix ix_tup (pv 1) pe_int (fun _ _ => rfl)) pe_str (nomark _)) (pe_one (pe_methA (pv 0) hr (pa_cons (pe_ix ix_tup (pv 1) pe_int (fun _ _ => rfl)) pa_nil))))))), ?_⟩
  cases t with
  | scale i c =>
    obtain ⟨a, u, rfl, ha, nu⟩ := ht
    obtain ⟨C, dx, fs, ps, dvs, sp, c1, c2, c3, c4, rfl, c5⟩ := mn κ H sk hk
    refine ⟨_, rfl, a, _, 0, _, rfl, rfl, SqT.of ha, rfl, rfl, _, rfl, ite_yes rfl ?_⟩
    refine ⟨_, rfl, a, _, 2, _, rfl, rfl, SqT.of ha, rfl, _, rfl, sk, C, dx, fs, ps, _, sp, rfl, c1, c2, c3, c4, c5 H 1 1 _ _ (Same.refl H) numV1 fun v H1 S1 nv => ?_⟩
    obtain ⟨b, hb, eb⟩ := nr_eq (nu.same S1) nv
    exact ⟨b, hb, k H1 b S1 eb⟩
  | swap i j =>
    obtain ⟨a, rfl, ha⟩ := ht
    refine ⟨_, rfl, a, _, 0, _, rfl, rfl, SqT.of ha, rfl, rfl, _, rfl, ite_no s12 ?_⟩
    refine ⟨_, rfl, a, _, 0, _, rfl, rfl, SqT.of ha, rfl, rfl, _, rfl, ite_no s13 ?_⟩
    exact k H _ (Same.refl H) ⟨fun z => (nomatch z), fun z => absurd z id⟩
  | add i j c =>
    obtain ⟨a, u, rfl, ha, nu⟩ := ht
    obtain ⟨C, dx, fs, ps, dvs, sp, c1, c2, c3, c4, rfl, c5⟩ := nt κ H sk hk
    refine ⟨_, rfl, a, _, 0, _, rfl, rfl, SqT.of ha, rfl, rfl, _, rfl, ite_no s32 ?_⟩
    refine ⟨_, rfl, a, _, 0, _, rfl, rfl, SqT.of ha, rfl, rfl, _, rfl, ite_yes rfl ?_⟩
    exact ⟨_, rfl, sk, C, dx, fs, ps, _, sp, rfl, c1, c2, c3.mono (by decide), c4, _, rfl, a, _, 3, _, rfl, rfl, SqT.of ha, rfl, c5 u c _ nu fun b hb => k H b (Same.refl H) hb⟩
theorem sc_take : FnScope ["kind", "rows", "turns", "turn"] ["kind", "rows", "turns", "turn"] (defScope s_take) := ⟨rfl, rfl, rfl, by decide +kernel, rfl, by decide +kernel, by decide +kernel⟩
theorem ok_take (h : Here K mg "take" s_take) (h_is_idle : Has P w K mg base "is_idle" 4 ["kind", "turn"] (sp_is_idle CF CR)) (h_make_turn : Has P w K mg base "make_turn" 4 ["kind", "rows", "turn"] (sp_make_turn CF CR)) : Has P w K mg base "take" 5 ["kind", "rows", "turns", "turn"] (sp_take CF CR) := by
  refine h.has (fun f fd F => F.binds fun _ _ _ _ _ _ us hl => by obtain ⟨_, _, _, _, rfl⟩ := len4 hl; exact rfl) fun f fd F => F.ok sc_take (fun vs H Q E h => ?_) (fun cdv A outer s H vs Q E hr h => ?_)
  · obtain ⟨_, _, _, _, _, _, _, _, _, _, _, _, rfl, _⟩ := h
    rfl
  obtain ⟨κ, sk, r, u, Z, R0, pw, m, R, ts, tv, t, rfl, hk, wk, l4, ht, ok, pre, k⟩ := h
  refine ⟨_, (pss_one (ps_if (pt_not (pt_val (pe_has h_is_idle hr (by rfl) (pa_cons (pv 0) (pa_cons (pv 3) pa_nil))))) (pss_cons (ps_expr (pe_has h_make_turn hr (by rfl) (pa_cons (pv 0) (pa_cons (pv 1) (pa_cons (pv 3) pa_nil)))))
      (pss_one (ps_expr (pe_bm PySem.F.plainAttrs_list PySem.F.slot_list_append PySem.F.type_list_append mt_append (pv 2) (pa_cons (pv 3) pa_nil))))) pss_nil)), ?_⟩
  have lR := wk.len
  refine ⟨_, rfl, _, rfl, κ, sk, tv, t, rfl, hk, ht, fun H1 b S1 hb => ⟨_, rfl, ?_⟩⟩
  have wk1 := wk.same S1
  cases b with
  | true =>
    refine iteF ?_
    have e := doT_idle wk.wd (by rw [lR]; exact ok) (hb.mp rfl)
    exact k H1 ts (fun b o _ q => S1 _ _ q) (by rw [e]; exact wk1) (by omega) (scF_idle (hb.mp rfl))
  | false =>
    refine iteT ?_
    obtain ⟨as, h1, h2, h3⟩ := wk1.rows
    obtain ⟨tvs, g1, g2⟩ := wk1.turns
    refine ⟨_, rfl, _, rfl, _, rfl, κ, sk, r, as, R.map (List.take pw), tv, t, rfl, hk.same S1, h1, h2, h3 r wk.zr, fun f hf => by rw [wid_take wk.wd wk.wm f hf]; exact Nat.le_trans wk.wm wk.m7, ht.same S1, by rw [List.length_map, lR]; exact ok, (pre_take pw pre).pre, fun H2 as' O hR2 rx2 nr2 _ sub => ?_⟩
    rw [← take_doT] at rx2
    have nu : u ∉ [r] := fun z => wk.ne (List.mem_singleton.mp z).symm
    have qu := O _ _ nu g1
    have lt := g2.1
    refine ⟨_, rfl, .inl ⟨rfl, _, SqL.of qu⟩, _, rfl, u, tvs, tv, rfl, rfl, qu, Nat.lt_of_lt_of_le (show tvs.length < 1000 by omega) (by decide), ?_⟩
    have nza : ∀ z ∈ Z, z ∉ as' := fun z hz q => by
      rcases sub z q with q | q
      · exact h3 z hz q
      · obtain ⟨o, e⟩ := wk1.za z hz
        rw [e] at q; cases q
    have nua := nza u wk.zu
    have O2 : Off [u] H2 (upd H2 u (.lst (tvs ++ [tv]))) := off_upd' (Same.refl H2)
    have Oa : Off [r, u] H1 (upd H2 u (.lst (tvs ++ [tv]))) := fun b o nb q => by
      have n1 : b ∉ [r] := fun z => nb (by rw [List.mem_singleton.mp z]; exact List.mem_cons_self)
      have n2 : b ∉ [u] := fun z => nb (by rw [List.mem_singleton.mp z]; simp)
      exact O2 _ _ n2 (O _ _ n1 q)
    refine k _ (ts ++ [t]) (fun b o nb q => Oa b o nb (S1 _ _ q)) ⟨⟨as', ?_, rx2.off nua qu O2, nza⟩, ⟨tvs ++ [tv], upd_same, ?_⟩, ?_, ?_, ?_, wk.wid, wk.ne, wk.m7, ?_, wk.zr, wk.zu, ?_, wk.wm⟩ (by simp) (scF_snoc ts t)
    · exact O2 _ _ (fun z => wk.ne (List.mem_singleton.mp z)) hR2
    · exact (g2.mono fun _ _ n => n.off2 h1 g1 Oa).append (.one ((ht.same S1).off2 h1 g1 Oa))
    · rw [runT_snoc, ← wk.run]
    · intro x hx
      rcases List.mem_append.mp hx with hx | hx
      · exact wk.ok x hx
      · rw [List.mem_singleton.mp hx]; exact ok
    · intro i x hx
      rw [List.getElem?_append] at hx
      split at hx
      · rename_i hi
        rw [List.take_append_of_le_length (by omega)]
        exact wk.pre i x hx
      · rename_i hi
        have hi2 : i = ts.length := by
          cases q : i - ts.length with
          | zero => omega
          | succ n => rw [q] at hx; simp at hx
        subst hi2
        rw [Nat.sub_self] at hx
        cases hx
        rw [List.take_left, ← wk.run]
        exact pre
    · rw [List.length_append]; show _ + 1 ≤ 400; omega
    · intro z hz
      by_cases e1 : z = u
      · subst e1; exact ⟨_, upd_same⟩
      · by_cases e2 : z = r
        · subst e2; exact ⟨_, O2 _ _ (fun q => wk.ne (List.mem_singleton.mp q)) hR2⟩
        · obtain ⟨o, e⟩ := wk1.za z hz
          refine ⟨o, Oa _ _ (fun q => ?_) e⟩
          rcases List.mem_cons.mp q with q | q
          · exact e2 q
          · exact e1 (List.mem_singleton.mp q)
theorem sc_first_filled : FnScope ["kind", "rows", "start", "column", "place"] ["kind", "rows", "start", "column"] (defScope s_first_filled) := ⟨rfl, rfl, rfl, by decide +kernel, rfl, by decide +kernel, by decide +kernel⟩
theorem ok_first_filled (h : Here K mg "first_filled" s_first_filled) (T : Nm mg) (nt : Nought P w K mg base CF CR) : Has P w K mg base "first_filled" 3 ["kind", "rows", "start", "column"] (sp_first_filled CF CR) := by
  refine h.has (fun f fd F => F.binds fun _ _ _ _ _ _ us hl => by obtain ⟨_, _, _, _, rfl⟩ := len4 hl; exact rfl) fun f fd F => F.ok sc_first_filled (fun vs H Q E h => ?_) (fun cdv A outer s H vs Q E hr h => ?_)
  · obtain ⟨_, _, _, _, _, _, _, _, _, _, _, _, rfl, _⟩ := h
    rfl
  obtain ⟨κ, sk, r, u, Z, R0, pw, m, R, ts, l, c, rfl, hk, wk, cm, ln, n1000, k⟩ := h
  have nd := sc_first_filled.nd
  refine ⟨_, (pss_cons (ps_for PassesOwn.never rfl (pi_range2 (by rfl) T.range (pa_cons (pv 2) (pa_cons (pe_callB call_len_seq (by rfl) T.len boot_len (pa_cons (pv 1) pa_nil)) pa_nil))) (pg_name (i := 4) nd rfl (Or.inl rfl)) (pss_one (ps_if (pt_not (pt_val (pe_methA (pv 0) hr (pa_cons (pe_ix ix_list (pe_ix ix_list (pv 1) (pv 4) (fun _ _ => rfl)) (pv 3) (fun _ _ => rfl)) pa_nil)))) (pss_one (ps_ret (pv 4))) pss_nil)))
    (pss_one (ps_ret (pe_callB call_len_seq (by rfl) T.len boot_len (pa_cons (pv 1) pa_nil))))), ?_⟩
  obtain ⟨as, hR, la⟩ := wk.rl
  obtain ⟨C, dx, fs, ps, dvs, sp, c1, c2, c3, c4, rfl, c5⟩ := nt κ H sk hk
  refine ⟨_, rfl, _, rfl, r, _, rfl, .inl (SqL.of hR), _, _, rfl, ?_⟩
  rw [List.length_map, la]
  refine ⟨⟨by omega, by omega, by omega, by omega⟩, ?_⟩
  rw [show ((R0.length : Int) - (l : Int)).toNat = R0.length - l by omega]
  refine for_range (lo := (l : Int)) (n := R0.length - l) (fun i σ H2 => ∃ z : Option V, σ = [some (.ref sk), some (.ref r), some (.int (l : Int)), some (.int (c : Int)), z] ∧ H2 = H ∧ ∀ j, l ≤ j → j < l + i → ent R j c = 0) ⟨_, rfl, rfl, fun j a b => by omega⟩ ?_ ?_
  · rintro i σ H2 hi ⟨z, rfl, rfl, hz⟩
    obtain ⟨as', a, xs, v, e1, e2, e3, e4, e5, e6⟩ := wk.ent (i := l + i) (j := c) (by omega) cm
    have ec : ((l : Int) + (i : Int)) = ((l + i : Nat) : Int) := by omega
    refine ⟨_, rfl, sk, C, dx, fs, ps, _, sp, rfl, c1, c2, c3, c4, _, rfl, _, rfl, r, _, _, _, rfl, rfl, SqL.of e1, (by rw [ec]; exact ref_at e3), _, rfl, a, _, _, _, rfl, rfl, SqL.of e4, atI_nat e5, c5 v _ _ e6 fun b hb => ⟨_, rfl, ?_⟩⟩
    cases b with
    | false =>
      refine iteT ⟨_, rfl, ?_⟩
      show Q (V.int ((l : Int) + (i : Int))) _
      rw [ec]
      exact k (l + i) (by omega) (by omega) (fun _ z => by have := hb.mpr z; cases this) (fun j a b => hz j a b)
    | true =>
      refine iteF ⟨_, rfl, rfl, fun j a b => ?_⟩
      by_cases e : j = l + i
      · rw [e]; exact hb.mp rfl
      · exact hz j a (by omega)
  · rintro σ H2 ⟨z, rfl, rfl, hz⟩
    refine ⟨_, rfl, r, _, rfl, .inl (SqL.of hR), ?_⟩
    rw [List.length_map, la]
    exact k R0.length ln (Nat.le_refl _) (fun z => by omega) (fun i a b => hz i a (by omega))
end

end My

set_option maxHeartbeats 1000000
namespace My
open PySem L2 PyProof.Rows
section
variable {κ : KX}
/-- the table handed in is small enough; behind its columns may stand others, that nobody reads -/
structure QT (κ : KX) (pw : Nat) (R : List (List κ.F)) : Prop where
  l4 : κ = .q → R.length ≤ 4
  ex : ∃ (B : Int) (b g : Nat), 0 < B ∧ Bits b B ∧ b + g ≤ 300 ∧ ∀ f ∈ R, (∀ x ∈ f.take pw, QS κ B 300 x) ∧ ∀ x ∈ f.drop pw, QS κ 1 g x
theorem QS.dv {B : Int} (hB : 0 < B) {a : Nat} {x : κ.F} (h : QS κ B a x) : DvB κ B x := by
  cases κ with
  | r p hp => exact trivial
  | q =>
    obtain ⟨X, rfl, _⟩ := h
    exact (divInt_sz X hB).1
theorem ent_mem {m : Nat} {R : List (List κ.F)} (wd : Wid m R) {i j : Nat} (hi : i < R.length) (hj : j < m) : ent R i j ∈ R.getD i [] := by
  have l := wd.get hi
  unfold ent
  generalize R.getD i [] = f at *
  rw [List.getD_eq_getElem?_getD, List.getElem?_eq_getElem (by omega)]
  exact List.getElem_mem _
theorem k1_ne : K1 κ ≠ 0 := fun z => Fd.zne z.symm
/-- the bottom as a number: it takes the bottoms of the row away -/
theorem bot_num {f : List κ.F} {A B : Int} {b : Nat} (hB : 0 < B) (b3 : b ≤ 300) (bB : Bits b B) (hA : BotV κ f A) (hf : ∀ x ∈ f, QS κ B 300 x) : ∃ xA : κ.F, NumV κ A xA ∧ xA ≠ 0 ∧ B1s κ xA ∧ QS κ 1 b xA ∧ ∀ x ∈ f, QS κ 1 300 (xA * x) := by
  cases κ with
  | r p hp =>
    have hA : A = 1 := hA
    subst hA
    exact ⟨K1 _, numV1, k1_ne, trivial, trivial, fun _ _ => trivial⟩
  | q =>
    obtain ⟨A0, dv, mn⟩ := hA
    have hAB : A ∣ B := mn B fun x hx => QS.dv hB (hf x hx)
    have bA : Bits b A := bB.le (le_of_dvd' hAB (by omega))
    refine ⟨(A : Rat), ⟨rfl, rfl⟩, fun z => ?_, ⟨bA.up (by omega), Bits.of (by show 1 < _; exact Nat.lt_of_lt_of_le (show 1 < 2 ^ 1 by decide) (Nat.pow_le_pow_right (by decide) (by decide)))⟩, ⟨A, (Rat.num_divInt_den (A : Rat)).symm, bA⟩, fun x hx => ?_⟩
    · have : Rat.num (A : Rat) = Rat.num (0 : Rat) := congrArg Rat.num z
      have : A = 0 := this
      omega
    · obtain ⟨X, e, bX⟩ := hf x hx
      obtain ⟨q, hq⟩ := dv x hx
      obtain ⟨C, hC⟩ := hAB
      have hd := (rat_fc x).pos
      refine ⟨Rat.num x * q, ?_, bX.le ?_⟩
      · show (A : Rat) * x = _
        conv => lhs; rw [← Rat.num_divInt_den x, show (A : Rat) = Rat.divInt A 1 from (Rat.num_divInt_den (A : Rat)).symm]
        rw [Rat.divInt_mul_divInt, Rat.divInt_eq_divInt_iff (by omega) (by decide), Int.mul_one, Int.one_mul, hq]
        grind
      · have e1 := divInt_eq X hB
        have e : x = Rat.divInt X B := e
        rw [← e] at e1
        -- num x * B = X * den x, B = den x * q * C
        have e2 : X = Rat.num x * q * C := by
          refine Int.eq_of_mul_eq_mul_right (a := (Rat.den x : Int)) (by omega) ?_
          rw [← e1, hC, hq]
          grind
        have C0 : C ≠ 0 := fun z => by rw [z, Int.mul_zero] at hC; omega
        rw [e2, Int.natAbs_mul (Rat.num x * q) C]
        exact Nat.le_mul_of_pos_right _ (by omega)
theorem Ech.scale {R R' : List (List κ.F)} {n c : Nat} {ls : List Nat} {x : κ.F} (h : Ech R n c ls x) (e : ∀ i < n, ∀ j, ent R' i j = if i < ls.length then Fd.inv x * ent R i j else ent R i j) : Ech R' n c ls 1 := by
  have hx := Fd.mul_inv x h.x0
  have le := h.le
  refine ⟨h.le, h.lt, h.inc, fun z => Fd.zne z.symm, fun k hk i hi => ?_, fun i a b j hj => ?_, fun k hk j hj => ?_⟩
  · rw [e i hi, h.col k hk i hi]
    by_cases e1 : i = k
    · rw [if_pos e1, if_pos e1, if_pos (by omega)]; grind
    · rw [if_neg e1, if_neg e1]
      split
      · grind
      · rfl
  · rw [e i b, if_neg (by omega)]; exact h.low i a b j hj
  · rw [e k (by omega), if_pos hk, h.pre k hk j hj]; grind
end
/-- no row has a bottom -/
def Whl (κ : KX) (pw : Nat) (R0 : List (List κ.F)) : Prop := ∀ f ∈ R0, ∀ A, BotV κ (f.take pw) A → A = 1
def sp_take_bottoms (CF CR : Addr) : Sp := fun vs H Q _ => ∃ (κ : KX) (s r u : Addr) (Z : List Addr) (R0 : List (List κ.F)) (pw m : Nat), vs = [.ref s, .ref r, .ref u] ∧ KdX CF CR κ H s ∧ Wk κ Z R0 pw m r u H R0 [] ∧ QT κ pw R0 ∧ R0.length ≤ 7 ∧
  ∀ H' R' ts', Off [r, u] H H' → Wk κ Z R0 pw m r u H' R' ts' → ts'.length ≤ R0.length → Stg κ R' 0 1 → (Whl κ pw R0 → scF ts' = 1) → Q .non H'
def sp_empty_column (CF CR : Addr) : Sp := fun vs H Q _ => ∃ (κ : KX) (s r u : Addr) (Z : List Addr) (R0 : List (List κ.F)) (pw m : Nat) (R : List (List κ.F)) (ts : List (Tn κ)) (l c : Nat) (lv : V) (x : κ.F) (PQ PN : κ.F → Prop), vs = [.ref s, .ref r, .ref u, .int (l : Int), .int (c : Int), lv] ∧ KdX CF CR κ H s ∧ Wk κ Z R0 pw m r u H R ts ∧ l < R0.length ∧ c < pw ∧ NR κ H lv x ∧ x ≠ 0 ∧ ent R l c ≠ 0 ∧ AllR PQ R ∧ PivB x PQ PN ∧ R0.length ≤ 7 ∧ ts.length + 3 * R0.length ≤ 400 ∧
  ∀ H' R' ts', Off [r, u] H H' → Wk κ Z R0 pw m r u H' R' ts' → (∀ i < R0.length, ∀ j, ent R' i j = newE R l c x i j) → ts'.length ≤ ts.length + 3 * R0.length → scF ts' = pwr (ent R l c * Fd.inv x) (R0.length - 1) * scF ts → Q .non H'
def sp_emptied (CF CR : Addr) : Sp := fun vs H Q _ => ∃ (κ : KX) (s tb : Addr) (rs : List Addr) (R0 : List (List κ.F)) (pw m : Nat), vs = [.ref s, .ref tb] ∧ KdX CF CR κ H s ∧ H tb = some (.lst (rs.map V.ref)) ∧ RowsX κ H rs (R0.map (List.take pw)) ∧ Wid m R0 ∧ pw ≤ m ∧ 1 ≤ R0.length ∧ R0.length ≤ 7 ∧ pw ≤ 7 ∧ m ≤ 1000 ∧ QT κ pw R0 ∧
  ∀ (H' : Hp) (t r u L : Addr) (Z : List Addr) (v : V) (R' : List (List κ.F)) (ts : List (Tn κ)) (ls : List Nat) (x : κ.F), Same H H' → H' t = some (.tup [.ref r, .ref u, .ref L, v]) → H r = none → H u = none → H L = none → Wk κ Z R0 pw m r u H' R' ts → L ∈ Z → L ≠ r → L ≠ u → H' L = some (.lst (ls.map fun (i : Nat) => V.int (i : Int))) → NR κ H' v x → Ech R' R0.length pw ls x → Stg κ R' ls.length x → ts.length ≤ 180 → (Whl κ pw R0 → scF ts = pwr x (R0.length - 1)) → Q (.ref t) H'
end My
namespace My
theorem inv_ne' {α : Type} [Fd α] {x : α} (h : x ≠ 0) : Fd.inv x ≠ 0 := fun z => by
  have := Fd.mul_inv x h
  rw [z] at this
  have e : x * (0 : α) = 0 := by grind
  rw [e] at this
  exact Fd.zne this
end My
namespace My
open PySem L2 PyProof.Rows
theorem stg_b1 {κ : KX} {R : List (List κ.F)} {k : Nat} {x : κ.F} (h : Stg κ R k x) (x0 : x ≠ 0) (hk : κ = .q → k ≤ 4) : B1s κ (Fd.inv x) ∧ AllR (B1s κ) R := by
  cases κ with
  | r p hp => exact ⟨trivial, fun _ _ _ _ => trivial⟩
  | q =>
    obtain ⟨D, D', hD, bD, qR, hD', bD', qx⟩ := h rfl
    have nums : dS k ≤ 3700 ∧ aS k ≤ 900000 ∧ aL k ≤ 3700 ∧ 1 ≤ aL k ∧ dL k ≤ 900000 := by
      have hk := hk rfl
      match k, hk with
      | 0, _ => decide
      | 1, _ => decide
      | 2, _ => decide
      | 3, _ => decide
      | 4, _ => decide
    obtain ⟨n1, n2, n3, n4, n5⟩ := nums
    obtain ⟨L, hL, bL, qI⟩ := QS.inv hD' n4 qx bD' x0
    exact ⟨QS.b1s hL qI (bL.up n3) n5, fun f hf y hy => QS.b1s hD (qR f hf y hy) (bD.up n1) n2⟩
theorem Stg.swap {κ : KX} {R : List (List κ.F)} {k : Nat} {x : κ.F} {a b : Int} (h : Stg κ R k x) : Stg κ (doT (.swap a b) R) k x := fun z => by
  obtain ⟨D, D', hD, bD, qR, r⟩ := h z
  exact ⟨D, D', hD, bD, (qR.set (qR.getD _)).set (qR.getD _), r⟩
end My
namespace My
open PySem L2 PyProof.Rows
theorem joinH2 {C C' G X : Hp → Prop} (h : (∀ H, C' H → G H) → ∀ H, C H → X H) (hG : ∀ H, C' H → G H) : ∀ H, C H → X H := h hG
end My
namespace My
theorem ent_parts {κ : KX} {pw m g : Nat} {B : Int} {R : List (List κ.F)} (wd : Wid m R) {i j : Nat} (hi : i < R.length) (hj : j < m) (h : ∀ f ∈ R, (∀ x ∈ f.take pw, QS κ B 300 x) ∧ ∀ x ∈ f.drop pw, QS κ 1 g x) : if j < pw then QS κ B 300 (ent R i j) else QS κ 1 g (ent R i j) := by
  have l := wd.get hi
  have e : R.getD i [] = R[i] := getD_get (List.getElem?_eq_getElem hi)
  have hf := h R[i] (List.getElem_mem hi)
  rw [← e] at hf
  have en : ent R i j = (R.getD i [])[j]'(by omega) := by
    unfold ent
    rw [List.getD_eq_getElem?_getD (l := R.getD i []), List.getElem?_eq_getElem (by omega)]; rfl
  by_cases q : j < pw
  · rw [if_pos q, en]
    refine hf.1 _ ?_
    rw [List.mem_take_iff_getElem]
    exact ⟨j, by omega, rfl⟩
  · rw [if_neg q, en]
    refine hf.2 _ ?_
    rw [List.mem_drop_iff_getElem]
    exact ⟨j - pw, by omega, by congr 1; omega⟩
end My

namespace My
open PySem L2 PyProof.Rows

section
variable {P : Program} {w : World} {K : PySem.W.Frag} {mg : Str → Option Value} {base : Heap} {CF CR : Addr}
theorem sc_Fractions_common_bottom : FnScope ["self", "some", "bottom", "one"] ["self", "some"] (defScope s_Fractions_common_bottom) := ⟨rfl, rfl, rfl, by decide +kernel, rfl, by decide +kernel, by decide +kernel⟩
theorem ok_FbottomX (h : HereM K CF "common_bottom" "Fractions.common_bottom" s_Fractions_common_bottom) (h_divisor : Has P w K mg base "divisor" 1 ["one", "other"] sp_divisor) : HasM P w K mg base CF "common_bottom" 2 ["self", "some"] [] (sp_FbottomX K) := by
  refine h.hasM (fun f fd F => F.binds fun _ _ _ _ _ _ us hl => by obtain ⟨_, _, rfl⟩ := len2 hl; exact rfl) fun f fd F => F.ok sc_Fractions_common_bottom (fun vs H Q E h => ?_) (fun cdv A outer s H vs Q E hr h => ?_)
  · obtain ⟨_, _, _, _, _, rfl, _⟩ := h
    rfl
  obtain ⟨sf, r, xs, f, B, rfl, hr1, al, hB, bB, dvB, k⟩ := h
  have nd := sc_Fractions_common_bottom.nd
  refine ⟨_, (pss_cons (ps_set (i := 2) nd rfl (Or.inl rfl) pe_int)
    (pss_cons (ps_for PassesOwn.never rfl (pi_list (pv 1)) (pg_name (i := 3) nd rfl (Or.inl rfl)) (pss_one (ps_if (pt_cmpR op_ne (pe_op op_modN (pv 2) (pe_ix ix_tup (pv 3) pe_int (fun _ _ => rfl))) pe_int (nomark _)) (pss_one (ps_set (i := 2) nd rfl (Or.inl rfl) (pe_op op_mulO (pe_op op_fdivG (pv 2) (pe_has h_divisor hr (by rfl) (pa_cons (pv 2) (pa_cons (pe_ix ix_tup (pv 3) pe_int (fun _ _ => rfl)) pa_nil)))) (pe_ix ix_tup (pv 3) pe_int (fun _ _ => rfl))))) pss_nil)))
    (pss_one (ps_ret (pv 2))))), ?_⟩
  have la := al.1
  refine ⟨_, rfl, r, rfl, ⟨_, SqL.of hr1⟩, ?_⟩
  refine for_list (xs := xs) (fun i σ H2 => ∃ (A : Int) (z : Option V), σ = [some (.ref sf), some (.ref r), some (.int A), z] ∧ H2 = H ∧ BotV .q (f.take i) A) ⟨1, none, rfl, rfl, by decide, fun x hx => by simp at hx, fun B _ => Int.one_dvd _⟩ ?_ ?_ ?_
  · rintro i σ H2 - ⟨A, z, rfl, rfl, -⟩
    exact SqL.of hr1
  · rintro i v σ H2 hv ⟨A, z, rfl, rfl, hA, dv, mn⟩
    obtain ⟨x, hx, a, rfl, ha⟩ := al.get hv
    have hd := (rat_fc x).pos
    have mx := List.mem_of_getElem? hx
    have hAB : A ∣ B := mn B fun y hy => dvB y (List.mem_of_mem_take hy)
    have bA : Bits 4000 A := bB.le (le_of_dvd' hAB (by omega))
    have bd : Bits 4000 (Rat.den x : Int) := bB.le (le_of_dvd' (dvB x mx) (by omega))
    have tk : f.take (i + 1) = f.take i ++ [x] := by rw [List.take_succ, hx]; rfl
    refine ⟨_, rfl, _, rfl, a, _, 1, _, rfl, rfl, SqT.of ha, rfl, _, _, rfl, rfl, (show (Rat.den x : Int) ≠ 0 by omega), rfl, _, rfl, ?_⟩
    refine if_neI (fun z1 => ?_) (fun z1 => ?_)
    · obtain ⟨p1, d1, d2, lm⟩ := lcm_step hA hd
      have g0 : (Int.gcd A (Rat.den x : Int) : Int) ≠ 0 := by have := M3.gcd_ne (a := A) (b := (Rat.den x : Int)) (by omega); omega
      have gb : Bits 4000 (Int.gcd A (Rat.den x : Int) : Int) := bA.le (le_of_dvd' (Int.gcd_dvd_left A (Rat.den x : Int)) (by omega))
      have fb := M3.fdiv_le (Int.gcd_dvd_left A (Rat.den x : Int)) g0
      refine ⟨_, rfl, _, rfl, _, rfl, a, _, 1, _, rfl, rfl, SqT.of ha, rfl, A, _, rfl, _, _, rfl, rfl, ⟨g0, gb⟩, _, rfl, a, _, 1, _, rfl, rfl, SqT.of ha, rfl, _, _, rfl, rfl, Bits.mulG ((bA.le fb).up (by decide)) bd, ?_⟩
      refine ⟨_, _, rfl, rfl, p1, fun y hy => ?_, fun B' hB' => ?_⟩
      · rw [tk] at hy
        rcases List.mem_append.mp hy with q | q
        · exact Int.dvd_trans (dv y q) d1
        · rw [List.mem_singleton.mp q]; exact d2
      · rw [tk] at hB'
        exact lm B' (mn B' fun y hy => hB' y (List.mem_append.mpr (.inl hy))) (hB' x (List.mem_append.mpr (.inr (List.mem_singleton.mpr rfl))))
    · refine ⟨A, _, rfl, rfl, hA, fun y hy => ?_, fun B' hB' => ?_⟩
      · rw [tk] at hy
        rcases List.mem_append.mp hy with q | q
        · exact dv y q
        · rw [List.mem_singleton.mp q]
          have z2 : A.fmod (Rat.den x : Int) = 0 := z1
          rw [Int.fmod_eq_emod_of_nonneg _ (by omega)] at z2
          exact Int.dvd_of_emod_eq_zero z2
      · rw [tk] at hB'
        exact mn B' fun y hy => hB' y (List.mem_append.mpr (.inl hy))
  · rintro σ H2 ⟨A, z, rfl, rfl, hA⟩
    rw [la, List.take_length] at hA
    exact ⟨_, rfl, k A hA⟩
theorem sc_Kind_common_bottom : FnScope ["self", "some"] ["self", "some"] (defScope s_Kind_common_bottom) := ⟨rfl, rfl, rfl, by decide +kernel, rfl, by decide +kernel, by decide +kernel⟩
theorem ok_Kbottom (h : HereM K CR "common_bottom" "Kind.common_bottom" s_Kind_common_bottom) : HasM P w K mg base CR "common_bottom" 1 ["self", "some"] [] sp_Kbottom := by
  refine h.hasM (fun f fd F => F.binds fun _ _ _ _ _ _ us hl => by obtain ⟨_, _, rfl⟩ := len2 hl; exact rfl) fun f fd F => F.ok sc_Kind_common_bottom (fun vs H Q E h => ?_) (fun cdv A outer s H vs Q E hr h => ?_)
  · obtain ⟨_, _, rfl, _⟩ := h
    rfl
  obtain ⟨sf, r, rfl, k⟩ := h
  exact ⟨_, (pss_one (ps_ret pe_int)), k⟩
theorem meth_bottom (kd : Kd K mg CF CR) (hF : HasM P w K mg base CF "common_bottom" 2 ["self", "some"] [] (sp_FbottomX K)) (hR : HasM P w K mg base CR "common_bottom" 2 ["self", "some"] [] sp_Kbottom) : MethBot P w K mg base CF CR := by
  intro κ H s hk
  cases κ with
  | q =>
    obtain ⟨dx, h⟩ := hk
    exact ⟨CF, dx, [], _, _, _, h, kd.clF, hF, rfl, rfl, fun r xs f B Q hr al hB bB dv k => ⟨s, r, xs, f, B, rfl, hr, al, hB, bB, dv, k⟩⟩
  | r p hp =>
    obtain ⟨dx, h⟩ := hk
    exact ⟨CR, dx, fsR p, _, _, _, h, kd.clR, hR, fsR_no _ (by decide), rfl, fun r xs f B Q hr al hB bB dv k => ⟨s, r, rfl, k 1 rfl⟩⟩
theorem sc_take_bottoms : FnScope ["kind", "rows", "turns", "place"] ["kind", "rows", "turns"] (defScope s_take_bottoms) := ⟨rfl, rfl, rfl, by decide +kernel, rfl, by decide +kernel, by decide +kernel⟩
theorem ok_take_bottoms (h : Here K mg "take_bottoms" s_take_bottoms) (T : Nm mg) (mn : MethNum P w K mg base CF CR) (mb : MethBot P w K mg base CF CR) (h_take : Has P w K mg base "take" 5 ["kind", "rows", "turns", "turn"] (sp_take CF CR)) : Has P w K mg base "take_bottoms" 6 ["kind", "rows", "turns"] (sp_take_bottoms CF CR) := by
  refine h.has (fun f fd F => F.binds fun _ _ _ _ _ _ us hl => by obtain ⟨_, _, _, rfl⟩ := len3 hl; exact rfl) fun f fd F => F.ok sc_take_bottoms (fun vs H Q E h => ?_) (fun cdv A outer s H vs Q E hr h => ?_)
  · obtain ⟨_, _, _, _, _, _, _, _, rfl, _⟩ := h
    rfl
  obtain ⟨κ, sk, r, u, Z, R0, pw, m, rfl, hk, wk, qt, n7, k⟩ := h
  have nd := sc_take_bottoms.nd
  refine ⟨_, (pss_one (ps_for PassesOwn.never rfl (pi_range1 (by rfl) T.range (pa_cons (pe_callB call_len_seq (by rfl) T.len boot_len (pa_cons (pv 1) pa_nil)) pa_nil)) (pg_name (i := 3) nd rfl (Or.inl rfl)) (pss_one (ps_expr (pe_has h_take hr (by rfl) (pa_cons (pv 0) (pa_cons (pv 1) (pa_cons (pv 2) (pa_cons (pe_tup (pa_cons pe_str (pa_cons (pv 3) (pa_cons (pe_methX (pv 0) passN hr (pa_cons (pe_methA (pv 0) hr (pa_cons (pe_ix ix_list (pv 1) (pv 3) (fun _ _ => rfl)) pa_nil)) pa_nil)) pa_nil)))) pa_nil))))))))), ?_⟩
  obtain ⟨B, b, g, hB, bB, bg, qB⟩ := qt.ex
  have wm := wk.wm
  obtain ⟨as, hR, la⟩ := wk.rl
  obtain ⟨tvs, hU⟩ := wk.ul
  refine ⟨_, rfl, r, _, rfl, .inl (SqL.of hR), _, rfl, ?_⟩
  rw [List.length_map, la]
  refine ⟨by omega, by omega, ?_⟩
  rw [Int.toNat_natCast]
  refine for_range (lo := 0) (n := R0.length) (fun i σ H2 => ∃ (z : Option V) (R : List (List κ.F)) (ts : List (Tn κ)), σ = [some (.ref sk), some (.ref r), some (.ref u), z] ∧ Off [r, u] H H2 ∧ Wk κ Z R0 pw m r u H2 R ts ∧ ts.length ≤ i ∧ (Whl κ pw R0 → R = R0 ∧ scF ts = 1) ∧ ∀ i' < R0.length, ∀ j < m, (i' < i → QS κ 1 300 (ent R i' j)) ∧ (i ≤ i' → if j < pw then QS κ B 300 (ent R i' j) else QS κ 1 g (ent R i' j))) ⟨_, R0, [], rfl, fun _ _ _ q => q, wk, Nat.le_refl _, (fun _ => ⟨rfl, rfl⟩), fun i' hi j hj => ⟨fun q => by omega, fun _ => ent_parts wk.wid hi hj qB⟩⟩ ?_ ?_
  · rintro i σ H2 hi ⟨z, R, ts, rfl, O, wk2, lt, wh, qs⟩
    have hk2 := hk.off2 hR hU O
    obtain ⟨as2, h1, h2, h3⟩ := wk2.rows
    have lR := wk2.len
    obtain ⟨a, xs, ea, hx, al⟩ := h2.get (i := i) (by rw [List.length_map]; omega)
    have eg : (R.map (List.take pw)).getD i [] = (R.map (List.take pw))[i]'(by rw [List.length_map]; omega) := getD_get (List.getElem?_eq_getElem (by rw [List.length_map]; omega))
    rw [← eg] at al
    have qrow := ent_row (Pr := QS κ B 300) (wid_take wk2.wd wm) (i := i) (by rw [List.length_map]; omega) (fun j hj => by
      have := (qs i (by omega) j (by omega)).2 (Nat.le_refl _)
      rw [if_pos hj] at this
      rw [ent_take hj]; exact this)
    have qall := ent_row (Pr := B1s κ) wk2.wd (i := i) (by omega) (fun j hj => by
      have := (qs i (by omega) j hj).2 (Nat.le_refl _)
      by_cases q : j < pw
      · rw [if_pos q] at this; exact QS.b1s hB this (bB.up (by omega)) (by decide)
      · rw [if_neg q] at this; exact QS.b1s (by decide) this (Bits.of (Nat.lt_of_lt_of_le (show 1 < 2 ^ 1 by decide) (Nat.pow_le_pow_right (by decide) (by decide)))) (by omega))
    obtain ⟨C, dx, fs, ps, dvs, sp, c1, c2, c3, c4, rfl, c5⟩ := mn κ H2 sk hk2
    obtain ⟨C', dx', fs', ps', dvs', sp', d1, d2, d3, d4, rfl, d5⟩ := mb κ H2 sk hk2
    refine ⟨_, rfl, _, rfl, _, rfl, _, rfl, _, rfl, sk, C, dx, fs, ps, _, sp, rfl, c1, c2, c3.mono (by decide), c4, _, rfl, sk, C', dx', fs', ps', _, sp', rfl, d1, d2, d3.mono (by decide), d4, _, rfl, _, rfl, r, _, _, _, rfl, rfl, SqL.of h1, (by rw [Int.zero_add]; exact ref_at ea), d5 a xs _ B _ hx al hB (bB.up (by omega)) (fun x hx => QS.dv hB (qrow x hx)) fun A hA => ?_⟩
    obtain ⟨xA, nv, x0, b1, qxA, qA⟩ := bot_num hB (by omega) bB hA qrow
    refine c5 H2 A xA _ _ (Same.refl _) nv fun v H3 S3 nrv => ?_
    refine ⟨(by show 3 ≤ sizeLine; decide), fun tt nt => ?_⟩
    have S4 := same_new nt (.tup [.str "scale", .int (0 + (i : Int)), v])
    have q4 := upd_same (H := H3) (a := tt) (o := .tup [.str "scale", .int (0 + (i : Int)), v])
    generalize upd H3 tt (.tup [.str "scale", .int (0 + (i : Int)), v]) = H4 at *
    have S24 := S3.trans S4
    rw [Int.zero_add] at q4
    refine ⟨κ, sk, r, u, Z, R0, pw, m, R, ts, .ref tt, .scale (i : Int) xA, rfl, hk2.same S24, wk2.same S24, by omega, ⟨tt, v, rfl, q4, nrv.same S4⟩, ⟨⟨by omega, by omega⟩, x0⟩, ⟨b1, qall⟩, fun H5 ts' O5 wk5 l5 f5 => ?_⟩
    refine ⟨_, _, ts', rfl, fun b o nb q => O5 b o nb (S24 _ _ (O b o nb q)), wk5, by omega, (fun W => ?whl), fun i' hi' j hj => ?_⟩
    case whl =>
      obtain ⟨eR, es⟩ := wh W
      have er : (R.map (List.take pw)).getD i [] = (R0[i]'hi).take pw := by rw [eR, List.getD_eq_getElem?_getD, List.getElem?_map, List.getElem?_eq_getElem hi]; rfl
      have A1 : A = 1 := W (R0[i]'hi) (List.getElem_mem _) A (by rw [← er]; exact hA)
      have x1 : xA = 1 := by rw [A1] at nv; exact nv.uniq numV1
      rw [f5, es, x1, eR]
      refine ⟨doT_idle wk.wid ⟨⟨by omega, by omega⟩, fun z => Fd.zne z.symm⟩ rfl, ?_⟩
      show (1 : κ.F) * 1 = 1
      grind
    rw [ent_scale (by rw [Int.toNat_natCast]; omega), Int.toNat_natCast]
    by_cases e : i' = i
    · rw [if_pos e]
      refine ⟨fun _ => ?_, fun q => by omega⟩
      subst e
      by_cases q : j < pw
      · rw [← ent_take q]; exact qA _ (ent_mem (wid_take wk2.wd wm) (by rw [List.length_map]; omega) q)
      · have := (qs i' hi' j hj).2 (Nat.le_refl _)
        rw [if_neg q] at this
        exact (QS.mul qxA this).mono (by omega)
    · rw [if_neg e]
      exact ⟨fun q => (qs i' hi' j hj).1 (by omega), fun q => (qs i' hi' j hj).2 (by omega)⟩
  · rintro σ H2 ⟨z, R, ts, rfl, O, wk2, lt, wh, qs⟩
    refine k H2 R ts O wk2 lt (fun _ => ?_) (fun W => (wh W).2)
    refine ⟨1, 1, by decide, Bits.of (by decide), ent_all wk2.wd fun i hi j hj => (qs i (by rw [← wk2.len]; exact hi) j hj).1 (by rw [← wk2.len]; exact hi), by decide, Bits.of (by decide), qs_one⟩
end

end My

namespace My
open PySem L2 PyProof.Rows

section
variable {P : Program} {w : World} {K : PySem.W.Frag} {mg : Str → Option Value} {base : Heap} {CF CR : Addr}
theorem len6 {us : List Value} (h : us.length = 6) : ∃ a b c d e f, us = [a, b, c, d, e, f] := match us, h with | [a, b, c, d, e, f], _ => ⟨a, b, c, d, e, f, rfl⟩
theorem sc_empty_column : FnScope ["kind", "rows", "turns", "lead", "column", "last", "head", "back", "place", "less"] ["kind", "rows", "turns", "lead", "column", "last"] (defScope s_empty_column) := ⟨rfl, rfl, rfl, by decide +kernel, rfl, by decide +kernel, by decide +kernel⟩
theorem ok_empty_column (h : Here K mg "empty_column" s_empty_column) (T : Nm mg) (mn : MethNum P w K mg base CF CR) (mm : MethM P w K mg base CF CR) (mb : MethBack P w K mg base CF CR) (h_take : Has P w K mg base "take" 5 ["kind", "rows", "turns", "turn"] (sp_take CF CR)) : Has P w K mg base "empty_column" 6 ["kind", "rows", "turns", "lead", "column", "last"] (sp_empty_column CF CR) := by
  refine h.has (fun f fd F => F.binds fun _ _ _ _ _ _ us hl => by obtain ⟨_, _, _, _, _, _, rfl⟩ := len6 hl; exact rfl) fun f fd F => F.ok sc_empty_column (fun vs H Q E h => ?_) (fun cdv A outer s H vs Q E hr h => ?_)
  · obtain ⟨_, _, _, _, _, _, _, _, _, _, _, _, _, _, _, _, rfl, _⟩ := h
    rfl
  obtain ⟨κ, sk, r, u, Z, R0, pw, m, R, ts, l, c, lv, x, PQ, PN, rfl, hk, wk, ll, cm, nl, x0, h0, pq, pb, n7, l4, k⟩ := h
  have nd := sc_empty_column.nd
  refine ⟨_, (pss_cons (ps_set (i := 6) nd rfl (Or.inl rfl) (pe_ix ix_list (pe_ix ix_list (pv 1) (pv 3) (fun _ _ => rfl)) (pv 4) (fun _ _ => rfl)))
    (pss_cons (ps_set (i := 7) nd rfl (Or.inl rfl) (pe_methX (pv 0) passN hr (pa_cons (pv 5) pa_nil)))
    (pss_one (ps_for PassesOwn.never rfl (pi_range1 (by rfl) T.range (pa_cons (pe_callB call_len_seq (by rfl) T.len boot_len (pa_cons (pv 1) pa_nil)) pa_nil)) (pg_name (i := 8) nd rfl (Or.inl rfl)) (pss_one (ps_if (pt_cmpR op_ne (pv 8) (pv 3) (nomark _)) (pss_cons (ps_set (i := 9) nd rfl (Or.inl rfl) (pe_methA (pv 0) hr (pa_cons (pe_methX (pv 0) passN hr (pa_cons pe_int pa_nil)) (pa_cons (pe_ix ix_list (pe_ix ix_list (pv 1) (pv 8) (fun _ _ => rfl)) (pv 4) (fun _ _ => rfl)) pa_nil))))
        (pss_cons (ps_expr (pe_has h_take hr (by rfl) (pa_cons (pv 0) (pa_cons (pv 1) (pa_cons (pv 2) (pa_cons (pe_tup (pa_cons pe_str (pa_cons (pv 8) (pa_cons (pv 6) pa_nil)))) pa_nil))))))
        (pss_cons (ps_expr (pe_has h_take hr (by rfl) (pa_cons (pv 0) (pa_cons (pv 1) (pa_cons (pv 2) (pa_cons (pe_tup (pa_cons pe_str (pa_cons (pv 8) (pa_cons (pv 3) (pa_cons (pv 9) pa_nil))))) pa_nil))))))
        (pss_one (ps_expr (pe_has h_take hr (by rfl) (pa_cons (pv 0) (pa_cons (pv 1) (pa_cons (pv 2) (pa_cons (pe_tup (pa_cons pe_str (pa_cons (pv 8) (pa_cons (pv 7) pa_nil)))) pa_nil)))))))))) pss_nil)))))), ?_⟩
  have lR := wk.len
  have wd := wk.wd
  have cm' : c < m := Nat.lt_of_lt_of_le cm wk.wm
  have pe : ∀ i < R0.length, ∀ j < m, PQ (ent R i j) := fun i hi j hj => all_ent wd pq (by omega) hj
  obtain ⟨as, a, xs, hv, e1, e2, e3, e4, e5, nh⟩ := wk.ent ll cm
  obtain ⟨C, dx, fs, ps, dvs, sp, c1, c2, c3, c4, rfl, c5⟩ := mb κ H sk hk
  refine ⟨_, rfl, _, rfl, r, _, _, _, rfl, rfl, SqL.of e1, ref_at e3, _, rfl, a, _, _, _, rfl, rfl, SqL.of e4, atI_nat e5, ?_⟩
  refine ⟨_, rfl, sk, C, dx, fs, ps, _, sp, rfl, c1, c2, c3.mono (by decide), c4, _, rfl, c5 H lv x _ _ (Same.refl H) nl x0 fun bv H1 S1 nb => ?_⟩
  have wk1 := wk.same S1
  have hR1 := S1 _ _ e1
  obtain ⟨tvs, hU1⟩ := wk1.ul
  have hk1 := hk.same S1
  have nh1 := nh.same S1
  refine ⟨_, rfl, r, _, rfl, .inl (SqL.of hR1), _, rfl, ?_⟩
  rw [List.length_map, e2]
  refine ⟨by omega, by omega, ?_⟩
  rw [Int.toNat_natCast]
  refine for_range (lo := 0) (n := R0.length) (fun p σ H2 => ∃ (z8 z9 : Option V) (Rp : List (List κ.F)) (tp : List (Tn κ)), σ = [some (.ref sk), some (.ref r), some (.ref u), some (.int (l : Int)), some (.int (c : Int)), some lv, some hv, some bv, z8, z9] ∧ Off [r, u] H1 H2 ∧ Wk κ Z R0 pw m r u H2 Rp tp ∧ tp.length ≤ ts.length + 3 * p ∧ scF tp = pwr (ent R l c * Fd.inv x) (if p ≤ l then p else p - 1) * scF ts ∧ ∀ i < R0.length, ∀ j, ent Rp i j = if i < p then newE R l c x i j else ent R i j) ⟨_, _, R, ts, rfl, fun _ _ _ q => q, wk1, by omega, (by rw [if_pos (Nat.zero_le _)]; show _ = (1 : κ.F) * _; grind), fun i hi j => by rw [if_neg (by omega)]⟩ ?_ ?_
  · rintro p σ H2 hp ⟨z8, z9, Rp, tp, rfl, O, wk2, lt, fp, en⟩
    refine ⟨_, rfl, _, rfl, rfl, _, rfl, ?_⟩
    refine if_neI (fun z => ?_) (fun z => ?_)
    case refine_2 =>
      have ep : p = l := by omega
      refine ⟨_, _, Rp, tp, rfl, O, wk2, by omega, (by rw [fp, ep, if_pos (Nat.le_refl _), if_neg (by omega)]; rfl), fun i hi j => ?_⟩
      rw [en i hi j]
      by_cases q : i < p
      · rw [if_pos q, if_pos (by omega)]
      · by_cases q2 : i = p
        · rw [if_neg q, if_pos (by omega), q2, ep]
          unfold newE
          rw [if_pos rfl]
        · rw [if_neg q, if_neg (by omega)]
    have npl : p ≠ l := by omega
    have hk2 := hk1.off2 hR1 hU1 O
    have nh2 := nh1.off2 hR1 hU1 O
    have nb2 := nb.off2 hR1 hU1 O
    obtain ⟨as2, a2, xs2, v2, f1, f2, f3, f4, f5, n2⟩ := wk2.ent hp cm
    rw [en p hp c, if_neg (by omega)] at n2
    obtain ⟨Cm, dxm, fsm, psm, dvm, spm, m1, m2, m3, m4, rfl, m5⟩ := mm κ H2 sk hk2
    obtain ⟨Cn, dxn, fsn, psn, dvn, spn, k1, k2, k3, k4, rfl, k5⟩ := mn κ H2 sk hk2
    refine ⟨_, rfl, sk, Cm, dxm, fsm, psm, _, spm, rfl, m1, m2, m3.mono (by decide), m4, _, rfl, sk, Cn, dxn, fsn, psn, _, spn, rfl, k1, k2, k3.mono (by decide), k4, k5 H2 0 0 _ _ (Same.refl _) numV0 fun v0 H3 S3 n0 => ?_⟩
    refine ⟨_, rfl, _, rfl, r, _, _, _, rfl, rfl, SqL.of (S3 _ _ f1), (by rw [Int.zero_add]; exact ref_at f3), _, rfl, a2, _, _, _, rfl, rfl, SqL.of (S3 _ _ f4), atI_nat f5, m5 H3 v0 v2 0 _ _ S3 n0 (n2.same S3) b1_zero (pb.ent _ (pe p hp c cm')).b1 fun lsv H4 S4 nls => ?_⟩
    have S24 := S3.trans S4
    have wk4 := wk2.same S24
    have nh4 := nh2.same S24
    have nb4 := nb2.same S24
    have hk4 := hk2.same S24
    have f14 := S24 _ _ f1
    clear S3 S4 n0 m1 m2 m3 m4 m5 k1 k2 k3 k4 k5 f4 f5 n2
    -- scale by the head
    refine ⟨_, rfl, _, rfl, _, rfl, _, rfl, _, rfl, (by show 3 ≤ sizeLine; decide), fun t1 nt1 => ?_⟩
    have q5 := upd_same (H := H4) (a := t1) (o := .tup [.str "scale", .int (0 + (p : Int)), hv])
    have S5 := same_new nt1 (.tup [.str "scale", .int (0 + (p : Int)), hv])
    generalize upd H4 t1 (.tup [.str "scale", .int (0 + (p : Int)), hv]) = H5 at *
    rw [Int.zero_add] at q5
    have wk5 := wk4.same S5
    have lRp := wk5.len
    refine ⟨κ, sk, r, u, Z, R0, pw, m, Rp, tp, .ref t1, .scale (p : Int) (ent R l c), rfl, hk4.same S5, wk5, by omega, ⟨t1, hv, rfl, q5, nh4.same S5⟩, ⟨⟨by omega, by omega⟩, h0⟩, ⟨pb.ent _ (pe l ll c cm'), ?_⟩, fun H6 tp6 O6 wk6 l6 f6 => ?_⟩
    · rw [Int.toNat_natCast]
      refine ent_row wk5.wd (by omega) fun j hj => ?_
      rw [en p hp j, if_neg (by omega)]
      exact pb.ent _ (pe p hp j hj)
    obtain ⟨tv5, hU5⟩ := wk5.ul
    have hR5 := S5 _ _ f14
    have nls6 := (nls.same S5).off2 hR5 hU5 O6
    have nb6 := (nb4.same S5).off2 hR5 hU5 O6
    have hk6 := (hk4.same S5).off2 hR5 hU5 O6
    have en6 : ∀ i < R0.length, ∀ j, ent (doT (.scale (p : Int) (ent R l c)) Rp) i j = if i = p then ent R l c * ent R p j else ent Rp i j := fun i hi j => by
      rw [ent_scale (by rw [Int.toNat_natCast]; omega), Int.toNat_natCast]
      by_cases q : i = p
      · rw [if_pos q, if_pos q, q, en p hp j, if_neg (by omega)]
      · rw [if_neg q, if_neg q]
    generalize doT (.scale (p : Int) (ent R l c)) Rp = R6 at *
    -- less the lead's row
    refine ⟨_, rfl, _, rfl, _, rfl, _, rfl, _, rfl, _, rfl, (by show 4 ≤ sizeLine; decide), fun t2 nt2 => ?_⟩
    have q7 := upd_same (H := H6) (a := t2) (o := .tup [.str "add", .int (0 + (p : Int)), .int (l : Int), lsv])
    have S7 := same_new nt2 (.tup [.str "add", .int (0 + (p : Int)), .int (l : Int), lsv])
    generalize upd H6 t2 (.tup [.str "add", .int (0 + (p : Int)), .int (l : Int), lsv]) = H7 at *
    rw [Int.zero_add] at q7
    have wk7 := wk6.same S7
    have lR6 := wk7.len
    have rl7 : ∀ j, ent R6 l j = ent R l j := fun j => by
      rw [en6 l ll j, if_neg (Ne.symm npl), en l ll j]
      unfold newE
      rw [if_pos rfl]
      split <;> rfl
    refine ⟨κ, sk, r, u, Z, R0, pw, m, R6, tp6, .ref t2, .add (p : Int) (l : Int) (0 - ent R p c), rfl, hk6.same S7, wk7, by omega, ⟨t2, lsv, rfl, q7, nls6.same S7⟩, ⟨⟨by omega, by omega⟩, ⟨by omega, by omega⟩, by omega⟩, ⟨pb.neg _ (pe p hp c cm'), ?_, ?_⟩, fun H8 tp8 O8 wk8 l8 f8 => ?_⟩
    · rw [Int.toNat_natCast]
      refine ent_row wk7.wd (by omega) fun j hj => ?_
      rw [en6 p hp j, if_pos rfl]
      exact pb.mul _ _ (pe l ll c cm') (pe p hp j hj)
    · rw [Int.toNat_natCast]
      refine ent_row (Pr := fun y => B1s κ y ∧ B1s κ ((0 - ent R p c) * y)) wk7.wd (by omega) fun j hj => ?_
      rw [rl7 j]
      exact ⟨pb.ent _ (pe l ll j hj), pb.nml _ _ (pe p hp c cm') (pe l ll j hj)⟩
    obtain ⟨as7, hR7, _⟩ := wk7.rl
    obtain ⟨tv7, hU7⟩ := wk7.ul
    have nb8 := (nb6.same S7).off2 hR7 hU7 O8
    have hk8 := (hk6.same S7).off2 hR7 hU7 O8
    have en8 : ∀ i < R0.length, ∀ j, ent (doT (.add (p : Int) (l : Int) (0 - ent R p c)) R6) i j = if i = p then ent R l c * ent R p j + (0 - ent R p c) * ent R l j else ent Rp i j := fun i hi j => by
      rw [ent_add wk7.wd (by rw [Int.toNat_natCast]; omega) (by rw [Int.toNat_natCast]; omega), Int.toNat_natCast, Int.toNat_natCast, rl7 j, en6 i hi j]
      by_cases q : i = p
      · rw [if_pos q, if_pos q, if_pos q]
      · rw [if_neg q, if_neg q, if_neg q]
    generalize doT (.add (p : Int) (l : Int) (0 - ent R p c)) R6 = R8 at *
    -- and by the last one's back
    refine ⟨_, rfl, _, rfl, _, rfl, _, rfl, _, rfl, (by show 3 ≤ sizeLine; decide), fun t3 nt3 => ?_⟩
    have q9 := upd_same (H := H8) (a := t3) (o := .tup [.str "scale", .int (0 + (p : Int)), bv])
    have S9 := same_new nt3 (.tup [.str "scale", .int (0 + (p : Int)), bv])
    generalize upd H8 t3 (.tup [.str "scale", .int (0 + (p : Int)), bv]) = H9 at *
    rw [Int.zero_add] at q9
    have wk9 := wk8.same S9
    have lR8 := wk9.len
    refine ⟨κ, sk, r, u, Z, R0, pw, m, R8, tp8, .ref t3, .scale (p : Int) (Fd.inv x), rfl, hk8.same S9, wk9, by omega, ⟨t3, bv, rfl, q9, nb8.same S9⟩, ⟨⟨by omega, by omega⟩, inv_ne' x0⟩, ⟨pb.inv, ?_⟩, fun H10 tp10 O10 wk10 l10 f10 => ?_⟩
    · rw [Int.toNat_natCast]
      refine ent_row wk9.wd (by omega) fun j hj => ?_
      rw [en8 p hp j, if_pos rfl]
      exact pb.sum _ _ _ _ (pe l ll c cm') (pe p hp j hj) (pe p hp c cm') (pe l ll j hj)
    refine ⟨_, _, _, tp10, rfl, fun b o nb' q => O10 b o nb' (S9 _ _ (O8 b o nb' (S7 _ _ (O6 b o nb' (S5 _ _ (S24 _ _ (O b o nb' q))))))), wk10, by omega, ?fac, fun i hi j => ?_⟩
    case fac =>
      rw [f10, f8, f6, fp]
      show Fd.inv x * (1 * (ent R l c * (pwr _ _ * scF ts))) = _
      have e : (if p + 1 ≤ l then p + 1 else p + 1 - 1) = (if p ≤ l then p else p - 1) + 1 := by
        by_cases q : p < l
        · rw [if_pos (by omega), if_pos (by omega)]
        · rw [if_neg (by omega), if_neg (by omega)]; omega
      rw [e]
      show _ = pwr _ _ * (ent R l c * Fd.inv x) * scF ts
      generalize pwr (ent R l c * Fd.inv x) (if p ≤ l then p else p - 1) = y
      generalize Fd.inv x = z
      grind
    rw [ent_scale (by rw [Int.toNat_natCast]; omega), Int.toNat_natCast, en8 i hi j]
    by_cases q : i = p
    · rw [if_pos q, if_pos q, if_pos (by omega)]
      unfold newE
      rw [if_neg (by omega), q]
    · rw [if_neg q, if_neg q, en i hi j]
      by_cases q2 : i < p
      · rw [if_pos q2, if_pos (by omega)]
      · rw [if_neg q2, if_neg (by omega)]
  · rintro σ H2 ⟨z8, z9, Rp, tp, rfl, O, wk2, lt, fp, en⟩
    refine k H2 Rp tp (fun b o nb' q => O b o nb' (S1 _ _ q)) wk2 (fun i hi j => ?_) lt (by rw [fp, if_neg (by omega)])
    rw [en i hi j, if_pos hi]
end

end My

namespace My
open PySem L2 PyProof.Rows

section
variable {P : Program} {w : World} {K : PySem.W.Frag} {mg : Str → Option Value} {base : Heap} {CF CR : Addr}
theorem sc_emptied : FnScope ["kind", "table", "rows", "turns", "leads", "last", "column", "lead", "found"] ["kind", "table"] (defScope s_emptied) := ⟨rfl, rfl, rfl, by decide +kernel, rfl, by decide +kernel, by decide +kernel⟩
theorem ok_emptied (h : Here K mg "emptied" s_emptied) (T : Nm mg) (mn : MethNum P w K mg base CF CR) (h_take_bottoms : Has P w K mg base "take_bottoms" 6 ["kind", "rows", "turns"] (sp_take_bottoms CF CR)) (h_first_filled : Has P w K mg base "first_filled" 6 ["kind", "rows", "start", "column"] (sp_first_filled CF CR)) (h_take : Has P w K mg base "take" 6 ["kind", "rows", "turns", "turn"] (sp_take CF CR)) (h_empty_column : Has P w K mg base "empty_column" 6 ["kind", "rows", "turns", "lead", "column", "last"] (sp_empty_column CF CR)) : Has P w K mg base "emptied" 7 ["kind", "table"] (sp_emptied CF CR) := by
  refine h.has (fun f fd F => F.binds fun _ _ _ _ _ _ us hl => by obtain ⟨_, _, rfl⟩ := len2 hl; exact rfl) fun f fd F => F.ok sc_emptied (fun vs H Q E h => ?_) (fun cdv A outer s H vs Q E hr h => ?_)
  · obtain ⟨_, _, _, _, _, _, _, rfl, _⟩ := h
    rfl
  obtain ⟨κ, sk, tb, rs, R0, pw, m, rfl, hk, hT, rx, wd, wm, n1, n7, m7, mM, qt, k⟩ := h
  have nd := sc_emptied.nd
  refine ⟨_, (pss_cons (ps_set (i := 2) nd rfl (Or.inl rfl) (pe_callTy call_list_of (by rfl) T.list boot_list (pa_cons (pv 1) pa_nil)))
    (pss_cons (ps_set (i := 3) nd rfl (Or.inl rfl) (pe_lst pa_nil))
    (pss_cons (ps_set (i := 4) nd rfl (Or.inl rfl) (pe_lst pa_nil))
    (pss_cons (ps_set (i := 5) nd rfl (Or.inl rfl) (pe_methX (pv 0) passN hr (pa_cons pe_int pa_nil)))
    (pss_cons (ps_expr (pe_has h_take_bottoms hr (by rfl) (pa_cons (pv 0) (pa_cons (pv 2) (pa_cons (pv 3) pa_nil)))))
    (pss_cons (ps_for PassesOwn.never rfl (pi_range1 (by rfl) T.range (pa_cons (pe_callB call_len_seq (by rfl) T.len boot_len (pa_cons (pe_ix ix_list (pv 1) pe_int (fun _ _ => rfl)) pa_nil)) pa_nil)) (pg_name (i := 6) nd rfl (Or.inl rfl)) (pss_cons (ps_set (i := 7) nd rfl (Or.inl rfl) (pe_callB call_len_seq (by rfl) T.len boot_len (pa_cons (pv 4) pa_nil)))
      (pss_cons (ps_set (i := 8) nd rfl (Or.inl rfl) (pe_has h_first_filled hr (by rfl) (pa_cons (pv 0) (pa_cons (pv 2) (pa_cons (pv 7) (pa_cons (pv 6) pa_nil))))))
      (pss_one (ps_if (pt_cmpR op_lt (pv 8) (pe_callB call_len_seq (by rfl) T.len boot_len (pa_cons (pv 2) pa_nil)) (nomark _)) (pss_cons (ps_if (pt_cmpR op_ne (pv 8) (pv 7) (nomark _)) (pss_one (ps_expr (pe_has h_take hr (by rfl) (pa_cons (pv 0) (pa_cons (pv 2) (pa_cons (pv 3) (pa_cons (pe_tup (pa_cons pe_str (pa_cons (pv 7) (pa_cons (pv 8) pa_nil)))) pa_nil))))))) pss_nil)
        (pss_cons (ps_expr (pe_has h_empty_column hr (by rfl) (pa_cons (pv 0) (pa_cons (pv 2) (pa_cons (pv 3) (pa_cons (pv 7) (pa_cons (pv 6) (pa_cons (pv 5) pa_nil))))))))
        (pss_cons (ps_set (i := 5) nd rfl (Or.inl rfl) (pe_ix ix_list (pe_ix ix_list (pv 2) (pv 7) (fun _ _ => rfl)) (pv 6) (fun _ _ => rfl)))
        (pss_one (ps_expr (pe_bm PySem.F.plainAttrs_list PySem.F.slot_list_append PySem.F.type_list_append mt_append (pv 4) (pa_cons (pv 6) pa_nil))))))) pss_nil)))))
    (pss_one (ps_ret (pe_tup (pa_cons (pv 2) (pa_cons (pv 3) (pa_cons (pv 4) (pa_cons (pv 5) pa_nil))))))))))))), ?_⟩
  have lrs := rx.1
  rw [List.length_map] at lrs
  obtain ⟨a0, g0⟩ : ∃ a0, rs[0]? = some a0 := ⟨rs[0]'(by omega), List.getElem?_eq_getElem (by omega)⟩
  obtain ⟨f0, e0⟩ := get_of_lt g0 rx.1
  obtain ⟨xs0, hx0, al0⟩ := rx.2 0 a0 f0 g0 e0
  have lx0 : xs0.length = pw := by rw [al0.1]; exact wid_take wd wm f0 (List.mem_of_getElem? e0)
  -- its own lists
  refine ⟨_, rfl, tb, _, rfl, .inl (SqL.of hT), fun r nr => ?_⟩
  have Sr := same_new nr (.lst (rs.map V.ref))
  have qr := upd_same (H := H) (a := r) (o := .lst (rs.map V.ref))
  have nrr := rx.notin nr
  generalize upd H r (.lst (rs.map V.ref)) = H1 at *
  refine ⟨(by show 0 ≤ sizeLine; decide), fun u nu => ?_⟩
  have Su := same_new nu (.lst [])
  have qu := upd_same (H := H1) (a := u) (o := .lst [])
  have nur := (rx.same Sr).notin nu
  have nru : r ≠ u := fun z => by rw [← z, qr] at nu; cases nu
  generalize upd H1 u (.lst []) = H2 at *
  refine ⟨(by show 0 ≤ sizeLine; decide), fun L nL => ?_⟩
  have SL := same_new nL (.lst [])
  have qL := upd_same (H := H2) (a := L) (o := .lst [])
  have nLr := ((rx.same Sr).same Su).notin nL
  have nL1 : L ≠ r := fun z => by rw [z, Su _ _ qr] at nL; cases nL
  have nL2 : L ≠ u := fun z => by rw [z, qu] at nL; cases nL
  generalize upd H2 L (.lst []) = H3 at *
  have S03 := Sr.trans (Su.trans SL)
  have fu : H u = none := Sr.free nu
  have fL : H L = none := (Sr.trans Su).free nL
  obtain ⟨C, dx, fs, ps, dvs, sp, c1, c2, c3, c4, rfl, c5⟩ := mn κ H3 sk (hk.same S03)
  refine ⟨_, rfl, sk, C, dx, fs, ps, _, sp, rfl, c1, c2, c3.mono (by decide), c4, c5 H3 1 1 _ _ (Same.refl _) numV1 fun v0 H4 S4 nv0 => ?_⟩
  have S04 := S03.trans S4
  have wk4 : Wk κ [r, u, L] R0 pw m r u H4 R0 [] := by
    refine ⟨⟨rs, (Su.trans (SL.trans S4)) _ _ qr, rx.same S04, fun z hz => ?_⟩, ⟨[], (SL.trans S4) _ _ qu, .nil⟩, rfl, (fun t h => nomatch h), fun i t h => by simp at h, wd, nru, by omega, Nat.zero_le _, by simp, by simp, fun z hz => ?_, wm⟩
    · simp only [List.mem_cons, List.not_mem_nil, or_false] at hz
      rcases hz with rfl | rfl | rfl
      · exact nrr
      · exact nur
      · exact nLr
    · simp only [List.mem_cons, List.not_mem_nil, or_false] at hz
      rcases hz with rfl | rfl | rfl
      · exact ⟨_, (Su.trans (SL.trans S4)) _ _ qr⟩
      · exact ⟨_, (SL.trans S4) _ _ qu⟩
      · exact ⟨_, S4 _ _ qL⟩
  have fru : ∀ z ∈ [r, u], H z = none := fun z hz => by
    simp only [List.mem_cons, List.not_mem_nil, or_false] at hz
    rcases hz with rfl | rfl
    · exact nr
    · exact fu
  refine ⟨_, rfl, _, rfl, _, rfl, κ, sk, r, u, [r, u, L], R0, pw, m, rfl, hk.same S04, wk4, qt, n7, fun H5 R5 ts5 O5 wk5 l5 stg5 fw5 => ?_⟩
  have S05 := Off.same O5 S04 fru
  have nLo : L ∉ [r, u] := fun z => by
    simp only [List.mem_cons, List.not_mem_nil, or_false] at z
    rcases z with z | z
    · exact nL1 z
    · exact nL2 z
  have qL5 := O5 _ _ nLo (S4 _ _ qL)
  obtain ⟨as4, hR4, _⟩ := wk4.rl
  obtain ⟨tv4, hU4⟩ := wk4.ul
  have nv5 := nv0.off2 hR4 hU4 O5
  refine ⟨_, rfl, tb, _, 0, _, rfl, rfl, SqL.of (S05 _ _ hT), ref_at (i := 0) g0, a0, _, rfl, .inl (SqL.of (S05 _ _ hx0)), _, rfl, ?_⟩
  rw [lx0]
  refine ⟨by omega, by omega, ?_⟩
  rw [Int.toNat_natCast]
  refine for_range (lo := 0) (n := pw) (fun c σ H6 => ∃ (z6 z7 z8 : Option V) (R : List (List κ.F)) (ts : List (Tn κ)) (ls : List Nat) (v : V) (x : κ.F), σ = [some (.ref sk), some (.ref tb), some (.ref r), some (.ref u), some (.ref L), some v, z6, z7, z8] ∧ Same H H6 ∧ Wk κ [r, u, L] R0 pw m r u H6 R ts ∧ H6 L = some (.lst (ls.map fun (i : Nat) => V.int (i : Int))) ∧ NR κ H6 v x ∧ Ech R R0.length c ls x ∧ Stg κ R ls.length x ∧ ts.length ≤ R0.length + 22 * c ∧ (Whl κ pw R0 → scF ts = pwr x (R0.length - 1))) ⟨_, _, _, R5, ts5, [], v0, 1, rfl, S05, wk5, qL5, nv5, ech_nil, stg5, by omega, fun W => by rw [fw5 W, pwr_one]⟩ ?_ ?_
  · rintro c σ H6 hc ⟨z6, z7, z8, R, ts, ls, v, x, rfl, S6, wk6, qL6, nv6, ech, stg, lt, fw⟩
    refine ⟨_, rfl, L, _, rfl, .inl (SqL.of qL6), ?_⟩
    rw [List.length_map]
    refine ⟨_, rfl, _, rfl, _, rfl, _, rfl, κ, sk, r, u, [r, u, L], R0, pw, m, R, ts, ls.length, c, (by rw [Int.zero_add]; rfl), hk.same S6, wk6, hc, ech.le, by omega, fun f h1 h2 h3 h4 => ?_⟩
    obtain ⟨as6, hR6, la6⟩ := wk6.rl
    refine ⟨_, rfl, _, rfl, r, _, rfl, .inl (SqL.of hR6), _, _, rfl, rfl, _, rfl, ?_⟩
    rw [List.length_map, la6]
    refine if_dec (fun q => ?_) (fun q => ?_)
    case refine_2 =>
      have ef : f = R0.length := by have : ¬ (f : Int) < (R0.length : Int) := q; omega
      exact ⟨_, _, _, R, ts, ls, v, x, rfl, S6, wk6, qL6, nv6, ech.skip fun i a b => h4 i a (by omega), stg, by omega, fw⟩
    have hf : f < R0.length := by have : (f : Int) < (R0.length : Int) := q; omega
    have hll : ls.length < R0.length := by omega
    have d6 : Same H H6 ∧ Wk κ [r, u, L] R0 pw m r u H6 R ts ∧ H6 L = some (.lst (ls.map fun (i : Nat) => V.int (i : Int))) ∧ NR κ H6 v x := ⟨S6, wk6, qL6, nv6⟩
    clear S6 qL6 nv6 hR6 la6 wk6
    revert H6
    refine' joinH2 (C := fun H6 => Same H H6 ∧ Wk κ [r, u, L] R0 pw m r u H6 R ts ∧ H6 L = some (.lst (ls.map fun (i : Nat) => V.int (i : Int))) ∧ NR κ H6 v x) (C' := fun H6 => Same H H6 ∧ ∃ (R1 : List (List κ.F)) (ts1 : List (Tn κ)), Wk κ [r, u, L] R0 pw m r u H6 R1 ts1 ∧ H6 L = some (.lst (ls.map fun (i : Nat) => V.int (i : Int))) ∧ NR κ H6 v x ∧ Ech R1 R0.length c ls x ∧ Stg κ R1 ls.length x ∧ ts1.length ≤ ts.length + 1 ∧ ent R1 ls.length c ≠ 0 ∧ scF ts1 = scF ts) (fun k1 H6 d6 => ?first) ?second
    case first =>
      obtain ⟨S6, wk6, qL6, nv6⟩ := d6
      refine ⟨_, rfl, _, rfl, rfl, _, rfl, ?_⟩
      refine if_neI (fun z => ?_) (fun z => ?_)
      case refine_2 =>
        have ef : f = ls.length := by omega
        exact k1 H6 ⟨S6, R, ts, wk6, qL6, nv6, ech, stg, by omega, (by rw [← ef]; exact h3 hf), rfl⟩
      have nfl : f ≠ ls.length := fun e => z (by rw [e])
      refine ⟨_, rfl, _, rfl, _, rfl, _, rfl, _, rfl, (by show 3 ≤ sizeLine; decide), fun t1 nt1 => ?_⟩
      have q7 := upd_same (H := H6) (a := t1) (o := .tup [.str "swap", .int (ls.length : Int), .int (f : Int)])
      have S7 := same_new nt1 (.tup [.str "swap", .int (ls.length : Int), .int (f : Int)])
      generalize upd H6 t1 (.tup [.str "swap", .int (ls.length : Int), .int (f : Int)]) = H7 at *
      have wk7 := wk6.same S7
      refine ⟨κ, sk, r, u, [r, u, L], R0, pw, m, R, ts, .ref t1, .swap (ls.length : Int) (f : Int), rfl, (hk.same S6).same S7, wk7, by omega, ⟨t1, rfl, q7⟩, ⟨⟨by omega, by omega⟩, ⟨by omega, by omega⟩, by omega⟩, trivial, fun H8 ts8 O8 wk8 l8 f8 => ?_⟩
      obtain ⟨as7, hR7, _⟩ := wk7.rl
      obtain ⟨tv7, hU7⟩ := wk7.ul
      refine k1 H8 ⟨Off.same O8 (S6.trans S7) fru, _, ts8, wk8, O8 _ _ nLo (S7 _ _ qL6), (nv6.same S7).off2 hR7 hU7 O8, ech.swap wk7.len h1 hf, stg.swap, by omega, ?_, by rw [f8]; show (1 : κ.F) * _ = _; grind⟩
      rw [ent_swap (by rw [Int.toNat_natCast, wk7.len]; exact hll) (by rw [Int.toNat_natCast, wk7.len]; exact hf), Int.toNat_natCast, Int.toNat_natCast, if_neg (Ne.symm nfl), if_pos rfl]
      exact h3 hf
    case second =>
      rintro H6 ⟨S6, R1, ts1, wk6, qL6, nv6, ech1, stg1, lt1, h0, f1⟩
      obtain ⟨PQ, PN, pq, pb, fin⟩ := stg_piv stg1 ech1.x0 (fun z => by have := qt.l4 z; omega)
      refine ⟨_, rfl, _, rfl, _, rfl, _, rfl, _, rfl, _, rfl, κ, sk, r, u, [r, u, L], R0, pw, m, R1, ts1, ls.length, c, v, x, PQ, PN, (by rw [Int.zero_add]; rfl), hk.same S6, wk6, hll, hc, nv6, ech1.x0, h0, pq, pb, n7, by omega, fun H7 R7 ts7 O7 wk7 en l7 f7 => ?_⟩
      have S7 := Off.same O7 S6 fru
      have qL7 := O7 _ _ nLo qL6
      have ech7 := ech1.pivot hll h0 en
      have pe : ∀ i < R0.length, ∀ j < m, PQ (ent R1 i j) := fun i hi j hj => all_ent wk6.wd pq (by rw [wk6.len]; exact hi) hj
      have stg7 : Stg κ R7 (ls.length + 1) (ent R1 ls.length c) := fin R7 _ (ent_all wk7.wd fun i hi j hj => by
        have hi : i < R0.length := by rw [← wk7.len]; exact hi
        rw [en i hi j]
        unfold newE
        split
        · exact pb.keep _ (pe _ hll j hj)
        · exact pb.new _ _ _ _ (pe _ hll c (Nat.lt_of_lt_of_le hc wm)) (pe i hi j hj) (pe i hi c (Nat.lt_of_lt_of_le hc wm)) (pe _ hll j hj)) (pe _ hll c (Nat.lt_of_lt_of_le hc wm))
      obtain ⟨as7, a7, xs7, v7, g1, g2, g3, g4, g5, n7'⟩ := wk7.ent hll hc
      have e7 : ent R7 ls.length c = ent R1 ls.length c := by
        rw [en _ hll c]
        unfold newE
        rw [if_pos rfl]
      rw [e7] at n7'
      refine ⟨_, rfl, _, rfl, r, _, _, _, rfl, rfl, SqL.of g1, ref_at g3, _, rfl, a7, _, _, _, rfl, rfl, SqL.of g4, (by rw [Int.zero_add]; exact atI_nat g5), ?_⟩
      have ll7 := ech7.le
      refine ⟨_, rfl, .inl ⟨rfl, _, SqL.of qL7⟩, _, rfl, L, _, _, rfl, rfl, qL7, Nat.lt_of_lt_of_le (show (ls.map fun (i : Nat) => V.int (i : Int)).length < 1000 by rw [List.length_map]; omega) (by decide), ?_⟩
      have OL : Off [L] H7 (upd H7 L (.lst ((ls.map fun (i : Nat) => V.int (i : Int)) ++ [.int (0 + (c : Int))]))) := off_upd' (Same.refl H7)
      refine ⟨_, _, _, R7, ts7, ls ++ [c], v7, _, rfl, Off.same OL S7 (fun z hz => by rw [List.mem_singleton.mp hz]; exact fL), wk7.offL (by simp) nL1 nL2 qL7 upd_same OL, ?_, n7'.off qL7 OL, ech7, (by rw [List.length_append]; exact stg7), by omega, fun W => ?fac⟩
      case fac =>
        rw [f7, f1, fw W, pwr_mul]
        have e := pwr_mul (Fd.inv x) x (R0.length - 1)
        have e2 : Fd.inv x * x = 1 := by have := Fd.mul_inv x ech1.x0; generalize Fd.inv x = z at *; grind
        rw [e2, pwr_one] at e
        generalize pwr (Fd.inv x) (R0.length - 1) = z at *
        generalize pwr x (R0.length - 1) = z2 at *
        generalize pwr (ent R1 ls.length c) (R0.length - 1) = z3 at *
        grind
      rw [upd_same, List.map_append, Int.zero_add]
      rfl
  · rintro σ H6 ⟨z6, z7, z8, R, ts, ls, v, x, rfl, S6, wk6, qL6, nv6, ech, stg, lt, fw⟩
    refine ⟨_, rfl, _, rfl, _, rfl, _, rfl, (by show 4 ≤ sizeLine; decide), fun t nt => ?_⟩
    have St := same_new nt (.tup [.ref r, .ref u, .ref L, v])
    exact k _ t r u L [r, u, L] v R ts ls x (S6.trans St) upd_same nr fu fL (wk6.same St) (by simp) nL1 nL2 (St _ _ qL6) (nv6.same St) ech stg (by omega) fw
end

end My

set_option maxHeartbeats 1000000
/-! values at tables, two ways -/
namespace My
open PySem L2 PyProof.Rows
section
variable {κ : KX}
theorem sg00 : (0 : κ.F) + 0 = 0 := by grind
noncomputable def Sg (h : Nat → κ.F) : Nat → κ.F
  | 0 => 0
  | n + 1 => Sg h n + h n
theorem Sg_congr {h g : Nat → κ.F} : ∀ {n : Nat}, (∀ i, i < n → h i = g i) → Sg h n = Sg g n
  | 0, _ => rfl
  | n + 1, e => by
    show Sg h n + h n = Sg g n + g n
    rw [Sg_congr (n := n) fun i hi => e i (by omega), e n (by omega)]
theorem Sg_mul (c : κ.F) (h : Nat → κ.F) : ∀ n, c * Sg h n = Sg (fun i => c * h i) n
  | 0 => by show c * 0 = 0; grind
  | n + 1 => by
    show c * (Sg h n + h n) = Sg (fun i => c * h i) n + c * h n
    rw [← Sg_mul c h n]; grind
theorem Sg_add (h g : Nat → κ.F) : ∀ n, Sg h n + Sg g n = Sg (fun i => h i + g i) n
  | 0 => sg00
  | n + 1 => by
    show (Sg h n + h n) + (Sg g n + g n) = Sg (fun i => h i + g i) n + (h n + g n)
    rw [← Sg_add h g n]; grind
theorem Sg_zero : ∀ n, Sg (fun _ => (0 : κ.F)) n = 0
  | 0 => rfl
  | n + 1 => by show Sg _ n + 0 = 0; rw [Sg_zero n]; exact sg00
theorem Sg_shift (h : Nat → κ.F) : ∀ n, Sg h (n + 1) = h 0 + Sg (fun i => h (i + 1)) n
  | 0 => by show 0 + h 0 = h 0 + 0; grind
  | n + 1 => by
    show Sg h (n + 1) + h (n + 1) = h 0 + (Sg (fun i => h (i + 1)) n + h (n + 1))
    rw [Sg_shift h n]; grind
end
end My

set_option maxHeartbeats 1000000
/-! determinants, by the first row; what turns do to them -/
namespace My
open PySem L2 PyProof.Rows
section
variable {κ : KX}
noncomputable def sgn (κ : KX) : Nat → κ.F
  | 0 => 1
  | n + 1 => 0 - sgn κ n
/-- places but one -/
def skip (j t : Nat) : Nat := if t < j then t else t + 1
theorem skip_skip {j k : Nat} (h : k < j) (t : Nat) : skip j (skip k t) = skip k (skip (j - 1) t) := by
  have lo : ∀ {j t : Nat}, t < j → skip j t = t := fun h => by unfold skip; rw [if_pos h]
  have hi : ∀ {j t : Nat}, j ≤ t → skip j t = t + 1 := fun h => by unfold skip; rw [if_neg (by omega)]
  by_cases h1 : t < k
  · rw [lo h1, lo (show t < j by omega), lo (show t < j - 1 by omega), lo h1]
  · by_cases h2 : t < j - 1
    · rw [hi (show k ≤ t by omega), lo (show t + 1 < j by omega), lo h2, hi (show k ≤ t by omega)]
    · rw [hi (show k ≤ t by omega), hi (show j ≤ t + 1 by omega), hi (show j - 1 ≤ t by omega), hi (show k ≤ t + 1 by omega)]
noncomputable def det : Nat → (Nat → Nat → κ.F) → κ.F
  | 0, _ => 1
  | n + 1, a => Sg (fun j => sgn κ j * a 0 j * det n (fun i k => a (i + 1) (skip j k))) (n + 1)
theorem det_congr : ∀ {n : Nat} {a b : Nat → Nat → κ.F}, (∀ i j, i < n → j < n → a i j = b i j) → det n a = det n b
  | 0, _, _, _ => rfl
  | n + 1, a, b, h => by
    show Sg _ (n + 1) = Sg _ (n + 1)
    refine Sg_congr fun j hj => ?_
    rw [h 0 j (by omega) hj, det_congr (n := n) (a := fun i k => a (i + 1) (skip j k)) (b := fun i k => b (i + 1) (skip j k)) fun i k hi hk => h _ _ (by omega) (by unfold skip; split <;> omega)]
/-- a row put in another's stead -/
def setR (a : Nat → Nat → κ.F) (r : Nat) (f : Nat → κ.F) : Nat → Nat → κ.F := fun i j => if i = r then f j else a i j
theorem det_lin : ∀ {n : Nat} {a : Nat → Nat → κ.F} {r : Nat} (f g : Nat → κ.F) (c : κ.F), r < n → det n (setR a r fun j => f j + c * g j) = det n (setR a r f) + c * det n (setR a r g)
  | 0, _, _, _, _, _, h => by omega
  | n + 1, a, 0, f, g, c, _ => by
    show Sg _ (n + 1) = Sg _ (n + 1) + c * Sg _ (n + 1)
    rw [Sg_mul, Sg_add]
    refine Sg_congr fun j hj => ?_
    have e : ∀ h : Nat → κ.F, det n (fun i k => setR a 0 h (i + 1) (skip j k)) = det n (fun i k => a (i + 1) (skip j k)) := fun h => det_congr fun i k _ _ => by unfold setR; rw [if_neg (by omega)]
    rw [e, e, e]
    show sgn κ j * (f j + c * g j) * _ = sgn κ j * f j * _ + c * (sgn κ j * g j * _)
    grind
  | n + 1, a, r + 1, f, g, c, hr => by
    show Sg _ (n + 1) = Sg _ (n + 1) + c * Sg _ (n + 1)
    rw [Sg_mul, Sg_add]
    refine Sg_congr fun j hj => ?_
    have e : ∀ h : Nat → κ.F, det n (fun i k => setR a (r + 1) h (i + 1) (skip j k)) = det n (setR (fun i k => a (i + 1) (skip j k)) r fun k => h (skip j k)) := fun h => det_congr fun i k _ _ => by
      unfold setR
      by_cases q : i = r
      · rw [if_pos (by omega), if_pos q]
      · rw [if_neg (by omega), if_neg q]
    rw [e, e, e, det_lin (n := n) (a := fun i k => a (i + 1) (skip j k)) (r := r) (fun k => f (skip j k)) (fun k => g (skip j k)) c (by omega)]
    have z : ∀ h : Nat → κ.F, setR a (r + 1) h 0 j = a 0 j := fun h => by unfold setR; rw [if_neg (by omega)]
    rw [z, z, z]
    grind
/-- sums of what stands against itself -/
theorem Sg_pair {f : Nat → Nat → κ.F} : ∀ n, (∀ j k, k < j → j ≤ n → f j k = 0 - f k (j - 1)) → Sg (fun j => Sg (fun k => f j k) n) (n + 1) = 0
  | 0, _ => by
    show (0 : κ.F) + 0 = 0
    grind
  | n + 1, h => by
    have ih := Sg_pair n fun j k hk hj => h j k hk (by omega)
    show Sg (fun j => Sg (fun k => f j k) (n + 1)) (n + 1) + Sg (fun k => f (n + 1) k) (n + 1) = 0
    have e1 : Sg (fun j => Sg (fun k => f j k) (n + 1)) (n + 1) = Sg (fun j => Sg (fun k => f j k) n) (n + 1) + Sg (fun j => f j n) (n + 1) := by
      rw [Sg_add]; rfl
    have e2 : Sg (fun k => f (n + 1) k) (n + 1) = Sg (fun j => (0 - 1) * f j n) (n + 1) := Sg_congr fun k hk => by
      rw [h (n + 1) k hk (Nat.le_refl _)]
      show 0 - f k n = (0 - 1) * f k n
      grind
    rw [e1, e2, ih, ← Sg_mul]
    grind
/-- two rows beside one another that are the same -/
theorem det_adj : ∀ {n : Nat} {a : Nat → Nat → κ.F} {r : Nat}, r + 1 < n → (∀ j, a r j = a (r + 1) j) → det n a = 0
  | 0, _, _, h, _ => by omega
  | 1, _, _, h, _ => by omega
  | n + 2, a, 0, _, e => by
    show Sg (fun j => sgn κ j * a 0 j * Sg (fun k => sgn κ k * a 1 (skip j k) * det n (fun i t => a (i + 2) (skip j (skip k t)))) (n + 1)) (n + 2) = 0
    have e1 : ∀ j, j < n + 2 → sgn κ j * a 0 j * Sg (fun k => sgn κ k * a 1 (skip j k) * det n (fun i t => a (i + 2) (skip j (skip k t)))) (n + 1) = Sg (fun k => sgn κ j * a 0 j * (sgn κ k * a 0 (skip j k) * det n (fun i t => a (i + 2) (skip j (skip k t))))) (n + 1) := fun j _ => by
      rw [Sg_mul]
      exact Sg_congr fun k _ => by rw [e (skip j k)]
    rw [Sg_congr e1]
    refine Sg_pair (n + 1) fun j k hk hj => ?_
    have s1 : skip j k = k := by unfold skip; rw [if_pos hk]
    have s2 : skip k (j - 1) = j := by unfold skip; rw [if_neg (by omega)]; omega
    have s3 : det n (fun i t => a (i + 2) (skip j (skip k t))) = det n (fun i t => a (i + 2) (skip k (skip (j - 1) t))) := det_congr fun i t _ _ => by rw [skip_skip hk]
    have s4 : sgn κ j = 0 - sgn κ (j - 1) := by
      obtain ⟨m, rfl⟩ : ∃ m, j = m + 1 := ⟨j - 1, by omega⟩
      rfl
    rw [s1, s2, s3, s4]
    grind
  | n + 2, a, r + 1, h, e => by
    show Sg _ (n + 2) = 0
    have z : ∀ j, j < n + 2 → sgn κ j * a 0 j * det (n + 1) (fun i k => a (i + 1) (skip j k)) = 0 := fun j _ => by
      rw [det_adj (n := n + 1) (a := fun i k => a (i + 1) (skip j k)) (r := r) (by omega) fun k => e (skip j k)]
      grind
    rw [Sg_congr z, Sg_zero]
theorem setR_self (a : Nat → Nat → κ.F) (r : Nat) : setR a r (a r) = a := by
  funext i j
  unfold setR
  split
  · rename_i e; rw [e]
  · rfl
theorem det_add1 {n : Nat} {a : Nat → Nat → κ.F} {r : Nat} (f g : Nat → κ.F) (h : r < n) : det n (setR a r fun j => f j + g j) = det n (setR a r f) + det n (setR a r g) := by
  have := det_lin (a := a) f g (1 : κ.F) h
  have e : (fun j => f j + (1 : κ.F) * g j) = fun j => f j + g j := by funext j; grind
  rw [e] at this
  rw [this]
  grind
/-- rows beside one another change places -/
theorem det_sw1 {n : Nat} {a : Nat → Nat → κ.F} {r : Nat} (h : r + 1 < n) : det n (setR (setR a r (a (r + 1))) (r + 1) (a r)) = 0 - det n a := by
  -- both rows the sum
  have z : ∀ x : Nat → κ.F, det n (setR (setR a r x) (r + 1) x) = 0 := fun x => det_adj h fun j => by
    unfold setR
    rw [if_neg (by omega), if_pos rfl, if_pos rfl]
  have c : ∀ x y : Nat → κ.F, setR (setR a r x) (r + 1) y = setR (setR a (r + 1) y) r x := fun x y => by
    funext i j
    unfold setR
    by_cases e1 : i = r + 1
    · rw [if_pos e1, if_neg (by omega), if_pos e1]
    · by_cases e2 : i = r
      · rw [if_neg e1, if_pos e2, if_pos e2]
      · rw [if_neg e1, if_neg e2, if_neg e2, if_neg e1]
  have h0 := z fun j => a r j + a (r + 1) j
  rw [det_add1 _ _ (by omega), c, c, det_add1 _ _ (by omega), det_add1 _ _ (by omega), ← c, ← c, ← c, ← c] at h0
  have z1 := z fun j => a r j
  have z2 := z fun j => a (r + 1) j
  have s : setR (setR a r fun j => a r j) (r + 1) (fun j => a (r + 1) j) = a := by
    have e1 : setR a r (fun j => a r j) = a := setR_self a r
    rw [e1]
    exact setR_self a (r + 1)
  rw [z1, z2, s] at h0
  have t : det n (setR (setR a r fun j => a (r + 1) j) (r + 1) fun j => a r j) = det n (setR (setR a r (a (r + 1))) (r + 1) (a r)) := rfl
  rw [t] at h0
  generalize det n (setR (setR a r (a (r + 1))) (r + 1) (a r)) = u at *
  generalize det n a = v at *
  grind
/-- two rows that are the same -/
theorem det_eq0 {n : Nat} : ∀ {d : Nat} {a : Nat → Nat → κ.F} {r : Nat}, r + d + 1 < n → (∀ j, a r j = a (r + d + 1) j) → det n a = 0
  | 0, a, r, h, e => det_adj h e
  | d + 1, a, r, h, e => by
    have s := det_sw1 (a := a) (r := r + d + 1) (n := n) (by omega)
    have z : det n (setR (setR a (r + d + 1) (a (r + d + 1 + 1))) (r + d + 1 + 1) (a (r + d + 1))) = 0 := by
      refine det_eq0 (d := d) (r := r) (by omega) fun j => ?_
      unfold setR
      rw [if_neg (by omega), if_neg (by omega), if_neg (by omega), if_pos rfl]
      exact e j
    rw [z] at s
    generalize det n a = v at *
    grind
theorem det_same {n : Nat} {a : Nat → Nat → κ.F} {r s : Nat} (hr : r < n) (hs : s < n) (ne : r ≠ s) (e : ∀ j, a r j = a s j) : det n a = 0 := by
  rcases Nat.lt_or_gt_of_ne ne with h | h
  · refine det_eq0 (d := s - r - 1) (r := r) (by omega) fun j => ?_
    rw [e j]; congr 1; omega
  · refine det_eq0 (d := r - s - 1) (r := s) (by omega) fun j => ?_
    rw [← e j]; congr 1; omega
theorem det_addR {n : Nat} {a : Nat → Nat → κ.F} {r s : Nat} (c : κ.F) (hr : r < n) (hs : s < n) (ne : r ≠ s) : det n (setR a r fun j => a r j + c * a s j) = det n a := by
  rw [det_lin _ _ _ hr, show setR a r (fun j => a r j) = a from setR_self a r, det_same (a := setR a r fun j => a s j) hr hs ne fun j => by unfold setR; rw [if_pos rfl, if_neg (Ne.symm ne)]]
  grind
theorem det_sclR {n : Nat} {a : Nat → Nat → κ.F} {r : Nat} (c : κ.F) (hr : r < n) : det n (setR a r fun j => c * a r j) = c * det n a := by
  have e : (fun j => c * a r j) = fun j => 0 * a r j + c * a r j := by funext j; grind
  have z : det n (setR a r fun j => 0 * a r j) = 0 := by
    have e2 : (fun j => (0 : κ.F) * a r j) = fun j => 0 + 0 * a r j := by funext j; grind
    have := det_lin (a := a) (fun _ => (0 : κ.F)) (fun _ => 0) (0 - 1) hr
    have e3 : (fun j : Nat => (0 : κ.F) + (0 - 1) * 0) = fun _ => 0 := by funext j; grind
    rw [e3] at this
    have e4 : (fun j => (0 : κ.F) * a r j) = fun _ => 0 := by funext j; grind
    rw [e4]
    generalize det n (setR a r fun _ => (0 : κ.F)) = v at *
    grind
  rw [e, det_lin (fun j => 0 * a r j) (a r) c hr, z, setR_self]
  grind
theorem det_swR {n : Nat} {a : Nat → Nat → κ.F} {r s : Nat} (hr : r < n) (hs : s < n) (ne : r ≠ s) : det n (setR (setR a r (a s)) s (a r)) = 0 - det n a := by
  have z : ∀ x : Nat → κ.F, det n (setR (setR a r x) s x) = 0 := fun x => det_same hr hs ne fun j => by
    unfold setR
    rw [if_neg ne, if_pos rfl, if_pos rfl]
  have c : ∀ x y : Nat → κ.F, setR (setR a r x) s y = setR (setR a s y) r x := fun x y => by
    funext i j
    unfold setR
    by_cases e1 : i = s
    · rw [if_pos e1, if_neg (by omega), if_pos e1]
    · by_cases e2 : i = r
      · rw [if_neg e1, if_pos e2, if_pos e2]
      · rw [if_neg e1, if_neg e2, if_neg e2, if_neg e1]
  have h0 := z fun j => a r j + a s j
  rw [det_add1 _ _ hs, c, c, det_add1 _ _ hr, det_add1 _ _ hr, ← c, ← c, ← c, ← c] at h0
  have z1 := z fun j => a r j
  have z2 := z fun j => a s j
  have st : setR (setR a r fun j => a r j) s (fun j => a s j) = a := by
    have e1 : setR a r (fun j => a r j) = a := setR_self a r
    rw [e1]
    exact setR_self a s
  rw [z1, z2, st] at h0
  have t : det n (setR (setR a r fun j => a s j) s fun j => a r j) = det n (setR (setR a r (a s)) s (a r)) := rfl
  rw [t] at h0
  generalize det n (setR (setR a r (a s)) s (a r)) = u at *
  generalize det n a = v at *
  grind
/-- noughts below the diagonal -/
noncomputable def diagP (a : Nat → Nat → κ.F) : Nat → κ.F
  | 0 => 1
  | n + 1 => diagP a n * a n n
theorem diagP_shift (a : Nat → Nat → κ.F) : ∀ n, diagP a (n + 1) = a 0 0 * diagP (fun i j => a (i + 1) (j + 1)) n
  | 0 => by show 1 * a 0 0 = a 0 0 * 1; grind
  | n + 1 => by
    show diagP a (n + 1) * a (n + 1) (n + 1) = a 0 0 * (diagP _ n * a (n + 1) (n + 1))
    rw [diagP_shift a n]
    grind
/-- a first column of noughts -/
theorem det_col0 : ∀ {n : Nat} {a : Nat → Nat → κ.F}, 0 < n → (∀ i, i < n → a i 0 = 0) → det n a = 0
  | 1, a, _, h => by
    show (0 : κ.F) + sgn κ 0 * a 0 0 * 1 = 0
    rw [h 0 (by omega)]
    grind
  | n + 2, a, _, h => by
    show Sg _ (n + 2) = 0
    have z : ∀ j, j < n + 2 → sgn κ j * a 0 j * det (n + 1) (fun i k => a (i + 1) (skip j k)) = 0 := fun j _ => by
      by_cases e : j = 0
      · rw [e, h 0 (by omega)]; grind
      · rw [det_col0 (n := n + 1) (a := fun i k => a (i + 1) (skip j k)) (by omega) fun i hi => by
          show a (i + 1) (skip j 0) = 0
          rw [show skip j 0 = 0 by unfold skip; rw [if_pos (by omega)]]
          exact h (i + 1) (by omega)]
        grind
    rw [Sg_congr z, Sg_zero]
theorem det_tri : ∀ {n : Nat} {a : Nat → Nat → κ.F}, (∀ i j, j < i → i < n → a i j = 0) → det n a = diagP a n
  | 0, _, _ => rfl
  | n + 1, a, h => by
    rw [diagP_shift]
    show Sg _ (n + 1) = _
    rw [Sg_shift]
    have z : ∀ j, j < n → sgn κ (j + 1) * a 0 (j + 1) * det n (fun i k => a (i + 1) (skip (j + 1) k)) = 0 := fun j hj => by
      rw [det_col0 (n := n) (a := fun i k => a (i + 1) (skip (j + 1) k)) (by omega) fun i hi => by
        show a (i + 1) (skip (j + 1) 0) = 0
        rw [show skip (j + 1) 0 = 0 by unfold skip; rw [if_pos (by omega)]]
        exact h (i + 1) 0 (by omega) (by omega)]
      grind
    rw [Sg_congr z, Sg_zero]
    have e : det n (fun i k => a (i + 1) (skip 0 k)) = diagP (fun i j => a (i + 1) (j + 1)) n := by
      have : det n (fun i k => a (i + 1) (skip 0 k)) = det n (fun i k => a (i + 1) (k + 1)) := det_congr fun i k _ _ => by
        rw [show skip 0 k = k + 1 by unfold skip; rw [if_neg (by omega)]]
      rw [this]
      exact det_tri fun i j hj hi => h (i + 1) (j + 1) (by omega) (by omega)
    rw [e]
    show sgn κ 0 * a 0 0 * _ + 0 = _
    have : sgn κ 0 = 1 := rfl
    rw [this]
    grind
/-- what a turn does -/
noncomputable def facT : Tn κ → κ.F
  | .swap _ _ => 0 - 1
  | .scale _ c => c
  | .add _ _ _ => 1
theorem det_turn {n : Nat} {t : Tn κ} {R : List (List κ.F)} (hn : R.length = n) (wd : Wid n R) (ok : t.ok n) : det n (ent (doT t R)) = facT t * det n (ent R) := by
  cases t with
  | swap i j =>
    obtain ⟨⟨i0, i1⟩, ⟨j0, j1⟩, ne⟩ := ok
    have e : ent (doT (.swap i j) R) = setR (setR (ent R) i.toNat (ent R j.toNat)) j.toNat (ent R i.toNat) := by
      funext x y
      rw [ent_swap (by omega) (by omega)]
      rfl
    rw [e, det_swR (by omega) (by omega) (by omega)]
    show 0 - det n (ent R) = (0 - 1) * det n (ent R)
    grind
  | scale i c =>
    obtain ⟨⟨i0, i1⟩, c0⟩ := ok
    have e : ent (doT (.scale i c) R) = setR (ent R) i.toNat fun y => c * ent R i.toNat y := by
      funext x y
      rw [ent_scale (by omega)]
      unfold setR
      split
      · rename_i q; rw [q]
      · rfl
    rw [e, det_sclR _ (by omega)]
    rfl
  | add i j c =>
    obtain ⟨⟨i0, i1⟩, ⟨j0, j1⟩, ne⟩ := ok
    have e : ent (doT (.add i j c) R) = setR (ent R) i.toNat fun y => ent R i.toNat y + c * ent R j.toNat y := by
      funext x y
      rw [ent_add wd (by omega) (by omega)]
      unfold setR
      split
      · rename_i q; rw [q]
      · rfl
    rw [e, det_addR _ (by omega) (by omega) (by omega)]
    show _ = 1 * _
    grind
noncomputable def facTs : List (Tn κ) → κ.F
  | [] => 1
  | t :: ts => facT t * facTs ts
theorem det_turns {n : Nat} : ∀ {ts : List (Tn κ)} {R : List (List κ.F)}, R.length = n → Wid n R → (∀ t ∈ ts, t.ok n) → det n (ent (runT ts R)) = facTs ts * det n (ent R)
  | [], R, _, _, _ => by show det n (ent R) = 1 * _; grind
  | t :: ts, R, hn, wd, ok => by
    show det n (ent (runT ts (doT t R))) = facT t * facTs ts * _
    rw [det_turns (ts := ts) (R := doT t R) (by rw [doT_len, hn]) (doT_wid wd (by rw [hn]; exact ok t (by simp))) (fun t' h' => ok t' (by simp [h'])), det_turn hn wd (ok t (by simp))]
    grind
end
end My

set_option maxHeartbeats 1000000
namespace My
open PySem L2 PyProof.Rows
section
variable {κ : KX}
theorem fac_sc (ts : List (Tn κ)) : facTs ts = sgn κ (swN ts) * scF ts := by
  induction ts with
  | nil => show (1 : κ.F) = 1 * 1; grind
  | cons t ts ih =>
    show facT t * facTs ts = sgn κ (swT t + swN ts) * (scT t * scF ts)
    rw [ih]
    cases t with
    | swap i j =>
      show (0 - 1) * (sgn κ (swN ts) * scF ts) = sgn κ (1 + swN ts) * (1 * scF ts)
      rw [show 1 + swN ts = swN ts + 1 by omega]
      show _ = (0 - sgn κ (swN ts)) * _
      grind
    | scale i c =>
      show c * (sgn κ (swN ts) * scF ts) = sgn κ (0 + swN ts) * (c * scF ts)
      rw [Nat.zero_add]; grind
    | add i j c =>
      show 1 * (sgn κ (swN ts) * scF ts) = sgn κ (0 + swN ts) * (1 * scF ts)
      rw [Nat.zero_add]; grind
theorem sgn_sq (n : Nat) : sgn κ n * sgn κ n = 1 := by
  induction n with
  | zero => show (1 : κ.F) * 1 = 1; grind
  | succ n ih =>
    show (0 - sgn κ n) * (0 - sgn κ n) = 1
    rw [← ih]; grind
theorem sgn_mod (n : Nat) : sgn κ n = if n % 2 = 0 then 1 else 0 - 1 := by
  induction n with
  | zero => rfl
  | succ n ih =>
    show 0 - sgn κ n = _
    rw [ih]
    by_cases h : n % 2 = 0
    · rw [if_pos h, if_neg (by omega)]
    · rw [if_neg h, if_pos (by omega)]; grind
theorem diag_x {a : Nat → Nat → κ.F} {x : κ.F} : ∀ {n : Nat}, (∀ i, i < n → a i i = x) → diagP a n = pwr x n
  | 0, _ => rfl
  | n + 1, h => by
    show diagP a n * a n n = pwr x n * x
    rw [diag_x (n := n) fun i hi => h i (by omega), h n (by omega)]
/-- full rank: leads on the diagonal -/
theorem ech_diag {R : List (List κ.F)} {n : Nat} {ls : List Nat} {x : κ.F} (h : Ech R n n ls x) (full : ls.length = n) {i j : Nat} (hi : i < n) (hj : j < n) : ent R i j = if i = j then x else 0 := by
  have ge : ∀ k, k < n → k ≤ ls.getD k 0 := by
    intro k
    induction k with
    | zero => intro _; omega
    | succ k ih => intro hk; have := h.inc k (k + 1) (by omega) (by omega); have := ih (by omega); omega
  have le : ∀ d k, k + d + 1 = n → ls.getD k 0 ≤ k := by
    intro d
    induction d with
    | zero => intro k hk; have := h.lt k (by omega); omega
    | succ d ih => intro k hk; have := h.inc k (k + 1) (by omega) (by omega); have := ih (k + 1) (by omega); omega
  have eq : ls.getD j 0 = j := by have := ge j hj; have := le (n - j - 1) j (by omega); omega
  have := h.col j (by omega) i hi
  rw [eq] at this
  exact this
/-- the determinant out of the steps -/
theorem det_full {R0 : List (List κ.F)} {n : Nat} {ls : List Nat} {x : κ.F} {ts : List (Tn κ)} (n1 : 1 ≤ n) (hn : R0.length = n) (wd : Wid n R0) (ok : ∀ t ∈ ts, t.ok n) (h : Ech (runT ts R0) n n ls x) (full : ls.length = n) (sc : scF ts = pwr x (n - 1)) : det n (ent R0) = sgn κ (swN ts) * x := by
  have d1 := det_turns hn wd ok
  rw [det_tri (fun i j hj hi => by rw [ech_diag h full hi (by omega), if_neg (by omega)]), diag_x (fun i hi => by rw [ech_diag h full hi hi, if_pos rfl]), fac_sc, sc] at d1
  obtain ⟨m, rfl⟩ : ∃ m, n = m + 1 := ⟨n - 1, by omega⟩
  rw [Nat.add_sub_cancel] at d1
  have px : pwr x m ≠ 0 := by
    have : ∀ k, pwr x k ≠ 0 := fun k => by
      induction k with
      | zero => exact fun z => Fd.zne z.symm
      | succ k ih =>
        intro z
        have z : pwr x k * x = 0 := z
        have h1 := Fd.mul_inv x h.x0
        apply ih
        have : pwr x k = pwr x k * x * Fd.inv x := by
          generalize Fd.inv x = y at *
          generalize pwr x k = w at *
          grind
        rw [this, z]
        grind
    exact this m
  have d1 : pwr x m * x = sgn κ (swN ts) * pwr x m * det (m + 1) (ent R0) := d1
  have sq := sgn_sq (κ := κ) (swN ts)
  have hi := Fd.mul_inv _ px
  generalize Fd.inv (pwr x m) = y at *
  generalize sgn κ (swN ts) = s at *
  generalize pwr x m = w at *
  generalize det (m + 1) (ent R0) = d at *
  -- w x = s w d, so d = s x
  have e1 : y * (w * x) = y * (s * w * d) := by rw [d1]
  have e2 : x = s * d := by grind
  rw [e2]
  have : s * (s * d) = s * s * d := by grind
  rw [this, sq]
  grind
/-- less than full rank -/
theorem det_less {R0 : List (List κ.F)} {n : Nat} {ls : List Nat} {x : κ.F} {ts : List (Tn κ)} (hn : R0.length = n) (wd : Wid n R0) (ok : ∀ t ∈ ts, t.ok n) (h : Ech (runT ts R0) n n ls x) (less : ls.length < n) : det n (ent R0) = 0 := by
  have d1 := det_turns hn wd ok
  -- the last row is noughts
  have z : det n (ent (runT ts R0)) = 0 := by
    have r : ∀ j, j < n → ent (runT ts R0) (n - 1) j = 0 := fun j hj => h.low (n - 1) (by omega) (by omega) j hj
    have e : det n (ent (runT ts R0)) = det n (setR (ent (runT ts R0)) (n - 1) fun j => 0 * ent (runT ts R0) (n - 1) j) := det_congr fun i j hi hj => by
      unfold setR
      by_cases q : i = n - 1
      · rw [if_pos q, q, r j hj]; grind
      · rw [if_neg q]
    rw [e, det_sclR 0 (by omega)]
    grind
  rw [z] at d1
  -- turns do not make it nought
  have ne : facTs ts ≠ 0 := by
    have : ∀ ts : List (Tn κ), (∀ t ∈ ts, t.ok n) → facTs ts ≠ 0 := fun ts => by
      induction ts with
      | nil => exact fun _ z => Fd.zne z.symm
      | cons t ts ih =>
        intro ok z
        have z : facT t * facTs ts = 0 := z
        have i1 := ih fun t' h' => ok t' (by simp [h'])
        have f0 : facT t ≠ 0 := by
          have o := ok t (by simp)
          cases t with
          | swap i j =>
            intro q
            have q : (0 : κ.F) - 1 = 0 := q
            exact Fd.zne (α := κ.F) (by grind)
          | scale i c => exact o.2
          | add i j c => exact fun q => Fd.zne q.symm
        have m1 := Fd.mul_inv _ f0
        apply i1
        have : facTs ts = facT t * facTs ts * Fd.inv (facT t) := by
          generalize Fd.inv (facT t) = y at *
          generalize facT t = w at *
          generalize facTs ts = v at *
          grind
        rw [this, z]; grind
    exact this ts ok
  have m1 := Fd.mul_inv _ ne
  have : det n (ent R0) = facTs ts * det n (ent R0) * Fd.inv (facTs ts) := by
    generalize Fd.inv (facTs ts) = y at *
    generalize facTs ts = w at *
    generalize det n (ent R0) = v at *
    grind
  rw [this, ← d1]
  grind
end
end My

set_option maxHeartbeats 1000000
/-! one reduced form: what turns leave of a table's kernel tells the leads and the numbers behind them -/
namespace My
open PySem L2 PyProof.Rows
section
variable {κ : KX}
noncomputable def sumP (f v : Nat → κ.F) : Nat → κ.F
  | 0 => 0
  | m + 1 => sumP f v m + f m * v m
theorem getD_lt {l : List Nat} {k : Nat} (h : k < l.length) : l.getD k 0 = l[k] := by rw [List.getD_eq_getElem?_getD, List.getElem?_eq_getElem h]; rfl
theorem Ech.pw {R : List (List κ.F)} {n m : Nat} {ls : List Nat} {x : κ.F} (h : Ech R n m ls x) : ls.Pairwise (· < ·) :=
  List.pairwise_iff_getElem.mpr fun i j hi hj l => by have := h.inc i j l hj; rw [getD_lt hi, getD_lt hj] at this; exact this
theorem mem_getD {l : List Nat} {x : Nat} : x ∈ l ↔ ∃ k < l.length, l.getD k 0 = x := by
  constructor
  · intro m
    obtain ⟨k, hk, e⟩ := List.getElem_of_mem m
    exact ⟨k, hk, by rw [getD_lt hk]; exact e⟩
  · rintro ⟨k, hk, e⟩
    rw [getD_lt hk] at e
    rw [← e]; exact List.getElem_mem hk
end
end My

set_option maxHeartbeats 1000000
namespace My
open PySem L2 PyProof.Rows
def sp_l_madeX : Sp := fun vs H Q _ => ∃ (κ : KX) (t : Int) (x : κ.F), vs = [.int κ.P, .int t] ∧ NumV κ t x ∧ ∀ H' v, Same H H' → NR κ H' v x → Q v H'
theorem numV_ex {κ : KX} {t : Int} (h : t.natAbs ≤ 10 ^ 140) : ∃ x : κ.F, NumV κ t x := by
  cases κ with
  | q => exact ⟨(t : Rat), rfl, rfl⟩
  | r p hp =>
    have h2 := hp.two
    have e0 := Int.emod_nonneg t (show (p : Int) ≠ 0 by omega)
    have e1 := Int.emod_lt_of_pos t (show 0 < (p : Int) by omega)
    exact ⟨(⟨(t % p).toNat, by omega⟩ : Fin p), h, by show (((t % p).toNat : Nat) : Int) = _; omega⟩
theorem numV_qs {κ : KX} {t : Int} {x : κ.F} {a : Nat} (h : NumV κ t x) (ht : Bits a t) : QS κ 1 a x := by
  cases κ with
  | r p hp => exact trivial
  | q =>
    refine ⟨t, ?_, ht⟩
    rw [← Rat.num_divInt_den x, h.1, h.2]; rfl
theorem joinP {C' G : Hp → Prop} {X : Prop} (h : (∀ H, C' H → G H) → X) (hG : ∀ H, C' H → G H) : X := h hG
end My

set_option maxHeartbeats 1000000
/-! finer sizes: the numbers over a common bottom, told by how great they are -/
namespace My
open PySem L2 PyProof.Rows
theorem joinV1 {C G X : V → Prop} (h : (∀ a, C a → G a) → ∀ a, C a → X a) (hG : ∀ a, C a → G a) : ∀ a, C a → X a := h hG
/-- columns for leads -/
structure LeadsOk (n m : Nat) (ls : List Nat) : Prop where
  len : ls.length ≤ n
  pw : ls.Pairwise (· < ·)
  lt : ∀ x ∈ ls, x < m
theorem LeadsOk.at {n m : Nat} {ls : List Nat} (h : LeadsOk n m ls) {k : Nat} (hk : k < ls.length) : ls.getD k 0 < m := by
  rw [getD_lt hk]; exact h.lt _ (List.getElem_mem hk)
theorem LeadsOk.inc {n m : Nat} {ls : List Nat} (h : LeadsOk n m ls) {k k' : Nat} (hk : k < k') (hk' : k' < ls.length) : ls.getD k 0 < ls.getD k' 0 := by
  rw [getD_lt (by omega), getD_lt hk']
  exact List.pairwise_iff_getElem.mp h.pw k k' (by omega) hk' hk
section
variable {κ : KX}
/-- x is a whole number, at most M, over D -/
def QM (κ : KX) (D : Int) (M : Nat) (x : κ.F) : Prop := match κ with
  | .q => ∃ X : Int, x = Rat.divInt X D ∧ X.natAbs ≤ M
  | .r _ _ => True
theorem QM.qs {D : Int} {M a : Nat} {x : κ.F} (h : QM κ D M x) (hM : M < 2 ^ a) : QS κ D a x := by
  cases κ with
  | r p hp => exact trivial
  | q => obtain ⟨X, e, l⟩ := h; exact ⟨X, e, Bits.of (Nat.lt_of_le_of_lt l hM)⟩
theorem QM.mono {D : Int} {M N : Nat} {x : κ.F} (h : QM κ D M x) (l : M ≤ N) : QM κ D N x := by
  cases κ with
  | r p hp => exact trivial
  | q => obtain ⟨X, e, hX⟩ := h; exact ⟨X, e, Nat.le_trans hX l⟩
theorem QM.mul {D E : Int} {M N : Nat} {x y : κ.F} (h : QM κ D M x) (g : QM κ E N y) : QM κ (D * E) (M * N) (x * y) := by
  cases κ with
  | r p hp => exact trivial
  | q =>
    obtain ⟨X, rfl, hX⟩ := h
    obtain ⟨Y, rfl, hY⟩ := g
    exact ⟨X * Y, Rat.divInt_mul_divInt _ _, by rw [Int.natAbs_mul]; exact Nat.mul_le_mul hX hY⟩
theorem QM.add {D : Int} (hD : 0 < D) {M N : Nat} {x y : κ.F} (h : QM κ D M x) (g : QM κ D N y) : QM κ D (M + N) (x + y) := by
  cases κ with
  | r p hp => exact trivial
  | q =>
    obtain ⟨X, rfl, hX⟩ := h
    obtain ⟨Y, rfl, hY⟩ := g
    refine ⟨X + Y, ?_, Nat.le_trans (Int.natAbs_add_le X Y) (Nat.add_le_add hX hY)⟩
    show Rat.divInt X D + Rat.divInt Y D = _
    rw [Rat.divInt_add_divInt _ _ (by omega) (by omega), Rat.divInt_eq_divInt_iff (Int.ne_of_gt (Int.mul_pos hD hD)) (by omega), ← Int.add_mul, Int.mul_assoc]
theorem QM.zero {D : Int} {M : Nat} : QM κ D M 0 := by
  cases κ with
  | r p hp => exact trivial
  | q => exact ⟨0, (Rat.zero_divInt D).symm, Nat.zero_le _⟩
theorem QM.up {D E : Int} (hD : 0 < D) (hE : 0 < E) {M e : Nat} {x : κ.F} (h : QM κ D M x) (bE : E.natAbs ≤ e) : QM κ (D * E) (M * e) x := by
  cases κ with
  | r p hp => exact trivial
  | q =>
    obtain ⟨X, rfl, hX⟩ := h
    refine ⟨X * E, ?_, by rw [Int.natAbs_mul]; exact Nat.mul_le_mul hX bE⟩
    rw [Rat.divInt_eq_divInt_iff (by omega) (Int.ne_of_gt (Int.mul_pos hD hE)), Int.mul_assoc, Int.mul_comm D E]
theorem qm60 {t b : Int} {N : Nat} (h0 : 1 ≤ b) (h : b ≤ 6) (ht : t.natAbs ≤ N) : QM .q 60 (N * 60) (Rat.divInt t b) := by
  obtain ⟨e, he⟩ := dvd60 h0 h
  have e1 : 0 < e := by
    rcases Int.lt_or_le 0 e with c | c
    · exact c
    · have : b * e ≤ 0 := Int.mul_nonpos_of_nonneg_of_nonpos (by omega) c
      omega
  have e2 : e ≤ 60 := by
    have : 1 * e ≤ b * e := Int.mul_le_mul_of_nonneg_right h0 (by omega)
    omega
  refine ⟨t * e, ?_, by rw [Int.natAbs_mul]; exact Nat.mul_le_mul ht (by omega)⟩
  show Rat.divInt t b = _
  rw [Rat.divInt_eq_divInt_iff (by omega) (by decide), he, Int.mul_comm b e, Int.mul_assoc]
/-- the law's turns -/
def T3 : Tn κ → Prop
  | .swap _ _ => True
  | .scale _ c => ∃ d : Int, (d = 1 ∨ d = 2 ∨ d = 3) ∧ QM κ d 3 c
  | .add _ _ c => QM κ 1 2 c
theorem qm_step {D : Int} (hD : 0 < D) {M : Nat} {t : Tn κ} {R : List (List κ.F)} (ht : T3 t) (h : AllR (QM κ D M) R) : ∃ D' : Int, 0 < D' ∧ D' ≤ D * 3 ∧ AllR (QM κ D' (M * 3)) (doT t R) := by
  have comm : ∀ x y : κ.F, x * y = y * x := by intro x y; grind
  cases t with
  | swap i j =>
    have u : AllR (QM κ D (M * 3)) R := fun f hf x hx => (h f hf x hx).mono (by omega)
    exact ⟨D, hD, by omega, (u.set (u.getD _)).set (u.getD _)⟩
  | scale i c =>
    obtain ⟨d, hd, qc⟩ := ht
    have d0 : 0 < d ∧ d.natAbs ≤ 3 ∧ d ≤ 3 := by omega
    have u : AllR (QM κ (D * d) (M * 3)) R := fun f hf x hx => (h f hf x hx).up hD d0.1 d0.2.1
    refine ⟨D * d, Int.mul_pos hD d0.1, Int.mul_le_mul_of_nonneg_left d0.2.2 (by omega), u.set fun x hx => ?_⟩
    obtain ⟨y, hy, rfl⟩ := List.mem_map.mp hx
    have := QM.mul (h.getD _ y hy) qc
    rw [comm y c] at this
    exact this
  | add i j c =>
    have u : AllR (QM κ D (M * 3)) R := fun f hf x hx => (h f hf x hx).mono (by omega)
    refine ⟨D, hD, by omega, u.set fun x hx => ?_⟩
    obtain ⟨p, hp, v, hv, rfl⟩ := mem_zipWith hx
    obtain ⟨y, hy, rfl⟩ := List.mem_map.mp hv
    have q := QM.mul (h.getD _ y hy) (show QM κ 1 2 c from ht)
    rw [comm y c, Int.mul_one] at q
    exact ((h.getD _ p hp).add hD q).mono (by omega)
theorem qm_pre {D : Int} (hD : 0 < D) (bD : Bits 3000 D) {M : Nat} (hM : M < 2 ^ 1000) {t : Tn κ} {R : List (List κ.F)} (ht : T3 t) (h : AllR (QM κ D M) R) : t.pre R := by
  have b : ∀ {x : κ.F}, QM κ D M x → B1 κ x := fun s => (s.qs hM).b1 hD (bD.up (by decide)) (by decide)
  have small : ∀ {d : Int} {N : Nat} {c : κ.F}, 0 < d → d ≤ 3 → N ≤ 3 → QM κ d N c → B1 κ c := fun d0 d3 n3 s => (s.qs (a := 2) (by omega)).b1 d0 (Bits.of (Nat.lt_of_lt_of_le (show _ < 2 ^ 2 by omega) (Nat.pow_le_pow_right (by decide) (by decide)))) (by decide)
  cases t with
  | swap i j => trivial
  | scale i c =>
    obtain ⟨d, hd, qc⟩ := ht
    exact ⟨small (by omega) (by omega) (Nat.le_refl 3) qc, fun x hx => b (h.getD _ x hx)⟩
  | add i j c =>
    have qc : QM κ 1 2 c := ht
    refine ⟨small (by decide) (by decide) (by decide) qc, fun x hx => b (h.getD _ x hx), fun y hy => ⟨b (h.getD _ y hy), ?_⟩⟩
    refine ((QM.mul qc (h.getD _ y hy)).qs (a := 1002) ?_).b1 (by omega) (by rw [Int.one_mul]; exact bD.up (by decide)) (by decide)
    have : 2 * M < 2 * 2 ^ 1000 := by omega
    exact Nat.lt_of_lt_of_le this (by rw [show (1002 : Nat) = 1000 + 2 from rfl, Nat.pow_add]; omega)
/-- sizes behind p turns, from numbers of at most N over 60 -/
def SzM (κ : KX) (N p : Nat) (R : List (List κ.F)) : Prop := ∃ D : Int, 0 < D ∧ D ≤ 60 * 3 ^ p ∧ AllR (QM κ D (N * 3 ^ p)) R
theorem SzM.step {N p : Nat} {t : Tn κ} {R : List (List κ.F)} (h : SzM κ N p R) (ht : T3 t) : SzM κ N (p + 1) (doT t R) := by
  obtain ⟨D, hD, l, al⟩ := h
  obtain ⟨D', h0, l', al'⟩ := qm_step hD ht al
  refine ⟨D', h0, ?_, ?_⟩
  · rw [Int.pow_succ, ← Int.mul_assoc]; omega
  · rw [Nat.pow_succ, ← Nat.mul_assoc]; exact al'
theorem p3_le {p : Nat} (h : p ≤ 64) : 3 ^ p ≤ 3 ^ 64 := Nat.pow_le_pow_right (by decide) h
theorem SzM.bits {N p : Nat} {R : List (List κ.F)} (h : SzM κ N p R) (hp : p ≤ 64) (hN : N ≤ 10 ^ 50) : ∃ D : Int, 0 < D ∧ Bits 120 D ∧ AllR (QM κ D (N * 3 ^ p)) R ∧ N * 3 ^ p < 2 ^ 290 := by
  obtain ⟨D, hD, l, al⟩ := h
  have e : (60 * 3 ^ p : Int) = ((60 * 3 ^ p : Nat) : Int) := by rw [Int.natCast_mul, Int.natCast_pow]; rfl
  rw [e] at l
  have := p3_le hp
  refine ⟨D, hD, Bits.of (Nat.lt_of_le_of_lt (show D.natAbs ≤ 60 * 3 ^ 64 by omega) (by decide)), al, ?_⟩
  exact Nat.lt_of_le_of_lt (Nat.mul_le_mul hN this) (by decide)
theorem SzM.pre {N p : Nat} {t : Tn κ} {R : List (List κ.F)} (h : SzM κ N p R) (hp : p ≤ 64) (hN : N ≤ 10 ^ 50) (ht : T3 t) : t.pre R := by
  obtain ⟨D, hD, bD, al, lM⟩ := h.bits hp hN
  exact qm_pre hD (bD.up (by decide)) (Nat.lt_of_lt_of_le lM (Nat.pow_le_pow_right (by decide) (by decide))) ht al
/-- a row of the reduced table -/
structure RowP (Pr : κ.F → Prop) (ls : List Nat) (m i : Nat) (f : List κ.F) : Prop where
  len : f.length = m
  out : ls.length ≤ i → ∀ j < m, f.getD j 0 = 0
  one : i < ls.length → f.getD (ls.getD i 0) 0 = 1
  pre : i < ls.length → ∀ j < ls.getD i 0, f.getD j 0 = 0
  nil : i < ls.length → ∀ k < ls.length, k ≠ i → f.getD (ls.getD k 0) 0 = 0
  sz : ∀ x ∈ f, Pr x
theorem getD_setF {f : List κ.F} {i j : Nat} {x : κ.F} (h : i < f.length) : (f.set i x).getD j 0 = if j = i then x else f.getD j 0 := by
  rw [List.getD_eq_getElem?_getD, List.getElem?_set]
  by_cases e : j = i
  · subst e
    rw [if_pos rfl, if_pos h, if_pos rfl]; rfl
  · rw [if_neg (Ne.symm e), if_neg e, List.getD_eq_getElem?_getD]
theorem getD_rep0 (m j : Nat) : (List.replicate m (0 : κ.F)).getD j 0 = 0 := by
  rw [List.getD_eq_getElem?_getD, List.getElem?_replicate]
  split <;> rfl
theorem RowP.set {Pr : κ.F → Prop} {ls : List Nat} {m i j : Nat} {g : List κ.F} {x : κ.F} (h : RowP Pr ls m i g) (hi : i < ls.length) (hj : ls.getD i 0 < j) (jm : j < m) (nj : j ∉ ls) (qx : Pr x) : RowP Pr ls m i (g.set j x) := by
  have l := h.len
  have e : ∀ j', j' ≠ j → (g.set j x).getD j' 0 = g.getD j' 0 := fun j' ne => by rw [getD_setF (by omega), if_neg ne]
  refine ⟨by rw [List.length_set]; exact l, fun z => by omega, fun _ => by rw [e _ (by omega)]; exact h.one hi, fun _ j' hj' => by rw [e _ (by omega)]; exact h.pre hi j' hj', fun _ k hk ne => ?_, fun y hy => ?_⟩
  · rw [e _ (fun z => nj (by rw [← z]; exact mem_getD.mpr ⟨k, hk, rfl⟩))]
    exact h.nil hi k hk ne
  · rcases List.mem_or_eq_of_mem_set hy with q | q
    · exact h.sz y q
    · rw [q]; exact qx
theorem qm_one : QM κ 60 60 1 := by
  cases κ with
  | r p hp => exact trivial
  | q => exact ⟨60, (Rat.divInt_self' (show (60 : Int) ≠ 0 by decide)).symm, Nat.le_refl 60⟩
end
def sp_l_scale27 : Sp := fun vs H Q _ => ∃ (κ : KX) (c : Int), vs = [.int κ.P, .int c] ∧ ∀ H' v (x : κ.F), Same H H' → NR κ H' v x → x ≠ 0 → (∃ d : Int, (d = 1 ∨ d = 2 ∨ d = 3) ∧ QM κ d 3 x) → Q v H'
def sp_l_turn27 : Sp := fun vs H Q _ => ∃ (κ : KX) (c : Int) (n : Nat), vs = [.int κ.P, .int c, .int (n : Int)] ∧ 1 ≤ n ∧ n ≤ 7 ∧ ∀ H' v (t : Tn κ), Same H H' → TR κ H' v t → t.ok n → T3 t → Q v H'
end My
namespace My
open PySem L2 PyProof.Rows
def sp_l_drawn27 : Sp := fun vs H Q _ => ∃ (κ : KX) (c : Int), vs = [.int κ.P, .int c] ∧ Bits 2097152 c ∧ ∀ H' v (x : κ.F), Same H H' → NR κ H' v x → QM κ 60 (10 ^ 20 * 60) x → Q v H'
theorem bits_mix2 {x j : Int} (h : Bits 1048576 x) (hj : 0 ≤ j ∧ j < 64) : Bits 2097152 (x * 16807 + j * j) := by
  have b1 : Bits (1048576 + 15) (x * 16807) := h.times (Bits.of (by decide))
  have j2 : j * j ≤ 63 * 63 := Int.mul_le_mul (by omega) (by omega) hj.1 (by decide)
  have j3 : 0 ≤ j * j := Int.mul_nonneg hj.1 hj.1
  have b2 : Bits (1048576 + 15) (j * j) := Bits.of (Nat.lt_of_lt_of_le (show _ < 2 ^ 16 by show _ < 65536; omega) (Nat.pow_le_pow_right (by decide) (by decide)))
  exact (b1.plus b2).up (by decide)
end My
namespace My
open PySem L2 PyProof.Rows
/-- a row times a column -/
noncomputable def dotL {κ : KX} (f g : List κ.F) : κ.F := sumP (fun i => f.getD i 0) (fun i => g.getD i 0) f.length
end My

namespace L2
open PySem PySem.Spec PyProof.Rows
section
variable {X : Cx}
end
end L2

set_option maxHeartbeats 1000000
namespace L2
open PySem PySem.Spec PyProof.Rows
section
variable {X : Cx}
def ipM : TIp := fun x y H Q => ∃ i j, x = .int i ∧ y = .int j ∧ IntMulOk i j ∧ Q (.int (i * j)) H
theorem ip_mulO : PIp X .Mult ipM := by
  intro pins s σ H x y v u Q I r1 r2 h
  obtain ⟨i, j, e1, e2, hm, q⟩ := h
  subst e1; subst e2
  obtain ⟨t, rfl⟩ := r1
  obtain ⟨t', rfl⟩ := r2
  exact PyProof.Rows.imul_int ⟨.int _, H, I.tok _, ⟨_, rfl⟩, q⟩ hm
end
end L2
namespace My
open PySem L2 PyProof.Rows
section
variable {κ : KX}
theorem one_mulD : κ.mulF (K1 κ) (K1 κ) = K1 κ := by show (1 : κ.F) * 1 = 1; grind
/-- a whole number that takes bottoms, and the number that it is -/
structure Bt (κ : KX) (b : Int) (y : κ.F) (k : Nat) : Prop where
  n : NumV κ b y
  p : 0 < b
  l : Bits k b
  r : κ ≠ .q → b = 1
  ne : y ≠ 0
theorem numv_mul {b A : Int} {y x : κ.F} (h : NumV κ b y) (g : NumV κ A x) (hr : κ ≠ .q → b = 1) (gr : κ ≠ .q → A = 1) : NumV κ (b * A) (κ.mulF y x) := by
  cases κ with
  | r p hp =>
    have b1 := hr (fun z => nomatch z)
    have a1 := gr (fun z => nomatch z)
    subst b1 a1
    have ey : y = K1 (.r p hp) := h.uniq numV1
    have ex : x = K1 (.r p hp) := g.uniq numV1
    subst ey ex
    rw [one_mulD]
    exact numV1
  | q =>
    have ey : y = ((b : Int) : Rat) := Rat.ext h.1 h.2
    have ex : x = ((A : Int) : Rat) := Rat.ext g.1 g.2
    subst ey ex
    show Rat.num (((b : Int) : Rat) * ((A : Int) : Rat)) = b * A ∧ Rat.den (((b : Int) : Rat) * ((A : Int) : Rat)) = 1
    rw [← Rat.intCast_mul]
    exact ⟨rfl, rfl⟩
theorem Bt.mul {b A : Int} {y x : κ.F} {k l : Nat} (h : Bt κ b y k) (g : Bt κ A x l) : Bt κ (b * A) (y * x) (k + l) := by
  refine ⟨numv_mul h.n g.n h.r g.r, Int.mul_pos h.p g.p, h.l.times g.l, fun z => by rw [h.r z, g.r z]; rfl, fun z => ?_⟩
  have m := Fd.mul_inv x g.ne
  apply h.ne
  have : y = y * x * Fd.inv x := by
    generalize Fd.inv x = w at *
    grind
  rw [this, z]; grind
/-- the sizes of a table whose determinant is asked -/
def SzD (κ : KX) (A : List (List κ.F)) : Prop := κ = .q → A.length ≤ 4 ∧ ∃ (D : Int) (M : Nat), 0 < D ∧ Bits 120 D ∧ M < 2 ^ 290 ∧ AllR (QM κ D M) A
theorem bot_bt {f : List κ.F} {A B : Int} (hB : 0 < B) (bB : Bits 120 B) (hA : BotV κ f A) (hf : ∀ x ∈ f, QS κ B 300 x) : ∃ xA : κ.F, Bt κ A xA 120 ∧ B1s κ xA ∧ ∀ x ∈ f, QS κ 1 300 (xA * x) := by
  obtain ⟨xA, nv, x0, b1, _, qA⟩ := bot_num hB (by decide) bB hA hf
  refine ⟨xA, ⟨nv, ?_, ?_, ?_, x0⟩, b1, qA⟩
  · cases κ with
    | q => exact hA.1
    | r p hp => have : A = 1 := hA; omega
  · cases κ with
    | q =>
      have dv := hA.2.2 B fun x hx => QS.dv hB (hf x hx)
      exact bB.le (by have := Int.le_of_dvd hB dv; have := hA.1; omega)
    | r p hp =>
      have : A = 1 := hA
      rw [this]; exact Bits.of (by decide)
  · cases κ with
    | q => exact fun z => absurd rfl z
    | r p hp => exact fun _ => hA
/-- scaled rows have no bottom -/
theorem whole_row {f : List κ.F} {A : Int} (h : ∀ x ∈ f, QS κ 1 300 x) (hA : BotV κ f A) : A = 1 := by
  cases κ with
  | r p hp => exact hA
  | q =>
    have d : A ∣ 1 := hA.2.2 1 fun x hx => by
      obtain ⟨X, e, _⟩ := h x hx
      rw [e]
      have : (Rat.divInt X 1) = ((X : Int) : Rat) := by rw [← Rat.num_divInt_den ((X : Int) : Rat)]; rfl
      rw [this]
      exact Int.dvd_refl 1
    have := Int.le_of_dvd (by decide) d
    have := hA.1
    omega
noncomputable def pOc (c : Nat → κ.F) : Nat → κ.F
  | 0 => 1
  | n + 1 => pOc c n * c n
theorem det_scales {n : Nat} {a b : Nat → Nat → κ.F} {c : Nat → κ.F} : ∀ k, k ≤ n → (∀ i j, i < n → j < n → b i j = if i < k then c i * a i j else a i j) → det n b = pOc c k * det n a
  | 0, _, h => by
    rw [det_congr (a := b) (b := a) fun i j hi hj => by rw [h i j hi hj, if_neg (by omega)]]
    show _ = 1 * _; grind
  | k + 1, hk, h => by
    have ih := det_scales (n := n) (a := a) (b := fun i j => if i < k then c i * a i j else a i j) (c := c) k (by omega) fun i j _ _ => rfl
    have e : det n b = det n (setR (fun i j => if i < k then c i * a i j else a i j) k fun j => c k * (fun i j => if i < k then c i * a i j else a i j) k j) := det_congr fun i j hi hj => by
      rw [h i j hi hj]
      unfold setR
      by_cases q : i = k
      · rw [if_pos q, if_pos (by omega)]
        show _ = c k * (if k < k then c k * a k j else a k j)
        rw [if_neg (by omega), q]
      · rw [if_neg q]
        show _ = if i < k then c i * a i j else a i j
        by_cases q2 : i < k
        · rw [if_pos q2, if_pos (by omega)]
        · rw [if_neg q2, if_neg (by omega)]
    rw [e, det_sclR _ (by omega), ih]
    show _ = pOc c k * c k * _
    grind
end
end My

namespace My
open PySem L2 PyProof.Rows
def sp_freed (CF CR : Addr) : Sp := fun vs H Q _ => ∃ (κ : KX) (s tb : Addr) (rs : List Addr) (A : List (List κ.F)) (m : Nat), vs = [.ref s, .ref tb] ∧ KdX CF CR κ H s ∧ H tb = some (.lst (rs.map V.ref)) ∧ RowsX κ H rs A ∧ Wid m A ∧ A.length ≤ 7 ∧ m ≤ 7 ∧ SzD κ A ∧ ∀ (H' : Hp) (tp D : Addr) (ds : List Addr) (F : List (List κ.F)) (b : Int) (y : κ.F) (c : Nat → κ.F), Same H H' → H' tp = some (.tup [.ref D, .int b]) → H' D = some (.lst (ds.map V.ref)) → RowsX κ H' ds F → Wid m F → F.length = A.length → (∀ f ∈ F, ∀ x ∈ f, QS κ 1 300 x) → Bt κ b y 900 → (∀ i j, i < A.length → j < m → ent F i j = c i * ent A i j) → y = pOc c A.length → Q (.ref tp) H'
def sp_sign_of : Sp := fun vs H Q _ => ∃ n : Nat, vs = [.int (n : Int)] ∧ Q (.int (if n % 2 = 0 then 1 else -1)) H
end My

namespace My
open PySem L2 PyProof.Rows

section
variable {P : Program} {w : World} {K : PySem.W.Frag} {mg : Str → Option Value} {base : Heap} {CF CR : Addr}
theorem sc_freed : FnScope ["kind", "table", "rows", "bottom", "row", "factor"] ["kind", "table"] (defScope s_freed) := ⟨rfl, rfl, rfl, by decide +kernel, rfl, by decide +kernel, by decide +kernel⟩
theorem ok_freed (h : Here K mg "freed" s_freed) (mn : MethNum P w K mg base CF CR) (mo : MethBot P w K mg base CF CR) (h_scaled_row : Has P w K mg base "scaled_row" 3 ["kind", "number", "row"] (sp_scaled_rowX CF CR)) : Has P w K mg base "freed" 4 ["kind", "table"] (sp_freed CF CR) := by
  refine h.has (fun f fd F => F.binds fun _ _ _ _ _ _ us hl => by obtain ⟨_, _, rfl⟩ := len2 hl; exact rfl) fun f fd F => F.ok sc_freed (fun vs H Q E h => ?_) (fun cdv A outer s H vs Q E hr h => ?_)
  · obtain ⟨_, _, _, _, _, _, rfl, _⟩ := h
    rfl
  obtain ⟨κ, sk, tb, rs, A, m, rfl, hk, hT, rx, wd, n7, m7, sz, k⟩ := h
  have nd := sc_freed.nd
  refine ⟨_, (pss_cons (ps_set (i := 2) nd rfl (Or.inl rfl) (pe_lst pa_nil))
    (pss_cons (ps_set (i := 3) nd rfl (Or.inl rfl) pe_int)
    (pss_cons (ps_for PassesOwn.never rfl (pi_list (pv 1)) (pg_name (i := 4) nd rfl (Or.inl rfl)) (pss_cons (ps_set (i := 5) nd rfl (Or.inl rfl) (pe_methA (pv 0) hr (pa_cons (pv 4) pa_nil)))
      (pss_cons (ps_expr (pe_bm PySem.F.plainAttrs_list PySem.F.slot_list_append PySem.F.type_list_append mt_append (pv 2) (pa_cons (pe_has h_scaled_row hr (by rfl) (pa_cons (pv 0) (pa_cons (pe_methX (pv 0) passN hr (pa_cons (pv 5) pa_nil)) (pa_cons (pv 4) pa_nil)))) pa_nil)))
      (pss_one (ps_aug (i := 3) nd rfl (Or.inl rfl) (pv 5) ip_mulO)))))
    (pss_one (ps_ret (pe_tup (pa_cons (pv 2) (pa_cons (pv 3) pa_nil)))))))), ?_⟩
  have lr := rx.1
  obtain ⟨B, hB, bB, qB⟩ : ∃ B : Int, 0 < B ∧ Bits 120 B ∧ ∀ f ∈ A, ∀ x ∈ f, QS κ B 300 x := by
    cases κ with
    | r p hp => exact ⟨1, by decide, Bits.of (by decide), fun _ _ _ _ => trivial⟩
    | q =>
      obtain ⟨_, D, M, hD, bD, lM, al⟩ := sz rfl
      exact ⟨D, hD, bD, fun f hf x hx => ((al f hf x hx).qs lM).mono (by decide)⟩
  refine ⟨(by show 0 ≤ sizeLine; decide), fun D nD => ?_⟩
  have SD := same_new nD (.lst [])
  have qD := upd_same (H := H) (a := D) (o := .lst [])
  generalize upd H D (.lst []) = H1 at *
  refine ⟨_, rfl, tb, rfl, ⟨_, SqL.of (SD _ _ hT)⟩, ?_⟩
  refine for_list (xs := rs.map V.ref) (fun i σ H2 => ∃ (z4 z5 : Option V) (ds : List Addr) (F : List (List κ.F)) (b : Int) (y : κ.F) (c : Nat → κ.F), σ = [some (.ref sk), some (.ref tb), some (.ref D), some (.int b), z4, z5] ∧ Same H H2 ∧ H2 D = some (.lst (ds.map V.ref)) ∧ D ∉ ds ∧ RowsX κ H2 ds F ∧ Wid m F ∧ F.length = i ∧ (∀ f ∈ F, ∀ x ∈ f, QS κ 1 300 x) ∧ Bt κ b y (120 * i + 1) ∧ (∀ i' j, i' < i → j < m → ent F i' j = c i' * ent A i' j) ∧ y = pOc c i) ⟨_, _, [], [], 1, 1, fun _ => 1, rfl, SD, qD, (fun z => nomatch z), .nil, (fun f hf => nomatch hf), rfl, (fun f hf => nomatch hf), ⟨numV1, by decide, Bits.of (by decide), fun _ => rfl, fun z => Fd.zne z.symm⟩, (fun i' j h => by omega), rfl⟩ ?_ ?_ ?_
  · rintro i σ H2 - ⟨z4, z5, ds, F, b, y, c, rfl, S2, -⟩
    exact SqL.of (S2 _ _ hT)
  · rintro i x σ H2 hx ⟨z4, z5, ds, F, b, y, c, rfl, S2, hD, nin, rF, wF, lF, qF, bt, eF, ey⟩
    obtain ⟨ra, hra, rfl⟩ := map_ref_get hx
    obtain ⟨f, hf⟩ := get_of_lt hra lr
    obtain ⟨xs, hxs, al⟩ := rx.2 i ra f hra hf
    have hi : i < A.length := (List.getElem?_eq_some_iff.mp hf).1
    have mf := List.mem_of_getElem? hf
    have lf := wd f mf
    have hk2 := hk.same S2
    obtain ⟨C', dx', fs', ps', dvs', sp', d1, d2, d3, d4, rfl, d5⟩ := mo κ H2 sk hk2
    obtain ⟨C, dx, fs, ps, dvs, sp, c1, c2, c3, c4, rfl, c5⟩ := mn κ H2 sk hk2
    refine ⟨_, rfl, sk, C', dx', fs', ps', _, sp', rfl, d1, d2, d3.mono (by decide), d4, _, rfl, d5 ra xs f B _ (S2 _ _ hxs) (al.mono fun _ _ n => n.same S2) hB (bB.up (by decide)) (fun x hx => QS.dv hB (qB f mf x hx)) fun Ai hA => ?_⟩
    obtain ⟨xA, btA, b1, qA⟩ := bot_bt hB bB hA (qB f mf)
    refine ⟨_, rfl, .inl ⟨rfl, _, SqL.of hD⟩, ?_⟩
    refine ⟨_, rfl, _, rfl, sk, C, dx, fs, ps, _, sp, rfl, c1, c2, c3.mono (by decide), c4, _, rfl, c5 H2 Ai xA _ _ (Same.refl _) btA.n fun v H3 S3 nv => ?_⟩
    have S03 := S2.trans S3
    refine ⟨_, rfl, κ, sk, ra, v, xA, xs, f, rfl, hk.same S03, nv, S03 _ _ hxs, al.mono (fun _ _ n => n.same S03), b1.b1, (fun x hx => (qB f mf x hx).b1 hB (bB.up (by decide)) (by decide)), by omega, fun H4 D4 ws S4 nD4 hD4 e4 => ?_⟩
    have S24 := S3.trans S4
    have hDx := S24 _ _ hD
    have nD4D : D4 ≠ D := fun z => by rw [z, S3 _ _ hD] at nD4; cases nD4
    refine ⟨D, _, _, rfl, rfl, hDx, Nat.lt_of_lt_of_le (show (ds.map V.ref).length < 1000 by rw [List.length_map, rF.1]; omega) (by decide), ?_⟩
    have O5 : Off [D] H4 (upd H4 D (.lst (ds.map V.ref ++ [.ref D4]))) := off_upd' (Same.refl H4)
    refine ⟨_, rfl, _, rfl, b, Ai, rfl, rfl, (bt.l.up (by omega)).mulT (btA.l.up (by decide)), ?_⟩
    refine ⟨_, _, ds ++ [D4], F ++ [f.map (xA * ·)], b * Ai, y * xA, fun i' => if i' = i then xA else c i', rfl, Off.same O5 (S2.trans S24) (fun z hz => by rw [List.mem_singleton.mp hz]; exact nD), by rw [upd_same, List.map_append]; rfl, fun z => ?_, ((rF.same S24).off nin hDx O5).snoc (O5 _ _ (fun z => nD4D (List.mem_singleton.mp z)) hD4) (e4.mono fun _ _ n => n.off hDx O5), fun f' hf' => ?_, by rw [List.length_append, lF]; rfl, fun f' hf' x hx => ?_, ?_, fun i' j hi' hj => ?_, ?_⟩
    · rcases List.mem_append.mp z with q | q
      · exact nin q
      · exact nD4D (List.mem_singleton.mp q).symm
    · rcases List.mem_append.mp hf' with q | q
      · exact wF f' q
      · rw [List.mem_singleton.mp q, List.length_map]; exact lf
    · rcases List.mem_append.mp hf' with q | q
      · exact qF f' q x hx
      · rw [List.mem_singleton.mp q] at hx
        obtain ⟨x0, h0, rfl⟩ := List.mem_map.mp hx
        exact qA x0 h0
    · have := bt.mul btA
      exact ⟨this.n, this.p, this.l.up (by omega), this.r, this.ne⟩
    · show ent (F ++ [f.map (xA * ·)]) i' j = (if i' = i then xA else c i') * ent A i' j
      unfold ent
      by_cases e : i' = i
      · rw [if_pos e, e, show (F ++ [f.map (xA * ·)]).getD i [] = f.map (xA * ·) by rw [List.getD_eq_getElem?_getD, List.getElem?_append_right (by omega), lF, Nat.sub_self]; rfl, show A.getD i [] = f by rw [List.getD_eq_getElem?_getD, hf]; rfl, getD_mul]
      · rw [if_neg e, show (F ++ [f.map (xA * ·)]).getD i' [] = F.getD i' [] by rw [List.getD_eq_getElem?_getD, List.getElem?_append_left (by omega), ← List.getD_eq_getElem?_getD]]
        exact eF i' j (by omega) hj
    · show _ = pOc _ i * (if i = i then xA else c i)
      have e : ∀ k, k ≤ i → pOc (fun i' => if i' = i then xA else c i') k = pOc c k := fun k => by
        induction k with
        | zero => intro _; rfl
        | succ k ih =>
          intro hk
          show pOc _ k * (if k = i then xA else c k) = pOc c k * c k
          rw [ih (by omega), if_neg (by omega)]
      rw [e i (Nat.le_refl _), if_pos rfl, ey]
  · rintro σ H2 ⟨z4, z5, ds, F, b, y, c, rfl, S2, hD, nin, rF, wF, lF, qF, bt, eF, ey⟩
    rw [List.length_map, lr] at lF eF ey bt
    refine ⟨_, rfl, _, rfl, (by show 2 ≤ sizeLine; decide), fun tp ntp => ?_⟩
    have St := same_new ntp (.tup [.ref D, .int b])
    exact k _ tp D ds F b y c (S2.trans St) upd_same (St _ _ hD) (rF.same St) wF lF qF ⟨bt.n, bt.p, bt.l.up (by omega), bt.r, bt.ne⟩ eF ey
theorem sc_sign_of : FnScope ["count"] ["count"] (defScope s_sign_of) := ⟨rfl, rfl, rfl, by decide +kernel, rfl, by decide +kernel, by decide +kernel⟩
theorem ok_sign_of (h : Here K mg "sign_of" s_sign_of) : Has P w K mg base "sign_of" 1 ["count"] sp_sign_of := by
  refine h.has (fun f fd F => F.binds fun _ _ _ _ _ _ us hl => by obtain ⟨_, rfl⟩ := len1 hl; exact rfl) fun f fd F => F.ok sc_sign_of (fun vs H Q E h => ?_) (fun cdv A outer s H vs Q E hr h => ?_)
  · obtain ⟨_, rfl, _⟩ := h
    rfl
  obtain ⟨n, rfl, k⟩ := h
  refine ⟨_, (pss_one (ps_ret (pe_ifExp (pt_cmpR op_eq (pe_op op_mod (pv 0) pe_int) pe_int (nomark _)) pe_int (pe_un un_neg pe_int)))), ?_⟩
  refine ⟨_, rfl, _, _, rfl, rfl, (by show (0 : Int) < _; decide), rfl, _, rfl, ?_⟩
  refine if_eqI (fun z => ?_) (fun z => ?_)
  · have z : (n : Int) % 2 = 0 := z
    rw [if_pos (by omega)] at k
    exact k
  · have z : ¬ (n : Int) % 2 = 0 := z
    rw [if_neg (by omega)] at k
    exact ⟨_, rfl, k⟩
end

end My

namespace My
open PySem L2 PyProof.Rows
/-- a table, of any sides -/
structure TabR (κ : KX) (H : Hp) (a : Addr) (rs : List Addr) (R : List (List κ.F)) (m : Nat) : Prop where
  l : H a = some (.lst (rs.map V.ref))
  r : RowsX κ H rs R
  w : Wid m R
  n1 : 1 ≤ R.length
  n9 : R.length ≤ 100
theorem TabR.same {κ : KX} {H H' : Hp} {a : Addr} {rs : List Addr} {R : List (List κ.F)} {m : Nat} (h : TabR κ H a rs R m) (S : Same H H') : TabR κ H' a rs R m := ⟨S _ _ h.l, h.r.same S, h.w, h.n1, h.n9⟩
theorem TabR.fst {κ : KX} {H : Hp} {a : Addr} {rs : List Addr} {R : List (List κ.F)} {m : Nat} (h : TabR κ H a rs R m) : ∃ a0 xs, rs[0]? = some a0 ∧ H a0 = some (.lst xs) ∧ xs.length = m := by
  have n1 := h.n1
  obtain ⟨a0, xs, ha, hx, al⟩ := h.r.get (i := 0) (by omega)
  exact ⟨a0, xs, ha, hx, by rw [al.1]; exact h.w _ (List.getElem_mem _)⟩
def sp_is_squareR : Sp := fun vs H Q _ => ∃ (κ : KX) (a : Addr) (rs : List Addr) (R : List (List κ.F)) (m : Nat), vs = [.ref a] ∧ TabR κ H a rs R m ∧ Q (.bl (decide (R.length = m))) H
def sp_need_squareR (cF : Addr) : Sp := fun vs H Q E => ∃ (κ : KX) (a : Addr) (rs : List Addr) (R : List (List κ.F)) (m : Nat), vs = [.ref a] ∧ TabR κ H a rs R m ∧ (R.length = m → Q .non H) ∧ (R.length ≠ m → E (.ref cF) none H)
end My

namespace My
open PySem L2 PyProof.Rows

section
variable {P : Program} {w : World} {K : PySem.W.Frag} {mg : Str → Option Value} {base : Heap} {CF CR cF cT cI CE fI : Addr}
theorem sc_is_square : FnScope ["table"] ["table"] (defScope s_is_square) := ⟨rfl, rfl, rfl, by decide +kernel, rfl, by decide +kernel, by decide +kernel⟩
theorem ok_is_squareR (h : Here K mg "is_square" s_is_square) (T : Nm mg) : Has P w K mg base "is_square" 1 ["table"] sp_is_squareR := by
  refine h.has (fun f fd F => F.binds fun _ _ _ _ _ _ us hl => by obtain ⟨_, rfl⟩ := len1 hl; exact rfl) fun f fd F => F.ok sc_is_square (fun vs H Q E h => ?_) (fun cdv A outer s H vs Q E hr h => ?_)
  · obtain ⟨_, _, _, _, _, rfl, _⟩ := h
    rfl
  obtain ⟨κ, a, rs, R, m, rfl, ta, k⟩ := h
  refine ⟨_, (pss_one (ps_ret (pe_cmpR op_eq (pe_callB call_len_seq (by rfl) T.len boot_len (pa_cons (pv 0) pa_nil)) (pe_callB call_len_seq (by rfl) T.len boot_len (pa_cons (pe_ix ix_list (pv 0) pe_int (fun _ _ => rfl)) pa_nil)) (nomark _)))), ?_⟩
  have lr := ta.r.1
  obtain ⟨a0, xs, ha, hx, lx⟩ := ta.fst
  refine ⟨_, rfl, a, _, rfl, .inl (SqL.of ta.l), _, rfl, a, _, 0, _, rfl, rfl, SqL.of ta.l, ref_at (i := 0) ha, a0, _, rfl, .inl (SqL.of hx), rfl, ?_⟩
  rw [List.length_map, lr, lx]
  have e : decide (V.int (R.length : Int) = V.int (m : Int)) = decide (R.length = m) := by
    by_cases z : R.length = m
    · rw [decide_eq_true z, decide_eq_true (by rw [z])]
    · rw [decide_eq_false z, decide_eq_false (fun q => z (by have := V.int.inj q; omega))]
  rw [e]
  exact k
theorem sc_need_square : FnScope ["table"] ["table"] (defScope s_need_square) := ⟨rfl, rfl, rfl, by decide +kernel, rfl, by decide +kernel, by decide +kernel⟩
theorem ok_need_squareR (h : Here K mg "need_square" s_need_square) (c_NoFit : ExcC K mg "NoFit" cF) (h_is_square : Has P w K mg base "is_square" 1 ["table"] sp_is_squareR) : HasX P w K mg base "need_square" 2 ["table"] (sp_need_squareR cF) := by
  refine h.hasX (fun f fd F => F.binds fun _ _ _ _ _ _ us hl => by obtain ⟨_, rfl⟩ := len1 hl; exact rfl) fun f fd F => F.okx sc_need_square (fun vs H Q E h => ?_) (fun cdv A outer s H vs Q E hr h => ?_)
  · obtain ⟨_, _, _, _, _, rfl, _⟩ := h
    rfl
  obtain ⟨κ, a, rs, R, m, rfl, ta, k, kE⟩ := h
  refine ⟨_, (pss_one (ps_if (pt_not (pt_val (pe_has h_is_square hr (by rfl) (pa_cons (pv 0) pa_nil)))) (pss_one (ps_raise c_NoFit raiseE rfl (by rfl) (pa_cons pe_str pa_nil))) pss_nil)), ?_⟩
  refine ⟨_, rfl, κ, a, rs, R, m, rfl, ta, _, rfl, ?_⟩
  refine if_ndec (fun z => ?_) (fun z => k z)
  exact ⟨(by show 1 ≤ 1000; decide), kE z⟩
end

end My

set_option maxHeartbeats 1000000
namespace My
open PySem L2 PyProof.Rows
def sp_FnumberL : Sp := fun vs H Q _ => ∃ (s : Addr) (t b : Int), vs = [.ref s, .int t, .int b] ∧ 0 < b ∧ b.natAbs ≤ 10 ^ 1000 ∧ ∀ (r : Addr) (x y : Int), H r = none → Fc x y → x * b = t * y → Q (.ref r) (upd H r (.tup [.int x, .int y]))
def MethNumS (P : Program) (w : World) (K : PySem.W.Frag) (mg : Str → Option Value) (base : Heap) (CF CR : Addr) : Prop :=
  ∀ (κ : KX) (H : Hp) (s : Addr), KdX CF CR κ H s → ∃ C dx fs ps dvs sp, H s = some (.ins C dx fs) ∧ Cls K C ∧ HasMX P w K mg base C "number" 3 ps dvs sp ∧ fs.lookup ("number" : Str) = none ∧ dvs = [] ∧
    ∀ (H' : Hp) (t b : Int) (e y : κ.F) (Q : VK) (E : XK), Same H H' → t.natAbs ≤ 1 → NumV κ t e → NumV κ b y → y ≠ 0 → 0 < b → b.natAbs ≤ 10 ^ 1000 → (κ ≠ .q → b = 1) → (∀ v H'', Same H' H'' → NR κ H'' v (e * Fd.inv y) → Q v H'') → sp [.ref s, .int t, .int b] H' Q E
def sp_by_steps (CF CR cF : Addr) : Sp := fun vs H Q E => ∃ (κ : KX) (s tb : Addr) (rs : List Addr) (A : List (List κ.F)) (m : Nat), vs = [.ref s, .ref tb] ∧ KdX CF CR κ H s ∧ TabR κ H tb rs A m ∧ (A.length ≠ m → E (.ref cF) none H) ∧ (A.length = m → m ≤ 7 ∧ SzD κ A ∧ ∀ H' v, Same H H' → NR κ H' v (det m (ent A)) → Q v H')
theorem numV_m1 {κ : KX} {x : κ.F} (h : NumV κ (-1) x) : x + 1 = 0 := by
  cases κ with
  | q =>
    have e : x = (-1 : Rat) := Rat.ext h.1 h.2
    subst e
    show (-1 : Rat) + 1 = 0
    grind
  | r p hp =>
    have h2 := hp.two
    refine Fin.ext ?_
    show (Fin.val x + Fin.val (K1 (.r p hp))) % p = Fin.val (K0 (.r p hp))
    rw [one_val, zero_val]
    have e : (Fin.val x : Int) = (-1) % p := h.2
    have e2 : ((-1 : Int)) % p = (p : Int) - 1 := by
      have : (-1 : Int) = ((p : Int) - 1) + p * (-1) := by omega
      rw [this, Int.add_mul_emod_self_left]
      exact Int.emod_eq_of_lt (by omega) (by omega)
    have e3 : Fin.val x + 1 = p := by omega
    rw [e3, Nat.mod_self]
theorem numV_neg1 {κ : KX} : NumV κ (-1) ((0 : κ.F) - 1) := by
  obtain ⟨x, hx⟩ := numV_ex (κ := κ) (t := -1) (by decide)
  have := numV_m1 hx
  have e : x = 0 - 1 := by grind
  rw [← e]; exact hx
theorem sgn_num {κ : KX} (n : Nat) : NumV κ (if n % 2 = 0 then 1 else -1) (sgn κ n) := by
  rw [sgn_mod]
  by_cases h : n % 2 = 0
  · rw [if_pos h, if_pos h]; exact numV1
  · rw [if_neg h, if_neg h]; exact numV_neg1
theorem sgn_inv_b1 {κ : KX} {b : Int} {y : κ.F} {n : Nat} (bt : Bt κ b y 900) : B1 κ (sgn κ n * Fd.inv y) := by
  obtain ⟨L, hL, bL, q⟩ := QS.inv (D := 1) (by decide) (show 1 ≤ 900 by decide) (numV_qs bt.n bt.l) (show Bits 1 1 from Bits.of (by decide)) bt.ne
  rw [sgn_mod]
  split
  · have e : (1 : κ.F) * Fd.inv y = Fd.inv y := by generalize Fd.inv y = z; grind
    rw [e]
    exact q.b1 hL (bL.up (by decide)) (by decide)
  · have e : (0 - 1 : κ.F) * Fd.inv y = 0 - Fd.inv y := by generalize Fd.inv y = z; grind
    rw [e]
    exact q.neg.b1 hL (bL.up (by decide)) (by decide)
theorem mul_inv1 {κ : KX} {e y : κ.F} (h : y = 1) : e * Fd.inv y = e := by
  have h1 : y ≠ 0 := fun z => Fd.zne (α := κ.F) (by rw [← z, h])
  have m := Fd.mul_inv y h1
  rw [h] at m ⊢
  generalize Fd.inv (1 : κ.F) = w at *
  grind
theorem eq_of_mul {κ : KX} {w e y : κ.F} (hy : y ≠ 0) (h : w * y = e) : w = e * Fd.inv y := by
  have m := Fd.mul_inv y hy
  rw [← h]
  generalize Fd.inv y = z at *
  grind
end My

namespace My
open PySem L2 PyProof.Rows

section
variable {P : Program} {w : World} {K : PySem.W.Frag} {mg : Str → Option Value} {base : Heap} {CF CR cN : Addr}
theorem ok_FnumberL {tk : Tok} (h : HereD K CF "number" "Fractions.number" s_Fractions_number #[.int 1 tk]) (c : ExcC K mg "NoNumber" cN) (h_divisor : Has P w K mg base "divisor" 1 ["one", "other"] sp_divisor) : HasMX P w K mg base CF "number" 2 ["self", "top", "bottom"] [] sp_FnumberL := by
  refine h.hasMX (ds := []) .nil (fun f fd T F => F.binds fun _ _ _ _ _ _ us hl => by obtain ⟨_, _, _, rfl⟩ := len3 (show us.length = 3 by simpa using hl); exact ⟨_, rfl, rfl⟩) fun f fd T F => ?_
  refine F.okx sc_Fractions_number (fun vs H Q E h => ?_) (fun cdv A outer s H vs Q E hr h => ?_)
  · obtain ⟨_, _, _, rfl, _⟩ := h
    rfl
  obtain ⟨sf, t, b, rfl, hb, lb, k⟩ := h
  have nd := sc_Fractions_number.nd
  refine ⟨_, (pss_cons (ps_if (pt_cmpR op_eq (pv 2) pe_int (nomark _)) (pss_one (ps_raise c raiseE rfl (by rfl) (pa_cons pe_str pa_nil))) pss_nil)
    (pss_cons (ps_set (i := 3) nd rfl (Or.inl rfl) (pe_has h_divisor hr (by rfl) (pa_cons (pv 1) (pa_cons (pv 2) pa_nil))))
    (pss_cons (ps_if (pt_cmpR op_lt (pv 2) pe_int (nomark _)) (pss_one (ps_set (i := 3) nd rfl (Or.inl rfl) (pe_un un_neg (pv 3)))) pss_nil)
    (pss_one (ps_ret (pe_tup (pa_cons (pe_op op_fdivL (pv 1) (pv 3)) (pa_cons (pe_op op_fdivL (pv 2) (pv 3)) pa_nil)))))))), ?_⟩
  refine ⟨_, rfl, rfl, _, rfl, ?_⟩
  refine if_eqI (fun z => absurd z (by omega)) (fun _ => ?_)
  refine ⟨_, rfl, _, rfl, t, b, rfl, ?_⟩
  refine ⟨_, rfl, _, _, rfl, rfl, _, rfl, ?_⟩
  refine if_dec (fun hn => absurd hn (by omega)) (fun hn => ?_)
  have hg := M3.gcd_ne (a := t) (b := b) (by omega)
  have gl : Int.gcd t b ≤ b.natAbs := Nat.le_of_dvd (by omega) (Int.natAbs_dvd_natAbs.mpr (Int.gcd_dvd_right t b))
  have hg1 : (Int.gcd t b : Int) ≠ 0 ∧ ((Int.gcd t b : Int)).natAbs ≤ 10 ^ 1000 := ⟨by omega, Nat.le_trans (show _ ≤ b.natAbs from gl) lb⟩
  obtain ⟨l1, l2, l3, l4, l5⟩ := M3.low (t := t) hb
  refine ⟨_, rfl, _, rfl, _, _, rfl, rfl, hg1, _, rfl, _, rfl, _, _, rfl, rfl, hg1, (by show 2 ≤ sizeLine; decide), fun r hr' => ?_⟩
  exact k r _ _ hr' ⟨l2, l1⟩ l3
end

section
variable {P : Program} {w : World} {K : PySem.W.Frag} {mg : Str → Option Value} {base : Heap} {CF CR cF cN : Addr}
theorem meth_numS (kd : Kd K mg CF CR) (hF : HasMX P w K mg base CF "number" 3 ["self", "top", "bottom"] [] sp_FnumberL) (hR : HasMX P w K mg base CR "number" 3 ["self", "top", "bottom"] [] (sp_Rnumber CR cN)) : MethNumS P w K mg base CF CR := by
  intro κ H s hk
  cases κ with
  | q =>
    obtain ⟨dx, h⟩ := hk
    refine ⟨CF, dx, [], _, _, _, h, kd.clF, hF, rfl, rfl, fun H' t b e y Q E S t1 he hy y0 b0 bl _ k => ⟨s, t, b, rfl, b0, bl, fun r x z nr fc ee => ?_⟩⟩
    obtain ⟨v, v1, v2⟩ := rat_mk fc
    have ev : v = (e : KX.q.F) * Fd.inv (y : KX.q.F) := by
      refine eq_of_mul (κ := .q) y0 ?_
      have ey : y = ((b : Int) : Rat) := Rat.ext hy.1 hy.2
      have et : e = ((t : Int) : Rat) := Rat.ext he.1 he.2
      have c : ∀ i : Int, ((i : Int) : Rat) = Rat.divInt i 1 := fun i => (Rat.num_divInt_den ((i : Int) : Rat)).symm
      show (v * y : Rat) = e
      rw [ey, et, ← Rat.num_divInt_den v, v1, v2, c, c, Rat.divInt_mul_divInt, Rat.divInt_eq_divInt_iff (by have := fc.pos; omega) (by decide), ee]
      grind
    refine k _ _ (same_new nr _) ⟨r, rfl, ?_⟩
    rw [← ev]
    show upd H' r _ r = some (.tup [.int (v : Rat).num, .int ((v : Rat).den : Int)])
    rw [v1, v2]; exact upd_same
  | r p hp =>
    obtain ⟨dx, h⟩ := hk
    have h2 := hp.pr.1
    refine ⟨CR, dx, _, _, _, _, h, kd.clR, hR, fsR_no p (by decide), rfl, fun H' t b e y Q E S t1 he hy y0 b0 bl b1 k => ?_⟩
    have b1 := b1 (fun z => nomatch z)
    subst b1
    refine ⟨s, p, t, 1, rfl, ⟨dx, S _ _ h⟩, hp.pr, by have := hp.lt; omega, Nat.le_trans t1 (by decide), by decide, fun z => ?_, fun _ H'' r S' r0 r1 rd => ?_⟩
    · have := Int.le_of_dvd (by decide) z
      omega
    · refine k _ H'' S' ?_
      have ey : y = K1 (.r p hp) := hy.uniq numV1
      have em := mul_inv1 (κ := .r p hp) (e := e) ey
      rw [em]
      show V.int r = V.int ((Fin.val (e : Fin p) : Nat) : Int)
      have hv : ((Fin.val (e : Fin p) : Nat) : Int) = t % p := he.2
      rw [hv]
      congr 1
      rw [Int.mul_one] at rd
      have e3 : r % p = t % p := Int.emod_eq_emod_iff_emod_sub_eq_zero.mpr (Int.emod_eq_zero_of_dvd rd)
      rw [Int.emod_eq_of_lt r0 r1] at e3
      exact e3
theorem sc_by_steps : FnScope ["kind", "table", "part", "found", "swaps"] ["kind", "table"] (defScope s_by_steps) := ⟨rfl, rfl, rfl, by decide +kernel, rfl, by decide +kernel, by decide +kernel⟩
theorem ok_by_steps (h : Here K mg "by_steps" s_by_steps) (T : Nm mg) (mn : MethNum P w K mg base CF CR) (mnS : MethNumS P w K mg base CF CR) (mt : Meth2 P w K mg base CF CR "times" (fun _ x y => x * y)) (h_need_square : HasX P w K mg base "need_square" 7 ["table"] (sp_need_squareR cF)) (h_freed : Has P w K mg base "freed" 7 ["kind", "table"] (sp_freed CF CR)) (h_emptied : Has P w K mg base "emptied" 7 ["kind", "table"] (sp_emptied CF CR)) (h_sign_of : Has P w K mg base "sign_of" 7 ["count"] sp_sign_of) : HasX P w K mg base "by_steps" 8 ["kind", "table"] (sp_by_steps CF CR cF) := by
  refine h.hasX (fun f fd F => F.binds fun _ _ _ _ _ _ us hl => by obtain ⟨_, _, rfl⟩ := len2 hl; exact rfl) fun f fd F => F.okx sc_by_steps (fun vs H Q E h => ?_) (fun cdv A outer s H vs Q E hr h => ?_)
  · obtain ⟨_, _, _, _, _, _, rfl, _⟩ := h
    rfl
  obtain ⟨κ, sk, tb, rs, A, m, rfl, hk, ta, kF, kS⟩ := h
  have nd := sc_by_steps.nd
  refine ⟨_, (pss_cons (ps_expr (pe_hasX h_need_square passE hr (by rfl) (pa_cons (pv 1) pa_nil)))
    (pss_cons (ps_set (i := 2) nd rfl (Or.inl rfl) (pe_has h_freed hr (by rfl) (pa_cons (pv 0) (pa_cons (pv 1) pa_nil))))
    (pss_cons (ps_set (i := 3) nd rfl (Or.inl rfl) (pe_has h_emptied hr (by rfl) (pa_cons (pv 0) (pa_cons (pe_ix ix_tup (pv 2) pe_int (fun _ _ => rfl)) pa_nil))))
    (pss_cons (ps_if (pt_cmpR op_lt (pe_callB call_len_seq (by rfl) T.len boot_len (pa_cons (pe_ix ix_tup (pv 3) pe_int (fun _ _ => rfl)) pa_nil)) (pe_callB call_len_seq (by rfl) T.len boot_len (pa_cons (pv 1) pa_nil)) (nomark _)) (pss_one (ps_ret (pe_methX (pv 0) passE hr (pa_cons pe_int pa_nil)))) pss_nil)
    (pss_cons (ps_set (i := 4) nd rfl (Or.inl rfl) (pe_callB call_len_seq (by rfl) T.len boot_len (pa_cons (pe_compT ["turn"] [] rfl (pi_list (pe_ix ix_tup (pv 3) pe_int (fun _ _ => rfl))) (by exact fun _ _ _ _ => (pg_name (i := 0) (show (["turn"] : List Str).Nodup by decide +kernel) rfl (Or.inl rfl))) (by exact fun _ _ _ _ => (pt_cmpR op_eq (pe_ix (ix_tupK K rfl) (pv 0) pe_int (fun _ _ => rfl)) pe_str (nomark _))) (by exact fun _ _ _ _ => (pv 0)) trivial) pa_nil)))
    (pss_one (ps_ret (pe_methA (pv 0) hr (pa_cons (pe_ix ix_tup (pv 3) pe_int (fun _ _ => rfl)) (pa_cons (pe_methX (pv 0) passE hr (pa_cons (pe_has h_sign_of hr (by rfl) (pa_cons (pv 4) pa_nil)) (pa_cons (pe_ix ix_tup (pv 2) pe_int (fun _ _ => rfl)) pa_nil))) pa_nil)))))))))), ?_⟩
  refine ⟨_, rfl, κ, tb, rs, A, m, rfl, ta, (fun sq => ?_), kF⟩
  obtain ⟨m7, sz, k⟩ := kS sq
  have lr := ta.r.1
  have n1 := ta.n1
  refine ⟨_, rfl, _, rfl, κ, sk, tb, rs, A, m, rfl, hk, ta.l, ta.r, ta.w, by omega, m7, sz, fun H1 tp D ds F b y c S1 htp hD rF wF lF qF bt eF ey => ?_⟩
  have lFm : F.length = m := by omega
  have eid : F.map (List.take m) = F := by
    apply List.ext_getElem?
    intro i
    rw [List.getElem?_map]
    cases e : F[i]? with
    | none => rfl
    | some f => show some (f.take m) = some f; rw [List.take_of_length_le (by rw [wF f (List.mem_of_getElem? e)]; exact Nat.le_refl _)]
  have qt : QT κ m F := ⟨fun e => by have := (sz e).1; omega, ⟨1, 1, 1, by decide, Bits.of (by decide), by decide, fun f hf => ⟨fun x hx => qF f hf x (List.mem_of_mem_take hx), fun x hx => by rw [List.drop_of_length_le (by rw [wF f hf]; exact Nat.le_refl _)] at hx; cases hx⟩⟩⟩
  have whl : Whl κ m F := fun f hf Ai hA => whole_row (fun x hx => qF f hf x (List.mem_of_mem_take hx)) hA
  have dF : det m (ent F) = y * det m (ent A) := by
    rw [ey, sq]
    exact det_scales m (Nat.le_refl _) fun i j hi hj => by rw [if_pos hi]; exact eF i j (by omega) hj
  refine ⟨_, rfl, _, rfl, tp, _, 0, _, rfl, rfl, SqT.of htp, rfl, κ, sk, D, ds, F, m, m, rfl, hk.same S1, hD, (by rw [eid]; exact rF), wF, Nat.le_refl _, by omega, by omega, m7, by omega, qt, fun H2 t r u L Z v R' ts ls x S2 ht nr nu nL wk Lz Lr Lu hL nv ech stg lt fw => ?_⟩
  have S02 := S1.trans S2
  have okT : ∀ t ∈ ts, t.ok m := fun t ht => by rw [← lFm]; exact wk.ok t ht
  have eR := wk.run
  rw [eR, lFm] at ech
  refine ⟨_, rfl, t, _, 2, _, rfl, rfl, SqT.of ht, rfl, L, _, rfl, .inl (SqL.of hL), _, rfl, tb, _, rfl, .inl (SqL.of (S02 _ _ ta.l)), _, _, rfl, rfl, _, rfl, ?_⟩
  rw [List.length_map, List.length_map, lr, sq]
  refine if_dec (fun z => ?_) (fun z => ?_)
  · have z : (ls.length : Int) < (m : Int) := z
    have d0 := det_less lFm wF okT ech (by omega)
    have dA : det m (ent A) = 0 := by
      have mi := Fd.mul_inv y bt.ne
      rw [dF] at d0
      generalize Fd.inv y = q at *
      generalize det m (ent A) = d at *
      have : d = q * (y * d) := by grind
      rw [this, d0]; grind
    obtain ⟨C, dx, fs, ps, dvs, sp, c1, c2, c3, c4, rfl, c5⟩ := mn κ H2 sk (hk.same S02)
    refine ⟨_, rfl, sk, C, dx, fs, ps, _, sp, rfl, c1, c2, c3.mono (by decide), c4, c5 H2 0 0 _ _ (Same.refl _) numV0 fun v0 H3 S3 n0 => ?_⟩
    exact k H3 v0 (S02.trans S3) (by rw [dA]; exact n0)
  have z : ¬ (ls.length : Int) < (m : Int) := z
  have full : ls.length = m := by have := ech.le; omega
  have fw := fw whl
  rw [lFm] at fw
  have dd := det_full (by omega) lFm wF okT ech full fw
  obtain ⟨tvs, hU, aT⟩ := wk.turns
  have lt2 := aT.1
  refine ⟨_, rfl, t, _, 1, _, rfl, rfl, SqT.of ht, rfl, u, rfl, ⟨_, SqL.of hU⟩, ?_⟩
  refine compT_list (K := K) (a := u) (xs := tvs) (fun i ys H3 => H3 = H2 ∧ ys.length = swN (ts.take i)) (by omega) ⟨rfl, rfl⟩ (fun i ys H3 _ q => by rw [q.1]; exact SqL.of hU) ?_ ?_
  · rintro i tv ys H3 htv _ ⟨rfl, ly⟩
    obtain ⟨t', ht', tr⟩ := aT.get htv
    have e : swN (ts.take (i + 1)) = swN (ts.take i) + swT t' := by rw [List.take_succ, ht']; exact swN_snoc _ _
    cases t' with
    | swap i1 j1 =>
      obtain ⟨a1, rfl, h1⟩ := tr
      refine ⟨_, rfl, a1, _, 0, _, rfl, rfl, SqT.of h1, rfl, rfl, ?_⟩
      refine ⟨true, rfl, ?_⟩
      refine ⟨_, rfl, rfl, ?_⟩
      rw [List.length_append, ly, e]; rfl
    | scale i1 c1 =>
      obtain ⟨a1, u1, rfl, h1, _⟩ := tr
      refine ⟨_, rfl, a1, _, 0, _, rfl, rfl, SqT.of h1, rfl, rfl, ?_⟩
      exact ⟨false, rfl, rfl, by rw [ly, e]; rfl⟩
    | add i1 j1 c1 =>
      obtain ⟨a1, u1, rfl, h1, _⟩ := tr
      refine ⟨_, rfl, a1, _, 0, _, rfl, rfl, SqT.of h1, rfl, rfl, ?_⟩
      exact ⟨false, rfl, rfl, by rw [ly, e]; rfl⟩
  rintro ys H3 _ ⟨rfl, ly⟩ pl npl
  rw [List.take_of_length_le (by omega)] at ly
  have Sp := same_new npl (.lst ys)
  have qp := upd_same (H := H3) (a := pl) (o := .lst ys)
  generalize upd H3 pl (.lst ys) = H4 at *
  refine ⟨pl, _, rfl, .inl (SqL.of qp), ?_⟩
  rw [ly]
  have S04 := S02.trans Sp
  obtain ⟨Ct, dxt, fst, pst, dvt, spt, t1, t2, t3, t4, rfl, t5⟩ := mt κ H4 sk (hk.same S04)
  obtain ⟨Cn, dxn, fsn, psn, dvn, spn, e1, e2, e3, e4, rfl, e5⟩ := mnS κ H4 sk (hk.same S04)
  have bx : B1 κ x := by
    have b2 := (stg_b1 stg ech.x0 (fun e => by have := (sz e).1; omega)).2
    have h00 := all_ent wk.wd b2 (i := 0) (j := 0) (by rw [wk.len]; omega) (by omega)
    rw [eR, ech_diag ech full (by omega) (by omega), if_pos rfl] at h00
    exact h00.b1
  have lb : b.natAbs ≤ 10 ^ 1000 := Nat.le_trans (Nat.le_of_lt bt.l.lt) (by decide)
  refine ⟨_, rfl, sk, Ct, dxt, fst, pst, _, spt, rfl, t1, t2, t3.mono (by decide), t4, _, rfl, t, _, 3, _, rfl, rfl, SqT.of (Sp _ _ ht), rfl, _, rfl, sk, Cn, dxn, fsn, psn, _, spn, rfl, e1, e2, e3.mono (by decide), e4, _, rfl, swN ts, rfl, _, rfl, tp, _, 1, _, rfl, rfl, SqT.of (Sp _ _ (S2 _ _ htp)), rfl, e5 H4 _ b (sgn κ (swN ts)) y _ _ (Same.refl _) (by split <;> decide) (sgn_num _) bt.n bt.ne bt.p lb bt.r fun v4 H5 S5 n4 => ?_⟩
  refine t5 H5 v v4 x _ _ S5 ((nv.same Sp).same S5) n4 bx (sgn_inv_b1 bt) fun v6 H6 S6 n6 => ?_
  refine k H6 v6 (S04.trans (S5.trans S6)) ?_
  have e : det m (ent A) = x * (sgn κ (swN ts) * Fd.inv y) := by
    have mi := Fd.mul_inv y bt.ne
    rw [dF] at dd
    generalize Fd.inv y = q at *
    generalize det m (ent A) = d at *
    generalize sgn κ (swN ts) = s at *
    have : d = q * (y * d) := by grind
    rw [this, dd]; grind
  rw [e]
  exact n6
end

end My

namespace My
open PySem L2 PyProof.Rows

section
variable {P : Program} {w : World} {K : PySem.W.Frag} {mg : Str → Option Value} {base : Heap}
theorem sc_l_lowest : FnScope ["_law_top", "_law_bottom", "_law_by"] ["_law_top", "_law_bottom"] (defScope s_l_lowest) := ⟨rfl, rfl, rfl, by decide +kernel, rfl, by decide +kernel, by decide +kernel⟩
theorem ok_l_lowQ (h : Here K mg "_law_lowest" s_l_lowest) (h_l_divisor : Has P w K mg base "_law_divisor" 1 ["_law_one", "_law_other"] sp_divisor) : Has P w K mg base "_law_lowest" 2 ["_law_top", "_law_bottom"] sp_lowQ := by
  refine h.has (fun f fd F => F.binds fun _ _ _ _ _ _ us hl => by obtain ⟨_, _, rfl⟩ := len2 hl; exact rfl) fun f fd F => F.ok sc_l_lowest (fun vs H Q E h => ?_) (fun cdv A outer s H vs Q E hr h => ?_)
  · obtain ⟨_, _, rfl, _⟩ := h
    rfl
  obtain ⟨t, b, rfl, hb, fb, k⟩ := h
  have nd := sc_l_lowest.nd
  refine ⟨_, (pss_cons (ps_set (i := 2) nd rfl (Or.inl rfl) (pe_has h_l_divisor hr (by rfl) (pa_cons (pv 0) (pa_cons (pv 1) pa_nil))))
    (pss_one (ps_ret (pe_tup (pa_cons (pe_op op_fdivH (pv 0) (pv 2)) (pa_cons (pe_op op_fdivH (pv 1) (pv 2)) pa_nil)))))), ?_⟩
  refine ⟨_, rfl, _, rfl, t, b, rfl, ?_⟩
  have hg := M3.gcd_ne (a := t) (b := b) (by omega)
  have gl : Int.gcd t b ≤ b.natAbs := Nat.le_of_dvd (by omega) (Int.natAbs_dvd_natAbs.mpr (Int.gcd_dvd_right t b))
  have hg1 : (Int.gcd t b : Int) ≠ 0 ∧ Bits 8000 (Int.gcd t b : Int) := ⟨by omega, fb.le (by rw [Int.natAbs_natCast]; exact gl)⟩
  obtain ⟨e1, e2⟩ := lo_q (t := t) hb
  refine ⟨_, rfl, _, rfl, _, _, rfl, rfl, hg1, _, rfl, _, rfl, _, _, rfl, rfl, hg1, (by show 2 ≤ sizeLine; decide), fun r hr' => ?_⟩
  have := k r hr'
  rw [← e1, ← e2] at this
  exact this
end

section
variable {P : Program} {w : World} {K : PySem.W.Frag} {mg : Str → Option Value} {base : Heap}
theorem sc_l_plus : FnScope ["_law_prime_here", "_law_one", "_law_other"] ["_law_prime_here", "_law_one", "_law_other"] (defScope s_l_plus) := ⟨rfl, rfl, rfl, by decide +kernel, rfl, by decide +kernel, by decide +kernel⟩
theorem ok_l_plusX (h : Here K mg "_law_plus" s_l_plus) (h_l_lowest : Has P w K mg base "_law_lowest" 2 ["_law_top", "_law_bottom"] sp_lowQ) : Has P w K mg base "_law_plus" 3 ["_law_prime_here", "_law_one", "_law_other"] (sp_l_op2 fun _ x y => x + y) := by
  refine h.has (fun f fd F => F.binds fun _ _ _ _ _ _ us hl => by obtain ⟨_, _, _, rfl⟩ := len3 hl; exact rfl) fun f fd F => F.ok sc_l_plus (fun vs H Q E h => ?_) (fun cdv A outer s H vs Q E hr h => ?_)
  · obtain ⟨_, _, _, _, _, rfl, _⟩ := h
    rfl
  obtain ⟨κ, u, v, x, y, rfl, nx, ny, bx, by', k⟩ := h
  refine ⟨_, (pss_cons (ps_if (pt_cmpR op_gt (pv 0) pe_int (nomark _)) (pss_one (ps_ret (pe_op op_modN (pe_op op_add (pv 1) (pv 2)) (pv 0)))) pss_nil)
    (pss_one (ps_ret (pe_has h_l_lowest hr (by rfl) (pa_cons (pe_op op_add (pe_op op_mulO (pe_ix ix_tup (pv 1) pe_int (fun _ _ => rfl)) (pe_ix ix_tup (pv 2) pe_int (fun _ _ => rfl))) (pe_op op_mulO (pe_ix ix_tup (pv 2) pe_int (fun _ _ => rfl)) (pe_ix ix_tup (pv 1) pe_int (fun _ _ => rfl)))) (pa_cons (pe_op op_mulO (pe_ix ix_tup (pv 1) pe_int (fun _ _ => rfl)) (pe_ix ix_tup (pv 2) pe_int (fun _ _ => rfl))) pa_nil)))))), ?_⟩
  refine ⟨_, rfl, _, _, rfl, rfl, _, rfl, ?_⟩
  cases κ with
  | q =>
    obtain ⟨a, rfl, ha⟩ := nx
    obtain ⟨b, rfl, hb⟩ := ny
    refine ite_no (show ¬ (0 : Int) < 0 by decide) ?_
    have px := (rat_fc x).pos
    have py := (rat_fc y).pos
    refine ⟨_, rfl, a, _, 0, _, rfl, rfl, SqT.of ha, rfl, _, rfl, b, _, 1, _, rfl, rfl, SqT.of hb, rfl, _, _, rfl, rfl, bx.1.mulG by'.2, _, rfl, b, _, 0, _, rfl, rfl, SqT.of hb, rfl, _, rfl, a, _, 1, _, rfl, rfl, SqT.of ha, rfl, _, _, rfl, rfl, by'.1.mulG bx.2, _, _, rfl, rfl, _, rfl, a, _, 1, _, rfl, rfl, SqT.of ha, rfl, _, rfl, b, _, 1, _, rfl, rfl, SqT.of hb, rfl, _, _, rfl, rfl, (bx.2.up (by decide)).mulG by'.2, _, _, rfl, Int.mul_pos px py, (bx.2.times by'.2), fun r hr' => ?_⟩
    have e : x + y = Rat.divInt (x.num * y.den + y.num * x.den) ((x.den : Int) * y.den) := by
      rw [← Rat.divInt_add_divInt _ _ (by omega) (by omega), Rat.num_divInt_den, Rat.num_divInt_den]
    refine k _ _ (same_new hr' _) ⟨r, rfl, ?_⟩
    rw [upd_same]
    show _ = some (HO.tup [.int (x + y).num, .int ((x + y).den : Int)])
    rw [e]
  | r p hp =>
    have nx : u = .int x.val := nx
    have ny : v = .int y.val := ny
    subst nx ny
    refine ite_yes (show (0 : Int) < (KX.r p hp).P from r_pos) ⟨_, rfl, _, rfl, _, _, rfl, rfl, _, rfl, _, _, rfl, rfl, (show (p : Int) ≠ 0 by have := hp.two; omega), k H _ (Same.refl H) ?_⟩
    show V.int (((x.val : Int) + y.val).fmod p) = V.int ((Fin.val (x + y) : Nat) : Int)
    have e : Fin.val (x + y) = (x.val + y.val) % p := Fin.val_add x y
    rw [e, Int.natCast_emod, Int.natCast_add, Int.fmod_eq_emod_of_nonneg _ (by omega)]
end

section
variable {P : Program} {w : World} {K : PySem.W.Frag} {mg : Str → Option Value} {base : Heap}
theorem sc_l_times : FnScope ["_law_prime_here", "_law_one", "_law_other"] ["_law_prime_here", "_law_one", "_law_other"] (defScope s_l_times) := ⟨rfl, rfl, rfl, by decide +kernel, rfl, by decide +kernel, by decide +kernel⟩
theorem ok_l_timesX (h : Here K mg "_law_times" s_l_times) (h_l_lowest : Has P w K mg base "_law_lowest" 2 ["_law_top", "_law_bottom"] sp_lowQ) : Has P w K mg base "_law_times" 3 ["_law_prime_here", "_law_one", "_law_other"] (sp_l_op2 fun _ x y => x * y) := by
  refine h.has (fun f fd F => F.binds fun _ _ _ _ _ _ us hl => by obtain ⟨_, _, _, rfl⟩ := len3 hl; exact rfl) fun f fd F => F.ok sc_l_times (fun vs H Q E h => ?_) (fun cdv A outer s H vs Q E hr h => ?_)
  · obtain ⟨_, _, _, _, _, rfl, _⟩ := h
    rfl
  obtain ⟨κ, u, v, x, y, rfl, nx, ny, bx, by', k⟩ := h
  refine ⟨_, (pss_cons (ps_if (pt_cmpR op_gt (pv 0) pe_int (nomark _)) (pss_one (ps_ret (pe_op op_modN (pe_op op_mulO (pv 1) (pv 2)) (pv 0)))) pss_nil)
    (pss_one (ps_ret (pe_has h_l_lowest hr (by rfl) (pa_cons (pe_op op_mulO (pe_ix ix_tup (pv 1) pe_int (fun _ _ => rfl)) (pe_ix ix_tup (pv 2) pe_int (fun _ _ => rfl))) (pa_cons (pe_op op_mulO (pe_ix ix_tup (pv 1) pe_int (fun _ _ => rfl)) (pe_ix ix_tup (pv 2) pe_int (fun _ _ => rfl))) pa_nil)))))), ?_⟩
  refine ⟨_, rfl, _, _, rfl, rfl, _, rfl, ?_⟩
  cases κ with
  | q =>
    obtain ⟨a, rfl, ha⟩ := nx
    obtain ⟨b, rfl, hb⟩ := ny
    refine ite_no (show ¬ (0 : Int) < 0 by decide) ?_
    have px := (rat_fc x).pos
    have py := (rat_fc y).pos
    refine ⟨_, rfl, a, _, 0, _, rfl, rfl, SqT.of ha, rfl, _, rfl, b, _, 0, _, rfl, rfl, SqT.of hb, rfl, _, _, rfl, rfl, bx.1.mulT by'.1, _, rfl, a, _, 1, _, rfl, rfl, SqT.of ha, rfl, _, rfl, b, _, 1, _, rfl, rfl, SqT.of hb, rfl, _, _, rfl, rfl, (bx.2.up (by decide)).mulG by'.2, _, _, rfl, Int.mul_pos px py, (bx.2.times by'.2), fun r hr' => ?_⟩
    have e : x * y = Rat.divInt (x.num * y.num) ((x.den : Int) * y.den) := by
      rw [← Rat.divInt_mul_divInt, Rat.num_divInt_den, Rat.num_divInt_den]
    refine k _ _ (same_new hr' _) ⟨r, rfl, ?_⟩
    rw [upd_same]
    show _ = some (HO.tup [.int (x * y).num, .int ((x * y).den : Int)])
    rw [e]
  | r p hp =>
    have nx : u = .int x.val := nx
    have ny : v = .int y.val := ny
    subst nx ny
    refine ite_yes (show (0 : Int) < (KX.r p hp).P from r_pos) ⟨_, rfl, _, rfl, _, _, rfl, rfl, mul_fit (rest_small hp x) (rest_small hp y), _, rfl, _, _, rfl, rfl, (show (p : Int) ≠ 0 by have := hp.two; omega), k H _ (Same.refl H) ?_⟩
    show V.int (((x.val : Int) * y.val).fmod p) = V.int ((Fin.val (x * y) : Nat) : Int)
    have e : Fin.val (x * y) = (x.val * y.val) % p := Fin.val_mul x y
    rw [e, Int.natCast_emod, Int.natCast_mul, Int.fmod_eq_emod_of_nonneg _ (by omega)]
end

section
variable {P : Program} {w : World} {K : PySem.W.Frag} {mg : Str → Option Value} {base : Heap}
theorem sc_l_behind : FnScope ["_law_prime_here", "_law_table", "_law_turn_here", "_law_found", "_law_i"] ["_law_prime_here", "_law_table", "_law_turn_here"] (defScope s_l_behind) := ⟨rfl, rfl, rfl, by decide +kernel, rfl, by decide +kernel, by decide +kernel⟩
theorem ok_l_behindX (h : Here K mg "_law_behind" s_l_behind) (T : Nm mg) (Tz : mg "zip" = none) (h_l_times : Has P w K mg base "_law_times" 3 ["_law_prime_here", "_law_one", "_law_other"] (sp_l_op2 fun _ x y => x * y)) (h_l_plus : Has P w K mg base "_law_plus" 3 ["_law_prime_here", "_law_one", "_law_other"] (sp_l_op2 fun _ x y => x + y)) : Has P w K mg base "_law_behind" 4 ["_law_prime_here", "_law_table", "_law_turn_here"] sp_l_behindX := by
  refine h.has (fun f fd F => F.binds fun _ _ _ _ _ _ us hl => by obtain ⟨_, _, _, rfl⟩ := len3 hl; exact rfl) fun f fd F => F.ok sc_l_behind (fun vs H Q E h => ?_) (fun cdv A outer s H vs Q E hr h => ?_)
  · obtain ⟨_, _, _, _, _, _, rfl, _⟩ := h
    rfl
  obtain ⟨κ, t, rs, R, tv, tt, rfl, hT, rx, lR, l1000, ht, ok, pre, k⟩ := h
  have nd := sc_l_behind.nd
  refine ⟨_, (pss_cons (ps_set (i := 3) nd rfl (Or.inl rfl) (pe_callTy call_list_of (by rfl) T.list boot_list (pa_cons (pv 1) pa_nil)))
    (pss_cons (ps_set (i := 4) nd rfl (Or.inl rfl) (pe_ix ix_tup (pv 2) pe_int (fun _ _ => rfl)))
    (pss_cons (ps_if (pt_cmpR op_eq (pe_ix ix_tup (pv 2) pe_int (fun _ _ => rfl)) pe_str (nomark _)) (pss_cons (ps_asg (pe_ix ix_list (pv 1) (pe_ix ix_tup (pv 2) pe_int (fun _ _ => rfl)) (fun _ _ => rfl)) (pg_sub (pv 3) (pv 4) set_list))
      (pss_one (ps_asg (pe_ix ix_list (pv 1) (pv 4) (fun _ _ => rfl)) (pg_sub (pv 3) (pe_ix ix_tup (pv 2) pe_int (fun _ _ => rfl)) set_list)))) pss_nil)
    (pss_cons (ps_if (pt_cmpR op_eq (pe_ix ix_tup (pv 2) pe_int (fun _ _ => rfl)) pe_str (nomark _)) (pss_one (ps_asg (pe_comp ["_law_x"] [(0, "_law_prime_here"), (2, "_law_turn_here")] rfl (pi_list (pe_ix ix_list (pv 1) (pv 4) (fun _ _ => rfl))) (by exact fun _ _ _ _ => (pg_name (i := 0) (show (["_law_x", "_law_prime_here", "_law_turn_here"] : List Str).Nodup by decide +kernel) rfl (Or.inl rfl))) (by exact fun _ _ _ _ => (pe_has h_l_times hr (by rfl) (pa_cons (pv 1) (pa_cons (pe_ix (ix_tupK K rfl) (pv 2) pe_int (fun _ _ => rfl)) (pa_cons (pv 0) pa_nil))))) ⟨⟨rfl, rfl, Or.inl rfl⟩, ⟨⟨rfl, rfl, Or.inl rfl⟩, trivial⟩⟩) (pg_sub (pv 3) (pv 4) set_list))) pss_nil)
    (pss_cons (ps_if (pt_cmpR op_eq (pe_ix ix_tup (pv 2) pe_int (fun _ _ => rfl)) pe_str (nomark _)) (pss_one (ps_asg (pe_comp ["_law_x", "_law_y"] [(0, "_law_prime_here"), (2, "_law_turn_here")] rfl (pi_zip (by rfl) Tz (pa_cons (pe_ix ix_list (pv 1) (pv 4) (fun _ _ => rfl)) (pa_cons (pe_ix ix_list (pv 1) (pe_ix ix_tup (pv 2) pe_int (fun _ _ => rfl)) (fun _ _ => rfl)) pa_nil))) (by exact fun _ _ _ _ => (pg_tupK (n := 2) K rfl rfl (pgs_cons (pg_name (i := 0) (show (["_law_x", "_law_y", "_law_prime_here", "_law_turn_here"] : List Str).Nodup by decide +kernel) rfl (Or.inl rfl)) (pgs_cons (pg_name (i := 1) (show (["_law_x", "_law_y", "_law_prime_here", "_law_turn_here"] : List Str).Nodup by decide +kernel) rfl (Or.inl rfl)) pgs_nil)))) (by exact fun _ _ _ _ => (pe_has h_l_plus hr (by rfl) (pa_cons (pv 2) (pa_cons (pv 0) (pa_cons (pe_has h_l_times hr (by rfl) (pa_cons (pv 2) (pa_cons (pe_ix (ix_tupK K rfl) (pv 3) pe_int (fun _ _ => rfl)) (pa_cons (pv 1) pa_nil)))) pa_nil))))) ⟨⟨rfl, rfl, Or.inl rfl⟩, ⟨⟨rfl, rfl, Or.inl rfl⟩, trivial⟩⟩) (pg_sub (pv 3) (pv 4) set_list))) pss_nil)
    (pss_one (ps_ret (pv 3)))))))), ?_⟩
  have la := rx.1
  have lm : (rs.map V.ref).length = R.length := by rw [List.length_map]; exact la
  refine ⟨_, rfl, t, _, rfl, .inl (SqL.of hT), fun D nD => ?_⟩
  have SD := same_new nD (.lst (rs.map V.ref))
  have qD := upd_same (H := H) (a := D) (o := .lst (rs.map V.ref))
  have nDr := rx.notin nD
  generalize upd H D (.lst (rs.map V.ref)) = H0 at *
  have rx0 := rx.same SD
  have hT0 := SD _ _ hT
  have ht0 := ht.same SD
  have nDt : D ≠ t := fun z => by rw [z, hT] at nD; cases nD
  cases tt with
  | swap i j =>
    obtain ⟨a, rfl, ha⟩ := ht0
    obtain ⟨⟨i0, i1⟩, ⟨j0, j1⟩, ne⟩ := ok
    obtain ⟨b, xs, hb, hx, al⟩ := rx0.get (i := i.toNat) (by omega)
    obtain ⟨c, ys, hc, hy, bl⟩ := rx0.get (i := j.toNat) (by omega)
    have nDa : a ≠ D := fun z => by rw [z, qD] at ha; cases ha
    refine ⟨_, rfl, a, _, 1, _, rfl, rfl, SqT.of ha, rfl, ?_⟩
    refine ⟨_, rfl, a, _, 0, _, rfl, rfl, SqT.of ha, rfl, rfl, _, rfl, ite_yes rfl ?_⟩
    refine ⟨_, rfl, _, rfl, a, _, 2, _, rfl, rfl, SqT.of ha, rfl, t, _, _, _, rfl, rfl, SqL.of hT0, ref_atI j0 hc, ?_⟩
    refine ⟨_, rfl, _, rfl, D, _, _, _, rfl, rfl, qD, ixN_int i0 (by rw [lm]; exact i1), ?_⟩
    rw [map_set_ref]
    have ha1 : upd H0 D (.lst ((rs.set i.toNat c).map V.ref)) a = some (.tup [.str "swap", .int i, .int j]) := by rw [upd_ne nDa]; exact ha
    have hT1 : upd H0 D (.lst ((rs.set i.toNat c).map V.ref)) t = some (.lst (rs.map V.ref)) := by rw [upd_ne (Ne.symm nDt)]; exact hT0
    refine ⟨_, rfl, _, rfl, t, _, _, _, rfl, rfl, SqL.of hT1, ref_atI i0 hb, ?_⟩
    refine ⟨_, rfl, _, rfl, a, _, 2, _, rfl, rfl, SqT.of ha1, rfl, D, _, _, _, rfl, rfl, upd_same, ixN_int j0 (by rw [List.length_map, List.length_set, la]; exact j1), ?_⟩
    rw [map_set_ref]
    have O : Off [D] H0 (upd (upd H0 D (.lst ((rs.set i.toNat c).map V.ref))) D (.lst (((rs.set i.toNat c).set j.toNat b).map V.ref))) := fun x o n q => by
      have nx : x ≠ D := fun z => n (by rw [z]; exact List.mem_singleton.mpr rfl)
      rw [upd_ne nx, upd_ne nx]; exact q
    have S2 := Off.same O SD (fun r hr => by rw [List.mem_singleton.mp hr]; exact nD)
    have rx2 := rx0.off nDr qD O
    have ha2 := O _ _ (fun m => nDa (List.mem_singleton.mp m)) ha
    have qD2 := upd_same (H := upd H0 D (.lst ((rs.set i.toNat c).map V.ref))) (a := D) (o := .lst (((rs.set i.toNat c).set j.toNat b).map V.ref))
    generalize upd (upd H0 D (.lst ((rs.set i.toNat c).map V.ref))) D (.lst (((rs.set i.toNat c).set j.toNat b).map V.ref)) = H2 at *
    obtain ⟨xs', hx', al'⟩ := rx2.2 i.toNat b _ hb (List.getElem?_eq_getElem (by omega))
    obtain ⟨ys', hy', bl'⟩ := rx2.2 j.toNat c _ hc (List.getElem?_eq_getElem (by omega))
    refine ⟨_, rfl, a, _, 0, _, rfl, rfl, SqT.of ha2, rfl, rfl, _, rfl, ite_no s12 ?_⟩
    refine ⟨_, rfl, a, _, 0, _, rfl, rfl, SqT.of ha2, rfl, rfl, _, rfl, ite_no s13 ⟨_, rfl, k H2 D _ S2 qD2 ?_⟩⟩
    show RowsX κ _ _ ((R.set i.toNat (R.getD j.toNat [])).set j.toNat (R.getD i.toNat []))
    rw [getD_get (List.getElem?_eq_getElem (show j.toNat < R.length by omega)), getD_get (List.getElem?_eq_getElem (show i.toNat < R.length by omega))]
    exact (rx2.set _ hy' bl').set _ hx' al'
  | scale i c =>
    obtain ⟨a, u, rfl, ha, nu⟩ := ht0
    obtain ⟨⟨i0, i1⟩, _⟩ := ok
    obtain ⟨b, xs, hb, hx, al⟩ := rx0.get (i := i.toNat) (by omega)
    have eg := getD_get (List.getElem?_eq_getElem (show i.toNat < R.length by omega))
    obtain ⟨bc, bx⟩ := pre
    rw [eg] at bx
    refine ⟨_, rfl, a, _, 1, _, rfl, rfl, SqT.of ha, rfl, ?_⟩
    refine ⟨_, rfl, a, _, 0, _, rfl, rfl, SqT.of ha, rfl, rfl, _, rfl, ite_no s21 ?_⟩
    refine ⟨_, rfl, a, _, 0, _, rfl, rfl, SqT.of ha, rfl, rfl, _, rfl, ite_yes rfl ?_⟩
    refine ⟨_, rfl, _, rfl, t, _, _, _, rfl, rfl, SqL.of hT0, ref_atI i0 hb, b, rfl, ⟨_, SqL.of hx⟩, ?_⟩
    have l := al.1
    have lf := l1000 _ (List.getElem_mem (show i.toNat < R.length by omega))
    refine comp_list (K := K) (a := b) (xs := xs) (fun n ys H2 => Same H0 H2 ∧ AllG (NR κ H2) ys ((R[i.toNat].take n).map (c * ·))) (by omega) ⟨Same.refl _, .nil⟩ (fun n ys H2 _ q => SqL.of (q.1 _ _ hx)) ?_ ?_
    · rintro n x ys H2 hx' hl ⟨S, e⟩
      obtain ⟨y, hy, ny⟩ := al.get hx'
      refine ⟨_, rfl, _, rfl, a, _, 2, _, rfl, rfl, SqT.of (S _ _ ha), rfl, _, rfl, κ, _, _, c, y, rfl, nu.same S, ny.same S, bc, bx y (List.mem_of_getElem? hy), fun H3 v S3 nv => ⟨S.trans S3, ?_⟩⟩
      rw [List.take_succ, hy, List.map_append]
      exact (e.mono fun _ _ n => n.same S3).append (.one nv)
    · rintro ys H2 hl ⟨S, e⟩ E0' hE
      rw [l, List.take_length] at e
      have SE := same_new hE (.lst ys)
      have qE := upd_same (H := H2) (a := E0') (o := .lst ys)
      generalize upd H2 E0' (.lst ys) = H3 at *
      have S3 := S.trans SE
      refine ⟨_, rfl, _, rfl, D, _, _, _, rfl, rfl, S3 _ _ qD, ixN_int i0 (by rw [lm]; exact i1), ?_⟩
      rw [map_set_ref]
      have O : Off [D] H3 (upd H3 D (.lst ((rs.set i.toNat E0').map V.ref))) := off_upd' (Same.refl H3)
      have nED : E0' ≠ D := fun z => by rw [z, S _ _ qD] at hE; cases hE
      have nDa : a ≠ D := fun z => by rw [z, qD] at ha; cases ha
      have S4 := Off.same O (SD.trans S3) (fun r hr => by rw [List.mem_singleton.mp hr]; exact nD)
      have rx4 := (rx0.same S3).off nDr (S3 _ _ qD) O
      have ha4 := O _ _ (fun m => nDa (List.mem_singleton.mp m)) (S3 _ _ ha)
      have qE4 := O _ _ (fun m => nED (List.mem_singleton.mp m)) qE
      have e4 : AllG (NR κ (upd H3 D (.lst ((rs.set i.toNat E0').map V.ref)))) ys (R[i.toNat].map (c * ·)) := e.mono fun _ _ n => (n.same SE).off (S3 _ _ qD) O
      have qD4 := upd_same (H := H3) (a := D) (o := .lst ((rs.set i.toNat E0').map V.ref))
      generalize upd H3 D (.lst ((rs.set i.toNat E0').map V.ref)) = H4 at *
      refine ⟨_, rfl, a, _, 0, _, rfl, rfl, SqT.of ha4, rfl, rfl, _, rfl, ite_no s23 ⟨_, rfl, k H4 D _ S4 qD4 ?_⟩⟩
      show RowsX κ _ _ (R.set i.toNat ((R.getD i.toNat []).map (c * ·)))
      rw [eg]
      exact rx4.set _ qE4 e4
  | add i j c =>
    obtain ⟨a, u, rfl, ha, nu⟩ := ht0
    obtain ⟨⟨i0, i1⟩, ⟨j0, j1⟩, _⟩ := ok
    obtain ⟨b, xs, hb, hx, al⟩ := rx0.get (i := i.toNat) (by omega)
    obtain ⟨e, zs, he, hz, el⟩ := rx0.get (i := j.toNat) (by omega)
    have eg := getD_get (List.getElem?_eq_getElem (show i.toNat < R.length by omega))
    have eh := getD_get (List.getElem?_eq_getElem (show j.toNat < R.length by omega))
    obtain ⟨bc, bx, by'⟩ := pre
    rw [eg] at bx
    rw [eh] at by'
    refine ⟨_, rfl, a, _, 1, _, rfl, rfl, SqT.of ha, rfl, ?_⟩
    refine ⟨_, rfl, a, _, 0, _, rfl, rfl, SqT.of ha, rfl, rfl, _, rfl, ite_no s31 ?_⟩
    refine ⟨_, rfl, a, _, 0, _, rfl, rfl, SqT.of ha, rfl, rfl, _, rfl, ite_no s32 ?_⟩
    refine ⟨_, rfl, a, _, 0, _, rfl, rfl, SqT.of ha, rfl, rfl, _, rfl, ite_yes rfl ?_⟩
    refine ⟨_, rfl, _, rfl, t, _, _, _, rfl, rfl, SqL.of hT0, ref_atI i0 hb, _, rfl, _, rfl, a, _, 2, _, rfl, rfl, SqT.of ha, rfl, t, _, _, _, rfl, rfl, SqL.of hT0, ref_atI j0 he, b, e, rfl, ⟨_, SqL.of hx⟩, ⟨_, SqL.of hz⟩, ?_⟩
    have l1 := al.1
    have l2 := el.1
    have lf := l1000 _ (List.getElem_mem (show i.toNat < R.length by omega))
    refine comp_zip2 (K := K) (a := b) (b := e) (xs := xs) (ys := zs) (fun n ys H2 => Same H0 H2 ∧ AllG (NR κ H2) ys (List.zipWith (· + ·) (R[i.toNat].take n) ((R[j.toNat].map (c * ·)).take n))) (by omega) ⟨Same.refl _, .nil⟩ (fun n ys H2 q => ⟨SqL.of (q.1 _ _ hx), SqL.of (q.1 _ _ hz)⟩) ?_ ?_
    · rintro n x y T0 ws H2 hx' hy' hl nT ⟨S, al'⟩
      obtain ⟨p, q, hp, hq, np, nq⟩ := al.zip el hx' hy'
      have ST := same_new nT (.tup [x, y])
      generalize upd H2 T0 (.tup [x, y]) = H3 at *
      have S3 := S.trans ST
      obtain ⟨bq, bcq⟩ := by' q (List.mem_of_getElem? hq)
      refine ⟨_, rfl, _, rfl, _, rfl, _, rfl, a, _, 3, _, rfl, rfl, SqT.of (S3 _ _ ha), rfl, _, rfl, κ, _, _, c, q, rfl, nu.same S3, nq.same S3, bc, bq, fun H4 v S4 nv => ?_⟩
      refine ⟨κ, _, _, p, c * q, rfl, (np.same S3).same S4, nv, bx p (List.mem_of_getElem? hp), bcq, fun H5 v2 S5 nv2 => ⟨S3.trans (S4.trans S5), ?_⟩⟩
      have hq' : (R[j.toNat].map (c * ·))[n]? = some (c * q) := by rw [List.getElem?_map, hq]; rfl
      rw [List.take_succ, hp, List.take_succ, hq']
      have lp := (List.getElem?_eq_some_iff.mp hp).1
      have lq := (List.getElem?_eq_some_iff.mp hq').1
      rw [show (some p).toList = [p] from rfl, show (some (c * q)).toList = [c * q] from rfl, List.zipWith_append (by rw [List.length_take, List.length_take]; omega)]
      exact (al'.mono fun _ _ n => n.same (ST.trans (S4.trans S5))).append (.one nv2)
    · rintro ws H2 hl ⟨S, al'⟩ E0' hE
      have ez : List.zipWith (· + ·) (R[i.toNat].take (min xs.length zs.length)) ((R[j.toNat].map (c * ·)).take (min xs.length zs.length)) = List.zipWith (· + ·) R[i.toNat] (R[j.toNat].map (c * ·)) := by
        rw [← List.take_zipWith, List.take_of_length_le]
        rw [List.length_zipWith, List.length_map]
        omega
      rw [ez] at al'
      have SE := same_new hE (.lst ws)
      have qE := upd_same (H := H2) (a := E0') (o := .lst ws)
      generalize upd H2 E0' (.lst ws) = H3 at *
      have S3 := S.trans SE
      refine ⟨_, rfl, _, rfl, D, _, _, _, rfl, rfl, S3 _ _ qD, ixN_int i0 (by rw [lm]; exact i1), ?_⟩
      rw [map_set_ref]
      have O : Off [D] H3 (upd H3 D (.lst ((rs.set i.toNat E0').map V.ref))) := off_upd' (Same.refl H3)
      have nED : E0' ≠ D := fun z => by rw [z, S _ _ qD] at hE; cases hE
      have S4 := Off.same O (SD.trans S3) (fun r hr => by rw [List.mem_singleton.mp hr]; exact nD)
      have rx4 := (rx0.same S3).off nDr (S3 _ _ qD) O
      have qE4 := O _ _ (fun m => nED (List.mem_singleton.mp m)) qE
      have e4 : AllG (NR κ (upd H3 D (.lst ((rs.set i.toNat E0').map V.ref)))) ws (List.zipWith (· + ·) R[i.toNat] (R[j.toNat].map (c * ·))) := al'.mono fun _ _ n => (n.same SE).off (S3 _ _ qD) O
      have qD4 := upd_same (H := H3) (a := D) (o := .lst ((rs.set i.toNat E0').map V.ref))
      generalize upd H3 D (.lst ((rs.set i.toNat E0').map V.ref)) = H4 at *
      refine ⟨_, rfl, k H4 D _ S4 qD4 ?_⟩
      show RowsX κ _ _ (R.set i.toNat (List.zipWith (· + ·) (R.getD i.toNat []) ((R.getD j.toNat []).map (c * ·))))
      rw [eg, eh]
      exact rx4.set _ qE4 e4
end

section
variable {P : Program} {w : World} {K : PySem.W.Frag} {mg : Str → Option Value} {base : Heap}
theorem sc_l_made : FnScope ["_law_prime_here", "_law_number"] ["_law_prime_here", "_law_number"] (defScope s_l_made) := ⟨rfl, rfl, rfl, by decide +kernel, rfl, by decide +kernel, by decide +kernel⟩
theorem ok_l_made (h : Here K mg "_law_made" s_l_made) : Has P w K mg base "_law_made" 1 ["_law_prime_here", "_law_number"] sp_l_madeX := by
  refine h.has (fun f fd F => F.binds fun _ _ _ _ _ _ us hl => by obtain ⟨_, _, rfl⟩ := len2 hl; exact rfl) fun f fd F => F.ok sc_l_made (fun vs H Q E h => ?_) (fun cdv A outer s H vs Q E hr h => ?_)
  · obtain ⟨_, _, _, rfl, _⟩ := h
    rfl
  obtain ⟨κ, t, x, rfl, nx, k⟩ := h
  refine ⟨_, (pss_cons (ps_if (pt_cmpR op_gt (pv 0) pe_int (nomark _)) (pss_one (ps_ret (pe_op op_modN (pv 1) (pv 0)))) pss_nil)
    (pss_one (ps_ret (pe_tup (pa_cons (pv 1) (pa_cons pe_int pa_nil)))))), ?_⟩
  refine ⟨_, rfl, _, _, rfl, rfl, _, rfl, ?_⟩
  cases κ with
  | r p hp =>
    have h2 := hp.two
    refine ite_yes (show (0 : Int) < (KX.r p hp).P from r_pos) ⟨_, rfl, _, rfl, _, _, rfl, rfl, (show (p : Int) ≠ 0 by omega), k H _ (Same.refl H) ?_⟩
    show V.int (t.fmod p) = V.int x.val
    have e : (Fin.val x : Int) = t % p := nx.2
    rw [Int.fmod_eq_emod_of_nonneg _ (by omega), e]
  | q =>
    refine ite_no (show ¬ (0 : Int) < 0 by decide) ⟨_, rfl, (by show 2 ≤ sizeLine; decide), fun r nr => ?_⟩
    refine k _ _ (same_new nr _) ⟨r, rfl, ?_⟩
    have e1 : Rat.num x = t := nx.1
    have e2 : Rat.den x = 1 := nx.2
    rw [upd_same, e1, e2]; rfl
end

section
variable {P : Program} {w : World} {K : PySem.W.Frag} {mg : Str → Option Value} {base : Heap} {CF CR CE cK cN cF cT cI cX cM cR : Addr}
theorem sc_l_number_is : FnScope ["_law_prime_here", "_law_found", "_law_due_here"] ["_law_prime_here", "_law_found", "_law_due_here"] (defScope s_l_number_is) := ⟨rfl, rfl, rfl, by decide +kernel, rfl, by decide +kernel, by decide +kernel⟩
theorem ok_l_number_isX (h : Here K mg "_law_number_is" s_l_number_is) (T : Nm mg) (h_l_whole : Has P w K mg base "_law_whole" 1 ["_law_found"] sp_whole) : Has P w K mg base "_law_number_is" 2 ["_law_prime_here", "_law_found", "_law_due_here"] sp_l_number_isX := by
  refine h.has (fun f fd F => F.binds fun _ _ _ _ _ _ us hl => by obtain ⟨_, _, _, rfl⟩ := len3 hl; exact rfl) fun f fd F => F.ok sc_l_number_is (fun vs H Q E h => ?_) (fun cdv A outer s H vs Q E hr h => ?_)
  · obtain ⟨_, _, _, _, rfl, _⟩ := h
    rfl
  obtain ⟨κ, u, v, x, rfl, nu, nv, k⟩ := h
  refine ⟨_, (pss_cons (ps_if (pt_cmpR op_gt (pv 0) pe_int (nomark _)) (pss_one (ps_ret (pe_and (pe_has h_l_whole hr (by rfl) (pa_cons (pv 1) pa_nil)) (pe_one (pe_cmpR (op_eqT hr) (pv 1) (pv 2) (nomark _)))))) pss_nil)
    (pss_cons (ps_if (pw_or (pt_not (pt_val (pe_callB call_isinstX (by rfl) T.isinstance boot_isinstance (pa_cons (pv 1) (pa_cons (pe_ty (by rfl) T.tuple boot_tuple) pa_nil))))) (pw_or1 (pt_cmpR op_ne (pe_callB call_len_seq (by rfl) T.len boot_len (pa_cons (pv 1) pa_nil)) pe_int (nomark _)))).pt (pss_one (ps_ret pe_bl)) pss_nil)
    (pss_one (ps_ret (pe_and (pe_has h_l_whole hr (by rfl) (pa_cons (pe_ix ix_tup (pv 1) pe_int (fun _ _ => rfl)) pa_nil)) (pe_and (pe_has h_l_whole hr (by rfl) (pa_cons (pe_ix ix_tup (pv 1) pe_int (fun _ _ => rfl)) pa_nil)) (pe_one (pe_cmpR (op_eqT hr) (pv 1) (pv 2) (nomark _))))))))), ?_⟩
  have r1 := nu.rp.mono (show 1 ≤ 8 by decide)
  have r2 := nv.rp.mono (show 1 ≤ 8 by decide)
  refine ⟨_, rfl, _, _, rfl, rfl, _, rfl, ?_⟩
  cases κ with
  | r p hp =>
    have nu : u = .int x.val := nu
    subst nu
    exact ite_yes (show (0 : Int) < (KX.r p hp).P from r_pos) ⟨_, rfl, _, rfl, _, rfl, iteT ⟨_, rfl, _, rfl, _, r1, r2, k⟩⟩
  | q =>
    obtain ⟨a, rfl, ha⟩ := nu
    refine ite_no (show ¬ (0 : Int) < 0 by decide) ?_
    refine ⟨_, rfl, _, _, _, _, rfl, .of (.tup ha), .ty (kit_same K _), _, rfl, iteF ?_⟩
    refine ⟨_, rfl, a, _, rfl, .inr (SqT.of ha), rfl, _, rfl, if_neI (fun z => absurd rfl z) (fun _ => ?_)⟩
    refine ⟨_, rfl, a, _, 0, _, rfl, rfl, SqT.of ha, rfl, _, rfl, _, rfl, iteT ⟨_, rfl, a, _, 1, _, rfl, rfl, SqT.of ha, rfl, _, rfl, _, rfl, iteT ⟨_, rfl, _, rfl, _, r1, r2, k⟩⟩⟩
end

def sp_l_primeK : Sp := fun vs H Q _ => ∃ c : Int, vs = [.int c] ∧ ∀ (H' : Hp) (p : Int), Same H H' → PK p → Q (.int p) H'
section
variable {P : Program} {w : World} {K : PySem.W.Frag} {mg : Str → Option Value} {base : Heap}
theorem sc_l_prime : FnScope ["_law_cell", "_law_number"] ["_law_cell"] (defScope s_l_prime) := ⟨rfl, rfl, rfl, by decide +kernel, rfl, by decide +kernel, by decide +kernel⟩
theorem ok_l_primeK (h : Here K mg "_law_prime" s_l_prime) (h_l_is_prime : Has P w K mg base "_law_is_prime" 1 ["_law_number"] sp_prime) : Has P w K mg base "_law_prime" 2 ["_law_cell"] sp_l_primeK := by
  refine h.has (fun f fd F => F.binds fun _ _ _ _ _ _ us hl => by obtain ⟨_, rfl⟩ := len1 hl; exact rfl) fun f fd F => F.ok sc_l_prime (fun vs H Q E h => ?_) (fun cdv A outer s H vs Q E hr h => ?_)
  · obtain ⟨_, rfl, _⟩ := h
    rfl
  obtain ⟨c, rfl, k⟩ := h
  have nd := sc_l_prime.nd
  refine ⟨_, (pss_cons (ps_if (pt_cmpR op_eq (pe_op op_mod (pv 0) pe_int) pe_int (nomark _)) (pss_one (ps_ret pe_int)) pss_nil)
    (pss_cons (ps_set (i := 1) nd rfl (Or.inl rfl) (pe_op op_add pe_int (pe_op op_modN (pe_op op_fdiv (pv 0) pe_int) (pe_ix ix_list (pe_lst (pa_cons pe_int (pa_cons pe_int (pa_cons pe_int pa_nil)))) (pe_op op_mod (pv 0) pe_int) (fun _ _ => rfl)))))
    (pss_cons (ps_while PassesOwn.never (pt_not (pt_val (pe_has h_l_is_prime hr (by rfl) (pa_cons (pv 1) pa_nil)))) (pss_one (ps_set (i := 1) nd rfl (Or.inl rfl) (pe_op op_add (pv 1) pe_int))))
    (pss_one (ps_ret (pv 1)))))), ?_⟩
  refine ⟨_, rfl, _, _, rfl, rfl, (by show (0 : Int) < _; decide), rfl, _, rfl, ?_⟩
  refine if_eqI (fun _ => k H 0 (Same.refl H) (.inl rfl)) (fun _ => ?_)
  obtain ⟨m, am, m1, m2⟩ := pickP c
  refine ⟨_, rfl, _, _, rfl, rfl, ⟨by decide, by decide⟩, (by show 3 ≤ sizeLine; decide), fun q hq => ?_⟩
  refine ⟨_, rfl, _, _, rfl, rfl, (by show (0 : Int) < _; decide), _, _, _, _, rfl, rfl, SqL.of upd_same, am, _, _, rfl, rfl, (show m ≠ 0 by omega), _, _, rfl, rfl, ?_⟩
  have S := same_new hq (.lst [.int 11, .int 11, .int 999982])
  generalize upd H q _ = H1 at *
  have fm : (c / 3).fmod m = c / 3 % m := Int.fmod_eq_emod_of_nonneg _ (by omega)
  have f1 := Int.emod_nonneg (c / 3) (show m ≠ 0 by omega)
  have f2 := Int.emod_lt_of_pos (c / 3) (show 0 < m by omega)
  refine ⟨fun mm σ H' => ∃ t : Int, mm = (999983 - t).toNat ∧ σ = [some (.int c), some (.int t)] ∧ H' = H1 ∧ 2 ≤ t ∧ t ≤ 999983, ⟨_, 2 + (c / 3).fmod m, rfl, rfl, rfl, by omega, by omega⟩, ?_⟩
  rintro mm σ H' ⟨t, rfl, rfl, rfl, h2, ht⟩
  refine ⟨_, rfl, t, rfl, by omega, fun hp => ⟨_, rfl, ?_⟩, fun hp => ⟨_, rfl, ?_⟩⟩
  · refine iteF ?_
    exact ⟨_, rfl, k _ t S (.inr ⟨hp, by omega⟩)⟩
  · refine iteT ?_
    refine ⟨_, fun _ _ h => h, ?_⟩
    have hne : t ≠ 999983 := fun z => hp (by rw [z]; exact M2.prm_big)
    refine ⟨_, rfl, _, _, rfl, rfl, ?_⟩
    exact ⟨_, by omega, t + 1, rfl, rfl, rfl, by omega, by omega⟩
end

def sp_l_kind (CF CR : Addr) : Sp := fun vs H Q _ => ∃ p : Int, vs = [.int p] ∧ PK p ∧ ∀ (H' : Hp) (k : Addr), Same H H' → KdA CF CR p H' k → Q (.ref k) H'
section
variable {P : Program} {w : World} {K : PySem.W.Frag} {mg : Str → Option Value} {base : Heap} {CF CR cN : Addr}
theorem sc_l_kind : FnScope ["_law_prime_here"] ["_law_prime_here"] (defScope s_l_kind) := ⟨rfl, rfl, rfl, by decide +kernel, rfl, by decide +kernel, by decide +kernel⟩
theorem ok_l_kind (h : Here K mg "_law_kind" s_l_kind) (kd : Kd K mg CF CR) (hI : HasI P w K mg base CR 2 ["self", "prime"] (sp_Rinit CR)) : Has P w K mg base "_law_kind" 4 ["_law_prime_here"] (sp_l_kind CF CR) := by
  refine h.has (fun f fd F => F.binds fun _ _ _ _ _ _ us hl => by obtain ⟨_, rfl⟩ := len1 hl; exact rfl) fun f fd F => F.ok sc_l_kind (fun vs H Q E h => ?_) (fun cdv A outer s H vs Q E hr h => ?_)
  · obtain ⟨_, rfl, _⟩ := h
    rfl
  obtain ⟨p, rfl, hp, k⟩ := h
  refine ⟨_, (pss_cons (ps_if (pt_cmpR op_eq (pv 0) pe_int (nomark _)) (pss_one (ps_ret (pe_make00 kd.mkF (by rfl) kd.mgF))) pss_nil)
    (pss_one (ps_ret (pe_makeI hI hr (by rfl) kd.mgR (pa_cons (pv 0) pa_nil))))), ?_⟩
  refine ⟨_, rfl, rfl, _, rfl, ?_⟩
  refine if_eqI (fun z => ?_) (fun z => ?_)
  · intro f0 df0 nf0 ndf0 nef0
    refine k _ f0 (fun b o e => ?_) (.inl ⟨z, df0, upd_same⟩)
    rw [upd_ne (ne_of_none e nf0), upd_ne (ne_of_none e ndf0)]; exact e
  · rcases hp with rfl | ⟨pr1, lp1⟩
    · exact absurd rfl z
    refine ⟨_, rfl, fun x1 dx1 nx1 ndx1 nex1 => ⟨x1, dx1, p, rfl, upd_same, pr1, lp1, rfl, ?_⟩⟩
    refine k _ x1 (fun b o e => ?_) (.inr ⟨pr1, lp1, dx1, upd_same⟩)
    rw [upd_ne (ne_of_none e nx1), upd_ne (ne_of_none e nx1), upd_ne (ne_of_none e ndx1)]; exact e
end

end My

namespace My
open PySem L2 PyProof.Rows

section
variable {P : Program} {w : World} {K : PySem.W.Frag} {mg : Str → Option Value} {base : Heap}
theorem sc_l_drawn : FnScope ["_law_prime_here", "_law_cell", "_law_top"] ["_law_prime_here", "_law_cell"] (defScope s_l_drawn) := ⟨rfl, rfl, rfl, by decide +kernel, rfl, by decide +kernel, by decide +kernel⟩
theorem ok_l_drawn27 (h : Here K mg "_law_drawn" s_l_drawn) (h_l_lowest : Has P w K mg base "_law_lowest" 2 ["_law_top", "_law_bottom"] sp_lowQ) : Has P w K mg base "_law_drawn" 3 ["_law_prime_here", "_law_cell"] sp_l_drawn27 := by
  refine h.has (fun f fd F => F.binds fun _ _ _ _ _ _ us hl => by obtain ⟨_, _, rfl⟩ := len2 hl; exact rfl) fun f fd F => F.ok sc_l_drawn (fun vs H Q E h => ?_) (fun cdv A outer s H vs Q E hr h => ?_)
  · obtain ⟨_, _, rfl, _⟩ := h
    rfl
  obtain ⟨κ, c, rfl, hb, k⟩ := h
  have nd := sc_l_drawn.nd
  refine ⟨_, (pss_cons (ps_if (pt_cmpR op_gt (pv 0) pe_int (nomark _)) (pss_one (ps_ret (pe_op op_modN (pv 1) (pv 0)))) pss_nil)
    (pss_cons (ps_set (i := 2) nd rfl (Or.inl rfl) (pe_op op_sub (pe_op op_mod (pe_op op_fdiv (pv 1) pe_int) pe_int) pe_int))
    (pss_cons (ps_if (pt_cmpR op_eq (pe_op op_mod (pv 1) pe_int) pe_int (nomark _)) (pss_one (ps_set (i := 2) nd rfl (Or.inl rfl) (pe_op op_sub (pe_op op_mod (pe_op op_sub (pe_op op_add (pe_op op_fdiv (pv 1) pe_int) (pe_op op_pow pe_int pe_int)) pe_int) (pe_op op_sub (pe_op op_mul pe_int (pe_op op_pow pe_int pe_int)) pe_int)) (pe_op op_sub (pe_op op_pow pe_int pe_int) pe_int)))) pss_nil)
    (pss_one (ps_ret (pe_has h_l_lowest hr (by rfl) (pa_cons (pv 2) (pa_cons (pe_op op_add pe_int (pe_op op_mod (pe_op op_mul (pe_op op_mulO (pv 1) (pv 1)) pe_int) pe_int)) pa_nil)))))))), ?_⟩
  refine ⟨_, rfl, _, _, rfl, rfl, _, rfl, ?_⟩
  cases κ with
  | r p hp =>
    obtain ⟨x, hx⟩ := r_emod hp c
    refine ite_yes (show (0 : Int) < (KX.r p hp).P from r_pos) ⟨_, rfl, _, rfl, _, _, rfl, rfl, (show (p : Int) ≠ 0 by have := hp.two; omega), k H _ x (Same.refl H) ?_ trivial⟩
    show V.int (c.fmod p) = V.int x.val
    rw [hx]
  | q =>
    refine ite_no (show ¬ (0 : Int) < 0 by decide) ?_
    refine ⟨_, rfl, _, _, rfl, rfl, ⟨by decide, by decide⟩, _, _, rfl, rfl, (by show (0 : Int) < _; decide), _, _, rfl, rfl, ?_⟩
    have b1 : 1 ≤ 1 + c * c * 48271 % 6 ∧ 1 + c * c * 48271 % 6 ≤ 6 := by
      generalize c * c * 48271 = e
      omega
    have kk : ∀ (t : Int) (r : Addr), t.natAbs ≤ 10 ^ 20 → H r = none → Q (.ref r) (upd H r (.tup [.int (Rat.divInt t (1 + c * c * 48271 % 6)).num, .int ((Rat.divInt t (1 + c * c * 48271 % 6)).den : Int)])) := fun t r ht n =>
      k _ _ (Rat.divInt t (1 + c * c * 48271 % 6)) (same_new n _) ⟨r, rfl, upd_same⟩ (qm60 b1.1 b1.2 ht)
    have fit : Bits 8000 (1 + c * c * 48271 % 6) := Bits.of (Nat.lt_of_lt_of_le (show _ < 2 ^ 3 by show _ < 8; omega) (Nat.pow_le_pow_right (by decide) (by decide)))
    refine ⟨_, rfl, _, _, rfl, rfl, (by show (0 : Int) < _; decide), rfl, _, rfl, ?_⟩
    refine if_eqI (fun _ => ?_) (fun _ => ?_)
    · refine ⟨_, rfl, _, _, rfl, rfl, ⟨by decide, by decide⟩, _, _, rfl, rfl, ⟨by decide, by decide, by decide⟩, _, _, rfl, rfl, _, _, rfl, rfl, _, _, rfl, rfl, ⟨by decide, by decide, by decide⟩, _, _, rfl, rfl, .inl ⟨by decide, by decide⟩, _, _, rfl, rfl, _, _, rfl, rfl, (by show (0 : Int) < _; decide), _, _, rfl, rfl, ⟨by decide, by decide, by decide⟩, _, _, rfl, rfl, _, _, rfl, rfl, ?_⟩
      refine ⟨_, rfl, _, rfl, _, rfl, _, _, rfl, rfl, hb.mul hb, _, _, rfl, rfl, .inr ⟨by decide, by decide⟩, _, _, rfl, rfl, (by show (0 : Int) < _; decide), _, _, rfl, rfl, _, _, rfl, (by show 0 < 1 + c * c * 48271 % 6; omega), fit, fun r nr => kk _ r ?_ nr⟩
      show ((c / 5 + 10 ^ 20 - 1) % (2 * 10 ^ 20 - 1) - (10 ^ 20 - 1) : Int).natAbs ≤ 10 ^ 20
      omega
    · refine ⟨_, rfl, _, rfl, _, rfl, _, _, rfl, rfl, hb.mul hb, _, _, rfl, rfl, .inr ⟨by decide, by decide⟩, _, _, rfl, rfl, (by show (0 : Int) < _; decide), _, _, rfl, rfl, _, _, rfl, (by show 0 < 1 + c * c * 48271 % 6; omega), fit, fun r nr => kk _ r ?_ nr⟩
      show (c / 5 % 13 - 6 : Int).natAbs ≤ 10 ^ 20
      omega
end

theorem some_q {H : Hp} {a : Addr} {n d : Int} (fc : Fc n d) (h : H a = some (.tup [.int n, .int d])) (d0 : d = 1 ∨ d = 2 ∨ d = 3) (hn : n.natAbs ≤ 3) (n0 : n ≠ 0) : ∃ x : KX.q.F, NR .q H (.ref a) x ∧ x ≠ 0 ∧ (∃ e : Int, (e = 1 ∨ e = 2 ∨ e = 3) ∧ QM .q e 3 x) := by
  obtain ⟨x, e1, e2⟩ := rat_mk fc
  refine ⟨x, ⟨a, rfl, by rw [e1, e2]; exact h⟩, fun z => n0 ?_, ⟨d, d0, n, ?_, hn⟩⟩
  · rw [← e1]
    have z : x = (0 : Rat) := z
    rw [z]; rfl
  · rw [← e1, ← e2]; exact (Rat.num_divInt_den x).symm
section
variable {P : Program} {w : World} {K : PySem.W.Frag} {mg : Str → Option Value} {base : Heap}
theorem sc_l_scale : FnScope ["_law_prime_here", "_law_cell", "_law_some"] ["_law_prime_here", "_law_cell"] (defScope s_l_scale) := ⟨rfl, rfl, rfl, by decide +kernel, rfl, by decide +kernel, by decide +kernel⟩
theorem ok_l_scale27 (h : Here K mg "_law_scale" s_l_scale) : Has P w K mg base "_law_scale" 1 ["_law_prime_here", "_law_cell"] sp_l_scale27 := by
  refine h.has (fun f fd F => F.binds fun _ _ _ _ _ _ us hl => by obtain ⟨_, _, rfl⟩ := len2 hl; exact rfl) fun f fd F => F.ok sc_l_scale (fun vs H Q E h => ?_) (fun cdv A outer s H vs Q E hr h => ?_)
  · obtain ⟨_, _, rfl, _⟩ := h
    rfl
  obtain ⟨κ, c, rfl, k⟩ := h
  have nd := sc_l_scale.nd
  refine ⟨_, (pss_cons (ps_if (pt_cmpR op_gt (pv 0) pe_int (nomark _)) (pss_one (ps_ret (pe_op op_add pe_int (pe_op op_modN (pe_op op_mul (pv 1) pe_int) (pe_op op_sub (pv 0) pe_int))))) pss_nil)
    (pss_cons (ps_set (i := 2) nd rfl (Or.inl rfl) (pe_lst (pa_cons (pe_tup (pa_cons (pe_un un_neg pe_int) (pa_cons pe_int pa_nil))) (pa_cons (pe_tup (pa_cons pe_int (pa_cons pe_int pa_nil))) (pa_cons (pe_tup (pa_cons pe_int (pa_cons pe_int pa_nil))) (pa_cons (pe_tup (pa_cons (pe_un un_neg pe_int) (pa_cons pe_int pa_nil))) (pa_cons (pe_tup (pa_cons (pe_un un_neg pe_int) (pa_cons pe_int pa_nil))) (pa_cons (pe_tup (pa_cons pe_int (pa_cons pe_int pa_nil))) (pa_cons (pe_tup (pa_cons pe_int (pa_cons pe_int pa_nil))) (pa_cons (pe_tup (pa_cons (pe_un un_neg pe_int) (pa_cons pe_int pa_nil))) pa_nil))))))))))
    (pss_one (ps_ret (pe_ix ix_list (pv 2) (pe_op op_mod (pe_op op_mod (pe_op op_mul (pv 1) pe_int) pe_int) pe_int) (fun _ _ => rfl)))))), ?_⟩
  refine ⟨_, rfl, _, _, rfl, rfl, _, rfl, ?_⟩
  cases κ with
  | r p hp =>
    have h2 := hp.two
    refine ite_yes (show (0 : Int) < (KX.r p hp).P from r_pos) ⟨_, rfl, _, _, rfl, rfl, .inr ⟨by decide, by decide⟩, _, rfl, _, _, rfl, rfl, _, _, rfl, rfl, (show (p : Int) - 1 ≠ 0 by omega), _, _, rfl, rfl, ?_⟩
    obtain ⟨i, ei, li⟩ := fmodN (a := c * 30307) (n := p - 1) (by omega)
    have en : ((p - 1 : Nat) : Int) = (p : Int) - 1 := by omega
    rw [en] at ei
    refine k H _ (⟨i + 1, by omega⟩ : Fin p) (Same.refl H) ?_ (fun z => ?_) ⟨1, .inl rfl, trivial⟩
    · show V.int (1 + (c * 30307).fmod ((p : Int) - 1)) = V.int (((i + 1 : Nat) : Nat) : Int)
      rw [ei]
      exact congrArg V.int (by omega)
    · have : (⟨i + 1, by omega⟩ : Fin p) = K0 (.r p hp) := z
      have := congrArg Fin.val this
      rw [zero_val] at this
      exact absurd this (Nat.succ_ne_zero i)
  | q =>
    refine ite_no (show ¬ (0 : Int) < 0 by decide) ?_
    refine ⟨_, rfl, (by show 2 ≤ sizeLine; decide), fun a1 f1 => ?_⟩
    have S1 := same_new f1 (.tup [.int (-1), .int 1])
    have q1 := upd_same (H := H) (a := a1) (o := .tup [.int (-1), .int 1])
    generalize upd H a1 (.tup [.int (-1), .int 1]) = G1 at *
    refine ⟨(by show 2 ≤ sizeLine; decide), fun a2 f2 => ?_⟩
    have S2 := same_new f2 (.tup [.int 2, .int 1])
    have q2 := upd_same (H := G1) (a := a2) (o := .tup [.int 2, .int 1])
    generalize upd G1 a2 (.tup [.int 2, .int 1]) = G2 at *
    refine ⟨(by show 2 ≤ sizeLine; decide), fun a3 f3 => ?_⟩
    have S3 := same_new f3 (.tup [.int 1, .int 2])
    have q3 := upd_same (H := G2) (a := a3) (o := .tup [.int 1, .int 2])
    generalize upd G2 a3 (.tup [.int 1, .int 2]) = G3 at *
    refine ⟨_, rfl, (by show 2 ≤ sizeLine; decide), fun a4 f4 => ?_⟩
    have S4 := same_new f4 (.tup [.int (-2), .int 1])
    have q4 := upd_same (H := G3) (a := a4) (o := .tup [.int (-2), .int 1])
    generalize upd G3 a4 (.tup [.int (-2), .int 1]) = G4 at *
    refine ⟨_, rfl, (by show 2 ≤ sizeLine; decide), fun a5 f5 => ?_⟩
    have S5 := same_new f5 (.tup [.int (-1), .int 2])
    have q5 := upd_same (H := G4) (a := a5) (o := .tup [.int (-1), .int 2])
    generalize upd G4 a5 (.tup [.int (-1), .int 2]) = G5 at *
    refine ⟨(by show 2 ≤ sizeLine; decide), fun a6 f6 => ?_⟩
    have S6 := same_new f6 (.tup [.int 3, .int 1])
    have q6 := upd_same (H := G5) (a := a6) (o := .tup [.int 3, .int 1])
    generalize upd G5 a6 (.tup [.int 3, .int 1]) = G6 at *
    refine ⟨(by show 2 ≤ sizeLine; decide), fun a7 f7 => ?_⟩
    have S7 := same_new f7 (.tup [.int 1, .int 3])
    have q7 := upd_same (H := G6) (a := a7) (o := .tup [.int 1, .int 3])
    generalize upd G6 a7 (.tup [.int 1, .int 3]) = G7 at *
    refine ⟨_, rfl, (by show 2 ≤ sizeLine; decide), fun a8 f8 => ?_⟩
    have S8 := same_new f8 (.tup [.int (-3), .int 1])
    have q8 := upd_same (H := G7) (a := a8) (o := .tup [.int (-3), .int 1])
    generalize upd G7 a8 (.tup [.int (-3), .int 1]) = G8 at *
    refine ⟨(by show 8 ≤ sizeLine; decide), fun l nl => ?_⟩
    have Sl := same_new nl (.lst [.ref a1, .ref a2, .ref a3, .ref a4, .ref a5, .ref a6, .ref a7, .ref a8])
    have ql := upd_same (H := G8) (a := l) (o := .lst [.ref a1, .ref a2, .ref a3, .ref a4, .ref a5, .ref a6, .ref a7, .ref a8])
    generalize upd G8 l (.lst [.ref a1, .ref a2, .ref a3, .ref a4, .ref a5, .ref a6, .ref a7, .ref a8]) = G9 at *
    have T8 := Sl
    have T7 := S8.trans T8
    have T6 := S7.trans T7
    have T5 := S6.trans T6
    have T4 := S5.trans T5
    have T3 := S4.trans T4
    have T2 := S3.trans T3
    have T1 := S2.trans T2
    have T0 := S1.trans T1
    have key : ∃ (v : V) (x : KX.q.F), atI [V.ref a1, .ref a2, .ref a3, .ref a4, .ref a5, .ref a6, .ref a7, .ref a8] (c * 30307 % 65579 % 8) = some v ∧ NR .q G9 v x ∧ x ≠ 0 ∧ (∃ e : Int, (e = 1 ∨ e = 2 ∨ e = 3) ∧ QM .q e 3 x) := by
      rcases (by omega : c * 30307 % 65579 % 8 = 0 ∨ c * 30307 % 65579 % 8 = 1 ∨ c * 30307 % 65579 % 8 = 2 ∨ c * 30307 % 65579 % 8 = 3 ∨ c * 30307 % 65579 % 8 = 4 ∨ c * 30307 % 65579 % 8 = 5 ∨ c * 30307 % 65579 % 8 = 6 ∨ c * 30307 % 65579 % 8 = 7) with e | e | e | e | e | e | e | e <;> rw [e]
      · obtain ⟨x, r⟩ := some_q (H := G9) ⟨by decide, by decide⟩ (T1 _ _ q1) (by decide) (by decide) (by decide); exact ⟨_, x, rfl, r⟩
      · obtain ⟨x, r⟩ := some_q (H := G9) ⟨by decide, by decide⟩ (T2 _ _ q2) (by decide) (by decide) (by decide); exact ⟨_, x, rfl, r⟩
      · obtain ⟨x, r⟩ := some_q (H := G9) ⟨by decide, by decide⟩ (T3 _ _ q3) (by decide) (by decide) (by decide); exact ⟨_, x, rfl, r⟩
      · obtain ⟨x, r⟩ := some_q (H := G9) ⟨by decide, by decide⟩ (T4 _ _ q4) (by decide) (by decide) (by decide); exact ⟨_, x, rfl, r⟩
      · obtain ⟨x, r⟩ := some_q (H := G9) ⟨by decide, by decide⟩ (T5 _ _ q5) (by decide) (by decide) (by decide); exact ⟨_, x, rfl, r⟩
      · obtain ⟨x, r⟩ := some_q (H := G9) ⟨by decide, by decide⟩ (T6 _ _ q6) (by decide) (by decide) (by decide); exact ⟨_, x, rfl, r⟩
      · obtain ⟨x, r⟩ := some_q (H := G9) ⟨by decide, by decide⟩ (T7 _ _ q7) (by decide) (by decide) (by decide); exact ⟨_, x, rfl, r⟩
      · obtain ⟨x, r⟩ := some_q (H := G9) ⟨by decide, by decide⟩ (T8 _ _ q8) (by decide) (by decide) (by decide); exact ⟨_, x, rfl, r⟩
    obtain ⟨v, x, ev, nx, x0, qx⟩ := key
    refine ⟨_, rfl, _, rfl, _, _, rfl, rfl, .inr ⟨by decide, by decide⟩, _, _, rfl, rfl, (by show (0 : Int) < _; decide), _, _, rfl, rfl, (by show (0 : Int) < _; decide), l, _, _, _, rfl, rfl, SqL.of ql, ev, ?_⟩
    exact k G9 v x T0 nx x0 qx
theorem sc_l_turn : FnScope ["_law_prime_here", "_law_cell", "_law_rows", "_law_i", "_law_way", "_law_j"] ["_law_prime_here", "_law_cell", "_law_rows"] (defScope s_l_turn) := ⟨rfl, rfl, rfl, by decide +kernel, rfl, by decide +kernel, by decide +kernel⟩
theorem ok_l_turn27 (h : Here K mg "_law_turn" s_l_turn) (h_l_scale : Has P w K mg base "_law_scale" 1 ["_law_prime_here", "_law_cell"] sp_l_scale27) : Has P w K mg base "_law_turn" 2 ["_law_prime_here", "_law_cell", "_law_rows"] sp_l_turn27 := by
  refine h.has (fun f fd F => F.binds fun _ _ _ _ _ _ us hl => by obtain ⟨_, _, _, rfl⟩ := len3 hl; exact rfl) fun f fd F => F.ok sc_l_turn (fun vs H Q E h => ?_) (fun cdv A outer s H vs Q E hr h => ?_)
  · obtain ⟨_, _, _, rfl, _⟩ := h
    rfl
  obtain ⟨κ, c, n, rfl, n1, n7, k⟩ := h
  have nd := sc_l_turn.nd
  refine ⟨_, (pss_cons (ps_set (i := 3) nd rfl (Or.inl rfl) (pe_op op_modN (pe_op op_mod (pe_op op_mul (pv 1) pe_int) pe_int) (pv 2)))
    (pss_cons (ps_set (i := 4) nd rfl (Or.inl rfl) (pe_op op_mod (pe_op op_mod (pe_op op_mul (pv 1) pe_int) pe_int) pe_int))
    (pss_cons (ps_if (pw_or (pt_cmpR op_eq (pv 2) pe_int (nomark _)) (pw_or1 (pt_cmpR op_eq (pv 4) pe_int (nomark _)))).pt (pss_one (ps_ret (pe_tup (pa_cons pe_str (pa_cons (pv 3) (pa_cons (pe_has h_l_scale hr (by rfl) (pa_cons (pv 0) (pa_cons (pv 1) pa_nil))) pa_nil)))))) pss_nil)
    (pss_cons (ps_set (i := 5) nd rfl (Or.inl rfl) (pe_op op_modN (pe_op op_add (pe_op op_add (pv 3) pe_int) (pe_op op_modN (pe_op op_mod (pe_op op_mul (pv 1) pe_int) pe_int) (pe_op op_sub (pv 2) pe_int))) (pv 2)))
    (pss_cons (ps_if (pt_cmpR op_eq (pv 4) pe_int (nomark _)) (pss_one (ps_ret (pe_tup (pa_cons pe_str (pa_cons (pv 3) (pa_cons (pv 5) pa_nil)))))) pss_nil)
    (pss_cons (ps_if (pt_cmpR op_gt (pv 0) pe_int (nomark _)) (pss_one (ps_ret (pe_tup (pa_cons pe_str (pa_cons (pv 3) (pa_cons (pv 5) (pa_cons (pe_op op_modN (pe_op op_mul (pv 1) pe_int) (pv 0)) pa_nil))))))) pss_nil)
    (pss_one (ps_ret (pe_tup (pa_cons pe_str (pa_cons (pv 3) (pa_cons (pv 5) (pa_cons (pe_tup (pa_cons (pe_op op_sub (pe_op op_mod (pe_op op_mod (pe_op op_mul (pv 1) pe_int) pe_int) pe_int) pe_int) (pa_cons pe_int pa_nil))) pa_nil))))))))))))), ?_⟩
  refine ⟨_, rfl, _, _, rfl, rfl, .inr ⟨by decide, by decide⟩, _, _, rfl, rfl, (by show (0 : Int) < _; decide), _, rfl, _, _, rfl, rfl, (show (n : Int) ≠ 0 by omega), ?_⟩
  obtain ⟨i, ei, li⟩ := fmodN (a := c * 48271 % 65537) n1
  show gName 3 (V.int ((c * 48271 % 65537).fmod (n : Int))) _ H _
  rw [ei]
  refine ⟨_, rfl, _, _, rfl, rfl, .inr ⟨by decide, by decide⟩, _, _, rfl, rfl, (by show (0 : Int) < _; decide), _, _, rfl, rfl, (by show (0 : Int) < _; decide), ?_⟩
  by_cases h01 : n = 1 ∨ c * 40692 % 65543 % 4 = 0
  · by_cases h0 : n = 1
    case' pos => refine ⟨_, rfl, rfl, _, rfl, if_yes' (show (n : Int) = 1 by omega) ?_⟩
    case' neg => refine ⟨_, rfl, rfl, _, rfl, if_no' (show (n : Int) ≠ 1 by omega) ⟨_, rfl, rfl, _, rfl, if_yes' (show c * 40692 % 65543 % 4 = 0 by omega) ?_⟩⟩
    all_goals
      refine ⟨_, rfl, _, rfl, _, rfl, κ, c, rfl, fun H1 u x S1 nu x0 qx => ⟨(by show 3 ≤ sizeLine; decide), fun r nr => ?_⟩⟩
      exact k _ _ (.scale (i : Int) x) (S1.trans (same_new nr _)) ⟨r, u, rfl, upd_same, nu.same (same_new nr _)⟩ ⟨⟨by omega, by omega⟩, x0⟩ qx
  have hn1 : n ≠ 1 := fun z => h01 (.inl z)
  have hw : c * 40692 % 65543 % 4 ≠ 0 := fun z => h01 (.inr z)
  refine ⟨_, rfl, rfl, _, rfl, if_no' (show (n : Int) ≠ 1 by omega) ⟨_, rfl, rfl, _, rfl, if_no' hw ?_⟩⟩
  refine ⟨_, rfl, _, _, rfl, rfl, _, rfl, _, _, rfl, rfl, .inr ⟨by decide, by decide⟩, _, _, rfl, rfl, (by show (0 : Int) < _; decide), _, rfl, _, _, rfl, rfl, _, _, rfl, rfl, (show (n : Int) - 1 ≠ 0 by omega), _, _, rfl, rfl, _, rfl, _, _, rfl, rfl, (show (n : Int) ≠ 0 by omega), ?_⟩
  obtain ⟨g, eg, lg⟩ := fmodN (a := c * 69621 % 65539) (n := n - 1) (by omega)
  have en : ((n - 1 : Nat) : Int) = (n : Int) - 1 := by omega
  rw [en] at eg
  obtain ⟨j, ej, lj⟩ := fmodN (a := (i : Int) + 1 + g) n1
  show gName 5 (V.int (((i : Int) + 1 + (c * 69621 % 65539).fmod ((n : Int) - 1)).fmod (n : Int))) _ H _
  rw [eg, ej]
  have ij : (i : Int) ≠ (j : Int) := by
    rw [← ej, Int.fmod_eq_emod_of_nonneg _ (by omega)]
    intro z
    have q := Int.emod_add_mul_ediv ((i : Int) + 1 + g) n
    rw [← z] at q
    generalize ((i : Int) + 1 + g) / n = d at *
    have d0 : d = 0 ∨ 1 ≤ d ∨ d ≤ -1 := by omega
    rcases d0 with rfl | d0 | d0
    · omega
    · have : (n : Int) * 1 ≤ n * d := Int.mul_le_mul_of_nonneg_left d0 (by omega)
      omega
    · have : (n : Int) * d ≤ n * (-1) := Int.mul_le_mul_of_nonneg_left d0 (by omega)
      omega
  refine ⟨_, rfl, rfl, _, rfl, ?_⟩
  refine if_eqI (fun _ => ?_) (fun _ => ?_)
  · refine ⟨_, rfl, _, rfl, (by show 3 ≤ sizeLine; decide), fun r nr => ?_⟩
    exact k _ _ (.swap (i : Int) (j : Int)) (same_new nr _) ⟨r, rfl, upd_same⟩ ⟨⟨by omega, by omega⟩, ⟨by omega, by omega⟩, ij⟩ trivial
  refine ⟨_, rfl, _, _, rfl, rfl, _, rfl, ?_⟩
  cases κ with
  | r p hp =>
    obtain ⟨x, hx⟩ := r_emod hp (c * 30341)
    refine ite_yes (show (0 : Int) < (KX.r p hp).P from r_pos) ⟨_, rfl, _, rfl, _, rfl, _, _, rfl, rfl, .inr ⟨by decide, by decide⟩, _, rfl, _, _, rfl, rfl, (show (p : Int) ≠ 0 by have := hp.two; omega), (by show 4 ≤ sizeLine; decide), fun r nr => ?_⟩
    refine k _ _ (.add (i : Int) (j : Int) x) (same_new nr _) ⟨r, _, rfl, upd_same, ?_⟩ ⟨⟨by omega, by omega⟩, ⟨by omega, by omega⟩, ij⟩ trivial
    show V.int ((c * 30341).fmod p) = V.int x.val
    rw [hx]
  | q =>
    refine ite_no (show ¬ (0 : Int) < 0 by decide) ?_
    obtain ⟨x, e1, e2⟩ := rat_mk (n := c * 30341 % 65587 % 5 - 2) (d := 1) ⟨by decide, by rw [Int.gcd_one]⟩
    refine ⟨_, rfl, _, rfl, _, rfl, _, _, rfl, rfl, .inr ⟨by decide, by decide⟩, _, _, rfl, rfl, (by show (0 : Int) < _; decide), _, _, rfl, rfl, (by show (0 : Int) < _; decide), _, _, rfl, rfl, (by show 2 ≤ sizeLine; decide), fun z nz => ?_⟩
    have Sz1 := same_new nz (.tup [.int (c * 30341 % 65587 % 5 - 2), .int 1])
    have qz := upd_same (H := H) (a := z) (o := .tup [.int (c * 30341 % 65587 % 5 - 2), .int 1])
    generalize upd H z (.tup [.int (c * 30341 % 65587 % 5 - 2), .int 1]) = H2 at *
    refine ⟨(by show 4 ≤ sizeLine; decide), fun r nr => ?_⟩
    have Sr := same_new nr (.tup [.str "add", .int (i : Int), .int (j : Int), .ref z])
    refine k _ _ (.add (i : Int) (j : Int) x) (Sz1.trans Sr) ⟨r, .ref z, rfl, upd_same, z, rfl, ?_⟩ ⟨⟨by omega, by omega⟩, ⟨by omega, by omega⟩, ij⟩ ⟨c * 30341 % 65587 % 5 - 2, ?_, by omega⟩
    · rw [e1, e2]; exact Sr _ _ qz
    · rw [← e1, ← e2]; exact (Rat.num_divInt_den x).symm
end

end My

set_option maxHeartbeats 1000000
namespace My
open PySem L2 PyProof.Rows
def sp_l_begun : Sp := fun vs H Q _ => ∃ (κ : KX) (c : Addr) (cs : List Int) (n : Nat), vs = [.int κ.P, .ref c, .int (n : Int)] ∧ Ce H c cs ∧ 1 ≤ n ∧ n ≤ 7 ∧ ∀ (H' : Hp) (t : Addr) (rs : List Addr) (R : List (List κ.F)), Same H H' → H' t = some (.lst (rs.map V.ref)) → RowsX κ H' rs R → R.length = n → Wid n R → (∀ i j, j < i → i < n → ent R i j = 0) → AllR (QM κ 60 (10 ^ 20 * 60)) R → Q (.ref t) H'
def sp_l_due : Sp := fun vs H Q _ => ∃ (κ : KX) (u tv : V) (d : κ.F) (t : Tn κ), vs = [.int κ.P, u, tv] ∧ NR κ H u d ∧ TR κ H tv t ∧ T3 t ∧ B1 κ d ∧ ∀ H' v, Same H H' → NR κ H' v (facT t * d) → Q v H'
theorem b1_neg1 {κ : KX} : B1 κ ((0 : κ.F) - 1) := by
  have q : QS κ 1 1 ((0 : κ.F) - 1) := numV_qs numV_neg1 (Bits.of (by decide))
  exact q.b1 (by decide) (Bits.of (Nat.lt_of_lt_of_le (show 1 < 2 ^ 1 by decide) (Nat.pow_le_pow_right (by decide) (by decide)))) (by decide)
theorem t3_b1 {κ : KX} {i : Int} {c : κ.F} (h : T3 (.scale i c : Tn κ)) : B1 κ c := by
  obtain ⟨d, hd, q⟩ := h
  exact (q.qs (a := 2) (by decide)).b1 (by omega) (Bits.of (Nat.lt_of_lt_of_le (show d.natAbs < 2 ^ 2 by omega) (Nat.pow_le_pow_right (by decide) (by decide)))) (by decide)
end My

namespace My
open PySem L2 PyProof.Rows

section
variable {P : Program} {w : World} {K : PySem.W.Frag} {mg : Str → Option Value} {base : Heap}
theorem sc_l_due : FnScope ["_law_prime_here", "_law_due_here", "_law_turn_here"] ["_law_prime_here", "_law_due_here", "_law_turn_here"] (defScope s_l_due) := ⟨rfl, rfl, rfl, by decide +kernel, rfl, by decide +kernel, by decide +kernel⟩
theorem ok_l_due (h : Here K mg "_law_due" s_l_due) (h_l_times : Has P w K mg base "_law_times" 3 ["_law_prime_here", "_law_one", "_law_other"] (sp_l_op2 fun _ x y => x * y)) (h_l_made : Has P w K mg base "_law_made" 3 ["_law_prime_here", "_law_number"] sp_l_madeX) : Has P w K mg base "_law_due" 4 ["_law_prime_here", "_law_due_here", "_law_turn_here"] sp_l_due := by
  refine h.has (fun f fd F => F.binds fun _ _ _ _ _ _ us hl => by obtain ⟨_, _, _, rfl⟩ := len3 hl; exact rfl) fun f fd F => F.ok sc_l_due (fun vs H Q E h => ?_) (fun cdv A outer s H vs Q E hr h => ?_)
  · obtain ⟨_, _, _, _, _, rfl, _⟩ := h
    rfl
  obtain ⟨κ, u, tv, d, t, rfl, nu, tr, t3, bd, k⟩ := h
  refine ⟨_, (pss_cons (ps_if (pt_cmpR op_eq (pe_ix ix_tup (pv 2) pe_int (fun _ _ => rfl)) pe_str (nomark _)) (pss_one (ps_ret (pe_has h_l_times hr (by rfl) (pa_cons (pv 0) (pa_cons (pe_has h_l_made hr (by rfl) (pa_cons (pv 0) (pa_cons (pe_un un_neg pe_int) pa_nil))) (pa_cons (pv 1) pa_nil)))))) pss_nil)
    (pss_cons (ps_if (pt_cmpR op_eq (pe_ix ix_tup (pv 2) pe_int (fun _ _ => rfl)) pe_str (nomark _)) (pss_one (ps_ret (pe_has h_l_times hr (by rfl) (pa_cons (pv 0) (pa_cons (pe_ix ix_tup (pv 2) pe_int (fun _ _ => rfl)) (pa_cons (pv 1) pa_nil)))))) pss_nil)
    (pss_one (ps_ret (pv 1))))), ?_⟩
  cases t with
  | swap i j =>
    obtain ⟨a, rfl, h1⟩ := tr
    refine ⟨_, rfl, a, _, 0, _, rfl, rfl, SqT.of h1, rfl, rfl, _, rfl, iteT ?_⟩
    refine ⟨_, rfl, _, rfl, _, rfl, κ, -1, 0 - 1, rfl, numV_neg1, fun H1 v1 S1 n1 => ?_⟩
    exact ⟨_, rfl, κ, v1, u, _, d, rfl, n1, nu.same S1, b1_neg1, bd, fun H2 v2 S2 n2 => k H2 v2 (S1.trans S2) n2⟩
  | scale i c =>
    obtain ⟨a, w1, rfl, h1, nc⟩ := tr
    refine ⟨_, rfl, a, _, 0, _, rfl, rfl, SqT.of h1, rfl, rfl, _, rfl, iteF ?_⟩
    refine ⟨_, rfl, a, _, 0, _, rfl, rfl, SqT.of h1, rfl, rfl, _, rfl, iteT ?_⟩
    exact ⟨_, rfl, _, rfl, a, _, 2, _, rfl, rfl, SqT.of h1, rfl, _, rfl, κ, w1, u, c, d, rfl, nc, nu, t3_b1 t3, bd, fun H2 v2 S2 n2 => k H2 v2 S2 n2⟩
  | add i j c =>
    obtain ⟨a, w1, rfl, h1, nc⟩ := tr
    refine ⟨_, rfl, a, _, 0, _, rfl, rfl, SqT.of h1, rfl, rfl, _, rfl, iteF ?_⟩
    refine ⟨_, rfl, a, _, 0, _, rfl, rfl, SqT.of h1, rfl, rfl, _, rfl, iteF ?_⟩
    refine ⟨_, rfl, k H u (Same.refl H) ?_⟩
    have e : facT (.add i j c : Tn κ) * d = d := by show 1 * d = d; grind
    rw [e]; exact nu
end

end My

namespace My
open PySem L2 PyProof.Rows

/-- a row of the table in steps -/
structure UpR (κ : KX) (n i : Nat) (g : List κ.F) : Prop where
  len : g.length = n
  pre : ∀ j < i, g.getD j 0 = 0
  sz : ∀ x ∈ g, QM κ 60 (10 ^ 20 * 60) x
theorem UpR.set {κ : KX} {n i j : Nat} {g : List κ.F} {x : κ.F} (h : UpR κ n i g) (hj : i ≤ j) (jn : j < n) (q : QM κ 60 (10 ^ 20 * 60) x) : UpR κ n i (g.set j x) := by
  have l := h.len
  refine ⟨by rw [List.length_set]; exact l, fun j' hj' => by rw [getD_setF (by omega), if_neg (by omega)]; exact h.pre j' hj', fun y hy => ?_⟩
  rcases List.mem_or_eq_of_mem_set hy with z | z
  · exact h.sz y z
  · rw [z]; exact q
section
variable {P : Program} {w : World} {K : PySem.W.Frag} {mg : Str → Option Value} {base : Heap}
theorem sc_l_begun : FnScope ["_law_prime_here", "_law_cells", "_law_rows", "_law_at", "_law_found", "_law_i", "_law_row", "_law_j", "_law_k"] ["_law_prime_here", "_law_cells", "_law_rows"] (defScope s_l_begun) := ⟨rfl, rfl, rfl, by decide +kernel, rfl, by decide +kernel, by decide +kernel⟩
theorem ok_l_begun (h : Here K mg "_law_begun" s_l_begun) (T : Nm mg) (h_l_drawn : Has P w K mg base "_law_drawn" 3 ["_law_prime_here", "_law_cell"] sp_l_drawn27) (h_l_made : Has P w K mg base "_law_made" 3 ["_law_prime_here", "_law_number"] sp_l_madeX) : Has P w K mg base "_law_begun" 4 ["_law_prime_here", "_law_cells", "_law_rows"] sp_l_begun := by
  refine h.has (fun f fd F => F.binds fun _ _ _ _ _ _ us hl => by obtain ⟨_, _, _, rfl⟩ := len3 hl; exact rfl) fun f fd F => F.ok sc_l_begun (fun vs H Q E h => ?_) (fun cdv A outer s H vs Q E hr h => ?_)
  · obtain ⟨_, _, _, _, rfl, _⟩ := h
    rfl
  obtain ⟨κ, c, cs, n, rfl, ce, n1, n7, k⟩ := h
  have nd := sc_l_begun.nd
  refine ⟨_, (pss_cons (ps_set (i := 3) nd rfl (Or.inl rfl) (pe_un un_neg pe_int))
    (pss_cons (ps_if (pt_cmpR op_eq (pe_op op_mod (pe_op op_mod (pe_op op_mul (pe_ix ix_list (pv 1) (pe_op op_fdiv (pe_callB call_len_seq (by rfl) T.len boot_len (pa_cons (pv 1) pa_nil)) pe_int) (fun _ _ => rfl)) pe_int) pe_int) pe_int) pe_int (nomark _)) (pss_one (ps_set (i := 3) nd rfl (Or.inl rfl) (pe_op op_modN (pe_op op_mod (pe_op op_mul (pe_ix ix_list (pv 1) (pe_op op_fdiv (pe_callB call_len_seq (by rfl) T.len boot_len (pa_cons (pv 1) pa_nil)) pe_int) (fun _ _ => rfl)) pe_int) pe_int) (pv 2)))) pss_nil)
    (pss_cons (ps_set (i := 4) nd rfl (Or.inl rfl) (pe_lst pa_nil))
    (pss_cons (ps_for PassesOwn.never rfl (pi_range1 (by rfl) T.range (pa_cons (pv 2) pa_nil)) (pg_name (i := 5) nd rfl (Or.inl rfl)) (pss_cons (ps_setComp (i := 6) ["_law_j"] [(0, "_law_prime_here")] nd rfl rfl rfl (pi_range1 (by rfl) T.range (pa_cons (pv 2) pa_nil)) (by exact fun _ _ _ _ => (pg_name (i := 0) (show (["_law_j", "_law_prime_here"] : List Str).Nodup by decide +kernel) rfl (Or.inl rfl))) (by exact fun _ _ _ _ => (pe_has h_l_made hr (by rfl) (pa_cons (pv 1) (pa_cons pe_int pa_nil)))) ⟨⟨rfl, rfl, Or.inl rfl⟩, trivial⟩)
      (pss_cons (ps_for PassesOwn.never rfl (pi_range2 (by rfl) T.range (pa_cons (pv 5) (pa_cons (pv 2) pa_nil))) (pg_name (i := 7) nd rfl (Or.inl rfl)) (pss_cons (ps_set (i := 8) nd rfl (Or.inl rfl) (pe_op op_add (pe_op op_add pe_int (pe_op op_mulO (pv 5) (pv 2))) (pv 7)))
        (pss_one (ps_asg (pe_has h_l_drawn hr (by rfl) (pa_cons (pv 0) (pa_cons (pe_op op_add (pe_op op_mul (pe_ix ix_list (pv 1) (pe_op op_modN (pv 8) (pe_callB call_len_seq (by rfl) T.len boot_len (pa_cons (pv 1) pa_nil))) (fun _ _ => rfl)) pe_int) (pe_op op_mulO (pv 8) (pv 8))) pa_nil))) (pg_sub (pv 6) (pv 7) set_list)))))
      (pss_cons (ps_if (pw_or (pt_cmpR (op_eqN hr) (pe_ix ix_list (pv 6) (pv 5) (fun _ _ => rfl)) (pe_has h_l_made hr (by rfl) (pa_cons (pv 0) (pa_cons pe_int pa_nil))) (nomark _)) (pw_or1 (pt_cmpR op_eq (pv 5) (pv 3) (nomark _)))).pt (pss_one (ps_asg (pe_has h_l_made hr (by rfl) (pa_cons (pv 0) (pa_cons (pe_callTy call_int1 (by rfl) T.int boot_int (pa_cons (pe_cmpR op_ne (pv 5) (pv 3) (nomark _)) pa_nil)) pa_nil))) (pg_sub (pv 6) (pv 5) set_list))) pss_nil)
      (pss_one (ps_expr (pe_bm PySem.F.plainAttrs_list PySem.F.slot_list_append PySem.F.type_list_append mt_append (pv 4) (pa_cons (pv 6) pa_nil))))))))
    (pss_one (ps_ret (pv 4))))))), ?_⟩
  have ch1 := ce.h1
  have ch2 := ce.h2
  have d2 : ((cs.length : Int)) / 2 = ((cs.length / 2 : Nat) : Int) := by omega
  refine ⟨_, rfl, ?_⟩
  show gName 3 (V.int (-1)) _ H _
  generalize hv : V.int (-1) = mv
  have iv : ∃ a : Int, mv = .int a := ⟨-1, hv.symm⟩
  clear hv
  revert mv
  refine' joinV1 (C := fun mv => ∃ a : Int, mv = .int a) (fun kj mv hM => ?first) ?second
  case first =>
    refine ⟨_, rfl, _, rfl, c, _, rfl, .inl (SqL.of ce.l), _, _, rfl, rfl, ⟨by decide, by decide⟩, c, _, _, _, rfl, rfl, SqL.of ce.l, (by rw [List.length_map, d2]; exact int_at (by omega)), _, _, rfl, rfl, .inr ⟨by decide, by decide⟩, _, _, rfl, rfl, (by show (0 : Int) < _; decide), _, _, rfl, rfl, (by show (0 : Int) < _; decide), rfl, _, rfl, ?_⟩
    refine' if_eqI (fun _ => ?yes) (fun _ => ?no)
    case no => exact kj mv hM
    case yes => exact ⟨_, rfl, _, rfl, c, _, rfl, .inl (SqL.of ce.l), _, _, rfl, rfl, ⟨by decide, by decide⟩, c, _, _, _, rfl, rfl, SqL.of ce.l, (by rw [List.length_map, d2]; exact int_at (by omega)), _, _, rfl, rfl, .inr ⟨by decide, by decide⟩, _, _, rfl, rfl, (by show (0 : Int) < _; decide), _, rfl, _, _, rfl, rfl, (show (n : Int) ≠ 0 by omega), kj _ ⟨_, rfl⟩⟩
  rintro mv ⟨aa, rfl⟩
  refine ⟨(by show 0 ≤ sizeLine; decide), fun tb ntb => ?_⟩
  have Stb := same_new ntb (.lst [])
  have qtb := upd_same (H := H) (a := tb) (o := .lst [])
  generalize upd H tb (.lst []) = H2 at *
  refine ⟨_, rfl, (n : Int), rfl, by omega, by omega, ?_⟩
  rw [Int.toNat_natCast]
  refine for_range (lo := 0) (n := n) (fun i σ H3 => ∃ (z5 z6 z7 z8 : Option V) (rs : List Addr) (R : List (List κ.F)), σ = [some (.int κ.P), some (.ref c), some (.int (n : Int)), some (.int aa), some (.ref tb), z5, z6, z7, z8] ∧ Same H H3 ∧ H3 tb = some (.lst (rs.map V.ref)) ∧ RowsX κ H3 rs R ∧ R.length = i ∧ (∀ k < i, UpR κ n k (R.getD k [])) ∧ tb ∉ rs) ⟨_, _, _, _, [], [], rfl, Stb, qtb, .nil, rfl, (fun k h => by omega), fun z => nomatch z⟩ ?_ ?_
  · rintro i σ H3 hi ⟨z5, z6, z7, z8, rs, R, rfl, S3, hT, rx, lR, ro, nt⟩
    refine ⟨_, rfl, (n : Int), rfl, by omega, by omega, ?_⟩
    rw [Int.toNat_natCast]
    refine comp_range (lo := 0) (n := n) (fun q ys H4 => Same H3 H4 ∧ AllG (NR κ H4) ys (List.replicate q 0)) (by omega) ⟨Same.refl _, .nil⟩ ?_ ?_
    · rintro q ys H4 _ _ ⟨S4, e4⟩
      refine ⟨_, rfl, κ, 0, 0, rfl, numV0, fun H5 v0 S5 n0 => ⟨S4.trans S5, ?_⟩⟩
      rw [List.replicate_succ']
      exact (e4.mono fun _ _ n => n.same S5).append (.one n0)
    rintro ys H4 _ ⟨S4, e4⟩ rw_ nrw4
    have nrw : H3 rw_ = none := S4.free nrw4
    have nwr := rx.notin nrw
    have nwt : rw_ ≠ tb := fun z => by rw [z, hT] at nrw; cases nrw
    have Sw := same_new nrw4 (.lst ys)
    have qw := upd_same (H := H4) (a := rw_) (o := .lst ys)
    have e5 := e4.mono fun _ _ n => n.same Sw
    have S5 := S4.trans Sw
    generalize upd H4 rw_ (.lst ys) = H5 at *
    have up0 : UpR κ n i (List.replicate n (0 : κ.F)) := ⟨List.length_replicate, fun j _ => getD_rep0 n j, fun x hx => by rw [List.eq_of_mem_replicate hx]; exact QM.zero⟩
    refine ⟨_, rfl, _, rfl, _, _, rfl, ⟨by omega, by omega, by omega, by omega⟩, ?_⟩
    refine for_range (lo := 0 + (i : Int)) (n := ((n : Int) - (0 + (i : Int))).toNat) (fun p σ H6 => ∃ (z7 z8 : Option V) (zs : List V) (g : List κ.F), σ = [some (.int κ.P), some (.ref c), some (.int (n : Int)), some (.int aa), some (.ref tb), some (.int (0 + (i : Int))), some (.ref rw_), z7, z8] ∧ Same H3 H6 ∧ H6 rw_ = some (.lst zs) ∧ AllG (NR κ H6) zs g ∧ UpR κ n i g) ⟨_, _, ys, _, rfl, S5, qw, e5, up0⟩ ?_ ?_
    · rintro p σ H6 hp ⟨z7', z8', zs, g, rfl, S6, q6, e6, up⟩
      have ce6 := (ce.same S3).same S6
      have lg := up.len
      have lz := e6.1
      have mul7 : i * n ≤ 49 := Nat.le_trans (Nat.mul_le_mul (show i ≤ 7 by omega) n7) (by decide)
      refine ⟨_, rfl, _, rfl, _, _, rfl, rfl, .of_right (intBits_le_64 (by omega) (by omega)), _, _, rfl, rfl, _, rfl, _, _, rfl, rfl, ?_⟩
      have ek : (1 : Int) + (0 + (i : Int)) * (n : Int) + (0 + (i : Int) + (p : Int)) = ((1 + i * n + (i + p) : Nat) : Int) := by
        have e1 : ((i * n : Nat) : Int) = (i : Int) * (n : Int) := Int.natCast_mul i n
        rw [Int.zero_add, ← e1]
        omega
      show gName 8 (V.int ((1 : Int) + (0 + (i : Int)) * (n : Int) + (0 + (i : Int) + (p : Int)))) _ H6 _
      rw [ek]
      generalize hkk : 1 + i * n + (i + p) = kk
      have k64 : kk < 64 := by omega
      obtain ⟨wv, ew, lw⟩ := fmodN (a := (kk : Int)) (n := cs.length) ch1
      refine ⟨_, rfl, _, rfl, _, rfl, _, rfl, c, _, rfl, .inl (SqL.of ce6.l), _, _, rfl, rfl, (by rw [List.length_map]; show (cs.length : Int) ≠ 0; omega), c, _, _, _, rfl, rfl, SqL.of ce6.l, (by rw [List.length_map, ew]; exact int_at lw), _, _, rfl, rfl, .inr ⟨by decide, by decide⟩, _, rfl, _, rfl, _, _, rfl, rfl, .of_right (intBits_le_64 (by omega) (by omega)), _, _, rfl, rfl, κ, _, rfl, bits_mix2 (ce.b _ (List.getElem_mem lw)) ⟨by omega, by omega⟩, fun H9 v x S9 nv qx => ?_⟩
      refine ⟨_, rfl, _, rfl, rw_, zs, _, _, rfl, rfl, S9 _ _ q6, ixN_int (by omega) (by omega), ?_⟩
      rw [show (0 + (i : Int) + (p : Int)).toNat = i + p by omega]
      have Oa : Off [rw_] H9 (upd H9 rw_ (.lst (zs.set (i + p) v))) := off_upd' (Same.refl H9)
      exact ⟨_, _, _, g.set (i + p) x, rfl, Off.same Oa (S6.trans S9) (fun z hz => by rw [List.mem_singleton.mp hz]; exact nrw), upd_same, (e6.mono fun _ _ n => (n.same S9).off (S9 _ _ q6) Oa).set _ (nv.off (S9 _ _ q6) Oa), up.set (by omega) (by omega) qx⟩
    · rintro σ H6 ⟨z7', z8', zs, g, rfl, S6, q6, e6, up⟩
      have d6 : Same H3 H6 ∧ ∃ (zs : List V) (g : List κ.F), H6 rw_ = some (.lst zs) ∧ AllG (NR κ H6) zs g ∧ UpR κ n i g := ⟨S6, zs, g, q6, e6, up⟩
      clear S6 q6 e6 up
      revert H6
      refine' joinH2 (C := fun H6 => Same H3 H6 ∧ ∃ (zs : List V) (g : List κ.F), H6 rw_ = some (.lst zs) ∧ AllG (NR κ H6) zs g ∧ UpR κ n i g) (C' := fun H6 => Same H3 H6 ∧ ∃ (zs : List V) (g : List κ.F), H6 rw_ = some (.lst zs) ∧ AllG (NR κ H6) zs g ∧ UpR κ n i g) (fun k1 H6 d6 => ?first3) ?second3
      case first3 =>
        obtain ⟨S6, zs, g, q6, e6, up⟩ := d6
        have lg := up.len
        have lz := e6.1
        obtain ⟨v, hv, nv⟩ := e6.get' (i := i) (by omega)
        have asg : ∀ (H9 : Hp), Same H6 H9 → ∀ (v : V) (x : κ.F), NR κ H9 v x → QM κ 60 (10 ^ 20 * 60) x → Same H3 (upd H9 rw_ (.lst (zs.set i v))) ∧ ∃ (zs' : List V) (g' : List κ.F), upd H9 rw_ (.lst (zs.set i v)) rw_ = some (.lst zs') ∧ AllG (NR κ (upd H9 rw_ (.lst (zs.set i v)))) zs' g' ∧ UpR κ n i g' := fun H9 S9 v x nv qx => by
          have Oa : Off [rw_] H9 (upd H9 rw_ (.lst (zs.set i v))) := off_upd' (Same.refl H9)
          exact ⟨Off.same Oa (S6.trans S9) (fun z hz => by rw [List.mem_singleton.mp hz]; exact nrw), _, g.set i x, upd_same, (e6.mono fun _ _ n => (n.same S9).off (S9 _ _ q6) Oa).set _ (nv.off (S9 _ _ q6) Oa), up.set (Nat.le_refl _) hi qx⟩
        obtain ⟨x, nx, qx⟩ : ∃ x : κ.F, NumV κ (if (!decide (V.int (0 + (i : Int)) = V.int aa)) = true then 1 else 0) x ∧ QM κ 60 (10 ^ 20 * 60) x := by
          split
          · exact ⟨1, numV1, qm_one.mono (by decide)⟩
          · exact ⟨0, numV0, QM.zero⟩
        refine ⟨_, rfl, _, rfl, rw_, _, _, _, rfl, rfl, SqL.of q6, (by rw [Int.zero_add]; exact atI_nat hv), _, rfl, κ, 0, 0, rfl, numV0, fun H7 v0 S7 n0 => ?_⟩
        obtain ⟨bb, hb, eb⟩ := nr_eq (nv.same S7) n0
        refine ⟨bb, hb, _, rfl, ?_⟩
        have S37 := S6.trans S7
        have keep : Same H3 H7 ∧ ∃ (zs : List V) (g : List κ.F), H7 rw_ = some (.lst zs) ∧ AllG (NR κ H7) zs g ∧ UpR κ n i g := ⟨S37, zs, g, S7 _ _ q6, e6.mono fun _ _ n => n.same S7, up⟩
        cases bb with
        | false =>
          refine ⟨_, rfl, _, rfl, rfl, _, rfl, ?_⟩
          refine' if_eqI (fun _ => ?yes) (fun _ => ?no)
          case no => exact k1 H7 keep
          case yes =>
            refine ⟨_, rfl, _, rfl, _, rfl, rfl, .inr ⟨_, rfl, κ, _, x, rfl, nx, fun H9 v9 S9 n9 => ?_⟩⟩
            refine ⟨_, rfl, _, rfl, rw_, zs, _, _, rfl, rfl, (S7.trans S9) _ _ q6, ixN_int (by omega) (by omega), ?_⟩
            rw [show (0 + (i : Int)).toNat = i by omega]
            exact k1 _ (asg H9 (S7.trans S9) v9 x n9 qx)
        | true =>
          refine iteT ?_
          refine ⟨_, rfl, _, rfl, _, rfl, rfl, .inr ⟨_, rfl, κ, _, x, rfl, nx, fun H9 v9 S9 n9 => ?_⟩⟩
          refine ⟨_, rfl, _, rfl, rw_, zs, _, _, rfl, rfl, (S7.trans S9) _ _ q6, ixN_int (by omega) (by omega), ?_⟩
          rw [show (0 + (i : Int)).toNat = i by omega]
          exact k1 _ (asg H9 (S7.trans S9) v9 x n9 qx)
      case second3 =>
        rintro H5' ⟨S5', ys', g', qw', e5', up'⟩
        have hT5 := S5' _ _ hT
        refine ⟨_, rfl, .inl ⟨rfl, _, SqL.of hT5⟩, _, rfl, tb, _, _, rfl, rfl, hT5, Nat.lt_of_lt_of_le (show (rs.map V.ref).length < 1000 by rw [List.length_map, rx.1]; omega) (by decide), ?_⟩
        have O6 : Off [tb] H5' (upd H5' tb (.lst (rs.map V.ref ++ [.ref rw_]))) := off_upd' (Same.refl H5')
        refine ⟨_, _, _, _, rs ++ [rw_], R ++ [g'], rfl, Off.same O6 (S3.trans S5') (fun z hz => by rw [List.mem_singleton.mp hz]; exact ntb), by rw [upd_same, List.map_append]; rfl, ((rx.same S5').off nt hT5 O6).snoc (O6 _ _ (fun z => nwt (List.mem_singleton.mp z)) qw') (e5'.mono fun _ _ n => n.off hT5 O6), by simp [lR], fun k hk => ?_, fun z => ?_⟩
        · by_cases e : k = i
          · subst e
            rw [List.getD_eq_getElem?_getD, List.getElem?_append_right (by omega), lR, Nat.sub_self]
            exact up'
          · rw [List.getD_eq_getElem?_getD, List.getElem?_append_left (by omega), ← List.getD_eq_getElem?_getD]
            exact ro k (by omega)
        · rcases List.mem_append.mp z with q | q
          · exact nt q
          · exact nwt (List.mem_singleton.mp q).symm
  · rintro σ H3 ⟨z5, z6, z7, z8, rs, R, rfl, S3, hT, rx, lR, ro, nt⟩
    have gd : ∀ f ∈ R, ∃ i < n, f = R.getD i [] := fun f hf => by
      obtain ⟨i, hi, e⟩ := List.getElem_of_mem hf
      exact ⟨i, by omega, by rw [getD_get (List.getElem?_eq_getElem hi)]; exact e.symm⟩
    refine ⟨_, rfl, k H3 tb rs R S3 hT rx lR (fun f hf => ?_) (fun i j hj hi => (ro i hi).pre j hj) (fun f hf x hx => ?_)⟩
    · obtain ⟨i, hi, rfl⟩ := gd f hf
      exact (ro i hi).len
    · obtain ⟨i, hi, rfl⟩ := gd f hf
      exact (ro i hi).sz x hx
end

end My

namespace L2
open PySem PySem.Spec PyProof.Rows
section
variable {X : Cx}
theorem sl_listK (K : PySem.W.Frag) (h : X.K = K) : SlR X (rSlL K) := by subst h; exact sl_list
end
end L2

namespace My
open PySem L2 PyProof.Rows

def sp_l_not_square : Sp := fun vs H Q _ => ∃ (κ : KX) (tb : Addr) (rs : List Addr) (A : List (List κ.F)) (n : Nat) (c : Int), vs = [.ref tb, .int c] ∧ TabR κ H tb rs A n ∧ A.length = n ∧ n ≤ 7 ∧ ∀ (H' : Hp) (D : Addr) (ds : List Addr) (B : List (List κ.F)) (m : Nat), Same H H' → TabR κ H' D ds B m → B.length ≠ m → Q (.ref D) H'
def sp_l_no_fit (CF CR : Addr) : Sp := fun vs H Q _ => ∃ (κ : KX) (s tb : Addr) (rs : List Addr) (A : List (List κ.F)) (m : Nat), vs = [.ref s, .ref tb] ∧ KdX CF CR κ H s ∧ TabR κ H tb rs A m ∧ A.length ≠ m ∧ ∀ H', Same H H' → Q (.bl true) H'
theorem RowsX.dropR {κ : KX} {H : Hp} {as : List Addr} {R : List (List κ.F)} (h : RowsX κ H as R) (k : Nat) : RowsX κ H (as.drop k) (R.drop k) :=
  ⟨by rw [List.length_drop, List.length_drop, h.1], fun i a f ha hf => h.2 (k + i) a f (by rw [← ha, List.getElem?_drop]) (by rw [← hf, List.getElem?_drop])⟩
theorem RowsX.takeR {κ : KX} {H : Hp} {as : List Addr} {R : List (List κ.F)} (h : RowsX κ H as R) (k : Nat) : RowsX κ H (as.take k) (R.take k) := by
  refine ⟨by rw [List.length_take, List.length_take, h.1], fun i a f ha hf => ?_⟩
  rw [List.getElem?_take] at ha hf
  split at ha
  · rename_i q
    rw [if_pos q] at hf
    exact h.2 i a f ha hf
  · cases ha
theorem wid_map {κ : KX} {R : List (List κ.F)} {m m' : Nat} {g : List κ.F → List κ.F} (h : Wid m R) (e : ∀ f, f.length = m → (g f).length = m') : Wid m' (R.map g) := fun f hf => by
  obtain ⟨f0, h0, rfl⟩ := List.mem_map.mp hf
  exact e f0 (h f0 h0)
section
variable {P : Program} {w : World} {K : PySem.W.Frag} {mg : Str → Option Value} {base : Heap} {CF CR CE cK cN cF cT cI cX cM cR : Addr}
theorem sc_l_refused : FnScope ["_law_kind_here", "_law_table", "_law_error", "e"] ["_law_kind_here", "_law_table"] (defScope s_l_refused) := ⟨rfl, rfl, rfl, by decide +kernel, rfl, by decide +kernel, by decide +kernel⟩
theorem ok_l_refused32 (h : Here K mg "_law_refused" s_l_refused) (T : Nm mg) (R : Rf K mg CE cK cN cF cT cI cX cM cR) (Z : Rz K mg "NoFit" CE cF [cK, cN, cT, cI, cX, cM, cR]) (h_by_steps : HasX P w K mg base "by_steps" 9 ["kind", "table"] (sp_by_steps CF CR cF)) : Has P w K mg base "_law_refused" 10 ["_law_kind_here", "_law_table"] (sp_l_no_fit CF CR) := by
  refine h.has (fun f fd F => F.binds fun _ _ _ _ _ _ us hl => by obtain ⟨_, _, rfl⟩ := len2 hl; exact rfl) fun f fd F => F.ok sc_l_refused (fun vs H Q E h => ?_) (fun cdv A outer s H vs Q E hr h => ?_)
  · obtain ⟨_, _, _, _, _, _, rfl, _⟩ := h
    rfl
  obtain ⟨κ, sk, tb, rs, A, m, rfl, kx, ta, bad, k⟩ := h
  have nd := sc_l_refused.nd
  refine ⟨_, (pss_cons (ps_set (i := 2) nd rfl (Or.inl rfl) pe_non)
    (pss_cons (ps_try R.cat nd (i := 3) rfl rfl (by rfl) (by exact fun E pn xe hp => (pss_one (ps_expr (pe_hasX h_by_steps hp hr (by rfl) (pa_cons (pv 0) (pa_cons (pv 1) pa_nil)))))) (by exact fun e => (pss_one (ps_set (i := 2) nd rfl (Or.inl rfl) (pv 3)))))
    (pss_cons (ps_if (pt_val (pe_callB call_isinstX (by rfl) T.isinstance boot_isinstance (pa_cons (pv 2) (pa_cons (pe_tup (pa_cons (pe_glob (v := .ref cK) (by rfl) R.k.m rfl) (pa_cons (pe_glob (v := .ref cN) (by rfl) R.n.m rfl) (pa_cons (pe_glob (v := .ref cT) (by rfl) R.t.m rfl) (pa_cons (pe_glob (v := .ref cI) (by rfl) R.i.m rfl) (pa_cons (pe_glob (v := .ref cX) (by rfl) R.x.m rfl) (pa_cons (pe_glob (v := .ref cM) (by rfl) R.m.m rfl) (pa_cons (pe_glob (v := .ref cR) (by rfl) R.r.m rfl) pa_nil)))))))) pa_nil)))) (pss_one (ps_ret pe_bl)) pss_nil)
    (pss_one (ps_ret (pe_and (pe_callB call_isinstX (by rfl) T.isinstance boot_isinstance (pa_cons (pv 2) (pa_cons (pe_glob (v := .ref cF) (by rfl) R.f.m rfl) pa_nil))) (pe_one (pe_callB call_isinstX (by rfl) T.isinstance boot_isinstance (pa_cons (pv 2) (pa_cons (pe_ty (by rfl) R.ve PyProof.Rows.Boot.«ValueError») pa_nil)))))))))), ?_⟩
  obtain ⟨oK, oN, oT, oI, oX, oM, oR, _⟩ := Z.o
  have no : ∀ c ∈ [cK, cN, cT, cI, cX, cM, cR], PySem.W.kitOne K (.ref cF) (.ref c) = some false := by
    intro c hc
    simp only [List.mem_cons, List.not_mem_nil, or_false] at hc
    rcases hc with rfl | rfl | rfl | rfl | rfl | rfl | rfl
    · exact R.k.no oK
    · exact R.n.no oN
    · exact R.t.no oT
    · exact R.i.no oI
    · exact R.x.no oX
    · exact R.m.no oM
    · exact R.r.no oR
  intro pn xe
  refine ⟨_, rfl, _, rfl, κ, sk, tb, rs, A, m, rfl, kx, ta, (fun _ => ?_), (fun z => absurd z bad)⟩
  refine ⟨cF, rfl, Z.e, fun e he => ?_⟩
  refine ⟨_, rfl, ?_⟩
  have he' := upd_same (H := H) (a := e) (o := excO e cF none)
  have S1 := same_new he (excO e cF none)
  generalize upd H e (excO e cF none) = H1 at *
  refine ⟨_, rfl, (by show 7 ≤ sizeLine; decide), fun tp htp => ?_⟩
  have S2 := same_new htp (.tup [.ref cK, .ref cN, .ref cT, .ref cI, .ref cX, .ref cM, .ref cR])
  have ht := upd_same (H := H1) (a := tp) (o := .tup [.ref cK, .ref cN, .ref cT, .ref cI, .ref cX, .ref cM, .ref cR])
  generalize upd H1 tp (.tup [.ref cK, .ref cN, .ref cT, .ref cI, .ref cX, .ref cM, .ref cR]) = H2 at *
  have hx : TyX K H2 (.ref e) (.ref cF) := .exc (S2 _ _ he') Z.c.cls
  refine ⟨_, _, _, _, rfl, hx, .tup (cs := [cK, cN, cT, cI, cX, cM, cR]) ht (kitAny_no no), _, rfl, iteF ?_⟩
  refine ⟨_, rfl, _, _, _, _, rfl, hx, .ref kit_self, _, rfl, iteT ?_⟩
  exact ⟨_, rfl, _, _, _, _, rfl, hx, .ty (kit_V K Z.v), k _ (S1.trans S2)⟩
theorem sc_l_not_square : FnScope ["_law_table", "_law_cell", "_law_way"] ["_law_table", "_law_cell"] (defScope s_l_not_square) := ⟨rfl, rfl, rfl, by decide +kernel, rfl, by decide +kernel, by decide +kernel⟩
theorem ok_l_not_square (h : Here K mg "_law_not_square" s_l_not_square) (T : Nm mg) : Has P w K mg base "_law_not_square" 1 ["_law_table", "_law_cell"] sp_l_not_square := by
  refine h.has (fun f fd F => F.binds fun _ _ _ _ _ _ us hl => by obtain ⟨_, _, rfl⟩ := len2 hl; exact rfl) fun f fd F => F.ok sc_l_not_square (fun vs H Q E h => ?_) (fun cdv A outer s H vs Q E hr h => ?_)
  · obtain ⟨_, _, _, _, _, _, rfl, _⟩ := h
    rfl
  obtain ⟨κ, tb, rs, A, n, c, rfl, ta, sq, n7, k⟩ := h
  have nd := sc_l_not_square.nd
  refine ⟨_, (pss_cons (ps_set (i := 2) nd rfl (Or.inl rfl) (pe_op op_mod (pe_op op_mod (pe_op op_mul (pv 1) pe_int) pe_int) pe_int))
    (pss_cons (ps_if (pw_and (pt_cmpR op_eq (pv 2) pe_int (nomark _)) (pw_and1 (pt_cmpR op_lt (pe_callB call_len_seq (by rfl) T.len boot_len (pa_cons (pv 0) pa_nil)) pe_int (nomark _)))).pt (pss_one (ps_ret (pe_op op_cat (pv 0) (pe_lst (pa_cons (pe_callTy call_list_of (by rfl) T.list boot_list (pa_cons (pe_ix ix_list (pv 0) pe_int (fun _ _ => rfl)) pa_nil)) pa_nil))))) pss_nil)
    (pss_cons (ps_if (pw_and (pt_cmpR op_eq (pv 2) pe_int (nomark _)) (pw_and1 (pt_cmpR op_gt (pe_callB call_len_seq (by rfl) T.len boot_len (pa_cons (pv 0) pa_nil)) pe_int (nomark _)))).pt (pss_one (ps_ret (pe_slice sl_list (pv 0) (po_some pe_int) po_none))) pss_nil)
    (pss_cons (ps_if (pw_and (pt_cmpR op_eq (pv 2) pe_int (nomark _)) (pw_and1 (pt_cmpR op_gt (pe_callB call_len_seq (by rfl) T.len boot_len (pa_cons (pv 0) pa_nil)) pe_int (nomark _)))).pt (pss_one (ps_ret (pe_comp ["_law_row"] [] rfl (pi_list (pv 0)) (by exact fun _ _ _ _ => (pg_name (i := 0) (show (["_law_row"] : List Str).Nodup by decide +kernel) rfl (Or.inl rfl))) (by exact fun _ _ _ _ => (pe_slice (sl_listK K rfl) (pv 0) (po_some pe_int) po_none)) trivial))) pss_nil)
    (pss_cons (ps_if (pt_cmpR op_lt (pe_callB call_len_seq (by rfl) T.len boot_len (pa_cons (pv 0) pa_nil)) pe_int (nomark _)) (pss_one (ps_ret (pe_comp ["_law_row"] [] rfl (pi_list (pv 0)) (by exact fun _ _ _ _ => (pg_name (i := 0) (show (["_law_row"] : List Str).Nodup by decide +kernel) rfl (Or.inl rfl))) (by exact fun _ _ _ _ => (pe_op op_cat (pv 0) (pe_lst (pa_cons (pe_ix (ix_listK K rfl) (pv 0) pe_int (fun _ _ => rfl)) pa_nil)))) trivial))) pss_nil)
    (pss_one (ps_ret (pe_slice sl_list (pv 0) po_none (po_some pe_int))))))))), ?_⟩
  have lr := ta.r.1
  have n1 := ta.n1
  have wA := ta.w
  obtain ⟨a0, x0, g0, hx0, al0⟩ := ta.r.get (i := 0) (by omega)
  refine ⟨_, rfl, _, _, rfl, rfl, .inr ⟨by decide, by decide⟩, _, _, rfl, rfl, (by show (0 : Int) < _; decide), _, _, rfl, rfl, (by show (0 : Int) < _; decide), ?_⟩
  show gName 2 (V.int (c * 30323 % 65581 % 4)) _ H _
  generalize c * 30323 % 65581 % 4 = W
  refine' joinP (C' := fun H' => H' = H) (fun kj => ?f1) ?s1
  case f1 =>
    refine ⟨_, rfl, rfl, _, rfl, if_eqI (fun _ => ⟨_, rfl, tb, _, rfl, .inl (SqL.of ta.l), _, _, rfl, rfl, _, rfl, ?_⟩) (fun _ => iteF (kj H rfl))⟩
    refine if_dec (fun z => ?_) (fun _ => kj H rfl)
    refine ⟨_, rfl, _, rfl, tb, _, 0, _, rfl, rfl, SqL.of ta.l, ref_at (i := 0) g0, a0, x0, rfl, .inl (SqL.of hx0), fun l nl => ?_⟩
    have Sl := same_new nl (.lst x0)
    have ql := upd_same (H := H) (a := l) (o := .lst x0)
    generalize upd H l (.lst x0) = H1 at *
    refine ⟨(by show 1 ≤ sizeLine; decide), fun q nq => ?_⟩
    have Sq := same_new nq (.lst [.ref l])
    have qq := upd_same (H := H1) (a := q) (o := .lst [.ref l])
    generalize upd H1 q (.lst [.ref l]) = H2 at *
    refine ⟨tb, q, _, _, rfl, rfl, Sq _ _ (Sl _ _ ta.l), qq, ?_, fun D nD => ?_⟩
    · rw [List.length_map]
      have : (101 : Nat) ≤ sizeLine := by decide
      show _ + 1 ≤ _
      omega
    have SD := same_new nD (.lst (rs.map V.ref ++ [.ref l]))
    refine k _ D (rs ++ [l]) (A ++ [A[0]]) n (Sl.trans (Sq.trans SD)) ⟨by rw [upd_same, List.map_append]; rfl, ((ta.r.same (Sl.trans (Sq.trans SD))).snoc (SD _ _ (Sq _ _ ql)) (al0.mono fun _ _ x => x.same (Sl.trans (Sq.trans SD)))), fun f hf => ?_, ?_, ?_⟩ ?_
    · rcases List.mem_append.mp hf with z | z
      · exact wA f z
      · rw [List.mem_singleton.mp z]; exact wA _ (List.getElem_mem _)
    · rw [List.length_append]; omega
    · rw [List.length_append]; show _ + 1 ≤ _; omega
    · rw [List.length_append]; show _ + 1 ≠ _; omega
  case s1 =>
  rintro H0 rfl
  refine' joinP (C' := fun H' => H' = H0) (fun kj => ?f2) ?s2
  case f2 =>
    refine ⟨_, rfl, rfl, _, rfl, if_eqI (fun _ => ⟨_, rfl, tb, _, rfl, .inl (SqL.of ta.l), _, _, rfl, rfl, _, rfl, ?_⟩) (fun _ => iteF (kj _ rfl))⟩
    rw [List.length_map, lr]
    refine if_dec (fun z => ?_) (fun _ => kj _ rfl)
    have z : (1 : Int) < (A.length : Int) := z
    refine ⟨_, rfl, 1, rfl, tb, _, rfl, SqL.of ta.l, fun D nD => ?_⟩
    have SD := same_new nD (.lst (cutV (rs.map V.ref) (some 1) none))
    refine k _ D (rs.drop 1) (A.drop 1) n SD ⟨?_, (ta.r.same SD).dropR 1, (fun f hf => wA f (List.mem_of_mem_drop hf)), by rw [List.length_drop]; omega, by rw [List.length_drop]; omega⟩ (by rw [List.length_drop]; omega)
    rw [upd_same]
    have e := cut_dropX (rs.map V.ref) 1
    rw [← List.map_drop] at e
    exact congrArg (fun z => some (HO.lst z)) e
  case s2 =>
  rintro H0 rfl
  refine' joinP (C' := fun H' => H' = H0) (fun kj => ?f3) ?s3
  case f3 =>
    refine ⟨_, rfl, rfl, _, rfl, if_eqI (fun _ => ⟨_, rfl, tb, _, rfl, .inl (SqL.of ta.l), _, _, rfl, rfl, _, rfl, ?_⟩) (fun _ => iteF (kj _ rfl))⟩
    rw [List.length_map, lr]
    refine if_dec (fun z => ?_) (fun _ => kj _ rfl)
    have z : (1 : Int) < (A.length : Int) := z
    refine ⟨_, rfl, tb, rfl, ⟨_, SqL.of ta.l⟩, ?_⟩
    refine comp_list (K := K) (a := tb) (xs := rs.map V.ref) (fun i ys H7 => ∃ cs : List Addr, ys = cs.map V.ref ∧ Same H0 H7 ∧ RowsX κ H7 cs ((A.take i).map (·.drop 1))) (by rw [List.length_map]; omega) ⟨[], rfl, Same.refl _, by rw [List.take_zero]; exact .nil⟩ (fun i ys H7 _ ⟨as, _, S, _⟩ => SqL.of (S _ _ ta.l)) ?_ ?_
    · rintro i x ys H8 hx hl' ⟨cs', rfl, S, rc⟩
      obtain ⟨a, ha, rfl⟩ := map_ref_get hx
      obtain ⟨f, hf⟩ := get_of_lt ha lr
      obtain ⟨xs, hxs, fl⟩ := ta.r.2 i a f ha hf
      refine ⟨_, rfl, 1, rfl, a, xs, rfl, SqL.of (S _ _ hxs), fun l nl => ?_⟩
      have e := cut_dropX xs 1
      have Sl := same_new nl (.lst (cutV xs (some 1) none))
      refine ⟨cs' ++ [l], by rw [List.map_append]; rfl, S.trans Sl, ?_⟩
      rw [List.take_succ, hf, List.map_append]
      refine (rc.same Sl).snoc upd_same ?_
      rw [show cutV xs (some 1) none = xs.drop 1 from e]
      exact (fl.drop 1).mono fun _ _ n => n.same (S.trans (same_new nl _))
    rintro ys H7 hl' ⟨ds, rfl, S7, rc⟩ D nD
    rw [List.length_map, lr, List.take_length] at rc
    have SD := same_new nD (.lst (ds.map V.ref))
    exact k _ D ds _ (n - 1) (S7.trans SD) ⟨upd_same, rc.same SD, wid_map wA (fun f hf => by rw [List.length_drop, hf]), by rw [List.length_map]; omega, by rw [List.length_map]; omega⟩ (by rw [List.length_map]; omega)
  case s3 =>
  rintro H0 rfl
  refine ⟨_, rfl, tb, _, rfl, .inl (SqL.of ta.l), _, _, rfl, rfl, _, rfl, ?_⟩
  rw [List.length_map, lr]
  refine if_dec (fun z => ?_) (fun z => ?_)
  · refine ⟨_, rfl, tb, rfl, ⟨_, SqL.of ta.l⟩, ?_⟩
    refine comp_list (K := K) (a := tb) (xs := rs.map V.ref) (fun i ys H7 => ∃ cs : List Addr, ys = cs.map V.ref ∧ Same H0 H7 ∧ RowsX κ H7 cs ((A.take i).map fun f => f ++ [f.getD 0 0])) (by rw [List.length_map]; omega) ⟨[], rfl, Same.refl _, by rw [List.take_zero]; exact .nil⟩ (fun i ys H7 _ ⟨as, _, S, _⟩ => SqL.of (S _ _ ta.l)) ?_ ?_
    · rintro i x ys H8 hx hl' ⟨cs', rfl, S, rc⟩
      obtain ⟨a, ha, rfl⟩ := map_ref_get hx
      obtain ⟨f, hf⟩ := get_of_lt ha lr
      obtain ⟨xs, hxs, fl⟩ := ta.r.2 i a f ha hf
      have lf := wA f (List.mem_of_getElem? hf)
      have lx := fl.1
      obtain ⟨v, hv, nv⟩ := fl.at (i := 0) (b := f.getD 0 0) (by rw [List.getD_eq_getElem?_getD, List.getElem?_eq_getElem (by omega)]; rfl)
      refine ⟨_, rfl, _, rfl, a, _, 0, v, rfl, rfl, SqL.of (S _ _ hxs), atI_nat (j := 0) hv, (by show 1 ≤ sizeLine; decide), fun q nq => ?_⟩
      have Sq := same_new nq (.lst [v])
      have qq := upd_same (H := H8) (a := q) (o := .lst [v])
      generalize upd H8 q (.lst [v]) = H9 at *
      refine ⟨a, q, _, _, rfl, rfl, Sq _ _ (S _ _ hxs), qq, ?_, fun l nl => ?_⟩
      · have : (101 : Nat) ≤ sizeLine := by decide
        show _ + 1 ≤ _
        omega
      have Sl := same_new nl (.lst (xs ++ [v]))
      have S2 := S.trans (Sq.trans Sl)
      refine ⟨cs' ++ [l], by rw [List.map_append]; rfl, S2, ?_⟩
      rw [List.take_succ, hf, List.map_append]
      exact ((rc.same Sq).same Sl).snoc upd_same ((fl.mono fun _ _ n => n.same S2).append (.one (nv.same S2)))
    rintro ys H7 hl' ⟨ds, rfl, S7, rc⟩ D nD
    rw [List.length_map, lr, List.take_length] at rc
    have SD := same_new nD (.lst (ds.map V.ref))
    exact k _ D ds _ (n + 1) (S7.trans SD) ⟨upd_same, rc.same SD, wid_map wA (fun f hf => by rw [List.length_append, hf]; rfl), by rw [List.length_map]; omega, by rw [List.length_map]; omega⟩ (by rw [List.length_map]; omega)
  · have z : ¬ (A.length : Int) < 7 := z
    refine ⟨_, rfl, 6, rfl, tb, _, rfl, SqL.of ta.l, fun D nD => ?_⟩
    have SD := same_new nD (.lst (cutV (rs.map V.ref) none (some 6)))
    refine k _ D (rs.take 6) (A.take 6) n SD ⟨?_, (ta.r.same SD).takeR 6, (fun f hf => wA f (List.mem_of_mem_take hf)), by rw [List.length_take]; omega, by rw [List.length_take]; omega⟩ (by rw [List.length_take]; omega)
    rw [upd_same]
    have e := cut_takeX (rs.map V.ref) 6
    rw [← List.map_take] at e
    exact congrArg (fun z => some (HO.lst z)) e
end

end My

set_option maxHeartbeats 1000000
namespace My
open PySem L2 PyProof.Rows
section
variable {κ : KX}
def SzU (κ : KX) (p : Nat) (d : κ.F) : Prop := ∃ D : Int, 0 < D ∧ D ≤ 60 ^ 4 * 3 ^ p ∧ QM κ D ((10 ^ 20 * 60) ^ 4 * 3 ^ p) d
theorem qm_m1 : QM κ 1 1 ((0 : κ.F) - 1) := by
  cases κ with
  | r p hp => exact trivial
  | q => exact ⟨-1, by show (0 : Rat) - 1 = Rat.divInt (-1) 1; decide +kernel, by decide⟩
theorem qm_p1 : QM κ 1 1 (1 : κ.F) := by
  cases κ with
  | r p hp => exact trivial
  | q => exact ⟨1, by show (1 : Rat) = Rat.divInt 1 1; decide +kernel, by decide⟩
theorem SzU.step {p : Nat} {t : Tn κ} {d : κ.F} (h : SzU κ p d) (ht : T3 t) : SzU κ (p + 1) (facT t * d) := by
  obtain ⟨D, h0, l, q⟩ := h
  have e3 : (60 : Int) ^ 4 * 3 ^ (p + 1) = 60 ^ 4 * 3 ^ p * 3 := by rw [Int.pow_succ 3 p, Int.mul_assoc]
  have n3 : (10 ^ 20 * 60) ^ 4 * 3 ^ (p + 1) = (10 ^ 20 * 60) ^ 4 * 3 ^ p * 3 := by rw [Nat.pow_succ 3 p, Nat.mul_assoc]
  unfold SzU
  rw [e3, n3]
  generalize (10 ^ 20 * 60) ^ 4 * 3 ^ p = M at *
  generalize (60 : Int) ^ 4 * 3 ^ p = N at *
  cases t with
  | swap i j =>
    refine ⟨D, h0, by omega, ?_⟩
    have := (qm_m1 (κ := κ)).mul q
    rw [Int.one_mul] at this
    exact this.mono (by omega)
  | scale i c =>
    obtain ⟨x, hx, qc⟩ := ht
    have := qc.mul q
    refine ⟨x * D, ?_, ?_, this.mono (by omega)⟩
    · rcases hx with rfl | rfl | rfl <;> omega
    · rcases hx with rfl | rfl | rfl <;> omega
  | add i j c =>
    refine ⟨D, h0, by omega, ?_⟩
    have e : facT (.add i j c : Tn κ) * d = d := by show 1 * d = d; grind
    rw [e]
    exact q.mono (by omega)
theorem SzU.b1 {p : Nat} {d : κ.F} (h : SzU κ p d) (hp : p ≤ 64) : B1 κ d := by
  obtain ⟨D, h0, l, q⟩ := h
  have e : (60 ^ 4 * 3 ^ p : Int) = ((60 ^ 4 * 3 ^ p : Nat) : Int) := by rw [Int.natCast_mul, Int.natCast_pow, Int.natCast_pow]; rfl
  rw [e] at l
  have p3 := p3_le hp
  have l2 : D.natAbs ≤ 60 ^ 4 * 3 ^ 64 := by
    have : 60 ^ 4 * 3 ^ p ≤ 60 ^ 4 * 3 ^ 64 := Nat.mul_le_mul_left _ p3
    omega
  have bD : Bits 200 D := Bits.of (Nat.lt_of_le_of_lt l2 (by decide))
  refine (q.qs (a := 1000) (Nat.lt_of_le_of_lt (Nat.mul_le_mul_left _ p3) (by decide))).b1 h0 (bD.up (by decide)) (by decide)
theorem pow_posI (i : Nat) : (0 : Int) < 60 ^ i := Int.pow_pos (by decide)
theorem diag_step {i : Nat} {d x : κ.F} (h : QM κ (60 ^ i) ((10 ^ 20 * 60) ^ i) d) (g : QM κ 60 (10 ^ 20 * 60) x) : QM κ (60 ^ (i + 1)) ((10 ^ 20 * 60) ^ (i + 1)) (d * x) := by
  rw [Int.pow_succ, Nat.pow_succ]
  exact h.mul g
theorem diag_sz {i : Nat} {d : κ.F} (h : QM κ (60 ^ i) ((10 ^ 20 * 60) ^ i) d) (h4 : κ = .q → i ≤ 4) : SzU κ 0 d := by
  unfold SzU
  rw [Int.pow_zero, Int.mul_one, Nat.pow_zero, Nat.mul_one]
  cases κ with
  | r p hp => exact ⟨1, by decide, by decide, trivial⟩
  | q =>
    have h4 := h4 rfl
    match i, h4, h with
    | 0, _, h => exact ⟨_, pow_posI _, by decide, h.mono (by decide)⟩
    | 1, _, h => exact ⟨_, pow_posI _, by decide, h.mono (by decide)⟩
    | 2, _, h => exact ⟨_, pow_posI _, by decide, h.mono (by decide)⟩
    | 3, _, h => exact ⟨_, pow_posI _, by decide, h.mono (by decide)⟩
    | 4, _, h => exact ⟨_, pow_posI _, by decide, h.mono (by decide)⟩
theorem qm_b1 {x : κ.F} (h : QM κ 60 (10 ^ 20 * 60) x) : B1 κ x := by
  have b : Bits 100 (60 : Int) := Bits.of (by decide)
  exact (h.qs (a := 100) (by decide)).b1 (by decide) (b.up (by decide)) (by decide)
theorem ent_of {Pr : κ.F → Prop} {R : List (List κ.F)} {n i : Nat} (h : AllR Pr R) (hn : R.length = n) (wd : Wid n R) (hi : i < n) : Pr (ent R i i) := by
  have w := wd.get (i := i) (by omega)
  refine h.getD i _ ?_
  show (R.getD i []).getD i 0 ∈ _
  rw [List.getD_eq_getElem?_getD (l := R.getD i []), List.getElem?_eq_getElem (by omega)]
  exact List.getElem_mem _
theorem SzM.szd {N p : Nat} {R : List (List κ.F)} (h : SzM κ N p R) (hp : p ≤ 64) (hN : N ≤ 10 ^ 50) (h4 : κ = .q → R.length ≤ 4) : SzD κ R := fun e => by
  obtain ⟨D, hD, bD, al, lM⟩ := h.bits hp hN
  exact ⟨h4 e, D, _, hD, bD, lM, al⟩
end
end My

set_option maxHeartbeats 1000000
namespace My
open PySem L2 PyProof.Rows
theorem pick2 {κ : KX} (a b : Nat) (ha : 1 ≤ a) (ha7 : a ≤ 7) (hb : 1 ≤ b) (hb7 : b ≤ 7) : ∃ mo : Nat, atI [V.int (a : Int), V.int (b : Int)] (if decide ((0 : Int) < κ.P) = true then 1 else 0) = some (.int (mo : Int)) ∧ 1 ≤ mo ∧ mo ≤ 7 ∧ (κ = .q → mo ≤ a) := by
  cases κ with
  | q => exact ⟨a, rfl, ha, ha7, fun _ => Nat.le_refl a⟩
  | r p hp => rw [if_pos (decide_eq_true r_pos)]; exact ⟨b, rfl, hb, hb7, fun z => nomatch z⟩
theorem back2 {cs : List Int} (h : 1 ≤ cs.length) : ∃ x, atI (cs.map V.int) ((cs.length : Int) - 2) = some (.int x) := by
  match cs, h with
  | [y], _ => exact ⟨y, rfl⟩
  | y :: z :: cs, _ =>
    refine ⟨(y :: z :: cs)[cs.length], ?_⟩
    have e : (((y :: z :: cs).length : Nat) : Int) - 2 = ((cs.length : Nat) : Int) := by rw [List.length_cons, List.length_cons]; omega
    rw [e]
    exact int_at (by rw [List.length_cons, List.length_cons]; omega)
theorem size_of {mo : Nat} (h : 1 ≤ mo) (e : Int) : ∃ n : Nat, 1 + e.fmod (mo : Int) = (n : Int) ∧ 1 ≤ n ∧ n ≤ mo := by
  obtain ⟨i, ei, li⟩ := fmodN (a := e) h
  exact ⟨i + 1, by rw [ei]; omega, by omega, by omega⟩
def sp_law (K : PySem.W.Frag) : Sp := fun vs H Q _ => ∃ (a : Addr) (ns : List Int), vs = [.ref a] ∧ SqL K H a (ns.map V.int) ∧ ns.length ≤ 63 ∧ (∀ i ∈ ns, Bits 1048576 i) ∧ ∀ H', Q (.bl true) H'
section
variable {P : Program} {w : World} {K : PySem.W.Frag} {mg : Str → Option Value} {base : Heap} {CF CR cF : Addr}
theorem sc_law : FnScope ["_law_script", "_law_cells", "_law_prime_here", "_law_kind_here", "_law_rows", "_law_table", "_law_due_here", "_law_i", "_law_cut", "_law_k", "_law_turn_here", "_law_handed"] ["_law_script"] (defScope s_law) := ⟨rfl, rfl, rfl, by decide +kernel, rfl, by decide +kernel, by decide +kernel⟩
theorem ok_law {f : Addr} {fd : FuncData} (F : Fun K "law" "law" s_law f fd) (T : Nm mg) (h_l_prime : Has P w K mg base "_law_prime" 10 ["_law_cell"] sp_l_primeK) (h_l_kind : Has P w K mg base "_law_kind" 10 ["_law_prime_here"] (sp_l_kind CF CR)) (h_l_begun : Has P w K mg base "_law_begun" 10 ["_law_prime_here", "_law_cells", "_law_rows"] sp_l_begun) (h_l_made : Has P w K mg base "_law_made" 10 ["_law_prime_here", "_law_number"] sp_l_madeX) (h_l_times : Has P w K mg base "_law_times" 10 ["_law_prime_here", "_law_one", "_law_other"] (sp_l_op2 fun _ x y => x * y)) (h_l_turn : Has P w K mg base "_law_turn" 10 ["_law_prime_here", "_law_cell", "_law_rows"] sp_l_turn27) (h_l_behind : Has P w K mg base "_law_behind" 10 ["_law_prime_here", "_law_table", "_law_turn_here"] sp_l_behindX) (h_l_due : Has P w K mg base "_law_due" 10 ["_law_prime_here", "_law_due_here", "_law_turn_here"] sp_l_due) (h_l_number_is : Has P w K mg base "_law_number_is" 10 ["_law_prime_here", "_law_found", "_law_due_here"] sp_l_number_isX) (h_by_steps : HasX P w K mg base "by_steps" 10 ["kind", "table"] (sp_by_steps CF CR cF)) (h_l_refused : Has P w K mg base "_law_refused" 10 ["_law_kind_here", "_law_table"] (sp_l_no_fit CF CR)) (h_l_not_square : Has P w K mg base "_law_not_square" 10 ["_law_table", "_law_cell"] sp_l_not_square) : FnOk P w K mg base CX0 11 f fd ["_law_script"] (sp_law K) := by
  refine F.ok sc_law (fun vs H Q E h => ?_) (fun cdv A outer s H vs Q E hr h => ?_)
  · obtain ⟨_, _, rfl, _⟩ := h
    rfl
  obtain ⟨a, ns, rfl, hS, hl, hb, k⟩ := h
  have nd := sc_law.nd
  refine ⟨_, (pss_cons (ps_set (i := 1) nd rfl (Or.inl rfl) (pe_op op_cat (pe_slice sl_list (pv 0) po_none (po_some pe_int)) (pe_lst (pa_cons pe_int pa_nil))))
    (pss_cons (ps_set (i := 2) nd rfl (Or.inl rfl) (pe_has h_l_prime hr (by rfl) (pa_cons (pe_ix ix_list (pv 1) pe_int (fun _ _ => rfl)) pa_nil)))
    (pss_cons (ps_set (i := 3) nd rfl (Or.inl rfl) (pe_has h_l_kind hr (by rfl) (pa_cons (pv 2) pa_nil)))
    (pss_cons (ps_set (i := 4) nd rfl (Or.inl rfl) (pe_op op_add pe_int (pe_op op_modN (pe_op op_mod (pe_op op_mul (pe_ix ix_list (pv 1) pe_int (fun _ _ => rfl)) pe_int) pe_int) (pe_ix ix_list (pe_lst (pa_cons pe_int (pa_cons pe_int pa_nil))) (pe_callTy call_int1 (by rfl) T.int boot_int (pa_cons (pe_cmpR op_gt (pv 2) pe_int (nomark _)) pa_nil)) (fun _ _ => rfl)))))
    (pss_cons (ps_set (i := 5) nd rfl (Or.inl rfl) (pe_has h_l_begun hr (by rfl) (pa_cons (pv 2) (pa_cons (pv 1) (pa_cons (pv 4) pa_nil)))))
    (pss_cons (ps_set (i := 6) nd rfl (Or.inl rfl) (pe_has h_l_made hr (by rfl) (pa_cons (pv 2) (pa_cons pe_int pa_nil))))
    (pss_cons (ps_for PassesOwn.never rfl (pi_range1 (by rfl) T.range (pa_cons (pv 4) pa_nil)) (pg_name (i := 7) nd rfl (Or.inl rfl)) (pss_one (ps_set (i := 6) nd rfl (Or.inl rfl) (pe_has h_l_times hr (by rfl) (pa_cons (pv 2) (pa_cons (pv 6) (pa_cons (pe_ix ix_list (pe_ix ix_list (pv 5) (pv 7) (fun _ _ => rfl)) (pv 7) (fun _ _ => rfl)) pa_nil)))))))
    (pss_cons (ps_set (i := 8) nd rfl (Or.inl rfl) (pe_op op_modN (pe_op op_mod (pe_op op_mul (pe_ix ix_list (pv 1) (pe_op op_fdiv (pe_callB call_len_seq (by rfl) T.len boot_len (pa_cons (pv 1) pa_nil)) pe_int) (fun _ _ => rfl)) pe_int) pe_int) (pe_callB call_len_seq (by rfl) T.len boot_len (pa_cons (pv 1) pa_nil))))
    (pss_cons (ps_for PassesOwn.never rfl (pi_range1 (by rfl) T.range (pa_cons (pe_callB call_len_seq (by rfl) T.len boot_len (pa_cons (pv 1) pa_nil)) pa_nil)) (pg_name (i := 9) nd rfl (Or.inl rfl)) (pss_cons (ps_set (i := 10) nd rfl (Or.inl rfl) (pe_has h_l_turn hr (by rfl) (pa_cons (pv 2) (pa_cons (pe_ix ix_list (pv 1) (pv 9) (fun _ _ => rfl)) (pa_cons (pv 4) pa_nil)))))
      (pss_cons (ps_set (i := 5) nd rfl (Or.inl rfl) (pe_has h_l_behind hr (by rfl) (pa_cons (pv 2) (pa_cons (pv 5) (pa_cons (pv 10) pa_nil)))))
      (pss_cons (ps_set (i := 6) nd rfl (Or.inl rfl) (pe_has h_l_due hr (by rfl) (pa_cons (pv 2) (pa_cons (pv 6) (pa_cons (pv 10) pa_nil)))))
      (pss_one (ps_if (pw_or (pt_cmpR op_eq (pv 9) (pv 8) (nomark _)) (pw_or1 (pt_cmpR op_eq (pv 9) (pe_op op_sub (pe_callB call_len_seq (by rfl) T.len boot_len (pa_cons (pv 1) pa_nil)) pe_int) (nomark _)))).pt (pss_cons (ps_setComp (i := 11) ["_law_row"] [] nd rfl rfl rfl (pi_list (pv 5)) (by exact fun _ _ _ _ => (pg_name (i := 0) (show (["_law_row"] : List Str).Nodup by decide +kernel) rfl (Or.inl rfl))) (by exact fun _ _ _ _ => (pe_callTy (call_list_ofK K rfl) (by rfl) T.list boot_list (pa_cons (pv 0) pa_nil))) trivial)
        (pss_one (ps_if (pw_or (pt_not (pt_val (pe_has h_l_number_is hr (by rfl) (pa_cons (pv 2) (pa_cons (pe_hasX h_by_steps passN hr (by rfl) (pa_cons (pv 3) (pa_cons (pv 11) pa_nil))) (pa_cons (pv 6) pa_nil)))))) (pw_or1 (pt_cmpR (op_neT hr) (pv 11) (pv 5) (nomark _)))).pt (pss_one (ps_ret pe_bl)) pss_nil))) pss_nil))))))
    (pss_one (ps_ret (pe_has h_l_refused hr (by rfl) (pa_cons (pv 3) (pa_cons (pe_has h_l_not_square hr (by rfl) (pa_cons (pe_comp ["_law_row"] [] rfl (pi_list (pv 5)) (by exact fun _ _ _ _ => (pg_name (i := 0) (show (["_law_row"] : List Str).Nodup by decide +kernel) rfl (Or.inl rfl))) (by exact fun _ _ _ _ => (pe_callTy (call_list_ofK K rfl) (by rfl) T.list boot_list (pa_cons (pv 0) pa_nil))) trivial) (pa_cons (pe_ix ix_list (pv 1) (pe_op op_sub (pe_callB call_len_seq (by rfl) T.len boot_len (pa_cons (pv 1) pa_nil)) pe_int) (fun _ _ => rfl)) pa_nil))) pa_nil)))))))))))))), ?_⟩
  refine ⟨_, rfl, 63, rfl, a, _, rfl, hS, fun p hp => ?_⟩
  refine ⟨(by show 1 ≤ sizeLine; decide), fun q hq => ?_⟩
  obtain ⟨cs, ec, l1, l2, bc⟩ : ∃ cs : List Int, cutV (ns.map V.int) none (some 63) ++ [.int 0] = cs.map V.int ∧ 1 ≤ cs.length ∧ cs.length ≤ 64 ∧ ∀ i ∈ cs, Bits 1048576 i := by
    refine ⟨ns.take 63 ++ [0], ?_, ?_, ?_, fun i hi => ?_⟩
    · have e := cut_takeX (ns.map V.int) 63
      rw [← List.map_take] at e
      rw [List.map_append]
      exact congrArg (· ++ [V.int 0]) e
    · rw [List.length_append]; show 1 ≤ _ + 1; omega
    · rw [List.length_append, List.length_take]; show _ + 1 ≤ 64; omega
    · rcases List.mem_append.mp hi with h | h
      · exact hb i (List.mem_of_mem_take h)
      · rw [List.mem_singleton.mp h]; exact Nat.zero_le _
  refine ⟨p, q, _, _, rfl, rfl, by rw [upd_ne (ne_of_none upd_same hq)]; exact upd_same, upd_same, ?_, fun c hc => ?_⟩
  · have z := congrArg List.length ec
    rw [List.length_append, List.length_map] at z
    have z2 : (65 : Nat) ≤ sizeLine := by decide
    show _ + 1 ≤ sizeLine
    have z3 : (cutV (ns.map V.int) none (some 63)).length + 1 = cs.length := z
    omega
  rw [ec]
  generalize hH0 : upd (upd (upd H p (.lst (cutV (ns.map V.int) none (some 63)))) q (.lst [.int 0])) c (.lst (cs.map V.int)) = H0
  have hc0 : H0 c = some (.lst (cs.map V.int)) := by rw [← hH0]; exact upd_same
  have ce : Ce H0 c cs := ⟨hc0, l1, by omega, bc⟩
  have c0 : atI (cs.map V.int) 0 = some (.int cs[0]) := int_at (i := 0) (by omega)
  refine ⟨_, rfl, _, _, _, _, rfl, rfl, SqL.of hc0, c0, _, rfl, fun H1 pr S1 pk => ?_⟩
  refine ⟨_, rfl, pr, rfl, pk, fun H2 kk S2 kd2 => ?_⟩
  have ce2 := (ce.same S1).same S2
  obtain ⟨κ, rfl, kx2⟩ := kdx_of kd2
  obtain ⟨mo, emo, mo1, mo7, mo4⟩ := pick2 (κ := κ) 4 7 (by decide) (by decide) (by decide) (by decide)
  refine ⟨_, rfl, c, _, 0, _, rfl, rfl, SqL.of ce2.l, c0, _, _, rfl, rfl, .inr ⟨by decide, by decide⟩, _, _, rfl, rfl, (by show (0 : Int) < _; decide), (by show 2 ≤ sizeLine; decide), fun l47 n47 => ?_⟩
  have S47 := same_new n47 (.lst [.int 4, .int 7])
  have q47 := upd_same (H := H2) (a := l47) (o := .lst [.int 4, .int 7])
  generalize upd H2 l47 (.lst [.int 4, .int 7]) = H3 at *
  have ce3 := ce2.same S47
  refine ⟨_, rfl, _, _, rfl, rfl, .inr ⟨_, rfl, l47, _, _, _, rfl, rfl, SqL.of q47, emo, _, _, rfl, rfl, (show (mo : Int) ≠ 0 by omega), _, _, rfl, rfl, ?_⟩⟩
  obtain ⟨n, en, n1, nmo⟩ := size_of mo1 (cs[0] * 48271 % 65537)
  show gName 4 (V.int ((1 : Int) + (cs[0] * 48271 % 65537).fmod (mo : Int))) _ H3 _
  rw [en]
  have n7 : n ≤ 7 := by omega
  have q4 : κ = .q → n ≤ 4 := fun e => by have := mo4 e; omega
  have d3 : ((cs.length : Int)) / 3 = ((cs.length / 3 : Nat) : Int) := by omega
  refine ⟨_, rfl, _, rfl, _, rfl, κ, c, cs, n, rfl, ce3, n1, n7, fun H4 tb0 rs0 R S4 hT0 rx0 lR wd low qs => ?_⟩
  refine ⟨_, rfl, κ, 1, 1, rfl, numV1, fun H5 u0 S5 nu0 => ?_⟩
  have S45 := S5
  refine ⟨_, rfl, (n : Int), rfl, by omega, by omega, ?_⟩
  rw [Int.toNat_natCast]
  refine for_range (lo := 0) (n := n) (fun i σ Ha => ∃ (z7 : Option V) (u : V) (d : κ.F), σ = [some (.ref a), some (.ref c), some (.int κ.P), some (.ref kk), some (.int (n : Int)), some (.ref tb0), some u, z7, none, none, none, none] ∧ Same H4 Ha ∧ NR κ Ha u d ∧ d = diagP (ent R) i ∧ QM κ (60 ^ i) ((10 ^ 20 * 60) ^ i) d) ⟨_, u0, 1, rfl, S5, nu0, rfl, qm_p1⟩ ?_ ?_
  · rintro i σ Ha hi ⟨z7, u, d, rfl, Sa, nu, ed, qd⟩
    obtain ⟨ra, xs, ga, hxs, al⟩ := (rx0.same Sa).get (i := i) (by omega)
    obtain ⟨v, hv, nv⟩ := al.at (i := i) (b := ent R i i) (by
      have w := wd.get (i := i) (by omega)
      show R[i][i]? = some ((R.getD i []).getD i 0)
      have eR : R.getD i [] = R[i] := getD_get (List.getElem?_eq_getElem (by omega))
      rw [eR] at w ⊢
      rw [List.getD_eq_getElem?_getD, List.getElem?_eq_getElem (by omega)]
      rfl)
    have qe := ent_of qs lR wd hi
    refine ⟨_, rfl, _, rfl, _, rfl, _, rfl, tb0, _, _, _, rfl, rfl, SqL.of (Sa _ _ hT0), (by rw [Int.zero_add]; exact ref_at ga), _, rfl, ra, _, _, _, rfl, rfl, SqL.of hxs, (by rw [Int.zero_add]; exact atI_nat hv), κ, u, v, d, ent R i i, rfl, nu, nv, (diag_sz qd (fun e => by have := q4 e; omega)).b1 (by decide), qm_b1 qe, fun Hb t Sb nt => ?_⟩
    exact ⟨_, t, _, rfl, Sa.trans Sb, nt, by rw [ed]; rfl, diag_step qd qe⟩
  rintro σ H6 ⟨z7, u0', d0, rfl, S46, nu, ed, qd⟩
  clear nu0 S5
  have szu := diag_sz qd q4
  have ed' : d0 = det n (ent R) := by rw [ed, det_tri low]
  clear ed qd
  have ce4 := ce3.same S4
  have ce6 := ce4.same S46
  have kx6 := ((kx2.same S47).same S4).same S46
  refine ⟨_, rfl, _, rfl, c, _, rfl, .inl (SqL.of ce6.l), _, _, rfl, rfl, ⟨by decide, by decide⟩, c, _, _, _, rfl, rfl, SqL.of ce6.l, (by rw [List.length_map, d3]; exact int_at (by omega)), _, _, rfl, rfl, .inr ⟨by decide, by decide⟩, _, _, rfl, rfl, (by show (0 : Int) < _; decide), _, rfl, c, _, rfl, .inl (SqL.of ce6.l), _, _, rfl, rfl, (by rw [List.length_map]; show (cs.length : Int) ≠ 0; omega), ?_⟩
  rw [List.length_map]
  show gName 8 (V.int ((cs[cs.length / 3] * 30323 % 65581).fmod (cs.length : Int))) _ H6 _
  generalize (cs[cs.length / 3] * 30323 % 65581).fmod (cs.length : Int) = cut
  have copy : ∀ (tb : Addr) (rs : List Addr) (X : List (List κ.F)) (H7 : Hp), H7 tb = some (.lst (rs.map V.ref)) → RowsX κ H7 rs X → X.length = n → ∀ (i : Nat) (x : V) (ys : List V) (H8 : Hp), (rs.map V.ref)[i]? = some x → (∃ cs : List Addr, ys = cs.map V.ref ∧ Same H7 H8 ∧ RowsX κ H8 cs (X.take i)) → ∃ a xs, x = .ref a ∧ H8 a = some (.lst xs) ∧ ∀ l, H8 l = none → ∃ cs : List Addr, ys ++ [.ref l] = cs.map V.ref ∧ Same H7 (upd H8 l (.lst xs)) ∧ RowsX κ (upd H8 l (.lst xs)) cs (X.take (i + 1)) := by
    rintro tb rs X H7 hT rx lX i x ys H8 hx ⟨cs', rfl, S, ra⟩
    obtain ⟨a, ha, rfl⟩ := map_ref_get hx
    obtain ⟨f, hf⟩ := get_of_lt ha rx.1
    obtain ⟨xs, hxs, fl⟩ := rx.2 i a f ha hf
    refine ⟨a, xs, rfl, S _ _ hxs, fun l nl => ?_⟩
    have Sl := same_new nl (.lst xs)
    refine ⟨cs' ++ [l], by rw [List.map_append]; rfl, S.trans Sl, ?_⟩
    rw [List.take_succ, hf]
    exact (ra.same Sl).snoc upd_same (fl.mono fun _ _ n => n.same (S.trans Sl))
  have hN : 10 ^ 20 * 60 ≤ 10 ^ 50 := by decide
  have sz0 : SzM κ (10 ^ 20 * 60) 0 R := ⟨60, by decide, by decide, by rw [Nat.pow_zero, Nat.mul_one]; exact qs⟩
  refine ⟨_, rfl, c, _, rfl, .inl (SqL.of ce6.l), _, rfl, ?_⟩
  rw [List.length_map]
  refine ⟨by omega, by omega, ?_⟩
  rw [Int.toNat_natCast]
  refine for_range (lo := 0) (n := cs.length) (fun i σ Ha => ∃ (z9 z10 z11 : Option V) (u : V) (d : κ.F) (tb : Addr) (rs : List Addr) (X : List (List κ.F)), σ = [some (.ref a), some (.ref c), some (.int κ.P), some (.ref kk), some (.int (n : Int)), some (.ref tb), some u, z7, some (.int cut), z9, z10, z11] ∧ Same H6 Ha ∧ Ha tb = some (.lst (rs.map V.ref)) ∧ RowsX κ Ha rs X ∧ X.length = n ∧ Wid n X ∧ SzM κ (10 ^ 20 * 60) i X ∧ NR κ Ha u d ∧ d = det n (ent X) ∧ SzU κ i d) ⟨_, _, _, _, d0, tb0, rs0, R, rfl, Same.refl _, S46 _ _ hT0, rx0.same S46, lR, wd, sz0, nu, ed', szu⟩ ?_ ?_
  · rintro i σ Ha hi ⟨z9, z10, z11, u, d, tb', rs', X, rfl, Sa, hT, rx, lX, wX, sz, nu, ed, su⟩
    have cea := ce6.same Sa
    refine ⟨_, rfl, _, rfl, _, rfl, c, _, _, _, rfl, rfl, SqL.of cea.l, (by rw [Int.zero_add]; exact int_at hi), _, rfl, κ, cs[i], n, rfl, n1, n7, fun Hb tv tt Sb tr okt t3 => ?_⟩
    have okR : tt.ok X.length := by rw [lX]; exact okt
    refine ⟨_, rfl, _, rfl, _, rfl, κ, tb', rs', X, tv, tt, rfl, Sb _ _ hT, rx.same Sb, by omega, (fun f hf => by rw [wX f hf]; omega), tr, okR, sz.pre (by omega) hN t3, fun Hd D2 ds Sd hD2 rD2 => ?_⟩
    have det2 := det_turn lX wX okt
    have lX2 : (doT tt X).length = n := by rw [doT_len, lX]
    have wX2 : Wid n (doT tt X) := doT_wid wX okR
    have sz2 := sz.step t3
    refine ⟨_, rfl, _, rfl, _, rfl, κ, u, tv, d, tt, rfl, (nu.same Sb).same Sd, tr.same Sd, t3, su.b1 (by omega), fun He u2 Se nu2 => ?_⟩
    have su2 := su.step t3
    rw [ed, ← det2] at nu2 su2
    have S6e := Sa.trans (Sb.trans (Sd.trans Se))
    have hD3 := Se _ _ hD2
    have rD3 := rD2.same Se
    clear rD2 hD2 rx hT sz nu ed su det2
    generalize doT tt X = X2 at *
    have l4 : κ = .q → X2.length ≤ 4 := fun e => by rw [lX2]; exact q4 e
    by_cases q : (0 + (i : Int)) = cut ∨ (0 + (i : Int)) = (cs.length : Int) - 1
    · by_cases q1 : (0 + (i : Int)) = cut
      case' pos => refine ⟨_, rfl, _, rfl, rfl, _, rfl, if_yes' q1 ?_⟩
      case' neg =>
        refine ⟨_, rfl, _, rfl, rfl, _, rfl, if_no' q1 ⟨_, rfl, _, rfl, c, _, rfl, .inl (SqL.of (S6e _ _ ce6.l)), _, _, rfl, rfl, rfl, _, rfl, ?_⟩⟩
        rw [List.length_map]
        refine if_yes' (show (0 + (i : Int)) = (cs.length : Int) - 1 from q.resolve_left q1) ?_
      all_goals
        refine ⟨_, rfl, D2, rfl, ⟨_, SqL.of hD3⟩, ?_⟩
        refine comp_list (K := K) (a := D2) (xs := ds.map V.ref) (fun i ys H7 => ∃ cs : List Addr, ys = cs.map V.ref ∧ Same He H7 ∧ RowsX κ H7 cs (X2.take i)) (by rw [List.length_map, rD3.1]; omega) ⟨[], rfl, Same.refl _, by rw [List.take_zero]; exact .nil⟩ (fun i ys H7 _ ⟨as, _, S, _⟩ => SqL.of (S _ _ hD3)) ?_ ?_
        · rintro i x ys H7 hx hl' h7
          obtain ⟨a, xs, rfl, hxs, g⟩ := copy D2 ds _ He hD3 rD3 (by omega) i x ys H7 hx h7
          exact ⟨_, rfl, a, xs, rfl, .inl (SqL.of hxs), fun l nl => g l nl⟩
        rintro ys Hf hl' ⟨rs3, rfl, Sf, rc3⟩ tb3 ntb3
        rw [List.length_map, rD3.1, List.take_length] at rc3
        have Sg := same_new ntb3 (.lst (rs3.map V.ref))
        have qf := upd_same (H := Hf) (a := tb3) (o := .lst (rs3.map V.ref))
        generalize upd Hf tb3 (.lst (rs3.map V.ref)) = Hg at *
        have Seg := Sf.trans Sg
        have S6g := S6e.trans Seg
        refine ⟨_, rfl, _, rfl, _, rfl, κ, kk, tb3, rs3, X2, n, rfl, kx6.same S6g, ⟨qf, rc3.same Sg, wX2, by omega, by omega⟩, (fun z => absurd lX2 z), fun _ => ⟨n7, sz2.szd (by omega) hN l4, fun Hh vv Sh nv => ?_⟩⟩
        have Seh := Seg.trans Sh
        refine ⟨_, rfl, κ, vv, u2, _, rfl, nv, nu2.same Seh, _, rfl, ?_⟩
        refine ⟨_, rfl, _, rfl, _, (((rc3.same Sg).same Sh).rp (Sh _ _ qf)).mono (by decide), ((rD3.same Seh).rp (Seh _ _ hD3)).mono (by decide), _, rfl, ?_⟩
        exact ⟨_, _, _, u2, _, D2, ds, X2, rfl, S6e.trans Seh, Seh _ _ hD3, rD3.same Seh, lX2, wX2, sz2, nu2.same Seh, rfl, su2⟩
    · refine ⟨_, rfl, _, rfl, rfl, _, rfl, if_no' (fun z => q (.inl z)) ⟨_, rfl, _, rfl, c, _, rfl, .inl (SqL.of (S6e _ _ ce6.l)), _, _, rfl, rfl, rfl, _, rfl, ?_⟩⟩
      rw [List.length_map]
      refine if_no' (show ¬ (0 + (i : Int)) = (cs.length : Int) - 1 from fun z => q (.inr z)) ?_
      exact ⟨_, _, _, u2, _, D2, ds, X2, rfl, S6e, hD3, rD3, lX2, wX2, sz2, nu2, rfl, su2⟩
  · rintro σ Ha ⟨z9, z10, z11, u, d, tb', rs', X, rfl, Sa, hT, rx, lX, wX, sz, nu, ed, su⟩
    obtain ⟨y2, ey2⟩ := back2 l1
    refine ⟨_, rfl, _, rfl, tb', rfl, ⟨_, SqL.of hT⟩, ?_⟩
    refine comp_list (K := K) (a := tb') (xs := rs'.map V.ref) (fun i ys H7 => ∃ cs : List Addr, ys = cs.map V.ref ∧ Same Ha H7 ∧ RowsX κ H7 cs (X.take i)) (by rw [List.length_map, rx.1]; omega) ⟨[], rfl, Same.refl _, by rw [List.take_zero]; exact .nil⟩ (fun i ys H7 _ ⟨as, _, S, _⟩ => SqL.of (S _ _ hT)) ?_ ?_
    · rintro i x ys H7 hx hl' h7
      obtain ⟨a, xs, rfl, hxs, g⟩ := copy tb' rs' _ Ha hT rx (by omega) i x ys H7 hx h7
      exact ⟨_, rfl, a, xs, rfl, .inl (SqL.of hxs), fun l nl => g l nl⟩
    rintro ys Hf hl' ⟨rs3, rfl, Sf, rc3⟩ tb3 ntb3
    rw [List.length_map, rx.1, List.take_length] at rc3
    have Sg := same_new ntb3 (.lst (rs3.map V.ref))
    have qf := upd_same (H := Hf) (a := tb3) (o := .lst (rs3.map V.ref))
    generalize upd Hf tb3 (.lst (rs3.map V.ref)) = Hg at *
    have S6g := Sa.trans (Sf.trans Sg)
    have ceg := ce6.same S6g
    refine ⟨_, rfl, _, rfl, c, _, rfl, .inl (SqL.of ceg.l), _, _, rfl, rfl, c, _, _, _, rfl, rfl, SqL.of ceg.l, (by rw [List.length_map]; exact ey2), κ, tb3, rs3, X, n, _, rfl, ⟨qf, rc3.same Sg, wX, by omega, by omega⟩, lX, n7, fun Hh D ds B m Sh tB bad => ?_⟩
    exact ⟨κ, kk, D, ds, B, m, rfl, kx6.same (S6g.trans Sh), tB, bad, fun Hi _ => k Hi⟩
end
end My

/-! names that are taken, so that the head lays no twins of what it writes out (it goes as well without, and the proof is smaller by tens of MB) -/
theorem PySem.W.Fast.tw261117605819570176 : True := trivial
theorem PySem.W.Fast.tw1277459952965836896 : True := trivial
theorem PySem.W.Fast.tw10260916951606014080 : True := trivial
theorem PySem.W.Fast.tw228940762912424128 : True := trivial
theorem PySem.W.Fast.tw7748194809198993728 : True := trivial
theorem PySem.W.Fast.tw17254961688031238496 : True := trivial
theorem PySem.W.Fast.tw9406627285203044832 : True := trivial
theorem PySem.W.Fast.tw12591511836380467680 : True := trivial
theorem PySem.W.Fast.tw7494074059746972224 : True := trivial
theorem PySem.W.Fast.tw4242297076708984480 : True := trivial
theorem PySem.W.Fast.tw13118363514196606688 : True := trivial
theorem PySem.W.Fast.tw11451990446220479232 : True := trivial
theorem PySem.W.Fast.tw7494224153838341920 : True := trivial
theorem PySem.W.Fast.tw1489777999041056672 : True := trivial
theorem PySem.W.Fast.tw1119775661348907936 : True := trivial
theorem PySem.W.Fast.tw16842550430000370849 : True := trivial
theorem PySem.W.Fast.tw1055403293724436705 : True := trivial
theorem PySem.W.Fast.tw629745949846194433 : True := trivial
theorem PySem.W.Fast.tw10175073334541233473 : True := trivial
theorem PySem.W.Fast.tw14476115309401580033 : True := trivial
theorem PySem.W.Fast.tw11636455036590740993 : True := trivial
theorem PySem.W.Fast.tw6852777894263204417 : True := trivial
theorem PySem.W.Fast.tw3107276790224755297 : True := trivial
theorem PySem.W.Fast.tw14428454308635838113 : True := trivial
theorem PySem.W.Fast.tw2981455540068019905 : True := trivial
theorem PySem.W.Fast.tw5761674884679142113 : True := trivial
theorem PySem.W.Fast.tw18378884240706018017 : True := trivial
theorem PySem.W.Fast.tw2493140636971262689 : True := trivial
theorem PySem.W.Fast.tw119202587388827425 : True := trivial
theorem PySem.W.Fast.tw10228526964239026977 : True := trivial
theorem PySem.W.Fast.tw12146385464623034241 : True := trivial
theorem PySem.W.Fast.tw3473459580480204705 : True := trivial
theorem PySem.W.Fast.tw7419912507505455041 : True := trivial
theorem PySem.W.Fast.tw9937344165213879233 : True := trivial
theorem PySem.W.Fast.tw16896634442247853154 : True := trivial
theorem PySem.W.Fast.tw14608612738322969730 : True := trivial
theorem PySem.W.Fast.tw11540539841576520898 : True := trivial
theorem PySem.W.Fast.tw18360472244378418402 : True := trivial
theorem PySem.W.Fast.tw6239148354017000674 : True := trivial
theorem PySem.W.Fast.tw3527361729566072066 : True := trivial
theorem PySem.W.Fast.tw16854617257898720578 : True := trivial
theorem PySem.W.Fast.tw2288301805472458082 : True := trivial
theorem PySem.W.Fast.tw6218601320175656290 : True := trivial
theorem PySem.W.Fast.tw13441096960054828546 : True := trivial
theorem PySem.W.Fast.tw3521505719083697698 : True := trivial
theorem PySem.W.Fast.tw10230296106796574306 : True := trivial
theorem PySem.W.Fast.tw12176553273555281538 : True := trivial
theorem PySem.W.Fast.tw7390957911959531202 : True := trivial
theorem PySem.W.Fast.tw14113592382129109730 : True := trivial
theorem PySem.W.Fast.tw14446762118349904642 : True := trivial
theorem PySem.W.Fast.tw11182312143779231522 : True := trivial
theorem PySem.W.Fast.tw9850766282722811682 : True := trivial
theorem PySem.W.Fast.tw994911846585185090 : True := trivial
theorem PySem.W.Fast.tw17547616470020049730 : True := trivial
theorem PySem.W.Fast.tw12535926238930039618 : True := trivial
theorem PySem.W.Fast.tw13568962291801251682 : True := trivial
theorem PySem.W.Fast.tw3120837217341136802 : True := trivial
theorem PySem.W.Fast.tw8040877564564751330 : True := trivial
theorem PySem.W.Fast.tw10614436076889715811 : True := trivial
theorem PySem.W.Fast.tw8837163754848977059 : True := trivial
theorem PySem.W.Fast.tw11444568518202748099 : True := trivial
theorem PySem.W.Fast.tw1246667843178930467 : True := trivial
theorem PySem.W.Fast.tw4036469261100128611 : True := trivial
theorem PySem.W.Fast.tw5295129625779402115 : True := trivial
theorem PySem.W.Fast.tw17019309267282753027 : True := trivial
theorem PySem.W.Fast.tw16743631249531226659 : True := trivial
theorem PySem.W.Fast.tw10299758785559942691 : True := trivial
theorem PySem.W.Fast.tw15885192639883265603 : True := trivial
theorem PySem.W.Fast.tw3102029239694776963 : True := trivial
theorem PySem.W.Fast.tw6665513718596956867 : True := trivial
theorem PySem.W.Fast.tw9921532068404183779 : True := trivial
theorem PySem.W.Fast.tw8445853396399434467 : True := trivial
theorem PySem.W.Fast.tw4184141514827049731 : True := trivial
theorem PySem.W.Fast.tw18401652862796740387 : True := trivial
theorem PySem.W.Fast.tw7541814279678884707 : True := trivial
theorem PySem.W.Fast.tw4467129060609331075 : True := trivial
theorem PySem.W.Fast.tw989804102179374979 : True := trivial
theorem PySem.W.Fast.tw6973596577243232163 : True := trivial
theorem PySem.W.Fast.tw207681725184081827 : True := trivial
theorem PySem.W.Fast.tw13974184905303802916 : True := trivial
theorem PySem.W.Fast.tw17151949735595806788 : True := trivial
theorem PySem.W.Fast.tw332084081342706852 : True := trivial
theorem PySem.W.Fast.tw13611371131717867748 : True := trivial
theorem PySem.W.Fast.tw15422290702469264612 : True := trivial
theorem PySem.W.Fast.tw10268458199768505636 : True := trivial
theorem PySem.W.Fast.tw4567419551166708004 : True := trivial
theorem PySem.W.Fast.tw3874614828455982372 : True := trivial
theorem PySem.W.Fast.tw9537758169167612228 : True := trivial
theorem PySem.W.Fast.tw17126268046956002660 : True := trivial
theorem PySem.W.Fast.tw2240746569635534244 : True := trivial
theorem PySem.W.Fast.tw16748574767518967204 : True := trivial
theorem PySem.W.Fast.tw6860667153975141860 : True := trivial
theorem PySem.W.Fast.tw11995263281582813668 : True := trivial
theorem PySem.W.Fast.tw10462099255409946116 : True := trivial
theorem PySem.W.Fast.tw5952873765447277092 : True := trivial
theorem PySem.W.Fast.tw1469118008875103844 : True := trivial
theorem PySem.W.Fast.tw7050215342135765700 : True := trivial
theorem PySem.W.Fast.tw15978531511911448260 : True := trivial
theorem PySem.W.Fast.tw13294197930464213796 : True := trivial
theorem PySem.W.Fast.tw7935517380387245924 : True := trivial
theorem PySem.W.Fast.tw18088572643530327972 : True := trivial
theorem PySem.W.Fast.tw11614268396621301700 : True := trivial
theorem PySem.W.Fast.tw18409253766329497572 : True := trivial
theorem PySem.W.Fast.tw2762210507322864645 : True := trivial
theorem PySem.W.Fast.tw17718648270090361861 : True := trivial
theorem PySem.W.Fast.tw9413717505855828005 : True := trivial
theorem PySem.W.Fast.tw7626550791497159749 : True := trivial
theorem PySem.W.Fast.tw13378746919716545605 : True := trivial
theorem PySem.W.Fast.tw114494172153114693 : True := trivial
theorem PySem.W.Fast.tw6881250346792620165 : True := trivial
theorem PySem.W.Fast.tw5357452559332745381 : True := trivial
theorem PySem.W.Fast.tw12350428573997649093 : True := trivial
theorem PySem.W.Fast.tw693605888821738725 : True := trivial
theorem PySem.W.Fast.tw8351416664611158245 : True := trivial
theorem PySem.W.Fast.tw10109649482825825509 : True := trivial
theorem PySem.W.Fast.tw18050205443684107525 : True := trivial
theorem PySem.W.Fast.tw9714341033337372133 : True := trivial
theorem PySem.W.Fast.tw12057415340370265637 : True := trivial
theorem PySem.W.Fast.tw12141748194590183973 : True := trivial
theorem PySem.W.Fast.tw8502903647534352965 : True := trivial
theorem PySem.W.Fast.tw17691529109124694597 : True := trivial
theorem PySem.W.Fast.tw10308411941867671141 : True := trivial
theorem PySem.W.Fast.tw16798721646613431077 : True := trivial
theorem PySem.W.Fast.tw1437575457635298117 : True := trivial
theorem PySem.W.Fast.tw8115882610896131941 : True := trivial
theorem PySem.W.Fast.tw2172155281669759909 : True := trivial
theorem PySem.W.Fast.tw746277676819689381 : True := trivial
theorem PySem.W.Fast.tw7689150434728737701 : True := trivial
theorem PySem.W.Fast.tw13152660348391540742 : True := trivial
theorem PySem.W.Fast.tw11935339624676924518 : True := trivial
theorem PySem.W.Fast.tw6401006330168122502 : True := trivial
theorem PySem.W.Fast.tw16282494731800627494 : True := trivial
theorem PySem.W.Fast.tw17948330798431736166 : True := trivial
theorem PySem.W.Fast.tw12610530961371943270 : True := trivial
theorem PySem.W.Fast.tw15397208193633955302 : True := trivial
theorem PySem.W.Fast.tw3330560814326378054 : True := trivial
theorem PySem.W.Fast.tw8783900715891123814 : True := trivial
theorem PySem.W.Fast.tw3174769213577808518 : True := trivial
theorem PySem.W.Fast.tw5302012570025408134 : True := trivial
theorem PySem.W.Fast.tw9664244871375467174 : True := trivial
theorem PySem.W.Fast.tw2307726161308930790 : True := trivial
theorem PySem.W.Fast.tw15858757972702874406 : True := trivial
theorem PySem.W.Fast.tw15164541939208533958 : True := trivial
theorem PySem.W.Fast.tw4434856786084216903 : True := trivial
theorem PySem.W.Fast.tw16416681280072850535 : True := trivial
theorem PySem.W.Fast.tw6154440325012969671 : True := trivial
theorem PySem.W.Fast.tw6748280356102663367 : True := trivial
theorem PySem.W.Fast.tw14677143652713592039 : True := trivial
theorem PySem.W.Fast.tw6094405219449960679 : True := trivial
theorem PySem.W.Fast.tw18083318875473576199 : True := trivial
theorem PySem.W.Fast.tw12355790664717074759 : True := trivial
theorem PySem.W.Fast.tw11679695343262538055 : True := trivial
theorem PySem.W.Fast.tw6967404152433071495 : True := trivial
theorem PySem.W.Fast.tw14925634974538166695 : True := trivial
theorem PySem.W.Fast.tw6056803748770084295 : True := trivial
theorem PySem.W.Fast.tw2008784468105093607 : True := trivial
theorem PySem.W.Fast.tw10468876467188329063 : True := trivial
theorem PySem.W.Fast.tw2174681094178333383 : True := trivial
theorem PySem.W.Fast.tw16502499170691887879 : True := trivial
theorem PySem.W.Fast.tw9956532444674834247 : True := trivial
theorem PySem.W.Fast.tw6996346967043694407 : True := trivial
theorem PySem.W.Fast.tw3595674367181932423 : True := trivial
theorem PySem.W.Fast.tw5764756808063886279 : True := trivial
theorem PySem.W.Fast.tw5747746533073044552 : True := trivial
theorem PySem.W.Fast.tw6069600609269491816 : True := trivial
theorem PySem.W.Fast.tw15270738830977971560 : True := trivial
theorem PySem.W.Fast.tw6475922463861763560 : True := trivial
theorem PySem.W.Fast.tw15147139581433496072 : True := trivial
theorem PySem.W.Fast.tw16088308441668336200 : True := trivial
theorem PySem.W.Fast.tw2215772768657327720 : True := trivial
theorem PySem.W.Fast.tw18251706077168616104 : True := trivial
theorem PySem.W.Fast.tw15732725234046723784 : True := trivial
theorem PySem.W.Fast.tw6167925744019697384 : True := trivial
theorem PySem.W.Fast.tw880048154614493928 : True := trivial
theorem PySem.W.Fast.tw6661035645056253672 : True := trivial
theorem PySem.W.Fast.tw9487710652505123720 : True := trivial
theorem PySem.W.Fast.tw6966630876072440776 : True := trivial
theorem PySem.W.Fast.tw6047587845920780232 : True := trivial
theorem PySem.W.Fast.tw3409906869143547913 : True := trivial
theorem PySem.W.Fast.tw1988153768630818889 : True := trivial
theorem PySem.W.Fast.tw12333458681413405801 : True := trivial
theorem PySem.W.Fast.tw12903959523498640489 : True := trivial
theorem PySem.W.Fast.tw5226949686107349129 : True := trivial
theorem PySem.W.Fast.tw10060692085415251113 : True := trivial
theorem PySem.W.Fast.tw14189369758516793513 : True := trivial
theorem PySem.W.Fast.tw447266654576741609 : True := trivial
theorem PySem.W.Fast.tw17849209567838027017 : True := trivial
theorem PySem.W.Fast.tw17628147360565626121 : True := trivial
theorem PySem.W.Fast.tw2046097122854642985 : True := trivial
theorem PySem.W.Fast.tw16175370806063333769 : True := trivial
theorem PySem.W.Fast.tw13046837171099504105 : True := trivial
theorem PySem.W.Fast.tw3165811474984824329 : True := trivial
theorem PySem.W.Fast.tw18363938159481665129 : True := trivial
theorem PySem.W.Fast.tw7782324101381208777 : True := trivial
theorem PySem.W.Fast.tw4442210483760540457 : True := trivial
theorem PySem.W.Fast.tw5028657143998090057 : True := trivial
theorem PySem.W.Fast.tw15873284978645138313 : True := trivial
theorem PySem.W.Fast.tw4923574370828892073 : True := trivial
theorem PySem.W.Fast.tw7255007686513719273 : True := trivial
theorem PySem.W.Fast.tw11218557080979671114 : True := trivial
theorem PySem.W.Fast.tw8774054299781456074 : True := trivial
theorem PySem.W.Fast.tw5511304109624051946 : True := trivial
theorem PySem.W.Fast.tw8482682059606628618 : True := trivial
theorem PySem.W.Fast.tw9593406072662210826 : True := trivial
theorem PySem.W.Fast.tw907916372625408298 : True := trivial
theorem PySem.W.Fast.tw16561996605824957802 : True := trivial
theorem PySem.W.Fast.tw8092771567969793386 : True := trivial
theorem PySem.W.Fast.tw173606515969900938 : True := trivial
theorem PySem.W.Fast.tw15119730926987919818 : True := trivial
theorem PySem.W.Fast.tw4662267246045302250 : True := trivial
theorem PySem.W.Fast.tw6163721345060410890 : True := trivial
theorem PySem.W.Fast.tw13592289243826241034 : True := trivial
theorem PySem.W.Fast.tw14984663584329549354 : True := trivial
theorem PySem.W.Fast.tw16930942049031360106 : True := trivial
theorem PySem.W.Fast.tw8278075908812640874 : True := trivial
theorem PySem.W.Fast.tw14340249135028001386 : True := trivial
theorem PySem.W.Fast.tw5996065910377277034 : True := trivial
theorem PySem.W.Fast.tw16713599310071466 : True := trivial
theorem PySem.W.Fast.tw4334944152835172010 : True := trivial
theorem PySem.W.Fast.tw16710507104067482282 : True := trivial
theorem PySem.W.Fast.tw17751582165626187466 : True := trivial
theorem PySem.W.Fast.tw16674851510193728234 : True := trivial
theorem PySem.W.Fast.tw9742356701797039850 : True := trivial
theorem PySem.W.Fast.tw8109801027998433002 : True := trivial
theorem PySem.W.Fast.tw1753213836937701226 : True := trivial
theorem PySem.W.Fast.tw5275983012266427274 : True := trivial
theorem PySem.W.Fast.tw5822604216514750346 : True := trivial
theorem PySem.W.Fast.tw17069650739683329994 : True := trivial
theorem PySem.W.Fast.tw4909608525792943050 : True := trivial
theorem PySem.W.Fast.tw5048927394746871754 : True := trivial
theorem PySem.W.Fast.tw12004120087316017098 : True := trivial
theorem PySem.W.Fast.tw17123289204579584011 : True := trivial
theorem PySem.W.Fast.tw5283635846721299467 : True := trivial
theorem PySem.W.Fast.tw16677195853672823883 : True := trivial
theorem PySem.W.Fast.tw14314833129249008779 : True := trivial
theorem PySem.W.Fast.tw18283598820922638635 : True := trivial
theorem PySem.W.Fast.tw9825378595498527083 : True := trivial
theorem PySem.W.Fast.tw6423069522696720747 : True := trivial
theorem PySem.W.Fast.tw2363275025129090443 : True := trivial
theorem PySem.W.Fast.tw9033498198604509643 : True := trivial
theorem PySem.W.Fast.tw3348422756527473099 : True := trivial
theorem PySem.W.Fast.tw2797410372657446379 : True := trivial
theorem PySem.W.Fast.tw13946519939790893675 : True := trivial
theorem PySem.W.Fast.tw15041943887446856395 : True := trivial
theorem PySem.W.Fast.tw11592005954284295915 : True := trivial
theorem PySem.W.Fast.tw4836787663105761131 : True := trivial
theorem PySem.W.Fast.tw3680450710236975979 : True := trivial
theorem PySem.W.Fast.tw3354447739297887083 : True := trivial
theorem PySem.W.Fast.tw14873425579792889707 : True := trivial
theorem PySem.W.Fast.tw15453472976197457899 : True := trivial
theorem PySem.W.Fast.tw17654746928176418795 : True := trivial
theorem PySem.W.Fast.tw2318510690709737484 : True := trivial
theorem PySem.W.Fast.tw403358994988533772 : True := trivial
theorem PySem.W.Fast.tw789082796995364940 : True := trivial
theorem PySem.W.Fast.tw1345350219386485836 : True := trivial
theorem PySem.W.Fast.tw14439700544184111276 : True := trivial
theorem PySem.W.Fast.tw8473965567372996844 : True := trivial
theorem PySem.W.Fast.tw9727521897210772780 : True := trivial
theorem PySem.W.Fast.tw84412630274032940 : True := trivial
theorem PySem.W.Fast.tw17983270350510983564 : True := trivial
theorem PySem.W.Fast.tw2625069544940181900 : True := trivial
theorem PySem.W.Fast.tw14108696526272672204 : True := trivial
theorem PySem.W.Fast.tw2922073659008021004 : True := trivial
theorem PySem.W.Fast.tw14185655105114069516 : True := trivial
theorem PySem.W.Fast.tw17698936750321576524 : True := trivial
theorem PySem.W.Fast.tw12652005314212650636 : True := trivial
theorem PySem.W.Fast.tw10178143140582743724 : True := trivial
theorem PySem.W.Fast.tw649665554158307052 : True := trivial
theorem PySem.W.Fast.tw12417595028274203500 : True := trivial
theorem PySem.W.Fast.tw12998261493655818124 : True := trivial
theorem PySem.W.Fast.tw3276854358689130412 : True := trivial
theorem PySem.W.Fast.tw7299532408321863693 : True := trivial
theorem PySem.W.Fast.tw18108335318037207149 : True := trivial
theorem PySem.W.Fast.tw6887680854188131437 : True := trivial
theorem PySem.W.Fast.tw2884049851208779917 : True := trivial
theorem PySem.W.Fast.tw13274645623776834701 : True := trivial
theorem PySem.W.Fast.tw271198559388854445 : True := trivial
theorem PySem.W.Fast.tw10587088130899014829 : True := trivial
theorem PySem.W.Fast.tw5582416631099714797 : True := trivial
theorem PySem.W.Fast.tw15770226871829989741 : True := trivial
theorem PySem.W.Fast.tw2893675349023267181 : True := trivial
theorem PySem.W.Fast.tw1855355161237236109 : True := trivial
theorem PySem.W.Fast.tw17868316999139507629 : True := trivial
theorem PySem.W.Fast.tw6462337183628097005 : True := trivial
theorem PySem.W.Fast.tw7974312217373928013 : True := trivial
theorem PySem.W.Fast.tw9836768454745675373 : True := trivial
theorem PySem.W.Fast.tw237858871204577901 : True := trivial
theorem PySem.W.Fast.tw18178559483773223597 : True := trivial
theorem PySem.W.Fast.tw2698493859954589357 : True := trivial
theorem PySem.W.Fast.tw12619077001904103149 : True := trivial
theorem PySem.W.Fast.tw1777588679835423501 : True := trivial
theorem PySem.W.Fast.tw11209917323775208462 : True := trivial
theorem PySem.W.Fast.tw6523130806783250446 : True := trivial
theorem PySem.W.Fast.tw15858592935744494638 : True := trivial
theorem PySem.W.Fast.tw5219795138290249870 : True := trivial
theorem PySem.W.Fast.tw4161184978634411182 : True := trivial
theorem PySem.W.Fast.tw7085522632992131406 : True := trivial
theorem PySem.W.Fast.tw5597917023585230286 : True := trivial
theorem PySem.W.Fast.tw15019603071341115918 : True := trivial
theorem PySem.W.Fast.tw8899690074688987662 : True := trivial
theorem PySem.W.Fast.tw11135783601490307726 : True := trivial
theorem PySem.W.Fast.tw10899321259761383182 : True := trivial
theorem PySem.W.Fast.tw16359310526506987438 : True := trivial
theorem PySem.W.Fast.tw17202000998882897902 : True := trivial
theorem PySem.W.Fast.tw5855638325593126927 : True := trivial
theorem PySem.W.Fast.tw2574865414843390991 : True := trivial
theorem PySem.W.Fast.tw1677955130720503855 : True := trivial
theorem PySem.W.Fast.tw8198222573762362479 : True := trivial
theorem PySem.W.Fast.tw17300401906123982959 : True := trivial
theorem PySem.W.Fast.tw9515320175196959855 : True := trivial
theorem PySem.W.Fast.tw16718124603164883055 : True := trivial
theorem PySem.W.Fast.tw12022201982583388431 : True := trivial
theorem PySem.W.Fast.tw3557787140198840623 : True := trivial
theorem PySem.W.Fast.tw269744381425212751 : True := trivial
theorem PySem.W.Fast.tw4958876770246498671 : True := trivial
theorem PySem.W.Fast.tw11728519954702146927 : True := trivial
theorem PySem.W.Fast.tw17538826736051104175 : True := trivial
theorem PySem.W.Fast.tw13471331071055014319 : True := trivial
theorem PySem.W.Fast.tw2053781153616909775 : True := trivial
theorem PySem.W.Fast.tw9500536271843705423 : True := trivial
theorem PySem.W.Fast.tw17862840045710677583 : True := trivial
theorem PySem.W.Fast.tw6280910347890151023 : True := trivial
theorem PySem.W.Fast.tw18376529553064201935 : True := trivial
theorem PySem.W.Fast.tw5638065442914769615 : True := trivial
theorem PySem.W.Fast.tw13490053877100103375 : True := trivial
theorem PySem.W.Fast.tw4847466812505057999 : True := trivial
theorem PySem.W.Fast.tw9141167024505935599 : True := trivial
theorem PySem.W.Fast.tw14758889961368211215 : True := trivial
theorem PySem.W.Fast.tw683474218681611247 : True := trivial
theorem PySem.W.Fast.tw15186328398930561040 : True := trivial
theorem PySem.W.Fast.tw11898853941854314576 : True := trivial
theorem PySem.W.Fast.tw11014014256151540912 : True := trivial
theorem PySem.W.Fast.tw7810067947832283344 : True := trivial
theorem PySem.W.Fast.tw1481462227260932304 : True := trivial
theorem PySem.W.Fast.tw14860569244993937712 : True := trivial
theorem PySem.W.Fast.tw15888598695562983792 : True := trivial
theorem PySem.W.Fast.tw11328116431511297424 : True := trivial
theorem PySem.W.Fast.tw2913132149784601200 : True := trivial
theorem PySem.W.Fast.tw13608278208162881232 : True := trivial
theorem PySem.W.Fast.tw17590298519155267376 : True := trivial
theorem PySem.W.Fast.tw15428199668598769584 : True := trivial
theorem PySem.W.Fast.tw3566919454905074672 : True := trivial
theorem PySem.W.Fast.tw3798129065672418321 : True := trivial
theorem PySem.W.Fast.tw2994545587582227537 : True := trivial
theorem PySem.W.Fast.tw5793338785030047953 : True := trivial
theorem PySem.W.Fast.tw502637139691670929 : True := trivial
theorem PySem.W.Fast.tw1786918868893490577 : True := trivial
theorem PySem.W.Fast.tw14740634475768542673 : True := trivial
theorem PySem.W.Fast.tw887961676026542545 : True := trivial
theorem PySem.W.Fast.tw10387870334678382097 : True := trivial
theorem PySem.W.Fast.tw12122734567406968369 : True := trivial
theorem PySem.W.Fast.tw7737298750197381777 : True := trivial
theorem PySem.W.Fast.tw17357071563460352689 : True := trivial
theorem PySem.W.Fast.tw9123983674873515729 : True := trivial
theorem PySem.W.Fast.tw12549249647037806321 : True := trivial
theorem PySem.W.Fast.tw1405698391474647793 : True := trivial
theorem PySem.W.Fast.tw18020099104812177265 : True := trivial
theorem PySem.W.Fast.tw7253960062328585073 : True := trivial
theorem PySem.W.Fast.tw5195819288838224849 : True := trivial
theorem PySem.W.Fast.tw17779448580408376466 : True := trivial
theorem PySem.W.Fast.tw18409751715977926802 : True := trivial
theorem PySem.W.Fast.tw10330687190912418994 : True := trivial
theorem PySem.W.Fast.tw6633760027517770962 : True := trivial
theorem PySem.W.Fast.tw725649413141703922 : True := trivial
theorem PySem.W.Fast.tw6782460622438846770 : True := trivial
theorem PySem.W.Fast.tw4776480933640642898 : True := trivial
theorem PySem.W.Fast.tw6928485769632690514 : True := trivial
theorem PySem.W.Fast.tw5153611360640254322 : True := trivial
theorem PySem.W.Fast.tw9058913088768925170 : True := trivial
theorem PySem.W.Fast.tw7991925167623087634 : True := trivial
theorem PySem.W.Fast.tw6135204808551734834 : True := trivial
theorem PySem.W.Fast.tw7429611937707887218 : True := trivial
theorem PySem.W.Fast.tw8356439594104265426 : True := trivial
theorem PySem.W.Fast.tw11081720378698642162 : True := trivial
theorem PySem.W.Fast.tw16261553810283675442 : True := trivial
theorem PySem.W.Fast.tw10596630910034585426 : True := trivial
theorem PySem.W.Fast.tw16191545437154082674 : True := trivial
theorem PySem.W.Fast.tw340680412354689906 : True := trivial
theorem PySem.W.Fast.tw2900812369691708306 : True := trivial
theorem PySem.W.Fast.tw865129437185441714 : True := trivial
theorem PySem.W.Fast.tw2773623704545948594 : True := trivial
theorem PySem.W.Fast.tw2759805800806260722 : True := trivial
theorem PySem.W.Fast.tw13984269732471170099 : True := trivial
theorem PySem.W.Fast.tw10883761880886707251 : True := trivial
theorem PySem.W.Fast.tw1386186007822132275 : True := trivial
theorem PySem.W.Fast.tw14694811591018850387 : True := trivial
theorem PySem.W.Fast.tw3187925659088737395 : True := trivial
theorem PySem.W.Fast.tw6638429021545477299 : True := trivial
theorem PySem.W.Fast.tw4471512439601662259 : True := trivial
theorem PySem.W.Fast.tw2721361566849644851 : True := trivial
theorem PySem.W.Fast.tw7453354623198171507 : True := trivial
theorem PySem.W.Fast.tw12350448969407077747 : True := trivial
theorem PySem.W.Fast.tw3957940081743675795 : True := trivial
theorem PySem.W.Fast.tw14034765493380102611 : True := trivial
theorem PySem.W.Fast.tw9020925471354689043 : True := trivial
theorem PySem.W.Fast.tw16891273811894767155 : True := trivial
theorem PySem.W.Fast.tw11847912676610041395 : True := trivial
theorem PySem.W.Fast.tw7715004454961318483 : True := trivial
theorem PySem.W.Fast.tw2891873702683864787 : True := trivial
theorem PySem.W.Fast.tw168390826285847251 : True := trivial
theorem PySem.W.Fast.tw1756316047049428787 : True := trivial
theorem PySem.W.Fast.tw457117470225939315 : True := trivial
theorem PySem.W.Fast.tw11860687440264408979 : True := trivial
theorem PySem.W.Fast.tw2436107401521228723 : True := trivial
theorem PySem.W.Fast.tw14934786030718982099 : True := trivial
theorem PySem.W.Fast.tw736193613292918771 : True := trivial
theorem PySem.W.Fast.tw2786468891354681396 : True := trivial
theorem PySem.W.Fast.tw15756094201117523092 : True := trivial
theorem PySem.W.Fast.tw11912064887397970100 : True := trivial
theorem PySem.W.Fast.tw14929202154517387508 : True := trivial
theorem PySem.W.Fast.tw2780394235830477076 : True := trivial
theorem PySem.W.Fast.tw10289367866833141012 : True := trivial
theorem PySem.W.Fast.tw5076021711837182260 : True := trivial
theorem PySem.W.Fast.tw6627849203315316020 : True := trivial
theorem PySem.W.Fast.tw16241915098931647828 : True := trivial
theorem PySem.W.Fast.tw10611592032404197748 : True := trivial
theorem PySem.W.Fast.tw15449246428337910196 : True := trivial
theorem PySem.W.Fast.tw4471147292693989908 : True := trivial
theorem PySem.W.Fast.tw10577499959449660948 : True := trivial
theorem PySem.W.Fast.tw401409954903436820 : True := trivial
theorem PySem.W.Fast.tw11025118580504789716 : True := trivial
theorem PySem.W.Fast.tw7694391294106234580 : True := trivial
theorem PySem.W.Fast.tw634055069603275508 : True := trivial
theorem PySem.W.Fast.tw16739191589905396500 : True := trivial
theorem PySem.W.Fast.tw5100841148933543700 : True := trivial
theorem PySem.W.Fast.tw3191964533506057044 : True := trivial
theorem PySem.W.Fast.tw5587086210723258228 : True := trivial
theorem PySem.W.Fast.tw6774418592502360980 : True := trivial
theorem PySem.W.Fast.tw3007591177936101364 : True := trivial
theorem PySem.W.Fast.tw8013856214469823733 : True := trivial
theorem PySem.W.Fast.tw7098039280545950997 : True := trivial
theorem PySem.W.Fast.tw1412271471305980405 : True := trivial
theorem PySem.W.Fast.tw4508237442125766133 : True := trivial
theorem PySem.W.Fast.tw2371186751642121749 : True := trivial
theorem PySem.W.Fast.tw6403791185715821205 : True := trivial
theorem PySem.W.Fast.tw4156456858201826997 : True := trivial
theorem PySem.W.Fast.tw3339474448815855285 : True := trivial
theorem PySem.W.Fast.tw3595538393451636437 : True := trivial
theorem PySem.W.Fast.tw12053920227407657877 : True := trivial
theorem PySem.W.Fast.tw3198915035308024821 : True := trivial
theorem PySem.W.Fast.tw6397780329769676789 : True := trivial
theorem PySem.W.Fast.tw9895521718693396566 : True := trivial
theorem PySem.W.Fast.tw2545934193454926006 : True := trivial
theorem PySem.W.Fast.tw1690406882312268982 : True := trivial
theorem PySem.W.Fast.tw3231279747656285366 : True := trivial
theorem PySem.W.Fast.tw8290474342474536150 : True := trivial
theorem PySem.W.Fast.tw990734579577557270 : True := trivial
theorem PySem.W.Fast.tw13950911527489450358 : True := trivial
theorem PySem.W.Fast.tw6669415038188906870 : True := trivial
theorem PySem.W.Fast.tw4018229202195171830 : True := trivial
theorem PySem.W.Fast.tw9450113629724602870 : True := trivial
theorem PySem.W.Fast.tw921019551976474134 : True := trivial
theorem PySem.W.Fast.tw4907512984921318006 : True := trivial
theorem PySem.W.Fast.tw15640669787215257238 : True := trivial
theorem PySem.W.Fast.tw1984191587885832918 : True := trivial
theorem PySem.W.Fast.tw11944147130556417846 : True := trivial
theorem PySem.W.Fast.tw8037653499487495990 : True := trivial
theorem PySem.W.Fast.tw17183346052177280950 : True := trivial
theorem PySem.W.Fast.tw12462256143454111734 : True := trivial
theorem PySem.W.Fast.tw303459818246003767 : True := trivial
theorem PySem.W.Fast.tw14206135750743850103 : True := trivial
theorem PySem.W.Fast.tw17580085760039822519 : True := trivial
theorem PySem.W.Fast.tw3890721928126176567 : True := trivial
theorem PySem.W.Fast.tw13877033782747987287 : True := trivial
theorem PySem.W.Fast.tw10717038635288854903 : True := trivial
theorem PySem.W.Fast.tw3062368744939413015 : True := trivial
theorem PySem.W.Fast.tw7987393812409771543 : True := trivial
theorem PySem.W.Fast.tw2790743892761032247 : True := trivial
theorem PySem.W.Fast.tw16855948183127085655 : True := trivial
theorem PySem.W.Fast.tw6508074529590273655 : True := trivial
theorem PySem.W.Fast.tw13695700472463737623 : True := trivial
theorem PySem.W.Fast.tw14408743183107359543 : True := trivial
theorem PySem.W.Fast.tw1289955010132802391 : True := trivial
theorem PySem.W.Fast.tw16046209068067502967 : True := trivial
theorem PySem.W.Fast.tw10340975284726216599 : True := trivial
theorem PySem.W.Fast.tw17207144760098433048 : True := trivial
theorem PySem.W.Fast.tw2539677108131238936 : True := trivial
theorem PySem.W.Fast.tw9618195222847486008 : True := trivial
theorem PySem.W.Fast.tw13558752390403432536 : True := trivial
theorem PySem.W.Fast.tw2671061095886015576 : True := trivial
theorem PySem.W.Fast.tw300546490186387576 : True := trivial
theorem PySem.W.Fast.tw12387209852345515160 : True := trivial
theorem PySem.W.Fast.tw13089807755444819160 : True := trivial
theorem PySem.W.Fast.tw17589271177375173848 : True := trivial
theorem PySem.W.Fast.tw7874432587124483544 : True := trivial
theorem PySem.W.Fast.tw3603747213768464920 : True := trivial
theorem PySem.W.Fast.tw17065497216507320888 : True := trivial
theorem PySem.W.Fast.tw2562616733005517432 : True := trivial
theorem PySem.W.Fast.tw6253533923168542360 : True := trivial
theorem PySem.W.Fast.tw7145245166756555512 : True := trivial
theorem PySem.W.Fast.tw3445988353221491448 : True := trivial
theorem PySem.W.Fast.tw17931679892898830104 : True := trivial
theorem PySem.W.Fast.tw3711490241030176568 : True := trivial
theorem PySem.W.Fast.tw17068197239914093400 : True := trivial
theorem PySem.W.Fast.tw12066665306939873144 : True := trivial
theorem PySem.W.Fast.tw13723101916967504792 : True := trivial
theorem PySem.W.Fast.tw1205482911058644920 : True := trivial
theorem PySem.W.Fast.tw12654280065871948760 : True := trivial
theorem PySem.W.Fast.tw8589443184755186680 : True := trivial
theorem PySem.W.Fast.tw10357345098001433657 : True := trivial
theorem PySem.W.Fast.tw1701344358768202809 : True := trivial
theorem PySem.W.Fast.tw6392255800643372121 : True := trivial
theorem PySem.W.Fast.tw591938573944938649 : True := trivial
theorem PySem.W.Fast.tw3436262089732732089 : True := trivial
theorem PySem.W.Fast.tw10994710759660541241 : True := trivial
theorem PySem.W.Fast.tw5973748369980627289 : True := trivial
theorem PySem.W.Fast.tw13251368647678819673 : True := trivial
theorem PySem.W.Fast.tw13874134799178385753 : True := trivial
theorem PySem.W.Fast.tw7121849508825482681 : True := trivial
theorem PySem.W.Fast.tw17248580035037187577 : True := trivial
theorem PySem.W.Fast.tw13763087425735141945 : True := trivial
theorem PySem.W.Fast.tw11114525332760134297 : True := trivial
theorem PySem.W.Fast.tw7234015226245808793 : True := trivial
theorem PySem.W.Fast.tw15886800104938806969 : True := trivial
theorem PySem.W.Fast.tw1592639300697026297 : True := trivial
theorem PySem.W.Fast.tw10514226453864817433 : True := trivial
theorem PySem.W.Fast.tw2431734039334918969 : True := trivial
theorem PySem.W.Fast.tw5620498808936254297 : True := trivial
theorem PySem.W.Fast.tw15643647702891053945 : True := trivial
theorem PySem.W.Fast.tw12330915178710277113 : True := trivial
theorem PySem.W.Fast.tw7885628660026015802 : True := trivial
theorem PySem.W.Fast.tw15687673948256432250 : True := trivial
theorem PySem.W.Fast.tw1023422742617321658 : True := trivial
theorem PySem.W.Fast.tw18144737178026792186 : True := trivial
theorem PySem.W.Fast.tw12874893355114897754 : True := trivial
theorem PySem.W.Fast.tw2238309014522783130 : True := trivial
theorem PySem.W.Fast.tw17670420503562110394 : True := trivial
theorem PySem.W.Fast.tw1760795995510590906 : True := trivial
theorem PySem.W.Fast.tw2757519648085809658 : True := trivial
theorem PySem.W.Fast.tw7071730171331958362 : True := trivial
theorem PySem.W.Fast.tw16263673794063517274 : True := trivial
theorem PySem.W.Fast.tw3097778186922927770 : True := trivial
theorem PySem.W.Fast.tw8579079048310241018 : True := trivial
theorem PySem.W.Fast.tw636507951391074042 : True := trivial
theorem PySem.W.Fast.tw5617576308619907930 : True := trivial
theorem PySem.W.Fast.tw4439123936944691034 : True := trivial
theorem PySem.W.Fast.tw17519040914346809178 : True := trivial
theorem PySem.W.Fast.tw971186305176287226 : True := trivial
theorem PySem.W.Fast.tw16999959526735810619 : True := trivial
theorem PySem.W.Fast.tw10608696214452202683 : True := trivial
theorem PySem.W.Fast.tw14252193436342587611 : True := trivial
theorem PySem.W.Fast.tw6736818729657625883 : True := trivial
theorem PySem.W.Fast.tw17409793765123505467 : True := trivial
theorem PySem.W.Fast.tw11932721296763435387 : True := trivial
theorem PySem.W.Fast.tw8989334201542072699 : True := trivial
theorem PySem.W.Fast.tw14413294310419278235 : True := trivial
theorem PySem.W.Fast.tw5263299190081063387 : True := trivial
theorem PySem.W.Fast.tw10355215932057949723 : True := trivial
theorem PySem.W.Fast.tw18002893957201021499 : True := trivial
theorem PySem.W.Fast.tw8125555744372035195 : True := trivial
theorem PySem.W.Fast.tw9439435437890125467 : True := trivial
theorem PySem.W.Fast.tw2173542425553647355 : True := trivial
theorem PySem.W.Fast.tw9234560341756760827 : True := trivial
theorem PySem.W.Fast.tw16572004105419405083 : True := trivial
theorem PySem.W.Fast.tw14540442670155679547 : True := trivial
theorem PySem.W.Fast.tw6277329267622559579 : True := trivial
theorem PySem.W.Fast.tw16132530259519237051 : True := trivial
theorem PySem.W.Fast.tw5469831345492473851 : True := trivial
theorem PySem.W.Fast.tw14724882571609254940 : True := trivial
theorem PySem.W.Fast.tw5940227979712478268 : True := trivial
theorem PySem.W.Fast.tw16349404506543406140 : True := trivial
theorem PySem.W.Fast.tw7262787791631280220 : True := trivial
theorem PySem.W.Fast.tw12932191376786868348 : True := trivial
theorem PySem.W.Fast.tw14677110391187323004 : True := trivial
theorem PySem.W.Fast.tw939892147214019836 : True := trivial
theorem PySem.W.Fast.tw9560699880021524732 : True := trivial
theorem PySem.W.Fast.tw10321252115089083772 : True := trivial
theorem PySem.W.Fast.tw10551685404464753020 : True := trivial
theorem PySem.W.Fast.tw2721962877305533948 : True := trivial
theorem PySem.W.Fast.tw8587624246753820 : True := trivial
theorem PySem.W.Fast.tw2359986276019328572 : True := trivial
theorem PySem.W.Fast.tw11391888744591588924 : True := trivial
theorem PySem.W.Fast.tw4746965536377126492 : True := trivial
theorem PySem.W.Fast.tw6823007160211255964 : True := trivial
theorem PySem.W.Fast.tw3791064217951606460 : True := trivial
theorem PySem.W.Fast.tw8185710332340286236 : True := trivial
theorem PySem.W.Fast.tw12973189263138982748 : True := trivial
theorem PySem.W.Fast.tw8543700153510528061 : True := trivial
theorem PySem.W.Fast.tw14912246666507097181 : True := trivial
theorem PySem.W.Fast.tw14887898238855989341 : True := trivial
theorem PySem.W.Fast.tw12586643917268974685 : True := trivial
theorem PySem.W.Fast.tw13622618858140642525 : True := trivial
theorem PySem.W.Fast.tw732412371843690717 : True := trivial
theorem PySem.W.Fast.tw10582042999118916829 : True := trivial
theorem PySem.W.Fast.tw7542466408564857117 : True := trivial
theorem PySem.W.Fast.tw2602432711864893725 : True := trivial
theorem PySem.W.Fast.tw9084196569713587517 : True := trivial
theorem PySem.W.Fast.tw1872975750948157757 : True := trivial
theorem PySem.W.Fast.tw8403575650436332989 : True := trivial
theorem PySem.W.Fast.tw9983302761698408893 : True := trivial
theorem PySem.W.Fast.tw6634411912150388189 : True := trivial
theorem PySem.W.Fast.tw2625473083700351453 : True := trivial
theorem PySem.W.Fast.tw7584526411230879197 : True := trivial
theorem PySem.W.Fast.tw13066244781547482717 : True := trivial
theorem PySem.W.Fast.tw13443067909941134941 : True := trivial
theorem PySem.W.Fast.tw15656365558994420381 : True := trivial
theorem PySem.W.Fast.tw2446452175650673373 : True := trivial
theorem PySem.W.Fast.tw14044330267596724029 : True := trivial
theorem PySem.W.Fast.tw14351402195896019773 : True := trivial
theorem PySem.W.Fast.tw10010089363385046845 : True := trivial
theorem PySem.W.Fast.tw3860379395326193533 : True := trivial
theorem PySem.W.Fast.tw11928611885652192286 : True := trivial
theorem PySem.W.Fast.tw14437536287339160670 : True := trivial
theorem PySem.W.Fast.tw13007778571158886494 : True := trivial
theorem PySem.W.Fast.tw804747412093612158 : True := trivial
theorem PySem.W.Fast.tw14860769658149912702 : True := trivial
theorem PySem.W.Fast.tw3337084600930228350 : True := trivial
theorem PySem.W.Fast.tw10364141831810442366 : True := trivial
theorem PySem.W.Fast.tw5769009325121642654 : True := trivial
theorem PySem.W.Fast.tw11301783429160878270 : True := trivial
theorem PySem.W.Fast.tw8705568536289334590 : True := trivial
theorem PySem.W.Fast.tw14051259369675016510 : True := trivial
theorem PySem.W.Fast.tw15205299902739062142 : True := trivial
theorem PySem.W.Fast.tw6318514089362462110 : True := trivial
theorem PySem.W.Fast.tw13899467312020607486 : True := trivial
theorem PySem.W.Fast.tw2350705928540530206 : True := trivial
theorem PySem.W.Fast.tw2964738050336984670 : True := trivial
theorem PySem.W.Fast.tw1993451256773943934 : True := trivial
theorem PySem.W.Fast.tw17186219033429394046 : True := trivial
theorem PySem.W.Fast.tw15642874996160628478 : True := trivial
theorem PySem.W.Fast.tw1331225360408155902 : True := trivial
theorem PySem.W.Fast.tw1601211829682789118 : True := trivial
theorem PySem.W.Fast.tw15092781989559611198 : True := trivial
theorem PySem.W.Fast.tw8919148490246588318 : True := trivial
theorem PySem.W.Fast.tw1487665999894760382 : True := trivial
theorem PySem.W.Fast.tw506435630802731966 : True := trivial
theorem PySem.W.Fast.tw15121115212484344895 : True := trivial
theorem PySem.W.Fast.tw15141162194438785151 : True := trivial
theorem PySem.W.Fast.tw1974577441046502527 : True := trivial
theorem PySem.W.Fast.tw12062114742775785599 : True := trivial
theorem PySem.W.Fast.tw1557880629968982175 : True := trivial
theorem PySem.W.Fast.tw4786940412010181791 : True := trivial
theorem PySem.W.Fast.tw15130360719690172639 : True := trivial
theorem PySem.W.Fast.tw2959063492592666975 : True := trivial
theorem PySem.W.Fast.tw9321781986501245279 : True := trivial
theorem PySem.W.Fast.tw17831606120700133759 : True := trivial
theorem PySem.W.Fast.tw11776077078871245279 : True := trivial
theorem PySem.W.Fast.tw11489422435695093247 : True := trivial
theorem PySem.W.Fast.tw12292982022556239359 : True := trivial
theorem PySem.W.Fast.tw8228545749942602367 : True := trivial
theorem PySem.W.Fast.tw14155027357201320607 : True := trivial
theorem PySem.W.Fast.tw8148782593805481631 : True := trivial
theorem PySem.W.Fast.tw10813358674866690751 : True := trivial
theorem PySem.W.Fast.tw3479267318849029855 : True := trivial
theorem PySem.W.Fast.tw15710137664984407775 : True := trivial
theorem PySem.W.Fast.tw9718397004511734559 : True := trivial
theorem PySem.W.Fast.tw18364983980069698335 : True := trivial
theorem PySem.W.Fast.tw16774896261466458911 : True := trivial
theorem PySem.W.Fast.tw12785150188423170879 : True := trivial
theorem PySem.W.Fast.tw286320983255666527 : True := trivial
theorem PySem.W.Fast.tw17092882301537049439 : True := trivial
theorem PySem.W.Fast.tw2199096027908833151 : True := trivial
theorem PySem.W.Fast.tw14428390381757824927 : True := trivial
theorem PySem.W.Fast.tw11465059194616195007 : True := trivial
theorem PySem.W.Fast.tw17794571074873377791 : True := trivial
theorem PySem.W.Fast.tw5402787054593071103 : True := trivial

namespace My
open PySem L2 PyProof.Rows
structure Defs (K : PySem.W.Frag) (mg : Str → Option Value) (CF CR CE cK cN cF cT cI cX cM cR : Addr) : Prop where
  T : Nm mg
  kd : Kd K mg CF CR
  R : Rf K mg CE cK cN cF cT cI cX cM cR
  Z : Rz K mg "NoFit" CE cF [cK, cN, cT, cI, cX, cM, cR]
  xn : ExcC K mg "NoNumber" cN
  nz : mg "zip" = none
  d1 : Here K mg "divisor" s_divisor
  d2 : Here K mg "is_whole" s_is_whole
  d3 : Here K mg "is_prime" s_is_prime
  d4 : Here K mg "shares" s_shares
  d5 : Here K mg "less_times" s_less_times
  c1 : Here K mg "scaled_row" s_scaled_row
  c2 : Here K mg "plus_row" s_plus_row
  c3 : Here K mg "make_turn" s_make_turn
  c4 : Here K mg "is_idle" s_is_idle
  c5 : Here K mg "take" s_take
  c6 : Here K mg "take_bottoms" s_take_bottoms
  c7 : Here K mg "first_filled" s_first_filled
  c8 : Here K mg "empty_column" s_empty_column
  c9 : Here K mg "emptied" s_emptied
  c10 : Here K mg "is_square" s_is_square
  c11 : Here K mg "need_square" s_need_square
  c12 : Here K mg "freed" s_freed
  c13 : Here K mg "sign_of" s_sign_of
  c14 : Here K mg "by_steps" s_by_steps
  l1 : Here K mg "_law_whole" s_l_whole
  l2 : Here K mg "_law_divisor" s_l_divisor
  l3 : Here K mg "_law_is_prime" s_l_is_prime
  l4 : Here K mg "_law_prime" s_l_prime
  l5 : Here K mg "_law_kind" s_l_kind
  l6 : Here K mg "_law_lowest" s_l_lowest
  l7 : Here K mg "_law_plus" s_l_plus
  l8 : Here K mg "_law_times" s_l_times
  l10 : Here K mg "_law_made" s_l_made
  l11 : Here K mg "_law_drawn" s_l_drawn
  l12 : Here K mg "_law_begun" s_l_begun
  l15 : Here K mg "_law_scale" s_l_scale
  l16 : Here K mg "_law_turn" s_l_turn
  l17 : Here K mg "_law_behind" s_l_behind
  l18 : Here K mg "_law_due" s_l_due
  l19 : Here K mg "_law_number_is" s_l_number_is
  l22 : Here K mg "_law_refused" s_l_refused
  l23 : Here K mg "_law_not_square" s_l_not_square
  m1 : HereM K CF "plus" "Fractions.plus" s_Fractions_plus
  m2 : HereM K CF "minus" "Fractions.minus" s_Fractions_minus
  m3 : HereM K CF "back" "Fractions.back" s_Fractions_back
  m4 : HereM K CF "times" "Fractions.times" s_Fractions_times
  m5 : HereM K CF "is_nought" "Fractions.is_nought" s_Fractions_is_nought
  m6 : HereM K CF "common_bottom" "Fractions.common_bottom" s_Fractions_common_bottom
  r1 : HereM K CR "plus" "Rests.plus" s_Rests_plus
  r2 : HereM K CR "minus" "Rests.minus" s_Rests_minus
  r3 : HereM K CR "back" "Rests.back" s_Rests_back
  r4 : HereM K CR "times" "Rests.times" s_Rests_times
  r5 : HereM K CR "is_nought" "Rests.is_nought" s_Rests_is_nought
  r6 : HereM K CR "common_bottom" "Kind.common_bottom" s_Kind_common_bottom
  n1 : ∃ tk, HereD K CF "number" "Fractions.number" s_Fractions_number #[.int 1 tk]
  n2 : ∃ tk, HereD K CR "number" "Rests.number" s_Rests_number #[.int 1 tk]
  i1 : HereI K CR "Rests.__init__" s_Rests___init__
  lw : Here K mg "law" s_law
theorem all_mk {l : PySem.W.OpenLaw} {w : World} {K : PySem.W.Frag} {mg : Str → Option Value} {fa CF CR CE cK cN cF cT cI cX cM cR : Addr} (hfa : mg "law" = some (.ref fa)) (D : Defs K mg CF CR CE cK cN cF cT cI cX cM cR) :
    ∃ fd : FuncData, (∀ (s : Shared) (v : Value), BindsTo s fd ⟨[v], []⟩ [("_law_script", v)]) ∧ ∀ base : Heap, K.In base → base.Ns mainGlobals mg → FnOk l.prog w K mg base CX0 11 fa fd ["_law_script"] (sp_law K) := by
  obtain ⟨f, fd, F, m⟩ := D.lw.ex
  have e := hfa.symm.trans m
  cases e
  refine ⟨fd, ?_, fun base _ _ => ?_⟩
  · obtain ⟨oc, od, kV, doc, pm, an, cdv, ct, osl, rfl, lk, hcd⟩ := F.ex
    exact fun s v => .of_eq rfl
  · have T := D.T
    have kd := D.kd
    obtain ⟨tk0, n1⟩ := D.n1
    obtain ⟨tk1, n2⟩ := D.n2
    have g1 : Has l.prog w K mg base "divisor" 1 _ _ := ok_divisor D.d1 T
    have g2 : Has l.prog w K mg base "is_whole" 1 _ _ := ok_is_whole D.d2 T
    have g3 : Has l.prog w K mg base "is_prime" 1 _ _ := ok_is_prime D.d3 T
    have g5 : Has l.prog w K mg base "less_times" 1 _ _ := ok_less_times D.d5
    have g4 := ok_shares D.d4 g5
    have ai := ok_Rinit D.i1 kd.clR kd.nP g2 g3
    have a1 := ok_FplusG D.m1 g1
    have a2 := ok_FminusG D.m2 kd.clF a1
    have a3 : HasMX l.prog w K mg base CF "back" 1 _ _ _ := ok_Fback D.m3 D.xn
    have a4 := ok_FtimesG D.m4 g1
    have a5 : HasM l.prog w K mg base CF "is_nought" 1 _ _ _ := ok_Fnought D.m5
    have a6 := ok_FbottomX D.m6 g1
    have a7 := ok_Fnumber1 n1 D.xn g1
    have b1 : HasM l.prog w K mg base CR "plus" 1 _ _ _ := ok_Rplus D.r1 kd.clR kd.nP
    have b2 : HasM l.prog w K mg base CR "minus" 1 _ _ _ := ok_Rminus D.r2 kd.clR kd.nP
    have b7 := ok_Rnumber1 n2 kd.clR kd.nP D.xn g4
    have b8 := ok_Rnumber n2 kd.clR kd.nP D.xn g4
    have b3 := ok_Rback D.r3 kd.clR b8
    have b4 : HasM l.prog w K mg base CR "times" 1 _ _ _ := ok_Rtimes D.r4 kd.clR kd.nP
    have b5 : HasM l.prog w K mg base CR "is_nought" 1 _ _ _ := ok_Rnought D.r5
    have b6 : HasM l.prog w K mg base CR "common_bottom" 1 _ _ _ := ok_Kbottom D.r6
    have mp := meth_plus kd a1 (b1.mono (by decide))
    have mt := meth_times kd a4 (b4.mono (by decide))
    have mz := meth_nought kd (a5.mono (by decide)) (b5.mono (by decide))
    have mm := meth_minus kd a2 (b2.mono (by decide))
    have mn := meth_number kd (a7.mono (by decide)) b7
    have mb := meth_back kd (a3.mono (by decide)) b3
    have mo := meth_bottom kd a6 (b6.mono (by decide))
    have c1 := ok_scaled_rowX D.c1 mt
    have c2 := ok_plus_rowX D.c2 D.nz mp
    have c3 := ok_make_turn D.c3 c1 c2
    have c4 := ok_is_idle D.c4 mn mz
    have c5 := ok_take D.c5 c4 c3
    have c6 := ok_take_bottoms D.c6 T mn mo c5
    have c7 := ok_first_filled D.c7 T mz
    have c8 := ok_empty_column D.c8 T mn mm mb c5
    have c9 := ok_emptied D.c9 T mn c6 (c7.mono (by decide)) (c5.mono (by decide)) c8
    have w1 : Has l.prog w K mg base "_law_whole" 1 _ _ := ok_l_whole D.l1 T
    have w2 : Has l.prog w K mg base "_law_divisor" 1 _ _ := ok_l_divisor D.l2 T
    have w3 : Has l.prog w K mg base "_law_is_prime" 1 _ _ := ok_l_is_prime D.l3
    have w4 := ok_l_primeK D.l4 w3
    have w5 := ok_l_kind D.l5 kd ai
    have w6 := ok_l_lowQ D.l6 w2
    have w7 := ok_l_plusX D.l7 w6
    have w8 := ok_l_timesX D.l8 w6
    have w10 : Has l.prog w K mg base "_law_made" 1 _ _ := ok_l_made D.l10
    have a8 := ok_FnumberL n1 D.xn g1
    have ms := meth_numS kd (a8.mono (by decide)) b8
    have c10 : Has l.prog w K mg base "is_square" 1 _ _ := ok_is_squareR D.c10 T
    have c11 := ok_need_squareR D.c11 D.Z.c c10
    have c12 := ok_freed D.c12 mn mo c1
    have c13 : Has l.prog w K mg base "sign_of" 1 _ _ := ok_sign_of D.c13
    have c14 := ok_by_steps D.c14 T mn ms mt (c11.mono (by decide)) (c12.mono (by decide)) c9 (c13.mono (by decide))
    have w11 := ok_l_drawn27 D.l11 w6
    have w12 := ok_l_begun D.l12 T w11 (w10.mono (by decide))
    have w15 : Has l.prog w K mg base "_law_scale" 1 _ _ := ok_l_scale27 D.l15
    have w16 := ok_l_turn27 D.l16 w15
    have w17 := ok_l_behindX D.l17 T D.nz w8 w7
    have w18 := ok_l_due D.l18 w8 (w10.mono (by decide))
    have w19 := ok_l_number_isX D.l19 T w1
    have w22 := ok_l_refused32 D.l22 T D.R D.Z (c14.mono (by decide))
    have w23 : Has l.prog w K mg base "_law_not_square" 1 _ _ := ok_l_not_square D.l23 T
    exact ok_law F T (w4.mono (by decide)) (w5.mono (by decide)) (w12.mono (by decide)) (w10.mono (by decide)) (w8.mono (by decide)) (w16.mono (by decide)) (w17.mono (by decide)) (w18.mono (by decide)) (w19.mono (by decide)) (c14.mono (by decide)) w22 (w23.mono (by decide))
theorem walk {l : PySem.W.OpenLaw} {q : Program} {loose : List Str} {XP : (Str → Option Value) → Heap → Prop} {YP : World → Heap → Prop} {d : DefRec} {K : Params → PySem.W.Frag} (hn : l.most = some 63) (hdf : d.params.defaults = [])
    (hY : ∀ (w : World) (h : Heap), YP w h → (K w.params).In h)
    (F : ∀ (w : World) (mg : Str → Option Value) (fa : Addr) (h : Heap), (K w.params).In h → h.Ns mainGlobals mg → mg d.name = some (.ref fa) →
      ∃ fd : FuncData, (∀ (s : Shared) (u : Value), BindsTo s fd ⟨[u], []⟩ [("_law_script", u)]) ∧ ∀ base : Heap, (K w.params).In base → base.Ns mainGlobals mg → FnOk l.prog w (K w.params) mg base CX0 11 fa fd ["_law_script"] (sp_law (K w.params))) :
    PySem.W.WalkO q loose XP YP l.row.toRowW d [] (fun f vs => PySem.call f vs) :=
  L2.walk_ofB (n := 63) (k := 11) (x := "_law_script") (CX := fun _ => CX0) (sp := fun w => sp_law (K w.params)) hn (by decide) hdf ⟨rfl, by decide, by decide⟩ hY F (fun _ _ a ns hl hb _ hS => ⟨a, ns, rfl, hS, hl, hb, fun _ => rfl⟩) fun _ _ _ _ _ z => z
theorem kd_mk {K : PySem.W.Frag} {h : Heap} {mg : Str → Option Value} {CF CR : Addr} (X : K.In h) (G : h.Ns mainGlobals mg) (aF : PySem.W.nsIn K mainGlobals "Fractions" = some (some (.ref CF))) (aR : PySem.W.nsIn K mainGlobals "Rests" = some (some (.ref CR)))
    (p1 : PySem.W.plainGet K CF Str.empty = true) (p2 : PySem.W.hasDictIn K CF = true) (p3 : PySem.W.plainOver K CF = true) (p4 : PySem.W.findIn K (.ref CF) "__setattr__" = some (some (.builtin "object.__setattr__")))
    (q1 : PySem.W.plainGet K CR Str.empty = true) (q2 : PySem.W.hasDictIn K CR = true) (q3 : PySem.W.plainOver K CR = true) (q4 : PySem.W.findIn K (.ref CR) "__setattr__" = some (some (.builtin "object.__setattr__")))
    (nP : PySem.W.findIn K (.ref CR) "prime" = some none) (mk : PySem.W.makesIn K CF = true) (mi : PySem.W.findIn K (.ref CF) "__init__" = some (some (.builtin "object.__init__"))) (kp : PySem.W.keepIn K (.ref CF) = true) : Kd K mg CF CR :=
  ⟨⟨p1, p2, p3, p4⟩, ⟨q1, q2, q3, q4⟩, nP, ⟨mk, mi, kp⟩, PySem.W.mg_of X G aF, PySem.W.mg_of X G aR⟩
theorem cn_mk {K : PySem.W.Frag} {h : Heap} {mg : Str → Option Value} {x : Str} {C : Addr} (X : K.In h) (G : h.Ns mainGlobals mg) (a : PySem.W.nsIn K mainGlobals x = some (some (.ref C))) (b : PySem.W.isClsIn K C = true) (c : PySem.W.typeIn K (.ref C) = some (.type "type")) : CN K mg x C := ⟨PySem.W.mg_of X G a, b, c⟩
theorem xcls_mk {K : PySem.W.Frag} {C : Addr} (ga : PySem.W.findIn K (.ref C) "__getattribute__" = some (some (.builtin "BaseException.__getattribute__"))) (ha : PySem.W.findIn K (.ref C) "__getattr__" = some none) (cl : PySem.W.findIn K (.ref C) "__class__" = some (some (.builtin "object.__class__")))
    (hn : PySem.W.specialIn K (.builtin "object.__class__") "__get__" = some (some (.builtin "getset_descriptor.__get__"))) (tk : PySem.W.takesIn K (.builtin "object.__class__") = some true) (ob : PySem.W.mroIn K C (.type "object") = some true) (be : PySem.W.mroIn K C (.type "BaseException") = some true) (hd : PySem.W.hasDictIn K C = true) : XCls K C := ⟨ga, ha, cl, hn, tk, ob, be, hd⟩
theorem apart_cons {K : PySem.W.Frag} {C D : Addr} {r : List Addr} (a : PySem.W.mroIn K C (.ref D) = some false) (n : C ≠ D) (z : Apart K C r) : Apart K C (D :: r) := ⟨⟨a, n⟩, z⟩
end My
open PySem PySem.W PyProof.Rows
local macro_rules | `(tactic| walk_at "xcls") => `(tactic| exact My.xcls_mk (by k_is) (by k_is) (by k_is) (by k_is) (by k_is) (by k_is) (by k_is) (by k_is))
local macro_rules | `(tactic| walk_at "apart") => `(tactic| repeat (first | exact True.intro | (refine' My.apart_cons (by k_is) (by decide) ?_)))
set_option maxRecDepth 100000 in
set_option maxHeartbeats 0 in
theorem PySem.Challenge.cw_turnframe_k32_by_steps_holds : PySem.Challenge.rw_turnframe_k32_by_steps.Holds := by
  w_on; o_law; k_head; (case hw => w_witness2)
  k_fill
  refine My.walk (l := PySem.Challenge.rw_turnframe_k32_by_steps) rfl rfl (fun w h Y => PySem.W.kIn_of Y) ?F
  case F =>
    intro w mg fa h KX G hmg
    have kd := by
      refine' My.kd_mk KX G ?e1 ?e2 ?e3 ?e4 ?e5 ?e6 ?e7 ?e8 ?e9 ?e10 ?e11 ?e12 ?e13 ?e14
      (case e1 => k_is); (case e2 => k_is); (case e3 => k_is); (case e4 => k_is); (case e5 => k_is); (case e6 => k_is); (case e7 => k_is)
      (case e8 => k_is); (case e9 => k_is); (case e10 => k_is); (case e11 => k_is); (case e12 => k_is); (case e13 => k_is); (case e14 => k_is)
    have nE := by
      refine' My.cn_mk (x := "FrameError") KX G ?a ?b ?c
      (case a => k_is); (case b => k_is); (case c => k_is)
    have nk := by
      refine' My.cn_mk (x := "NoKind") KX G ?a ?b ?c
      (case a => k_is); (case b => k_is); (case c => k_is)
    have nn := by
      refine' My.cn_mk (x := "NoNumber") KX G ?a ?b ?c
      (case a => k_is); (case b => k_is); (case c => k_is)
    have nf := by
      refine' My.cn_mk (x := "NoFit") KX G ?a ?b ?c
      (case a => k_is); (case b => k_is); (case c => k_is)
    have nt := by
      refine' My.cn_mk (x := "NoTurn") KX G ?a ?b ?c
      (case a => k_is); (case b => k_is); (case c => k_is)
    have ni := by
      refine' My.cn_mk (x := "NoInverse") KX G ?a ?b ?c
      (case a => k_is); (case b => k_is); (case c => k_is)
    have nx := by
      refine' My.cn_mk (x := "NoText") KX G ?a ?b ?c
      (case a => k_is); (case b => k_is); (case c => k_is)
    have nm := by
      refine' My.cn_mk (x := "NoName") KX G ?a ?b ?c
      (case a => k_is); (case b => k_is); (case c => k_is)
    have nr := by
      refine' My.cn_mk (x := "NoRow") KX G ?a ?b ?c
      (case a => k_is); (case b => k_is); (case c => k_is)
    have x_xn := by
      refine' My.cn_mk (x := "NoNumber") KX G ?a ?b ?c
      (case a => k_is); (case b => k_is); (case c => k_is)
    refine My.all_mk hmg ⟨?T, kd, ⟨nE, ?eb, nk, nn, nf, nt, ni, nx, nm, nr, PySem.W.mg_none_of KX G ?ve⟩, ⟨⟨?Zx, nf.m, ?Zi⟩, ?Ze, ?Zv, ?Zo⟩, ⟨?xnx, x_xn.m, ?xni⟩, PySem.W.mg_none_of KX G ?nz, ?d1, ?d2, ?d3, ?d4, ?d5, ?c1, ?c2, ?c3, ?c4, ?c5, ?c6, ?c7, ?c8, ?c9, ?c10, ?c11, ?c12, ?c13, ?c14, ?l1, ?l2, ?l3, ?l4, ?l5, ?l6, ?l7, ?l8, ?l10, ?l11, ?l12, ?l15, ?l16, ?l17, ?l18, ?l19, ?l22, ?l23, ?m1, ?m2, ?m3, ?m4, ?m5, ?m6, ?r1, ?r2, ?r3, ?r4, ?r5, ?r6, ?n1, ?n2, ?i1, ?lw⟩
    case eb => k_is
    case ve => k_is
    case Zx => walk_at "xcls"
    case Zi => k_exc
    case Ze => k_is
    case Zv => k_is
    case Zo => walk_at "apart"
    case xnx => walk_at "xcls"
    case xni => k_exc
    case nz => k_is
    case T =>
      refine' My.nm_mk (PySem.W.mg_of KX G ?e1) ?e2 (PySem.W.mg_none_of KX G ?e3) (PySem.W.mg_none_of KX G ?e4) (PySem.W.mg_none_of KX G ?e5) (PySem.W.mg_none_of KX G ?e6) (PySem.W.mg_none_of KX G ?e7) (PySem.W.mg_none_of KX G ?e8) (PySem.W.mg_none_of KX G ?e9) (PySem.W.mg_none_of KX G ?e10)
      (case e1 => k_is); (case e2 => exact ⟨_, rfl⟩); (case e3 => k_is); (case e4 => k_is); (case e5 => k_is); (case e6 => k_is); (case e7 => k_is); (case e8 => k_is); (case e9 => k_is); (case e10 => k_is)
    case i1 =>
      refine' L2.hereI_mk ?e1 ?e2 ?e3 ?e4 ?e5 ?e6 ?e7
      (case e1 => k_is); (case e2 => k_is); (case e3 => k_is); (case e4 => k_is); (case e5 => k_is); (case e6 => k_is); (case e7 => k_is)
    case n1 =>
      refine' ⟨_, L2.hereD_mk ?x0a ?x0i ?x0l ?x0t ?x0c ?x0k⟩
      (case x0a => k_is); (case x0i => k_is); (case x0l => k_is); (case x0t => (apply Eq.trans; k_is; rfl)); (case x0c => k_is); (case x0k => k_is)
    case n2 =>
      refine' ⟨_, L2.hereD_mk ?x1a ?x1i ?x1l ?x1t ?x1c ?x1k⟩
      (case x1a => k_is); (case x1i => k_is); (case x1l => k_is); (case x1t => (apply Eq.trans; k_is; rfl)); (case x1c => k_is); (case x1k => k_is)
    all_goals first
      | (refine' L2.here_mk KX G ?y1 ?y2 ?y3 ?y4
         (case y1 => k_is); (case y2 => k_is); (case y3 => k_is); (case y4 => k_is))
      | (refine' L2.hereM_mk ?z1 ?z2 ?z3 ?z4 ?z5
         (case z1 => k_is); (case z2 => k_is); (case z3 => k_is); (case z4 => k_is); (case z5 => k_is))

