import PyProof.Rows.All
import Wide.All
import OpenK.AllK
import Wide.FinOn
import Lean
import PyProof.EqAt
import PyProof.EqKinds
import PyProof.TupleCall
import PySem.Challenge.RW_asktally_k19_whole_unlike_rows_part
set_option Elab.async false
set_option linter.all false
set_option maxRecDepth 100000
/-! THE HAND LAYER, for ints, bools, texts, own classes, LISTS and tuples (index, slices, in, append, pop ..), calls, loops. Paste it whole ahead of your own text; what your proof does not reach may be deleted. -/
namespace L2
open PySem PySem.Spec PyProof.Rows

/-- a key: an int or a str -/
abbrev Key := Sum Int Str
def keyIs : Key → Value → Bool
  | .inl k, v => Value.isInt k v
  | .inr x, v => Value.isStrOf x v
def keyH (w : World) : Key → Int
  | .inl k => hashInt k
  | .inr x => hashStr w x
theorem keyIs_shape : ∀ {k : Key} {v : Value}, keyIs k v = true → (∃ i t, k = Sum.inl i ∧ v = Value.int i t) ∨ (∃ x t, k = Sum.inr x ∧ v = Value.str x t)
  | .inl i, v, h => by
    obtain ⟨t, e⟩ := Value.isInt_shape (k := i) (v := v) h
    exact .inl ⟨i, t, rfl, e⟩
  | .inr x, v, h => by
    obtain ⟨t, e⟩ := Value.isStrOf_shape (x := x) (v := v) h
    exact .inr ⟨x, t, rfl, e⟩
theorem key_ll (a b : Int) : decide ((Sum.inl a : Key) = Sum.inl b) = (a == b) := by
  by_cases e : a = b
  · subst e; simp
  · have h : ¬ (Sum.inl a : Key) = Sum.inl b := fun q => e (Sum.inl.inj q)
    rw [decide_eq_false h]
    exact (beq_eq_false_iff_ne.mpr e).symm
theorem key_rr (a b : Str) : decide ((Sum.inr a : Key) = Sum.inr b) = decide (a = b) := by
  by_cases e : a = b
  · subst e; simp
  · have h : ¬ (Sum.inr a : Key) = Sum.inr b := fun q => e (Sum.inr.inj q)
    rw [decide_eq_false h, decide_eq_false e]
theorem key_lr (a : Int) (b : Str) : decide ((Sum.inl a : Key) = Sum.inr b) = false := decide_eq_false (fun q => nomatch q)
theorem key_rl (a : Str) (b : Int) : decide ((Sum.inr a : Key) = Sum.inl b) = false := decide_eq_false (fun q => nomatch q)

def mixKind (prog : Program) (w : World) : PySem.KeyKind prog w Key where
  is := keyIs
  hash := keyH w
  inj := fun v a b ha hb => by
    rcases keyIs_shape ha with ⟨i, t, rfl, rfl⟩ | ⟨x, t, rfl, rfl⟩
    · rcases keyIs_shape hb with ⟨j, u, rfl, e⟩ | ⟨y, u, rfl, e⟩
      · injection e with e1 _; rw [e1]
      · exact nomatch e
    · rcases keyIs_shape hb with ⟨j, u, rfl, e⟩ | ⟨y, u, rfl, e⟩
      · exact nomatch e
      · injection e with e1 _; rw [e1]
  byValue := fun k v h => by
    rcases keyIs_shape h with ⟨i, t, rfl, rfl⟩ | ⟨x, t, rfl, rfl⟩ <;> rfl
  pyHash := fun hv h => by
    rcases keyIs_shape hv with ⟨i, t, rfl, rfl⟩ | ⟨x, t, rfl, rfl⟩
    · exact wpAny_pyHash_int h
    · exact wpAny_pyHash_str h
  eqBool := fun hu hv h => by
    rcases keyIs_shape hu with ⟨i, t, rfl, rfl⟩ | ⟨x, t, rfl, rfl⟩
    · rcases keyIs_shape hv with ⟨j, u, rfl, rfl⟩ | ⟨y, u, rfl, rfl⟩
      · rw [key_ll] at h; exact wpAny_eqBool_int h
      · rw [key_lr] at h; exact SeqAt.EqAt.int_str i t y u _ _ _ _ h
    · rcases keyIs_shape hv with ⟨j, u, rfl, rfl⟩ | ⟨y, u, rfl, rfl⟩
      · rw [key_rl] at h; exact SeqAt.EqAt.str_int x t j u _ _ _ _ h
      · rw [key_rr] at h; exact wpAny_eqBool_str h
  «strs» := fun k x t v h => by
    rcases keyIs_shape h with ⟨i, u, rfl, e⟩ | ⟨y, u, rfl, e⟩
    · exact nomatch e
    · injection e with e1 _
      subst e1
      cases v <;> rfl

end L2

namespace L2
open PySem PySem.Spec PyProof.Rows

/-- a value, without the heap -/
inductive V where
  | non | bl (b : Bool) | int (i : Int) | str (x : Str) | byt (b : Array UInt8) | flt (b : UInt64) | ref (a : Addr) | ty (n : String)
  deriving DecidableEq

def RelV : V → Value → Prop
  | .non, u => u = Value.none
  | .bl b, u => u = Value.bool b
  | .int i, u => ∃ t, u = Value.int i t
  | .str x, u => ∃ t, u = Value.str x t
  | .byt b, u => ∃ t, u = Value.bytes b t
  | .flt b, u => ∃ t, u = Value.float b t
  | .ref a, u => u = Value.ref a
  | .ty n, u => u = Value.type n

abbrev Vals : List V → List Value → Prop := Paired RelV
theorem Vals.length {xs : List V} {us : List Value} (r : Vals xs us) : xs.length = us.length := Paired.length r
theorem Vals.get : ∀ {xs : List V} {us : List Value} {i : Nat} {x : V}, Vals xs us → xs[i]? = some x → ∃ u, us[i]? = some u ∧ RelV x u
  | _, _, _, _, .nil, e => by simp at e
  | _, _, 0, _, .cons r _, e => by simp at e; subst e; exact ⟨_, rfl, r⟩
  | _, _, i + 1, x, .cons _ t, e => by
    obtain ⟨u, h1, h2⟩ := Vals.get (i := i) (x := x) t (by simpa using e)
    exact ⟨u, by simpa using h1, h2⟩
theorem Vals.set {x : V} {u : Value} (r : RelV x u) : ∀ {xs : List V} {us : List Value} (i : Nat), Vals xs us → Vals (xs.set i x) (us.set i u)
  | _, _, _, .nil => .nil
  | _, _, 0, .cons _ t => .cons r t
  | _, _, i + 1, .cons q t => .cons q (Vals.set r i t)
theorem Vals.append : ∀ {xs ys : List V} {us ws : List Value}, Vals xs us → Vals ys ws → Vals (xs ++ ys) (us ++ ws)
  | _, _, _, _, .nil, s => s
  | _, _, _, _, .cons r t, s => .cons r (Vals.append t s)
theorem Vals.take : ∀ {xs : List V} {us : List Value} (n : Nat), Vals xs us → Vals (xs.take n) (us.take n)
  | _, _, 0, _ => .nil
  | _, _, _ + 1, .nil => .nil
  | _, _, n + 1, .cons r t => .cons r (Vals.take n t)
theorem Vals.drop : ∀ {xs : List V} {us : List Value} (n : Nat), Vals xs us → Vals (xs.drop n) (us.drop n)
  | _, _, 0, r => r
  | _, _, _ + 1, .nil => .nil
  | _, _, n + 1, .cons _ t => Vals.drop n t
def RelO : Option V → Option Value → Prop
  | some v, some u => RelV v u
  | none, none => True
  | _, _ => False
def KV {κ : Type} : List (κ × V) → List (κ × Value) → Prop := Paired fun (p : κ × V) (q : κ × Value) => p.1 = q.1 ∧ RelV p.2 q.2

/-- a key of a dict (00_mix): an int or a text -/
def kV : Key → V
  | .inl i => .int i
  | .inr x => .str x

/-- what stands at a tracked address -/
inductive HO where
  /-- a list -/
  | lst (xs : List V)
  /-- a tuple (never changes) -/
  | tup (xs : List V)
  /-- a dict whose keys are ints and texts; one whose keys are tuples of ints and texts (the empty one is both) -/
  | dK (kvs : List (Key × V)) | dT (kvs : List (List Key × V))
  /-- a set of ints: its members, its size -/
  | set (S : Int → Bool) (n : Nat)
  /-- an instance of the class at C, its dict at dx, its attributes -/
  | ins (C dx : Addr) (fs : List (Str × V))
  /-- the dict of the instance at x -/
  | own (x : Addr)
  /-- the dict of an exception -/
  | xd (fs : List (Str × V))
  /-- a bound method, f of x -/
  | met (f x : Addr)
  /-- a range object lo, lo + 1, .. below hi -/
  | rng (lo hi : Int)
  /-- a thing that is known to the object (the script; a dict while a loop walks it): read, never written while it is so -/
  | frz (o : Obj) (u : HO)
  /-- a code object's table -/
  | tbl (ps : Array Value)
  /-- any other thing, by what is true of its one object (a def of one's own: SetO a S n := HO.ext fun h => ..) -/
  | ext (φ : Heap → Prop)

abbrev Hp := Addr → Option HO
def upd (H : Hp) (a : Addr) (o : HO) : Hp := fun b => if b = a then some o else H b
theorem upd_same {H : Hp} {a : Addr} {o : HO} : upd H a o a = some o := by unfold upd; rw [if_pos rfl]
theorem upd_ne {H : Hp} {a b : Addr} {o : HO} (h : b ≠ a) : upd H a o b = H b := by unfold upd; rw [if_neg h]
theorem ne_of_none {H : Hp} {a b : Addr} {o : HO} (h : H a = some o) (h' : H b = none) : a ≠ b := by
  intro e; subst e; rw [h] at h'; cases h'

section
variable (P : Program) (w : World)
def ObjOk (H : Hp) (h : Heap) (a : Addr) : HO → Prop
  | .lst xs => xs.length ≤ sizeLine ∧ ∃ (its : List Value) (n : Nat), Vals xs its ∧ h.get? a = some { cls := .type "list", data := .seq its.toArray n }
  | .tup xs => xs.length ≤ sizeLine ∧ ∃ its : List Value, Vals xs its ∧ IsTup h a its.toArray ∧ ∃ o, h.get? a = some o ∧ o.dict = none
  | .dK kvs => kvs.length ≤ sizeLine ∧ (a == sysModules) = false ∧ ∃ vs, KV kvs vs ∧ h.DictOf (mixKind P w) a vs
  | .dT kvs => kvs.length ≤ sizeLine ∧ (a == sysModules) = false ∧ ∃ xs : List (List Key × Addr × Value),
      Paired (fun (p : List Key × V) (q : List Key × Addr × Value) => p.1 = q.1 ∧ H q.2.1 = some (.tup (p.1.map kV)) ∧ RelV p.2 q.2.2) kvs xs ∧
      ∃ o es ep, h.get? a = some o ∧ o.ExactDict ∧ o.data = .dict es ep ∧ es.toList = xs.map (entryOfKey (tupleKind (mixKind P w))) ∧ (xs.map (·.1)).Nodup
  | .set S n => h.SetOf (intKind P w) a S n
  | .ins C dx fs => H dx = some (.own a) ∧ fs.length ≤ 1000 ∧ dx ≠ a ∧ h.get? a = some (PySem.W.instObj C dx) ∧
      ∃ mA, h.Ns1 dx mA ∧ (∀ f, RelO (fs.lookup f) (mA f)) ∧ PySem.Within mA (fs.map (·.1))
  | .own _ => ∃ o, h.get? a = some o
  | .xd fs => ∃ mA, h.Ns1 a mA ∧ ∀ f, RelO (fs.lookup f) (mA f)
  | .rng lo hi => ∃ t u v, h.get? a = some { cls := .type "range", data := .fields #[.int lo t, .int hi u, .int 1 v] }
  | .frz o u => h.get? a = some o ∧ ObjOk H h a u
  | .tbl ps => h.get? a = some { cls := .none, data := .fields ps }
  | .met f x => h.get? a = some (PySem.W.methodObj (.ref f) (.ref x))
  | .ext φ => φ h ∧ (∃ o, h.get? a = some o) ∧ ∀ h1 h2 : Heap, φ h1 → (∀ o, h1.get? a = some o → h2.get? a = some o) → φ h2
/-- the abstract heap is held -/
def HOk (H : Hp) (h : Heap) : Prop := ∀ a o, H a = some o → ObjOk P w H h a o
end

section
variable {P : Program} {w : World} {H H' : Hp} {h h' : Heap} {a : Addr} {o : HO}
theorem ObjOk.lt (x : ObjOk P w H h a o) : a < h.objs.size := by
  cases o with
  | lst xs => obtain ⟨_, _, _, _, e⟩ := x; exact Heap.lt_size e
  | tup xs => obtain ⟨_, _, _, p, _⟩ := x; exact p.lt
  | dK kvs => obtain ⟨_, _, _, _, o, _, _, e, _⟩ := x; exact Heap.lt_size e
  | dT kvs => obtain ⟨_, _, _, _, o, _, _, e, _⟩ := x; exact Heap.lt_size e
  | set S n => obtain ⟨o, _, _, _, e, _⟩ := x; exact Heap.lt_size e
  | ins C dx fs => obtain ⟨_, _, _, e, _⟩ := x; exact Heap.lt_size e
  | own y => obtain ⟨_, e⟩ := x; exact Heap.lt_size e
  | xd fs => obtain ⟨_, ⟨_, _, _, e, _⟩, _⟩ := x; exact Heap.lt_size e
  | rng lo hi => obtain ⟨_, _, _, e⟩ := x; exact Heap.lt_size e
  | frz ob u => obtain ⟨e, _⟩ := x; exact Heap.lt_size e
  | tbl ps => exact Heap.lt_size (show h.get? a = some _ from x)
  | met f y => exact Heap.lt_size (show h.get? a = some _ from x)
  | ext φ => obtain ⟨_, ⟨_, e⟩, _⟩ := x; exact Heap.lt_size e
theorem Paired.mapP {α β : Type} {F G : α → β → Prop} : ∀ {l₁ : List α} {l₂ : List β}, Paired F l₁ l₂ → (∀ a b, F a b → G a b) → Paired G l₁ l₂
  | _, _, .nil, _ => .nil
  | _, _, .cons r t, f => .cons (f _ _ r) (Paired.mapP t f)
/-- what an object's description leans on: its own object, its own dict, the tuples -/
theorem ObjOk.stay (x : ObjOk P w H h a o) (k : ∀ b u, (b = a ∨ H b = some (.own a)) → h.get? b = some u → h'.get? b = some u)
    (ho : ∀ b, H b = some (.own a) → H' b = some (.own a)) (ht : ∀ b xs, H b = some (.tup xs) → H' b = some (.tup xs)) : ObjOk P w H' h' a o := by
  induction o with
  | lst xs => obtain ⟨z, its, n, r, e⟩ := x; exact ⟨z, its, n, r, k _ _ (.inl rfl) e⟩
  | tup xs => obtain ⟨z, its, r, ⟨ob, e, c⟩, od, e2, d⟩ := x; exact ⟨z, its, r, ⟨ob, k _ _ (.inl rfl) e, c⟩, od, k _ _ (.inl rfl) e2, d⟩
  | dK kvs => obtain ⟨z, y, vs, r, ob, es, ep, e, c⟩ := x; exact ⟨z, y, vs, r, ob, es, ep, k _ _ (.inl rfl) e, c⟩
  | dT kvs =>
    obtain ⟨z, y, xs, r, ob, es, ep, e, c⟩ := x
    exact ⟨z, y, xs, Paired.mapP r fun p q z => ⟨z.1, ht _ _ z.2.1, z.2.2⟩, ob, es, ep, k _ _ (.inl rfl) e, c⟩
  | set S n => obtain ⟨ob, es, ep, t, e, c⟩ := x; exact ⟨ob, es, ep, t, k _ _ (.inl rfl) e, c⟩
  | ins C dx fs =>
    obtain ⟨d, z, ne, e, mA, ⟨od, es, ep, e2, c⟩, r⟩ := x
    exact ⟨ho _ d, z, ne, k _ _ (.inl rfl) e, mA, ⟨od, es, ep, k _ _ (.inr d) e2, c⟩, r⟩
  | own y => obtain ⟨ob, e⟩ := x; exact ⟨ob, k _ _ (.inl rfl) e⟩
  | xd fs => obtain ⟨mA, ⟨od, es, ep, e, c⟩, r⟩ := x; exact ⟨mA, ⟨od, es, ep, k _ _ (.inl rfl) e, c⟩, r⟩
  | rng lo hi => obtain ⟨t, u, v, e⟩ := x; exact ⟨t, u, v, k _ _ (.inl rfl) e⟩
  | frz ob u ih => obtain ⟨e, q⟩ := x; exact ⟨k _ _ (.inl rfl) e, ih q⟩
  | tbl ps =>
    have e : h.get? a = some { cls := .none, data := .fields ps } := x
    show h'.get? a = some { cls := .none, data := .fields ps }
    exact k a _ (.inl rfl) e
  | met f y =>
    have e : h.get? a = some (PySem.W.methodObj (.ref f) (.ref y)) := x
    show h'.get? a = some (PySem.W.methodObj (.ref f) (.ref y))
    exact k a _ (.inl rfl) e
  | ext φ => obtain ⟨p, ⟨o, e⟩, st⟩ := x; exact ⟨st _ _ p fun o q => k _ _ (.inl rfl) q, ⟨o, k _ _ (.inl rfl) e⟩, st⟩
theorem HOk.lt (x : HOk P w H h) (e : H a = some o) : a < h.objs.size := (x a o e).lt
theorem HOk.fresh (x : HOk P w H h) (e : h.objs.size ≤ a) : H a = none := by
  cases q : H a with
  | none => rfl
  | some u => exact absurd (Nat.lt_of_lt_of_le (x.lt q) e) (Nat.lt_irrefl _)
/-- every object of the heap is kept -/
theorem HOk.kept (x : HOk P w H h) (k : ∀ b u, h.get? b = some u → h'.get? b = some u) : HOk P w H h' := fun a o e =>
  (x a o e).stay (fun b u _ q => k b u q) (fun _ q => q) fun _ _ q => q
/-- a new object is laid and tracked -/
theorem HOk.laid (x : HOk P w H h) (k : ∀ b u, h.get? b = some u → h'.get? b = some u) (hp : h.objs.size ≤ a) (new : ObjOk P w (upd H a o) h' a o) : HOk P w (upd H a o) h' := fun b u e => by
  have hn := x.fresh hp
  by_cases hb : b = a
  · subst hb; rw [upd_same] at e; cases e; exact new
  · rw [upd_ne hb] at e
    exact (x b u e).stay (fun c v _ q => k c v q) (fun c q => by rw [upd_ne (ne_of_none q hn)]; exact q) fun c xs q => by rw [upd_ne (ne_of_none q hn)]; exact q
end

/-- what may be read as u: it is u, or a known u -/
def Rd (H : Hp) (a : Addr) (u : HO) : Prop := H a = some u ∨ ∃ o, H a = some (.frz o u)
theorem Rd.ok {P : Program} {w : World} {H : Hp} {h : Heap} {a : Addr} {u : HO} (r : Rd H a u) (x : HOk P w H h) : ObjOk P w H h a u := by
  rcases r with r | ⟨o, r⟩
  · exact x a u r
  · obtain ⟨_, q⟩ := x a _ r
    exact q
/-- what may be written -/
def Mut : Option HO → Prop
  | some (.lst _) => True
  | some (.dK _) => True
  | some (.dT _) => True
  | some (.set _ _) => True
  | some (.ins _ _ _) => True
  | some (.ext _) => True
  | _ => False
section
variable {P : Program} {w : World} {H : Hp} {h h' : Heap} {x e : Addr} {o' : HO}
/-- the object at e is changed: x itself, or the dict of the instance x -/
theorem HOk.write (ok : HOk P w H h) (mu : Mut (H x)) (he : e = x ∨ H e = some (.own x)) (k : ∀ b u, b ≠ e → h.get? b = some u → h'.get? b = some u) (heo : ∃ u, h'.get? e = some u)
    (new : ObjOk P w (upd H x o') h' x o') : HOk P w (upd H x o') h' := fun b u q => by
  have nown : ∀ c y, H c = some (.own y) → c ≠ x := fun c y r z => by subst z; rw [r] at mu; exact mu
  have ntup : ∀ c xs, H c = some (.tup xs) → c ≠ x := fun c xs r z => by subst z; rw [r] at mu; exact mu
  by_cases hb : b = x
  · subst hb; rw [upd_same] at q; cases q; exact new
  · rw [upd_ne hb] at q
    by_cases hbe : b = e
    · have q' : H b = some (.own x) := by
        rcases he with z | z
        · exact absurd (hbe.trans z) hb
        · rw [hbe]; exact z
      rw [q] at q'; cases q'
      obtain ⟨v, hv⟩ := heo
      exact ⟨v, by rw [hbe]; exact hv⟩
    · refine (ok b u q).stay (fun c v hc r => k c v ?_ r) (fun c r => by rw [upd_ne (nown c b r)]; exact r) fun c xs r => by rw [upd_ne (ntup c xs r)]; exact r
      rcases hc with rfl | hc
      · exact hbe
      · rintro rfl
        rcases he with z | z
        · exact nown c b hc z
        · rw [hc] at z; cases z; exact hb rfl
end

/-! ### kept unless tracked; of the frames at fs (the callers') the slots may change (an exception that passes writes there); of the records at ex (iterators) nothing is said -/
structure Un (fs ex : List Addr) (H H' : Hp) (h h' : Heap) : Prop where
  keep : ∀ b o, h.get? b = some o → H b = none → b ∉ fs → b ∉ ex → h'.get? b = some o
  slot : ∀ b o, h.get? b = some o → H b = none → b ∈ fs → b ∉ ex → ∃ sl, h'.get? b = some { o with slots := sl }
  free : ∀ b o, h.get? b = some o → H b = none → b ∉ ex → H' b = none
  there : ∀ b o, h.get? b = some o → b ∉ ex → ∃ o', h'.get? b = some o'
  tups : ∀ b xs, H b = some (.tup xs) → H' b = some (.tup xs)
  frzs : ∀ b o u, H b = some (.frz o u) → H' b = some (.frz o u)
  tbls : ∀ b ps, H b = some (.tbl ps) → ∃ more, H' b = some (.tbl (ps ++ more))
section
variable {fs fs' ex ex' : List Addr} {H H1 H2 : Hp} {h h1 h2 h' : Heap} {a x e : Addr} {o : HO}
theorem Un.any (u : Un fs ex H H1 h h1) {b : Addr} {ob : Obj} (q : h.get? b = some ob) (n : H b = none) (hx : b ∉ ex) : ∃ sl, h1.get? b = some { ob with slots := sl } := by
  by_cases hb : b ∈ fs
  · exact u.slot b ob q n hb hx
  · exact ⟨ob.slots, u.keep b ob q n hb hx⟩
theorem Un.kept (k : ∀ b u, h.get? b = some u → h'.get? b = some u) : Un fs ex H H h h' :=
  ⟨fun b ob q _ _ _ => k b ob q, fun b ob q _ _ _ => ⟨ob.slots, k b ob q⟩, fun _ _ _ n _ => n, fun b ob q _ => ⟨ob, k b ob q⟩, fun _ _ q => q, fun _ _ _ q => q, fun _ ps q => ⟨#[], by rw [q]; simp⟩⟩
theorem Un.refl : Un fs ex H H h h := Un.kept fun _ _ q => q
theorem Un.laid (k : ∀ b u, h.get? b = some u → h'.get? b = some u) (hp : h.objs.size ≤ a) (hn : H a = none) : Un fs ex H (upd H a o) h h' where
  keep := fun b u q _ _ _ => k b u q
  slot := fun b u q _ _ _ => ⟨u.slots, k b u q⟩
  free := fun b u q n _ => by rw [upd_ne (Nat.ne_of_lt (Nat.lt_of_lt_of_le (Heap.lt_size q) hp))]; exact n
  there := fun b u q _ => ⟨u, k b u q⟩
  tups := fun b xs q => by rw [upd_ne (ne_of_none q hn)]; exact q
  frzs := fun b u xs q => by rw [upd_ne (ne_of_none q hn)]; exact q
  tbls := fun b ps q => ⟨#[], by rw [upd_ne (ne_of_none q hn), q]; simp⟩
theorem Un.write (mu : Mut (H x)) (he : e = x ∨ H e = some (.own x)) (k : ∀ b u, b ≠ e → h.get? b = some u → h'.get? b = some u) (heo : ∃ u, h'.get? e = some u) : Un fs ex H (upd H x o) h h' := by
  have hx : ∀ b, H b = none → b ≠ x := fun b n z => by subst z; rw [n] at mu; exact mu
  have hb : ∀ b, H b = none → b ≠ e := fun b n z => by
    subst z
    rcases he with r | r
    · exact hx b n r
    · rw [n] at r; cases r
  have hm : ∀ b u, H b = some u → ¬ Mut (some u) → b ≠ x := fun b u q nm z => by subst z; rw [q] at mu; exact nm mu
  refine ⟨fun b u q n _ _ => k b u (hb b n) q, fun b u q n _ _ => ⟨u.slots, k b u (hb b n) q⟩, fun b u q n _ => by rw [upd_ne (hx b n)]; exact n, fun b u q _ => ?_,
    fun b xs q => by rw [upd_ne (hm b _ q fun z => z)]; exact q, fun b u xs q => by rw [upd_ne (hm b _ q fun z => z)]; exact q, fun b ps q => ⟨#[], by rw [upd_ne (hm b _ q fun z => z), q]; simp⟩⟩
  by_cases hbe : b = e
  · subst hbe; exact heo
  · exact ⟨u, k b u hbe q⟩
end

/-! ### the heap without what is tracked -/
def trk (h : Heap) (H : Hp) : List Addr := (List.range h.objs.size).filter fun a => (H a).isSome
def hidT (h : Heap) (H : Hp) : Heap := PySem.W.hideAll h (trk h H)
theorem hidT_size (h : Heap) (H : Hp) : (hidT h H).objs.size = h.objs.size := PySem.W.hideAll_size _ _
theorem hidT_get {h : Heap} {H : Hp} {b : Addr} {o : Obj} (e : h.get? b = some o) (n : H b = none) : (hidT h H).get? b = some o :=
  PySem.W.hideAll_get _ e fun hm => by
    have q : (H b).isSome = true := (List.mem_filter.mp hm).2
    rw [n] at q; simp at q
theorem of_hidT {h : Heap} {H : Hp} {b : Addr} {o : Obj} (e : (hidT h H).get? b = some o) : h.get? b = some o ∧ H b = none := by
  have e' : h.get? b = some o := PySem.W.of_hideAll (trk h H) e
  refine ⟨e', ?_⟩
  cases q : H b with
  | none => rfl
  | some x =>
    have hm : b ∈ trk h H := List.mem_filter.mpr ⟨List.mem_range.mpr (Heap.lt_size e'), by simp [q]⟩
    have z : (hidT h H).get? b = none := PySem.W.hideAll_none (trk h H) hm
    rw [z] at e; cases e

/-! ### OpenK's ledger, filled with every new object but one -/
end L2

namespace L2
open PySem PySem.Spec PyProof.Rows

/-- the module's facts, over the base: the heap at the law's entry without what is tracked there -/
structure Mod (K : PySem.W.Frag) (mg : Str → Option Value) (base : Heap) : Prop where
  kin : K.In base
  glob : base.Ns mainGlobals mg
  blt : ∃ mb, base.Ns builtinsNs mb ∧ ∀ x : Str, x ≠ "__name__" → mb x = bootBuiltins x
  nolimit : base.NoLimit

/-- the context: a def's body (or a comprehension's block) running. base: fixed through the whole law; s₀, H₀: the entry; outer: the frames whose slots others may change (a def's callers); stack: all frames that run;
   ex: iterators that were made ahead of the entry and are walked here (a comprehension's); fn: the names whose cells were made at the entry (a def: all; a comprehension's block: its own); calm: not within an except suite; pn: pins that every state bears; xe: what is wanted of an exception that leaves the code -/
structure Cx where
  prog : Program
  w : World
  K : PySem.W.Frag
  mg : Str → Option Value
  base : Heap
  A : Around
  N : List Str
  s₀ : Shared
  H₀ : Hp
  env : Env
  outer : List Env
  stack : List Env
  ex : List Addr
  fn : Str → Bool
  calm : Bool
  pn : List (Addr × Obj)
  xe : Value → Shared → Prop
/-- the callers' frames -/
def frs (l : List Env) : List Addr := l.filterMap (·.frame)
abbrev Cx.fs (X : Cx) : List Addr := frs X.outer

def Vis (sc : Scope) (x : Str) : Prop := sc.names.lookup x = some .local ∨ sc.names.lookup x = some .cell ∨ sc.names.lookup x = some .free
def Loc (sc : Scope) (x : Str) : Prop := sc.names.lookup x = some .local ∨ sc.names.lookup x = some .cell
def Look (env : Env) (h : Heap) (m : Str → Option Value) (x : Str) (u : Value) : Prop :=
  (env.kindOf x = some .local ∧ m x = some u) ∨ ((env.kindOf x = some .cell ∨ env.kindOf x = some .free) ∧ ∃ c, env.cells.lookup x = some c ∧ h.IsCell c (some u))

structure Cx.Ok (X : Cx) : Prop where
  mod : Mod X.K X.mg X.base
  kind : X.env.scope.kind = .function
  glob : X.env.globals = mainGlobals
  blt : X.env.builtins = builtinsNs
  above : X.s₀.heap.objs.size ≤ X.env.locals
  inj : ∀ x y c, X.env.cells.lookup x = some c → X.env.cells.lookup y = some c → x = y
  has : ∀ x, (X.env.kindOf x = some .cell ∨ X.env.kindOf x = some .free) → ∃ c, X.env.cells.lookup x = some c
  cab : ∀ x c, X.fn x = true → X.env.cells.lookup x = some c → X.s₀.heap.objs.size ≤ c
  hd : X.calm = true → X.A.handled = none
  frames : X.A.frames = some X.stack
  stk : X.stack = X.outer ∨ (X.stack = X.env :: X.outer ∧ X.env.frame = some X.env.locals)
  exf : ∀ b ∈ X.ex, b ≠ X.env.locals ∧ ∀ x c, X.env.cells.lookup x = some c → c ≠ b
  bs : ∀ b o, X.base.get? b = some o → X.s₀.heap.get? b = some o ∧ X.H₀ b = none
  bsz : X.base.objs.size ≤ X.s₀.heap.objs.size
  noex : ∀ b o, X.base.get? b = some o → b ∉ X.ex
  exfs : ∀ b ∈ X.ex, b ∉ X.fs
  funs : X.s₀.heap.FunFrames X.base X.outer
  frf : ∀ b ∈ X.fs, X.H₀ b = none

structure Inv (X : Cx) (pins : List (Addr × Obj)) (σ : List (Option V)) (H : Hp) (s : Shared) : Prop where
  ok : X.Ok
  os : s.os = X.s₀.os
  bare : AllBare s.gens
  base : Un X.fs X.ex X.H₀ H X.s₀.heap s.heap
  loc : ∃ m, s.heap.Ns X.env.locals m ∧ ∀ (i : Nat) (x : Str) (v : V), X.N[i]? = some x → σ[i]? = some (some v) → Vis X.env.scope x → ∃ u, RelV v u ∧ Look X.env s.heap m x u
  cell : ∀ x c, X.env.cells.lookup x = some c → ∃ v, s.heap.IsCell c v
  free : H X.env.locals = none
  freeC : ∀ x c, X.env.cells.lookup x = some c → H c = none
  pin : ∀ p ∈ X.pn ++ pins, s.heap.get? p.1 = some p.2 ∧ H p.1 = none ∧ p.1 ≠ X.env.locals ∧ p.1 ∉ X.fs ∧ ∀ v, p.2.data ≠ .cell v
  hok : HOk X.prog X.w H s.heap
  len : σ.length = X.N.length

section
variable {X : Cx} {pins : List (Addr × Obj)} {σ : List (Option V)} {H H' : Hp} {s : Shared} {h' : Heap}

theorem Cx.Ok.nofr (ok : X.Ok) {b : Addr} {o : Obj} (e : X.base.get? b = some o) : b ∉ X.fs := fun hb => by
  have := (ok.funs.mem hb).1
  rw [e] at this; cases this
theorem Inv.bs (I : Inv X pins σ H s) : ∀ b o, X.base.get? b = some o → s.heap.get? b = some o ∧ H b = none := fun b o e =>
  ⟨I.base.keep b o (I.ok.bs b o e).1 (I.ok.bs b o e).2 (I.ok.nofr e) (I.ok.noex b o e), I.base.free b o (I.ok.bs b o e).1 (I.ok.bs b o e).2 (I.ok.noex b o e)⟩
theorem Inv.bk (I : Inv X pins σ H s) : ∀ b o, X.base.get? b = some o → s.heap.get? b = some o := fun b o e => (I.bs b o e).1
theorem Inv.mod (I : Inv X pins σ H s) : Mod X.K X.mg X.base := I.ok.mod
theorem Inv.kIn (I : Inv X pins σ H s) : X.K.In s.heap := I.ok.mod.kin.keeps I.bk
theorem Inv.lt (I : Inv X pins σ H s) : X.env.locals < s.heap.objs.size := let ⟨_, hn, _⟩ := I.loc; hn.lt
theorem Inv.sz (I : Inv X pins σ H s) : X.s₀.heap.objs.size ≤ s.heap.objs.size := Nat.le_trans I.ok.above (Nat.le_of_lt I.lt)
theorem Inv.nofs (I : Inv X pins σ H s) {a : Addr} (h : s.heap.objs.size ≤ a) : a ∉ X.fs := fun hb => by
  obtain ⟨_, o, ho, _⟩ := I.ok.funs.mem hb
  exact absurd (Nat.lt_of_lt_of_le (Heap.lt_size ho) (Nat.le_trans I.sz h)) (Nat.lt_irrefl _)
theorem Inv.cne (I : Inv X pins σ H s) : ∀ x c, X.env.cells.lookup x = some c → c ≠ X.env.locals := fun x c e z => by
  obtain ⟨v, o, ho, hd⟩ := I.cell x c e
  obtain ⟨m, ⟨o', es, ep, ho', hd', _⟩, _⟩ := I.loc
  rw [z, ho'] at ho; cases ho; rw [hd'] at hd; cases hd
theorem Inv.funs (I : Inv X pins σ H s) : s.heap.FunFrames X.base X.outer := by
  have all : ∀ (l : List Env), (∀ b ∈ frs l, b ∈ X.fs) → X.s₀.heap.FunFrames X.base l → s.heap.FunFrames X.base l := by
    intro l
    induction l with
    | nil => intro _ _; trivial
    | cons env r ih =>
      intro hs hl
      obtain ⟨hk, ⟨L, o, hf, hn, ho, hd⟩, hr⟩ := hl
      have hL : L ∈ X.fs := hs L (by unfold frs; rw [List.filterMap_cons, hf]; exact List.mem_cons_self)
      obtain ⟨sl, e⟩ := I.base.slot L o ho (I.ok.frf L hL) hL fun z => I.ok.exfs L z hL
      exact ⟨hk, ⟨L, _, hf, hn, e, hd⟩, ih (fun b hb => hs b (by unfold frs; rw [List.filterMap_cons, hf]; exact List.mem_cons_of_mem _ hb)) hr⟩
  exact all X.outer (fun _ hb => hb) I.ok.funs

/-- the frames that run, for a call -/
theorem Inv.stack (I : Inv X pins σ H s) : s.heap.FunFrames X.base X.stack := by
  rcases I.ok.stk with e | ⟨e, hf⟩
  · rw [e]; exact I.funs
  · rw [e]
    obtain ⟨m, hn, _⟩ := I.loc
    refine .cons (by rw [I.ok.kind]; decide) hf hn ?_ I.funs
    exact Heap.get?_none_of_le (Nat.le_trans I.ok.bsz I.ok.above)
theorem Inv.stkSub (I : Inv X pins σ H s) : ∀ b ∈ frs X.stack, b ∈ X.env.locals :: X.fs := fun b hb => by
  rcases I.ok.stk with e | ⟨e, hf⟩
  · rw [e] at hb; exact List.mem_cons_of_mem _ hb
  · rw [e] at hb
    unfold frs at hb
    rw [List.filterMap_cons, hf] at hb
    exact hb
theorem Inv.stkFree (I : Inv X pins σ H s) : ∀ b ∈ frs X.stack, H b = none := fun b hb => by
  rcases List.mem_cons.mp (I.stkSub b hb) with e | hb
  · rw [e]; exact I.free
  · obtain ⟨_, o, ho, _⟩ := I.ok.funs.mem hb
    exact I.base.free b o ho (I.ok.frf b hb) fun z => I.ok.exfs b z hb

/-- THE STEP: the untracked objects but the frame and the records at ch are kept (the callers' frames up to slots), the frame's map is kept, the new abstract heap is held -/
theorem Inv.step {g' : Array GenState} {t' : Nat} {d' : Drawn} {ch : List Addr} (I : Inv X pins σ H s)
    (hch : ∀ b ∈ ch, (b ∈ X.ex ∨ X.s₀.heap.objs.size ≤ b) ∧ b ≠ X.env.locals ∧ (∀ x c, X.env.cells.lookup x = some c → c ≠ b) ∧ ∀ p ∈ X.pn ++ pins, p.1 ≠ b)
    (keep : ∀ b o, b ≠ X.env.locals → b ∉ X.fs → b ∉ ch → s.heap.get? b = some o → H b = none → h'.get? b = some o)
    (slot : ∀ b o, b ≠ X.env.locals → b ∈ X.fs → b ∉ ch → s.heap.get? b = some o → H b = none → ∃ sl, h'.get? b = some { o with slots := sl }) (free : ∀ b o, b ∉ ch → s.heap.get? b = some o → H b = none → H' b = none)
    (there : ∀ b o, b ∉ ch → s.heap.get? b = some o → ∃ o', h'.get? b = some o')
    (tups : ∀ b xs, H b = some (.tup xs) → H' b = some (.tup xs)) (frzs : ∀ b o u, H b = some (.frz o u) → H' b = some (.frz o u)) (tbls : ∀ b ps, H b = some (.tbl ps) → ∃ more, H' b = some (.tbl (ps ++ more)))
    (ns : ∀ m, s.heap.Ns X.env.locals m → h'.Ns X.env.locals m) (hok : HOk X.prog X.w H' h') (hg : AllBare g') :
    Inv X pins σ H' { s with heap := h', gens := g', drawn := d', toks := t' } := by
  have neL : ∀ b o, X.s₀.heap.get? b = some o → b ≠ X.env.locals := fun b o e => Nat.ne_of_lt (Nat.lt_of_lt_of_le (Heap.lt_size e) I.ok.above)
  have neC : ∀ b o, X.s₀.heap.get? b = some o → b ∉ X.ex → b ∉ ch := fun b o e hx hb => by
    rcases (hch b hb).1 with z | z
    · exact hx z
    · exact absurd (Nat.lt_of_lt_of_le (Heap.lt_size e) z) (Nat.lt_irrefl _)
  have cellK : ∀ x c, X.env.cells.lookup x = some c → ∀ v, s.heap.IsCell c v → h'.IsCell c v := fun x c e v ⟨o, ho, hd⟩ => by
    have nch : c ∉ ch := fun z => (hch c z).2.2.1 x c e rfl
    by_cases hc : c ∈ X.fs
    · obtain ⟨sl, q⟩ := slot c o (I.cne x c e) hc nch ho (I.freeC x c e)
      exact ⟨_, q, hd⟩
    · exact ⟨o, keep c o (I.cne x c e) hc nch ho (I.freeC x c e), hd⟩
  refine ⟨I.ok, I.os, hg, ⟨fun b o e n hb hx => ?_, fun b o e n hb hx => ?_, fun b o e n hx => ?_, fun b o e hx => ?_, fun b xs e => tups b xs (I.base.tups b xs e), fun b o xs e => frzs b o xs (I.base.frzs b o xs e), fun b ps e => ?_⟩, ?_, fun x c e => ?_, ?_, fun x c e => ?_, fun p hp => ?_, hok, I.len⟩
  · exact keep b o (neL b o e) hb (neC b o e hx) (I.base.keep b o e n hb hx) (I.base.free b o e n hx)
  · obtain ⟨sl, e1⟩ := I.base.slot b o e n hb hx
    obtain ⟨sl', e2⟩ := slot b _ (neL b o e) hb (neC b o e hx) e1 (I.base.free b o e n hx)
    exact ⟨sl', e2⟩
  · obtain ⟨o', e1⟩ := I.base.there b o e hx
    exact free b o' (neC b o e hx) e1 (I.base.free b o e n hx)
  · obtain ⟨o', e1⟩ := I.base.there b o e hx
    exact there b o' (neC b o e hx) e1
  · obtain ⟨m1, e1⟩ := I.base.tbls b ps e
    obtain ⟨m2, e2⟩ := tbls b _ e1
    exact ⟨m1 ++ m2, by rw [e2, Array.append_assoc]⟩
  · obtain ⟨m, hn, hl⟩ := I.loc
    refine ⟨m, ns m hn, fun i x v e1 e2 e3 => ?_⟩
    obtain ⟨u, r, l⟩ := hl i x v e1 e2 e3
    refine ⟨u, r, ?_⟩
    rcases l with l | ⟨k, c, e, z⟩
    · exact .inl l
    · exact .inr ⟨k, c, e, cellK x c e _ z⟩
  · obtain ⟨v, z⟩ := I.cell x c e
    exact ⟨v, cellK x c e v z⟩
  · obtain ⟨m, ⟨o, _, _, ho, _⟩, _⟩ := I.loc
    exact free _ o (fun z => (hch _ z).2.1 rfl) ho I.free
  · obtain ⟨v, o, ho, hd⟩ := I.cell x c e
    exact free c o (fun z => (hch c z).2.2.1 x c e rfl) ho (I.freeC x c e)
  · obtain ⟨e, n, ne, nf, d⟩ := I.pin p hp
    have nch : p.1 ∉ ch := fun z => (hch p.1 z).2.2.2 p hp rfl
    exact ⟨keep p.1 p.2 ne nf nch e n, free p.1 p.2 nch e n, ne, nf, d⟩
/-- .. where the frame's own object is kept too -/
theorem Inv.un {t' : Nat} (I : Inv X pins σ H s) (u : Un X.fs [] H H' s.heap h') (hok : HOk X.prog X.w H' h') : Inv X pins σ H' { s with heap := h', toks := t' } := by
  obtain ⟨m, ⟨o, es, ep, ho, r⟩, _⟩ := id I.loc
  obtain ⟨sl, hL⟩ := u.any ho I.free (by simp)
  exact I.step (g' := s.gens) (d' := s.drawn) (ch := []) (fun _ z => nomatch z) (fun b o _ hb _ e n => u.keep b o e n hb (by simp)) (fun b o _ hb _ e n => u.slot b o e n hb (by simp)) (fun b o _ e n => u.free b o e n (by simp)) (fun b o _ e => u.there b o e (by simp)) u.tups u.frzs u.tbls (fun m' hm => by
    obtain ⟨o', es', ep', ho', r'⟩ := hm
    rw [ho] at ho'; cases ho'
    exact ⟨_, es', ep', hL, r'⟩) hok I.bare
/-- behind a call (or a comprehension's block): the slots of this frame may have changed too, the records at ch may have turned -/
theorem Inv.call {g' : Array GenState} {t' : Nat} {d' : Drawn} {ch : List Addr} (I : Inv X pins σ H s) (u : Un (frs X.stack) ch H H' s.heap h') (hok : HOk X.prog X.w H' h') (hg : AllBare g')
    (hch : ∀ b ∈ ch, (b ∈ X.ex ∨ X.s₀.heap.objs.size ≤ b) ∧ b ≠ X.env.locals ∧ (∀ x c, X.env.cells.lookup x = some c → c ≠ b) ∧ ∀ p ∈ X.pn ++ pins, p.1 ≠ b) :
    Inv X pins σ H' { s with heap := h', gens := g', drawn := d', toks := t' } := by
  obtain ⟨m, ⟨o, es, ep, ho, r⟩, _⟩ := id I.loc
  obtain ⟨sl, hL⟩ := u.any ho I.free fun z => (hch _ z).2.1 rfl
  exact I.step (ch := ch) hch (fun b o hL hb hc e n => u.keep b o e n (fun z => (List.mem_cons.mp (I.stkSub b z)).elim hL hb) hc) (fun b o _ _ hc e n => u.any e n hc) (fun b o hc e n => u.free b o e n hc) (fun b o hc e => u.there b o e hc) u.tups u.frzs u.tbls (fun m' hm => by
    obtain ⟨o', es', ep', ho', r'⟩ := hm
    rw [ho] at ho'; cases ho'
    exact ⟨_, es', ep', hL, r'⟩) hok hg
/-- an untracked record of ours (an iterator) has turned -/
theorem Inv.turned {t' : Nat} {it : Addr} (I : Inv X pins σ H s) (k : ∀ b o, b ≠ it → s.heap.get? b = some o → h'.get? b = some o) (hn : H it = none) (hL : it ≠ X.env.locals)
    (h1 : it ∈ X.ex ∨ X.s₀.heap.objs.size ≤ it) (h2 : ∀ x c, X.env.cells.lookup x = some c → c ≠ it) (h3 : ∀ p ∈ X.pn ++ pins, p.1 ≠ it) : Inv X pins σ H { s with heap := h', toks := t' } := by
  have nit : ∀ b u, H b = some u → b ≠ it := fun b u e z => by rw [z, hn] at e; cases e
  refine I.step (g' := s.gens) (d' := s.drawn) (ch := [it]) (fun b hb => ?_) (fun b o _ _ hc e _ => k b o (fun z => hc (by simp [z])) e) (fun b o _ _ hc e _ => ⟨o.slots, k b o (fun z => hc (by simp [z])) e⟩) (fun _ _ _ _ n => n)
    (fun b o hc e => ⟨o, k b o (fun z => hc (by simp [z])) e⟩) (fun _ _ e => e) (fun _ _ _ e => e) (fun b ps e => ⟨#[], by rw [e]; simp⟩) (fun m hm => ?_) (fun b u e => ?_) I.bare
  · have e : b = it := by simpa using hb
    subst e
    exact ⟨h1, hL, h2, h3⟩
  · obtain ⟨o, es, ep, ho, r⟩ := hm
    exact ⟨o, es, ep, k _ o (Ne.symm hL) ho, r⟩
  · refine (I.hok b u e).stay (fun c v hc q => k c v ?_ q) (fun _ q => q) fun _ _ q => q
    rcases hc with z | z
    · rw [z]; exact nit b u e
    · exact nit c _ z
theorem Inv.tok (I : Inv X pins σ H s) (t : Nat) : Inv X pins σ H { s with toks := t } := I.un (h' := s.heap) (t' := t) Un.refl I.hok
/-- all objects kept -/
theorem Inv.kept {t' : Nat} (I : Inv X pins σ H s) (k : ∀ b u, s.heap.get? b = some u → h'.get? b = some u) : Inv X pins σ H { s with heap := h', toks := t' } := I.un (Un.kept k) (I.hok.kept k)
/-- a new object laid and tracked -/
theorem Inv.laid {a : Addr} {o : HO} {t' : Nat} (I : Inv X pins σ H s) (k : ∀ b u, s.heap.get? b = some u → h'.get? b = some u) (hp : s.heap.objs.size ≤ a) (new : ObjOk X.prog X.w (upd H a o) h' a o) :
    Inv X pins σ (upd H a o) { s with heap := h', toks := t' } := I.un (Un.laid k hp (I.hok.fresh hp)) (I.hok.laid k hp new)
/-- an object written -/
theorem Inv.write {x e : Addr} {o : HO} {t' : Nat} (I : Inv X pins σ H s) (mu : Mut (H x)) (he : e = x ∨ H e = some (.own x)) (k : ∀ b u, b ≠ e → s.heap.get? b = some u → h'.get? b = some u) (heo : ∃ u, h'.get? e = some u)
    (new : ObjOk X.prog X.w (upd H x o) h' x o) : Inv X pins σ (upd H x o) { s with heap := h', toks := t' } := I.un (Un.write mu he k heo) (I.hok.write mu he k heo new)
theorem Inv.pins_of {pins' : List (Addr × Obj)} (I : Inv X pins σ H s) (h : ∀ p ∈ pins', s.heap.get? p.1 = some p.2 ∧ H p.1 = none ∧ p.1 ≠ X.env.locals ∧ p.1 ∉ X.fs ∧ ∀ v, p.2.data ≠ .cell v) : Inv X pins' σ H s :=
  ⟨I.ok, I.os, I.bare, I.base, I.loc, I.cell, I.free, I.freeC, fun p hp => (List.mem_append.mp hp).elim (fun z => I.pin p (List.mem_append_left _ z)) (h p), I.hok, I.len⟩

theorem nodup_ix {N : List Str} (hN : N.Nodup) {i j : Nat} {x : Str} (a : N[i]? = some x) (b : N[j]? = some x) : i = j := by
  obtain ⟨h1, e1⟩ := List.getElem?_eq_some_iff.mp a
  obtain ⟨h2, e2⟩ := List.getElem?_eq_some_iff.mp b
  exact (List.getElem_inj hN).mp (e1.trans e2.symm)

/-- a name is stored; what changed -/
theorem store_ok2 {M : Model} {A : Around} {E : Value → Shared → Prop} {i : Nat} {x : Str} {v : V} {u : Value} {Q : Unit → Shared → Prop} (I : Inv X pins σ H s) (hN : X.N.Nodup) (hi : X.N[i]? = some x) (hx : Loc X.env.scope x) (r : RelV v u)
    (h : ∀ s', Inv X pins (σ.set i (some v)) H s' → (∃ a, Heap.SameBut a s.heap s'.heap ∧ (a = X.env.locals ∨ X.env.cells.lookup x = some a)) → Q () s') (hf : X.fn x = true ∨ X.env.scope.names.lookup x = some .local := by first | exact .inl rfl | exact .inr rfl | assumption) : wpAny M A (storeName X.env x u) Q E s := by
  obtain ⟨m, hn, hl⟩ := id I.loc
  have hcls : (X.env.scope.kind == .class || (X.env.scope.kind == .module && X.env.locals != X.env.globals)) = false := by rw [I.ok.kind]; rfl
  have hiσ : i < σ.length := by rw [I.len]; exact (List.getElem?_eq_some_iff.mp hi).1
  have cne := I.cne
  have tracked : ∀ {a : Addr} {h' : Heap}, (∃ o, s.heap.get? a = some o ∧ H a = none) → Heap.SameBut a s.heap h' → HOk X.prog X.w H h' := fun {a h'} ha hs b ob e => by
    obtain ⟨_, _, hfree⟩ := ha
    refine (I.hok b ob e).stay (fun c w' hc q => (hs.2 c ?_).trans q) (fun _ q => q) fun _ _ q => q
    rintro rfl
    rcases hc with rfl | hc
    · rw [hfree] at e; cases e
    · rw [hfree] at hc; cases hc
  rcases hx with hk | hk
  · refine wpAny_storeName_local hk hn (fun h' hn' hs => ?_) hcls
    obtain ⟨oL, _, _, hoL, _⟩ := id hn
    refine h _ ⟨I.ok, I.os, I.bare, ⟨fun b o e n hb hx => ?_, fun b o e n hb hx => ?_, I.base.free, fun b o e hx => ?_, I.base.tups, I.base.frzs, I.base.tbls⟩, ⟨_, hn', fun j y v' e1 e2 e3 => ?_⟩, fun y c e => ?_, I.free, I.freeC, fun p hp => ?_, tracked ⟨oL, hoL, I.free⟩ hs, by simpa using I.len⟩ ⟨_, hs, .inl rfl⟩
    · exact (hs.2 b (Nat.ne_of_lt (Nat.lt_of_lt_of_le (Heap.lt_size e) I.ok.above))).trans (I.base.keep b o e n hb hx)
    · obtain ⟨sl, e1⟩ := I.base.slot b o e n hb hx
      exact ⟨sl, (hs.2 b (Nat.ne_of_lt (Nat.lt_of_lt_of_le (Heap.lt_size e) I.ok.above))).trans e1⟩
    · obtain ⟨o', e1⟩ := I.base.there b o e hx
      exact ⟨o', (hs.2 b (Nat.ne_of_lt (Nat.lt_of_lt_of_le (Heap.lt_size e) I.ok.above))).trans e1⟩
    · by_cases hj : j = i
      · subst hj
        rw [hi] at e1; cases e1
        rw [List.getElem?_set_self hiσ] at e2
        cases e2
        exact ⟨u, r, .inl ⟨hk, by simp⟩⟩
      · rw [List.getElem?_set_ne (Ne.symm hj)] at e2
        obtain ⟨u', r', q⟩ := hl j y v' e1 e2 e3
        refine ⟨u', r', ?_⟩
        rcases q with ⟨k, e⟩ | ⟨k, c, e, z⟩
        · refine .inl ⟨k, ?_⟩
          have : y ≠ x := fun e => hj (nodup_ix hN e1 (e ▸ hi))
          simp [this, e]
        · exact .inr ⟨k, c, e, z.sameBut hs (cne y c e)⟩
    · obtain ⟨w', z⟩ := I.cell y c e
      exact ⟨w', z.sameBut hs (cne y c e)⟩
    · obtain ⟨e, n, ne, nf, d⟩ := I.pin p hp
      exact ⟨(hs.2 p.1 ne).trans e, n, ne, nf, d⟩
  · have hfn : X.fn x = true := by
      rcases hf with z | z
      · exact z
      · rw [z] at hk; cases hk
    obtain ⟨c, hc⟩ := I.ok.has x (.inl hk)
    obtain ⟨w', z⟩ := I.cell x c hc
    refine wpAny_storeName_cell I.ok.kind hk hc z (fun h' hc' hs => ?_)
    obtain ⟨oc, hoc, hocd⟩ := id z
    refine h { s with heap := h' } ⟨I.ok, I.os, I.bare, ⟨fun b o e n hb hx => ?_, fun b o e n hb hx => ?_, I.base.free, fun b o e hx => ?_, I.base.tups, I.base.frzs, I.base.tbls⟩, ⟨m, hn.sameBut hs (Ne.symm (cne x c hc)), fun j y v' e1 e2 e3 => ?_⟩, fun y c' e => ?_, I.free, I.freeC, fun p hp => ?_, tracked ⟨oc, hoc, I.freeC x c hc⟩ hs, by simpa using I.len⟩ ⟨c, hs, .inr hc⟩
    · exact (hs.2 b (Nat.ne_of_lt (Nat.lt_of_lt_of_le (Heap.lt_size e) (I.ok.cab x c hfn hc)))).trans (I.base.keep b o e n hb hx)
    · obtain ⟨sl, e1⟩ := I.base.slot b o e n hb hx
      exact ⟨sl, (hs.2 b (Nat.ne_of_lt (Nat.lt_of_lt_of_le (Heap.lt_size e) (I.ok.cab x c hfn hc)))).trans e1⟩
    · obtain ⟨o', e1⟩ := I.base.there b o e hx
      exact ⟨o', (hs.2 b (Nat.ne_of_lt (Nat.lt_of_lt_of_le (Heap.lt_size e) (I.ok.cab x c hfn hc)))).trans e1⟩
    · by_cases hj : j = i
      · subst hj
        rw [hi] at e1; cases e1
        rw [List.getElem?_set_self hiσ] at e2
        cases e2
        exact ⟨u, r, .inr ⟨.inl hk, c, hc, hc'⟩⟩
      · rw [List.getElem?_set_ne (Ne.symm hj)] at e2
        obtain ⟨u', r', q⟩ := hl j y v' e1 e2 e3
        refine ⟨u', r', ?_⟩
        rcases q with q | ⟨k, c', e, z'⟩
        · exact .inl q
        · refine .inr ⟨k, c', e, z'.sameBut hs ?_⟩
          rintro rfl
          exact hj (nodup_ix hN e1 (I.ok.inj _ _ _ e hc ▸ hi))
    · by_cases hcc : c' = c
      · subst hcc; exact ⟨_, hc'⟩
      · obtain ⟨w2, z2⟩ := I.cell y c' e
        exact ⟨w2, z2.sameBut hs hcc⟩
    · obtain ⟨e, n, ne, nf, d⟩ := I.pin p hp
      refine ⟨(hs.2 p.1 ?_).trans e, n, ne, nf, d⟩
      intro q
      rw [q, hoc] at e
      have q' : oc = p.2 := Option.some.inj e
      exact d w' (by rw [← q']; exact hocd)
theorem store_ok {M : Model} {A : Around} {E : Value → Shared → Prop} {i : Nat} {x : Str} {v : V} {u : Value} {Q : Unit → Shared → Prop} (I : Inv X pins σ H s) (hN : X.N.Nodup) (hi : X.N[i]? = some x) (hx : Loc X.env.scope x) (r : RelV v u)
    (h : ∀ s', Inv X pins (σ.set i (some v)) H s' → Q () s') (hf : X.fn x = true ∨ X.env.scope.names.lookup x = some .local := by first | exact .inl rfl | exact .inr rfl | assumption) : wpAny M A (storeName X.env x u) Q E s :=
  store_ok2 I hN hi hx r (fun s' I' _ => h s' I') hf
/-- behind a call or a block, the state as it is -/
theorem Inv.call' {s' : Shared} {ch : List Addr} (I : Inv X pins σ H s) (ho : s'.os = s.os) (u : Un (frs X.stack) ch H H' s.heap s'.heap) (hok : HOk X.prog X.w H' s'.heap) (hg : AllBare s'.gens)
    (hch : ∀ b ∈ ch, (b ∈ X.ex ∨ X.s₀.heap.objs.size ≤ b) ∧ b ≠ X.env.locals ∧ (∀ x c, X.env.cells.lookup x = some c → c ≠ b) ∧ ∀ p ∈ X.pn ++ pins, p.1 ≠ b) : Inv X pins σ H' s' := by
  obtain ⟨h', g', d', t', o'⟩ := s'
  have e : o' = s.os := ho
  subst e
  exact I.call (g' := g') (t' := t') (d' := d') u hok hg hch
end

/-! ### the judgements -/
/-- an exception: its class, its own dict's address (where it has one), the abstract heap behind it -/
abbrev XK := Value → Option Addr → Hp → Prop
abbrev St := List (Option V)
abbrev VK := V → Hp → Prop
/-- an expression's reading; a test's; an argument list's -/
abbrev TE := St → Hp → VK → Prop
abbrev TT := St → Hp → (Bool → Hp → Prop) → Prop
abbrev TA := St → Hp → (List V → Hp → Prop) → Prop
/-- what is wanted behind a statement -/
structure Ends where
  nx : St → Hp → Prop
  rt : VK
  bk : St → Hp → Prop := fun _ _ => False
  ct : St → Hp → Prop := fun _ _ => False
abbrev TS := Ends → St → Hp → Prop

def EP (X : Cx) (pins : List (Addr × Obj)) (σ : St) (Q : VK) (u : Value) (s' : Shared) : Prop := ∃ v H', Inv X pins σ H' s' ∧ RelV v u ∧ Q v H'
def TP (X : Cx) (pins : List (Addr × Obj)) (σ : St) (Q : Bool → Hp → Prop) (b : Bool) (s' : Shared) : Prop := ∃ H', Inv X pins σ H' s' ∧ Q b H'
def AP (X : Cx) (pins : List (Addr × Obj)) (σ : St) (Q : List V → Hp → Prop) (us : List Value) (s' : Shared) : Prop := ∃ vs H', Inv X pins σ H' s' ∧ Vals vs us ∧ Q vs H'
def SP (X : Cx) (pins : List (Addr × Obj)) (D : Ends) (f : Flow) (s' : Shared) : Prop :=
  match f with
  | .next => ∃ σ' H', Inv X pins σ' H' s' ∧ D.nx σ' H'
  | .brk => ∃ σ' H', Inv X pins σ' H' s' ∧ D.bk σ' H'
  | .cont => ∃ σ' H', Inv X pins σ' H' s' ∧ D.ct σ' H'
  | .ret u => ∃ v σ' H', Inv X pins σ' H' s' ∧ RelV v u ∧ D.rt v H'

def PE (X : Cx) (e : Expr) (t : TE) : Prop :=
  ∀ (pins : List (Addr × Obj)) (s : Shared) (σ : St) (H : Hp) (Q : VK), Inv X pins σ H s → t σ H Q → wpAny (model X.prog X.w) X.A (eval e X.env) (EP X pins σ Q) X.xe s
def PT (X : Cx) (e : Expr) (t : TT) : Prop :=
  ∀ (pins : List (Addr × Obj)) (s : Shared) (σ : St) (H : Hp) (Q : Bool → Hp → Prop), Inv X pins σ H s → t σ H Q → wpAny (model X.prog X.w) X.A (isTrue e X.env (eval e X.env)) (TP X pins σ Q) X.xe s
/-- a test whatever its 'whole' is (and, or) -/
def PW (X : Cx) (e : Expr) (t : TT) : Prop :=
  ∀ (whole : Sem Value) (pins : List (Addr × Obj)) (s : Shared) (σ : St) (H : Hp) (Q : Bool → Hp → Prop), Inv X pins σ H s → t σ H Q → wpAny (model X.prog X.w) X.A (isTrue e X.env whole) (TP X pins σ Q) X.xe s
theorem PW.pt {X : Cx} {e : Expr} {t : TT} (h : PW X e t) : PT X e t := h _
/-- an argument list (no star), from the left -/
def PA (X : Cx) (es : List Expr) (t : TA) : Prop :=
  ∀ (pos : Pos) (pins : List (Addr × Obj)) (s : Shared) (σ : St) (H : Hp) (Q : List V → Hp → Prop), Inv X pins σ H s → t σ H Q → wpAny (model X.prog X.w) X.A (spliced (backTo pos (starEach es X.env))) (AP X pins σ Q) X.xe s
def PS (X : Cx) (st : Stmt) (t : TS) : Prop :=
  ∀ (pins : List (Addr × Obj)) (s : Shared) (σ : St) (H : Hp) (D : Ends), Inv X pins σ H s → t D σ H → wpAny (model X.prog X.w) X.A (exec st X.env) (SP X pins D) X.xe s
def PSs (X : Cx) (st : List Stmt) (t : TS) : Prop :=
  ∀ (pins : List (Addr × Obj)) (s : Shared) (σ : St) (H : Hp) (D : Ends), Inv X pins σ H s → t D σ H → wpAny (model X.prog X.w) X.A (execs st X.env) (SP X pins D) X.xe s
/-- weaken the end -/
theorem thn {α : Type} {t : Sem α} {Q Q' : α → Shared → Prop} {M : Model} {A : Around} {E : Value → Shared → Prop} {s : Shared} (h : wpAny M A t Q E s) (hQ : ∀ a s, Q a s → Q' a s) : wpAny M A t Q' E s := wpAny_mono h hQ fun _ _ x => x
end L2

namespace L2
open PySem PySem.Spec PyProof.Rows
section
variable {X : Cx}

/-! ### names and constants -/
def tVar (i : Nat) : TE := fun σ H Q => ∃ v, σ[i]? = some (some v) ∧ Q v H
def tC (v : V) : TE := fun _ H Q => Q v H
theorem pe_var {i : Nat} {x : Str} {pos : Pos} (hN : X.N[i]? = some x) (hv : Vis X.env.scope x) (hd : (x == ("__debug__" : Str)) = false := by decide) (hcd : (x == ("__classdict__" : Str)) = false := by decide) : PE X (.Name x pos) (tVar i) := by
  intro pins s σ H Q I h
  obtain ⟨v, e, h⟩ := h
  obtain ⟨m, hn, hl⟩ := I.loc
  obtain ⟨u, r, l⟩ := hl i x v hN e hv
  have fin : EP X pins σ Q u s := ⟨v, H, I, r, h⟩
  rcases l with ⟨hk, hm⟩ | ⟨hk, c, hc, hcell⟩
  · exact wpAny_Name (wpAny_loadName_local I.ok.kind hk hn hm fin) hd
  · rcases hk with hk | hk
    · exact wpAny_Name (wpAny_loadName_cell I.ok.kind hk hc hcell fin) hd
    · exact wpAny_Name (wpAny_loadName_free I.ok.kind hk hc hcell fin hcd) hd
theorem pe_int {i j pos} : PE X (.Constant (.int i) j pos) (tC (.int i)) := fun _ _ _ H _ I h => wpAny_Constant_int ⟨.int i, H, I.tok _, ⟨_, rfl⟩, h⟩
theorem pe_bl {b j pos} : PE X (.Constant (.bool b) j pos) (tC (.bl b)) := fun _ _ _ H _ I h => Constant_bool ⟨.bl b, H, I, rfl, h⟩
theorem pe_non {j pos} : PE X (.Constant .none j pos) (tC .non) := fun _ _ _ H _ I h => Constant_none ⟨.non, H, I, rfl, h⟩
/-- a global name of the def -/
def Gl (X : Cx) (x : Str) : Prop := X.env.kindOf x = some .globalImplicit
theorem ld_glob {E : Value → Shared → Prop} {pins : List (Addr × Obj)} {s : Shared} {σ : St} {H : Hp} {x : Str} {u : Value} {pos : Pos} {Q : Value → Shared → Prop} (I : Inv X pins σ H s) (hg : Gl X x) (hm : X.mg x = some u) (h : Q u s)
    (hd : (x == ("__debug__" : Str)) = false := by decide) : wpAny (model X.prog X.w) X.A (eval (.Name x pos) X.env) Q E s :=
  Calls.Name_function_global I.ok.kind hg (Calls.loadGlobal_global (by rw [I.ok.glob]; exact I.mod.glob.keeps I.bk) hm h) hd
theorem ld_blt {E : Value → Shared → Prop} {pins : List (Addr × Obj)} {s : Shared} {σ : St} {H : Hp} {x : Str} {u : Value} {pos : Pos} {Q : Value → Shared → Prop} (I : Inv X pins σ H s) (hg : Gl X x) (hm : X.mg x = none) (hv : bootBuiltins x = some u) (h : Q u s)
    (hn : x ≠ "__name__" := by decide) (hd : (x == ("__debug__" : Str)) = false := by decide) : wpAny (model X.prog X.w) X.A (eval (.Name x pos) X.env) Q E s := by
  obtain ⟨mb, h1, h2⟩ := I.mod.blt
  exact Calls.Name_function_global I.ok.kind hg (Calls.loadGlobal_builtin (by rw [I.ok.glob]; exact I.mod.glob.keeps I.bk) hm (by rw [I.ok.blt]; exact h1.keeps I.bk) ((h2 x hn).trans hv) h) hd
/-! ### arithmetic -/
variable {a b : Expr} {ta tb : TE} {pos : Pos}
/-! ### comparisons -/
/-- a comparison as a value, as a test -/
def tB (t : TE) : TT := fun σ H Q => t σ H fun x H1 => ∃ c, x = .bl c ∧ Q c H1
/-- an expression whose value is a bool, as a test -/
theorem pt_val {e : Expr} {t : TE} (h : PE X e t) (he : ∀ whole, isTrue e X.env whole = (do let v ← whole; standAt e.pos; holding [v] (truthy v)) := by intro _; rfl) : PT X e (tB t) := by
  intro pins s σ H Q I hw
  refine isTrue_plain (thn (h pins s σ H _ I hw) fun v s1 ⟨x, H1, I1, r1, q1⟩ => ?_) (he _)
  obtain ⟨d, rfl, q⟩ := q1
  cases r1
  exact wpAny_truthy_bool ⟨H1, I1, q⟩

/-! ### and, or, not -/
variable {tA tB' : TT} {rest : List Expr}
def tOr (t u : TT) : TT := fun σ H Q => t σ H fun c H1 => if c = true then Q true H1 else u σ H1 Q
def tNot (t : TT) : TT := fun σ H Q => t σ H fun c H1 => Q (!c) H1
theorem pw_or1 (ha : PT X a tA) : PW X (.BoolOp .Or [a] pos) tA := by
  intro wh pins s σ H Q I h
  refine isTrue_or (thn (ha pins s σ H Q I h) fun c s1 e => ?_)
  cases c with
  | false => exact isTrue_or_nil e
  | true => exact e
theorem pw_or (ha : PT X a tA) (hb : PW X (.BoolOp .Or (b :: rest) pos) tB') : PW X (.BoolOp .Or (a :: b :: rest) pos) (tOr tA tB') := by
  intro wh pins s σ H Q I h
  refine isTrue_or (thn (ha pins s σ H _ I h) fun c s1 hpat => ?_)
  obtain ⟨H1, I1, q1⟩ := hpat
  cases c with
  | true => exact ⟨H1, I1, q1⟩
  | false => exact hb wh pins s1 σ H1 Q I1 q1
theorem pt_not (ha : PT X a tA) : PT X (.UnaryOp .Not a pos) (tNot tA) := by
  intro pins s σ H Q I h
  exact isTrue_not (ha pins s σ H (fun c H1 => Q (!c) H1) I h)
/-- .. as values (bools) -/
def tAndV (ta tb : TE) : TE := fun σ H Q => ta σ H fun x H1 => ∃ c, x = .bl c ∧ if c = true then tb σ H1 Q else Q (.bl false) H1
def tOrV (ta tb : TE) : TE := fun σ H Q => ta σ H fun x H1 => ∃ c, x = .bl c ∧ if c = true then Q (.bl true) H1 else tb σ H1 Q
theorem pe_one {op} {t : TE} (h : PE X a t) : PE X (.BoolOp op [a] pos) t := fun pins s σ H Q I hw => BoolOp_one (h pins s σ H Q I hw)
theorem pe_and (ha : PE X a ta) (hb : PE X (.BoolOp .And (b :: rest) pos) tb) : PE X (.BoolOp .And (a :: b :: rest) pos) (tAndV ta tb) := by
  intro pins s σ H Q I h
  refine BoolOp_and (thn (ha pins s σ H _ I h) fun v s1 hpat => ?_)
  obtain ⟨x, H1, I1, r1, q1⟩ := hpat
  obtain ⟨c, rfl, q1⟩ := q1
  cases r1
  refine wpAny_truthy_bool ?_
  cases c with
  | true => exact hb pins s1 σ H1 Q I1 q1
  | false => exact ⟨.bl false, H1, I1, rfl, q1⟩
theorem pe_or (ha : PE X a ta) (hb : PE X (.BoolOp .Or (b :: rest) pos) tb) : PE X (.BoolOp .Or (a :: b :: rest) pos) (tOrV ta tb) := by
  intro pins s σ H Q I h
  refine BoolOp_or (thn (ha pins s σ H _ I h) fun v s1 hpat => ?_)
  obtain ⟨x, H1, I1, r1, q1⟩ := hpat
  obtain ⟨c, rfl, q1⟩ := q1
  cases r1
  refine wpAny_truthy_bool ?_
  cases c with
  | false => exact hb pins s1 σ H1 Q I1 q1
  | true => exact ⟨.bl true, H1, I1, rfl, q1⟩
end
end L2

namespace L2
open PySem PySem.Spec PyProof.Rows

/-! ### a list, a tuple that is read: tracked, frozen, or an object of the module -/
def SqL (K : PySem.W.Frag) (H : Hp) (a : Addr) (xs : List V) : Prop :=
  Rd H a (.lst xs) ∨
    ∃ (o : Obj) (its : Array Value) (n : Nat), K.lookup a = some o ∧ o.cls = .type "list" ∧ o.dict = none ∧ o.data = .seq its n ∧ its.size ≤ sizeLine ∧ Vals xs its.toList
def SqT (K : PySem.W.Frag) (H : Hp) (a : Addr) (xs : List V) : Prop :=
  Rd H a (.tup xs) ∨
    ∃ (o : Obj) (its : Array Value) (n : Nat), K.lookup a = some o ∧ o.cls = .type "tuple" ∧ o.data = .seq its n ∧ its.size ≤ sizeLine ∧ Vals xs its.toList
def absV : Value → Option V
  | .none => some .non
  | .bool b => some (.bl b)
  | .int i _ => some (.int i)
  | .str x _ => some (.str x)
  | .bytes b _ => some (.byt b)
  | .float b _ => some (.flt b)
  | .ref a => some (.ref a)
  | .type n => some (.ty n)
  | _ => none
theorem RelV.abs {x : V} {u : Value} (r : RelV x u) : absV u = some x := by
  cases x with
  | non => cases r; rfl
  | bl _ => cases r; rfl
  | int _ => obtain ⟨t, rfl⟩ := r; rfl
  | str _ => obtain ⟨t, rfl⟩ := r; rfl
  | byt _ => obtain ⟨t, rfl⟩ := r; rfl
  | flt _ => obtain ⟨t, rfl⟩ := r; rfl
  | ref _ => cases r; rfl
  | ty _ => cases r; rfl
theorem RelV.inj {x y : V} {u : Value} (r : RelV x u) (q : RelV y u) : x = y := Option.some.inj (r.abs.symm.trans q.abs)
theorem Vals.inj : ∀ {xs ys : List V} {us : List Value}, Vals xs us → Vals ys us → xs = ys
  | _, _, _, .nil, .nil => rfl
  | _, _, _, .cons r t, .cons r' t' => by rw [r.inj r', Vals.inj t t']
section
variable {X : Cx} {pins : List (Addr × Obj)} {σ : St} {H : Hp} {s : Shared} {a : Addr} {xs ys : List V}
theorem SqL.of {K : PySem.W.Frag} (h : H a = some (.lst xs)) : SqL K H a xs := .inl (.inl h)
theorem SqT.of {K : PySem.W.Frag} (h : H a = some (.tup xs)) : SqT K H a xs := .inl (.inl h)
theorem Inv.list (I : Inv X pins σ H s) (h : SqL X.K H a xs) : ∃ its : List Value, Vals xs its ∧ PlainL s.heap a its.toArray ∧ xs.length ≤ sizeLine := by
  rcases h with h | ⟨o, its, n, hk, hc, hd, hs, hz, r⟩
  · obtain ⟨z, its, n, r, e⟩ := h.ok I.hok
    exact ⟨its, r, ⟨_, n, e, rfl, rfl, rfl⟩, z⟩
  · refine ⟨its.toList, r, ⟨o, n, I.kIn a o hk, hc, hd, by simpa using hs⟩, ?_⟩
    have e := r.length
    simp only [Array.length_toList] at e
    omega
theorem Inv.tuple (I : Inv X pins σ H s) (h : SqT X.K H a xs) : ∃ its : List Value, Vals xs its ∧ IsTup s.heap a its.toArray ∧ xs.length ≤ sizeLine := by
  rcases h with h | ⟨o, its, n, hk, hc, hs, hz, r⟩
  · obtain ⟨z, its, r, p, _⟩ := h.ok I.hok
    exact ⟨its, r, p, z⟩
  · refine ⟨its.toList, r, ⟨o, I.kIn a o hk, hc, n, by simpa using hs⟩, ?_⟩
    have e := r.length
    simp only [Array.length_toList] at e
    omega
theorem Inv.list_inj (I : Inv X pins σ H s) (h : SqL X.K H a xs) (h' : SqL X.K H a ys) : xs = ys := by
  obtain ⟨its, r, ⟨o, n, e, _, _, d⟩, _⟩ := I.list h
  obtain ⟨its', r', ⟨o', n', e', _, _, d'⟩, _⟩ := I.list h'
  rw [e] at e'; cases e'
  rw [d] at d'
  injection d' with d1 _
  have : its = its' := by simpa using congrArg Array.toList d1
  subst this
  exact r.inj r'
end

/-! ### another wish about exceptions -/
abbrev Cx.wish (X : Cx) (E : Value → Shared → Prop) : Cx := { X with xe := E }
/-- no exception leaves -/
abbrev Cx.nox (X : Cx) : Cx := X.wish fun _ _ => False
theorem Cx.Ok.wish {X : Cx} (ok : X.Ok) (E : Value → Shared → Prop) : (X.wish E).Ok :=
  ⟨ok.mod, ok.kind, ok.glob, ok.blt, ok.above, ok.inj, ok.has, ok.cab, ok.hd, ok.frames, ok.stk, ok.exf, ok.bs, ok.bsz, ok.noex, ok.exfs, ok.funs, ok.frf⟩
theorem Cx.Ok.unwish {X : Cx} {E : Value → Shared → Prop} (ok : (X.wish E).Ok) : X.Ok :=
  ⟨ok.mod, ok.kind, ok.glob, ok.blt, ok.above, ok.inj, ok.has, ok.cab, ok.hd, ok.frames, ok.stk, ok.exf, ok.bs, ok.bsz, ok.noex, ok.exfs, ok.funs, ok.frf⟩
section
variable {X : Cx} {pins : List (Addr × Obj)} {σ : St} {H : Hp} {s : Shared} {E : Value → Shared → Prop}
theorem Inv.wish (I : Inv X pins σ H s) (E : Value → Shared → Prop) : Inv (X.wish E) pins σ H s := ⟨I.ok.wish E, I.os, I.bare, I.base, I.loc, I.cell, I.free, I.freeC, I.pin, I.hok, I.len⟩
theorem Inv.unwish (I : Inv (X.wish E) pins σ H s) : Inv X pins σ H s := ⟨I.ok.unwish, I.os, I.bare, I.base, I.loc, I.cell, I.free, I.freeC, I.pin, I.hok, I.len⟩
theorem SP.unwish {D : Ends} {f : Flow} {s' : Shared} (h : SP (X.wish E) pins D f s') : SP X pins D f s' := by
  cases f with
  | next => obtain ⟨σ', H', I, q⟩ := h; exact ⟨σ', H', I.unwish, q⟩
  | brk => obtain ⟨σ', H', I, q⟩ := h; exact ⟨σ', H', I.unwish, q⟩
  | cont => obtain ⟨σ', H', I, q⟩ := h; exact ⟨σ', H', I.unwish, q⟩
  | ret u => obtain ⟨v, σ', H', I, r, q⟩ := h; exact ⟨v, σ', H', I.unwish, r, q⟩
theorem PSs.nox {st : List Stmt} {t : TS} (h : PSs X.nox st t) : PSs X st t := fun pins s σ H D I hw =>
  wpAny_mono (h pins s σ H D (I.wish _) hw) (fun _ _ q => q.unwish) fun _ _ z => False.elim z
end

/-! ### blocks and small statements -/
section
variable {X : Cx} {st : Stmt} {rest : List Stmt} {t u : TS} {e : Expr} {te : TE} {pos : Pos}
def tNext : TS := fun D σ H => D.nx σ H
def tSeq (t u : TS) : TS := fun D σ H => t { D with nx := u D } σ H
theorem pss_nil : PSs X [] tNext := fun _ _ σ H _ I h => wpAny_execs_nil ⟨σ, H, I, h⟩
theorem pss_cons (h1 : PS X st t) (h2 : PSs X rest u) : PSs X (st :: rest) (tSeq t u) := by
  intro pins s σ H D I h
  refine wpAny_execs_cons (thn (h1 pins s σ H { D with nx := u D } I h) fun f s1 q => ?_)
  cases f with
  | next =>
    obtain ⟨σ', H', I', q⟩ := q
    exact h2 pins s1 σ' H' D I' q
  | ret v => exact q
  | brk => exact q
  | cont => exact q
theorem pss_one (h1 : PS X st t) : PSs X [st] t := by
  intro pins s σ H D I h
  refine wpAny_execs_cons (thn (h1 pins s σ H D I h) fun f s1 q => ?_)
  cases f with
  | next => exact wpAny_execs_nil q
  | ret v => exact q
  | brk => exact q
  | cont => exact q
/-- in a def's body nothing is shown -/
theorem Inv.quiet {pins : List (Addr × Obj)} {σ : St} {H : Hp} {s : Shared} (I : Inv X pins σ H s) : interactive X.env = false := by simp [interactive, I.ok.kind]
/-- an expression whose value is dropped -/
def tDrop (te : TE) : TS := fun D σ H => te σ H fun _ H1 => D.nx σ H1
theorem ps_expr (he : PE X e te) (hs : swapsWith e none pos.line X.env = pure false := by rfl) : PS X (.Expr e pos) (tDrop te) := by
  intro pins s σ H D I h
  exact wpAny_Expr_any (thn (he pins s σ H _ I h) fun v s1 ⟨x, H1, I1, r1, q1⟩ => ⟨σ, H1, I1, q1⟩) I.quiet hs
def tRet (te : TE) : TS := fun D σ H => te σ H D.rt
theorem ps_ret (he : PE X e te) : PS X (.Return (some e) pos) (tRet te) := by
  intro pins s σ H D I h
  exact wpAny_Return_some (thn (he pins s σ H _ I h) fun v s1 ⟨x, H1, I1, r1, q1⟩ => ⟨x, σ, H1, I1, r1, q1⟩)
def tIfS (c : TT) (t u : TS) : TS := fun D σ H => c σ H fun b H1 => if b = true then t D σ H1 else u D σ H1
theorem ps_if {c : Expr} {a b : List Stmt} {tc : TT} (hc : PT X c tc) (ha : PSs X a t) (hb : PSs X b u) : PS X (.If c a b pos) (tIfS tc t u) := by
  intro pins s σ H D I h
  refine wpAny_If (thn (hc pins s σ H _ I h) fun d s1 hpat => ?_)
  obtain ⟨H1, I1, q1⟩ := hpat
  cases d with
  | true => exact ha pins s1 σ H1 D I1 q1
  | false => exact hb pins s1 σ H1 D I1 q1
end

/-! ### targets -/
abbrev TG := V → St → Hp → (St → Hp → Prop) → Prop
abbrev TGs := List V → St → Hp → (St → Hp → Prop) → Prop
def PG (X : Cx) (target : Expr) (t : TG) : Prop :=
  ∀ (pins : List (Addr × Obj)) (s : Shared) (σ : St) (H : Hp) (v : V) (u : Value) (Q : St → Hp → Prop), Inv X pins σ H s → RelV v u → t v σ H Q →
    wpAny (model X.prog X.w) X.A (assign target X.env u) (fun _ s' => ∃ σ' H', Inv X pins σ' H' s' ∧ Q σ' H') X.xe s
/-- several targets, one after another -/
def PGs (X : Cx) (ts : List Expr) (t : TGs) : Prop :=
  ∀ (pins : List (Addr × Obj)) (s : Shared) (σ : St) (H : Hp) (vs : List V) (us : List Value) (Q : St → Hp → Prop), Inv X pins σ H s → Vals vs us → t vs σ H Q →
    wpAny (model X.prog X.w) X.A (assignInOrder ((assignEach ts X.env).map (·.2)) us) (fun _ s' => ∃ σ' H', Inv X pins σ' H' s' ∧ Q σ' H') X.xe s
/-- o[i] = v, by values -/
abbrev TSet := V → V → V → Hp → (Hp → Prop) → Prop
def PSet (X : Cx) (t : TSet) : Prop :=
  ∀ (pins : List (Addr × Obj)) (s : Shared) (σ : St) (H : Hp) (o i v : V) (ov iv u : Value) (Q : Hp → Prop), Inv X pins σ H s → RelV o ov → RelV i iv → RelV v u → t o i v H Q →
    wpAny (model X.prog X.w) X.A (setItem ov iv u) (fun _ s' => ∃ H', Inv X pins σ H' s' ∧ Q H') X.xe s
section
variable {X : Cx} {pos : Pos}
def gName (i : Nat) : TG := fun v σ H Q => Q (σ.set i (some v)) H
theorem pg_name {i : Nat} {x : Str} (hN : X.N.Nodup) (hi : X.N[i]? = some x) (hx : Loc X.env.scope x) (hf : X.fn x = true ∨ X.env.scope.names.lookup x = some .local := by first | exact .inl rfl | exact .inr rfl | assumption) : PG X (.Name x pos) (gName i) := by
  intro pins s σ H v u Q I r h
  exact wpAny_assign_Name (store_ok I hN hi hx r (fun s' I' => ⟨_, H, I', h⟩) hf)
def gNil : TGs := fun vs σ H Q => vs = [] ∧ Q σ H
def gCons (t : TG) (u : TGs) : TGs := fun vs σ H Q => ∃ v r, vs = v :: r ∧ t v σ H fun σ' H' => u r σ' H' Q
theorem pgs_nil : PGs X [] gNil := by
  intro pins s σ H vs us Q I r h
  obtain ⟨e, h⟩ := h
  subst e
  cases r
  exact assignInOrder_nil ⟨σ, H, I, h⟩
theorem pgs_cons {e : Expr} {es : List Expr} {t : TG} {u : TGs} (h1 : PG X e t) (h2 : PGs X es u)
    (hs : (assignEach (e :: es) X.env).map (·.2) = assign e X.env :: (assignEach es X.env).map (·.2) := by rfl) : PGs X (e :: es) (gCons t u) := by
  intro pins s σ H vs us Q I r h
  obtain ⟨v, vr, e1, h⟩ := h
  subst e1
  cases r with
  | cons r rr =>
    rw [hs]
    refine assignInOrder_cons (thn (h1 pins s σ H _ _ _ I r h) fun _ s1 hpat => ?_)
    obtain ⟨σ1, H1, I1, q1⟩ := hpat
    exact h2 pins s1 σ1 H1 _ _ Q I1 rr q1
/-- (a, b, ..) = a tuple of that length -/
def gTup (K : PySem.W.Frag) (n : Nat) (t : TGs) : TG := fun v σ H Q => ∃ a xs, v = .ref a ∧ SqT K H a xs ∧ xs.length = n ∧ t xs σ H Q
theorem pg_tup {es : List Expr} {k : Nat} {t : TGs} {n : Nat} (hc : X.calm = true) (h : PGs X es t)
    (hn : (assignEach es X.env).length = n := by rfl) (hst : (assignEach es X.env).findIdx? (·.1) = none := by rfl) : PG X (.Tuple es k pos) (gTup X.K n t) := by
  intro pins s σ H v u Q I r hw
  obtain ⟨a, xs, e1, hq, hl, hw⟩ := hw
  subst e1
  cases r
  obtain ⟨its, rv, ht, hz⟩ := I.tuple hq
  refine assign_Tuple_tuple (I.ok.hd hc) ht (by simp [hn, ← hl, rv.length]) hst fun h' hx => ?_
  have I1 : Inv X pins σ H { s with heap := h' } := I.kept (t' := s.toks) fun b o e => hx b o (Nat.ne_of_lt (Heap.lt_size e)) e
  exact h pins _ σ H xs _ Q I1 (by simpa using rv) hw
/-- o[i] = .. -/
def gSub (to ti : TE) (t : TSet) : TG := fun v σ H Q => to σ H fun o H1 => ti σ H1 fun i H2 => t o i v H2 fun H3 => Q σ H3
theorem pg_sub {o i : Expr} {to ti : TE} {t : TSet} (ho : PE X o to) (hi : PE X i ti) (hs : PSet X t)
    (ha : ∀ v, assign (.Subscript o i pos) X.env v = (do
      let ov ← holding [v] (eval o X.env)
      let iv ← holding [v, ov] (eval i X.env)
      standAt pos
      holding [v, ov, iv] (setItem ov iv v)
      release [v, ov, iv] []) := by intro _; rfl) : PG X (.Subscript o i pos) (gSub to ti t) := by
  intro pins s σ H v u Q I r h
  rw [ha]
  refine wpAny_bind (wpAny_holding (thn (ho pins s σ H _ I h) fun ov s1 hpat => ?_))
  obtain ⟨x, H1, I1, r1, q1⟩ := hpat
  refine wpAny_bind (wpAny_holding (thn (hi pins s1 σ H1 _ I1 q1) fun iv s2 hpat => ?_))
  obtain ⟨y, H2, I2, r2, q2⟩ := hpat
  refine wpAny_bind (wpAny_standAt (wpAny_bind (wpAny_holding (thn (hs pins s2 σ H2 x y v ov iv u _ I2 r1 r2 r q2) fun _ s3 hpat => ?_))))
  obtain ⟨H3, I3, q3⟩ := hpat
  exact wpAny_release ⟨σ, H3, I3, q3⟩
/-- target = value -/
def tAsg (te : TE) (g : TG) : TS := fun D σ H => te σ H fun x H1 => g x σ H1 D.nx
theorem ps_asg {tg e : Expr} {te : TE} {g : TG} (he : PE X e te) (hg : PG X tg g) (hs : swapsWithSole [tg] e pos.line X.env = pure false := by rfl) (hw : swappedStores [tg] e X.env = pure none := by rfl)
    (h1 : (assignEach [tg] X.env).map (·.2) = [assign tg X.env] := by rfl) : PS X (.Assign [tg] e pos) (tAsg te g) := by
  intro pins s σ H D I h
  refine wpAny_Assign_stores (thn (he pins s σ H _ I h) fun v s1 ⟨x, H1, I1, r1, q1⟩ => ?_) hs hw
  rw [h1]
  exact thn (hg pins s1 σ H1 x v _ I1 r1 q1) fun _ s2 q => q
/-- name = value -/
theorem ps_set {i : Nat} {x : Str} {e : Expr} {te : TE} {pos' : Pos} (hN : X.N.Nodup) (hi : X.N[i]? = some x) (hx : Loc X.env.scope x) (he : PE X e te) (hs : swapsWith e (some (.Name x pos')) pos.line X.env = pure false := by rfl) (hf : X.fn x = true ∨ X.env.scope.names.lookup x = some .local := by first | exact .inl rfl | exact .inr rfl | assumption) :
    PS X (.Assign [.Name x pos'] e pos) (tAsg te (gName i)) := by
  intro pins s σ H D I h
  refine wpAny_Assign_Name (thn (he pins s σ H _ I h) fun v s1 ⟨y, H1, I1, r1, q1⟩ => ?_) hs
  exact store_ok I1 hN hi hx r1 (fun s2 I2 => ⟨_, H1, I2, q1⟩) hf
end

/-! ### while -/
section
variable {X : Cx} {pos : Pos}
/-- the invariant W with its measure -/
def tWhile (c : TT) (tb : TS) : TS := fun D σ H => ∃ W : Nat → St → Hp → Prop, (∃ m, W m σ H) ∧ ∀ m σ H, W m σ H →
  c σ H fun b H1 => if b = true then ∃ N : St → Hp → Prop, (∀ σ' H', N σ' H' → ∃ m', m' < m ∧ W m' σ' H') ∧ tb { D with nx := N, ct := N, bk := D.nx } σ H1 else D.nx σ H1
theorem ps_while {c : Expr} {body : List Stmt} {tc : TT} {tb : TS} (hp : PassesOwn (model X.prog X.w) X.A X.env X.xe) (hc : PT X c tc) (hb : PSs X body tb) : PS X (.While c body [] pos) (tWhile tc tb) := by
  intro pins s σ H D I h
  obtain ⟨W, ⟨m0, w0⟩, turn⟩ := h
  refine wpAny_While (codeAny_whileLoop (fun n s' => ∃ σ' H', Inv X pins σ' H' s' ∧ W n σ' H') ?_ m0 ⟨σ, H, I, w0⟩)
  rintro n s1 ⟨σ1, H1, I1, w1⟩
  refine wpAny_passesOwn hp (thn (hc pins s1 σ1 H1 _ I1 (turn n σ1 H1 w1)) fun b s2 hpat => ?_)
  obtain ⟨H2, I2, q2⟩ := hpat
  cases b with
  | true =>
    obtain ⟨N, hN, q2⟩ := q2
    rw [if_pos rfl]
    refine wpAny_passesOwn hp (thn (hb pins s2 σ1 H2 _ I2 q2) fun f s3 q3 => ?_)
    cases f with
    | next =>
      obtain ⟨σ3, H3, I3, n3⟩ := q3
      obtain ⟨m', hm, w3⟩ := hN σ3 H3 n3
      exact ⟨m', hm, σ3, H3, I3, w3⟩
    | cont =>
      obtain ⟨σ3, H3, I3, n3⟩ := q3
      obtain ⟨m', hm, w3⟩ := hN σ3 H3 n3
      exact ⟨m', hm, σ3, H3, I3, w3⟩
    | brk => exact q3
    | ret v => exact q3
  | false =>
    rw [if_neg Bool.false_ne_true]
    exact wpAny_execs_nil ⟨σ1, H2, I2, q2⟩
end

/-! ### what a loop or a comprehension walks -/
/-- at turn i: it yields x (the heap may grow), or it stops -/
structure It where
  go : Nat → Hp → Prop
  yld : Nat → Hp → V → Hp → Prop
  stop : Nat → Hp → Prop
/-- the iterator's own objects may turn: they are not the frame's, not pinned, younger than the entry (or a comprehension's own) -/
def FpOk (X : Cx) (pins : List (Addr × Obj)) (H : Hp) (b : Addr) : Prop :=
  H b = none ∧ b ≠ X.env.locals ∧ b ∉ X.fs ∧ (b ∈ X.ex ∨ X.s₀.heap.objs.size ≤ b) ∧ (∀ x c, X.env.cells.lookup x = some c → c ≠ b) ∧ ∀ p ∈ X.pn ++ pins, p.1 ≠ b
theorem Inv.fpOk {X : Cx} {pins : List (Addr × Obj)} {σ : St} {H H' : Hp} {s : Shared} {b : Addr} (I : Inv X pins σ H s) (hb : s.heap.objs.size ≤ b) (hn : H' b = none) : FpOk X pins H' b := by
  refine ⟨hn, Nat.ne_of_gt (Nat.lt_of_lt_of_le I.lt hb), I.nofs hb, .inr (Nat.le_trans I.sz hb), fun x c e z => ?_, fun p hp z => ?_⟩
  · obtain ⟨v, q⟩ := I.cell x c e
    exact absurd (Nat.lt_of_lt_of_le q.lt (by rw [z]; exact hb)) (Nat.lt_irrefl _)
  · exact absurd (Nat.lt_of_lt_of_le (Heap.lt_size (I.pin p hp).1) (by rw [z]; exact hb)) (Nat.lt_irrefl _)
structure Turn (P : Program) (w : World) (K : PySem.W.Frag) (tg : Expr) (J : It) (fp : List Addr) (it : Addr) (tn : Nat → Heap → Prop) : Prop where
  mem : it ∈ fp
  obj : ∀ i h, tn i h → ∀ b ∈ fp, ∃ o, h.get? b = some o ∧ ∀ v, o.data ≠ .cell v
  keep : ∀ i h h', tn i h → (∀ b ∈ fp, ∀ o, h.get? b = some o → h'.get? b = some o) → tn i h'
  item : ∀ (X : Cx), X.prog = P → X.w = w → X.K = K → X.calm = true → ∀ (i : Nat) (pins : List (Addr × Obj)) (s : Shared) (σ : St) (H : Hp) (E : Value → Shared → Prop), Inv X pins σ H s → (∀ b ∈ fp, FpOk X pins H b) → tn i s.heap → J.go i H →
    wpAny (model P w) X.A (pyNext (.ref it)) (fun r s1 => ∃ u, r = some u ∧
      wpAny (model P w) X.A (letOwnedTupleGo tg (.ref it) u) (fun _ s2 => ∃ x H', Inv X pins σ H' s2 ∧ RelV x u ∧ J.yld i H x H' ∧ tn (i + 1) s2.heap ∧ ∀ b ∈ fp, H' b = none) E s1) E s
  done : ∀ (X : Cx), X.prog = P → X.w = w → X.K = K → X.calm = true → ∀ (i : Nat) (pins : List (Addr × Obj)) (s : Shared) (σ : St) (H : Hp) (E : Value → Shared → Prop), Inv X pins σ H s → (∀ b ∈ fp, FpOk X pins H b) → tn i s.heap → J.stop i H →
    wpAny (model P w) X.A (pyNext (.ref it)) (fun r s1 => r = none ∧ Inv X pins σ H s1) E s
  self : ∀ (A : Around) (i : Nat) (s : Shared) (Q : Value → Shared → Prop) (E : Value → Shared → Prop), tn i s.heap → Q (.ref it) s → wpAny (model P w) A (pyIter (.ref it)) Q E s
abbrev TI := St → Hp → (It → Hp → Prop) → Prop
/-- an iterator has come -/
def PIE (X : Cx) (pins : List (Addr × Obj)) (σ : St) (tg : Expr) (R : It → Hp → Prop) (itv : Value) (s2 : Shared) : Prop :=
  ∃ (it : Addr) (fp : List Addr) (tn : Nat → Heap → Prop) (J : It) (H' : Hp), itv = .ref it ∧ Inv X pins σ H' s2 ∧ Turn X.prog X.w X.K tg J fp it tn ∧ tn 0 s2.heap ∧ (∀ b ∈ fp, FpOk X pins H' b) ∧ R J H'
def PI (X : Cx) (tg iter : Expr) (wi : TI) : Prop :=
  ∀ (pins : List (Addr × Obj)) (s : Shared) (σ : St) (H : Hp) (R : It → Hp → Prop), Inv X pins σ H s → wi σ H R →
    wpAny (model X.prog X.w) X.A (eval iter X.env) (fun v s1 => wpAny (model X.prog X.w) X.A (pyIter v) (PIE X pins σ tg R) X.xe s1) X.xe s

/-- the step ahead of the store is nothing for an iterator that keeps no tuple -/
theorem go_of {M : Model} {A : Around} {E : Value → Shared → Prop} {s : Shared} {tg : Expr} {it : Addr} {u : Value} {o : Obj} {n : String} {vs : Array Value} {Q : Unit → Shared → Prop} (ho : s.heap.get? it = some o) (hc : o.cls = .type n) (hd : o.data = .fields vs)
    (hn : ["enumerate", "zip", "dict_itemiterator", "dict_reverseitemiterator", "odict_iterator", "itertools.zip_longest", "itertools.pairwise"].contains n = false) (hQ : Q () s) : wpAny M A (letOwnedTupleGo tg (.ref it) u) Q E s := by
  unfold letOwnedTupleGo
  cases tg <;> first
    | exact wpAny_pure hQ
    | (cases u <;> first
        | exact wpAny_pure hQ
        | (refine wpAny_bind (wpAny_load ho ?_)
           rw [hc, hd]
           show wpAny M A (if (["enumerate", "zip", "dict_itemiterator", "dict_reverseitemiterator", "odict_iterator", "itertools.zip_longest", "itertools.pairwise"].contains n && vs[0]? == some (rawInt _)) = true then _ else _) Q E s
           rw [if_neg (by intro h; rw [hn, Bool.false_and] at h; cases h)]
           exact wpAny_pure hQ))

/-- the list at a, as it stands at each turn (a loop may append to it) -/
def Itl (K : PySem.W.Frag) (a : Addr) : It :=
  ⟨fun i H => ∃ xs x, SqL K H a xs ∧ xs[i]? = some x, fun i H x H' => H' = H ∧ ∀ xs, SqL K H a xs → xs[i]? = some x, fun i H => ∃ xs, SqL K H a xs ∧ xs.length ≤ i⟩
/-- lo, lo + 1, .. (n of them) -/
def Itr (lo : Int) (n : Nat) : It := ⟨fun i _ => i < n, fun i H x H' => H' = H ∧ x = .int (lo + i), fun i _ => n ≤ i⟩
theorem turn_list {P : Program} {w : World} {K : PySem.W.Frag} {tg : Expr} (a it : Addr) : Turn P w K tg (Itl K a) [it] it (fun i h => h.IsListIter it a i) where
  mem := by simp
  obj := fun i h st b hb => by
    have e : b = it := by simpa using hb
    subst e
    obtain ⟨o, e, c, d⟩ := st
    exact ⟨o, e, fun v z => by rw [d] at z; cases z⟩
  keep := fun i h h' st k => st.at fun o e => k it (by simp) o e
  item := by
    intro X hP hw hK hc i pins s σ H E I hf st hg
    subst hP hw hK
    obtain ⟨xs, x, hq, hx⟩ := hg
    obtain ⟨its, rv, p, hz⟩ := I.list hq
    obtain ⟨u, hu, ru⟩ := rv.get hx
    obtain ⟨f0, f1, f2, f3, f4, f5⟩ := hf it (by simp)
    refine wpAny_pyNext_list_item st p.isList (x := u) (by simpa using hu) fun h' st' sb => ?_
    have I1 : Inv X pins σ H { s with heap := h' } := I.turned (t' := s.toks) (fun b o hb e => (sb.2 b hb).trans e) f0 f1 f3 f4 f5
    obtain ⟨o, e, c, d⟩ := id st'
    exact ⟨u, rfl, go_of (s := { s with heap := h' }) e c d (by decide) ⟨x, H, I1, ru, ⟨rfl, fun ys hy => by rw [I.list_inj hy hq]; exact hx⟩, st', fun b hb => (hf b hb).1⟩⟩
  done := by
    intro X hP hw hK hc i pins s σ H E I hf st hg
    subst hP hw hK
    obtain ⟨xs, hq, hx⟩ := hg
    obtain ⟨its, rv, p, hz⟩ := I.list hq
    obtain ⟨f0, f1, f2, f3, f4, f5⟩ := hf it (by simp)
    have hl := rv.length
    exact wpAny_pyNext_list_end (I.ok.hd hc) st p.isList (by simp; omega) fun h' eb => ⟨rfl, I.turned (t' := s.toks) (fun b o hb e => eb b o hb e) f0 f1 f3 f4 f5⟩
  self := fun _ _ _ _ _ st h => wpAny_pyIter_listiter st h
theorem turn_range {P : Program} {w : World} {K : PySem.W.Frag} {tg : Expr} (it : Addr) (lo : Int) (n : Nat) : Turn P w K tg (Itr lo n) [it] it (fun i h => IsRangeIter h it (lo + (i : Nat) * 1) ((n : Int) - (i : Nat)) 1) where
  mem := by simp
  obj := fun i h st b hb => by
    have e : b = it := by simpa using hb
    subst e
    exact ⟨_, st, fun v z => by
      have z' : Data.fields _ = Data.cell v := z
      cases z'⟩
  keep := fun i h h' st k => k it (by simp) _ st
  item := by
    intro X hP hw hK hc i pins s σ H E I hf st hg
    subst hP hw hK
    obtain ⟨f0, f1, f2, f3, f4, f5⟩ := hf it (by simp)
    have W := Walks.range (prog := X.prog) (w := X.w) (I.ok.hd hc) it lo 1 n
    refine W.item i s _ _ hg st fun v h' tk hv st' kk => ?_
    obtain ⟨t, rfl⟩ := hv
    have I1 : Inv X pins σ H { s with heap := h', toks := tk } := I.turned (fun b o hb e => kk b o (by simpa using hb) e) f0 f1 f3 f4 f5
    refine ⟨_, rfl, go_of (s := { s with heap := h', toks := tk }) (n := "range_iterator") st' rfl rfl (by decide) ⟨.int (lo + i), H, I1, ⟨t, ?_⟩, ⟨rfl, rfl⟩, st', fun b hb => (hf b hb).1⟩⟩
    rw [Int.mul_one]
  done := by
    intro X hP hw hK hc i pins s σ H E I hf st hg
    subst hP hw hK
    obtain ⟨f0, f1, f2, f3, f4, f5⟩ := hf it (by simp)
    exact wpAny_pyNext_range_end (I.ok.hd hc) st (by have : n ≤ i := hg; omega) fun h' eb => ⟨rfl, I.turned (t' := s.toks) (fun b o hb e => eb b o hb e) f0 f1 f3 f4 f5⟩
  self := fun _ _ _ _ _ st h => wpAny_pyIter_rangeiter st h
end L2

namespace L2
open PySem PySem.Spec PyProof.Rows
section
variable {X : Cx} {tg : Expr}
def iList (K : PySem.W.Frag) (tl : TE) : TI := fun σ H R => tl σ H fun x H1 => ∃ a, x = .ref a ∧ (∃ xs, SqL K H1 a xs) ∧ R (Itl K a) H1
theorem pi_list {l : Expr} {tl : TE} (hl : PE X l tl) : PI X tg l (iList X.K tl) := by
  intro pins s σ H R I h
  refine thn (hl pins s σ H _ I h) fun v s1 hpat => ?_
  obtain ⟨x, H1, I1, r1, q1⟩ := hpat
  obtain ⟨a, e, ⟨xs, hq⟩, q⟩ := q1
  subst e
  cases r1
  obtain ⟨its, rv, p, hz⟩ := I1.list hq
  refine wpAny_pyIter_list p.isList ?_
  refine ⟨s1.heap.objs.size, [s1.heap.objs.size], _, _, H1, rfl, I1.kept (t' := s1.toks) fun b o e => Heap.get?_push_of_some _ e, turn_list a _, ⟨_, Heap.get?_push_size _ rfl, rfl, rfl⟩, fun b hb => ?_, q⟩
  have e : b = s1.heap.objs.size := by simpa using hb
  subst e
  exact I1.fpOk (Nat.le_refl _) (I1.hok.fresh (Nat.le_refl _))
/-- a range object just made, walked -/
theorem range_it {pins : List (Addr × Obj)} {σ : St} {H : Hp} {s : Shared} {R : It → Hp → Prop} {E : Value → Shared → Prop} {lo hi : Int} {t u v : Tok} {tk : Nat} (I : Inv X pins σ H s) (h1 : -(2 ^ 62) ≤ lo) (h2 : lo < 2 ^ 62) (h3 : -(2 ^ 62) ≤ hi) (h4 : hi < 2 ^ 62)
    (q : R (Itr lo (hi - lo).toNat) H) : wpAny (model X.prog X.w) X.A (pyIter (.ref s.heap.objs.size)) (PIE X pins σ tg R) E { s with heap := s.heap.push { cls := .type "range", data := .fields #[.int lo t, .int hi u, .int 1 v] }, toks := tk } := by
  refine wpAny_pyIter_range (IsRange.new ..) (small_one h1 h2 h3 h4) ?_
  have I1 : Inv X pins σ H { s with heap := s.heap.push { cls := .type "range", data := .fields #[.int lo t, .int hi u, .int 1 v] }, toks := tk } := I.kept fun b o e => Heap.get?_push_of_some _ e
  refine ⟨(s.heap.push { cls := .type "range", data := .fields #[.int lo t, .int hi u, .int 1 v] }).objs.size, [(s.heap.push { cls := .type "range", data := .fields #[.int lo t, .int hi u, .int 1 v] }).objs.size], _, _, H, rfl,
    I1.kept (t' := tk) fun b o e => Heap.get?_push_of_some _ e, turn_range _ lo (hi - lo).toNat, ?_, fun b hb => ?_, q⟩
  · have e1 : lo + ((0 : Nat) : Int) * 1 = lo := by simp
    have e2 : (((hi - lo).toNat : Nat) : Int) - ((0 : Nat) : Int) = Builtin.Range.rangeSize lo hi 1 := by rw [rangeSize_one]; split <;> omega
    show IsRangeIter _ _ (lo + ((0 : Nat) : Int) * 1) ((((hi - lo).toNat : Nat) : Int) - ((0 : Nat) : Int)) 1
    rw [e1, e2]
    exact Heap.get?_push_size _ rfl
  · have e : b = (s.heap.push { cls := .type "range", data := .fields #[.int lo t, .int hi u, .int 1 v] }).objs.size := by simpa using hb
    subst e
    exact I1.fpOk (Nat.le_refl _) (I1.hok.fresh (Nat.le_refl _))
def iRng1 (ta : TA) : TI := fun σ H R => ta σ H fun vs H1 => ∃ j : Int, vs = [.int j] ∧ -(2 ^ 62) ≤ j ∧ j < 2 ^ 62 ∧ R (Itr 0 j.toNat) H1
def iRng2 (ta : TA) : TI := fun σ H R => ta σ H fun vs H1 => ∃ i j : Int, vs = [.int i, .int j] ∧ (-(2 ^ 62) ≤ i ∧ i < 2 ^ 62 ∧ -(2 ^ 62) ≤ j ∧ j < 2 ^ 62) ∧ R (Itr i (j - i).toNat) H1
theorem pi_range1 {a : Expr} {ta : TA} {p pos : Pos} (hg : Gl X "range") (hm : X.mg "range" = none) (ha : PA X [a] ta) (hs : starEach [a] X.env = [(false, eval a X.env)] := by rfl) : PI X tg (.Call (.Name "range" p) [a] [] pos) (iRng1 ta) := by
  intro pins s σ H R I h
  refine Call_ (ld_blt I hg hm boot_range (PyProof.Rows.callWith_type1 (thn (ha pos pins s σ H _ I h) fun us s1 ⟨vs, H1, I1, r1, q1⟩ => ?_) hs rfl))
  obtain ⟨j, e, q1, q2, q⟩ := q1
  subst e
  cases r1 with
  | cons r rr =>
    cases rr
    obtain ⟨t, rfl⟩ := r
    exact call_range_1 (range_it I1 (by omega) (by omega) q1 q2 (by simpa using q))
theorem pi_range2 {a b : Expr} {ta : TA} {p pos : Pos} (hg : Gl X "range") (hm : X.mg "range" = none) (ha : PA X [a, b] ta) (hs : starEach [a, b] X.env = [(false, eval a X.env), (false, eval b X.env)] := by rfl) (hs2 : starEach [b] X.env = [(false, eval b X.env)] := by rfl) :
    PI X tg (.Call (.Name "range" p) [a, b] [] pos) (iRng2 ta) := by
  intro pins s σ H R I h
  refine Call_ (ld_blt I hg hm boot_range (PyProof.Rows.callWith_type1 (thn (ha pos pins s σ H _ I h) fun us s1 ⟨vs, H1, I1, r1, q1⟩ => ?_) (by rw [hs, hs2]) (by rw [hs2]; rfl)))
  obtain ⟨i, j, e, ⟨q1, q2, q3, q4⟩, q⟩ := q1
  subst e
  cases r1 with
  | cons r rr =>
    cases rr with
    | cons r' rr =>
      cases rr
      obtain ⟨t, rfl⟩ := r
      obtain ⟨t', rfl⟩ := r'
      exact call_range_2 (range_it I1 q1 q2 q3 q4 q)

/-! ### for -/
/-- W: the invariant by the turn and a measure; N: what the body is to reach -/
def tFor (wi : TI) (g : TG) (tb : TS) : TS := fun D σ H => wi σ H fun J H1 => ∃ W : Nat → Nat → St → Hp → Prop, (∃ m, W 0 m σ H1) ∧ ∀ i m σ H, W i m σ H →
  (J.stop i H ∧ D.nx σ H) ∨ (J.go i H ∧ ∃ N : St → Hp → Prop, (∀ σ' H', N σ' H' → ∃ m', m' < m ∧ W (i + 1) m' σ' H') ∧ ∀ x H', J.yld i H x H' → g x σ H' fun σ2 H2 => tb { D with nx := N, ct := N, bk := D.nx } σ2 H2)
/-- the records at fp as they stand -/
def pinsAt (fp : List Addr) (h : Heap) : List (Addr × Obj) := fp.filterMap fun b => (h.get? b).map fun o => (b, o)
theorem mem_pinsAt {fp : List Addr} {h : Heap} {b : Addr} {o : Obj} (hb : b ∈ fp) (e : h.get? b = some o) : (b, o) ∈ pinsAt fp h := List.mem_filterMap.mpr ⟨b, hb, by rw [e]; rfl⟩
theorem of_pinsAt {fp : List Addr} {h : Heap} {p : Addr × Obj} (hp : p ∈ pinsAt fp h) : p.1 ∈ fp ∧ h.get? p.1 = some p.2 := by
  obtain ⟨b, hb, e⟩ := List.mem_filterMap.mp hp
  cases q : h.get? b with
  | none => rw [q] at e; cases e
  | some o =>
    rw [q] at e
    have e' : (b, o) = p := Option.some.inj e
    subst e'
    exact ⟨hb, q⟩
theorem Inv.pinned {pins : List (Addr × Obj)} {σ : St} {H : Hp} {s : Shared} {fp : List Addr} (I : Inv X pins σ H s) (hf : ∀ b ∈ fp, FpOk X pins H b) (ho : ∀ b ∈ fp, ∃ o, s.heap.get? b = some o ∧ ∀ v, o.data ≠ .cell v) : Inv X (pins ++ pinsAt fp s.heap) σ H s :=
  I.pins_of fun p hp => (List.mem_append.mp hp).elim (fun z => I.pin p (List.mem_append_right _ z)) fun z => by
    obtain ⟨hb, e⟩ := of_pinsAt z
    obtain ⟨f0, f1, f2, _⟩ := hf p.1 hb
    obtain ⟨o, e', d⟩ := ho p.1 hb
    rw [e] at e'; cases e'
    exact ⟨e, f0, f1, f2, d⟩
theorem Inv.unpinned {pins pl : List (Addr × Obj)} {σ : St} {H : Hp} {s : Shared} (I : Inv X (pins ++ pl) σ H s) : Inv X pins σ H s := I.pins_of fun p hp => I.pin p (List.mem_append_right _ (List.mem_append_left _ hp))
theorem ps_for {iter : Expr} {body : List Stmt} {wi : TI} {g : TG} {tb : TS} {pos : Pos} (hp : PassesOwn (model X.prog X.w) X.A X.env X.xe) (hc : X.calm = true) (hi : PI X tg iter wi) (hg : PG X tg g) (hb : PSs X body tb)
    (hs : ∀ x, foldedSetIterable iter X.env x = pure x := by intro _; rfl) : PS X (.For tg iter body [] pos) (tFor wi g tb) := by
  intro pins s σ H D I h
  refine wpAny_For (thn (hi pins s σ H _ I h) fun v s1 h1 => thn h1 fun itv s2 h2 => ?_) hs
  obtain ⟨it, fp, tn, J, H2, e, I2, T, st2, f2, W, ⟨m0, w0⟩, turn⟩ := h2
  subst e
  -- what stays true of the iterator's objects through the loop
  have stat : ∀ {H' : Hp}, (∀ b ∈ fp, H' b = none) → ∀ b ∈ fp, FpOk X pins H' b := fun hn b hb => ⟨hn b hb, (f2 b hb).2⟩
  refine codeAny_forLoop_any (fun n s' => ∃ i σ' H', Inv X pins σ' H' s' ∧ tn i s'.heap ∧ (∀ b ∈ fp, H' b = none) ∧ W i n σ' H') ?_ m0 ⟨0, σ, H2, I2, st2, fun b hb => (f2 b hb).1, w0⟩
  rintro n s3 ⟨i, σ3, H3, I3, st3, fr3, w3⟩
  rcases turn i n σ3 H3 w3 with ⟨stop, qn⟩ | ⟨go, N, hN, step⟩
  · refine wpAny_passesOwn hp (thn (T.done X rfl rfl rfl hc i pins s3 σ3 H3 X.xe I3 (stat fr3) st3 stop) fun r s4 hpat => ?_)
    obtain ⟨hr, I4⟩ := hpat
    subst hr
    exact wpAny_execs_nil ⟨σ3, H3, I4, qn⟩
  · refine wpAny_passesOwn hp (thn (T.item X rfl rfl rfl hc i pins s3 σ3 H3 X.xe I3 (stat fr3) st3 go) fun r s4 hpat => ?_)
    obtain ⟨u, hr, h4⟩ := hpat
    subst hr
    refine wpAny_passesOwn hp (thn h4 fun _ s5 hpat => ?_)
    obtain ⟨x, H5, I5, r5, y5, st5, fr5⟩ := hpat
    have I5' := I5.pinned (stat fr5) (T.obj _ _ st5)
    refine wpAny_passesOwn hp (thn (hg _ s5 σ3 H5 x u _ I5' r5 (step x H5 y5)) fun _ s6 hpat => ?_)
    obtain ⟨σ6, H6, I6, q6⟩ := hpat
    refine wpAny_passesOwn hp (thn (hb _ s6 σ6 H6 _ I6 q6) fun f s7 q7 => ?_)
    have again : ∀ {σ7 : St} {H7 : Hp}, Inv X (pins ++ pinsAt fp s5.heap) σ7 H7 s7 → N σ7 H7 → ∃ m, m < n ∧ ∃ i σ' H', Inv X pins σ' H' s7 ∧ tn i s7.heap ∧ (∀ b ∈ fp, H' b = none) ∧ W i m σ' H' := fun {σ7 H7} I7 n7 => by
      obtain ⟨m', hm, w7⟩ := hN σ7 H7 n7
      refine ⟨m', hm, i + 1, σ7, H7, I7.unpinned, T.keep _ _ _ st5 fun b hb o e => (I7.pin (b, o) (List.mem_append_right _ (List.mem_append_right _ (mem_pinsAt hb e)))).1, fun b hb => ?_, w7⟩
      obtain ⟨o, e, d⟩ := T.obj _ _ st5 b hb
      exact (I7.pin (b, o) (List.mem_append_right _ (List.mem_append_right _ (mem_pinsAt hb e)))).2.1
    cases f with
    | next => obtain ⟨σ7, H7, I7, n7⟩ := q7; exact again I7 n7
    | cont => obtain ⟨σ7, H7, I7, n7⟩ := q7; exact again I7 n7
    | brk => obtain ⟨σ7, H7, I7, q7⟩ := q7; exact ⟨σ7, H7, I7.unpinned, q7⟩
    | ret v => obtain ⟨x7, σ7, H7, I7, r7, q7⟩ := q7; exact ⟨x7, σ7, H7, I7.unpinned, r7, q7⟩
end

/-! ### the forms one uses -/
/-- over a list that the body leaves as it is -/
theorem for_list {K : PySem.W.Frag} {a : Addr} {xs : List V} {g : TG} {tb : TS} {D : Ends} {σ : St} {H : Hp} (Pv : Nat → St → Hp → Prop) (h0 : Pv 0 σ H) (hl : ∀ i σ H, i ≤ xs.length → Pv i σ H → SqL K H a xs)
    (hs : ∀ i x σ H, xs[i]? = some x → Pv i σ H → g x σ H fun σ2 H2 => tb { D with nx := Pv (i + 1), ct := Pv (i + 1), bk := D.nx } σ2 H2) (hd : ∀ σ H, Pv xs.length σ H → D.nx σ H) :
    ∃ W : Nat → Nat → St → Hp → Prop, (∃ m, W 0 m σ H) ∧ ∀ i m σ H, W i m σ H →
      ((Itl K a).stop i H ∧ D.nx σ H) ∨ ((Itl K a).go i H ∧ ∃ N : St → Hp → Prop, (∀ σ' H', N σ' H' → ∃ m', m' < m ∧ W (i + 1) m' σ' H') ∧ ∀ x H', (Itl K a).yld i H x H' → g x σ H' fun σ2 H2 => tb { D with nx := N, ct := N, bk := D.nx } σ2 H2) := by
  refine ⟨fun i m σ H => m = xs.length - i ∧ i ≤ xs.length ∧ Pv i σ H, ⟨xs.length, by simp, Nat.zero_le _, h0⟩, ?_⟩
  rintro i m σ H ⟨rfl, hi, p⟩
  have q := hl i σ H hi p
  by_cases hlt : i < xs.length
  · refine .inr ⟨⟨xs, xs[i], q, by simp [hlt]⟩, Pv (i + 1), fun σ' H' p' => ⟨xs.length - (i + 1), by omega, rfl, hlt, p'⟩, fun x H' y => ?_⟩
    obtain ⟨e, y⟩ := y
    subst e
    exact hs i x σ _ (y xs q) p
  · have e : i = xs.length := by omega
    subst e
    exact .inl ⟨⟨xs, q, Nat.le_refl _⟩, hd σ H p⟩
theorem for_range {lo : Int} {n : Nat} {g : TG} {tb : TS} {D : Ends} {σ : St} {H : Hp} (Pv : Nat → St → Hp → Prop) (h0 : Pv 0 σ H)
    (hs : ∀ i σ H, i < n → Pv i σ H → g (.int (lo + i)) σ H fun σ2 H2 => tb { D with nx := Pv (i + 1), ct := Pv (i + 1), bk := D.nx } σ2 H2) (hd : ∀ σ H, Pv n σ H → D.nx σ H) :
    ∃ W : Nat → Nat → St → Hp → Prop, (∃ m, W 0 m σ H) ∧ ∀ i m σ H, W i m σ H →
      ((Itr lo n).stop i H ∧ D.nx σ H) ∨ ((Itr lo n).go i H ∧ ∃ N : St → Hp → Prop, (∀ σ' H', N σ' H' → ∃ m', m' < m ∧ W (i + 1) m' σ' H') ∧ ∀ x H', (Itr lo n).yld i H x H' → g x σ H' fun σ2 H2 => tb { D with nx := N, ct := N, bk := D.nx } σ2 H2) := by
  refine ⟨fun i m σ H => m = n - i ∧ i ≤ n ∧ Pv i σ H, ⟨n, by simp, Nat.zero_le _, h0⟩, ?_⟩
  rintro i m σ H ⟨rfl, hi, p⟩
  by_cases hlt : i < n
  · refine .inr ⟨hlt, Pv (i + 1), fun σ' H' p' => ⟨n - (i + 1), by omega, rfl, hlt, p'⟩, fun x H' y => ?_⟩
    obtain ⟨e, y⟩ := y
    subst e y
    exact hs i σ _ hlt p
  · have e : i = n := by omega
    subst e
    exact .inl ⟨Nat.le_refl _, hd σ H p⟩
end L2

namespace L2
open PySem PySem.Spec PyProof.Rows

abbrev R2 := V → V → Hp → VK → Prop
/-- a two-place operation on values: f is binaryOp op, inplaceOp op or compareOp op -/
def OpR (X : Cx) (f : Value → Value → Sem Value) (r : R2) : Prop :=
  ∀ (pins : List (Addr × Obj)) (s : Shared) (σ : St) (H : Hp) (x y : V) (v u : Value) (Q : VK), Inv X pins σ H s → RelV x v → RelV y u → r x y H Q →
    wpAny (model X.prog X.w) X.A (f v u) (EP X pins σ Q) X.xe s
/-- a one-place operation -/
def UnR (X : Cx) (f : Value → Sem Value) (r : V → Hp → VK → Prop) : Prop :=
  ∀ (pins : List (Addr × Obj)) (s : Shared) (σ : St) (H : Hp) (x : V) (v : Value) (Q : VK), Inv X pins σ H s → RelV x v → r x H Q →
    wpAny (model X.prog X.w) X.A (f v) (EP X pins σ Q) X.xe s
/-- a call of a value that is known (a builtin, a type) with values -/
def CallR (X : Cx) (f : Value) (r : List V → Hp → VK → Prop) : Prop :=
  ∀ (pins : List (Addr × Obj)) (s : Shared) (σ : St) (H : Hp) (xs : List V) (us : List Value) (Q : VK), Inv X pins σ H s → Vals xs us → r xs H Q →
    wpAny (model X.prog X.w) X.A (call f us) (EP X pins σ Q) X.xe s
def tOp (r : R2) (ta tb : TE) : TE := fun σ H Q => ta σ H fun x H1 => tb σ H1 fun y H2 => r x y H2 Q
def tUn (r : V → Hp → VK → Prop) (ta : TE) : TE := fun σ H Q => ta σ H fun x H1 => r x H1 Q
/-- ints in, under C, and a value out -/
def rI (C : Int → Int → Prop) (g : Int → Int → V) : R2 := fun x y H Q => ∃ i j, x = .int i ∧ y = .int j ∧ C i j ∧ Q (g i j) H
def rI0 (g : Int → Int → V) : R2 := fun x y H Q => ∃ i j, x = .int i ∧ y = .int j ∧ Q (g i j) H
def rU (g : Int → V) : V → Hp → VK → Prop := fun x H Q => ∃ i, x = .int i ∧ Q (g i) H

section
variable {X : Cx} {a b c : Expr} {ta tb tc : TE} {pos : Pos}

theorem binT (ha : PE X a ta) (hb : PE X b tb) {pins : List (Addr × Obj)} {s : Shared} {σ : St} {H : Hp} {R : V → V → Hp → Prop} (I : Inv X pins σ H s)
    (h : ta σ H fun x H1 => tb σ H1 fun y H2 => R x y H2) {Q : Value → Shared → Prop} {f : Value → Value → Sem Value}
    (hf : ∀ v u s2 x y H2, Inv X pins σ H2 s2 → RelV x v → RelV y u → R x y H2 → wpAny (model X.prog X.w) X.A (f v u) Q X.xe s2) :
    wpAny (model X.prog X.w) X.A (eval a X.env) (fun v s₁ => wpAny (model X.prog X.w) X.A (eval b X.env) (fun u s₂ => wpAny (model X.prog X.w) X.A (f v u) Q X.xe s₂) X.xe s₁) X.xe s := by
  refine thn (ha pins s σ H _ I h) fun v s1 hpat => ?_
  obtain ⟨x, H1, I1, r1, q1⟩ := hpat
  refine thn (hb pins s1 σ H1 _ I1 q1) fun u s2 hpat => ?_
  obtain ⟨y, H2, I2, r2, q2⟩ := hpat
  exact hf v u s2 x y H2 I2 r1 r2 q2

theorem pe_op {op : Operator} {r : R2} (ho : OpR X (binaryOp op) r) (ha : PE X a ta) (hb : PE X b tb) : PE X (.BinOp a op b pos) (tOp r ta tb) := by
  intro pins s σ H Q I h
  exact wpAny_BinOp (binT ha hb I h fun v u s2 x y H2 I2 rx ry q => ho pins s2 σ H2 x y v u Q I2 rx ry q)
theorem pe_un {op : UnaryOp} {r : V → Hp → VK → Prop} (ho : UnR X (unaryOp op) r) (ha : PE X a ta) : PE X (.UnaryOp op a pos) (tUn r ta) := by
  intro pins s σ H Q I h
  exact UnaryOp_ (thn (ha pins s σ H _ I h) fun v s1 ⟨x, H1, I1, r1, q1⟩ => ho pins s1 σ H1 x v Q I1 r1 q1)
/-! ### ints -/
theorem opI {f : Value → Value → Sem Value} {C : Int → Int → Prop} {g : Int → Int → Int}
    (rule : ∀ (i j : Int) (t u : Tok) (s : Shared) (Q : Value → Shared → Prop) (E : Value → Shared → Prop), C i j → Q (.int (g i j) s.toks) { s with toks := s.toks + 1 } → wpAny (model X.prog X.w) X.A (f (.int i t) (.int j u)) Q E s) :
    OpR X f (rI C fun i j => .int (g i j)) := by
  intro pins s σ H x y v u Q I rx ry h
  obtain ⟨i, j, rfl, rfl, hc, q⟩ := h
  obtain ⟨t, rfl⟩ := rx
  obtain ⟨t', rfl⟩ := ry
  exact rule i j t t' s _ _ hc ⟨.int (g i j), H, I.tok _, ⟨_, rfl⟩, q⟩
theorem opI0 {f : Value → Value → Sem Value} {g : Int → Int → Int}
    (rule : ∀ (i j : Int) (t u : Tok) (s : Shared) (Q : Value → Shared → Prop) (E : Value → Shared → Prop), Q (.int (g i j) s.toks) { s with toks := s.toks + 1 } → wpAny (model X.prog X.w) X.A (f (.int i t) (.int j u)) Q E s) :
    OpR X f (rI0 fun i j => .int (g i j)) := by
  intro pins s σ H x y v u Q I rx ry h
  obtain ⟨i, j, rfl, rfl, q⟩ := h
  obtain ⟨t, rfl⟩ := rx
  obtain ⟨t', rfl⟩ := ry
  exact rule i j t t' s _ _ ⟨.int (g i j), H, I.tok _, ⟨_, rfl⟩, q⟩
theorem opB0 {f : Value → Value → Sem Value} {g : Int → Int → Bool}
    (rule : ∀ (i j : Int) (t u : Tok) (s : Shared) (Q : Value → Shared → Prop) (E : Value → Shared → Prop), Q (.bool (g i j)) s → wpAny (model X.prog X.w) X.A (f (.int i t) (.int j u)) Q E s) :
    OpR X f (rI0 fun i j => .bl (g i j)) := by
  intro pins s σ H x y v u Q I rx ry h
  obtain ⟨i, j, rfl, rfl, q⟩ := h
  obtain ⟨t, rfl⟩ := rx
  obtain ⟨t', rfl⟩ := ry
  exact rule i j t t' s _ _ ⟨.bl (g i j), H, I, rfl, q⟩

def CDiv (i j : Int) : Prop := 0 < j ∧ j < 1073741824
def CPow (i j : Int) : Prop := 0 ≤ j ∧ j ≤ 1000000 ∧ i.natAbs < 2 ^ 64
def CMul (i j : Int) : Prop := (-(2 ^ 64) < i ∧ i < 2 ^ 64) ∨ (-(2 ^ 64) < j ∧ j < 2 ^ 64)
theorem CMul.ok {i j : Int} (h : CMul i j) : IntMulOk i j := by
  rcases h with ⟨h1, h2⟩ | ⟨h1, h2⟩
  · exact .of_left (intBits_le_64 h1 h2)
  · exact .of_right (intBits_le_64 h1 h2)
theorem op_add : OpR X (binaryOp .Add) (rI0 fun i j => .int (i + j)) := opI0 fun _ _ _ _ _ _ _ q => add_int q
theorem op_sub : OpR X (binaryOp .Sub) (rI0 fun i j => .int (i - j)) := opI0 fun _ _ _ _ _ _ _ q => sub_int q
theorem op_mul : OpR X (binaryOp .Mult) (rI CMul fun i j => .int (i * j)) := opI fun _ _ _ _ _ _ _ hc q => mul_int q hc.ok
/-- // by a positive divisor -/
theorem op_fdiv : OpR X (binaryOp .FloorDiv) (rI CDiv fun i j => .int (i / j)) := opI fun i j _ _ _ _ _ hc q => by
  have h1 : (0 : Int) < j := hc.1
  have h2 : j < 1073741824 := hc.2
  exact floordiv_int (by omega) (by rw [Int.fdiv_eq_ediv_of_nonneg i (by omega)]; exact q) (.inl (PyProof.noPylong_small (by omega)))
/-- % by a positive divisor of any size -/
theorem op_mod : OpR X (binaryOp .Mod) (rI (fun _ j => 0 < j) fun i j => .int (i % j)) := opI fun i j _ _ _ _ _ hc q => by
  have h1 : (0 : Int) < j := hc
  exact mod_int' (by omega) (by rw [Int.fmod_eq_emod_of_nonneg i (by omega)]; exact q)
theorem op_pow : OpR X (binaryOp .Pow) (rI CPow fun i j => .int (i ^ j.toNat)) := opI fun _ _ _ _ _ _ _ hc q => pow_int_small hc.1 hc.2.1 hc.2.2 q
theorem unI {f : Value → Sem Value} {g : Int → Int}
    (rule : ∀ (i : Int) (t : Tok) (s : Shared) (Q : Value → Shared → Prop) (E : Value → Shared → Prop), Q (.int (g i) s.toks) { s with toks := s.toks + 1 } → wpAny (model X.prog X.w) X.A (f (.int i t)) Q E s) :
    UnR X f (rU fun i => .int (g i)) := by
  intro pins s σ H x v Q I rx h
  obtain ⟨i, rfl, q⟩ := h
  obtain ⟨t, rfl⟩ := rx
  exact rule i t s _ _ ⟨.int (g i), H, I.tok _, ⟨_, rfl⟩, q⟩
theorem un_neg : UnR X (unaryOp .USub) (rU fun i => .int (-i)) := unI fun _ _ _ _ _ q => neg_int q
/-! ### bools among ints: n += (a < b) -/
end

/-! ### comparisons -/
/-- the scalars that == tells apart as data does -/
def scal : V → V → Bool
  | .non, .non => true | .non, .int _ => true | .int _, .non => true | .non, .bl _ => true | .bl _, .non => true | .non, .str _ => true | .str _, .non => true
  | .int _, .int _ => true | .bl _, .bl _ => true | .str _, .str _ => true | .byt _, .byt _ => true
  | .int _, .str _ => true | .str _, .int _ => true | .bl _, .str _ => true | .str _, .bl _ => true
  | _, _ => false
def rEq : R2 := fun x y H Q => scal x y = true ∧ Q (.bl (decide (x = y))) H
def rNe : R2 := fun x y H Q => scal x y = true ∧ Q (.bl (!decide (x = y))) H

theorem dec_int {i j : Int} : decide (V.int i = V.int j) = (i == j) := by
  rw [Bool.eq_iff_iff]
  simp
theorem dec_bl {i j : Bool} : decide (V.bl i = V.bl j) = (i == j) := by
  rw [Bool.eq_iff_iff]
  simp
theorem dec_str {i j : Str} : decide (V.str i = V.str j) = (i == j) := by
  rw [Bool.eq_iff_iff]
  simp
theorem dec_byt {i j : Array UInt8} : decide (V.byt i = V.byt j) = (i.toList == j.toList) := by
  rw [Bool.eq_iff_iff]
  cases i
  cases j
  simp

section
variable {X : Cx} {a b c : Expr} {ta tb tc : TE} {pos : Pos}
theorem fin_bl {pins : List (Addr × Obj)} {σ : St} {H : Hp} {s : Shared} {Q : VK} {k k' : Bool} (I : Inv X pins σ H s) (q : Q (.bl k) H) (e : k = k') : EP X pins σ Q (.bool k') s := by
  subst e
  exact ⟨.bl k, H, I, rfl, q⟩
theorem op_eq : OpR X (compareOp .Eq) rEq := by
  intro pins s σ H x y v u Q I rx ry h
  obtain ⟨hs, q⟩ := h
  cases x with
  | non =>
    cases rx
    cases y with
    | non => cases ry; exact PySem.EqNone.eq_none_none (fin_bl I q (by simp))
    | bl j => cases ry; exact PySem.EqNone.eq_none_bool (fin_bl I q (by simp))
    | int j => obtain ⟨t', rfl⟩ := ry; exact PySem.EqNone.eq_none_int (fin_bl I q (by simp))
    | str j => obtain ⟨t', rfl⟩ := ry; exact PySem.EqNone.eq_none_str (fin_bl I q (by simp))
    | _ => exact absurd (show false = true from hs) Bool.false_ne_true
  | bl i =>
    cases rx
    cases y with
    | non => cases ry; exact PySem.EqNone.eq_bool_none (fin_bl I q (by simp))
    | bl j => cases ry; exact eq_bool (fin_bl I q dec_bl)
    | str j => obtain ⟨t', rfl⟩ := ry; exact PySem.EqMixed.eq_bool_str (fin_bl I q (by simp))
    | _ => exact absurd (show false = true from hs) Bool.false_ne_true
  | int i =>
    obtain ⟨t, rfl⟩ := rx
    cases y with
    | non => cases ry; exact PySem.EqNone.eq_int_none (fin_bl I q (by simp))
    | int j => obtain ⟨t', rfl⟩ := ry; exact eq_int (fin_bl I q dec_int)
    | str j => obtain ⟨t', rfl⟩ := ry; exact PySem.EqMixed.eq_int_str (fin_bl I q (by simp))
    | _ => exact absurd (show false = true from hs) Bool.false_ne_true
  | str i =>
    obtain ⟨t, rfl⟩ := rx
    cases y with
    | non => cases ry; exact PySem.EqNone.eq_str_none (fin_bl I q (by simp))
    | bl j => cases ry; exact PySem.EqMixed.eq_str_bool (fin_bl I q (by simp))
    | int j => obtain ⟨t', rfl⟩ := ry; exact PySem.EqMixed.eq_str_int (fin_bl I q (by simp))
    | str j => obtain ⟨t', rfl⟩ := ry; exact eq_str (fin_bl I q dec_str)
    | _ => exact absurd (show false = true from hs) Bool.false_ne_true
  | byt i =>
    obtain ⟨t, rfl⟩ := rx
    cases y with
    | byt j => obtain ⟨t', rfl⟩ := ry; exact PySem.W.eq_bytes (fin_bl I q dec_byt)
    | _ => exact absurd (show false = true from hs) Bool.false_ne_true
  | _ => cases y <;> exact absurd (show false = true from hs) Bool.false_ne_true
theorem op_ne : OpR X (compareOp .NotEq) rNe := by
  intro pins s σ H x y v u Q I rx ry h
  obtain ⟨hs, q⟩ := h
  cases x with
  | non =>
    cases rx
    cases y with
    | non => cases ry; exact PySem.EqNone.ne_none_none (fin_bl I q (by simp))
    | bl j => cases ry; exact PySem.EqNone.ne_none_bool (fin_bl I q (by simp))
    | int j => obtain ⟨t', rfl⟩ := ry; exact PySem.EqNone.ne_none_int (fin_bl I q (by simp))
    | str j => obtain ⟨t', rfl⟩ := ry; exact PySem.EqNone.ne_none_str (fin_bl I q (by simp))
    | _ => exact absurd (show false = true from hs) Bool.false_ne_true
  | bl i =>
    cases rx
    cases y with
    | non => cases ry; exact PySem.EqNone.ne_bool_none (fin_bl I q (by simp))
    | bl j => cases ry; exact ne_bool (fin_bl I q (congrArg not dec_bl))
    | str j => obtain ⟨t', rfl⟩ := ry; exact PySem.EqMixed.ne_bool_str (fin_bl I q (by simp))
    | _ => exact absurd (show false = true from hs) Bool.false_ne_true
  | int i =>
    obtain ⟨t, rfl⟩ := rx
    cases y with
    | non => cases ry; exact PySem.EqNone.ne_int_none (fin_bl I q (by simp))
    | int j => obtain ⟨t', rfl⟩ := ry; exact ne_int (fin_bl I q (congrArg not dec_int))
    | str j => obtain ⟨t', rfl⟩ := ry; exact PySem.EqMixed.ne_int_str (fin_bl I q (by simp))
    | _ => exact absurd (show false = true from hs) Bool.false_ne_true
  | str i =>
    obtain ⟨t, rfl⟩ := rx
    cases y with
    | non => cases ry; exact PySem.EqNone.ne_str_none (fin_bl I q (by simp))
    | bl j => cases ry; exact PySem.EqMixed.ne_str_bool (fin_bl I q (by simp))
    | int j => obtain ⟨t', rfl⟩ := ry; exact PySem.EqMixed.ne_str_int (fin_bl I q (by simp))
    | str j => obtain ⟨t', rfl⟩ := ry; exact ne_str (fin_bl I q (congrArg not dec_str))
    | _ => exact absurd (show false = true from hs) Bool.false_ne_true
  | byt i =>
    obtain ⟨t, rfl⟩ := rx
    cases y with
    | byt j => obtain ⟨t', rfl⟩ := ry; exact PySem.W.ne_bytes (fin_bl I q (congrArg not dec_byt))
    | _ => exact absurd (show false = true from hs) Bool.false_ne_true
  | _ => cases y <;> exact absurd (show false = true from hs) Bool.false_ne_true

theorem op_lt : OpR X (compareOp .Lt) (rI0 fun i j => .bl (decide (i < j))) := opB0 fun _ _ _ _ _ _ _ q => lt_int q
theorem op_gt : OpR X (compareOp .Gt) (rI0 fun i j => .bl (decide (j < i))) := opB0 fun _ _ _ _ _ _ _ q => gt_int q
theorem op_ge : OpR X (compareOp .GtE) (rI0 fun i j => .bl (decide (j ≤ i))) := opB0 fun _ _ _ _ _ _ _ q => ge_int q
/-- is None, is not None: the right side a value none -/
theorem op_isN : OpR X (compareOp .Is) (fun x y H Q => y = .non ∧ Q (.bl (decide (x = .non))) H) := by
  intro pins s σ H x y v u Q I rx ry h
  obtain ⟨rfl, q⟩ := h
  cases ry
  refine is_none_gen (fin_bl I q ?_)
  cases x <;> first
    | (cases rx; rfl)
    | (obtain ⟨t, rfl⟩ := rx; rfl)
theorem nomark (b : Expr) {op : CmpOp} (h : op ≠ .In := by decide) (h2 : op ≠ .NotIn := by decide) : behindInMarks op b = false := by
  have e1 : (op == CmpOp.In) = false := by cases op <;> first | rfl | exact absurd rfl h
  have e2 : (op == CmpOp.NotIn) = false := by cases op <;> first | rfl | exact absurd rfl h2
  cases b <;> simp [behindInMarks, e1, e2]
/-- a comparison as a value; hm: nomark b, or (for in, not in) by with_unfolding_all rfl -/
theorem pe_cmpR {op : CmpOp} {r : R2} (ho : OpR X (compareOp op) r) (ha : PE X a ta) (hb : PE X b tb) (hm : behindInMarks op b = false) : PE X (.Compare a [op] [b] pos) (tOp r ta tb) := by
  intro pins s σ H Q I h
  exact wpAny_Compare1 (binT ha hb I h fun v u s2 x y H2 I2 rx ry q => ho pins s2 σ H2 x y v u Q I2 rx ry q) hm
/-- a reading of a value as a test -/
def tTest (t : TE) : TT := fun σ H Q => t σ H fun x H' => ∃ k, x = .bl k ∧ Q k H'
theorem pt_cmpR {op : CmpOp} {r : R2} (ho : OpR X (compareOp op) r) (ha : PE X a ta) (hb : PE X b tb) (hm : behindInMarks op b = false) : PT X (.Compare a [op] [b] pos) (tTest (tOp r ta tb)) := by
  intro pins s σ H Q I h
  refine wpAny_isTrue_Compare1 (thn (ha pins s σ H _ I h) fun v s1 ⟨x, H1, I1, r1, q1⟩ => thn (hb pins s1 σ H1 _ I1 q1) fun u s2 ⟨y, H2, I2, r2, q2⟩ =>
    thn (ho pins s2 σ H2 x y v u _ I2 r1 r2 q2) fun c s3 ⟨z, H3, I3, r3, k, e, q3⟩ => ?_) hm
  subst e
  cases r3
  exact wpAny_truthy_bool ⟨H3, I3, q3⟩
/-! ### truth -/
theorem line63 : (sizeLine : Nat) < 2 ^ 63 := by rw [sizeLine_eq]; decide
/-! ### strs and bytes -/
/-! ### scalar builtins, by CallR -/
theorem vals1 {x : V} {us : List Value} (r : Vals [x] us) : ∃ u, us = [u] ∧ RelV x u := by
  cases r with
  | cons r1 r2 => cases r2; exact ⟨_, rfl, r1⟩
theorem vals2 {x y : V} {us : List Value} (r : Vals [x, y] us) : ∃ u w', us = [u, w'] ∧ RelV x u ∧ RelV y w' := by
  cases r with
  | cons r1 r2 =>
    cases r2 with
    | cons r3 r4 => cases r4; exact ⟨_, _, rfl, r1, r3⟩
theorem call_max2 (hc : X.calm = true) : CallR X (.builtin "max") (fun xs H Q => ∃ i j, xs = [.int i, .int j] ∧ Q (.int (if j > i then j else i)) H) := by
  intro pins s σ H xs us Q I r h
  obtain ⟨i, j, rfl, q⟩ := h
  obtain ⟨u, w', rfl, ⟨t, rfl⟩, ⟨t', rfl⟩⟩ := vals2 r
  refine max_two_ints (I.ok.hd hc) fun h' tk k => ⟨_, H, I.kept k, ?_, q⟩
  by_cases hj : j > i
  · rw [if_pos hj, if_pos hj]; exact ⟨_, rfl⟩
  · rw [if_neg hj, if_neg hj]; exact ⟨_, rfl⟩
theorem call_int1 : CallR X (.type "int") (fun xs H Q => (∃ i, xs = [.int i] ∧ Q (.int i) H) ∨ ∃ k, xs = [.bl k] ∧ Q (.int (if k then 1 else 0)) H) := by
  intro pins s σ H xs us Q I r h
  rcases h with ⟨i, rfl, q⟩ | ⟨k, rfl, q⟩
  · obtain ⟨u, rfl, t, rfl⟩ := vals1 r
    exact call_int_int ⟨.int i, H, I, ⟨_, rfl⟩, q⟩
  · obtain ⟨u, rfl, r1⟩ := vals1 r
    cases r1
    exact call_int_bool ⟨.int (if k then 1 else 0), H, I.tok _, ⟨_, rfl⟩, q⟩
end
end L2

namespace L2
open PySem PySem.Spec PyProof.Rows

/-! ### an instance, its attributes a map -/
structure ObjM (h : Heap) (x dx C : Addr) (mA : Str → Option Value) : Prop where
  obj : h.get? x = some (PySem.W.instObj C dx)
  ns : h.Ns1 dx mA
  ne : dx ≠ x

section
variable {prog : Program} {w : World} {A : Around} {E : Value → Shared → Prop} {s : Shared} {K : PySem.W.Frag} {x dx C f : Addr} {mA : Str → Option Value} {name : Str} {v : Value}

end

/-! ### the attributes as a list of pairs -/
section
variable {P : Program} {w : World} {H H' : Hp} {h h' : Heap} {a C dx : Addr} {fs fs' : List (Str × V)}
end

/-! ### what of the text a class must have -/
structure Cls (K : PySem.W.Frag) (C : Addr) : Prop where
  pg : PySem.W.plainGet K C Str.empty = true
  hd : PySem.W.hasDictIn K C = true
  po : PySem.W.plainOver K C = true
  sa : PySem.W.findIn K (.ref C) "__setattr__" = some (some (.builtin "object.__setattr__"))
/-- a constant of the class -/
structure Con (K : PySem.W.Frag) (C : Addr) (f : Str) (v : V) (u : Value) : Prop where
  at_ : PySem.W.findIn K (.ref C) f = some (some u)
  rel : RelV v u
  get : PySem.W.specialIn K u "__get__" = some none
  cp : PySem.W.copiedNames.contains f = false
/-- a method: a plain def of the class or of one above it -/
structure Meth (K : PySem.W.Frag) (C : Addr) (m : Str) (f : Addr) : Prop where
  at_ : PySem.W.findIn K (.ref C) m = some (some (.ref f))
  fn : PySem.W.isFn K (.ref f) = true
  kp : PySem.W.keepIn K (.ref f) = true

section
variable {X : Cx} {pins : List (Addr × Obj)} {σ : St} {H : Hp} {s : Shared} {a C dx : Addr} {fs : List (Str × V)} {f : Str} {v : V} {A : Around} {E : Value → Shared → Prop}

end

/-! ### readings and rules -/
section
variable {X : Cx} {o e value : Expr} {f : Str} {pos pos' tpos : Pos} {ta tv : TE}
end

/-! ### isinstance -/
section
variable {X : Cx} {pins : List (Addr × Obj)} {σ : St} {H : Hp} {s : Shared} {A : Around} {E : Value → Shared → Prop} {Q : Value → Shared → Prop} {c : Value} {b : Bool}
/-- the type of a value, as the fragment's deciders take it; for an instance its class -/
inductive TyOf (K : PySem.W.Frag) (H : Hp) : V → Value → Prop where
  | non : TyOf K H .non (.type "NoneType")
  | bl (x : Bool) : TyOf K H (.bl x) (.type "bool")
  | int (i : Int) : TyOf K H (.int i) (.type "int")
  | str (x : Str) : TyOf K H (.str x) (.type "str")
  | flt (x : UInt64) : TyOf K H (.flt x) (.type "float")
  | lst {a : Addr} {xs : List V} (e : H a = some (.lst xs)) : TyOf K H (.ref a) (.type "list")
  | frz {a : Addr} {o : Obj} {xs : List V} (e : H a = some (.frz o (.lst xs))) : TyOf K H (.ref a) (.type "list")
  | tup {a : Addr} {xs : List V} (e : H a = some (.tup xs)) : TyOf K H (.ref a) (.type "tuple")
  | dK {a : Addr} {kvs : List (Key × V)} (e : H a = some (.dK kvs)) : TyOf K H (.ref a) (.type "dict")
  | dT {a : Addr} {kvs : List (List Key × V)} (e : H a = some (.dT kvs)) : TyOf K H (.ref a) (.type "dict")
  | ins {a C dx : Addr} {fs : List (Str × V)} (e : H a = some (.ins C dx fs)) (cl : Cls K C) (ha : PySem.W.findIn K (.ref C) "__class__" = some (some (.builtin "object.__class__")))
      (hn : PySem.W.specialIn K (.builtin "object.__class__") "__get__" = some (some (.builtin "getset_descriptor.__get__"))) (htk : PySem.W.takesIn K (.builtin "object.__class__") = some true)
      (hm : PySem.W.mroIn K C (.type "object") = some true) : TyOf K H (.ref a) (.ref C)
end
end L2

namespace L2
open PySem PySem.Spec PyProof.Rows

/-! ### room -/
structure Room (k : Nat) (A : Around) : Prop where
  hd : A.handled = none
  dp : A.depth + 3 * k + 5 < recursionLimit
  un : A.units + 16 * k + 200 < cLine
theorem Room.mono {j k : Nat} {A : Around} (r : Room k A) (h : j ≤ k) : Room j A := ⟨r.hd, by have := r.dp; omega, by have := r.un; omega⟩
theorem Room.deeper {k : Nat} {A : Around} (r : Room (k + 1) A) (env : Env) : Room k (A.deeper env) :=
  ⟨r.hd, by have := r.dp; show A.depth + 1 + 3 * k + 5 < _; omega, by have := r.un; show A.units + 3 + 16 * k + 200 < _; omega⟩
theorem Room.depth {k : Nat} {A : Around} (r : Room k A) : A.depth < recursionLimit := by have := r.dp; omega
theorem Room.units {k : Nat} {A : Around} (r : Room k A) : A.units + 64 < cLine := by have := r.un; omega
/-! ### argument lists and displays -/
def tNil : TA := fun _ H Q => Q [] H
def tCons (ta : TE) (tr : TA) : TA := fun σ H Q => ta σ H fun x H1 => tr σ H1 fun xs H2 => Q (x :: xs) H2
section
variable {X : Cx} {e : Expr} {es : List Expr} {te : TE} {t : TA} {pos : Pos}
theorem pa_nil : PA X [] tNil := fun _ _ _ _ H Q I h => Calls.spliced_nil ⟨[], H, I, .nil, h⟩
theorem pa_cons (ha : PE X e te) (hr : PA X es t) (hs : starEach (e :: es) X.env = (false, eval e X.env) :: starEach es X.env := by rfl) : PA X (e :: es) (tCons te t) := by
  intro pos pins s σ H Q I h
  rw [hs]
  show wpAny _ _ (spliced ((false, eval e X.env) :: backTo pos (starEach es X.env))) _ _ s
  refine Calls.spliced_cons (thn (ha pins s σ H _ I h) fun u s1 hpat => ?_)
  obtain ⟨x, H1, I1, r1, q1⟩ := hpat
  exact thn (hr pos pins s1 σ H1 _ I1 q1) fun us s2 ⟨xs, H2, I2, r2, q2⟩ => ⟨x :: xs, H2, I2, .cons r1 r2, q2⟩

/-- a tuple, a list of written items -/
def tTup (t : TA) : TE := fun σ H Q => t σ H fun xs H1 => xs.length ≤ sizeLine ∧ ∀ p, H1 p = none → Q (.ref p) (upd H1 p (.tup xs))
def tLst (t : TA) : TE := fun σ H Q => t σ H fun xs H1 => xs.length ≤ sizeLine ∧ ∀ p, H1 p = none → Q (.ref p) (upd H1 p (.lst xs))
theorem pe_tup {x1} (h : PA X es t) : PE X (.Tuple es x1 pos) (tTup t) := by
  intro pins s σ H Q I hq
  refine wpAny_Tuple_spliced (thn (h pos pins s σ H _ I hq) fun us s1 ⟨xs, H1, I1, r, z, q⟩ => ⟨by rw [← r.length]; exact z, ?_⟩)
  have hf : H1 s1.heap.objs.size = none := I1.hok.fresh (Nat.le_refl _)
  refine ⟨.ref s1.heap.objs.size, upd H1 s1.heap.objs.size (.tup xs), I1.laid (t' := s1.toks) (fun b u e => Heap.get?_push_of_some _ e) (Nat.le_refl _) ?_, rfl, q _ hf⟩
  exact ⟨z, us, r, ⟨_, Heap.get?_push_size _ rfl, rfl, _, rfl⟩, _, Heap.get?_push_size _ rfl, rfl⟩
theorem pe_lst (h : PA X es t) : PE X (.List es pos) (tLst t) := by
  intro pins s σ H Q I hq
  refine wpAny_List_spliced (thn (h pos pins s σ H _ I hq) fun us s1 ⟨xs, H1, I1, r, z, q⟩ => ⟨by rw [← r.length]; exact z, ?_⟩)
  have hf : H1 s1.heap.objs.size = none := I1.hok.fresh (Nat.le_refl _)
  refine ⟨.ref s1.heap.objs.size, upd H1 s1.heap.objs.size (.lst xs), I1.laid (t' := s1.toks) (fun b u e => Heap.get?_push_of_some _ e) (Nat.le_refl _) ?_, rfl, q _ hf⟩
  exact ⟨z, us, 0, r, Heap.get?_push_size _ rfl⟩
end

/-! ### what a def promises -/
/-- a def's promise: the bound arguments in the parameters' order, the heap, the wanted end, the wanted exception -/
abbrev Sp := List V → Hp → VK → XK → Prop
/-- how an exception lies behind a call (file 08 gives it): the callers' frames, abstract heap and state ahead of the call, the wish, the exception, the state -/
abbrev CXT := List Env → Hp → Shared → XK → Value → Shared → Prop

/-- the state at a call -/
structure Env0 (P : Program) (w : World) (K : PySem.W.Frag) (mg : Str → Option Value) (base : Heap) (A : Around) (outer : List Env) (s : Shared) (H : Hp) : Prop where
  frames : A.frames = some outer
  mod : Mod K mg base
  bs : ∀ b o, base.get? b = some o → s.heap.get? b = some o ∧ H b = none
  bsz : base.objs.size ≤ s.heap.objs.size
  funs : s.heap.FunFrames base outer
  frf : ∀ b ∈ frs outer, H b = none
  hok : HOk P w H s.heap
  bare : AllBare s.gens
/-- a call's end -/
def CE (outer : List Env) (P : Program) (w : World) (H : Hp) (s : Shared) (Q : VK) (u : Value) (s' : Shared) : Prop :=
  ∃ v H', s'.os = s.os ∧ AllBare s'.gens ∧ Un (frs outer) [] H H' s.heap s'.heap ∧ HOk P w H' s'.heap ∧ RelV v u ∧ Q v H'
def CR (CX : CXT) (outer : List Env) (P : Program) (w : World) (H : Hp) (s : Shared) (Q : VK) (E : XK) (r : Result) (s' : Shared) : Prop :=
  match r with
  | .ok (.ret u) => CE outer P w H s Q u s'
  | .ok _ => False
  | .error e => CX outer H s E e s'
structure FnOk (P : Program) (w : World) (K : PySem.W.Frag) (mg : Str → Option Value) (base : Heap) (CX : CXT) (k : Nat) (f : Addr) (fd : FuncData) (ps : List Str) (sp : Sp) : Prop where
  len : ∀ vs H Q E, sp vs H Q E → vs.length = ps.length
  run : ∀ (A : Around) (outer : List Env) (s : Shared) (H : Hp) (args : Args) (us : List Value) (vs : List V) (Q : VK) (E : XK), Room k A → Env0 P w K mg base A outer s H → BindsTo s fd args (ps.zip us) → Vals vs us → sp vs H Q E →
    codeAny (model P w) A (.call (.ref f) args) (CR CX outer P w H s Q E) s
section
variable {X : Cx} {pins : List (Addr × Obj)} {σ : St} {H : Hp} {s s' : Shared}
/-- from a body: what a callee wants -/
theorem Inv.env0 (I : Inv X pins σ H s) : Env0 X.prog X.w X.K X.mg X.base X.A X.stack s H :=
  ⟨I.ok.frames, I.ok.mod, I.bs, Nat.le_trans I.ok.bsz I.sz, I.stack, I.stkFree, I.hok, I.bare⟩
/-- behind a call -/
theorem Inv.after {Q : VK} {u : Value} (I : Inv X pins σ H s) (h : CE X.stack X.prog X.w H s Q u s') : EP X pins σ Q u s' := by
  obtain ⟨v, H', os, bare, un, hok, r, q⟩ := h
  obtain ⟨hh, g, d, t, os'⟩ := s'
  obtain rfl : os' = s.os := os
  exact ⟨v, H', I.call (h' := hh) (g' := g) (d' := d) (t' := t) (ch := []) un hok bare (fun b z => absurd z (by simp)), r, q⟩
end

/-! ### calls -/
/-- f(..): the written arguments, then the defaults dvs; E: what is wanted of an exception -/
def tCall (sp : Sp) (dvs : List V) (E : XK) (t : TA) : TE := fun σ H Q => t σ H fun vs H1 => sp (vs ++ dvs) H1 Q E
/-- how the parameters are bound: us the positional arguments, kw the keywords' values by name, ds the defaults that fill up -/
def Binds (K : PySem.W.Frag) (fd : FuncData) (ps : List Str) (ds : List Value) : Prop :=
  ∀ (s : Shared) (us : List Value), K.In s.heap → (us ++ ds).length = ps.length → BindsTo s fd ⟨us, []⟩ (ps.zip (us ++ ds))
/-- every parameter is given -/
theorem Binds.all {K : PySem.W.Frag} {fd : FuncData} {ps : List Str} (h : ∀ us : List Value, us.length = ps.length → bindArgs fd ⟨us, []⟩ = pure (ps.zip us)) : Binds K fd ps [] := fun s us _ hl => by
  rw [List.append_nil] at hl ⊢
  exact .of_eq (h us hl)

/-- an exception of a callee reaches what this body wants of exceptions -/
def Passes (CX : CXT) (X : Cx) (E : XK) : Prop := ∀ (pins : List (Addr × Obj)) (σ : St) (H : Hp) (s : Shared) (e : Value) (s' : Shared), Inv X pins σ H s → CX X.stack H s E e s' → X.xe e s'

section
variable {X : Cx} {CX : CXT} {k : Nat} {f C : Addr} {fd : FuncData} {ps : List Str} {sp : Sp} {dvs : List V} {ds : List Value} {E : XK} {x m : Str} {p pos apos : Pos} {e o : Expr} {es : List Expr} {ta : TE} {t : TA}

/-- the callee runs -/
theorem run_fn {pins : List (Addr × Obj)} {σ : St} {H : Hp} {s : Shared} {Q : VK} {us : List Value} {vs : List V} (F : FnOk X.prog X.w X.K X.mg X.base CX k f fd ps sp) (hr : Room k X.A) (hb : Binds X.K fd ps ds) (hd : Vals dvs ds) (hx : Passes CX X E)
    (I : Inv X pins σ H s) (r : Vals vs us) (h : sp (vs ++ dvs) H Q E) : wpAny (model X.prog X.w) X.A (call (.ref f) us) (EP X pins σ Q) X.xe s := by
  have r2 : Vals (vs ++ dvs) (us ++ ds) := r.append hd
  have hl : (us ++ ds).length = ps.length := by rw [← r2.length]; exact F.len _ _ _ _ h
  refine wpAny_call (codeAny_mono (F.run X.A X.stack s H ⟨us, []⟩ (us ++ ds) (vs ++ dvs) Q E hr I.env0 (hb s us I.kIn hl) r2 h) fun r s' hq => ?_)
  cases r with
  | error e => exact hx pins σ H s e s' I hq
  | ok fl =>
    cases fl with
    | ret u => exact I.after hq
    | next => exact False.elim hq
    | brk => exact False.elim hq
    | cont => exact False.elim hq

theorem pe_call (F : FnOk X.prog X.w X.K X.mg X.base CX k f fd ps sp) (hr : Room k X.A) (hg : Gl X x) (hm : X.mg x = some (.ref f)) (hk : PySem.W.keepIn X.K (.ref f) = true) (hb : Binds X.K fd ps ds) (hd : Vals dvs ds) (hx : Passes CX X E)
    (ha : PA X (e :: es) t) (hdb : (x == ("__debug__" : Str)) = false := by decide) (he : starEach (e :: es) X.env = (false, eval e X.env) :: starEach es X.env := by rfl) (hpl : (backTo pos (starEach es X.env)).any (·.1) = false := by rfl) :
    PE X (.Call (.Name x p) (e :: es) [] pos) (tCall sp dvs E t) := by
  intro pins s σ H Q I h
  refine wpAny_Call_Name_kw (ld_glob I hg hm ?_ hdb)
  refine PySem.W.callWith_K (h₀ := X.base) I.ok.mod.kin hk (thn (ha pos pins s σ H _ I h) fun us s1 ⟨vs, H1, I1, r, q⟩ => ⟨I1.kIn, ?_⟩) he hpl
  exact run_fn F hr hb hd hx I1 r q
/-- what a class must have to be made -/
structure Mk (K : PySem.W.Frag) (C f : Addr) : Prop where
  makes : PySem.W.makesIn K C = true
  init : PySem.W.findIn K (.ref C) "__init__" = some (some (.ref f))
  fn : PySem.W.isFn K (.ref f) = true
  kp : PySem.W.keepIn K (.ref C) = true

end

/-! ### keywords -/
section
variable {X : Cx} {CX : CXT} {k : Nat} {f C : Addr} {fd : FuncData} {ps ks : List Str} {sp : Sp} {E : XK} {x m : Str} {p pos apos kpos : Pos} {e o : Expr} {es : List Expr} {kws : List Keyword} {te ta : TE} {t tk : TA} {nm : Option Str}
/-- how a call with keywords binds: g puts the positional values us and the keywords' values ws (names ks) in the parameters' order, defaults among them -/
structure KBinds (K : PySem.W.Frag) (fd : FuncData) (ps ks : List Str) (g : List Value → List Value → List Value) (gV : List V → List V → List V) : Prop where
  to : ∀ (s : Shared) (us ws : List Value), K.In s.heap → (g us ws).length = ps.length → BindsTo s fd ⟨us, ks.zip ws⟩ (ps.zip (g us ws))
  rel : ∀ {vs : List V} {us : List Value} {zs : List V} {ws : List Value}, Vals vs us → Vals zs ws → Vals (gV vs zs) (g us ws)
variable {g : List Value → List Value → List Value} {gV : List V → List V → List V}
end

/-! ### a def's body keeps its promise -/
/-- names: the parameters first -/
structure FnScope (N P : List Str) (sc : Scope) : Prop where
  kind : sc.kind = .function
  co : sc.isCoroutine = false
  gen : sc.isGenerator = false
  nd : N.Nodup
  pre : N.take P.length = P
  par : ∀ x ∈ P, sc.names.lookup x = some .local ∨ sc.names.lookup x = some .cell
  nofree : ∀ y ∈ sc.names, y.2 ≠ .free

theorem bindL_out {kindOf : Str → Option NameKind} {x : Str} : ∀ {binds : List (Str × Value)} {m : Str → Option Value}, (∀ v, (x, v) ∉ binds) → bindL kindOf binds m x = m x
  | [], _, _ => rfl
  | (n, v) :: r, m, h => by
    unfold bindL
    rw [bindL_out fun w hw => h w (List.mem_cons_of_mem _ hw)]
    split
    · have : x ≠ n := by rintro rfl; exact h v List.mem_cons_self
      simp [this]
    · rfl
theorem bindC_out {kindOf : Str → Option NameKind} {x : Str} : ∀ {binds : List (Str × Value)} {m : Str → Option Value}, (∀ v, (x, v) ∉ binds) → bindC kindOf binds m x = m x
  | [], _, _ => rfl
  | (n, v) :: r, m, h => by
    unfold bindC
    rw [bindC_out fun w hw => h w (List.mem_cons_of_mem _ hw)]
    split
    · rfl
    · have : x ≠ n := by rintro rfl; exact h v List.mem_cons_self
      simp [this]
theorem bindL_get {kindOf : Str → Option NameKind} {x : Str} {v : Value} : ∀ {P : List Str} {vs : List Value} {i : Nat} {m : Str → Option Value}, P.Nodup → P[i]? = some x → vs[i]? = some v → kindOf x = some .local →
    bindL kindOf (P.zip vs) m x = some v
  | [], _, _, _, _, h, _, _ => by simp at h
  | _ :: _, [], _, _, _, _, h, _ => by simp at h
  | p :: P, w :: vs, 0, m, nd, h1, h2, hk => by
    simp at h1 h2; subst h1; subst h2
    show bindL kindOf ((p, w) :: P.zip vs) m p = _
    unfold bindL
    rw [bindL_out fun v hv => (List.nodup_cons.mp nd).1 (List.of_mem_zip hv).1, if_pos hk]
    simp
  | p :: P, w :: vs, i + 1, m, nd, h1, h2, hk => by
    show bindL kindOf ((p, w) :: P.zip vs) m x = _
    unfold bindL
    exact bindL_get (i := i) (List.nodup_cons.mp nd).2 (by simpa using h1) (by simpa using h2) hk
theorem bindC_get {kindOf : Str → Option NameKind} {x : Str} {v : Value} : ∀ {P : List Str} {vs : List Value} {i : Nat} {m : Str → Option Value}, P.Nodup → P[i]? = some x → vs[i]? = some v → kindOf x ≠ some .local →
    bindC kindOf (P.zip vs) m x = some v
  | [], _, _, _, _, h, _, _ => by simp at h
  | _ :: _, [], _, _, _, _, h, _ => by simp at h
  | p :: P, w :: vs, 0, m, nd, h1, h2, hk => by
    simp at h1 h2; subst h1; subst h2
    show bindC kindOf ((p, w) :: P.zip vs) m p = _
    unfold bindC
    rw [bindC_out fun v hv => (List.nodup_cons.mp nd).1 (List.of_mem_zip hv).1, if_neg hk]
    simp
  | p :: P, w :: vs, i + 1, m, nd, h1, h2, hk => by
    show bindC kindOf ((p, w) :: P.zip vs) m x = _
    unfold bindC
    exact bindC_get (i := i) (List.nodup_cons.mp nd).2 (by simpa using h1) (by simpa using h2) hk

/-- the names' values at the entry -/
def start (N : List Str) (vs : List V) : St := vs.map some ++ List.replicate (N.length - vs.length) none

/-- the context of a def's body, at its entry; an exception leaves the frame, then lies as CX says -/
def cxOf (CX : CXT) (P : Program) (w : World) (K : PySem.W.Frag) (mg : Str → Option Value) (base : Heap) (N : List Str) (qual : Str) (scope : Scope) (f : Addr) (cd : Value) (A : Around) (outer : List Env) (s : Shared) (H : Hp) (E : XK) : Cx where
  prog := P
  w := w
  K := K
  mg := mg
  base := base
  A := A.deeper (envOfC qual scope s.heap.objs.size f cd)
  N := N
  s₀ := s
  H₀ := H
  env := envOfC qual scope s.heap.objs.size f cd
  outer := outer
  stack := envOfC qual scope s.heap.objs.size f cd :: outer
  ex := []
  calm := true
  fn := fun _ => true
  pn := []
  xe := fun e s' => wpAny (model P w) (A.deeper (envOfC qual scope s.heap.objs.size f cd)) (leaving (envOfC qual scope s.heap.objs.size f cd) e) (fun _ s'' => CX outer H s E e s'') (fun e' s'' => CX outer H s E e' s'') s'

theorem cell_has {sc : Scope} {n : Nat} {x : Str} (h : sc.names.lookup x = some .cell) : ∃ c, (cellsFrom n sc.names []).lookup x = some c := by
  have q := PySem.W.cellsFrom_some sc.names n [] (.inl h)
  exact Option.isSome_iff_exists.mp q

theorem inv_start {CX : CXT} {P : Program} {w : World} {K : PySem.W.Frag} {mg : Str → Option Value} {base : Heap} {N ps : List Str} {qual : Str} {scope : Scope} {f : Addr} {cd : Value} {A : Around} {outer : List Env} {s s1 : Shared} {H : Hp} {E : XK} {us : List Value} {vs : List V}
    (S : FnScope N ps scope) (hd : A.handled = none) (e0 : Env0 P w K mg base A outer s H) (hl : vs.length = ps.length) (r : Vals vs us)
    (x : InCallC s s.heap.objs.size (bindL (envOfC qual scope s.heap.objs.size f cd).kindOf (ps.zip us) fun _ => none) (cellsFrom (s.heap.objs.size + 1) scope.names []) (bindC (envOfC qual scope s.heap.objs.size f cd).kindOf (ps.zip us) fun _ => none) s1) :
    Inv (cxOf CX P w K mg base N qual scope f cd A outer s H E) [] (start N vs) H s1 := by
  have hpl : ps.length ≤ N.length := by have := congrArg List.length S.pre; rw [List.length_take] at this; omega
  obtain ⟨h1, tk, rfl, hk⟩ := x.done
  have noA : ∀ b : Addr, b ∉ (cxOf CX P w K mg base N qual scope f cd A outer s H E).ex := fun b z => absurd (show b ∈ ([] : List Addr) from z) (by simp)
  refine ⟨⟨e0.mod, S.kind, rfl, rfl, Nat.le_refl _, fun y z c h1 h2 => ?_, fun y hy => ?_, fun y c _ h => ?_, fun _ => hd, Around.frames_deeper e0.frames, .inr ⟨rfl, rfl⟩, fun b z => absurd z (noA b), e0.bs, e0.bsz, fun b _ _ => noA b, fun b z => absurd z (noA b), e0.funs, e0.frf⟩,
    rfl, e0.bare, Un.kept hk, ⟨_, x.toInCall.ns, fun i y v h1 h2 h3 => ?_⟩, fun y c h => ⟨_, x.cell y c h⟩, e0.hok.fresh (Nat.le_refl _), fun y c h => ?_, fun p hp => absurd (show p ∈ ([] : List (Addr × Obj)) from hp) (by simp), e0.hok.kept hk, ?_⟩
  · exact name_of_addr x.apart (PySem.mem_of_lookup h1) (PySem.mem_of_lookup h2)
  · have hy : scope.names.lookup y = some .cell ∨ scope.names.lookup y = some .free := hy
    rcases hy with hy | hy
    · exact cell_has hy
    · exact absurd rfl (S.nofree _ (PySem.mem_of_lookup hy))
  · exact Nat.le_of_lt (x.above y c (PySem.mem_of_lookup h))
  · have hi : i < vs.length := by
      unfold start at h2
      by_cases hi : i < vs.length
      · exact hi
      · rw [List.getElem?_append_right (by simpa using hi)] at h2
        rw [List.getElem?_replicate] at h2
        split at h2 <;> cases h2
    have ha : vs[i]? = some v := by
      unfold start at h2
      rw [List.getElem?_append_left (by simpa using hi), List.getElem?_map] at h2
      cases e : vs[i]? with
      | none => rw [e] at h2; cases h2
      | some a => rw [e] at h2; cases h2; rfl
    obtain ⟨u, hu, rv⟩ := r.get ha
    have hp : ps[i]? = some y := by
      rw [← S.pre, List.getElem?_take_of_lt (by omega)]; exact h1
    have ndP : ps.Nodup := by rw [← S.pre]; exact S.nd.sublist (List.take_sublist _ _)
    refine ⟨u, rv, ?_⟩
    rcases S.par y (List.mem_of_getElem? hp) with k | k
    · exact .inl ⟨k, bindL_get ndP hp hu k⟩
    · obtain ⟨c, e⟩ := cell_has (n := s.heap.objs.size + 1) k
      refine .inr ⟨.inl k, c, e, ?_⟩
      have q := x.cell y c e
      rw [bindC_get ndP hp hu (by show scope.names.lookup y ≠ _; rw [k]; decide)] at q
      exact q
  · exact e0.hok.fresh (Nat.le_of_lt (x.above y c (PySem.mem_of_lookup h)))
  · unfold start
    show _ = N.length
    rw [List.length_append, List.length_map, List.length_replicate]
    omega

/-- THE RULE: a def (or a method) of the text, by its body. The body's reading t is chosen for each entry; it is run at the parameters' values -/
theorem fn_of {CX : CXT} {P : Program} {w : World} {K : PySem.W.Frag} {mg : Str → Option Value} {base : Heap} {k : Nat} {f : Addr} {name qual : Str} {params : Arguments} {body : List Stmt} {scope : Scope} {dV kV doc pm cdv ct oc : Value} {an od : Option Addr}
    {osl : Array (Option Value)} {N ps : List Str} {sp : Sp} (lk : K.lookup f = some ⟨oc, od, .func (PySem.W.fnOf name qual params body scope dV kV doc pm an cdv ct), osl⟩) (hcd : PySem.W.codeIn K cdv qual = true) (S : FnScope N ps scope)
    (len : ∀ vs H Q E, sp vs H Q E → vs.length = ps.length)
    (hbody : ∀ (A : Around) (outer : List Env) (s : Shared) (H : Hp) (vs : List V) (Q : VK) (E : XK), Room k (A.deeper (envOfC qual scope s.heap.objs.size f cdv)) → sp vs H Q E →
      ∃ t, PSs (cxOf CX P w K mg base N qual scope f cdv A outer s H E) body t ∧ t { nx := fun _ H' => Q .non H', rt := Q } (start N vs) H) :
    FnOk P w K mg base CX (k + 1) f (PySem.W.fnOf name qual params body scope dV kV doc pm an cdv ct) ps sp := by
  refine ⟨len, fun A outer s H args us vs Q E hr e0 hb r hsp => ?_⟩
  have hl := len _ _ _ _ hsp
  have KX : K.In s.heap := e0.mod.kin.keeps fun b o e => (e0.bs b o e).1
  have lim : s.heap.NoLimit := e0.mod.nolimit.keeps fun b o e => (e0.bs b o e).1
  have hkind : ∀ y ∈ ps.zip us, scope.names.lookup y.1 = some .local ∨ (scope.names.lookup y.1 = some .cell ∧ ((cellsFrom (s.heap.objs.size + 1) scope.names []).lookup y.1).isSome = true) := fun ⟨n, v⟩ hy => by
    rcases S.par n (List.of_mem_zip hy).1 with q | q
    · exact .inl q
    · exact .inr ⟨q, PySem.W.cellsFrom_some _ _ _ (.inl q)⟩
  refine codeAny_call_function hr.depth (KX _ _ lk) rfl S.co S.gen rfl (PySem.W.codeRec_of KX hcd) (hb _ _ _ _ ?_)
  refine wpAny_newFunctionEnv_cells S.kind hkind fun env he s1 x => ?_
  subst he
  refine ⟨lim.keeps x.toInCall.keep, codeAny_func ?_⟩
  obtain ⟨t, ht, hq⟩ := hbody A outer s H vs Q E (hr.deeper _) hsp
  have I : Inv (cxOf CX P w K mg base N qual scope f cdv A outer s H E) [] (start N vs) H s1 := inv_start S hr.hd e0 hl r x
  refine wpAny_mono (ht [] s1 (start N vs) H _ I hq) (fun fl s' hs => ?_) fun e s' hs => hs
  have fin : ∀ {σ' : St} {H' : Hp} {v : V} {u : Value}, Inv (cxOf CX P w K mg base N qual scope f cdv A outer s H E) [] σ' H' s' → RelV v u → Q v H' → CE outer P w H s Q u s' :=
    fun {σ' H' v u} J rv q => ⟨v, H', J.os, J.bare, J.base, J.hok, rv, q⟩
  cases fl with
  | ret u =>
    obtain ⟨v, σ', H', J, rv, q⟩ := hs
    exact fin J rv q
  | next =>
    obtain ⟨σ', H', J, q⟩ := hs
    exact fin (v := V.non) (u := Value.none) J rfl q
  | brk =>
    obtain ⟨_, _, _, q⟩ := hs
    exact False.elim q
  | cont =>
    obtain ⟨_, _, _, q⟩ := hs
    exact False.elim q
end L2

namespace L2
open PySem PySem.Spec PyProof.Rows
section
variable {X : Cx} {x : Str} {p pos : Pos} {e : Expr} {es : List Expr} {t : TA} {id T : String} {r : List V → Hp → VK → Prop}

def tCB (r : List V → Hp → VK → Prop) (t : TA) : TE := fun σ H Q => t σ H fun vs H1 => r vs H1 Q
/-- f(e, ..), f a built-in function -/
theorem pe_callB (hc : CallR X (.builtin id) r) (hg : Gl X x) (hm : X.mg x = none) (hv : bootBuiltins x = some (.builtin id)) (ha : PA X (e :: es) t) (hn : x ≠ "__name__" := by decide) (hdb : (x == ("__debug__" : Str)) = false := by decide)
    (he : starEach (e :: es) X.env = (false, eval e X.env) :: starEach es X.env := by rfl) (hpl : (backTo pos (starEach es X.env)).any (·.1) = false := by rfl) : PE X (.Call (.Name x p) (e :: es) [] pos) (tCB r t) := by
  intro pins s σ H Q I h
  refine wpAny_Call_Name_kw (ld_blt I hg hm hv ?_ hn hdb)
  exact PyProof.Rows.callWith_builtin1 (thn (ha pos pins s σ H _ I h) fun us s1 ⟨vs, H1, I1, r1, q1⟩ => hc pins s1 σ H1 vs us Q I1 r1 q1) he hpl
/-- T(e, ..), T a built-in type -/
theorem pe_callTy (hc : CallR X (.type T) r) (hg : Gl X x) (hm : X.mg x = none) (hv : bootBuiltins x = some (.type T)) (ha : PA X (e :: es) t) (hn : x ≠ "__name__" := by decide) (hdb : (x == ("__debug__" : Str)) = false := by decide)
    (he : starEach (e :: es) X.env = (false, eval e X.env) :: starEach es X.env := by rfl) (hpl : (backTo pos (starEach es X.env)).any (·.1) = false := by rfl) : PE X (.Call (.Name x p) (e :: es) [] pos) (tCB r t) := by
  intro pins s σ H Q I h
  refine wpAny_Call_Name_kw (ld_blt I hg hm hv ?_ hn hdb)
  exact PyProof.Rows.callWith_type1 (thn (ha pos pins s σ H _ I h) fun us s1 ⟨vs, H1, I1, r1, q1⟩ => hc pins s1 σ H1 vs us Q I1 r1 q1) he hpl
end
end L2

namespace HT
open PySem PyProof.Rows

section
open PySem.SeqAt
open PySem.AutoSeq1 (wpAny_loadPart')
open PySem.MeetsSeq PySem.MeetsSeq2 PySem.MeetsSeq3

end

section
variable {prog : Program} {w : World} {A : Around} {E : Value → Shared → Prop} {s : Shared}

/-! ### t[a:b], not the whole -/
/-- a slice's bound as a place among n (d where it is left out) -/
def sIx (n d : Nat) : Option Int → Nat
  | none => d
  | some v => if v < 0 then (v + (n : Int)).toNat else min v.toNat n
theorem sIx_none (n d : Nat) : sIx n d none = d := rfl
theorem sIx_nat (n d k : Nat) : sIx n d (some (k : Int)) = min k n := by
  show (if (k : Int) < 0 then ((k : Int) + (n : Int)).toNat else min (k : Int).toNat n) = min k n
  rw [if_neg (by omega), Int.toNat_natCast]
end
end HT

namespace L2
open PySem PySem.Spec PyProof.Rows

/-! ### the parts of a slice -/
abbrev TO := St → Hp → (Option Int → Hp → Prop) → Prop
/-- a slice's part (left out, or an int) -/
def PO (X : Cx) (e : Option Expr) (t : TO) : Prop :=
  ∀ (pins : List (Addr × Obj)) (s : Shared) (σ : St) (H : Hp) (Q : Option Int → Hp → Prop), Inv X pins σ H s → t σ H Q →
    wpAny (model X.prog X.w) X.A (evalPart e X.env) (fun u s' => ∃ o H', Inv X pins σ H' s' ∧ IsPart u o ∧ Q o H') X.xe s
def tNoPart : TO := fun _ H Q => Q none H
def tPart (t : TE) : TO := fun σ H Q => t σ H fun x H1 => ∃ i, x = .int i ∧ Q (some i) H1

section
variable {X : Cx} {e : Expr} {te : TE} {lo hi : Option Expr} {tl th : TO} {pos p2 : Pos}

theorem po_none : PO X none tNoPart := by
  intro pins s σ H Q I h
  rw [evalPart_none]
  exact wpAny_pure ⟨none, H, I, .none, h⟩
theorem po_some (h : PE X e te) : PO X (some e) (tPart te) := by
  intro pins s σ H Q I hw
  rw [evalPart_some]
  refine thn (h pins s σ H _ I hw) fun u s1 hpat => ?_
  obtain ⟨x, H1, I1, r1, q1⟩ := hpat
  obtain ⟨i, rfl, q⟩ := q1
  obtain ⟨t, rfl⟩ := r1
  exact ⟨some i, H1, I1, .int i t, q⟩

/-- what a slice of a value is, by values: the slice object stands at sl -/
def SlR (X : Cx) (r : V → Option Int → Option Int → Hp → VK → Prop) : Prop :=
  ∀ (pins : List (Addr × Obj)) (s : Shared) (σ : St) (H : Hp) (x : V) (v vl vu : Value) (lo hi : Option Int) (sl : Addr) (Q : VK), Inv X pins σ H s → RelV x v → s.heap.IsSliceOf sl vl vu .none → IsPart vl lo → IsPart vu hi → r x lo hi H Q →
    ∃ T id, typeLookup (.type T) "__getitem__" = pure (some (.builtin id)) ∧ s.TypeIs v T ∧ wpAny (model X.prog X.w) X.A (getItem v (.ref sl)) (EP X pins σ Q) X.xe s
def tSl (r : V → Option Int → Option Int → Hp → VK → Prop) (te : TE) (tl th : TO) : TE := fun σ H Q => te σ H fun x H1 => tl σ H1 fun l H2 => th σ H2 fun u H3 => r x l u H3 Q
/-- a[lo:hi], any a -/
theorem pe_slice {r : V → Option Int → Option Int → Hp → VK → Prop} (hr : SlR X r) (he : PE X e te) (hl : PO X lo tl) (hu : PO X hi th) : PE X (.Subscript e (.Slice lo hi none p2) pos) (tSl r te tl th) := by
  intro pins s σ H Q I h
  refine Subscript_ (thn (he pins s σ H _ I h) fun v s1 hpat => ?_)
  obtain ⟨x, H1, I1, r1, q1⟩ := hpat
  refine wpAny_Slice (thn (hl pins s1 σ H1 _ I1 q1) fun vl s2 ⟨l, H2, I2, pl, q2⟩ => thn (hu pins s2 σ H2 _ I2 q2) fun vu s3 hpat => ?_)
  obtain ⟨u, H3, I3, pu, q3⟩ := hpat
  rw [evalPart_none]
  refine wpAny_pure ?_
  have I4 : Inv X pins σ H3 { s3 with heap := s3.heap.push { cls := .type "slice", data := .fields #[vl, vu, .none] } } := I3.kept (t' := s3.toks) fun b ob q => Heap.get?_push_of_some _ q
  obtain ⟨T, id, hT, ht, hg⟩ := hr pins { s3 with heap := s3.heap.push { cls := .type "slice", data := .fields #[vl, vu, .none] } } σ H3 x v vl vu l u s3.heap.objs.size Q I4 r1 (Heap.IsSliceOf.new ..) pl pu q3
  show wpAny (model X.prog X.w) X.A (subscriptTail e (.Slice lo hi none p2) v (.ref s3.heap.objs.size)) (EP X pins σ Q) X.xe { s3 with heap := s3.heap.push { cls := .type "slice", data := .fields #[vl, vu, .none] } }
  exact tail_any (ops := [.ref s3.heap.objs.size, v]) ht hT hg (by with_unfolding_all rfl)

/-- the items of xs[lo:hi] -/
def cutV (xs : List V) (lo hi : Option Int) : List V := (xs.drop (HT.sIx xs.length 0 lo)).take (HT.sIx xs.length xs.length hi - HT.sIx xs.length 0 lo)
theorem cutV_length (xs : List V) (lo hi : Option Int) : (cutV xs lo hi).length ≤ xs.length := by
  unfold cutV
  rw [List.length_take, List.length_drop]
  omega
/-! ### t < u, t + u -/
end
end L2

namespace L2
open PySem PySem.Spec PyProof.Rows

/-! ### places -/
/-- the place that an index of any sign means -/
def ixN (n : Nat) (i : Int) : Option Nat := if 0 ≤ i then (if i < n then some i.toNat else none) else if -(n : Int) ≤ i then some (i + n).toNat else none
def atI {α : Type} (xs : List α) (i : Int) : Option α := (ixN xs.length i).bind fun j => xs[j]?
theorem ixN_seq {n : Nat} {i : Int} {j : Nat} (h : ixN n i = some j) : seqIndex? i n = some j ∧ j < n ∧ -(n : Int) ≤ i ∧ i < n := by
  unfold ixN at h
  by_cases h0 : 0 ≤ i
  · rw [if_pos h0] at h
    by_cases h1 : i < n
    · rw [if_pos h1] at h
      have e : i.toNat = j := Option.some.inj h
      exact ⟨by rw [seqIndex_of h0 h1, e], by omega, by omega, h1⟩
    · rw [if_neg h1] at h; cases h
  · rw [if_neg h0] at h
    by_cases h1 : -(n : Int) ≤ i
    · rw [if_pos h1] at h
      have e : (i + n).toNat = j := Option.some.inj h
      exact ⟨by rw [seqIndex_neg (by omega) h1, e], by omega, h1, by omega⟩
    · rw [if_neg h1] at h; cases h
theorem atI_get {α : Type} {xs : List α} {i : Int} {v : α} (h : atI xs i = some v) : ∃ j, seqIndex? i xs.length = some j ∧ xs[j]? = some v ∧ j < xs.length ∧ -(xs.length : Int) ≤ i ∧ i < xs.length := by
  unfold atI at h
  cases e : ixN xs.length i with
  | none => rw [e] at h; cases h
  | some j =>
    rw [e] at h
    obtain ⟨h1, h2, h3, h4⟩ := ixN_seq e
    exact ⟨j, h1, h, h2, h3, h4⟩
theorem atI_nat {α : Type} {xs : List α} {j : Nat} {v : α} (h : xs[j]? = some v) : atI xs (j : Int) = some v := by
  have hj : j < xs.length := (List.getElem?_eq_some_iff.mp h).1
  have e : ixN xs.length (j : Int) = some j := by
    unfold ixN
    rw [if_pos (by omega), if_pos (by omega)]; simp
  unfold atI; rw [e]; exact h
theorem atI_last {α : Type} (xs : List α) (v : α) : atI (xs ++ [v]) (-1) = some v := by
  have hl : (xs ++ [v]).length = xs.length + 1 := by simp
  have e : ixN (xs ++ [v]).length (-1) = some xs.length := by
    unfold ixN
    rw [hl, if_neg (by decide), if_pos (by omega)]
    congr 1
    omega
  unfold atI
  rw [e]
  show (xs ++ [v])[xs.length]? = some v
  simp

/-! ### what may be subscripted -/
/-- what stands as an index of a plain subscript -/
def PlainIx (b : Expr) : Prop := ∀ o i, subscripted b false o i = operate [o, i] (getItem o i)
/-- a subscript by values -/
def IxR (X : Cx) (r : R2) : Prop :=
  ∀ (value slice : Expr) (pins : List (Addr × Obj)) (s : Shared) (σ : St) (H : Hp) (x y : V) (v u : Value) (Q : VK), Inv X pins σ H s → RelV x v → RelV y u → r x y H Q →
    subscripted slice false v u = operate [v, u] (getItem v u) → wpAny (model X.prog X.w) X.A (subscriptTail value slice v u) (EP X pins σ Q) X.xe s
/-- a call of a builtin's method by values: the receiver, the arguments -/
def MtR (X : Cx) (id : String) (r : V → List V → Hp → VK → Prop) : Prop :=
  ∀ (pins : List (Addr × Obj)) (s : Shared) (σ : St) (H : Hp) (x : V) (xs : List V) (v : Value) (us : List Value) (Q : VK), Inv X pins σ H s → RelV x v → Vals xs us → r x xs H Q →
    wpAny (model X.prog X.w) X.A (call (.builtin id) (v :: us)) (EP X pins σ Q) X.xe s
section
variable {X : Cx} {a b : Expr} {ta tb : TE} {pos : Pos}
theorem IxR.or {r r' : R2} (h : IxR X r) (h' : IxR X r') : IxR X (fun x y H Q => r x y H Q ∨ r' x y H Q) := by
  intro value slice pins s σ H x y v u Q I rx ry q hs
  rcases q with q | q
  · exact h value slice pins s σ H x y v u Q I rx ry q hs
  · exact h' value slice pins s σ H x y v u Q I rx ry q hs
/-- a[b] -/
theorem pe_ix {r : R2} (hr : IxR X r) (ha : PE X a ta) (hb : PE X b tb) (hs : PlainIx b) : PE X (.Subscript a b pos) (tOp r ta tb) := by
  intro pins s σ H Q I h
  exact Subscript_ (binT ha hb I h fun v u s2 x y H2 I2 rx ry q => hr a b pins s2 σ H2 x y v u Q I2 rx ry q (hs _ _))

def rIxL (K : PySem.W.Frag) : R2 := fun x y H Q => ∃ p xs i v, x = .ref p ∧ y = .int i ∧ SqL K H p xs ∧ atI xs i = some v ∧ Q v H
def rIxT (K : PySem.W.Frag) : R2 := fun x y H Q => ∃ p xs i v, x = .ref p ∧ y = .int i ∧ SqT K H p xs ∧ atI xs i = some v ∧ Q v H
theorem ix_list : IxR X (rIxL X.K) := by
  intro value slice pins s σ H x y v u Q I rx ry h hs
  obtain ⟨p, xs, i, z, rfl, rfl, hq, he, q⟩ := h
  cases rx
  obtain ⟨t, rfl⟩ := ry
  obtain ⟨its, r, pl, hz⟩ := I.list hq
  obtain ⟨j, h1, h2, h3, h4, h5⟩ := atI_get he
  obtain ⟨w, ew, rw'⟩ := r.get h2
  have hl := r.length
  have hn := line63
  have fin : EP X pins σ Q w s := ⟨z, H, I, rw', q⟩
  by_cases h0 : 0 ≤ i
  · have hj : i.toNat = j := by
      rw [seqIndex_of h0 h5] at h1
      exact Option.some.inj h1
    exact item_listR pl.isList h0 (by omega) (by rw [hj]; simpa using ew) fin hs
  · have hj : (i + (its.toArray.size : Int)).toNat = j := by
      rw [seqIndex_neg (by omega) h4] at h1
      rw [List.size_toArray, ← hl]
      exact Option.some.inj h1
    exact subscriptTail_builtinR (x := w) pl.isList.typeIs slot_list_getitem.lookup
      (wpAny_getItem_list_neg (Q := fun r s' => r = w ∧ EP X pins σ Q r s') pl.isList (by omega) (by rw [List.size_toArray] <;> omega) (by omega) (by rw [hj]; simpa using ew) ⟨rfl, fin⟩) hs
theorem ix_tup : IxR X (rIxT X.K) := by
  intro value slice pins s σ H x y v u Q I rx ry h hs
  obtain ⟨p, xs, i, z, rfl, rfl, hq, he, q⟩ := h
  cases rx
  obtain ⟨t, rfl⟩ := ry
  obtain ⟨its, r, pl, hz⟩ := I.tuple hq
  obtain ⟨j, h1, h2, h3, h4, h5⟩ := atI_get he
  obtain ⟨w, ew, rw'⟩ := r.get h2
  have hl := r.length
  have hn := line63
  have fin : EP X pins σ Q w s := ⟨z, H, I, rw', q⟩
  exact subscriptTail_builtinR (x := w) pl.typeIs slot_tuple_getitem.lookup
    (getItem_tuple (j := j) (Q := fun r s' => r = w ∧ EP X pins σ Q r s') pl (by omega) (by omega) (by rw [List.size_toArray, ← hl]; exact h1) (by simpa using ew) ⟨rfl, fin⟩) hs
/-! ### xs[i] = v, any sign -/
/-- the list's object behind a store -/
theorem mapSeq_set (its : List Value) (n j : Nat) (u : Value) : Obj.mapSeq (·.setIfInBounds j u) { cls := .type "list", data := .seq its.toArray n } = { cls := .type "list", data := .seq (its.set j u).toArray n } := by
  simp [Obj.mapSeq]
theorem Inv.lst {pins : List (Addr × Obj)} {σ : St} {H : Hp} {s : Shared} {p : Addr} {xs : List V} (I : Inv X pins σ H s) (h : H p = some (.lst xs)) :
    ∃ (its : List Value) (n : Nat), Vals xs its ∧ s.heap.get? p = some { cls := .type "list", data := .seq its.toArray n } ∧ xs.length ≤ sizeLine := by
  obtain ⟨z, its, n, r, e⟩ := I.hok p _ h
  exact ⟨its, n, r, e, z⟩
/-- the list at p is written by an update of its object -/
theorem Inv.lstUpd {pins : List (Addr × Obj)} {σ : St} {H : Hp} {s : Shared} {p : Addr} {xs ys : List V} {its its' : List Value} {n n' : Nat} {f : Obj → Obj} (I : Inv X pins σ H s) (h : H p = some (.lst xs))
    (ho : s.heap.get? p = some { cls := .type "list", data := .seq its.toArray n }) (hf : f { cls := .type "list", data := .seq its.toArray n } = { cls := .type "list", data := .seq its'.toArray n' }) (r : Vals ys its') (hz : ys.length ≤ sizeLine) (t : Nat) :
    Inv X pins σ (upd H p (.lst ys)) { s with heap := s.heap.update p f, toks := t } := by
  have e : (s.heap.update p f).get? p = some { cls := .type "list", data := .seq its'.toArray n' } := by
    rw [Heap.get?_update_self f ho (by rw [hf] <;> rfl), hf]
  refine I.write (x := p) (e := p) (by rw [h]; trivial) (.inl rfl) (fun b u hb q => (Heap.get?_update_other _ _ (Ne.symm hb)).trans q) ⟨_, e⟩ ?_
  exact ⟨hz, its', n', r, e⟩
def rSetL : V → V → V → Hp → (Hp → Prop) → Prop := fun o i v H Q => ∃ p xs k j, o = .ref p ∧ i = .int k ∧ H p = some (.lst xs) ∧ ixN xs.length k = some j ∧ Q (upd H p (.lst (xs.set j v)))
theorem set_list : PSet X rSetL := by
  intro pins s σ H o i v ov iv u Q I ro ri rv h
  obtain ⟨p, xs, k, j, rfl, rfl, hp, hj, q⟩ := h
  cases ro
  obtain ⟨t, rfl⟩ := ri
  obtain ⟨its, n, r, ho, hz⟩ := I.lst hp
  obtain ⟨h1, h2, h3, h4⟩ := ixN_seq hj
  have hl := r.length
  have hn := line63
  have I' : Inv X pins σ (upd H p (.lst (xs.set j v))) { s with heap := s.heap.update p (Obj.mapSeq (·.setIfInBounds j u)) } :=
    I.lstUpd hp ho (mapSeq_set its n j u) (r.set rv j) (by rw [List.length_set]; exact hz) s.toks
  by_cases h0 : 0 ≤ k
  · have hk : k.toNat = j := by
      rw [seqIndex_of h0 h4] at h1
      exact Option.some.inj h1
    exact PySem.W.ki_setAt ho h0 (by omega) (by rw [List.size_toArray, ← hl]; exact h4) (by rw [hk]; exact ⟨_, I', q⟩)
  · have hk : (k + (its.toArray.size : Int)).toNat = j := by
      rw [seqIndex_neg (by omega) h3] at h1
      rw [List.size_toArray, ← hl]
      exact Option.some.inj h1
    exact PySem.W.ki_setBack ho (by omega) (by rw [List.size_toArray, ← hl]; exact h3) (by omega) (by rw [hk]; exact ⟨_, I', q⟩)

/-! ### slices -/
theorem slice_bounds (lo hi : Option Int) (n : Nat) : (sliceBounds lo hi none n).1 = ((HT.sIx n 0 lo : Nat) : Int) ∧ (sliceBounds lo hi none n).2.1 = ((HT.sIx n n hi : Nat) : Int) ∧ (sliceBounds lo hi none n).2.2 = 1 := by
  refine ⟨?_, ?_, rfl⟩
  · cases lo with
    | none => simp [sliceBounds, HT.sIx]
    | some i =>
      simp only [sliceBounds, HT.sIx, Option.getD_none, show (1 : Int) > 0 by decide, if_true]
      by_cases h : i < 0
      · simp only [h, if_true] <;> omega
      · simp only [h, if_false] <;> omega
  · cases hi with
    | none => simp [sliceBounds, HT.sIx]
    | some i =>
      simp only [sliceBounds, HT.sIx, Option.getD_none, show (1 : Int) > 0 by decide, if_true]
      by_cases h : i < 0
      · simp only [h, if_true] <;> omega
      · simp only [h, if_false] <;> omega
theorem slicePick_cut (its : List Value) (lo hi : Option Int) : slicePick its.toArray lo hi none = ((its.drop (HT.sIx its.length 0 lo)).take (HT.sIx its.length its.length hi - HT.sIx its.length 0 lo)).toArray := by
  obtain ⟨h1, h2, h3⟩ := slice_bounds lo hi its.toArray.size
  unfold slicePick
  rw [h1, h2, h3]
  simp only [sliceRange_one, pick_run, List.size_toArray] <;> rfl
/-- xs[lo:hi] of a list: a new list -/
def rSlL (K : PySem.W.Frag) : V → Option Int → Option Int → Hp → VK → Prop := fun x lo hi H Q => ∃ a xs, x = .ref a ∧ SqL K H a xs ∧ ∀ p, H p = none → Q (.ref p) (upd H p (.lst (cutV xs lo hi)))
theorem sl_list : SlR X (rSlL X.K) := by
  intro pins s σ H x v vl vu lo hi sl Q I rx hs pl pu h
  obtain ⟨a, xs, rfl, hx, q⟩ := h
  cases rx
  obtain ⟨its, r, ht, hz⟩ := I.list hx
  have hlen := r.length
  refine ⟨"list", _, slot_list_getitem.lookup, ht.isList.typeIs, ?_⟩
  refine wpAny_getItem_list_slice ht.isList hs pl pu .none (by simp) ?_ (by rw [List.size_toArray] <;> omega)
  rw [slicePick_cut, ← hlen]
  refine ⟨.ref s.heap.objs.size, _, I.laid (t' := s.toks) (o := .lst (cutV xs lo hi)) (fun b ob q => Heap.get?_push_of_some _ q) (Nat.le_refl _) ?_, rfl, q _ (I.hok.fresh (Nat.le_refl _))⟩
  exact ⟨Nat.le_trans (cutV_length xs lo hi) hz, _, 0, (r.drop (HT.sIx xs.length 0 lo)).take (HT.sIx xs.length xs.length hi - HT.sIx xs.length 0 lo), Heap.get?_push_size _ rfl⟩

/-! ### in, not in: flat items -/
/-! ### len, list(x), tuple(x) of any list or tuple that is read -/
theorem call_len_seq : CallR X (.builtin "len") (fun xs H Q => ∃ p ys, xs = [.ref p] ∧ (SqL X.K H p ys ∨ SqT X.K H p ys) ∧ Q (.int ys.length) H) := by
  intro pins s σ H xs us Q I r h
  obtain ⟨p, ys, rfl, hq, q⟩ := h
  obtain ⟨u, rfl, rx⟩ := vals1 r
  cases rx
  have hn := line63
  rcases hq with hq | hq
  · obtain ⟨its, r', pl, hz⟩ := I.list hq
    have hlen := r'.length
    exact Calls.call_len_list pl.isList (by simp only [List.size_toArray] <;> omega) ⟨.int ys.length, H, I.tok _, ⟨s.toks + 1, by rw [List.size_toArray, hlen]⟩, q⟩
  · obtain ⟨its, r', pl, hz⟩ := I.tuple hq
    have hlen := r'.length
    exact len_tuple pl (by simp only [List.size_toArray] <;> omega) ⟨.int ys.length, H, I.tok _, ⟨s.toks + 1, by rw [List.size_toArray, hlen]⟩, q⟩
/-! ### the call of a builtin's method: o.m(..) -/
/-- the value is of that builtin type -/
def tyV (K : PySem.W.Frag) (T : String) (x : V) (H : Hp) : Prop := match x with
  | .str _ => T = "str"
  | .int _ => T = "int"
  | .ref p => (T = "list" ∧ ∃ xs, SqL K H p xs) ∨ (T = "tuple" ∧ ∃ o, K.lookup p = some o ∧ o.cls = .type "tuple" ∧ o.dict = none) ∨
      (T = "dict" ∧ ((∃ kvs, H p = some (.dK kvs)) ∨ ∃ kvs, H p = some (.dT kvs))) ∨ (T = "set" ∧ ∃ S n, H p = some (.set S n))
  | _ => False
theorem tyV_is {pins : List (Addr × Obj)} {σ : St} {H : Hp} {s : Shared} {T : String} {x : V} {v : Value} (I : Inv X pins σ H s) (r : RelV x v) (ty : tyV X.K T x H) :
    s.TypeIs v T ∧ ∀ a, v = .ref a → ∃ ob, s.heap.get? a = some ob ∧ ob.dict = none := by
  cases x with
  | str z =>
    obtain ⟨t, rfl⟩ := r
    cases (show T = "str" from ty)
    exact ⟨typeIs_str s z t, fun _ e => nomatch e⟩
  | int i =>
    obtain ⟨t, rfl⟩ := r
    cases (show T = "int" from ty)
    exact ⟨typeIs_int s i t, fun _ e => nomatch e⟩
  | ref p =>
    cases r
    rcases ty with ⟨rfl, xs, hq⟩ | ⟨rfl, o, hk, hc, hd⟩ | ⟨rfl, hk⟩ | ⟨rfl, S, n, hk⟩
    · obtain ⟨its, _, pl, _⟩ := I.list hq
      refine ⟨pl.isList.typeIs, fun a e => ?_⟩
      cases e
      obtain ⟨o, n, e, c, hd, _⟩ := pl
      exact ⟨o, e, hd⟩
    · refine ⟨⟨o, I.kIn p o hk, hc⟩, fun a e => ?_⟩
      cases e
      exact ⟨o, I.kIn _ o hk, hd⟩
    · have z : ∃ o, s.heap.get? p = some o ∧ o.ExactDict := by
        rcases hk with ⟨kvs, hk⟩ | ⟨kvs, hk⟩
        · obtain ⟨_, _, _, _, o, _, _, e, ex, _⟩ := I.hok p _ hk
          exact ⟨o, e, ex⟩
        · obtain ⟨_, _, _, _, o, _, _, e, ex, _⟩ := I.hok p _ hk
          exact ⟨o, e, ex⟩
      obtain ⟨o, e, ex⟩ := z
      refine ⟨⟨o, e, ex.1⟩, fun a e2 => ?_⟩
      cases e2
      exact ⟨o, e, ex.2.1⟩
    · obtain ⟨o, _, _, _, e, ex, _⟩ := I.hok p _ hk
      refine ⟨⟨o, e, ex.1⟩, fun a e2 => ?_⟩
      cases e2
      exact ⟨o, e, ex.2.1⟩
  | _ => exact False.elim ty
def tBM (K : PySem.W.Frag) (T : String) (r : V → List V → Hp → VK → Prop) (to : TE) (t : TA) : TE := fun σ H Q => to σ H fun x H1 => tyV K T x H1 ∧ t σ H1 fun xs H2 => r x xs H2 Q
variable {o e : Expr} {es : List Expr} {to : TE} {t : TA} {name : Str} {apos cpos : Pos} {T id : String} {r : V → List V → Hp → VK → Prop}
theorem pe_bm (pa : PlainAttrs T) (slot : Slot T name id) (hty : typeOf (.builtin id) = pure (.type "method_descriptor")) (hm : MtR X id r) (ho : PE X o to) (ha : PA X (e :: es) t)
    (hbase : attributeBase o name X.env (eval o X.env) = eval o X.env := by rfl)
    (hfew : ((backTo cpos (starEach (e :: es) X.env)).all (fun x => !x.1) && (backToKw cpos (keywordEach [] X.env)).all (fun x => x.1.isSome)
      && decide ((e :: es).length + ([] : List Keyword).length + (if ([] : List Keyword).isEmpty then 0 else 1) < 30)) = true := by rfl)
    (hline : (apos.endLine == cpos.line) = true := by rfl) (hs : starEach (e :: es) X.env = (false, eval e X.env) :: starEach es X.env := by rfl) (hplain : (backTo cpos (starEach es X.env)).any (·.1) = false := by rfl) :
    PE X (.Call (.Attribute o name apos) (e :: es) [] cpos) (tBM X.K T r to t) := by
  intro pins s σ H Q I h
  refine wpAny_Call_method_late hbase hfew hline rfl (thn (ho pins s σ H _ I h) fun v s1 hpat => ?_)
  obtain ⟨x, H1, I1, r1, ty, q1⟩ := hpat
  obtain ⟨h1, h2⟩ := tyV_is I1 r1 ty
  refine ⟨T, id, pa, slot, hty, h1, h2, ?_⟩
  have hA := ha cpos pins s1 σ H1 _ I1 q1
  rw [hs] at hA ⊢
  refine Calls.callWith_builtin (by show (false || (backTo cpos (starEach es X.env)).any (·.1)) = false; rw [hplain] <;> rfl) (Calls.evalArgs_plain ?_)
  exact thn hA fun us s2 ⟨vs, H2, I2, r2, q2⟩ => hm pins s2 σ H2 x vs v us Q I2 r1 r2 q2
/- xs.append(e), list.index on a module's tuple .. are MtR facts of 06m -/
end
end L2

namespace L2
open PySem PySem.Spec PyProof.Rows

def MtM (X : Cx) (id : String) (r : V → List V → Hp → VK → Prop) : Prop :=
  ∀ (pins : List (Addr × Obj)) (s : Shared) (σ : St) (H : Hp) (x : V) (xs : List V) (v : Value) (us : List Value) (Q : VK), Inv X pins σ H s → RelV x v → Vals xs us → r x xs H Q →
    wpAny (model X.prog X.w) X.A (call (.builtin id) (v :: us)) (EP X pins σ Q) X.xe s

/-! ### lists of values -/
theorem Vals.one : ∀ {x : V} {us : List Value}, Vals [x] us → ∃ u, us = [u] ∧ RelV x u
  | _, _, .cons r .nil => ⟨_, rfl, r⟩
theorem Vals.eraseIdx : ∀ {xs : List V} {us : List Value} (i : Nat), Vals xs us → Vals (xs.eraseIdx i) (us.eraseIdx i)
  | _, _, _, .nil => .nil
  | _, _, 0, .cons _ t => t
  | _, _, i + 1, .cons r t => .cons r (Vals.eraseIdx i t)
theorem len_erase {α : Type} : ∀ (l : List α) (i : Nat), (l.eraseIdx i).length ≤ l.length
  | [], _ => Nat.le_refl _
  | _ :: _, 0 => Nat.le_succ _
  | _ :: r, i + 1 => Nat.succ_le_succ (len_erase r i)
section
variable {X : Cx} {pins : List (Addr × Obj)} {σ : St} {H : Hp} {s : Shared} {l b : Addr} {xs ys zs : List V}

/-! ### the two steps: a tracked list is rewritten, a new list is laid -/
theorem Inv.lset {its its' : List Value} {n : Nat} {f : Array Value → Array Value} {t' : Nat} (I : Inv X pins σ H s) (hH : H l = some (.lst xs))
    (e : s.heap.get? l = some { cls := .type "list", data := .seq its.toArray n }) (hf : f its.toArray = its'.toArray) (hv : Vals ys its') (hz : ys.length ≤ sizeLine) :
    Inv X pins σ (upd H l (.lst ys)) { s with heap := s.heap.update l (Obj.mapSeq f), toks := t' } := by
  have q := PySem.IsL.update e f
  rw [hf] at q
  refine I.write (x := l) (e := l) (by rw [hH]; exact trivial) (.inl rfl) (fun b' u hb hu => (Heap.get?_update_other s.heap (Obj.mapSeq f) (Ne.symm hb)).trans hu) ⟨_, q⟩ ?_
  exact ⟨hz, its', _, hv, q⟩
theorem Inv.lnew {its : List Value} {t' : Nat} (I : Inv X pins σ H s) (hv : Vals ys its) (hz : ys.length ≤ sizeLine) :
    Inv X pins σ (upd H s.heap.objs.size (.lst ys)) { s with heap := s.heap.push { cls := .type "list", data := .seq its.toArray }, toks := t' } :=
  I.laid (fun _ _ q => Heap.get?_push_of_some _ q) (Nat.le_refl _) ⟨hz, its, 0, hv, Heap.get?_push_size _ rfl⟩
theorem Inv.fresh (I : Inv X pins σ H s) : H s.heap.objs.size = none := I.hok.fresh (Nat.le_refl _)
theorem Inv.lstM (I : Inv X pins σ H s) (hH : H l = some (.lst xs)) : xs.length ≤ sizeLine ∧ ∃ (its : List Value) (n : Nat), Vals xs its ∧ xs.length = its.length ∧ s.heap.get? l = some { cls := .type "list", data := .seq its.toArray n } := by
  obtain ⟨z, its, n, r, e⟩ := I.hok l _ hH
  exact ⟨z, its, n, r, r.length, e⟩

end

section
variable {X : Cx}

/-! ### methods -/
def rAppend : V → List V → Hp → VK → Prop := fun x vs H Q => ∃ l xs y, x = .ref l ∧ vs = [y] ∧ H l = some (.lst xs) ∧ xs.length < sizeLine ∧ Q .non (upd H l (.lst (xs ++ [y])))
theorem mt_append : MtM X "list.append" rAppend := by
  intro pins s σ H x vs v us Q I rx rv h
  obtain ⟨l, xs, y, rfl, rfl, hH, hz, q⟩ := h
  cases rx
  obtain ⟨u, rfl, ru⟩ := rv.one
  obtain ⟨z, its, n, r, hl, e⟩ := I.lstM hH
  refine call_meets F.slot_list_append ⟨_, e, rfl⟩ F.entry_list_append (F.args_list_append_2 _ _) (PySem.list_append l its.toArray n u (by rw [List.size_toArray]; omega)) ⟨e, ?_⟩
  refine ⟨.non, _, I.lset (its' := its ++ [u]) hH e (by simp) (r.append (.cons ru .nil)) ?_, rfl, q⟩
  rw [List.length_append, List.length_singleton]
  omega

def rPopAt : V → List V → Hp → VK → Prop := fun x vs H Q => ∃ l xs i k y, x = .ref l ∧ vs = [.int i] ∧ H l = some (.lst xs) ∧ -(2 ^ 63) ≤ i ∧ i < 2 ^ 63 ∧ seqIndex? i xs.length = some k ∧ xs[k]? = some y ∧ Q y (upd H l (.lst (xs.eraseIdx k)))
theorem mt_popAt : MtM X "list.pop" rPopAt := by
  intro pins s σ H x vs v us Q I rx rv h
  obtain ⟨l, xs, i, k, y, rfl, rfl, hH, h1, h2, hk, hy, q⟩ := h
  cases rx
  obtain ⟨u, rfl, ru⟩ := rv.one
  obtain ⟨t, rfl⟩ := ru
  obtain ⟨z, its, n, r, hl, e⟩ := I.lstM hH
  obtain ⟨w, hw, rw'⟩ := r.get hy
  refine call_meets F.slot_list_pop ⟨_, e, rfl⟩ F.entry_list_pop (F.args_list_pop_2 _ _)
    (MeetsSeq.list_pop_at l its.toArray n i t k w (fitsIndex_both h1 h2) (by rw [List.size_toArray, ← hl]; exact hk) (by rw [← Array.getElem?_toList]; exact hw) (by rw [List.size_toArray]; omega)) ⟨e, ?_⟩
  refine ⟨y, _, I.lset (its' := its.eraseIdx k) hH e ?_ (r.eraseIdx k) ?_, rw', q⟩
  · show its.toArray.eraseIdxIfInBounds k = (its.eraseIdx k).toArray
    rw [List.eraseIdxIfInBounds_toArray]
  · have := len_erase xs k
    omega

/-! ### list + list, list += list, list * int -/
def rCat : R2 := fun x y H Q => ∃ l b xs zs, x = .ref l ∧ y = .ref b ∧ H l = some (.lst xs) ∧ H b = some (.lst zs) ∧ xs.length + zs.length ≤ sizeLine ∧ ∀ p, H p = none → Q (.ref p) (upd H p (.lst (xs ++ zs)))
theorem op_cat : OpR X (binaryOp .Add) rCat := by
  intro pins s σ H x y v u Q I rx ry h
  obtain ⟨l, b, xs, zs, rfl, rfl, hH, hB, hz, q⟩ := h
  cases rx
  cases ry
  obtain ⟨z, its, n, r, hl, e⟩ := I.lstM hH
  obtain ⟨z2, its2, n2, r2, hl2, e2⟩ := I.lstM hB
  refine PySem.P.add_list e e2 ?_ (by rw [List.size_toArray, List.size_toArray]; omega)
  have ea : its.toArray ++ its2.toArray = (its ++ its2).toArray := by simp
  rw [ea]
  exact ⟨.ref _, _, I.lnew (t' := s.toks) (r.append r2) (by rw [List.length_append]; omega), rfl, q _ I.fresh⟩
/-! ### del xs[i] -/
end

/-! ### xs[a:b] = ys -/
section
variable {prog : Program} {w : World} {A : Around} {E : Value → Shared → Prop} {s : Shared}
set_option maxRecDepth 100000 in
end

section
variable {X : Cx}
end
end L2

namespace Att
open PySem PySem.W PySem.Calls PyProof.Rows

/-! ### the script -/
theorem ints_of_wellAll {P : Params} {h : Heap} : ∀ (ns : List Int) (vs : List Value), WellAll P h vs (ns.map WData.int) → IntsAre vs ns := by
  intro ns
  induction ns with
  | nil =>
    intro vs w
    rw [List.map_nil] at w
    cases w
    exact .nil
  | cons n ns ih =>
    intro vs w
    rw [List.map_cons] at w
    cases w with
    | cons a b =>
      cases a
      exact .cons _ _ (ih _ b)

theorem script_of {l : OpenLaw} {n : Nat} (hn : l.most = some n) {P : Params} {h : Heap} {args : List WData} {vals : List Value}
    (hpre : l.row.toRowW.claim.pre args = true) (hwl : WellAll P h vals args) :
    ∃ a vs ns, vals = [Value.ref a] ∧ args = [WData.list (ns.map WData.int)] ∧ h.get? a = some { cls := .type "list", data := .seq vs.toArray } ∧ IntsAre vs ns ∧ ns.length ≤ n := by
  have hsh : WShape.hasAll [] args [.list .int] = true := (pre_splitW hpre).1
  have hc : l.pre.holds [] { args := args } = true := (pre_splitW hpre).2
  obtain ⟨d, r, rfl, h1, h2⟩ := hasAllW_cons hsh
  obtain rfl := hasAllW_nil h2
  obtain ⟨xs, rfl, h3⟩ := hasW_list h1
  obtain ⟨ns, rfl⟩ := items_int h3
  have hlen : ns.length ≤ n := by
    unfold OpenLaw.pre at hc
    have h4 : (WTm.not (.lt (.lit (.int (n : Int))) (.len (.arg 0)))).holds [] { args := [.list (ns.map .int)] } = true := by
      have h4 := (holds_andW hc).1
      rw [hn] at h4
      exact h4
    have h5 := condW_of h4 (w_not (w_lt w_lit (w_len_list (w_arg rfl))))
    rw [List.length_map] at h5
    refine Nat.le_of_not_lt fun q => ?_
    have q' : (n : Int) < ((ns.length : Nat) : Int) := by omega
    first
      | (rw [decide_eq_true q'] at h5; exact absurd h5 (by decide))
      | (simp at h5; omega)
  cases hwl with
  | cons w1 w2 =>
    cases w2
    cases w1 with
    | list ho hall => exact ⟨_, _, ns, rfl, rfl, ho, ints_of_wellAll ns _ hall, hlen⟩

theorem post_true (l : OpenLaw) (args : List WData) : l.row.toRowW.claim.post args (.bool true) args = true :=
  postW_of (r := l.row.toRowW) (X := (true == true))
    (show WShape.has [] (.bool true) .bool = true by first | rfl | decide | simp [WShape.has, WShape.arms, WShape.armsAll])
    (show (WTm.eq .res (.lit (.bool true))).value [] { args := args, res := some (.bool true), after := args } = some (.bool (true == true)) from w_eq_bool (w_res rfl) w_lit) rfl

/-! ### the attachment: holds_open's last premise (the goal 'hc' behind k_head) from a wpAny of the law's body -/
/-- the same from a codeAny of the CALL (for a layer whose function contracts speak of calls) -/
theorem attach_call {l : OpenLaw} {n : Nat} {q : Program} {loose : List Str} {XP : (Str → Option Value) → Heap → Prop} {YP : World → Heap → Prop} {d : DefRec}
    (hn : l.most = some n) (hdf : d.params.defaults = [])
    (call : ∀ (w : World) (s₀ s₁ : Shared) (mg mb : Str → Option Value) (fa : Addr) (o : Obj) (pm cd doc : Value) (a : Addr) (vs : List Value) (ns : List Int),
      Ground q loose [] XP w s₀ mg mb s₁.heap → YP w s₁.heap →
      s₁.heap.get? fa = some o → o.data = .func (docDef d.name d.params d.body d.scope pm cd doc) → s₁.heap.CodeRec cd d.name → mg d.name = some (.ref fa) →
      s₁.heap.get? a = some { cls := .type "list", data := .seq vs.toArray } → IntsAre vs ns → ns.length ≤ n → s₁.gens = #[] →
      codeAny (model l.prog w) callerA (.call (.ref fa) ⟨[.ref a], []⟩) (fun r s' => r = .ok (.ret (.bool true)) ∧ OldK s₁.heap s'.heap ∧ s'.os = s₁.os ∧ AllBare s'.gens) s₁) :
    WalkO q loose XP YP l.row.toRowW d [] (fun f vs => PySem.call f vs) := by
  intro w s₀ s₁ mg mb G Y fa o pm cd doc dV kV ho hd hcd hD hmg hg args vals as hpre hlay hrd hwl hlo
  obtain rfl : dV = .none := Dflts.none hD hdf
  obtain rfl : kV = .none := Dflts.noKw hD
  obtain ⟨a, vs, ns, rfl, rfl, hobj, hints, hlen⟩ := script_of hn hpre hwl
  refine enter_call (codeAny_mono (call w s₀ s₁ mg mb fa o pm cd doc a vs ns G Y ho (fd_plain hd) hcd hmg hobj hints hlen hg) fun r s' hq => ?_)
  obtain ⟨rfl, h2, h3, h4⟩ := hq
  exact ⟨.inl ⟨.bool true, .bool true, [], rfl, fun _ => rfl, .bool true, post_true l _, fun _ => ⟨List.Pairwise.nil, fun _ hm => (nomatch hm)⟩⟩, h2, h3, h4⟩

/-! ### rules over ANY heap (no ledger) from facts about the written part K: the library's own take a ledger (News) for what they write -/
section
variable {prog : Program} {w : World} {A : Around} {E : Value → Shared → Prop} {s : Shared} {K : Frag}

/-! the whole heap as the ledger: makes every rule that writes through a ledger a rule over any heap -/
end
end Att

namespace L2
open PySem PySem.Spec PyProof.Rows

theorem vals_ints : ∀ {vs : List Value} {ns : List Int}, IntsAre vs ns → Vals (ns.map V.int) vs
  | _, _, .nil => .nil
  | _, _, .cons n t h => .cons ⟨t, rfl⟩ (vals_ints h)

/-- nothing is tracked but the script, known to the object (or it is an object of the module) -/
def Only (H : Hp) : Prop := ∀ b, H b = none ∨ ∃ o xs, H b = some (.frz o (.lst xs))

/-- THE HEAD: the law's promise, at the heap behind the top. F, the promise of the law's def, may use that base is part of the heap (so K.In base, base.Ns mainGlobals mg stand in Mod) -/
theorem law_call {P : Program} {w : World} {K : PySem.W.Frag} {mg mb : Str → Option Value} {CX : CXT} {k : Nat} {fa a : Addr} {fd : FuncData} {x : Str} {sp : Sp} {s₁ : Shared} {vs : List Value} {ns : List Int}
    (KX : K.In s₁.heap) (hns : s₁.heap.Ns mainGlobals mg) (hb : s₁.heap.Ns builtinsNs mb) (hbb : ∀ x : Str, x ≠ "__name__" → mb x = bootBuiltins x) (hlim : s₁.heap.NoLimit) (hg : s₁.gens = #[])
    (ha : s₁.heap.get? a = some { cls := .type "list", data := .seq vs.toArray }) (hi : IntsAre vs ns) (hl : ns.length ≤ sizeLine) (hr : Room k callerA)
    (F : ∀ base : Heap, K.In base → base.Ns mainGlobals mg → FnOk P w K mg base CX k fa fd [x] sp) (hbind : ∀ (s : Shared) (u : Value), BindsTo s fd ⟨[u], []⟩ [(x, u)])
    (hsp : ∀ H : Hp, Only H → SqL K H a (ns.map V.int) → sp [.ref a] H (fun v _ => v = .bl true) fun _ _ _ => False)
    (hCX : ∀ H e s', CX [] H s₁ (fun _ _ _ => False) e s' → False) :
    codeAny (model P w) callerA (.call (.ref fa) ⟨[.ref a], []⟩) (fun r s' => r = .ok (.ret (.bool true)) ∧ OldK s₁.heap s'.heap ∧ s'.os = s₁.os ∧ AllBare s'.gens) s₁ := by
  have rv := vals_ints hi
  have lenV := hi.length
  -- from an abstract heap in which nothing but the script may be tracked
  have core : ∀ H : Hp, Only H → SqL K H a (ns.map V.int) → HOk P w H s₁.heap → (∀ b, H b ≠ none → b = a) → (H a ≠ none → K.lookup a = none) →
      codeAny (model P w) callerA (.call (.ref fa) ⟨[.ref a], []⟩) (fun r s' => r = .ok (.ret (.bool true)) ∧ OldK s₁.heap s'.heap ∧ s'.os = s₁.os ∧ AllBare s'.gens) s₁ := by
    intro H hO hS hok hA hK
    have base_of : ∀ {b : Addr} {o : Obj}, s₁.heap.get? b = some o → H b = none → (hidT s₁.heap H).get? b = some o := fun e n => hidT_get e n
    have noA : ∀ {b : Addr} {o : Obj} {es : Array DictEntry} {ep : Nat}, s₁.heap.get? b = some o → o.data = .dict es ep → H b = none := fun {b o es ep} e d => by
      cases q : H b with
      | none => rfl
      | some u =>
        have e' : b = a := hA b (by rw [q]; simp)
        subst e'
        rw [ha] at e; cases e
        have d' : Data.seq vs.toArray _ = Data.dict es ep := d
        cases d'
    have nsK : ∀ {b : Addr} {m : Str → Option Value}, s₁.heap.Ns b m → (hidT s₁.heap H).Ns b m := fun {b m} ⟨o, es, ep, e, d, r⟩ => ⟨o, es, ep, base_of e (noA e d), d, r⟩
    have hKb : K.In (hidT s₁.heap H) := fun b o e => base_of (KX b o e) (by
      cases q : H b with
      | none => rfl
      | some u =>
        have e' : b = a := hA b (by rw [q]; simp)
        subst e'
        rw [hK (by rw [q]; simp)] at e; cases e)
    have hM : Mod K mg (hidT s₁.heap H) := ⟨hKb, nsK hns, ⟨mb, nsK hb, hbb⟩, let ⟨mc, h1, h2⟩ := hlim; ⟨mc, nsK h1, h2⟩⟩
    have e0 : Env0 P w K mg (hidT s₁.heap H) callerA [] s₁ H := ⟨rfl, hM, fun b o e => of_hidT e, Nat.le_of_eq (hidT_size _ _), trivial, fun b hb => absurd (show b ∈ ([] : List Addr) from hb) (by simp), hok, .of_eq hg⟩
    refine codeAny_mono ((F _ hKb (nsK hns)).run callerA [] s₁ H ⟨[.ref a], []⟩ [.ref a] [.ref a] _ _ hr e0 (hbind s₁ (.ref a)) (.cons rfl .nil) (hsp H hO hS)) fun r s' h => ?_
    cases r with
    | error e => exact (hCX H e s' h).elim
    | ok fl =>
      cases fl with
      | next => exact False.elim h
      | brk => exact False.elim h
      | cont => exact False.elim h
      | ret u =>
        obtain ⟨v, H', os, bare, un, hok', r', q⟩ := h
        have q' : v = .bl true := q
        subst q'
        obtain rfl : u = Value.bool true := r'
        refine ⟨rfl, OldK.of_keep fun b o e => ?_, os, bare⟩
        cases q : H b with
        | none => exact un.keep b o e q (by intro z; exact absurd (show b ∈ ([] : List Addr) from z) (by simp)) (by simp)
        | some u =>
          rcases hO b with z | ⟨ob, xs, z⟩
          · rw [q] at z; cases z
          · have z2 := un.frzs b ob _ z
            obtain ⟨e1, _⟩ := hok b _ z
            obtain ⟨e2, _⟩ := hok' b _ z2
            rw [e] at e1; cases e1
            exact e2
  cases hk : K.lookup a with
  | some o =>
    -- the script is one of the module's own objects
    have e := KX a o hk
    rw [ha] at e
    cases e
    refine core (fun _ => none) (fun _ => .inl rfl) (.inr ⟨_, vs.toArray, _, hk, rfl, rfl, rfl, by rw [List.size_toArray, lenV]; exact hl, by simpa using rv⟩) (fun b u z => by have z' : (none : Option HO) = some u := z; cases z') (fun b z => absurd rfl z) fun z => absurd rfl z
  | none =>
    refine core (fun b => if b = a then some (.frz { cls := .type "list", data := .seq vs.toArray } (.lst (ns.map V.int))) else none) (fun b => ?_) (.inl (.inr ⟨{ cls := .type "list", data := .seq vs.toArray }, if_pos rfl⟩)) (fun b u z => ?_) (fun b z => ?_) fun _ => hk
    · by_cases hb : b = a
      · exact .inr ⟨_, _, if_pos hb⟩
      · exact .inl (if_neg hb)
    · by_cases hb : b = a
      · have z' := (if_pos hb).symm.trans z
        cases z'
        subst hb
        exact ⟨ha, by rw [List.length_map]; exact hl, vs, _, rv, ha⟩
      · have z' := (if_neg hb).symm.trans z
        cases z'
    · by_cases hb : b = a
      · exact hb
      · exact absurd (if_neg hb) z
end L2

namespace L2
open PySem PySem.Spec PyProof.Rows

/-- the goal that k_head leaves (case hc), from the law's promise. F gives the function object fd (K's own) once, then the promise over every base -/
theorem walk_of {l : PySem.W.OpenLaw} {n k : Nat} {q : Program} {loose : List Str} {XP : (Str → Option Value) → Heap → Prop} {YP : World → Heap → Prop} {d : DefRec} {K : Params → PySem.W.Frag} {CX : World → CXT} {sp : World → Sp} {x : Str}
    (hn : l.most = some n) (hn2 : n ≤ sizeLine) (hdf : d.params.defaults = []) (hr : Room k callerA)
    (hY : ∀ (w : World) (h : Heap), YP w h → (K w.params).In h)
    (F : ∀ (w : World) (mg : Str → Option Value) (fa : Addr) (h : Heap), (K w.params).In h → h.Ns mainGlobals mg → mg d.name = some (.ref fa) →
      ∃ fd : FuncData, (∀ (s : Shared) (u : Value), BindsTo s fd ⟨[u], []⟩ [(x, u)]) ∧
        ∀ base : Heap, (K w.params).In base → base.Ns mainGlobals mg → FnOk l.prog w (K w.params) mg base (CX w) k fa fd [x] (sp w))
    (hsp : ∀ (w : World) (H : Hp) (a : Addr) (ns : List Int), ns.length ≤ n → Only H → SqL (K w.params) H a (ns.map V.int) → sp w [.ref a] H (fun v _ => v = .bl true) fun _ _ _ => False)
    (hCX : ∀ (w : World) (H : Hp) (s : Shared) (e : Value) (s' : Shared), CX w [] H s (fun _ _ _ => False) e s' → False) :
    PySem.W.WalkO q loose XP YP l.row.toRowW d [] (fun f vs => PySem.call f vs) := by
  refine Att.attach_call hn hdf fun w s₀ s₁ mg mb fa o pm cd doc a vs ns G Y ho hd hcd hmg hobj hints hlen hg => ?_
  have KX := hY w _ Y
  obtain ⟨fd, hb, hF⟩ := F w mg fa _ KX G.T.g hmg
  exact law_call KX G.T.g G.T.b G.T.builtins G.T.nolimit hg hobj hints (Nat.le_trans hlen hn2) hr hF hb (fun H hO hS => hsp w H a ns hlen hO hS) fun H e s' => hCX w H s₁ e s'
end L2

/- THE LAST THEOREM (shape; LID, My.* are yours):
   My.Adr: a structure of the addresses that your layer names (classes, functions); My.Txt K t: a structure (Prop) of the equations over K;
   My.txt_mk : {K} {implicit addresses ..} (e1 : nsIn K mainGlobals "law" = some (some (.ref f))) (e2 : K.lookup f = some ⟨oc, od, .func (fnOf "law" "law" params body scope dV kV doc pm an cdv ct), sl⟩) (e3 : codeIn K cdv "law" = true) .. : ∃ t, My.Txt K t

set_option maxRecDepth 100000 in
set_option maxHeartbeats 0 in
theorem PySem.Challenge.cw_LID_holds : PySem.Challenge.rw_LID.Holds := by
  w_on; o_law; k_head; (case hw => w_witness2)
  k_fill
  refine L2.walk_of (l := PySem.Challenge.rw_LID) (n := 63) (k := 40) (x := "script") (CX := fun w => ..) (sp := fun _ => My.sp_law) rfl (by decide) rfl ⟨rfl, by decide, by decide⟩ (fun w h Y => PySem.W.kIn_of Y) ?F ?S ?C
  case F =>
    intro w mg fa h KX G hmg
    have T : ∃ t, My.Txt (L2.KOf KX) t := by
      dsimp only [L2.KOf]                          -- K must stand as «<heap const> w.params» for k_is
      refine' My.txt_mk ?e1 ?e2 ?e3 ..
      (case e1 => PySem.W.k_is)                    -- in the order: a name -> its address -> its object -> its parts
      (case e2 => PySem.W.k_is)
      ..
    obtain ⟨t, T⟩ := T
    have e0 := hmg.symm.trans (PySem.W.mg_of KX G T.law)
    cases e0                                       -- fa is the law's own address
    exact ⟨_, fun s u => .of_eq rfl, fun base kb nb => My.law_fn T kb nb⟩     -- if «.of_eq rfl» comes too early: refine' ⟨_, ?b, fun base kb nb => My.law_fn T kb nb⟩; exact fun s u => .of_eq rfl
  case S => exact fun w H a ns hl hO hS => ..
  case C => exact ..
(the tactic k_is has no namespace: write k_is) -/

/-! SHORT WORDS over the layer: a def of the text, its body, what a loop and a test want. -/
namespace L2
open PySem PySem.Spec PyProof.Rows

/-! ### the text by places -/
def defArgs (s : Stmt) : Arguments := match s with
  | .FunctionDef _ a _ _ _ _ _ _ _ _ => a
  | _ => { posonlyargs := [], args := [], vararg := none, kwonlyargs := [], kw_defaults := [], kwarg := none, defaults := [] }
def defBody (s : Stmt) : List Stmt := match s with
  | .FunctionDef _ _ b _ _ _ _ _ _ _ => b
  | _ => []
def defScope (s : Stmt) : Scope := match s with
  | .FunctionDef _ _ _ _ _ _ sc _ _ _ => sc
  | _ => { kind := .function, names := [], isGenerator := false, isCoroutine := false }

/-! ### no exception leaves a def -/
abbrev CX0 : CXT := fun _ _ _ _ _ _ => False
abbrev E0 : XK := fun _ _ _ => False
theorem pass0 {X : Cx} : Passes CX0 X E0 := fun _ _ _ _ _ _ _ h => h.elim

/-! ### a def (or method) of the text as it stands behind the top -/
structure Fun (K : PySem.W.Frag) (x qual : Str) (st : Stmt) (f : Addr) (fd : FuncData) : Prop where
  ex : ∃ (oc : Value) (od : Option Addr) (kV doc pm : Value) (an : Option Addr) (cdv ct : Value) (osl : Array (Option Value)),
    fd = PySem.W.fnOf x qual (defArgs st) (defBody st) (defScope st) .none kV doc pm an cdv ct ∧ K.lookup f = some ⟨oc, od, .func fd, osl⟩ ∧ PySem.W.codeIn K cdv qual = true
  kp : PySem.W.keepIn K (.ref f) = true
section
variable {P : Program} {w : World} {K : PySem.W.Frag} {mg : Str → Option Value} {base : Heap}
/-- THE RULE for a def: its body as a term of rules, and the reading of that term -/
theorem Fun.ok {x qual : Str} {st : Stmt} {f : Addr} {fd : FuncData} {N ps : List Str} {k : Nat} {sp : Sp} (F : Fun K x qual st f fd) (S : FnScope N ps (defScope st)) (len : ∀ vs H Q E, sp vs H Q E → vs.length = ps.length)
    (hbody : ∀ (cdv : Value) (A : Around) (outer : List Env) (s : Shared) (H : Hp) (vs : List V) (Q : VK) (E : XK), Room k (A.deeper (envOfC qual (defScope st) s.heap.objs.size f cdv)) → sp vs H Q E →
      ∃ t, PSs (cxOf CX0 P w K mg base N qual (defScope st) f cdv A outer s H E).nox (defBody st) t ∧ t { nx := fun _ H' => Q .non H', rt := Q } (start N vs) H) : FnOk P w K mg base CX0 (k + 1) f fd ps sp := by
  obtain ⟨oc, od, kV, doc, pm, an, cdv, ct, osl, rfl, lk, hcd⟩ := F.ex
  refine fn_of lk hcd S len fun A outer s H vs Q E hr hsp => ?_
  obtain ⟨t, h, q⟩ := hbody cdv A outer s H vs Q E hr hsp
  exact ⟨t, h.nox, q⟩
/-- how its arguments bind (no defaults): h is «fun _ _ _ _ _ _ us hl => match us, hl with | [_, _], _ => rfl», one _ a parameter -/
theorem Fun.binds {x qual : Str} {st : Stmt} {f : Addr} {fd : FuncData} {ps : List Str} (F : Fun K x qual st f fd)
    (h : ∀ (kV doc pm : Value) (an : Option Addr) (cdv ct : Value) (us : List Value), us.length = ps.length → bindArgs (PySem.W.fnOf x qual (defArgs st) (defBody st) (defScope st) .none kV doc pm an cdv ct) ⟨us, []⟩ = pure (ps.zip us)) : Binds K fd ps [] := by
  obtain ⟨oc, od, kV, doc, pm, an, cdv, ct, osl, rfl, lk, hcd⟩ := F.ex
  exact .all (h kV doc pm an cdv ct)
theorem fun_mk {x qual : Str} {st : Stmt} {f : Addr} {oc : Value} {od an : Option Addr} {osl : Array (Option Value)} {kV doc pm cdv ct : Value} (l : K.lookup f = some ⟨oc, od, .func (PySem.W.fnOf x qual (defArgs st) (defBody st) (defScope st) .none kV doc pm an cdv ct), osl⟩)
    (c : PySem.W.codeIn K cdv qual = true) (k : PySem.W.keepIn K (.ref f) = true) : Fun K x qual st f (PySem.W.fnOf x qual (defArgs st) (defBody st) (defScope st) .none kV doc pm an cdv ct) := ⟨⟨oc, od, kV, doc, pm, an, cdv, ct, osl, rfl, l, c⟩, k⟩
end
theorem small1000 {n : Nat} (h : n ≤ 1000) : n < sizeLine := Nat.lt_of_le_of_lt h (by decide)

/-! ### expressions in short: the name that stands in the i-th slot -/
section
variable {X : Cx}
theorem pv (i : Nat) {x : Str} {pos : Pos} (hN : X.N[i]? = some x := by rfl) (hv : Vis X.env.scope x := by first | exact Or.inl rfl | exact Or.inr (Or.inl rfl) | exact Or.inr (Or.inr rfl)) (hd : (x == ("__debug__" : Str)) = false := by decide)
    (hcd : (x == ("__classdict__" : Str)) = false := by decide) : PE X (.Name x pos) (tVar i) := pe_var hN hv hd hcd
end

/-! ### tests -/
theorem iteF {A B : Prop} (h : B) : if false = true then A else B := by
  rw [if_neg Bool.false_ne_true]
  exact h
theorem iteT {A B : Prop} (h : A) : if true = true then A else B := by
  rw [if_pos rfl]
  exact h
theorem ite2 {c A B : Prop} [Decidable c] (h1 : c → A) (h2 : ¬ c → B) : if c then A else B := by
  by_cases h : c
  · rw [if_pos h]
    exact h1 h
  · rw [if_neg h]
    exact h2 h
theorem iteNS {c A B : Prop} [Decidable c] (hc : c) (h : B) : if (!decide c) = true then A else B := by
  rw [decide_eq_true hc]
  exact iteF h

/-! ### heaps -/
/-- all that was tracked is as it was -/
def Same (H H' : Hp) : Prop := ∀ b o, H b = some o → H' b = some o
theorem Same.refl (H : Hp) : Same H H := fun _ _ h => h
theorem Same.trans {H H1 H2 : Hp} (a : Same H H1) (b : Same H1 H2) : Same H H2 := fun c o h => b c o (a c o h)
theorem Same.free {H H' : Hp} (e : Same H H') {l : Addr} (h : H' l = Option.none) : H l = Option.none := by
  cases q : H l with
  | none => rfl
  | some o =>
    rw [e l o q] at h
    cases h
theorem Same.seq {K : PySem.W.Frag} {H H' : Hp} {a : Addr} {xs : List V} (e : Same H H') (h : SqL K H a xs) : SqL K H' a xs := by
  rcases h with (h | ⟨o, h⟩) | h
  · exact .inl (.inl (e _ _ h))
  · exact .inl (.inr ⟨o, e _ _ h⟩)
  · exact .inr h

end L2

set_option maxHeartbeats 4000000
namespace L2
open PySem PySem.Spec PyProof.Rows
section
variable {X : Cx}
/-- // by a divisor that is no giant -/
def CDivL (_ j : Int) : Prop := 0 < j ∧ j < 2 ^ 63
theorem op_fdivL : OpR X (binaryOp .FloorDiv) (rI CDivL fun i j => .int (i / j)) := opI fun i j _ _ _ _ _ hc q => by
  have e : Int.fdiv i j = i / j := Int.fdiv_eq_ediv_of_nonneg i (Int.le_of_lt hc.1)
  rw [← e] at q
  refine floordiv_int (by have := hc.1; omega) q (.inl (PyProof.noPylong_of_log2 ?_))
  have h1 := hc.1
  have h2 := hc.2
  have h3 : j.natAbs < 2 ^ 63 := by omega
  have h4 := (Nat.log2_lt (n := j.natAbs) (k := 63) (by omega)).mpr h3
  omega
end

theorem boot_int' : bootBuiltins "int" = some (.type "int") := by decide +kernel
theorem boot_list' : bootBuiltins "list" = some (.type "list") := by decide +kernel
/-! a def of the text, as its callers see it -/
structure Cal (P : Program) (w : World) (K : PySem.W.Frag) (mg : Str → Option Value) (base : Heap) (n : Nat) (x : Str) (ps : List Str) (sp : Sp) : Prop where
  ex : ∃ (f : Addr) (fd : FuncData), FnOk P w K mg base CX0 n f fd ps sp ∧ Binds K fd ps [] ∧ PySem.W.keepIn K (.ref f) = true ∧ mg x = some (.ref f)
theorem pe_cal {X : Cx} {n k : Nat} {x : Str} {ps : List Str} {sp : Sp} {e : Expr} {es : List Expr} {t : TA} {p pos : Pos} (C : Cal X.prog X.w X.K X.mg X.base n x ps sp) (hr : Room k X.A) (hk : n ≤ k) (hg : Gl X x)
    (ha : PA X (e :: es) t) (hdb : (x == ("__debug__" : Str)) = false := by decide) (he : starEach (e :: es) X.env = (false, eval e X.env) :: starEach es X.env := by rfl) (hpl : (backTo pos (starEach es X.env)).any (·.1) = false := by rfl) :
    PE X (.Call (.Name x p) (e :: es) [] pos) (tCall sp [] E0 t) := by
  obtain ⟨f, fd, F, b, kp, m⟩ := C.ex
  exact pe_call F (hr.mono hk) hg m kp b .nil pass0 ha hdb he hpl
theorem Cal.of {P : Program} {w : World} {K : PySem.W.Frag} {mg : Str → Option Value} {base : Heap} {n : Nat} {x qual : Str} {ps : List Str} {sp : Sp} {st : Stmt} {f : Addr} {fd : FuncData} (F : Fun K x qual st f fd) (O : FnOk P w K mg base CX0 n f fd ps sp) (m : mg x = some (.ref f))
    (h : ∀ (kV doc pm : Value) (an : Option Addr) (cdv ct : Value) (us : List Value), us.length = ps.length → bindArgs (PySem.W.fnOf x qual (defArgs st) (defBody st) (defScope st) .none kV doc pm an cdv ct) ⟨us, []⟩ = pure (ps.zip us)) : Cal P w K mg base n x ps sp :=
  ⟨f, fd, O, F.binds h, F.kp, m⟩

theorem iteN {c A B : Prop} [Decidable c] (hc : ¬ c) (h : A) : if (!decide c) = true then A else B := by
  rw [decide_eq_false hc]
  exact iteT h
theorem iteD {c A B : Prop} [Decidable c] (hc : c) (h : A) : if decide c = true then A else B := by
  rw [decide_eq_true hc]
  exact iteT h
theorem iteDF {c A B : Prop} [Decidable c] (hc : ¬ c) (h : B) : if decide c = true then A else B := by
  rw [decide_eq_false hc]
  exact iteF h

/-! heaps: all but f is as it was -/
def SameBut (f : Addr) (H H' : Hp) : Prop := ∀ b o, b ≠ f → H b = some o → H' b = some o
theorem SameBut.trans {f : Addr} {H H1 H2 : Hp} (a : SameBut f H H1) (b : SameBut f H1 H2) : SameBut f H H2 := fun c o h e => b c o h (a c o h e)
theorem SameBut.refl (f : Addr) (H : Hp) : SameBut f H H := fun _ _ _ h => h
theorem SameBut.of {f : Addr} {H H' : Hp} (h : Same H H') : SameBut f H H' := fun b o _ e => h b o e
theorem SameBut.upd {f : Addr} {H : Hp} (o : HO) : SameBut f H (upd H f o) := fun b u h e => by rw [upd_ne h]; exact e
theorem Same.new {H : Hp} {p : Addr} (h : H p = none) (o : HO) : Same H (upd H p o) := fun b u q => by rw [upd_ne (ne_of_none q h)]; exact q
theorem Same.but {f : Addr} {H0 H H' : Hp} (a : Same H0 H) (n : H0 f = none) (b : SameBut f H H') : Same H0 H' := fun c o e => b c o (ne_of_none e n) (a c o e)

/-! the law's own row of draws: a list of two ints -/
def FeedAt (H : Hp) (f : Addr) : Prop := ∃ own st : Int, H f = some (.lst [.int own, .int st]) ∧ 0 ≤ own ∧ 0 ≤ st ∧ st ≤ 2147483646
theorem FeedAt.ne {H : Hp} {f b : Addr} (F : FeedAt H f) (h : H b = none) : b ≠ f := by
  obtain ⟨o, s, e, _⟩ := F
  intro z
  subst z
  rw [h] at e
  cases e
theorem FeedAt.same {H H' : Hp} {f : Addr} (F : FeedAt H f) (s : Same H H') : FeedAt H' f := by
  obtain ⟨o, t, e, h⟩ := F
  exact ⟨o, t, s _ _ e, h⟩
def spTake : Sp := fun vs H Q _ => ∃ (f : Addr) (m : Int), vs = [.ref f, .int m] ∧ FeedAt H f ∧ 0 < m ∧ m < 2 ^ 63 ∧ ∀ (d : Int) (H' : Hp), 0 ≤ d → d < m → FeedAt H' f → SameBut f H H' → Q (.int d) H'
def spFeed (K : PySem.W.Frag) : Sp := fun vs H Q _ => ∃ (a : Addr) (ns : List Int) (k : Int), vs = [.ref a, .int k] ∧ SqL K H a (ns.map V.int) ∧ ns.length ≤ 63 ∧ 0 ≤ k ∧ k < 1000000 ∧ ∀ (p : Addr) (H' : Hp), H p = none → Same H H' → FeedAt H' p → Q (.ref p) H'
def spLaw (K : PySem.W.Frag) : Sp := fun vs H Q _ => ∃ (a : Addr) (ns : List Int), vs = [.ref a] ∧ SqL K H a (ns.map V.int) ∧ ns.length ≤ 63 ∧ ∀ H', Q (.bl true) H'
theorem small {n : Nat} (h : n ≤ 1000) : n ≤ sizeLine := Nat.le_of_lt (small1000 h)
theorem at_int {ns : List Int} {k : Int} (h0 : 0 ≤ k) (h : k < (ns.length : Int)) : ∃ v : Int, atI (ns.map V.int) k = some (.int v) := by
  have hk : k.toNat < ns.length := by omega
  have q : atI (ns.map V.int) ((k.toNat : Nat) : Int) = some (.int ns[k.toNat]) := atI_nat (by rw [List.getElem?_map, List.getElem?_eq_getElem hk] <;> rfl)
  have ek : ((k.toNat : Nat) : Int) = k := by omega
  rw [ek] at q
  exact ⟨_, q⟩
end L2

namespace L2
open PySem PySem.Spec PyProof.Rows

/-! ### [elt for x in iter if ..]: the block -/
@[reducible] def cxComp (X : Cx) (N : List Str) (scope : Scope) (cl : List (Str × Addr)) (s : Shared) (H : Hp) (fp : List Addr) : Cx where
  prog := X.prog
  w := X.w
  K := X.K
  mg := X.mg
  base := X.base
  A := X.A
  N := N
  s₀ := s
  H₀ := H
  env := compEnvC scope cl s.heap.objs.size X.env
  outer := X.stack
  stack := X.stack
  ex := fp
  fn := fun _ => false
  calm := X.calm
  pn := []
  xe := fun _ _ => False

/-- the block's own name x, the def's names N that it sees (all cells there), their places ix among the def's names -/
structure CompScope (X : Cx) (x : Str) (N : List Str) (ix : List Nat) (scope : Scope) (cl : List (Str × Addr)) : Prop where
  clos : closureFor scope X.env = pure cl
  nocell : ∀ y ∈ scope.names, y.2 ≠ .cell
  kind : scope.kind = .function
  names : ∀ y ∈ scope.names, y.2 = .local → scope.names.lookup y.1 = some .local
  own : scope.names.lookup x = some .local
  nd : (x :: N).Nodup
  sub : ∀ p ∈ cl, X.env.cells.lookup p.1 = some p.2
  has : ((relabel scope X.env).names.all fun p => !(p.2 == .cell || p.2 == .free) || (cl.lookup p.1).isSome) = true
  outs : ∀ (j : Nat) (y : Str), N[j]? = some y → (relabel scope X.env).names.lookup y = some .cell ∧ ∃ k c, ix[j]? = some k ∧ X.N[k]? = some y ∧ cl.lookup y = some c ∧ X.env.scope.names.lookup y = some .cell

/-- the def's values that the block sees -/
def outs (ix : List Nat) (σ : St) : St := ix.map fun k => (σ[k]?).join

section
variable {X : Cx} {pins : List (Addr × Obj)} {σ : St} {x : Str} {N : List Str} {ix : List Nat} {scope : Scope} {cl : List (Str × Addr)} {fp : List Addr} {H3 : Hp} {s3 : Shared}

theorem CompScope.cells (S : CompScope X x N ix scope cl) {y : Str} {c : Addr} (h : cl.lookup y = some c) : X.env.cells.lookup y = some c := S.sub _ (PySem.mem_of_lookup h)

theorem comp_cx (S : CompScope X x N ix scope cl) (I3 : Inv X pins σ H3 s3) (hf : ∀ b ∈ fp, FpOk X pins H3 b) (hlt : ∀ b ∈ fp, b < s3.heap.objs.size) : (cxComp X (x :: N) scope cl s3 H3 fp).Ok where
  mod := I3.ok.mod
  kind := S.kind
  glob := I3.ok.glob
  blt := I3.ok.blt
  above := Nat.le_refl _
  inj := fun y z c h1 h2 => I3.ok.inj y z c (S.cells h1) (S.cells h2)
  has := fun y hy => by
    have q := List.all_eq_true.mp S.has
    have hy : (relabel scope X.env).names.lookup y = some .cell ∨ (relabel scope X.env).names.lookup y = some .free := hy
    have z : ∀ k : NameKind, (k == .cell || k == .free) = true → (relabel scope X.env).names.lookup y = some k → ∃ c, cl.lookup y = some c := fun k hk e => by
      have r := q _ (PySem.mem_of_lookup e)
      rw [hk] at r
      exact Option.isSome_iff_exists.mp (by simpa using r)
    rcases hy with e | e
    · exact z _ (by rfl) e
    · exact z _ (by rfl) e
  cab := fun _ _ h _ => nomatch h
  hd := I3.ok.hd
  frames := I3.ok.frames
  stk := .inl rfl
  exf := fun b hb => ⟨Nat.ne_of_lt (hlt b hb), fun y c e => (hf b hb).2.2.2.2.1 y c (S.cells e)⟩
  bs := fun b o e => I3.bs b o e
  bsz := Nat.le_trans I3.ok.bsz I3.sz
  noex := fun b o e hb => by
    rcases (hf b hb).2.2.2.1 with z | z
    · exact I3.ok.noex b o e z
    · exact absurd (Nat.lt_of_lt_of_le (Heap.lt_size e) (Nat.le_trans I3.ok.bsz z)) (Nat.lt_irrefl _)
  exfs := fun b hb z => by
    rcases List.mem_cons.mp (I3.stkSub b z) with e | e
    · exact (hf b hb).2.1 e
    · exact (hf b hb).2.2.1 e
  funs := I3.stack
  frf := I3.stkFree

theorem comp_start (S : CompScope X x N ix scope cl) (I3 : Inv X pins σ H3 s3) (hf : ∀ b ∈ fp, FpOk X pins H3 b) (hlt : ∀ b ∈ fp, b < s3.heap.objs.size) (hix : ix.length = N.length) {h1 : Heap} {t' : Nat} {m : Str → Option Value}
    (hn : h1.Ns s3.heap.objs.size m) (hk : ∀ b o, s3.heap.get? b = some o → h1.get? b = some o) : Inv (cxComp X (x :: N) scope cl s3 H3 fp) [] (none :: outs ix σ) H3 { s3 with heap := h1, toks := t' } where
  ok := comp_cx S I3 hf hlt
  os := rfl
  bare := I3.bare
  base := Un.kept hk
  loc := by
    refine ⟨m, hn, fun i y v h1' h2 h3 => ?_⟩
    cases i with
    | zero =>
      have h2' : (some (none : Option V)) = some (some v) := h2
      cases h2'
    | succ j =>
      have h1'' : N[j]? = some y := h1'
      have h2' : (outs ix σ)[j]? = some (some v) := h2
      obtain ⟨hr, k, c, e1, e2, e3, e4⟩ := S.outs j y h1''
      unfold outs at h2'
      rw [List.getElem?_map, e1] at h2'
      have h2'' : (σ[k]?).join = some v := Option.some.inj h2'
      have e5 : σ[k]? = some (some v) := by
        cases q : σ[k]? with
        | none => rw [q] at h2''; cases h2''
        | some o => rw [q] at h2''; exact congrArg some h2''
      obtain ⟨m0, _, hl⟩ := I3.loc
      obtain ⟨u, r, l⟩ := hl k y v e2 e5 (.inr (.inl e4))
      refine ⟨u, r, .inr ⟨.inl hr, c, e3, ?_⟩⟩
      rcases l with ⟨kk, _⟩ | ⟨_, c', ec, z⟩
      · have kk' : X.env.scope.names.lookup y = some .local := kk
        rw [e4] at kk'; cases kk'
      · rw [S.cells e3] at ec
        cases ec
        obtain ⟨o, ho, hd⟩ := z
        exact ⟨o, hk _ _ ho, hd⟩
  cell := fun y c e => by
    obtain ⟨v, o, ho, hd⟩ := I3.cell y c (S.cells e)
    exact ⟨v, o, hk _ _ ho, hd⟩
  free := I3.hok.fresh (Nat.le_refl _)
  freeC := fun y c e => I3.freeC y c (S.cells e)
  pin := fun p hp => absurd (show p ∈ ([] : List (Addr × Obj)) from hp) (by simp)
  hok := I3.hok.kept hk
  len := by
    show (none :: outs ix σ).length = (x :: N).length
    rw [List.length_cons, List.length_cons]
    unfold outs
    rw [List.length_map, hix]

theorem comp_back (I3 : Inv X pins σ H3 s3) (hf : ∀ b ∈ fp, FpOk X pins H3 b) {σ' : St} {H' : Hp} {s' : Shared} {h'' : Heap} {N' : List Str} (J : Inv (cxComp X N' scope cl s3 H3 fp) [] σ' H' s') (hb : Heap.SameBut s3.heap.objs.size s'.heap h'') :
    Inv X pins σ H' { s' with heap := h'' } := by
  have ne : ∀ b o, s3.heap.get? b = some o → b ≠ s3.heap.objs.size := fun b o e => Nat.ne_of_lt (Heap.lt_size e)
  have B : Un (frs X.stack) fp H3 H' s3.heap s'.heap := J.base
  refine I3.call' (s' := { s' with heap := h'' }) (ch := fp) J.os ⟨fun b o e n h1 h2 => (hb.2 b (ne b o e)).trans (B.keep b o e n h1 h2), fun b o e n h1 h2 => ?_, B.free, fun b o e h2 => ?_, B.tups, B.frzs, B.tbls⟩ (fun b ob e => ?_) J.bare (fun b z => ?_)
  · obtain ⟨sl, q⟩ := B.slot b o e n h1 h2
    exact ⟨sl, (hb.2 b (ne b o e)).trans q⟩
  · obtain ⟨o', q⟩ := B.there b o e h2
    exact ⟨o', (hb.2 b (ne b o e)).trans q⟩
  · have fr : H' s3.heap.objs.size = none := J.free
    refine (J.hok b ob e).stay (fun c w' hc q => (hb.2 c ?_).trans q) (fun _ q => q) fun _ _ q => q
    rintro rfl
    rcases hc with rfl | hc
    · rw [fr] at e; cases e
    · rw [fr] at hc; cases hc
  · obtain ⟨_, h2, _, h4, h5, h6⟩ := hf b z
    exact ⟨h4, h2, h5, h6⟩
end

/-! ### the tests and the element -/
abbrev TBl := St → Hp → (Hp → Prop) → VK → Prop
def PB (X : Cx) (ifs : List Expr) (elt : Expr) (tb : TBl) : Prop :=
  ∀ (pins : List (Addr × Obj)) (s : Shared) (σ : St) (H : Hp) (skip : Hp → Prop) (keep : VK), Inv X pins σ H s → tb σ H skip keep →
    wpAny (model X.prog X.w) X.A (forIn ifs true fun c r => if r = true then do let ok ← isTrue c X.env (eval c X.env); pure (ForInStep.yield ok) else pure (ForInStep.yield r))
      (fun ok s3 => if ok = true then wpAny (model X.prog X.w) X.A (eval elt X.env) (EP X pins σ keep) X.xe s3 else ∃ H', Inv X pins σ H' s3 ∧ skip H') X.xe s
def tB0 (te : TE) : TBl := fun σ H _ keep => te σ H keep
def tB1 (tc : TT) (te : TE) : TBl := fun σ H skip keep => tc σ H fun b H1 => if b = true then te σ H1 keep else skip H1
theorem pb_all {X : Cx} {elt : Expr} {te : TE} (he : PE X elt te) : PB X [] elt (tB0 te) := by
  intro pins s σ H skip keep I h
  refine wpAny_tests_nil ?_
  rw [if_pos rfl]
  exact he pins s σ H keep I h
theorem pb_if {X : Cx} {c elt : Expr} {tc : TT} {te : TE} (hc : PT X c tc) (he : PE X elt te) : PB X [c] elt (tB1 tc te) := by
  intro pins s σ H skip keep I h
  refine wpAny_tests_one (thn (hc pins s σ H _ I h) fun b s1 hpat => ?_)
  obtain ⟨H1, I1, q1⟩ := hpat
  cases b with
  | true =>
    rw [if_pos rfl] at q1 ⊢
    exact he pins s1 σ H1 keep I1 q1
  | false =>
    rw [if_neg (by decide)] at q1 ⊢
    exact ⟨H1, I1, q1⟩

/-- what a comprehension is: W the invariant by the turn and a measure; the list stands at D -/
def CompEx (J : It) (D : Addr) (ix : List Nat) (tb : TBl) (σ : St) (H : Hp) (Q : VK) : Prop := ∃ W : Nat → Nat → Hp → Prop, (∃ m, W 0 m (upd H D (.lst []))) ∧ ∀ i m H2, W i m H2 →
  (J.stop i H2 ∧ Q (.ref D) H2) ∨ (J.go i H2 ∧ ∀ y H3, J.yld i H2 y H3 → tb (some y :: outs ix σ) H3 (fun H4 => ∃ m', m' < m ∧ W (i + 1) m' H4)
    fun z H4 => ∃ ys, H4 D = some (.lst ys) ∧ ys.length < sizeLine ∧ ∃ m', m' < m ∧ W (i + 1) m' (upd H4 D (.lst (ys ++ [z]))))
def tCompR (wi : TI) (ix : List Nat) (tb : TBl) : TE := fun σ H Q => wi σ H fun J H1 => ∀ D, H1 D = none → CompEx J D ix tb σ H1 Q

section
variable {prog : Program} {w : World} {A : Around} {E : Value → Shared → Prop} {R : Result → Shared → Prop} {s : Shared}
/-- the loop, the target's own step left in -/
theorem compLoop_go {elt target iter : Expr} {ifs : List Expr} {scope : Scope} {pos : Pos} {it acc : Value} {env : Env} (I : Nat → Shared → Prop)
    (turn : ∀ n s, I n s → wpAny (model prog w) A (pyNext it) (fun r s1 => match r with
      | none => R (.ok .next) s1
      | some v => wpAny (model prog w) A (letOwnedTupleGo target it v) (fun _ s1' => wpAny (model prog w) A (assign target env v) (fun _ s2 =>
          wpAny (model prog w) A (forIn ifs true fun c r => if r = true then do let ok ← isTrue c env (eval c env); pure (ForInStep.yield ok) else pure (ForInStep.yield r)) (fun ok s3 =>
            if ok = true then wpAny (model prog w) A (eval elt env) (fun x s4 =>
              wpAny (model prog w) A (call (.builtin "list.append") [acc, x]) (fun _ s5 => ∃ m, m < n ∧ I m s5) (fun _ _ => False) s4) (fun _ _ => False) s3
            else ∃ m, m < n ∧ I m s3) (fun _ _ => False) s2) (fun _ _ => False) s1') (fun _ _ => False) s1) (fun _ _ => False) s)
    (n : Nat) (h : I n s) :
    codeAny (model prog w) A (.compLoop (.ListComp elt [⟨target, iter, ifs, 0⟩] scope pos) 0 it acc env) R s := by
  have up : ∀ {α : Type} {t : Sem α} {Q Q' : α → Shared → Prop} {E' : Value → Shared → Prop} {s : Shared}, wpAny (model prog w) A t Q (fun _ _ => False) s → (∀ a s, Q a s → Q' a s) → wpAny (model prog w) A t Q' E' s :=
    fun h q => wpAny_mono h q fun _ _ f => f.elim
  refine codeAny_loop rfl I (fun n s hI => ?_) n h
  show wpAny _ A ((compTurn (.ListComp elt [⟨target, iter, ifs, 0⟩] scope pos) 0 it acc env).onRaise (fun x => do noteFrame x env; theTreesLotGoes x)) _ _ s
  refine wpAny_noted ?_
  rw [compTurn_list]
  refine wpAny_bind (wpAny_standAt (wpAny_bind (up (turn n s hI) fun r s1 h1 => ?_)))
  cases r with
  | none => exact wpAny_pure h1
  | some v =>
    refine wpAny_bind (up h1 fun _ s1' h1' => ?_)
    refine wpAny_bind (up h1' fun _ s2 h2 => wpAny_bind (up h2 fun ok s3 h3 => ?_))
    cases ok with
    | false => exact wpAny_pure ⟨rfl, h3⟩
    | true =>
      exact wpAny_bind (wpAny_bind (up h3 fun x s4 h4 => wpAny_bind (up h4 fun _ s5 h5 => wpAny_pure (wpAny_pure ⟨rfl, h5⟩))))
end

/-- an untracked record that is none of the def's own -/
structure Apart (X : Cx) (pins : List (Addr × Obj)) (H : Hp) (C : Addr) : Prop where
  fr : H C = none
  lo : C ≠ X.env.locals
  sz : X.s₀.heap.objs.size ≤ C
  ce : ∀ y c, X.env.cells.lookup y = some c → c ≠ C
  pi : ∀ p ∈ X.pn ++ pins, p.1 ≠ C
theorem Apart.turn {X : Cx} {pins : List (Addr × Obj)} {σ : St} {H : Hp} {C : Addr} {s : Shared} {h' : Heap} (a : Apart X pins H C) (I : Inv X pins σ H s) (hs : Heap.SameBut C s.heap h') : Inv X pins σ H { s with heap := h' } :=
  I.turned (t' := s.toks) (fun b o ne e => (hs.2 b ne).trans e) a.fr a.lo (.inr a.sz) a.ce a.pi
section
variable {X : Cx} {x : Str} {N : List Str} {ix : List Nat} {scope : Scope} {cl : List (Str × Addr)} {elt iter : Expr} {ifs : List Expr} {px pos : Pos} {wi : TI} {tb : TBl}

/-- the block runs: behind it the def's own state stands again -/
theorem comp_run (hc : X.calm = true) (S : CompScope X x N ix scope cl) (hix : ix.length = N.length) (hb : ∀ s3 H3 fp, PB (cxComp X (x :: N) scope cl s3 H3 fp) ifs elt tb)
    {pins : List (Addr × Obj)} {s2 : Shared} {σ : St} {H2 : Hp} {Q : VK} {it : Addr} {fp : List Addr} {tn : Nat → Heap → Prop} {J : It} {RR : Value → Addr → Result → Shared → Prop} {E : Value → Shared → Prop}
    (I2 : Inv X pins σ H2 s2) (T : Turn X.prog X.w X.K (.Name x px) J fp it tn) (st2 : tn 0 s2.heap) (f2 : ∀ b ∈ fp, FpOk X pins H2 b)
    (h : ∀ D, H2 D = none → ∃ W : Nat → Nat → Hp → Prop, (∃ m, W 0 m (upd H2 D (.lst []))) ∧ ∀ i m H3, W i m H3 →
      (J.stop i H3 ∧ Q (.ref D) H3) ∨ (J.go i H3 ∧ ∀ y H4, J.yld i H3 y H4 → tb (some y :: outs ix σ) H4 (fun H5 => ∃ m', m' < m ∧ W (i + 1) m' H5)
        fun z H5 => ∃ ys, H5 D = some (.lst ys) ∧ ys.length < sizeLine ∧ ∃ m', m' < m ∧ W (i + 1) m' (upd H5 D (.lst (ys ++ [z])))))
    (hRR : ∀ (D C : Addr) (H' : Hp) (s' : Shared) (m : Str → Option Value), s'.heap.Ns C m → Apart X pins H' C → Inv X pins σ H' s' → Q (.ref D) H' → RR (.ref D) C (.ok .next) s') :
    wpAny (model X.prog X.w) X.A (newList []) (fun acc s3 => wpAny (model X.prog X.w) X.A (newFunctionEnv scope X.env.globals cl [] X.env.qual none .none (some X.env)) (fun cenv s4 =>
      codeAny (model X.prog X.w) X.A (.compStart (.ListComp elt [⟨.Name x px, iter, ifs, 0⟩] scope pos) 0 (.ref it) acc { cenv with scope := relabel scope X.env }) (RR acc cenv.locals) s4) E s3) E s2 := by
  refine wpAny_newObj_type (wpAny_newFunctionEnv S.nocell (by intro y hy; simp at hy) (fun h1 hns1 hsb1 => ?_) S.kind)
  dsimp only at hns1 hsb1 ⊢
  have I3 : Inv X pins σ (upd H2 s2.heap.objs.size (.lst [])) { s2 with heap := s2.heap.push { cls := .type "list", dict := none, data := .seq ([] : List Value).toArray } } := I2.lnew (its := []) (ys := []) (t' := s2.toks) .nil (Nat.zero_le _)
  have hD : H2 s2.heap.objs.size = none := I2.fresh
  obtain ⟨W, ⟨m0, w0⟩, turn⟩ := h s2.heap.objs.size hD
  have hltF : ∀ b ∈ fp, b < s2.heap.objs.size := fun b hb => by
    obtain ⟨o, e, _⟩ := T.obj 0 _ st2 b hb
    exact Heap.lt_size e
  generalize hs3 : ({ s2 with heap := s2.heap.push { cls := .type "list", dict := none, data := .seq ([] : List Value).toArray } } : Shared) = s3 at I3
  have eh : s2.heap.push { cls := .type "list", dict := none, data := .seq ([] : List Value).toArray } = s3.heap := by rw [← hs3]
  have et : s2.toks = s3.toks := by rw [← hs3]
  rw [eh] at hns1 hsb1 ⊢
  have sz3 : s3.heap.objs.size = s2.heap.objs.size + 1 := by rw [← eh, Heap.size_push]
  have hlt3 : ∀ b ∈ fp, b < s3.heap.objs.size := fun b hb => Nat.lt_of_lt_of_le (hltF b hb) (by rw [sz3]; exact Nat.le_succ _)
  have f3 : ∀ b ∈ fp, FpOk X pins (upd H2 s2.heap.objs.size (.lst [])) b := fun b hb => by
    obtain ⟨q1, q2⟩ := f2 b hb
    exact ⟨by rw [upd_ne (Nat.ne_of_lt (hltF b hb))]; exact q1, q2⟩
  have up : ∀ b o, s3.heap.get? b = some o → h1.get? b = some o := fun b o e => hsb1.extBut b o (Nat.ne_of_lt (Heap.lt_size e)) (Heap.get?_push_of_some _ e)
  have old : ∀ b o, s2.heap.get? b = some o → h1.get? b = some o := fun b o e => up b o (by rw [← eh]; exact Heap.get?_push_of_some _ e)
  have es : ({ s2 with heap := h1, toks := s2.toks + ([] : List (Str × Value)).length } : Shared) = { s3 with heap := h1, toks := s2.toks + ([] : List (Str × Value)).length } := by rw [← hs3]
  rw [es]
  have I4 : Inv (cxComp X (x :: N) scope cl s3 (upd H2 s2.heap.objs.size (.lst [])) fp) [] (none :: outs ix σ) (upd H2 s2.heap.objs.size (.lst [])) { s3 with heap := h1, toks := s2.toks + ([] : List (Str × Value)).length } :=
    comp_start S I3 f3 hlt3 hix hns1 up
  have st4 : tn 0 h1 := T.keep 0 _ _ st2 fun b _ o e => old b o e
  have loop : codeAny (model X.prog X.w) X.A (.compLoop (.ListComp elt [⟨.Name x px, iter, ifs, 0⟩] scope pos) 0 (.ref it) (.ref s2.heap.objs.size) (compEnvC scope cl s3.heap.objs.size X.env)) (RR (.ref s2.heap.objs.size) s3.heap.objs.size)
      { s3 with heap := h1, toks := s2.toks + ([] : List (Str × Value)).length } := by
    refine compLoop_go (fun n s' => ∃ i v0 H', Inv (cxComp X (x :: N) scope cl s3 (upd H2 s2.heap.objs.size (.lst [])) fp) [] (v0 :: outs ix σ) H' s' ∧ tn i s'.heap ∧ (∀ b ∈ fp, H' b = none) ∧ W i n H') ?_ m0 ⟨0, none, _, I4, st4, fun b hb => (f3 b hb).1, w0⟩
    rintro n s5 ⟨i, v0, H5, I5, st5, fr5, w5⟩
    have stat : ∀ {H' : Hp}, (∀ b ∈ fp, H' b = none) → ∀ b ∈ fp, FpOk (cxComp X (x :: N) scope cl s3 (upd H2 s2.heap.objs.size (.lst [])) fp) [] H' b := fun hn b hb =>
      ⟨hn b hb, ((comp_cx S I3 f3 hlt3).exf b hb).1, (comp_cx S I3 f3 hlt3).exfs b hb, .inl hb, ((comp_cx S I3 f3 hlt3).exf b hb).2, fun p hp => absurd (show p ∈ ([] : List (Addr × Obj)) from hp) (by simp)⟩
    rcases turn i n H5 w5 with ⟨stop, qn⟩ | ⟨go, step⟩
    · refine thn (T.done (cxComp X (x :: N) scope cl s3 (upd H2 s2.heap.objs.size (.lst [])) fp) rfl rfl rfl hc i [] s5 _ H5 _ I5 (stat fr5) st5 stop) fun r s6 hpat => ?_
      obtain ⟨hr, I6⟩ := hpat
      subst hr
      obtain ⟨m6, hn6, _⟩ := I6.loc
      exact hRR _ _ H5 s6 m6 hn6 ⟨I6.free, Ne.symm (Nat.ne_of_lt I3.lt), I3.sz, fun y c e z => by
        obtain ⟨v, q⟩ := I3.cell y c e
        exact absurd q.lt (by rw [z]; exact Nat.lt_irrefl _), fun p hp z => absurd (Heap.lt_size (I3.pin p hp).1) (by rw [z]; exact Nat.lt_irrefl _)⟩ (comp_back I3 f3 I6 (Heap.SameBut.refl _ _)) qn
    · refine thn (T.item (cxComp X (x :: N) scope cl s3 (upd H2 s2.heap.objs.size (.lst [])) fp) rfl rfl rfl hc i [] s5 _ H5 _ I5 (stat fr5) st5 go) fun r s6 hpat => ?_
      obtain ⟨u, hr, h6⟩ := hpat
      subst hr
      refine thn h6 fun _ s7 hpat => ?_
      obtain ⟨y, H7, I7, r7, y7, st7, fr7⟩ := hpat
      have I7' := I7.pinned (stat fr7) (T.obj _ _ st7)
      refine wpAny_assign_Name (store_ok (i := 0) I7' S.nd rfl (.inl (lookup_relabel_local S.own)) r7 (fun s8 I8 => ?_) (.inr (lookup_relabel_local S.own)))
      have I8' : Inv (cxComp X (x :: N) scope cl s3 (upd H2 s2.heap.objs.size (.lst [])) fp) ([] ++ pinsAt fp s7.heap) (some y :: outs ix σ) H7 s8 := I8
      have again : ∀ {v9 : Option V} {H9 : Hp} {s9 : Shared}, Inv (cxComp X (x :: N) scope cl s3 (upd H2 s2.heap.objs.size (.lst [])) fp) ([] ++ pinsAt fp s7.heap) (v9 :: outs ix σ) H9 s9 → (∃ m', m' < n ∧ W (i + 1) m' H9) →
          ∃ m, m < n ∧ ∃ i v0 H', Inv (cxComp X (x :: N) scope cl s3 (upd H2 s2.heap.objs.size (.lst [])) fp) [] (v0 :: outs ix σ) H' s9 ∧ tn i s9.heap ∧ (∀ b ∈ fp, H' b = none) ∧ W i m H' := fun {v9 H9 s9} I9 ⟨m', hm, w9⟩ => by
        refine ⟨m', hm, i + 1, v9, H9, I9.unpinned, T.keep _ _ _ st7 fun b hb o e => (I9.pin (b, o) (List.mem_append_right _ (List.mem_append_right _ (mem_pinsAt hb e)))).1, fun b hb => ?_, w9⟩
        obtain ⟨o, e, d⟩ := T.obj _ _ st7 b hb
        exact (I9.pin (b, o) (List.mem_append_right _ (List.mem_append_right _ (mem_pinsAt hb e)))).2.1
      refine thn (hb s3 (upd H2 s2.heap.objs.size (.lst [])) fp _ s8 _ H7 _ _ I8' (step y H7 y7)) fun ok s9 q9 => ?_
      cases ok with
      | false =>
        rw [if_neg (by decide)] at q9 ⊢
        obtain ⟨H9, I9, q9⟩ := q9
        exact again I9 q9
      | true =>
        rw [if_pos rfl] at q9 ⊢
        refine thn q9 fun u s10 hpat => ?_
        obtain ⟨z, H10, I10, r10, ys, hy, hz, q10⟩ := hpat
        refine thn (mt_append _ s10 _ H10 (.ref s2.heap.objs.size) [z] (.ref s2.heap.objs.size) [u] (fun _ H' => ∃ m', m' < n ∧ W (i + 1) m' H') I10 rfl (.cons r10 .nil) ⟨_, ys, z, rfl, rfl, hy, hz, q10⟩) fun _ s11 hpat => ?_
        obtain ⟨_, H11, I11, _, q11⟩ := hpat
        exact again I11 q11
  exact codeAny_compStart_list loop (T.self _ 0 _ _ _ st4 loop)

/-- [elt for x in iter if ..] as a value -/
theorem pe_comp (hc : X.calm = true) (S : CompScope X x N ix scope cl) (hix : ix.length = N.length) (hi : PI X (.Name x px) iter wi) (hb : ∀ s3 H3 fp, PB (cxComp X (x :: N) scope cl s3 H3 fp) ifs elt tb)
    (hs : ∀ x, foldedSetIterable iter X.env x = pure x := by intro _; rfl) : PE X (.ListComp elt [⟨.Name x px, iter, ifs, 0⟩] scope pos) (tCompR wi ix tb) := by
  intro pins s σ H Q I h
  rw [eval_ListComp]
  refine wpAny_comprehension_free (use := none) rfl hs S.clos S.kind S.names (thn (hi pins s σ H _ I h) fun xv s1 h1 => thn h1 fun itv s2 h2 => ?_)
  obtain ⟨it, fp, tn, J, H2, rfl, I2, T, st2, f2, R⟩ := h2
  refine comp_run hc S hix hb (RR := fun acc C => compPost (model X.prog X.w) X.A X.xe none (EP X pins σ Q) acc C) I2 T st2 f2 R ?_
  intro D C H' s' m hn ap I' q
  exact ⟨m, hn, fun h'' hb'' => ⟨.ref D, H', ap.turn I' hb'', rfl, q⟩⟩
/-- y = [elt for x in iter if ..] -/
theorem ps_comp {i : Nat} {y : Str} {py spos : Pos} (hN : X.N.Nodup) (hi0 : X.N[i]? = some y) (hx : Loc X.env.scope y) (hc : X.calm = true) (S : CompScope X x N ix scope cl) (hix : ix.length = N.length) (hi : PI X (.Name x px) iter wi) (hb : ∀ s3 H3 fp, PB (cxComp X (x :: N) scope cl s3 H3 fp) ifs elt tb)
    (hsw : swapsWith (.ListComp elt [⟨.Name x px, iter, ifs, 0⟩] scope pos) (some (.Name y py)) spos.line X.env = pure true := by with_unfolding_all rfl)
    (hs : ∀ x, foldedSetIterable iter X.env x = pure x := by intro _; rfl) (hf : X.fn y = true ∨ X.env.scope.names.lookup y = some .local := by first | exact .inl rfl | exact .inr rfl | assumption) :
    PS X (.Assign [.Name y py] (.ListComp elt [⟨.Name x px, iter, ifs, 0⟩] scope pos) spos) (fun D σ H => tCompR wi ix tb σ H fun v H' => D.nx (σ.set i (some v)) H') := by
  intro pins s σ H Dn I h
  rw [exec_Assign_Name_used _ _ _ _ hsw]
  refine wpAny_bind (wpAny_standAt (wpAny_bind ?_))
  show wpAny _ X.A (do let _ ← comprehension (.ListComp elt [⟨.Name x px, iter, ifs, 0⟩] scope pos) scope X.env _ (newList []) false (eval iter X.env) (some (assign (.Name y py) X.env))) _ _ s
  refine wpAny_bind (wpAny_mono (wpAny_comprehension_free (use := some (assign (.Name y py) X.env)) (Q := fun _ s' => SP X pins Dn .next s') rfl hs S.clos S.kind S.names
    (thn (hi pins s σ H _ I h) fun xv s1 h1 => thn h1 fun itv s2 h2 => ?_)) (fun _ s' hq => wpAny_pure (wpAny_pure hq)) fun _ _ e => e)
  obtain ⟨it, fp, tn, J, H2, rfl, I2, T, st2, f2, R⟩ := h2
  refine comp_run hc S hix hb (RR := fun acc C => compPost (model X.prog X.w) X.A X.xe (some (assign (.Name y py) X.env)) (fun _ s' => SP X pins Dn .next s') acc C) (Q := fun v H' => Dn.nx (σ.set i (some v)) H') I2 T st2 f2 R ?_
  intro D C H' s' m hn ap I' q
  show wpAny _ X.A (assign (.Name y py) X.env (.ref D)) _ _ _
  refine wpAny_assign_Name (store_ok2 I' hN hi0 hx (v := .ref D) rfl (fun s'' I'' hsb => ?_) hf)
  obtain ⟨a, hsb, ha⟩ := hsb
  have ne : C ≠ a := by
    rcases ha with z | z
    · rw [z]; exact ap.lo
    · exact Ne.symm (ap.ce y a z)
  exact ⟨m, hn.sameBut hsb ne, fun h'' hb'' => ⟨_, H', ap.turn I'' hb'', q⟩⟩
end
end L2

namespace L2
open PySem PySem.Spec PyProof.Rows
section
variable {X : Cx} {pins : List (Addr × Obj)} {σ : St} {H : Hp} {s : Shared} {h' : Heap}
/-- several untracked records of ours have turned, and a new object is tracked -/
theorem Inv.turnedNew {t' : Nat} {ch : List Addr} {T : Addr} {o : HO} (I : Inv X pins σ H s) (k : ∀ b u, b ∉ ch → s.heap.get? b = some u → h'.get? b = some u) (hf : ∀ b ∈ ch, FpOk X pins H b) (hT : s.heap.objs.size ≤ T)
    (new : ObjOk X.prog X.w (upd H T o) h' T o) : Inv X pins σ (upd H T o) { s with heap := h', toks := t' } := by
  have nit : ∀ b u, H b = some u → b ∉ ch := fun b u e z => by rw [(hf b z).1] at e; cases e
  have hn : H T = none := I.hok.fresh hT
  have lt : ∀ b u, s.heap.get? b = some u → b ≠ T := fun b u e => Nat.ne_of_lt (Nat.lt_of_lt_of_le (Heap.lt_size e) hT)
  refine I.step (g' := s.gens) (d' := s.drawn) (ch := ch) (fun b hb => ?_) (fun b u _ _ hc e _ => k b u hc e) (fun b u _ _ hc e _ => ⟨u.slots, k b u hc e⟩) (fun b u _ e n => by rw [upd_ne (lt b u e)]; exact n) (fun b u hc e => ⟨u, k b u hc e⟩)
    (fun b xs e => by rw [upd_ne (ne_of_none e hn)]; exact e) (fun b ob u e => by rw [upd_ne (ne_of_none e hn)]; exact e) (fun b ps e => ⟨#[], by rw [upd_ne (ne_of_none e hn), e]; simp⟩) (fun m hm => ?_) (fun b u e => ?_) I.bare
  · obtain ⟨_, h2, _, h4, h5, h6⟩ := hf b hb
    exact ⟨h4, h2, h5, h6⟩
  · obtain ⟨ob, es, ep, ho, r⟩ := hm
    exact ⟨ob, es, ep, k _ ob (fun z => (hf _ z).2.1 rfl) ho, r⟩
  · by_cases hb : b = T
    · subst hb
      rw [upd_same] at e
      cases e
      exact new
    · rw [upd_ne hb] at e
      refine (I.hok b u e).stay (fun c v hc q => k c v ?_ q) (fun c q => by rw [upd_ne (ne_of_none q hn)]; exact q) fun c xs q => by rw [upd_ne (ne_of_none q hn)]; exact q
      rcases hc with z | z
      · rw [z]; exact nit b u e
      · exact nit c _ z
end

/-! ### for a, b in enumerate(xs) -/
section
variable {X : Cx} {elts : List Expr} {k : Nat} {tpos : Pos}
end
end L2

namespace L2
open PySem PySem.Spec PyProof.Rows
/-! ### data in the abstract heap, and == of it -/
mutual
inductive Rep (K : PySem.W.Frag) (H : Hp) : V → PyData → Prop
  | non : Rep K H .non .none
  | bl (b : Bool) : Rep K H (.bl b) (.bool b)
  | int (i : Int) : Rep K H (.int i) (.int i)
  | str (x : Str) : Rep K H (.str x) (.str x)
  | tup {a : Addr} {xs : List V} {ds : List PyData} : SqT K H a xs → RepAll K H xs ds → Rep K H (.ref a) (.tuple ds)
  | lst {a : Addr} {xs : List V} {ds : List PyData} : SqL K H a xs → RepAll K H xs ds → Rep K H (.ref a) (.list ds)
inductive RepAll (K : PySem.W.Frag) (H : Hp) : List V → List PyData → Prop
  | nil : RepAll K H [] []
  | cons {x : V} {d : PyData} {xs : List V} {ds : List PyData} : Rep K H x d → RepAll K H xs ds → RepAll K H (x :: xs) (d :: ds)
end
section
variable {X : Cx} {pins : List (Addr × Obj)} {σ : St} {H : Hp} {s : Shared}
mutual
theorem Rep.reads (I : Inv X pins σ H s) : ∀ {x : V} {d : PyData} {v : Value}, Rep X.K H x d → RelV x v → ∃ as, Reads s.heap v d as
  | _, _, v, .non, r => by cases (show v = Value.none from r); exact ⟨_, Reads.none⟩
  | _, _, v, .bl b, r => by cases (show v = Value.bool b from r); exact ⟨_, Reads.bool b⟩
  | _, _, v, .int i, r => by obtain ⟨t, e⟩ := (show ∃ t, v = Value.int i t from r); cases e; exact ⟨_, Reads.int i t⟩
  | _, _, v, .str x, r => by obtain ⟨t, e⟩ := (show ∃ t, v = Value.str x t from r); cases e; exact ⟨_, Reads.str x t⟩
  | _, _, v, .tup (a := a) h q, r => by
    cases (show v = Value.ref a from r)
    obtain ⟨its, rv, ⟨o, ho, hc, n, hd⟩, _⟩ := I.tuple h
    obtain ⟨as, z⟩ := RepAll.reads I q rv
    exact ⟨_, reads_tuple_at ho hc hd (by simpa using z)⟩
  | _, _, v, .lst (a := a) h q, r => by
    cases (show v = Value.ref a from r)
    obtain ⟨its, rv, ⟨o, n, ho, hc, _, hd⟩, _⟩ := I.list h
    obtain ⟨as, z⟩ := RepAll.reads I q rv
    exact ⟨_, reads_list_at ho hc hd (by simpa using z)⟩
theorem RepAll.reads (I : Inv X pins σ H s) : ∀ {xs : List V} {ds : List PyData} {vs : List Value}, RepAll X.K H xs ds → Vals xs vs → ∃ as, ReadsAll s.heap vs ds as
  | _, _, _, .nil, .nil => ⟨_, ReadsAll.nil⟩
  | _, _, _, .cons h q, .cons r rs => by
    obtain ⟨as, z⟩ := Rep.reads I h r
    obtain ⟨bs, y⟩ := RepAll.reads I q rs
    exact ⟨_, ReadsAll.cons z y⟩
end
end
theorem rep_ints {K : PySem.W.Frag} {H : Hp} : ∀ ns : List Int, RepAll K H (ns.map V.int) (ns.map PyData.int)
  | [] => .nil
  | n :: r => .cons (.int n) (rep_ints r)
section
variable {X : Cx}
def rEqD (K : PySem.W.Frag) : R2 := fun x y H Q => ∃ d e, Rep K H x d ∧ Rep K H y e ∧ SeqAt.shaped d = true ∧ SeqAt.shaped e = true ∧ Q (.bl (PyData.eqv d e)) H
theorem op_eqD (hu : X.A.units + 64 < cLine) : OpR X (compareOp .Eq) (rEqD X.K) := by
  intro pins s σ H x y v u Q I rx ry h
  obtain ⟨d, e, hd, he, sd, se, q⟩ := h
  obtain ⟨as, r1⟩ := Rep.reads I hd rx
  obtain ⟨bs, r2⟩ := Rep.reads I he ry
  exact eq_dataH r1 r2 sd se hu ⟨.bl _, H, I, rfl, q⟩
theorem eqvAll_ints : ∀ ns ms : List Int, PyData.eqvAll (ns.map PyData.int) (ms.map PyData.int) = decide (ns = ms)
  | [], [] => by simp [PyData.eqvAll]
  | [], _ :: _ => by simp [PyData.eqvAll]
  | _ :: _, [] => by simp [PyData.eqvAll]
  | a :: r, b :: t => by
    simp only [List.map_cons, PyData.eqvAll, PyData.eqv, eqvAll_ints r t]
    by_cases h : a = b <;> by_cases h' : r = t <;> simp [h, h']
end
end L2

namespace L2
open PySem PySem.Spec PyProof.Rows
/-! ### list(reversed(xs)) -/
section
variable {prog : Program} {w : World} {A : Around} {E : Value → Shared → Prop} {s : Shared} {R : Result → Shared → Prop}
end
section
variable {X : Cx}
end
end L2

namespace L2
open PySem PySem.Spec PyProof.Rows
/-! ### the forms of a comprehension that one uses -/
def Nx (n i : Nat) (Pv : Nat → Hp → Prop) (H : Hp) : Prop := ∃ m', m' < n - i ∧ (m' = n - (i + 1) ∧ i + 1 ≤ n ∧ Pv (i + 1) H)
theorem Nx.of {n i : Nat} {Pv : Nat → Hp → Prop} {H : Hp} (h : i < n) (p : Pv (i + 1) H) : Nx n i Pv H := ⟨n - (i + 1), by omega, rfl, h, p⟩
theorem comp_list {K : PySem.W.Frag} {a D : Addr} {xs : List V} {ix : List Nat} {tb : TBl} {σ : St} {H : Hp} {Q : VK} (Pv : Nat → Hp → Prop) (h0 : Pv 0 (upd H D (.lst []))) (hl : ∀ i H, i ≤ xs.length → Pv i H → SqL K H a xs)
    (hs : ∀ i x H, xs[i]? = some x → Pv i H → tb (some x :: outs ix σ) H (Nx xs.length i Pv) fun z H' => ∃ ys, H' D = some (.lst ys) ∧ ys.length < sizeLine ∧ Nx xs.length i Pv (upd H' D (.lst (ys ++ [z])))) (hd : ∀ H, Pv xs.length H → Q (.ref D) H) :
    CompEx (Itl K a) D ix tb σ H Q := by
  refine ⟨fun i m H => m = xs.length - i ∧ i ≤ xs.length ∧ Pv i H, ⟨xs.length, by simp, Nat.zero_le _, h0⟩, ?_⟩
  rintro i m H ⟨rfl, hi, p⟩
  have q := hl i H hi p
  by_cases hlt : i < xs.length
  · refine .inr ⟨⟨xs, xs[i], q, by simp [hlt]⟩, fun x H' y => ?_⟩
    obtain ⟨e, y⟩ := y
    subst e
    exact hs i x _ (y xs q) p
  · have e : i = xs.length := by omega
    subst e
    exact .inl ⟨⟨xs, q, Nat.le_refl _⟩, hd H p⟩
theorem comp_range {lo : Int} {n : Nat} {D : Addr} {ix : List Nat} {tb : TBl} {σ : St} {H : Hp} {Q : VK} (Pv : Nat → Hp → Prop) (h0 : Pv 0 (upd H D (.lst [])))
    (hs : ∀ i H, i < n → Pv i H → tb (some (.int (lo + i)) :: outs ix σ) H (Nx n i Pv) fun z H' => ∃ ys, H' D = some (.lst ys) ∧ ys.length < sizeLine ∧ Nx n i Pv (upd H' D (.lst (ys ++ [z])))) (hd : ∀ H, Pv n H → Q (.ref D) H) :
    CompEx (Itr lo n) D ix tb σ H Q := by
  refine ⟨fun i m H => m = n - i ∧ i ≤ n ∧ Pv i H, ⟨n, by simp, Nat.zero_le _, h0⟩, ?_⟩
  rintro i m H ⟨rfl, hi, p⟩
  by_cases hlt : i < n
  · refine .inr ⟨hlt, fun x H' y => ?_⟩
    obtain ⟨e, y⟩ := y
    subst e y
    exact hs i _ hlt p
  · have e : i = n := by omega
    subst e
    exact .inl ⟨Nat.le_refl _, hd H p⟩
end L2

namespace L2
open PySem PySem.Spec PyProof.Rows
/-! ### the rules that look at the written part, K named (for a comprehension's block) -/
section
variable {X : Cx}
def rLen (K : PySem.W.Frag) : List V → Hp → VK → Prop := fun xs H Q => ∃ p ys, xs = [.ref p] ∧ (SqL K H p ys ∨ SqT K H p ys) ∧ Q (.int ys.length) H
theorem call_lenK (K : PySem.W.Frag) (hK : X.K = K := by rfl) : CallR X (.builtin "len") (rLen K) := by subst hK; exact call_len_seq
theorem ix_listK (K : PySem.W.Frag) (hK : X.K = K := by rfl) : IxR X (rIxL K) := by subst hK; exact ix_list
end
end L2

namespace L2
open PySem PySem.Spec PyProof.Rows
/-! ### texts: their signs, slices, join, times, startswith; all of a list -/
section
variable {X : Cx} {y : Str} {py : Pos}
end
section
variable {X : Cx}
end
end L2

namespace L2
open PySem PySem.Spec PyProof.Rows
/-- written texts, one after another -/
inductive Consts : List Expr → List Str → Prop
  | nil : Consts [] []
  | cons {x : Str} {j : Nat} {pos : Pos} {es : List Expr} {zs : List Str} : Consts es zs → Consts (.Constant (.str x) j pos :: es) (x :: zs)
/-- a comprehension that sees one name of the def -/
theorem CompScope.one {X : Cx} {x y : Str} {scope : Scope} {k : Nat} {c : Addr} (c1 : closureFor scope X.env = pure [(y, c)]) (c2 : ∀ y ∈ scope.names, y.2 ≠ .cell) (c3 : scope.kind = .function) (c4 : ∀ y ∈ scope.names, y.2 = .local → scope.names.lookup y.1 = some .local)
    (c5 : scope.names.lookup x = some .local) (nd : [x, y].Nodup) (hc : X.env.cells.lookup y = some c) (c6 : ((relabel scope X.env).names.all fun p => !(p.2 == .cell || p.2 == .free) || (([(y, c)] : List (Str × Addr)).lookup p.1).isSome) = true)
    (hr : (relabel scope X.env).names.lookup y = some .cell) (hk : X.N[k]? = some y) (hs : X.env.scope.names.lookup y = some .cell) : CompScope X x [y] [k] scope [(y, c)] where
  clos := c1
  nocell := c2
  kind := c3
  names := c4
  own := c5
  nd := nd
  sub := fun p hp => by
    rw [List.mem_singleton.mp hp]
    exact hc
  has := c6
  outs := fun j z h => by
    cases j with
    | zero =>
      have e : y = z := Option.some.inj h
      subst e
      exact ⟨hr, k, c, rfl, hk, by simp [List.lookup], hs⟩
    | succ j => simp at h
/-- .. two names -/
theorem CompScope.two {X : Cx} {x y z : Str} {scope : Scope} {k l : Nat} {c d : Addr} {cl : List (Str × Addr)} (c1 : closureFor scope X.env = pure cl) (c2 : ∀ y ∈ scope.names, y.2 ≠ .cell) (c3 : scope.kind = .function) (c4 : ∀ y ∈ scope.names, y.2 = .local → scope.names.lookup y.1 = some .local)
    (c5 : scope.names.lookup x = some .local) (nd : [x, y, z].Nodup) (hcl : cl = [(z, d), (y, c)] ∨ cl = [(y, c), (z, d)]) (hc : X.env.cells.lookup y = some c) (hd : X.env.cells.lookup z = some d) (c6 : ((relabel scope X.env).names.all fun p => !(p.2 == .cell || p.2 == .free) || (cl.lookup p.1).isSome) = true)
    (hr : (relabel scope X.env).names.lookup y = some .cell) (hk : X.N[k]? = some y) (hs : X.env.scope.names.lookup y = some .cell)
    (hr2 : (relabel scope X.env).names.lookup z = some .cell) (hk2 : X.N[l]? = some z) (hs2 : X.env.scope.names.lookup z = some .cell) : CompScope X x [y, z] [k, l] scope cl where
  clos := c1
  nocell := c2
  kind := c3
  names := c4
  own := c5
  nd := nd
  sub := fun p hp => by
    rcases hcl with rfl | rfl
    all_goals
      rcases List.mem_cons.mp hp with e | e
      · rw [e]; assumption
      · rw [List.mem_singleton.mp e]; assumption
  has := c6
  outs := fun j w h => by
    have nyz : y ≠ z := fun e => by simp [e] at nd
    match j, h with
    | 0, h =>
      have e : y = w := Option.some.inj h
      subst e
      refine ⟨hr, k, c, rfl, hk, ?_, hs⟩
      rcases hcl with rfl | rfl
      · have : (y == z) = false := by simpa using nyz
        simp [List.lookup, this]
      · simp [List.lookup]
    | 1, h =>
      have e : z = w := Option.some.inj h
      subst e
      refine ⟨hr2, l, d, rfl, hk2, ?_, hs2⟩
      rcases hcl with rfl | rfl
      · simp [List.lookup]
      · have : (z == y) = false := by simpa using Ne.symm nyz
        simp [List.lookup, this]
    | j + 2, h => simp at h
end L2

namespace Mine
open PySem L2
/-! ### names and trees as the laws draw them -/
inductive Tr where
  | is (x : Str) | yes | no | not (a : Tr) | bin (w : Str) (a b : Tr)
inductive TreeAt (H : Hp) : V → Tr → Prop
  | is {a : Addr} {x : Str} : H a = some (.tup [.str "is", .str x]) → TreeAt H (.ref a) (.is x)
  | yes {a : Addr} : H a = some (.tup [.str "yes"]) → TreeAt H (.ref a) .yes
  | no {a : Addr} : H a = some (.tup [.str "no"]) → TreeAt H (.ref a) .no
  | not {a : Addr} {v : V} {t : Tr} : H a = some (.tup [.str "not", v]) → TreeAt H v t → TreeAt H (.ref a) (.not t)
  | bin {a : Addr} {w : Str} {v u : V} {t r : Tr} : H a = some (.tup [.str w, v, u]) → TreeAt H v t → TreeAt H u r → TreeAt H (.ref a) (.bin w t r)
theorem at_in {α : Type} {l : List α} {i : Int} (h0 : 0 ≤ i) (h : i < (l.length : Int)) : ∃ v, atI l i = some v ∧ v ∈ l := by
  have hk : i.toNat < l.length := by omega
  have q : atI l ((i.toNat : Nat) : Int) = some l[i.toNat] := atI_nat (List.getElem?_eq_getElem hk)
  have ek : ((i.toNat : Nat) : Int) = i := by omega
  rw [ek] at q
  exact ⟨_, q, List.getElem_mem hk⟩
end Mine

namespace L2
open PySem PySem.Spec PyProof.Rows
section
variable {X : Cx}
/-! ### list(range(a, b)) -/
def rngV (lo : Int) (n : Nat) : List Int := (List.range n).map fun i : Nat => lo + (i : Int)
theorem rngV_len (lo : Int) (n : Nat) : (rngV lo n).length = n := by unfold rngV; rw [List.length_map, List.length_range]
theorem rng_items {lo : Int} {n : Nat} {acc : List Value} (h : ItemsOf (fun i v => ∃ t, v = Value.int (lo + (i : Int) * 1) t) acc.toArray n) : Vals ((rngV lo n).map V.int) acc := by
  obtain ⟨h1, h2⟩ := h
  have l1 : acc.length = n := by simpa using h1
  have key : ∀ (k : Nat) (l : List Value), (∀ i v, l[i]? = some v → ∃ t, v = Value.int (lo + ((k + i : Nat) : Int)) t) → Vals (((List.range' k l.length).map fun i : Nat => lo + (i : Int)).map V.int) l := by
    intro k l
    induction l generalizing k with
    | nil => intro _; exact .nil
    | cons a r ih =>
      intro h
      obtain ⟨t, e⟩ := h 0 a rfl
      rw [List.length_cons, List.range'_succ, List.map_cons, List.map_cons]
      refine .cons ⟨t, by simpa using e⟩ (ih (k + 1) fun i v hv => ?_)
      obtain ⟨t, e⟩ := h (i + 1) v (by simpa using hv)
      exact ⟨t, by rw [e]; congr 2; omega⟩
  have := key 0 acc fun i v hv => by
    obtain ⟨t, e⟩ := h2 i v (by simpa using hv)
    exact ⟨t, by simpa using e⟩
  unfold rngV
  rw [← l1, List.range_eq_range']
  exact this
def tListRng (ta : TA) : TE := fun σ H Q => ta σ H fun vs H1 => ∃ i j : Int, vs = [.int i, .int j] ∧ (-(2 ^ 62) ≤ i ∧ i < 2 ^ 62 ∧ -(2 ^ 62) ≤ j ∧ j < 2 ^ 62) ∧ j - i ≤ 1000 ∧ ∀ p, H1 p = none → Q (.ref p) (upd H1 p (.lst ((rngV i (j - i).toNat).map V.int)))
theorem pe_listrng {a b : Expr} {ta : TA} {p1 p2 pos1 pos2 : Pos} (hc : X.calm = true) (hg1 : Gl X "list") (hm1 : X.mg "list" = none) (hg2 : Gl X "range") (hm2 : X.mg "range" = none) (ha : PA X [a, b] ta)
    (hs1 : starEach [(.Call (.Name "range" p2) [a, b] [] pos2 : Expr)] X.env = [(false, eval (.Call (.Name "range" p2) [a, b] [] pos2) X.env)] := by rfl) (hs : starEach [a, b] X.env = [(false, eval a X.env), (false, eval b X.env)] := by rfl) (hs2 : starEach [b] X.env = [(false, eval b X.env)] := by rfl) :
    PE X (.Call (.Name "list" p1) [.Call (.Name "range" p2) [a, b] [] pos2] [] pos1) (tListRng ta) := by
  intro pins s σ H Q I h
  refine wpAny_Call_Name_kw (ld_blt I hg1 hm1 boot_list' ?_)
  refine PyProof.Rows.callWith_type1 ?_ hs1 rfl
  rw [hs1]
  show wpAny _ _ (spliced ((false, eval (.Call (.Name "range" p2) [a, b] [] pos2) X.env) :: backTo pos1 (starEach [] X.env))) _ _ s
  have step : wpAny (model X.prog X.w) X.A (eval (.Call (.Name "range" p2) [a, b] [] pos2) X.env) (fun v s1 => ∃ (r : Addr) (i j : Int) (t u k : Tok) (H1 : Hp), v = .ref r ∧ Inv X pins σ H1 s1 ∧ IsRange s1.heap r i j 1 t u k ∧ (-(2 ^ 62) ≤ i ∧ i < 2 ^ 62 ∧ -(2 ^ 62) ≤ j ∧ j < 2 ^ 62) ∧ j - i ≤ 1000 ∧
      ∀ p, H1 p = none → Q (.ref p) (upd H1 p (.lst ((rngV i (j - i).toNat).map V.int)))) X.xe s := by
    refine Call_ (ld_blt I hg2 hm2 boot_range (PyProof.Rows.callWith_type1 (thn (ha pos2 pins s σ H _ I h) fun us s1 ⟨vs, H1, I1, r1, q1⟩ => ?_) (by rw [hs, hs2]) (by rw [hs2]; rfl)))
    obtain ⟨i, j, e, q1, q2, q⟩ := q1
    subst e
    cases r1 with
    | cons r rr =>
      cases rr with
      | cons r' rr =>
        cases rr
        obtain ⟨t, rfl⟩ := r
        obtain ⟨t', rfl⟩ := r'
        refine call_range_2 ⟨_, i, j, _, _, _, H1, rfl, I1.kept fun b o e => Heap.get?_push_of_some _ e, IsRange.new .., q1, q2, q⟩
  refine Calls.spliced_cons (thn step fun v s1 hv => ?_)
  obtain ⟨r, i, j, t, u, k, H1, rfl, I1, hr, ⟨a1, a2, a3, a4⟩, hle, q⟩ := hv
  refine Calls.spliced_nil ?_
  have e2 : Builtin.Range.rangeSize i j 1 = (((j - i).toNat : Nat) : Int) := by rw [rangeSize_one]; split <;> omega
  refine call_list_range (I1.ok.hd hc) hr (small_one a1 a2 a3 a4) e2 (by omega) fun h' tk acc' c' hk hS hacc => ?_
  obtain ⟨acc, rfl⟩ : ∃ acc : List Value, acc' = acc.toArray := ⟨acc'.toList, by simp⟩
  have rr := rng_items hacc
  have I2 : Inv X pins σ (upd H1 s1.heap.objs.size (.lst ((rngV i (j - i).toNat).map V.int))) { s1 with heap := h', toks := tk } := by
    refine I1.turnedNew (ch := []) (fun b ob _ eb => hk b ob eb) (fun b hb => absurd hb (by simp)) (Nat.le_refl _) ⟨?_, acc, c', rr, hS⟩
    rw [List.length_map, rngV_len]
    exact small (by omega)
  exact ⟨.ref s1.heap.objs.size, _, I2, rfl, q _ (I1.hok.fresh (Nat.le_refl _))⟩
/-! ### sum(xs) -/
end
end L2

namespace L2
open PySem PySem.Spec PyProof.Rows
/-! ### list(reversed(t)), t a tuple -/
section
variable {prog : Program} {w : World} {A : Around} {E : Value → Shared → Prop} {s : Shared} {R : Result → Shared → Prop} {it t : Addr}
end
section
variable {X : Cx}
end
end L2

namespace Mine
open PySem L2
/-! ### more of trees: parts, sizes, data -/
inductive TreesAt (H : Hp) : List V → List Tr → Prop
  | nil : TreesAt H [] []
  | cons {v : V} {t : Tr} {vs : List V} {ts : List Tr} : TreeAt H v t → TreesAt H vs ts → TreesAt H (v :: vs) (t :: ts)
end Mine

namespace L2
open PySem PySem.Spec PyProof.Rows
/-! ### xs.index(x) -/
section
variable {prog : Program} {w : World} {A : Around} {E : Value → Shared → Prop} {s : Shared}
end
section
variable {X : Cx}
end
end L2

namespace L2
open PySem PySem.Spec PyProof.Rows

/-! ### lists of pairs as tables -/
section
variable {κ : Type} [DecidableEq κ]
end


/-! ### a tracked dict, its keys ints and texts or tuples of these -/
section
variable {P : Program} {w : World} {H : Hp} {h : Heap} {a : Addr}
end

section
variable {X : Cx} {pins : List (Addr × Obj)} {σ : St} {H : Hp} {s : Shared} {a : Addr} {y v : V} {u r : Value} {o : Option V} {A : Around} {E : Value → Shared → Prop}

end

section
variable {X : Cx} {pins : List (Addr × Obj)} {σ : St} {H : Hp} {s : Shared} {a : Addr} {kvs : List (Key × V)} {k : Key} {u : Value} {A : Around} {E : Value → Shared → Prop}
end


/-! ### readings and rules -/
section
variable {X : Cx} {o i e value : Expr} {pos pos' tpos : Pos} {td ty tv : TE}
end


/-! ### displays -/
section
variable {X : Cx} {pos : Pos}
end

/-! ### methods -/
/-- a method call o.m(e) of a built-in, with one argument: what must be seen of the text -/
structure M1 (X : Cx) (o : Expr) (m : Str) (apos : Pos) (e : Expr) (cpos : Pos) : Prop where
  base : attributeBase o m X.env (eval o X.env) = eval o X.env
  few : ((backTo cpos (starEach [e] X.env)).all (fun x => !x.1) && (backToKw cpos (keywordEach [] X.env)).all (fun x => x.1.isSome)
    && decide (([e] : List Expr).length + ([] : List Keyword).length + (if ([] : List Keyword).isEmpty then 0 else 1) < 30)) = true
  line : (apos.endLine == cpos.line) = true
  trees : backTo cpos (starEach [e] X.env) = [(false, eval e X.env)]
structure M2 (X : Cx) (o : Expr) (m : Str) (apos : Pos) (e f : Expr) (cpos : Pos) : Prop where
  base : attributeBase o m X.env (eval o X.env) = eval o X.env
  few : ((backTo cpos (starEach [e, f] X.env)).all (fun x => !x.1) && (backToKw cpos (keywordEach [] X.env)).all (fun x => x.1.isSome)
    && decide (([e, f] : List Expr).length + ([] : List Keyword).length + (if ([] : List Keyword).isEmpty then 0 else 1) < 30)) = true
  line : (apos.endLine == cpos.line) = true
  trees : backTo cpos (starEach [e, f] X.env) = [(false, eval e X.env), (false, eval f X.env)]

section
variable {X : Cx} {pins : List (Addr × Obj)} {σ : St} {H : Hp} {s : Shared} {a : Addr} {y d : V} {u r : Value} {o : Option V} {A : Around} {E : Value → Shared → Prop}
end

section
variable {X : Cx} {o e f : Expr} {apos cpos : Pos} {td ty tx : TE}
end

/-! ### dict(d): a copy -/
section
variable {X : Cx} {pins : List (Addr × Obj)} {σ : St} {H : Hp} {s : Shared} {a : Addr} {kvs : List (Key × V)} {A : Around} {E : Value → Shared → Prop}
end


section
variable {X : Cx} {pins : List (Addr × Obj)} {σ : St} {H : Hp} {s : Shared} {a : Addr} {y : V} {u : Value} {A : Around} {E : Value → Shared → Prop}
end
end L2

namespace L2
open PySem PySem.Spec PyProof.Rows
/-! ### xs.index(z), xs a list or a tuple -/
section
variable {X : Cx}
variable {o e : Expr} {es : List Expr} {to : TE} {t : TA} {apos cpos : Pos}
end
end L2

namespace L2
open PySem PySem.Spec PyProof.Rows
theorem CompScope.three {X : Cx} {x y z u : Str} {scope : Scope} {k l m : Nat} {c d e : Addr} {cl : List (Str × Addr)} (c1 : closureFor scope X.env = pure cl) (c2 : ∀ y ∈ scope.names, y.2 ≠ .cell) (c3 : scope.kind = .function) (c4 : ∀ y ∈ scope.names, y.2 = .local → scope.names.lookup y.1 = some .local)
    (c5 : scope.names.lookup x = some .local) (nd : [x, y, z, u].Nodup) (hcl : cl = [(y, c), (z, d), (u, e)]) (hc : X.env.cells.lookup y = some c) (hd : X.env.cells.lookup z = some d) (he : X.env.cells.lookup u = some e) (c6 : ((relabel scope X.env).names.all fun p => !(p.2 == .cell || p.2 == .free) || (cl.lookup p.1).isSome) = true)
    (hr : (relabel scope X.env).names.lookup y = some .cell) (hk : X.N[k]? = some y) (hs : X.env.scope.names.lookup y = some .cell)
    (hr2 : (relabel scope X.env).names.lookup z = some .cell) (hk2 : X.N[l]? = some z) (hs2 : X.env.scope.names.lookup z = some .cell)
    (hr3 : (relabel scope X.env).names.lookup u = some .cell) (hk3 : X.N[m]? = some u) (hs3 : X.env.scope.names.lookup u = some .cell) : CompScope X x [y, z, u] [k, l, m] scope cl where
  clos := c1
  nocell := c2
  kind := c3
  names := c4
  own := c5
  nd := nd
  sub := fun p hp => by
    subst hcl
    rcases List.mem_cons.mp hp with h | h
    · rw [h]; assumption
    · rcases List.mem_cons.mp h with h | h
      · rw [h]; assumption
      · rw [List.mem_singleton.mp h]; assumption
  has := c6
  outs := fun j w h => by
    have nyz : y ≠ z := fun e => by simp [e] at nd
    have nyu : y ≠ u := fun e => by simp [e] at nd
    have nzu : z ≠ u := fun e => by simp [e] at nd
    subst hcl
    match j, h with
    | 0, h =>
      have e : y = w := Option.some.inj h
      subst e
      exact ⟨hr, k, c, rfl, hk, by simp [List.lookup], hs⟩
    | 1, h =>
      have e : z = w := Option.some.inj h
      subst e
      have : (z == y) = false := by simpa using Ne.symm nyz
      exact ⟨hr2, l, d, rfl, hk2, by simp [List.lookup, this], hs2⟩
    | 2, h =>
      have ew : u = w := Option.some.inj h
      subst ew
      have h1 : (u == y) = false := by simpa using Ne.symm nyu
      have h2 : (u == z) = false := by simpa using Ne.symm nzu
      exact ⟨hr3, m, e, rfl, hk3, by simp [List.lookup, h1, h2], hs3⟩
    | j + 3, h => simp at h
end L2

namespace L2
open PySem PySem.Spec PyProof.Rows
/-! ### xs.count(z) -/
section
variable {X : Cx}
end
/-! ### xs[::-1] -/
section
variable {prog : Program} {w : World} {A : Around} {E : Value → Shared → Prop} {s : Shared}
end
section
variable {X : Cx} {e k : Expr} {te tk : TE} {pos p2 : Pos}
end
/-! ### max(t, default=d), t a tuple of ints -/
section
variable {prog : Program} {w : World} {A : Around} {R : Result → Shared → Prop} {I S : Addr} {fp wr : List Addr} {n : Nat} {P : Nat → Value → Prop} {St : Nat → Heap → Prop} {g : Nat → Int} {kw : List (Str × Value)}
end
section
variable {X : Cx} {e k : Expr} {te tk : TE} {pos p1 kp : Pos}
end
end L2

namespace L2
open PySem PySem.Spec PyProof.Rows
/-! ### enumerate of a tuple -/
section
variable {prog : Program} {w : World} {A : Around} {E : Value → Shared → Prop} {s : Shared}
end
open AutoSeq1 (wpAny_loadPart') in
set_option maxHeartbeats 1000000 in
section
variable {prog : Program} {w : World} {A : Around} {E : Value → Shared → Prop} {s : Shared}
end
section
variable {X : Cx} {elts : List Expr} {k : Nat} {tpos : Pos}
end
end L2

namespace L2
open PySem PySem.Spec PyProof.Rows
/-! ### for x in reversed(xs), xs a list -/
section
variable {X : Cx} {tg : Expr}
end
end L2
namespace L2
open PySem PySem.Spec PyProof.Rows
section
variable {X : Cx} {o e : Expr} {es : List Expr} {to ta : TE} {t : TA} {T id : String} {name f : Str} {r : V → List V → Hp → VK → Prop} {apos cpos pos : Pos}
theorem pe_bmK (K : PySem.W.Frag) (pa : PlainAttrs T) (slot : Slot T name id) (hty : typeOf (.builtin id) = pure (.type "method_descriptor")) (hm : MtR X id r) (ho : PE X o to) (ha : PA X (e :: es) t) (hK : X.K = K := by rfl)
    (hbase : attributeBase o name X.env (eval o X.env) = eval o X.env := by rfl)
    (hfew : ((backTo cpos (starEach (e :: es) X.env)).all (fun x => !x.1) && (backToKw cpos (keywordEach [] X.env)).all (fun x => x.1.isSome) && decide ((e :: es).length + ([] : List Keyword).length + (if ([] : List Keyword).isEmpty then 0 else 1) < 30)) = true := by rfl)
    (hline : (apos.endLine == cpos.line) = true := by rfl) (hs : starEach (e :: es) X.env = (false, eval e X.env) :: starEach es X.env := by rfl) (hplain : (backTo cpos (starEach es X.env)).any (·.1) = false := by rfl) :
    PE X (.Call (.Attribute o name apos) (e :: es) [] cpos) (tBM K T r to t) := by subst hK; exact pe_bm pa slot hty hm ho ha hbase hfew hline hs hplain
end
end L2

namespace L2
open PySem PySem.Spec PyProof.Rows
/-! ### a comprehension whose own name another one within it sees -/
@[reducible] def cxCompO (X : Cx) (x : Str) (N : List Str) (scope : Scope) (cl : List (Str × Addr)) (s : Shared) (H : Hp) (fp : List Addr) : Cx where
  prog := X.prog
  w := X.w
  K := X.K
  mg := X.mg
  base := X.base
  A := X.A
  N := x :: N
  s₀ := s
  H₀ := H
  env := compEnvC scope ((x, s.heap.objs.size + 1) :: cl) s.heap.objs.size X.env
  outer := X.stack
  stack := X.stack
  ex := fp
  fn := fun y => y == x
  calm := X.calm
  pn := []
  xe := fun _ _ => False
structure CompScopeO (X : Cx) (x : Str) (N : List Str) (ix : List Nat) (scope : Scope) (cl : List (Str × Addr)) : Prop where
  clos : closureFor scope X.env = pure cl
  lay : ∀ (n : Addr) (h : Heap), cellsFrom n scope.names cl = (x, n) :: cl ∧ pushCells h scope.names = h.push { cls := .type "cell", data := .cell none }
  kind : scope.kind = .function
  names : ∀ y ∈ scope.names, y.2 = .local → scope.names.lookup y.1 = some .local
  own : (relabel scope X.env).names.lookup x = some .cell
  nd : (x :: N).Nodup
  sub : ∀ p ∈ cl, X.env.cells.lookup p.1 = some p.2
  has : ((relabel scope X.env).names.all fun p => !(p.2 == .cell || p.2 == .free) || (p.1 == x || (cl.lookup p.1).isSome)) = true
  outs : ∀ (j : Nat) (y : Str), N[j]? = some y → (relabel scope X.env).names.lookup y = some .cell ∧ ∃ k c, ix[j]? = some k ∧ X.N[k]? = some y ∧ cl.lookup y = some c ∧ X.env.scope.names.lookup y = some .cell
section
variable {X : Cx} {pins : List (Addr × Obj)} {σ : St} {x : Str} {N : List Str} {ix : List Nat} {scope : Scope} {cl : List (Str × Addr)} {fp : List Addr} {H3 : Hp} {s3 : Shared}
end
section
variable {M : Model} {A : Around} {E : Value → Shared → Prop} {s : Shared}
end
section
variable {X : Cx} {x : Str} {N : List Str} {ix : List Nat} {scope : Scope} {cl : List (Str × Addr)} {elt iter : Expr} {ifs : List Expr} {px pos : Pos} {wi : TI} {tb : TBl}
end
end L2

namespace L2
open PySem PySem.Spec PyProof.Rows
theorem CompScope.four {X : Cx} {x y z u v : Str} {scope : Scope} {k l m n : Nat} {c d e g : Addr} {cl : List (Str × Addr)} (c1 : closureFor scope X.env = pure cl) (c2 : ∀ y ∈ scope.names, y.2 ≠ .cell) (c3 : scope.kind = .function) (c4 : ∀ y ∈ scope.names, y.2 = .local → scope.names.lookup y.1 = some .local)
    (c5 : scope.names.lookup x = some .local) (nd : [x, y, z, u, v].Nodup) (hcl : cl = [(y, c), (z, d), (u, e), (v, g)]) (hc : X.env.cells.lookup y = some c) (hd : X.env.cells.lookup z = some d) (he : X.env.cells.lookup u = some e) (hg : X.env.cells.lookup v = some g) (c6 : ((relabel scope X.env).names.all fun p => !(p.2 == .cell || p.2 == .free) || (cl.lookup p.1).isSome) = true)
    (hr : (relabel scope X.env).names.lookup y = some .cell) (hk : X.N[k]? = some y) (hs : X.env.scope.names.lookup y = some .cell)
    (hr2 : (relabel scope X.env).names.lookup z = some .cell) (hk2 : X.N[l]? = some z) (hs2 : X.env.scope.names.lookup z = some .cell)
    (hr3 : (relabel scope X.env).names.lookup u = some .cell) (hk3 : X.N[m]? = some u) (hs3 : X.env.scope.names.lookup u = some .cell)
    (hr4 : (relabel scope X.env).names.lookup v = some .cell) (hk4 : X.N[n]? = some v) (hs4 : X.env.scope.names.lookup v = some .cell) : CompScope X x [y, z, u, v] [k, l, m, n] scope cl where
  clos := c1
  nocell := c2
  kind := c3
  names := c4
  own := c5
  nd := nd
  sub := fun p hp => by
    subst hcl
    rcases List.mem_cons.mp hp with h | h
    · rw [h]; assumption
    · rcases List.mem_cons.mp h with h | h
      · rw [h]; assumption
      · rcases List.mem_cons.mp h with h | h
        · rw [h]; assumption
        · rw [List.mem_singleton.mp h]; assumption
  has := c6
  outs := fun j w h => by
    have nyz : y ≠ z := fun e => by simp [e] at nd
    have nyu : y ≠ u := fun e => by simp [e] at nd
    have nyv : y ≠ v := fun e => by simp [e] at nd
    have nzu : z ≠ u := fun e => by simp [e] at nd
    have nzv : z ≠ v := fun e => by simp [e] at nd
    have nuv : u ≠ v := fun e => by simp [e] at nd
    subst hcl
    match j, h with
    | 0, h =>
      have e : y = w := Option.some.inj h
      subst e
      exact ⟨hr, k, c, rfl, hk, by simp [List.lookup], hs⟩
    | 1, h =>
      have e : z = w := Option.some.inj h
      subst e
      have : (z == y) = false := by simpa using Ne.symm nyz
      exact ⟨hr2, l, d, rfl, hk2, by simp [List.lookup, this], hs2⟩
    | 2, h =>
      have ew : u = w := Option.some.inj h
      subst ew
      have h1 : (u == y) = false := by simpa using Ne.symm nyu
      have h2 : (u == z) = false := by simpa using Ne.symm nzu
      exact ⟨hr3, m, e, rfl, hk3, by simp [List.lookup, h1, h2], hs3⟩
    | 3, h =>
      have ew : v = w := Option.some.inj h
      subst ew
      have h1 : (v == y) = false := by simpa using Ne.symm nyv
      have h2 : (v == z) = false := by simpa using Ne.symm nzv
      have h3 : (v == u) = false := by simpa using Ne.symm nuv
      exact ⟨hr4, n, g, rfl, hk4, by simp [List.lookup, h1, h2, h3], hs4⟩
    | j + 4, h => simp at h
end L2

namespace L2
open PySem PySem.Spec PyProof.Rows
/-! ### range(a, b, c) of a step above 0 -/
section
variable {X : Cx} {tg : Expr}
end
end L2

namespace L2
open PySem PySem.Spec PyProof.Rows
section
variable {X : Cx}
/-! ### list(range(b)), sorted(xs) -/
def tListRng1 (ta : TA) : TE := fun σ H Q => ta σ H fun vs H1 => ∃ j : Int, vs = [.int j] ∧ 0 ≤ j ∧ j ≤ 1000 ∧ ∀ p, H1 p = none → Q (.ref p) (upd H1 p (.lst ((rngV 0 j.toNat).map V.int)))
theorem pe_listrng1 {a : Expr} {ta : TA} {p1 p2 pos1 pos2 : Pos} (hc : X.calm = true) (hg1 : Gl X "list") (hm1 : X.mg "list" = none) (hg2 : Gl X "range") (hm2 : X.mg "range" = none) (ha : PA X [a] ta)
    (hs1 : starEach [(.Call (.Name "range" p2) [a] [] pos2 : Expr)] X.env = [(false, eval (.Call (.Name "range" p2) [a] [] pos2) X.env)] := by rfl) (hs : starEach [a] X.env = [(false, eval a X.env)] := by rfl) :
    PE X (.Call (.Name "list" p1) [.Call (.Name "range" p2) [a] [] pos2] [] pos1) (tListRng1 ta) := by
  intro pins s σ H Q I h
  refine wpAny_Call_Name_kw (ld_blt I hg1 hm1 boot_list' ?_)
  refine PyProof.Rows.callWith_type1 ?_ hs1 rfl
  rw [hs1]
  show wpAny _ _ (spliced ((false, eval (.Call (.Name "range" p2) [a] [] pos2) X.env) :: backTo pos1 (starEach [] X.env))) _ _ s
  have step : wpAny (model X.prog X.w) X.A (eval (.Call (.Name "range" p2) [a] [] pos2) X.env) (fun v s1 => ∃ (r : Addr) (j : Int) (t u k : Tok) (H1 : Hp), v = .ref r ∧ Inv X pins σ H1 s1 ∧ IsRange s1.heap r 0 j 1 t u k ∧ 0 ≤ j ∧ j ≤ 1000 ∧
      ∀ p, H1 p = none → Q (.ref p) (upd H1 p (.lst ((rngV 0 j.toNat).map V.int)))) X.xe s := by
    refine Call_ (ld_blt I hg2 hm2 boot_range (PyProof.Rows.callWith_type1 (thn (ha pos2 pins s σ H _ I h) fun us s1 ⟨vs, H1, I1, r1, q1⟩ => ?_) hs rfl))
    obtain ⟨j, e, q1, q2, q⟩ := q1
    subst e
    cases r1 with
    | cons r rr =>
      cases rr
      obtain ⟨t, rfl⟩ := r
      refine call_range_1 ⟨_, j, _, _, _, H1, rfl, I1.kept fun b o e => Heap.get?_push_of_some _ e, IsRange.new .., q1, q2, q⟩
  refine Calls.spliced_cons (thn step fun v s1 hv => ?_)
  obtain ⟨r, j, t, u, k, H1, rfl, I1, hr, j0, hle, q⟩ := hv
  refine Calls.spliced_nil ?_
  have e2 : Builtin.Range.rangeSize 0 j 1 = ((j.toNat : Nat) : Int) := by rw [rangeSize_one]; split <;> omega
  refine call_list_range (I1.ok.hd hc) hr (small_one (by decide) (by decide) (by omega) (by omega)) e2 (by omega) fun h' tk acc' c' hk hS hacc => ?_
  obtain ⟨acc, rfl⟩ : ∃ acc : List Value, acc' = acc.toArray := ⟨acc'.toList, by simp⟩
  have rr := rng_items hacc
  have I2 : Inv X pins σ (upd H1 s1.heap.objs.size (.lst ((rngV 0 j.toNat).map V.int))) { s1 with heap := h', toks := tk } := by
    refine I1.turnedNew (ch := []) (fun b ob _ eb => hk b ob eb) (fun b hb => absurd hb (by simp)) (Nat.le_refl _) ⟨?_, acc, c', rr, hS⟩
    rw [List.length_map, rngV_len]
    exact small (by omega)
  exact ⟨.ref s1.heap.objs.size, _, I2, rfl, q _ (I1.hok.fresh (Nat.le_refl _))⟩
theorem ints_are : ∀ {ns : List Int} {us : List Value}, Vals (ns.map V.int) us → IntsAre us ns
  | [], _, .nil => .nil
  | _ :: _, _, .cons r t => by
    obtain ⟨k, rfl⟩ := r
    exact .cons _ _ (ints_are t)
theorem ints_vals : ∀ {ns : List Int} {us : List Value}, IntsAre us ns → Vals (ns.map V.int) us
  | _, _, .nil => .nil
  | _, _, .cons _ t h => .cons ⟨t, rfl⟩ (ints_vals h)
def rSorted (K : PySem.W.Frag) : List V → Hp → VK → Prop := fun xs H Q => ∃ a ns, xs = [.ref a] ∧ SqL K H a (ns.map V.int) ∧ ns.length < 64 ∧ ∀ p ms, H p = none → List.Perm ms ns → ms.Pairwise (· ≤ ·) → Q (.ref p) (upd H p (.lst (ms.map V.int)))
theorem call_sorted : CallR X (.builtin "sorted") (rSorted X.K) := by
  intro pins s σ H xs us Q I r h
  obtain ⟨a, ns, rfl, hq, hn, q⟩ := h
  obtain ⟨u, rfl, ru⟩ := vals1 r
  cases ru
  obtain ⟨its, r', p, hz⟩ := I.list hq
  have hl := r'.length
  rw [List.length_map] at hl
  refine sorted_ints p.isList (ints_are r') (by omega) fun out ns' a1 a2 a3 => ?_
  obtain ⟨e, he⟩ := sortedAll_at s.heap its out
  have l2 := a2.length_eq
  have I2 : Inv X pins σ (upd H (s.heap.objs.size + 1) (.lst (ns'.map V.int))) { s with heap := sortedAll s.heap its out } := by
    refine I.turnedNew (t' := s.toks) (ch := []) (fun b ob _ eb => sortedAll_old eb) (fun b hb => absurd hb (by simp)) (Nat.le_succ _) ⟨?_, out.toList, e, ints_vals a1, ?_⟩
    · rw [List.length_map]
      exact small (by omega)
    · rw [he]
  exact ⟨.ref _, _, I2, rfl, q _ ns' (I.hok.fresh (Nat.le_succ _)) a2 a3⟩
end
end L2

namespace Mine
/-- what the law's own trial division tells -/
def Pr (n : Int) : Prop := 2 ≤ n ∧ ∀ k : Int, 2 ≤ k → k ≤ 1000 → k * k ≤ n → n % k ≠ 0
def PrUpTo (n : Int) (j : Int) : Prop := ∀ k : Int, 2 ≤ k → k < j → k * k ≤ n ∧ n % k ≠ 0
theorem sq_le {a b : Int} (h0 : 0 ≤ a) (h : a ≤ b) : a * a ≤ b * b := Int.mul_le_mul h h h0 (Int.le_trans h0 h)
theorem pr_big {n k : Int} (h2 : 2 ≤ n) (h0 : 2 ≤ k) (u : PrUpTo n k) (h : n < k * k) : Pr n := by
  refine ⟨h2, fun j j2 _ js => ?_⟩
  by_cases c : j < k
  · exact (u j j2 c).2
  · have := sq_le (a := k) (b := j) (by omega) (by omega)
    omega
theorem pr_all {n : Int} (h2 : 2 ≤ n) (u : PrUpTo n 1001) : Pr n := ⟨h2, fun j j2 j3 _ => (u j j2 (by omega)).2⟩
theorem pr_not {n k : Int} (h0 : 2 ≤ k) (h1 : k ≤ 1000) (hs : k * k ≤ n) (h : n % k = 0) : ¬ Pr n := fun p => p.2 k h0 h1 hs h
theorem upTo_start (n : Int) : PrUpTo n 2 := fun k a b => by omega
theorem upTo_next {n k : Int} (u : PrUpTo n k) (hs : k * k ≤ n) (h : n % k ≠ 0) : PrUpTo n (k + 1) := fun j a b => by
  by_cases c : j < k
  · exact u j a c
  · have e : j = k := by omega
    subst e; exact ⟨hs, h⟩
def prB (n : Int) : Bool := decide (2 ≤ n) && (List.range 999).all fun i => decide (n < ((i : Int) + 2) * ((i : Int) + 2)) || decide (n % ((i : Int) + 2) ≠ 0)
theorem pr_of_b {n : Int} (h : prB n = true) : Pr n := by
  unfold prB at h
  rw [Bool.and_eq_true] at h
  refine ⟨of_decide_eq_true h.1, fun k k2 k3 ks => ?_⟩
  have q := List.all_eq_true.mp h.2 (k.toNat - 2) (List.mem_range.mpr (by omega))
  have e : (((k.toNat - 2 : Nat) : Int) + 2) = k := by omega
  rw [e, Bool.or_eq_true] at q
  rcases q with q | q
  · have := of_decide_eq_true q; omega
  · exact of_decide_eq_true q
theorem pr_dvd {p d : Int} (h : Pr p) (hp : p < 1002001) (d0 : 1 < d) (d1 : d < p) (hd : d ∣ p) : False := by
  obtain ⟨e, he⟩ := hd
  have e0 : 1 < e := by
    by_cases c : e ≤ 1
    · have : d * e ≤ d * 1 := Int.mul_le_mul_of_nonneg_left c (by omega)
      omega
    · omega
  by_cases c : d ≤ e
  · have s : d * d ≤ p := by
      have := Int.mul_le_mul_of_nonneg_left c (show (0:Int) ≤ d by omega)
      omega
    have t : d ≤ 1000 := by
      by_cases c2 : 1001 ≤ d
      · have := sq_le (a := 1001) (b := d) (by omega) c2
        omega
      · omega
    refine h.2 d (by omega) t s ?_
    rw [he]; exact Int.mul_emod_right d e
  · have c' : e ≤ d := by omega
    have s : e * e ≤ p := by
      have := Int.mul_le_mul_of_nonneg_right c' (show (0:Int) ≤ e by omega)
      omega
    have t : e ≤ 1000 := by
      by_cases c2 : 1001 ≤ e
      · have := sq_le (a := 1001) (b := e) (by omega) c2
        omega
      · omega
    refine h.2 e (by omega) t s ?_
    rw [he, Int.mul_comm]; exact Int.mul_emod_right e d
/-- no number but 1 divides both -/
def Cop (x y : Int) : Prop := ∀ d : Int, 0 < d → d ∣ x → d ∣ y → d = 1
theorem cop_pr {p a : Int} (h : Pr p) (hp : p < 1002001) (a0 : 0 < a) (a1 : a < p) : Cop p a := fun d d0 h1 h2 => by
  have := Int.le_of_dvd a0 h2
  by_cases c : 1 < d
  · exact (pr_dvd h hp c (by omega) h1).elim
  · omega
/-- Euclid's steps -/
structure Eu (a p former ff rest f : Int) : Prop where
  r0 : 0 < rest
  rp : rest < p
  fr : rest < former
  f0 : 0 ≤ f
  f1 : f < p
  g0 : 0 ≤ ff
  g1 : ff < p
  cop : Cop former rest
  d1 : p ∣ former - a * ff
  d2 : p ∣ rest - a * f
theorem eu_start {a p : Int} (h : Pr p) (hp : p < 1002001) (a0 : 0 < a) (a1 : a < p) : Eu a p p 0 (a % p) 1 := by
  have e : a % p = a := Int.emod_eq_of_lt (by omega) a1
  rw [e]
  exact ⟨a0, a1, a1, by omega, by omega, by omega, by omega, cop_pr h hp a0 a1, by rw [Int.mul_zero, Int.sub_zero]; exact Int.dvd_refl p, by rw [Int.mul_one, Int.sub_self]; exact Int.dvd_zero p⟩
theorem eu_next {a p former ff rest f : Int} (E : Eu a p former ff rest f) (h1 : rest ≠ 1) : Eu a p rest f (former - former / rest * rest) ((ff - former / rest * f) % p) ∧ (former - former / rest * rest).toNat < rest.toNat := by
  have r0 := E.r0
  have rp := E.rp
  have em : former - former / rest * rest = former % rest := by
    have := Int.emod_add_mul_ediv former rest
    rw [Int.mul_comm] at this
    omega
  have l0 : 0 ≤ former % rest := Int.emod_nonneg _ (by omega)
  have l1 : former % rest < rest := Int.emod_lt_of_pos _ r0
  have cop' : Cop rest (former % rest) := fun d d0 x y => by
    refine E.cop d d0 ?_ x
    have := Int.emod_add_mul_ediv former rest
    rw [← this]
    exact Int.dvd_add y (Int.dvd_trans x (Int.dvd_mul_right _ _))
  have lz : former % rest ≠ 0 := fun z => by
    have := cop' rest r0 (Int.dvd_refl _) (by rw [z]; exact Int.dvd_zero _)
    exact h1 this
  rw [em]
  refine ⟨⟨by omega, by omega, l1, Int.emod_nonneg _ (by omega), Int.emod_lt_of_pos _ (by omega), E.f0, E.f1, cop', E.d2, ?_⟩, by omega⟩
  have q : p ∣ (former - a * ff) - former / rest * (rest - a * f) := Int.dvd_sub E.d1 (Int.dvd_trans E.d2 (Int.dvd_mul_left _ _))
  have q2 : p ∣ (ff - former / rest * f) - (ff - former / rest * f) % p := Int.dvd_self_sub_emod
  have q3 : p ∣ a * ((ff - former / rest * f) - (ff - former / rest * f) % p) := Int.dvd_trans q2 (Int.dvd_mul_left _ _)
  have q4 := Int.dvd_add q q3
  have e2 : former - a * ff - former / rest * (rest - a * f) + a * (ff - former / rest * f - (ff - former / rest * f) % p) = former % rest - a * ((ff - former / rest * f) % p) := by
    rw [← em]
    generalize former / rest = t
    generalize (ff - t * f) % p = u
    rw [Int.mul_sub, Int.mul_sub, Int.mul_sub, Int.mul_left_comm t a f]
    omega
  rw [e2] at q4
  exact q4
theorem eu_end {a p former ff rest f : Int} (E : Eu a p former ff rest f) (h1 : rest = 1) (hp : 1 < p) : 0 < f ∧ f < p ∧ f * a % p = 1 := by
  subst h1
  have d2 := E.d2
  have f0 := E.f0
  have hm : f * a % p = 1 := by
    obtain ⟨c, hc⟩ := d2
    have e : f * a = 1 + p * (-c) := by
      rw [Int.mul_comm f a, Int.mul_neg]; omega
    rw [e, Int.add_mul_emod_self_left]
    exact Int.emod_eq_of_lt (by omega) hp
  refine ⟨?_, E.f1, hm⟩
  by_cases c : f = 0
  · subst c; simp at hm
  · omega
end Mine

namespace Mine
end Mine

namespace Mine
end Mine

namespace Mine
/-- whatever p doesn't divide has an inverse -/
def Pm (p : Int) : Prop := 1 < p ∧ ∀ a : Int, ¬ p ∣ a → ∃ f : Int, p ∣ f * a - 1
theorem eu_run {a p : Int} (hp : 1 < p) : ∀ (n : Nat) {former ff rest f : Int}, rest.toNat ≤ n → Eu a p former ff rest f → ∃ g : Int, g * a % p = 1
  | 0, former, ff, rest, f, hn, E => by
    have := E.r0
    omega
  | n + 1, former, ff, rest, f, hn, E => by
    by_cases c : rest = 1
    · exact ⟨f, (eu_end E c hp).2.2⟩
    · obtain ⟨E2, lt⟩ := eu_next E c
      exact eu_run hp n (by omega) E2
theorem pm_of {p : Int} (h : Pr p) (hp : p < 1002001) : Pm p := by
  have p1 : 1 < p := by have := h.1; omega
  refine ⟨p1, fun a ha => ?_⟩
  have a0 : 0 < a % p := by
    have := Int.emod_nonneg a (show p ≠ 0 by omega)
    by_cases c : a % p = 0
    · exact absurd (Int.dvd_of_emod_eq_zero c) ha
    · omega
  have a1 : a % p < p := Int.emod_lt_of_pos _ (by omega)
  obtain ⟨g, hg⟩ := eu_run p1 _ (Nat.le_refl _) (eu_start h hp a0 a1)
  refine ⟨g, ?_⟩
  have e1 : g * a % p = 1 := by rw [← hg, Int.mul_emod g (a % p), Int.emod_emod, ← Int.mul_emod]
  have := Int.emod_add_mul_ediv (g * a) p
  exact ⟨g * a / p, by omega⟩
theorem Pm.mul {p a b : Int} (h : Pm p) (hd : p ∣ a * b) (ha : ¬ p ∣ a) : p ∣ b := by
  obtain ⟨f, k, hk⟩ := h.2 a ha
  obtain ⟨m, hm⟩ := hd
  exact ⟨f * m - k * b, by grind⟩
theorem Pm.not_mul {p a b : Int} (h : Pm p) (ha : ¬ p ∣ a) (hb : ¬ p ∣ b) : ¬ p ∣ a * b := fun z => hb (h.mul z ha)
/-- Pascal's numbers -/
def ch : Nat → Nat → Nat
  | _, 0 => 1
  | 0, _ + 1 => 0
  | n + 1, k + 1 => ch n k + ch n (k + 1)
theorem ch_zero (n : Nat) : ch n 0 = 1 := by cases n <;> rfl
theorem ch_big : ∀ (n k : Nat), n < k → ch n k = 0
  | 0, k + 1, _ => rfl
  | n + 1, k + 1, h => by
    show ch n k + ch n (k + 1) = 0
    rw [ch_big n k (by omega), ch_big n (k + 1) (by omega)]
theorem ch_self (n : Nat) : ch n n = 1 := by
  induction n with
  | zero => rfl
  | succ n ih =>
    show ch n n + ch n (n + 1) = 1
    rw [ih, ch_big n (n + 1) (by omega)]
theorem ch_abs : ∀ (n k : Nat), (k + 1) * ch (n + 1) (k + 1) = (n + 1) * ch n k
  | 0, 0 => rfl
  | 0, k + 1 => by
    show (k + 2) * (ch 0 (k + 1) + ch 0 (k + 2)) = 1 * ch 0 (k + 1)
    rw [ch_big 0 (k + 1) (by omega), ch_big 0 (k + 2) (by omega)]
    simp
  | n + 1, 0 => by
    have h := ch_abs n 0
    rw [ch_zero n] at h
    show (0 + 1) * (ch (n + 1) 0 + ch (n + 1) (0 + 1)) = (n + 1 + 1) * ch (n + 1) 0
    rw [ch_zero (n + 1)]
    omega
  | n + 1, k + 1 => by
    have h1 := ch_abs n k
    have h2 := ch_abs n (k + 1)
    show (k + 2) * (ch (n + 1) (k + 1) + ch (n + 1) (k + 2)) = (n + 2) * ch (n + 1) (k + 1)
    have e : ch (n + 1) (k + 1) = ch n k + ch n (k + 1) := rfl
    grind
/-- the sum of f 0 .. f (n - 1) -/
def sm (f : Nat → Int) : Nat → Int
  | 0 => 0
  | n + 1 => sm f n + f n
theorem sm_congr {f g : Nat → Int} : ∀ n, (∀ k, k < n → f k = g k) → sm f n = sm g n
  | 0, _ => rfl
  | n + 1, h => by
    show sm f n + f n = sm g n + g n
    rw [sm_congr n (fun k hk => h k (by omega)), h n (by omega)]
theorem sm_add (f g : Nat → Int) : ∀ n, sm (fun k => f k + g k) n = sm f n + sm g n
  | 0 => rfl
  | n + 1 => by
    show sm (fun k => f k + g k) n + (f n + g n) = (sm f n + f n) + (sm g n + g n)
    rw [sm_add f g n]
    omega
theorem sm_mul (c : Int) (f : Nat → Int) : ∀ n, sm (fun k => c * f k) n = c * sm f n
  | 0 => by simp [sm]
  | n + 1 => by
    show sm (fun k => c * f k) n + c * f n = c * (sm f n + f n)
    rw [sm_mul c f n]
    grind
theorem sm_front (f : Nat → Int) : ∀ n, sm f (n + 1) = f 0 + sm (fun k => f (k + 1)) n
  | 0 => by simp [sm]
  | n + 1 => by
    show sm f (n + 1) + f (n + 1) = f 0 + (sm (fun k => f (k + 1)) n + f (n + 1))
    rw [sm_front f n]
    omega
theorem sm_dvd {p : Int} {f : Nat → Int} : ∀ n, (∀ k, k < n → p ∣ f k) → p ∣ sm f n
  | 0, _ => ⟨0, by simp [sm]⟩
  | n + 1, h => Int.dvd_add (sm_dvd n fun k hk => h k (by omega)) (h n (by omega))
theorem binom (a : Int) : ∀ n : Nat, (a + 1) ^ n = sm (fun k => (ch n k : Int) * a ^ k) (n + 1)
  | 0 => by simp [sm, ch]
  | n + 1 => by
    have ih := binom a n
    rw [Int.pow_succ, ih, sm_front (fun k => ((ch (n + 1) k : Nat) : Int) * a ^ k) (n + 1)]
    have e1 : sm (fun k => ((ch (n + 1) (k + 1) : Nat) : Int) * a ^ (k + 1)) (n + 1) = a * sm (fun k => (ch n k : Int) * a ^ k) (n + 1) + sm (fun k => (ch n (k + 1) : Int) * a ^ (k + 1)) (n + 1) := by
      rw [← sm_mul, ← sm_add]
      refine sm_congr _ fun k _ => ?_
      have : ch (n + 1) (k + 1) = ch n k + ch n (k + 1) := rfl
      rw [this, Int.natCast_add, Int.pow_succ]
      grind
    have e2 : sm (fun k => (ch n k : Int) * a ^ k) (n + 1) = 1 + sm (fun k => (ch n (k + 1) : Int) * a ^ (k + 1)) (n + 1) := by
      rw [sm_front]
      have : sm (fun k => (ch n (k + 1) : Int) * a ^ (k + 1)) (n + 1) = sm (fun k => (ch n (k + 1) : Int) * a ^ (k + 1)) n := by
        show _ + (ch n (n + 1) : Int) * a ^ (n + 1) = _
        rw [ch_big n (n + 1) (by omega)]
        simp
      rw [this, ch_zero]
      simp
    rw [e1, ch_zero]
    grind
theorem ch_dvd {p : Int} (h : Pm p) {n k : Nat} (hn : (n : Int) + 1 = p) (hk : k < n) : p ∣ ((ch (n + 1) (k + 1) : Nat) : Int) := by
  have e : ((k : Int) + 1) * ((ch (n + 1) (k + 1) : Nat) : Int) = p * ((ch n k : Nat) : Int) := by
    have := ch_abs n k
    rw [← hn]
    exact_mod_cast this
  refine h.mul (a := (k : Int) + 1) ⟨_, e⟩ fun hd => ?_
  have := Int.le_of_dvd (by omega) hd
  omega
theorem fermat_nat {p : Int} (h : Pm p) : ∀ a : Nat, p ∣ (a : Int) ^ p.toNat - a
  | 0 => by
    have : p.toNat ≠ 0 := by have := h.1; omega
    simp [Int.zero_pow this]
  | a + 1 => by
    have ih := fermat_nat h a
    obtain ⟨n, hn⟩ : ∃ n : Nat, p.toNat = n + 1 := ⟨p.toNat - 1, by have := h.1; omega⟩
    have hp : (n : Int) + 1 = p := by have := h.1; omega
    rw [hn] at ih ⊢
    have b := binom (a : Int) (n + 1)
    have e : sm (fun k => (ch (n + 1) k : Int) * (a : Int) ^ k) (n + 1 + 1) = sm (fun k => (ch (n + 1) (k + 1) : Int) * (a : Int) ^ (k + 1)) n + (a : Int) ^ (n + 1) + 1 := by
      rw [sm_front]
      show _ + (sm _ n + (ch (n + 1) (n + 1) : Int) * (a : Int) ^ (n + 1)) = _
      rw [ch_self, ch_zero]
      simp
      omega
    have d : p ∣ sm (fun k => (ch (n + 1) (k + 1) : Int) * (a : Int) ^ (k + 1)) n := sm_dvd n fun k hk => Int.dvd_mul_of_dvd_left (ch_dvd h hp hk)
    obtain ⟨u, hu⟩ := ih
    obtain ⟨v, hv⟩ := d
    refine ⟨u + v, ?_⟩
    rw [Int.natCast_add]
    show ((a : Int) + 1) ^ (n + 1) - ((a : Int) + 1) = _
    rw [b, e]
    grind
theorem fermat {p a : Int} (h : Pm p) (ha : ¬ p ∣ a) (a0 : 0 ≤ a) : p ∣ a * a ^ (p - 2).toNat - 1 := by
  obtain ⟨n, hn⟩ : ∃ n : Nat, p.toNat = n + 2 := ⟨p.toNat - 2, by have := h.1; omega⟩
  have e : (p - 2).toNat = n := by omega
  have f := fermat_nat h a.toNat
  rw [Int.toNat_of_nonneg a0, hn] at f
  rw [e]
  have g : a ^ (n + 2) - a = a * (a * a ^ n - 1) := by
    rw [Int.pow_succ, Int.pow_succ]
    grind
  rw [g] at f
  exact h.mul f ha
/-- f is a rule of at most n numbers -/
def IsPoly : Nat → (Int → Int) → Prop
  | 0, f => ∀ x, f x = 0
  | n + 1, f => ∃ (a : Int) (g : Int → Int), IsPoly n g ∧ ∀ x, f x = a + x * g x
theorem IsPoly.congr : ∀ {n : Nat} {f g : Int → Int}, IsPoly n f → (∀ x, g x = f x) → IsPoly n g
  | 0, _, _, h, e => fun x => (e x).trans (h x)
  | _ + 1, _, _, ⟨a, k, hk, h⟩, e => ⟨a, k, hk, fun x => (e x).trans (h x)⟩
theorem IsPoly.zero : ∀ n : Nat, IsPoly n fun _ => 0
  | 0 => fun _ => rfl
  | n + 1 => ⟨0, fun _ => 0, IsPoly.zero n, fun x => by simp⟩
theorem IsPoly.up : ∀ {n : Nat} {f : Int → Int}, IsPoly n f → IsPoly (n + 1) f
  | 0, f, h => ⟨0, fun _ => 0, fun _ => rfl, fun x => by rw [h x]; simp⟩
  | n + 1, f, ⟨a, g, hg, h⟩ => ⟨a, g, hg.up, h⟩
theorem IsPoly.upTo {n : Nat} {f : Int → Int} (h : IsPoly n f) : ∀ m, n ≤ m → IsPoly m f := fun m hm => by
  obtain ⟨k, rfl⟩ : ∃ k, m = n + k := ⟨m - n, by omega⟩
  clear hm
  induction k with
  | zero => exact h
  | succ k ih => exact ih.up
theorem IsPoly.add : ∀ {n : Nat} {f g : Int → Int}, IsPoly n f → IsPoly n g → IsPoly n fun x => f x + g x
  | 0, f, g, h, k => fun x => by show f x + g x = 0; rw [h x, k x]; rfl
  | n + 1, f, g, ⟨a, u, hu, h⟩, ⟨b, v, hv, k⟩ => ⟨a + b, fun x => u x + v x, hu.add hv, fun x => by show f x + g x = a + b + x * (u x + v x); rw [h x, k x]; grind⟩
theorem IsPoly.mul (c : Int) : ∀ {n : Nat} {f : Int → Int}, IsPoly n f → IsPoly n fun x => c * f x
  | 0, f, h => fun x => by show c * f x = 0; rw [h x]; simp
  | n + 1, f, ⟨a, u, hu, h⟩ => ⟨c * a, fun x => c * u x, hu.mul c, fun x => by show c * f x = c * a + x * (c * u x); rw [h x]; grind⟩
theorem IsPoly.lin {n : Nat} {f : Int → Int} (h : IsPoly n f) (r : Int) : IsPoly (n + 1) fun x => (x - r) * f x := by
  have h1 : IsPoly (n + 1) fun x => x * f x := ⟨0, f, h, fun x => by simp⟩
  exact (h1.add (h.up.mul (-r))).congr fun x => by grind
theorem IsPoly.div : ∀ {n : Nat} {f : Int → Int}, IsPoly (n + 1) f → ∀ r : Int, ∃ q, IsPoly n q ∧ ∀ x, f x - f r = (x - r) * q x
  | 0, f, ⟨a, g, hg, h⟩, r => ⟨fun _ => 0, fun _ => rfl, fun x => by rw [h x, h r, hg x, hg r]; simp⟩
  | n + 1, f, ⟨a, g, hg, h⟩, r => by
    obtain ⟨q, hq, e⟩ := IsPoly.div hg r
    refine ⟨fun x => g x + r * q x, hg.add (hq.up.mul r), fun x => ?_⟩
    have := e x
    rw [h x, h r]
    grind
/-- a rule of at most n numbers with n roots, no two alike in the field, is 0 everywhere -/
theorem IsPoly.roots {p : Int} (hp : Pm p) : ∀ {n : Nat} {f : Int → Int} (rs : List Int), IsPoly n f → rs.length = n → rs.Pairwise (fun a b => ¬ p ∣ b - a) → (∀ r ∈ rs, p ∣ f r) → ∀ x, p ∣ f x
  | 0, f, _, h, _, _, _, x => ⟨0, by rw [h x]; simp⟩
  | n + 1, f, [], _, hl, _, _, _ => by simp at hl
  | n + 1, f, r :: rs, h, hl, hd, hr, x => by
    obtain ⟨q, hq, e⟩ := h.div r
    have hd' := List.pairwise_cons.mp hd
    have z := IsPoly.roots hp rs hq (by simpa using hl) hd'.2 (fun s hs => by
      have h1 : p ∣ (s - r) * q s := by
        rw [← e s]
        exact Int.dvd_sub (hr s (List.mem_cons_of_mem _ hs)) (hr r List.mem_cons_self)
      exact hp.mul h1 (hd'.1 s hs)) x
    have : f x = f r + (x - r) * q x := by have := e x; omega
    rw [this]
    exact Int.dvd_add (hr r List.mem_cons_self) (Int.dvd_mul_of_dvd_right z)
end Mine

namespace Mine
/-- the product of g 0 .. g (n - 1) -/
def pr (g : Nat → Int) : Nat → Int
  | 0 => 1
  | n + 1 => pr g n * g n
theorem pr_congr {f g : Nat → Int} : ∀ n, (∀ k, k < n → f k = g k) → pr f n = pr g n
  | 0, _ => rfl
  | n + 1, h => by
    show pr f n * f n = pr g n * g n
    rw [pr_congr n (fun k hk => h k (by omega)), h n (by omega)]
theorem pr_front (g : Nat → Int) : ∀ n, pr g (n + 1) = g 0 * pr (fun k => g (k + 1)) n
  | 0 => by simp [pr]
  | n + 1 => by
    show pr g (n + 1) * g (n + 1) = g 0 * (pr (fun k => g (k + 1)) n * g (n + 1))
    rw [pr_front g n, Int.mul_assoc]
/-- the product of x - j over all j below n but i -/
def px (x : Int) (i : Nat) : Nat → Int
  | 0 => 1
  | n + 1 => if n = i then px x i n else px x i n * (x - n)
theorem px_poly (i : Nat) : ∀ n, IsPoly (if i < n then n else n + 1) fun x => px x i n
  | 0 => ⟨1, fun _ => 0, fun _ => rfl, fun x => by simp [px]⟩
  | n + 1 => by
    have ih := px_poly i n
    by_cases c : n = i
    · subst c
      rw [if_neg (Nat.lt_irrefl n)] at ih
      rw [if_pos (Nat.lt_succ_self n)]
      exact ih.congr fun x => by simp [px]
    · have e : ∀ x, px x i (n + 1) = (x - n) * px x i n := fun x => by
        show (if n = i then px x i n else px x i n * (x - n)) = _
        rw [if_neg c, Int.mul_comm]
      by_cases c2 : i < n
      · rw [if_pos c2] at ih
        rw [if_pos (by omega)]
        exact (ih.lin n).congr e
      · rw [if_neg c2] at ih
        rw [if_neg (by omega)]
        exact (ih.lin n).congr e
theorem px_zero {k i : Nat} (h : k ≠ i) : ∀ n, k < n → px (k : Int) i n = 0
  | n + 1, hk => by
    show (if n = i then px (k : Int) i n else px (k : Int) i n * ((k : Int) - n)) = 0
    by_cases c : n = i
    · rw [if_pos c]
      exact px_zero h n (by omega)
    · rw [if_neg c]
      by_cases c2 : k = n
      · subst c2
        simp
      · rw [px_zero h n (by omega)]
        simp
/-- what the rule of the values v with the weights u tells at x -/
def lag (v u : Nat → Int) (n : Nat) (x : Int) : Int := sm (fun i => v i * px x i n * u i) n
theorem sm_poly {n m : Nat} {f : Nat → Int → Int} : (∀ i, i < m → IsPoly n (f i)) → IsPoly n fun x => sm (fun i => f i x) m := by
  induction m with
  | zero => exact fun _ => IsPoly.zero n
  | succ m ih => exact fun h => (ih fun i hi => h i (by omega)).add (h m (by omega))
theorem lag_poly (v u : Nat → Int) (n : Nat) : IsPoly n (lag v u n) := sm_poly fun i hi => by
  have h := px_poly i n
  rw [if_pos hi] at h
  exact (h.mul (v i * u i)).congr fun x => by grind
theorem sm_one {f : Nat → Int} {k : Nat} : ∀ n, k < n → (∀ i, i < n → i ≠ k → f i = 0) → sm f n = f k
  | n + 1, hk, h => by
    show sm f n + f n = f k
    by_cases c : k = n
    · subst c
      have z : sm f k = 0 := by
        have : sm f k = sm (fun _ => 0) k := sm_congr k fun i hi => h i (by omega) (by omega)
        rw [this]
        clear this h hk
        induction k with
        | zero => rfl
        | succ k ih => show sm (fun _ => 0) k + 0 = 0; rw [ih]; rfl
      rw [z]
      simp
    · rw [sm_one n (by omega) (fun i hi => h i (by omega)), h n (by omega) (by omega)]
      simp
/-- the weights that do -/
def Wgt (p : Int) (n : Nat) (u : Nat → Int) : Prop := ∀ i, i < n → p ∣ px (i : Int) i n * u i - 1
theorem lag_at {p : Int} {v u : Nat → Int} {n k : Nat} (hu : Wgt p n u) (hk : k < n) : p ∣ lag v u n k - v k := by
  unfold lag
  rw [sm_one n hk fun i hi hne => by rw [px_zero (Ne.symm hne) n hk]; simp]
  obtain ⟨m, hm⟩ := hu k hk
  exact ⟨v k * m, by grind⟩
theorem far {p : Int} {n : Nat} (hn : (n : Int) ≤ p) : ((List.range n).map fun k : Nat => (k : Int)).Pairwise fun a b => ¬ p ∣ b - a := by
  rw [List.pairwise_map]
  refine List.Pairwise.imp_of_mem (fun {a b} ha hb h => ?_) List.pairwise_lt_range
  intro d
  have := Int.le_of_dvd (by omega) d
  have hb' := List.mem_range.mp hb
  omega
/-- two rules of at most n numbers that are alike at 0 .. n - 1 are alike everywhere -/
theorem alike {p : Int} (hp : Pm p) {n : Nat} (hn : (n : Int) ≤ p) {f g : Int → Int} (hf : IsPoly n f) (hg : IsPoly n g) (h : ∀ k : Nat, k < n → p ∣ f k - g k) (x : Int) : p ∣ f x - g x := by
  have hd : IsPoly n fun x => f x - g x := (hf.add (hg.mul (-1))).congr fun x => by grind
  refine hd.roots hp ((List.range n).map fun k : Nat => (k : Int)) (by simp) (far hn) (fun r hr => ?_) x
  obtain ⟨k, hk, rfl⟩ := List.mem_map.mp hr
  exact h k (List.mem_range.mp hk)
theorem lag_rule {p : Int} (hp : Pm p) {n : Nat} (hn : (n : Int) ≤ p) {v u : Nat → Int} {P : Int → Int} (hu : Wgt p n u) (hP : IsPoly n P) (h : ∀ k : Nat, k < n → p ∣ v k - P k) (x : Int) : p ∣ lag v u n x - P x :=
  alike hp hn (lag_poly v u n) hP (fun k hk => by
    have h1 := lag_at (v := v) hu hk
    have h2 := h k hk
    have : lag v u n k - P k = (lag v u n k - v k) + (v k - P k) := by omega
    rw [this]
    exact Int.dvd_add h1 h2) x
theorem lag_same {p : Int} (hp : Pm p) {n : Nat} (hn : (n : Int) ≤ p) {v u u' : Nat → Int} (hu : Wgt p n u) (hu' : Wgt p n u') (x : Int) : p ∣ lag v u n x - lag v u' n x :=
  lag_rule hp hn hu (lag_poly v u' n) (fun k hk => by
    obtain ⟨m, hm⟩ := lag_at (v := v) hu' hk
    exact ⟨-m, by grind⟩) x
/-- the product parted at i -/
theorem px_split (x : Int) (i : Nat) : ∀ m, px x i (i + 1 + m) = pr (fun j => x - j) i * pr (fun j => x - (i + 1 + j : Nat)) m
  | 0 => by
    have h : ∀ k, k ≤ i → px x i k = pr (fun j => x - j) k := fun k => by
      induction k with
      | zero => exact fun _ => rfl
      | succ k ih =>
        intro hk
        show (if k = i then px x i k else px x i k * (x - k)) = pr (fun j => x - j) k * (x - k)
        rw [if_neg (by omega), ih (by omega)]
    show (if i = i then px x i i else _) = _ * 1
    rw [if_pos rfl, h i (Nat.le_refl _), Int.mul_one]
  | m + 1 => by
    show (if i + 1 + m = i then _ else px x i (i + 1 + m) * (x - (i + 1 + m : Nat))) = pr (fun j => x - j) i * (pr (fun j => x - (i + 1 + j : Nat)) m * (x - (i + 1 + m : Nat)))
    rw [if_neg (by omega), px_split x i m, Int.mul_assoc]
theorem pr_turn (x : Int) (i : Nat) : ∀ m, pr (fun j => x - (i + m : Nat) + j) m = pr (fun j => x - (i + 1 + j : Nat)) m
  | 0 => rfl
  | m + 1 => by
    rw [pr_front]
    show _ = pr (fun j => x - (i + 1 + j : Nat)) m * (x - (i + 1 + m : Nat))
    have e : pr (fun k => x - (i + (m + 1) : Nat) + (k + 1 : Nat)) m = pr (fun j => x - (i + m : Nat) + j) m := pr_congr m fun k _ => by omega
    rw [e, pr_turn x i m, Int.mul_comm]
    congr 1
    omega
def fac : Nat → Int
  | 0 => 1
  | n + 1 => fac n * ((n : Int) + 1)
theorem fac_down : ∀ n : Nat, pr (fun j => (n : Int) - j) n = fac n
  | 0 => rfl
  | n + 1 => by
    rw [pr_front]
    have e : pr (fun k => ((n + 1 : Nat) : Int) - (k + 1 : Nat)) n = pr (fun j => (n : Int) - j) n := pr_congr n fun k _ => by omega
    rw [e, fac_down n]
    show ((n + 1 : Nat) - (0 : Nat) : Int) * fac n = fac n * ((n : Int) + 1)
    rw [Int.mul_comm]
    congr 1
theorem fac_neg (i : Nat) : ∀ m : Nat, pr (fun j => (i : Int) - (i + 1 + j : Nat)) m = (-1) ^ m * fac m
  | 0 => rfl
  | m + 1 => by
    show pr _ m * ((i : Int) - (i + 1 + m : Nat)) = (-1) ^ (m + 1) * (fac m * ((m : Int) + 1))
    rw [fac_neg i m, Int.pow_succ]
    have : ((i : Int) - (i + 1 + m : Nat)) = -((m : Int) + 1) := by omega
    rw [this]
    grind
theorem px_own (i m : Nat) : px (i : Int) i (i + 1 + m) = fac i * ((-1) ^ m * fac m) := by rw [px_split, fac_down, fac_neg]
/-- last times last - 1 .., k of them, times what is left -/
theorem fac_part : ∀ (k d : Nat), fac d * pr (fun j => ((d + k : Nat) : Int) - j) k = fac (d + k)
  | 0, d => by simp [pr]
  | k + 1, d => by
    have ih := fac_part k (d + 1)
    rw [show d + 1 + k = d + (k + 1) by omega] at ih
    rw [← ih]
    show fac d * (pr (fun j => ((d + (k + 1) : Nat) : Int) - j) k * (((d + (k + 1) : Nat) : Int) - k)) = fac d * ((d : Int) + 1) * pr (fun j => ((d + (k + 1) : Nat) : Int) - j) k
    have : (((d + (k + 1) : Nat) : Int) - k) = (d : Int) + 1 := by omega
    rw [this]
    grind
theorem fac_ne {p : Int} (hp : Pm p) : ∀ n : Nat, (n : Int) < p → ¬ p ∣ fac n
  | 0, _ => fun d => by
    have := Int.le_of_dvd (by decide) (show p ∣ 1 from d)
    have := hp.1
    omega
  | n + 1, h => hp.not_mul (fac_ne hp n (by omega)) fun d => by
    have := Int.le_of_dvd (by omega) d
    omega
theorem sq_sign (m : Nat) : ((-1 : Int) ^ m) * (-1) ^ m = 1 := by
  induction m with
  | zero => rfl
  | succ m ih => rw [Int.pow_succ]; grind
theorem own_ne {p : Int} (hp : Pm p) {n i : Nat} (hn : (n : Int) ≤ p) (hi : i < n) : ¬ p ∣ px (i : Int) i n := by
  obtain ⟨m, rfl⟩ : ∃ m, n = i + 1 + m := ⟨n - (i + 1), by omega⟩
  rw [px_own]
  refine hp.not_mul (fac_ne hp i (by omega)) (hp.not_mul (fun d => ?_) (fac_ne hp m (by omega)))
  obtain ⟨k, hk⟩ := d
  have s := sq_sign m
  have : p ∣ 1 := ⟨k * (-1) ^ m, by grind⟩
  have := Int.le_of_dvd (by decide) this
  have := hp.1
  omega
/-- weights of inverse factorials -/
theorem wgt_fac {p : Int} {last : Nat} {sh : Nat → Int} (h : ∀ k, k ≤ last → p ∣ sh k * fac k - 1) : Wgt p (last + 1) fun i => (-1) ^ (last - i) * (sh i * sh (last - i)) := fun i hi => by
  obtain ⟨m, rfl⟩ : ∃ m, last = i + m := ⟨last - i, by omega⟩
  show p ∣ px (i : Int) i (i + m + 1) * ((-1) ^ (i + m - i) * (sh i * sh (i + m - i))) - 1
  rw [show i + m + 1 = i + 1 + m by omega, px_own, show i + m - i = m by omega]
  obtain ⟨a, ha⟩ := h i (by omega)
  obtain ⟨b, hb⟩ := h m (by omega)
  have s := sq_sign m
  refine ⟨a * (sh m * fac m) + b, ?_⟩
  have e : fac i * ((-1) ^ m * fac m) * ((-1) ^ m * (sh i * sh m)) = ((-1) ^ m * (-1) ^ m) * ((sh i * fac i) * (sh m * fac m)) := by grind
  rw [e, s]
  grind
end Mine

namespace Mine
/-- the numbers below i that g picks, in order -/
def fnd (g : Nat → Bool) (i : Nat) : List Int := ((List.range i).filter g).map fun k : Nat => (k : Int)
theorem fnd_succ (g : Nat → Bool) (i : Nat) : fnd g (i + 1) = fnd g i ++ if g i = true then [(i : Int)] else [] := by
  unfold fnd
  rw [List.range_succ, List.filter_append, List.map_append]
  cases h : g i <;> simp [List.filter, h]
theorem fnd_mem {g : Nat → Bool} {i : Nat} {x : Int} : x ∈ fnd g i ↔ ∃ k : Nat, x = (k : Int) ∧ k < i ∧ g k = true := by
  unfold fnd
  rw [List.mem_map]
  constructor
  · rintro ⟨k, hk, rfl⟩
    have := List.mem_filter.mp hk
    exact ⟨k, rfl, List.mem_range.mp this.1, this.2⟩
  · rintro ⟨k, rfl, h1, h2⟩
    exact ⟨k, List.mem_filter.mpr ⟨List.mem_range.mpr h1, h2⟩, rfl⟩
theorem fnd_incr (g : Nat → Bool) (i : Nat) : (fnd g i).Pairwise (· < ·) := by
  unfold fnd
  rw [List.pairwise_map]
  exact (List.pairwise_lt_range.filter g).imp fun h => by omega
theorem fnd_len (g : Nat → Bool) (i : Nat) : (fnd g i).length ≤ i := by
  unfold fnd
  rw [List.length_map]
  exact Nat.le_trans (List.length_filter_le _ _) (by rw [List.length_range]; exact Nat.le_refl _)
theorem incr_eq : ∀ {l m : List Int}, l.Pairwise (· < ·) → m.Pairwise (· < ·) → (∀ x, x ∈ l ↔ x ∈ m) → l = m
  | [], [], _, _, _ => rfl
  | [], b :: m, _, _, h => by have := (h b).mpr List.mem_cons_self; cases this
  | a :: l, [], _, _, h => by have := (h a).mp List.mem_cons_self; cases this
  | a :: l, b :: m, hl, hm, h => by
    have hl' := List.pairwise_cons.mp hl
    have hm' := List.pairwise_cons.mp hm
    have e : a = b := by
      rcases List.mem_cons.mp ((h a).mp List.mem_cons_self) with e | e
      · exact e
      · rcases List.mem_cons.mp ((h b).mpr List.mem_cons_self) with e2 | e2
        · exact e2.symm
        · have := hl'.1 b e2
          have := hm'.1 a e
          omega
    subst e
    rw [incr_eq hl'.2 hm'.2 fun x => ?_]
    constructor
    · intro hx
      rcases List.mem_cons.mp ((h x).mp (List.mem_cons_of_mem _ hx)) with e | e
      · have := hl'.1 x hx
        omega
      · exact e
    · intro hx
      rcases List.mem_cons.mp ((h x).mpr (List.mem_cons_of_mem _ hx)) with e | e
      · have := hm'.1 x hx
        omega
      · exact e
/-- of unlike numbers below p none is another one but for a multiple -/
theorem apart_mod {p a b : Int} (a0 : 0 ≤ a) (b0 : 0 ≤ b) (a1 : a < p) (b1 : b < p) (h : p ∣ a - b) : a = b := by
  obtain ⟨k, hk⟩ := h
  have h1 : k < 1 := by
    apply Int.lt_of_not_ge
    intro c
    have := Int.mul_le_mul_of_nonneg_left c (show 0 ≤ p by omega)
    omega
  have h2 : -1 < k := by
    apply Int.lt_of_not_ge
    intro c
    have := Int.mul_le_mul_of_nonneg_left c (show 0 ≤ p by omega)
    omega
  have : k = 0 := by omega
  subst this
  omega
theorem incr_far {p : Int} : ∀ {l : List Int}, l.Pairwise (· < ·) → (∀ x ∈ l, 0 ≤ x ∧ x < p) → l.Pairwise fun a b => ¬ p ∣ b - a
  | [], _, _ => List.Pairwise.nil
  | a :: l, h, r => by
    have h' := List.pairwise_cons.mp h
    refine List.pairwise_cons.mpr ⟨fun b hb d => ?_, incr_far h'.2 fun x hx => r x (List.mem_cons_of_mem _ hx)⟩
    have ra := r a List.mem_cons_self
    have rb := r b (List.mem_cons_of_mem _ hb)
    have := apart_mod rb.1 ra.1 rb.2 ra.2 d
    have := h'.1 b hb
    omega
/-- two unlike rules of at most n numbers meet at fewer than n numbers -/
theorem few {p : Int} (hp : Pm p) {n k : Nat} {f : Int → Int} (hf : IsPoly n f) {x : Int} (hx : ¬ p ∣ f x) {rs : List Int} (hd : rs.Pairwise fun a b => ¬ p ∣ b - a) (hr : ∀ r ∈ rs, p ∣ f r) : rs.length < n := by
  apply Nat.lt_of_not_le
  intro c
  refine hx (hf.roots hp (rs.take n) (by rw [List.length_take]; omega) (hd.sublist (List.take_sublist _ _)) (fun r h => hr r (List.mem_of_mem_take h)) x)
theorem lag_gap {p : Int} (hp : Pm p) {n : Nat} (hn : (n : Int) ≤ p) {u v1 v2 v3 : Nat → Int} (hu : Wgt p n u) (h : ∀ k, k < n → p ∣ v3 k - (v1 k - v2 k)) (x : Int) : p ∣ lag v3 u n x - (lag v1 u n x - lag v2 u n x) :=
  lag_rule hp hn hu (P := fun x => lag v1 u n x - lag v2 u n x) (((lag_poly v1 u n).add ((lag_poly v2 u n).mul (-1))).congr fun x => by grind) (fun k hk => by
    obtain ⟨a, ha⟩ := lag_at (v := v1) hu hk
    obtain ⟨b, hb⟩ := lag_at (v := v2) hu hk
    obtain ⟨c, hc⟩ := h k hk
    exact ⟨c - a + b, by grind⟩) x
theorem lag_times {p : Int} (hp : Pm p) {n : Nat} (hn : (n : Int) ≤ p) {u v1 v3 : Nat → Int} {c : Int} (hu : Wgt p n u) (h : ∀ k, k < n → p ∣ v3 k - v1 k * c) (x : Int) : p ∣ lag v3 u n x - lag v1 u n x * c :=
  lag_rule hp hn hu (P := fun x => lag v1 u n x * c) (((lag_poly v1 u n).mul c).congr fun x => Int.mul_comm _ _) (fun k hk => by
    obtain ⟨a, ha⟩ := lag_at (v := v1) hu hk
    obtain ⟨d, hd⟩ := h k hk
    exact ⟨d - a * c, by grind⟩) x
/-- a product of differences -/
def pRt (x : Int) : List Int → Int
  | [] => 1
  | r :: rs => (x - r) * pRt x rs
theorem pRt_poly : ∀ rs : List Int, IsPoly (rs.length + 1) fun x => pRt x rs
  | [] => ⟨1, fun _ => 0, fun _ => rfl, fun x => by simp [pRt]⟩
  | r :: rs => (pRt_poly rs).lin r
theorem pRt_zero {p x : Int} (hp : Pm p) : ∀ {rs : List Int}, p ∣ pRt x rs → ∃ r ∈ rs, p ∣ x - r
  | [], h => by
    have := Int.le_of_dvd (by decide) (show p ∣ 1 from h)
    have := hp.1
    omega
  | r :: rs, h => by
    by_cases c : p ∣ x - r
    · exact ⟨r, List.mem_cons_self, c⟩
    · obtain ⟨s, hs, d⟩ := pRt_zero hp (hp.mul h c)
      exact ⟨s, List.mem_cons_of_mem _ hs, d⟩
theorem pRt_root {x : Int} : ∀ {rs : List Int}, x ∈ rs → pRt x rs = 0
  | r :: rs, h => by
    show (x - r) * pRt x rs = 0
    rcases List.mem_cons.mp h with e | e
    · subst e
      simp
    · rw [pRt_root e]
      simp
/-- the law's own product -/
def pRm (p x : Int) : Int → List Int → Int
  | a, [] => a
  | a, r :: rs => pRm p x (a * (x - r) % p) rs
theorem pRm_snoc (p x : Int) : ∀ (a : Int) (rs : List Int) (r : Int), pRm p x a (rs ++ [r]) = pRm p x a rs * (x - r) % p
  | _, [], _ => rfl
  | a, s :: rs, r => pRm_snoc p x (a * (x - s) % p) rs r
theorem pRm_dvd (p x : Int) : ∀ (a : Int) (rs : List Int), p ∣ pRm p x a rs - a * pRt x rs
  | a, [] => ⟨0, by simp [pRm, pRt]⟩
  | a, r :: rs => by
    obtain ⟨k, hk⟩ := pRm_dvd p x (a * (x - r) % p) rs
    have e := Int.emod_add_mul_ediv (a * (x - r)) p
    refine ⟨k - a * (x - r) / p * pRt x rs, ?_⟩
    show pRm p x (a * (x - r) % p) rs - a * ((x - r) * pRt x rs) = _
    grind
theorem pRm_rng {p x : Int} (hp : 0 < p) : ∀ {a : Int} (rs : List Int), 0 ≤ a → a < p → 0 ≤ pRm p x a rs ∧ pRm p x a rs < p
  | _, [], h0, h1 => ⟨h0, h1⟩
  | _, _ :: rs, _, _ => pRm_rng hp rs (Int.emod_nonneg _ (by omega)) (Int.emod_lt_of_pos _ hp)
end Mine

namespace Mine
open PySem L2
theorem len1 {us : List Value} (h : us.length = 1) : ∃ a, us = [a] := by
  cases us with
  | nil => cases h
  | cons a r =>
    cases r with
    | nil => exact ⟨a, rfl⟩
    | cons _ _ => cases h
theorem lenS {us : List Value} {n : Nat} (h : us.length = n + 1) : ∃ a r, us = a :: r ∧ r.length = n := by
  cases us with
  | nil => cases h
  | cons a r => exact ⟨a, r, rfl, Nat.succ.inj h⟩
theorem len2 {us : List Value} (h : us.length = 2) : ∃ a b, us = [a, b] := by
  obtain ⟨a, r, rfl, h1⟩ := lenS h
  obtain ⟨b, rfl⟩ := len1 h1
  exact ⟨a, b, rfl⟩
theorem len3 {us : List Value} (h : us.length = 3) : ∃ a b c, us = [a, b, c] := by
  obtain ⟨a, r, rfl, h1⟩ := lenS h
  obtain ⟨b, c, rfl⟩ := len2 h1
  exact ⟨a, b, c, rfl⟩
theorem len4 {us : List Value} (h : us.length = 4) : ∃ a b c d, us = [a, b, c, d] := by
  obtain ⟨a, r, rfl, h1⟩ := lenS h
  obtain ⟨b, c, d, rfl⟩ := len3 h1
  exact ⟨a, b, c, d, rfl⟩
theorem len5 {us : List Value} (h : us.length = 5) : ∃ a b c d e, us = [a, b, c, d, e] := by
  obtain ⟨a, r, rfl, h1⟩ := lenS h
  obtain ⟨b, c, d, e, rfl⟩ := len4 h1
  exact ⟨a, b, c, d, e, rfl⟩
def top (i : Nat) : Stmt := PySem.Challenge.pw_asktally_k19_whole_unlike_rows_part.main.body.getD i (.Pass ⟨0, 0, 0, 0⟩)
abbrev s_inverse_of : Stmt := top 1
abbrev s_value_at : Stmt := top 3
abbrev s_value_behind : Stmt := top 4
abbrev s_products : Stmt := top 5
abbrev s_inverse_factorials : Stmt := top 6
abbrev s_l_feed : Stmt := top 8
abbrev s_l_take : Stmt := top 9
abbrev s_l_is_prime : Stmt := top 10
abbrev s_l_prime : Stmt := top 11
abbrev s_l_product : Stmt := top 12
abbrev s_l_other : Stmt := top 13
abbrev s_l_right : Stmt := top 14
abbrev s_law : Stmt := top 15
section
variable {P : Program} {w : World} {K : PySem.W.Frag} {mg : Str → Option Value} {base : Heap}
theorem sc_l_feed : FnScope ["_law_script", "_law_k", "_law_cell", "_law_own"] ["_law_script", "_law_k"] (defScope s_l_feed) := ⟨rfl, rfl, rfl, by decide +kernel, rfl, by decide +kernel, by decide +kernel⟩
theorem ok_l_feed {f : Addr} {fd : FuncData} (F : Fun K "_law_feed" "_law_feed" s_l_feed f fd) (hlen : mg "len" = none) : FnOk P w K mg base CX0 1 f fd ["_law_script", "_law_k"] (spFeed K) := by
  refine F.ok sc_l_feed (fun vs H Q E h => ?_) (fun cdv A outer s H vs Q E hr h => ?_)
  · obtain ⟨a, ns, k, rfl, _⟩ := h
    rfl
  obtain ⟨a, ns, k, rfl, hS, h63, k0, k1, q⟩ := h
  refine ⟨_, (pss_cons (ps_set (i := 2) sc_l_feed.nd rfl (Or.inl rfl) (pe_op op_add (pe_op op_mul pe_int (pv 1)) pe_int))
      (pss_cons (ps_if (pt_cmpR op_lt (pv 1) (pe_callB call_len_seq rfl hlen PySem.boot_len (pa_cons (pv 0) pa_nil)) (nomark _)) (pss_one (ps_set (i := 2) sc_l_feed.nd rfl (Or.inl rfl) (pe_ix ix_list (pv 0) (pv 1) (fun _ _ => rfl)))) (pss_one (ps_if (pt_cmpR op_gt (pe_callB call_len_seq rfl hlen PySem.boot_len (pa_cons (pv 0) pa_nil)) pe_int (nomark _)) (pss_one (ps_set (i := 2) sc_l_feed.nd rfl (Or.inl rfl) (pe_op op_add (pe_op op_mul (pe_op op_mod (pe_ix ix_list (pv 0) (pe_op op_mod (pv 1) (pe_callB call_len_seq rfl hlen PySem.boot_len (pa_cons (pv 0) pa_nil))) (fun _ _ => rfl)) pe_int) pe_int) (pe_op op_mul pe_int (pv 1))))) pss_nil)))
      (pss_cons (ps_set (i := 3) sc_l_feed.nd rfl (Or.inl rfl) pe_int)
      (pss_cons (ps_if (pt_cmpR op_ge (pv 2) (pe_op op_pow pe_int pe_int) (nomark _)) (pss_one (ps_set (i := 3) sc_l_feed.nd rfl (Or.inl rfl) (pv 2))) pss_nil)
      (pss_one (ps_ret (pe_lst (pa_cons (pv 3) (pa_cons (pe_op op_add (pe_op op_mod (pe_op op_add (pe_op op_mul (pe_op op_mod (pv 2) pe_int) pe_int) (pe_op op_mul pe_int (pv 1))) pe_int) pe_int) pa_nil))))))))), ?_⟩
  have hl : (ns.map V.int).length = ns.length := List.length_map _
  have hp : (10 : Int) ^ (18 : Int).toNat = 1000000000000000000 := by decide
  refine ⟨_, rfl, _, _, rfl, rfl, .inl ⟨by decide, by decide⟩, _, _, rfl, rfl, ?_⟩
  refine ⟨_, rfl, _, rfl, a, _, rfl, .inl hS, _, _, rfl, rfl, _, rfl, ?_⟩
  refine ite2 (fun c => ?b1) (fun c => ?b2)
  case' b1 =>
    have c' : k < (((ns.map V.int).length : Nat) : Int) := of_decide_eq_true c
    rw [hl] at c'
    obtain ⟨v, hv⟩ := at_int (ns := ns) k0 c'
    refine ⟨_, rfl, _, rfl, a, _, _, _, rfl, rfl, hS, hv, ?_⟩
  case' b2 =>
    refine ⟨_, rfl, a, _, rfl, .inl hS, _, _, rfl, rfl, _, rfl, ?_⟩
    refine ite2 (fun c2 => ?b3) (fun c2 => ?b4)
    case' b3 =>
      have c' : (0 : Int) < (((ns.map V.int).length : Nat) : Int) := of_decide_eq_true c2
      have m0 := Int.emod_nonneg k (b := (((ns.map V.int).length : Nat) : Int)) (by omega)
      have m1 := Int.emod_lt_of_pos k c'
      obtain ⟨v, hv⟩ := at_int (ns := ns) m0 (by rw [hl] at m1 ⊢; exact m1)
      have n0 := Int.emod_nonneg v (b := 2147483629) (by decide)
      have n1 := Int.emod_lt_of_pos v (b := 2147483629) (by decide)
      refine ⟨_, rfl, _, rfl, _, rfl, a, _, rfl, .inl hS, _, _, rfl, rfl, c', a, _, _, _, rfl, rfl, hS, hv, _, _, rfl, rfl, (by show (0 : Int) < _; decide), _, _, rfl, rfl, .inr ⟨by decide, by decide⟩, _, rfl, _, _, rfl, rfl, .inl ⟨by decide, by decide⟩, _, _, rfl, rfl, ?_⟩
  all_goals
    refine ⟨_, rfl, _, _, rfl, rfl, ⟨by decide, by decide, by decide⟩, _, _, rfl, rfl, _, rfl, ?_⟩
    refine ite2 (fun c3 => ?_) (fun c3 => ?_)
    · have c4 := of_decide_eq_true c3
      rw [hp] at c4
      refine ⟨_, rfl, _, rfl, _, rfl, _, _, rfl, rfl, (by show (0 : Int) < _; decide), _, _, rfl, rfl, .inr ⟨by decide, by decide⟩, _, rfl, _, _, rfl, rfl, .inl ⟨by decide, by decide⟩, _, _, rfl, rfl, _, _, rfl, rfl, (by show (0 : Int) < _; decide), _, _, rfl, rfl, (by show 2 ≤ sizeLine; decide), fun p hp => ?_⟩
      refine q p _ hp (Same.new hp _) ⟨_, _, upd_same, by omega, ?_, ?_⟩
      · omega
      · omega
    · refine ⟨_, rfl, _, rfl, _, _, rfl, rfl, (by show (0 : Int) < _; decide), _, _, rfl, rfl, .inr ⟨by decide, by decide⟩, _, rfl, _, _, rfl, rfl, .inl ⟨by decide, by decide⟩, _, _, rfl, rfl, _, _, rfl, rfl, (by show (0 : Int) < _; decide), _, _, rfl, rfl, (by show 2 ≤ sizeLine; decide), fun p hp => ?_⟩
      refine q p _ hp (Same.new hp _) ⟨_, _, upd_same, Int.le_refl 0, ?_, ?_⟩
      · omega
      · omega
theorem sc_l_take : FnScope ["_law_feed_here", "_law_many", "_law_digit", "_law_one"] ["_law_feed_here", "_law_many"] (defScope s_l_take) := ⟨rfl, rfl, rfl, by decide +kernel, rfl, by decide +kernel, by decide +kernel⟩
theorem ok_l_take {f : Addr} {fd : FuncData} (F : Fun K "_law_take" "_law_take" s_l_take f fd) : FnOk P w K mg base CX0 1 f fd ["_law_feed_here", "_law_many"] spTake := by
  refine F.ok sc_l_take (fun vs H Q E h => ?_) (fun cdv A outer s H vs Q E hr h => ?_)
  · obtain ⟨f, m, rfl, _⟩ := h
    rfl
  obtain ⟨f, m, rfl, ⟨own, st, hf, o0, s0, s1⟩, m0, m1, q⟩ := h
  refine ⟨_, (pss_cons (ps_if (pt_cmpR op_gt (pe_ix ix_list (pv 0) pe_int (fun _ _ => rfl)) pe_int (nomark _)) (pss_cons (ps_set (i := 2) sc_l_take.nd rfl (Or.inl rfl) (pe_op op_mod (pe_ix ix_list (pv 0) pe_int (fun _ _ => rfl)) (pv 1)))
        (pss_cons (ps_asg (pe_op op_fdivL (pe_ix ix_list (pv 0) pe_int (fun _ _ => rfl)) (pv 1)) (pg_sub (pv 0) pe_int set_list))
        (pss_one (ps_ret (pv 2))))) pss_nil)
      (pss_cons (ps_set (i := 3) sc_l_take.nd rfl (Or.inl rfl) (pe_op op_mod (pe_op op_mul (pe_ix ix_list (pv 0) pe_int (fun _ _ => rfl)) pe_int) pe_int))
      (pss_cons (ps_asg (pe_op op_add (pe_op op_mod (pe_op op_add (pe_op op_mul (pv 3) pe_int) pe_int) pe_int) pe_int) (pg_sub (pv 0) pe_int set_list))
      (pss_one (ps_ret (pe_op op_mod (pe_op op_fdiv (pe_op op_add (pe_op op_mul (pv 3) pe_int) (pe_ix ix_list (pv 0) pe_int (fun _ _ => rfl))) pe_int) (pv 1))))))), ?_⟩
  refine ⟨_, rfl, f, _, 0, _, rfl, rfl, SqL.of hf, rfl, _, _, rfl, rfl, _, rfl, ?_⟩
  refine ite2 (fun c => ?_) (fun c => ?_)
  · refine ⟨_, rfl, f, _, 0, _, rfl, rfl, SqL.of hf, rfl, _, rfl, _, _, rfl, rfl, m0, ?_⟩
    refine ⟨_, rfl, f, _, 0, _, rfl, rfl, SqL.of hf, rfl, _, rfl, _, _, rfl, rfl, ⟨m0, m1⟩, _, rfl, f, _, 0, 0, rfl, rfl, hf, rfl, ?_⟩
    refine ⟨_, rfl, ?_⟩
    exact q _ _ (Int.emod_nonneg _ (by omega)) (Int.emod_lt_of_pos _ m0) ⟨_, _, upd_same, Int.ediv_nonneg o0 (by omega), s0, s1⟩ (SameBut.upd _)
  · have a0 := Int.emod_nonneg (st * 69621) (b := 2147483647) (by decide)
    have a1 := Int.emod_lt_of_pos (st * 69621) (b := 2147483647) (by decide)
    refine ⟨_, rfl, f, _, 1, _, rfl, rfl, SqL.of hf, rfl, _, _, rfl, rfl, .inr ⟨by decide, by decide⟩, _, _, rfl, rfl, (by show (0 : Int) < _; decide), ?_⟩
    refine ⟨_, rfl, _, _, rfl, rfl, .inr ⟨by decide, by decide⟩, _, _, rfl, rfl, _, _, rfl, rfl, (by show (0 : Int) < _; decide), _, _, rfl, rfl, _, rfl, f, _, 1, 1, rfl, rfl, hf, rfl, ?_⟩
    have b0 := Int.emod_nonneg (st * 69621 % 2147483647 * 48271 + 30103) (b := 2147483646) (by decide)
    have b1 := Int.emod_lt_of_pos (st * 69621 % 2147483647 * 48271 + 30103) (b := 2147483646) (by decide)
    refine ⟨_, rfl, _, _, rfl, rfl, .inr ⟨by decide, by decide⟩, _, rfl, f, _, 1, _, rfl, rfl, SqL.of upd_same, rfl, _, _, rfl, rfl, _, _, rfl, rfl, ⟨by decide, by decide⟩, _, rfl, _, _, rfl, rfl, m0, ?_⟩
    exact q _ _ (Int.emod_nonneg _ (by omega)) (Int.emod_lt_of_pos _ m0) ⟨_, _, upd_same, o0, by omega, by omega⟩ (SameBut.upd _)
def spPrimeB : Sp := fun vs H Q _ => ∃ n : Int, vs = [.int n] ∧ ∀ b : Bool, (b = true ↔ Pr n) → Q (.bl b) H
def spInv : Sp := fun vs H Q _ => ∃ a p : Int, vs = [.int a, .int p] ∧ Pr p ∧ p ≤ 999983 ∧ 0 < a ∧ a < p ∧ ∀ g : Int, 0 < g → g < p → g * a % p = 1 → Q (.int g) H

theorem sc_inverse_of : FnScope ["a", "p", "former", "former_factor", "rest", "factor", "times", "lesser", "lesser_factor"] ["a", "p"] (defScope s_inverse_of) := ⟨rfl, rfl, rfl, by decide +kernel, rfl, by decide +kernel, by decide +kernel⟩
theorem ok_inverse_of {f : Addr} {fd : FuncData} (F : Fun K "inverse_of" "inverse_of" s_inverse_of f fd) : FnOk P w K mg base CX0 1 f fd ["a", "p"] spInv := by
  refine F.ok sc_inverse_of (fun vs H Q E h => ?_) (fun cdv A outer s H vs Q E hr h => ?_)
  · obtain ⟨a, p, rfl, _⟩ := h
    rfl
  obtain ⟨a, p, rfl, pr, p1, a0, a1, q⟩ := h
  have p2 : 2 ≤ p := pr.1
  refine ⟨_, (pss_cons (ps_set (i := 2) sc_inverse_of.nd rfl (Or.inl rfl) (pv 1))
      (pss_cons (ps_set (i := 3) sc_inverse_of.nd rfl (Or.inl rfl) pe_int)
      (pss_cons (ps_set (i := 4) sc_inverse_of.nd rfl (Or.inl rfl) (pe_op op_mod (pv 0) (pv 1)))
      (pss_cons (ps_set (i := 5) sc_inverse_of.nd rfl (Or.inl rfl) pe_int)
      (pss_cons (ps_while PassesOwn.never (pt_cmpR op_ne (pv 4) pe_int (nomark _)) (pss_cons (ps_set (i := 6) sc_inverse_of.nd rfl (Or.inl rfl) (pe_op op_fdiv (pv 2) (pv 4)))
        (pss_cons (ps_set (i := 7) sc_inverse_of.nd rfl (Or.inl rfl) (pe_op op_sub (pv 2) (pe_op op_mul (pv 6) (pv 4))))
        (pss_cons (ps_set (i := 8) sc_inverse_of.nd rfl (Or.inl rfl) (pe_op op_mod (pe_op op_sub (pv 3) (pe_op op_mul (pv 6) (pv 5))) (pv 1)))
        (pss_cons (ps_set (i := 2) sc_inverse_of.nd rfl (Or.inl rfl) (pv 4))
        (pss_cons (ps_set (i := 3) sc_inverse_of.nd rfl (Or.inl rfl) (pv 5))
        (pss_cons (ps_set (i := 4) sc_inverse_of.nd rfl (Or.inl rfl) (pv 7))
        (pss_one (ps_set (i := 5) sc_inverse_of.nd rfl (Or.inl rfl) (pv 8))))))))))
      (pss_one (ps_ret (pv 5)))))))), ?_⟩
  refine ⟨_, rfl, ?_⟩
  refine ⟨_, rfl, _, rfl, _, _, rfl, rfl, (show 0 < p by omega), ?_⟩
  refine ⟨fun m σ H' => ∃ (former ff rest g : Int) (x6 x7 x8 : Option V), σ = [some (.int a), some (.int p), some (.int former), some (.int ff), some (.int rest), some (.int g), x6, x7, x8] ∧ H' = H ∧ Eu a p former ff rest g ∧ m = rest.toNat,
    ⟨_, _, _, _, _, _, _, _, rfl, rfl, eu_start pr (by omega) a0 a1, rfl⟩, ?_⟩
  rintro m σ H' ⟨former, ff, rest, g, x6, x7, x8, rfl, rfl, eu, rfl⟩
  refine ⟨_, rfl, rfl, _, rfl, ?_⟩
  by_cases c : rest = 1
  · refine iteNS (congrArg V.int c) ?_
    obtain ⟨g0, g1, g2⟩ := eu_end eu c (by omega)
    exact ⟨_, rfl, q g g0 g1 g2⟩
  · refine iteN (fun z => c (V.int.inj z)) ?_
    refine ⟨_, fun _ _ h => h, ?_⟩
    have r0 := eu.r0
    have rp := eu.rp
    have f0 := eu.f0
    have f1 := eu.f1
    obtain ⟨nx, lt⟩ := eu_next eu c
    refine ⟨_, rfl, _, rfl, _, _, rfl, rfl, ⟨r0, by omega⟩, ?_⟩
    refine ⟨_, rfl, _, rfl, _, rfl, _, _, rfl, rfl, .inr ⟨by omega, by omega⟩, _, _, rfl, rfl, ?_⟩
    refine ⟨_, rfl, _, rfl, _, rfl, _, _, rfl, rfl, .inr ⟨by omega, by omega⟩, _, _, rfl, rfl, _, rfl, _, _, rfl, rfl, (show 0 < p by omega), ?_⟩
    refine ⟨_, rfl, _, rfl, _, rfl, _, rfl, ?_⟩
    exact ⟨_, lt, _, _, _, _, _, _, _, rfl, rfl, nx, rfl⟩

theorem sc_l_is_prime : FnScope ["_law_number", "_law_k"] ["_law_number"] (defScope s_l_is_prime) := ⟨rfl, rfl, rfl, by decide +kernel, rfl, by decide +kernel, by decide +kernel⟩
theorem ok_l_is_prime {f : Addr} {fd : FuncData} (F : Fun K "_law_is_prime" "_law_is_prime" s_l_is_prime f fd) (hrange : mg "range" = none) : FnOk P w K mg base CX0 1 f fd ["_law_number"] spPrimeB := by
  refine F.ok sc_l_is_prime (fun vs H Q E h => ?_) (fun cdv A outer s H vs Q E hr h => ?_)
  · obtain ⟨n, rfl, _⟩ := h
    rfl
  obtain ⟨n, rfl, q⟩ := h
  refine ⟨_, (pss_cons (ps_if (pt_cmpR op_lt (pv 0) pe_int (nomark _)) (pss_one (ps_ret pe_bl)) pss_nil)
      (pss_cons (ps_for PassesOwn.never rfl (pi_range2 rfl hrange (pa_cons pe_int (pa_cons pe_int pa_nil))) (pg_name (i := 1) sc_l_is_prime.nd rfl (Or.inl rfl)) (pss_cons (ps_if (pt_cmpR op_gt (pe_op op_mul (pv 1) (pv 1)) (pv 0) (nomark _)) (pss_one (ps_ret pe_bl)) pss_nil)
        (pss_one (ps_if (pt_cmpR op_eq (pe_op op_mod (pv 0) (pv 1)) pe_int (nomark _)) (pss_one (ps_ret pe_bl)) pss_nil))))
      (pss_one (ps_ret pe_bl)))), ?_⟩
  refine ⟨_, rfl, _, _, rfl, rfl, _, rfl, ?_⟩
  refine ite2 (fun c => ?_) (fun c => ?_)
  · have c' := of_decide_eq_true c
    exact q false ⟨fun z => (nomatch z), fun z => by have := z.1; omega⟩
  have c' : ¬ n < 2 := of_decide_eq_false (Bool.eq_false_iff.mpr c)
  refine ⟨2, 1001, rfl, ⟨by decide, by decide, by decide, by decide⟩, for_range (fun i σ H' => ∃ x, σ = [some (.int n), x] ∧ H' = H ∧ PrUpTo n (2 + (i : Int))) ⟨_, rfl, rfl, by simpa using upTo_start n⟩ ?_ ?_⟩
  · rintro i σ H' hi ⟨x, rfl, rfl, u⟩
    have hi' : i < 999 := hi
    refine ⟨_, rfl, _, rfl, _, _, rfl, rfl, .inl ⟨by omega, by omega⟩, _, rfl, _, _, rfl, rfl, _, rfl, ?_⟩
    refine ite2 (fun c1 => ?_) (fun c1 => ?_)
    · have c2 := of_decide_eq_true c1
      exact q true ⟨fun _ => pr_big (by omega) (by omega) u c2, fun _ => rfl⟩
    · have c2 := of_decide_eq_false (Bool.eq_false_iff.mpr c1)
      refine ⟨_, rfl, _, rfl, _, _, rfl, rfl, (show (0 : Int) < 2 + (i : Int) by omega), rfl, _, rfl, ?_⟩
      refine ite2 (fun c3 => ?_) (fun c3 => ?_)
      · have c4 := V.int.inj (of_decide_eq_true c3)
        exact q false ⟨fun z => (nomatch z), fun z => (pr_not (by omega) (by omega) (by omega) c4 z).elim⟩
      · have c4 := of_decide_eq_false (Bool.eq_false_iff.mpr c3)
        refine ⟨_, rfl, rfl, ?_⟩
        have e : (2 : Int) + ((i + 1 : Nat) : Int) = 2 + (i : Int) + 1 := by omega
        rw [e]
        exact upTo_next u (by omega) (fun z => c4 (congrArg V.int z))
  · rintro σ H' ⟨x, rfl, rfl, u⟩
    exact q true ⟨fun _ => pr_all (by omega) u, fun _ => rfl⟩

structure Bl (mg : Str → Option Value) : Prop where
  len : mg "len" = none
  range : mg "range" = none
  isinstance : mg "isinstance" = none
  int : mg "int" = none
  bool : mg "bool" = none
  list : mg "list" = none
  tuple : mg "tuple" = none
  max : mg "max" = none
  min : mg "min" = none
  reversed : mg "reversed" = none
  sorted : mg "sorted" = none
theorem md {p x y : Int} (h : p ∣ x - y) : x % p = y % p := by
  obtain ⟨k, hk⟩ := h
  have : x = y + p * k := by omega
  rw [this, Int.add_mul_emod_self_left]
theorem dm (p x : Int) : p ∣ x % p - x := ⟨-(x / p), by
  have := Int.emod_add_mul_ediv x p
  rw [Int.mul_neg]
  omega⟩
/-- the products by their rests -/
def pmd (p : Int) (g : Nat → Int) : Nat → Int
  | 0 => 1
  | k + 1 => pmd p g k * g k % p
theorem pmd_dvd (p : Int) (g : Nat → Int) : ∀ k, p ∣ pmd p g k - pr g k
  | 0 => ⟨0, by simp [pmd, pr]⟩
  | k + 1 => by
    obtain ⟨a, ha⟩ := pmd_dvd p g k
    obtain ⟨b, hb⟩ := dm p (pmd p g k * g k)
    exact ⟨b + a * g k, by show pmd p g k * g k % p - pr g k * g k = _; grind⟩
theorem pmd_rng {p : Int} (hp : 1 < p) (g : Nat → Int) : ∀ k, 0 ≤ pmd p g k ∧ pmd p g k < p
  | 0 => ⟨by show (0 : Int) ≤ 1; decide, hp⟩
  | k + 1 => ⟨Int.emod_nonneg _ (by omega), Int.emod_lt_of_pos _ (by omega)⟩
def prL (p : Int) (g : Nat → Int) (n : Nat) : List V := ((List.range n).map (pmd p g)).map V.int
theorem prL_succ (p : Int) (g : Nat → Int) (n : Nat) : prL p g (n + 1) = prL p g n ++ [.int (pmd p g n)] := by
  unfold prL
  rw [List.range_succ, List.map_append, List.map_append]
  rfl
theorem prL_len (p : Int) (g : Nat → Int) (n : Nat) : (prL p g n).length = n := by
  unfold prL
  rw [List.length_map, List.length_map, List.length_range]
theorem map_at {f : Nat → Int} {n k : Nat} (h : k < n) : atI (((List.range n).map f).map V.int) (k : Int) = some (.int (f k)) := by
  refine atI_nat ?_
  rw [List.getElem?_map, List.getElem?_map, List.getElem?_range h]
  rfl
theorem prL_at {p : Int} {g : Nat → Int} {n k : Nat} (h : k < n) : atI (prL p g n) (k : Int) = some (.int (pmd p g k)) := map_at h
def spProd : Sp := fun vs H Q _ => ∃ (a : Addr) (g : Nat → Int) (n : Nat) (p : Int), vs = [.ref a, .int p] ∧ H a = some (.lst (((List.range n).map g).map V.int)) ∧ n ≤ 500 ∧ 1 < p ∧ p < 2 ^ 40 ∧ ∀ (l : Addr) (H' : Hp), H l = none → Same H H' → H' l = some (.lst (prL p g (n + 1))) → Q (.ref l) H'
theorem sc_products : FnScope ["numbers", "p", "told", "number"] ["numbers", "p"] (defScope s_products) := ⟨rfl, rfl, rfl, by decide +kernel, rfl, by decide +kernel, by decide +kernel⟩
theorem ok_products {f : Addr} {fd : FuncData} (F : Fun K "products" "products" s_products f fd) : FnOk P w K mg base CX0 1 f fd ["numbers", "p"] spProd := by
  refine F.ok sc_products (fun vs H Q E h => ?_) (fun cdv A outer s H vs Q E hr h => ?_)
  · obtain ⟨a, g, n, p, rfl, _⟩ := h
    rfl
  obtain ⟨a, g, n, p, rfl, ha, n5, p1, p40, q⟩ := h
  refine ⟨_, (pss_cons (ps_set (i := 2) sc_products.nd rfl (Or.inl rfl) (pe_lst (pa_cons pe_int pa_nil)))
      (pss_cons (ps_for PassesOwn.never rfl (pi_list (pv 0)) (pg_name (i := 3) sc_products.nd rfl (Or.inl rfl)) (pss_one (ps_expr (pe_bm PySem.F.plainAttrs_list PySem.F.slot_list_append PySem.F.type_list_append mt_append (pv 2) (pa_cons (pe_op op_mod (pe_op op_mul (pe_ix ix_list (pv 2) (pe_un un_neg pe_int) (fun _ _ => rfl)) (pv 3)) (pv 1)) pa_nil)))))
      (pss_one (ps_ret (pv 2))))), ?_⟩
  refine ⟨(by show 1 ≤ sizeLine; decide), fun L hL => ?_⟩
  have aL : a ≠ L := ne_of_none ha hL
  refine ⟨_, rfl, a, rfl, ⟨_, SqL.of ((Same.new hL _) _ _ ha)⟩, for_list (K := K) (xs := ((List.range n).map g).map V.int) (fun i σ H' => ∃ x3 : Option V, σ = [some (.ref a), some (.int p), some (.ref L), x3] ∧ H' L = some (.lst (prL p g (i + 1))) ∧ SameBut L H H')
    ⟨_, rfl, by rw [upd_same]; rfl, SameBut.upd _⟩ (fun i σ H' _ hst => by obtain ⟨_, _, _, h⟩ := hst; exact SqL.of (h _ _ aL ha)) ?_ ?_⟩
  · rintro i z σ H1 hz ⟨x3, rfl, hL1, S1⟩
    have hi := (List.getElem?_eq_some_iff.mp hz).1
    rw [List.length_map, List.length_map, List.length_range] at hi
    rw [List.getElem?_map, List.getElem?_map, List.getElem?_range hi] at hz
    obtain rfl : V.int (g i) = z := Option.some.inj hz
    have rg := pmd_rng p1 g i
    refine ⟨_, rfl, .inl ⟨rfl, _, SqL.of hL1⟩, ?_⟩
    refine ⟨_, rfl, _, rfl, L, _, _, .int (pmd p g i), rfl, rfl, SqL.of hL1, ?_, _, rfl, _, _, rfl, rfl, .inl ⟨by omega, by omega⟩, _, rfl, _, _, rfl, rfl, (by omega), L, _, _, rfl, rfl, hL1, ?_, ?_⟩
    · rw [prL_succ]
      exact atI_last _ _
    · rw [prL_len]
      exact small1000 (by omega)
    · refine ⟨_, rfl, ?_, fun c o hc e => ?_⟩
      · rw [upd_same, prL_succ p g (i + 1)]
        rfl
      · rw [upd_ne hc]
        exact S1 c o hc e
  · rintro σ H1 ⟨x3, rfl, hL1, S1⟩
    rw [List.length_map, List.length_map, List.length_range] at hL1
    exact ⟨_, rfl, q L H1 hL (fun b o e => S1 b o (ne_of_none e hL) e) hL1⟩
theorem pr_fac : ∀ n : Nat, pr (fun k => 1 + (k : Int)) n = fac n
  | 0 => rfl
  | n + 1 => by
    show pr (fun k => 1 + (k : Int)) n * (1 + (n : Int)) = fac n * ((n : Int) + 1)
    rw [pr_fac n, Int.add_comm]
theorem share_ok {p g a t s : Int} {k m : Nat} (hg : g * a % p = 1) (p1 : 1 < p) (ha : p ∣ a - fac (k + m)) (ht : p ∣ t - pr (fun j => ((k + m : Nat) : Int) - j) m) (hs : p ∣ s - g * t) : p ∣ s * fac k - 1 := by
  have f := fac_part m k
  obtain ⟨x, hx⟩ := ha
  obtain ⟨y, hy⟩ := ht
  obtain ⟨z, hz⟩ := hs
  obtain ⟨e, he⟩ := dm p (g * a)
  rw [hg] at he
  exact ⟨z * fac k + g * y * fac k - g * x - e, by grind⟩
def spFacs : Sp := fun vs H Q _ => ∃ (L : Nat) (p : Int), vs = [.int (L : Int), .int p] ∧ L ≤ 500 ∧ (L : Int) < p ∧ Pr p ∧ p ≤ 999983 ∧ ∀ (l : Addr) (H' : Hp) (sh : Nat → Int), H l = none → Same H H' → (∀ k, k ≤ L → p ∣ sh k * fac k - 1) → (∀ k, 0 ≤ sh k ∧ sh k < p) → H' l = some (.lst (((List.range (L + 1)).map sh).map V.int)) → Q (.ref l) H'
theorem sc_inverse_factorials : FnScope ["last", "p", "numbers", "whole", "told"] ["last", "p"] (defScope s_inverse_factorials) := ⟨rfl, rfl, rfl, by decide +kernel, rfl, by decide +kernel, by decide +kernel⟩
theorem ok_inverse_factorials {f : Addr} {fd : FuncData} (F : Fun K "inverse_factorials" "inverse_factorials" s_inverse_factorials f fd) (B : Bl mg) (C_products : Cal P w K mg base 1 "products" ["numbers", "p"] spProd) (C_inverse_of : Cal P w K mg base 1 "inverse_of" ["a", "p"] spInv) : FnOk P w K mg base CX0 2 f fd ["last", "p"] spFacs := by
  refine F.ok sc_inverse_factorials (fun vs H Q E h => ?_) (fun cdv A outer s H vs Q E hr h => ?_)
  · obtain ⟨L, p, rfl, _⟩ := h
    rfl
  obtain ⟨L, p, rfl, L5, Lp, pp, p9, q⟩ := h
  refine ⟨_, (pss_cons (ps_set (i := 2) sc_inverse_factorials.nd rfl (Or.inl rfl) (pe_listrng rfl rfl B.list rfl B.range (pa_cons pe_int (pa_cons (pe_op op_add (pv 0) pe_int) pa_nil))))
      (pss_cons (ps_set (i := 3) sc_inverse_factorials.nd rfl (Or.inr rfl) (pe_cal C_inverse_of hr (by decide) rfl (pa_cons (pe_ix ix_list (pe_cal C_products hr (by decide) rfl (pa_cons (pv 2) (pa_cons (pv 1) pa_nil))) (pe_un un_neg pe_int) (fun _ _ => rfl)) (pa_cons (pv 1) pa_nil))))
      (pss_cons (ps_set (i := 4) sc_inverse_factorials.nd rfl (Or.inr rfl) (pe_cal C_products hr (by decide) rfl (pa_cons (pe_comp (N := ["last"]) (ix := [0]) rfl
          (CompScope.one (by with_unfolding_all rfl) (by decide) rfl (by decide) rfl (by decide +kernel) (by with_unfolding_all rfl) (by with_unfolding_all rfl) (by with_unfolding_all rfl) rfl rfl) rfl
          (pi_range1 rfl B.range (pa_cons (pv 0) pa_nil)) (fun _ _ _ => pb_all (pe_op op_sub (pv 1) (pv 0)))) (pa_cons (pv 1) pa_nil))))
      (pss_one (ps_ret (pe_comp (N := ["whole", "told", "p", "last"]) (ix := [3, 4, 1, 0]) rfl
          (CompScope.four (by with_unfolding_all rfl) (by decide) rfl (by decide) rfl (by decide +kernel) rfl (by with_unfolding_all rfl) (by with_unfolding_all rfl) (by with_unfolding_all rfl) (by with_unfolding_all rfl) (by with_unfolding_all rfl) (by with_unfolding_all rfl) rfl rfl (by with_unfolding_all rfl) rfl rfl (by with_unfolding_all rfl) rfl rfl (by with_unfolding_all rfl) rfl rfl) rfl
          (pi_range1 rfl B.range (pa_cons (pe_op op_add (pv 0) pe_int) pa_nil)) (fun _ _ _ => pb_all (pe_op op_mod (pe_op op_mul (pv 1) (pe_ix (ix_listK K) (pv 2) (pe_op op_sub (pv 4) (pv 0)) (fun _ _ => rfl))) (pv 3))))))))), ?_⟩
  have p2 := pp.1
  have hP := pm_of pp (by omega)
  refine ⟨_, rfl, _, _, rfl, rfl, 1, _, rfl, ⟨by decide, by decide, by omega, by omega⟩, by omega, fun a ha => ?_⟩
  have e1 : rngV 1 ((L : Int) + 1 - 1).toNat = (List.range L).map fun k : Nat => 1 + (k : Int) := by
    unfold rngV
    rw [show ((L : Int) + 1 - 1).toNat = L by omega]
  rw [e1]
  have Ga := Same.new ha (.lst (((List.range L).map fun k : Nat => 1 + (k : Int)).map V.int))
  refine ⟨_, rfl, _, rfl, a, _, L, p, rfl, upd_same, L5, by omega, by omega, fun l H2 l0 S2 hl2 => ?_⟩
  have rg := pmd_rng (show 1 < p by omega) (fun k : Nat => 1 + (k : Int)) L
  have dv := pmd_dvd p (fun k : Nat => 1 + (k : Int)) L
  rw [pr_fac] at dv
  have ne0 : pmd p (fun k : Nat => 1 + (k : Int)) L ≠ 0 := fun z => by
    rw [z] at dv
    obtain ⟨m, hm⟩ := dv
    exact fac_ne hP L Lp ⟨-m, by rw [Int.mul_neg]; omega⟩
  refine ⟨_, rfl, l, _, _, .int (pmd p (fun k : Nat => 1 + (k : Int)) L), rfl, rfl, SqL.of hl2, by rw [prL_succ]; exact atI_last _ _, _, rfl, _, p, rfl, pp, p9, by omega, rg.2, fun g g0 g1 hg => ?_⟩
  have SH2 := Ga.trans S2
  refine ⟨_, rfl, _, rfl, by omega, by omega, fun D hD => ?_⟩
  refine comp_range (fun i H' => H' D = some (.lst (((List.range i).map fun j : Nat => (L : Int) - j).map V.int)) ∧ Same H2 H') ⟨by rw [upd_same]; rfl, Same.new hD _⟩ ?_ ?_
  · rintro i H3 hi ⟨hD3, S3⟩
    refine ⟨_, rfl, _, rfl, _, _, rfl, rfl, _, hD3, ?_, Nx.of hi ⟨?_, fun b o e => ?_⟩⟩
    · rw [List.length_map, List.length_map, List.length_range]
      exact small1000 (by omega)
    · rw [upd_same, List.range_succ, List.map_append, List.map_append, Int.zero_add]
      rfl
    · rw [upd_ne (ne_of_none e hD)]
      exact S3 _ _ e
  rintro H3 ⟨hD3, S3⟩
  rw [show ((L : Int)).toNat = L from Int.toNat_natCast L] at hD3
  refine ⟨_, rfl, D, _, L, p, rfl, hD3, L5, by omega, by omega, fun t H4 t0 S4 ht4 => ?_⟩
  refine ⟨_, rfl, _, _, rfl, rfl, _, rfl, by omega, by omega, fun D2 hD2 => ?_⟩
  refine comp_range (fun i H' => H' D2 = some (.lst (((List.range i).map fun k : Nat => g * pmd p (fun j : Nat => (L : Int) - j) (L - k) % p).map V.int)) ∧ Same H4 H') ⟨by rw [upd_same]; rfl, Same.new hD2 _⟩ ?_ ?_
  · rintro i H5 hi ⟨hD5, S5⟩
    have hi' : i < L + 1 := by omega
    have rg2 := pmd_rng (show 1 < p by omega) (fun j : Nat => (L : Int) - j) (L - i)
    have e2 : (L : Int) - (0 + (i : Int)) = ((L - i : Nat) : Int) := by omega
    refine ⟨_, rfl, _, rfl, _, rfl, _, rfl, _, _, rfl, rfl, t, _, _, .int (pmd p (fun j : Nat => (L : Int) - j) (L - i)), rfl, rfl, SqL.of (S5 _ _ ht4), by rw [e2]; exact prL_at (by omega), _, _, rfl, rfl, .inl ⟨by omega, by omega⟩, _, rfl, _, _, rfl, rfl, (by omega), _, hD5, ?_, Nx.of hi ⟨?_, fun b o e => ?_⟩⟩
    · rw [List.length_map, List.length_map, List.length_range]
      exact small1000 (by omega)
    · rw [upd_same, List.range_succ, List.map_append, List.map_append]
      rfl
    · rw [upd_ne (ne_of_none e hD2)]
      exact S5 _ _ e
  rintro H5 ⟨hD5, S5⟩
  rw [show ((L : Int) + 1).toNat = L + 1 by omega] at hD5
  have S05 := SH2.trans (S3.trans (S4.trans S5))
  refine q D2 H5 (fun k => g * pmd p (fun j : Nat => (L : Int) - j) (L - k) % p) ((SH2.trans (S3.trans S4)).free hD2) S05 (fun k hk => ?_) (fun k => ⟨Int.emod_nonneg _ (by omega), Int.emod_lt_of_pos _ (by omega)⟩) hD5
  obtain ⟨m, rfl⟩ : ∃ m, L = k + m := ⟨L - k, by omega⟩
  rw [show k + m - k = m by omega]
  exact share_ok hg (by omega) dv (pmd_dvd p _ m) (dm p _)
def wt (p : Int) (n i : Nat) : Int := (px (i : Int) i n % p) ^ (p - 2).toNat
theorem wgt_wt {p : Int} (hp : Pm p) {n : Nat} (hn : (n : Int) ≤ p) : Wgt p n (wt p n) := fun i hi => by
  have h1 := own_ne hp hn hi
  obtain ⟨k, hk⟩ := dm p (px (i : Int) i n)
  have h2 : ¬ p ∣ px (i : Int) i n % p := fun ⟨m, hm⟩ => h1 ⟨m - k, by grind⟩
  obtain ⟨m, hm⟩ := fermat hp h2 (Int.emod_nonneg _ (by have := hp.1; omega))
  exact ⟨m - k * (px (i : Int) i n % p) ^ (p - 2).toNat, by unfold wt; grind⟩
/-- what a row stands for at r -/
def val (p : Int) (xs : List Int) (r : Int) : Int := lag (fun i => xs.getD i 0) (wt p xs.length) xs.length r % p
theorem val_of {p t r : Int} {xs : List Int} {u : Nat → Int} (hp : Pm p) (hn : (xs.length : Int) ≤ p) (hu : Wgt p xs.length u) (t0 : 0 ≤ t) (t1 : t < p) (h : p ∣ t - lag (fun i => xs.getD i 0) u xs.length r) : t = val p xs r := by
  have e : p ∣ t - lag (fun i => xs.getD i 0) (wt p xs.length) xs.length r := by
    have := lag_same hp hn (v := fun i => xs.getD i 0) hu (wgt_wt hp hn) r
    have z := Int.dvd_add h this
    have e2 : t - lag (fun i => xs.getD i 0) u xs.length r + (lag (fun i => xs.getD i 0) u xs.length r - lag (fun i => xs.getD i 0) (wt p xs.length) xs.length r) = t - lag (fun i => xs.getD i 0) (wt p xs.length) xs.length r := by omega
    rw [e2] at z
    exact z
  have := md e
  rw [Int.emod_eq_of_lt t0 t1] at this
  exact this
theorem val_rng {p : Int} (hp : 1 < p) (xs : List Int) (r : Int) : 0 ≤ val p xs r ∧ val p xs r < p := ⟨Int.emod_nonneg _ (by omega), Int.emod_lt_of_pos _ (by omega)⟩
theorem val_at {p : Int} {xs : List Int} {k : Nat} (hp : Pm p) (hn : (xs.length : Int) ≤ p) (hk : k < xs.length) : val p xs k = xs.getD k 0 % p := md (lag_at (wgt_wt hp hn) hk)
theorem sgn (m : Nat) : (-1 : Int) ^ m = if m % 2 = 1 then -1 else 1 := by
  induction m with
  | zero => rfl
  | succ m ih =>
    rw [Int.pow_succ, ih]
    by_cases c : m % 2 = 1
    · rw [if_pos c, if_neg (by omega)]
      rfl
    · rw [if_neg c, if_pos (by omega)]
      rfl
theorem vb_step {p r v t s a b c d e : Int} {i m : Nat} {x y : Int} (ht : p ∣ t - s) (ha : p ∣ a - pr (fun j => r - j) i) (hb : p ∣ b - pr (fun j => r - (i + m : Nat) + j) m) (hc : p ∣ c - v * a * b) (hd : p ∣ d - x * y) (he : p ∣ e - (t + (if m % 2 = 1 then -(c * d) else c * d))) :
    p ∣ e - (s + v * px r i (i + m + 1) * ((-1) ^ m * (x * y))) := by
  rw [show i + m + 1 = i + 1 + m by omega, px_split, sgn]
  rw [pr_turn] at hb
  generalize pr (fun j => r - j) i = A at *
  generalize pr (fun j => r - (i + 1 + j : Nat)) m = B at *
  obtain ⟨t', ht⟩ := ht
  obtain ⟨a', ha⟩ := ha
  obtain ⟨b', hb⟩ := hb
  obtain ⟨c', hc⟩ := hc
  obtain ⟨d', hd⟩ := hd
  obtain ⟨e', he⟩ := he
  have e1 : c * d - v * (A * B) * (x * y) = p * (c' * d + v * (a' * b + A * b') * d + v * A * B * d') := by grind
  by_cases z : m % 2 = 1
  · rw [if_pos z] at *
    exact ⟨e' + t' - (c' * d + v * (a' * b + A * b') * d + v * A * B * d'), by grind⟩
  · rw [if_neg z] at *
    exact ⟨e' + t' + (c' * d + v * (a' * b + A * b') * d + v * A * B * d'), by grind⟩
def IntsAt (H : Hp) (a : Addr) (xs : List Int) : Prop := H a = some (.lst (xs.map V.int)) ∨ H a = some (.tup (xs.map V.int))
theorem IntsAt.same {H H' : Hp} {a : Addr} {xs : List Int} (h : IntsAt H a xs) (s : Same H H') : IntsAt H' a xs := h.elim (fun e => .inl (s _ _ e)) (fun e => .inr (s _ _ e))
theorem IntsAt.seq {K : PySem.W.Frag} {H : Hp} {a : Addr} {xs : List Int} (h : IntsAt H a xs) : SqL K H a (xs.map V.int) ∨ SqT K H a (xs.map V.int) := h.elim (fun e => .inl (SqL.of e)) (fun e => .inr (SqT.of e))
theorem IntsAt.ix {K : PySem.W.Frag} {H : Hp} {a : Addr} {xs : List Int} {k : Nat} {Q : VK} (h : IntsAt H a xs) (hk : k < xs.length) (q : Q (.int (xs.getD k 0)) H) : rIxL K (.ref a) (.int (k : Int)) H Q ∨ rIxT K (.ref a) (.int (k : Int)) H Q := by
  have e : atI (xs.map V.int) (k : Int) = some (.int (xs.getD k 0)) := atI_nat (by rw [List.getElem?_map, List.getElem?_eq_getElem hk, List.getD_eq_getElem?_getD, List.getElem?_eq_getElem hk]; rfl)
  rcases h with h | h
  · exact .inl ⟨a, _, _, _, rfl, rfl, SqL.of h, e, q⟩
  · exact .inr ⟨a, _, _, _, rfl, rfl, SqT.of h, e, q⟩
def RowOk (xs : List Int) (p : Int) : Prop := 1 ≤ xs.length ∧ xs.length ≤ 500 ∧ (xs.length : Int) ≤ p ∧ ∀ k, 0 ≤ xs.getD k 0 ∧ xs.getD k 0 < 2 ^ 40
def spVal : Sp := fun vs H Q _ => ∃ (a : Addr) (xs : List Int) (r p : Int), vs = [.ref a, .int r, .int p] ∧ IntsAt H a xs ∧ RowOk xs p ∧ Pr p ∧ p ≤ 999983 ∧ 0 ≤ r ∧ r < p ∧ ∀ H', Same H H' → Q (.int (val p xs r)) H'
theorem sc_value_behind : FnScope ["values", "r", "p", "last", "ahead", "behind", "shares", "total", "place", "share", "part"] ["values", "r", "p"] (defScope s_value_behind) := ⟨rfl, rfl, rfl, by decide +kernel, rfl, by decide +kernel, by decide +kernel⟩
theorem ok_value_behind {f : Addr} {fd : FuncData} (F : Fun K "value_behind" "value_behind" s_value_behind f fd) (B : Bl mg) (C_products : Cal P w K mg base 1 "products" ["numbers", "p"] spProd) (C_inverse_factorials : Cal P w K mg base 2 "inverse_factorials" ["last", "p"] spFacs) : FnOk P w K mg base CX0 3 f fd ["values", "r", "p"] spVal := by
  refine F.ok sc_value_behind (fun vs H Q E h => ?_) (fun cdv A outer s H vs Q E hr h => ?_)
  · obtain ⟨a, xs, r, p, rfl, _⟩ := h
    rfl
  obtain ⟨a, xs, r, p, rfl, ha, ⟨x1, x5, xp, xb⟩, pp, p9, r0, r1, q⟩ := h
  refine ⟨_, (pss_cons (ps_set (i := 3) sc_value_behind.nd rfl (Or.inr rfl) (pe_op op_sub (pe_callB call_len_seq rfl B.len PySem.boot_len (pa_cons (pv 0) pa_nil)) pe_int))
      (pss_cons (ps_set (i := 4) sc_value_behind.nd rfl (Or.inl rfl) (pe_cal C_products hr (by decide) rfl (pa_cons (pe_comp (N := ["r"]) (ix := [1]) rfl
          (CompScope.one (by with_unfolding_all rfl) (by decide) rfl (by decide) rfl (by decide +kernel) (by with_unfolding_all rfl) (by with_unfolding_all rfl) (by with_unfolding_all rfl) rfl rfl) rfl
          (pi_range1 rfl B.range (pa_cons (pv 3) pa_nil)) (fun _ _ _ => pb_all (pe_op op_sub (pv 1) (pv 0)))) (pa_cons (pv 2) pa_nil))))
      (pss_cons (ps_set (i := 5) sc_value_behind.nd rfl (Or.inl rfl) (pe_cal C_products hr (by decide) rfl (pa_cons (pe_comp (N := ["r", "last"]) (ix := [1, 3]) rfl
          (CompScope.two (by with_unfolding_all rfl) (by decide) rfl (by decide) rfl (by decide +kernel) (by first | exact Or.inl rfl | exact Or.inr rfl) (by with_unfolding_all rfl) (by with_unfolding_all rfl) (by with_unfolding_all rfl) (by with_unfolding_all rfl) rfl rfl (by with_unfolding_all rfl) rfl rfl) rfl
          (pi_range1 rfl B.range (pa_cons (pv 3) pa_nil)) (fun _ _ _ => pb_all (pe_op op_add (pe_op op_sub (pv 1) (pv 2)) (pv 0)))) (pa_cons (pv 2) pa_nil))))
      (pss_cons (ps_set (i := 6) sc_value_behind.nd rfl (Or.inl rfl) (pe_cal C_inverse_factorials hr (by decide) rfl (pa_cons (pv 3) (pa_cons (pv 2) pa_nil))))
      (pss_cons (ps_set (i := 7) sc_value_behind.nd rfl (Or.inl rfl) pe_int)
      (pss_cons (ps_for PassesOwn.never rfl (pi_range1 rfl B.range (pa_cons (pe_op op_add (pv 3) pe_int) pa_nil)) (pg_name (i := 8) sc_value_behind.nd rfl (Or.inl rfl)) (pss_cons (ps_set (i := 9) sc_value_behind.nd rfl (Or.inl rfl) (pe_op op_mod (pe_op op_mul (pe_ix ix_list (pv 6) (pv 8) (fun _ _ => rfl)) (pe_ix ix_list (pv 6) (pe_op op_sub (pv 3) (pv 8)) (fun _ _ => rfl))) (pv 2)))
        (pss_cons (ps_set (i := 10) sc_value_behind.nd rfl (Or.inl rfl) (pe_op op_mul (pe_op op_mod (pe_op op_mul (pe_op op_mul (pe_ix (ix_list.or ix_tup) (pv 0) (pv 8) (fun _ _ => rfl)) (pe_ix ix_list (pv 4) (pv 8) (fun _ _ => rfl))) (pe_ix ix_list (pv 5) (pe_op op_sub (pv 3) (pv 8)) (fun _ _ => rfl))) (pv 2)) (pv 9)))
        (pss_cons (ps_if (pt_cmpR op_eq (pe_op op_mod (pe_op op_sub (pv 3) (pv 8)) pe_int) pe_int (nomark _)) (pss_one (ps_set (i := 10) sc_value_behind.nd rfl (Or.inl rfl) (pe_un un_neg (pv 10)))) pss_nil)
        (pss_one (ps_set (i := 7) sc_value_behind.nd rfl (Or.inl rfl) (pe_op op_mod (pe_op op_add (pv 7) (pv 10)) (pv 2))))))))
      (pss_one (ps_ret (pv 7))))))))), ?_⟩
  have p2 := pp.1
  have p1 : 1 < p := by omega
  have p0 : 0 < p := by omega
  have hP := pm_of pp (by omega)
  obtain ⟨L, hL⟩ : ∃ L, xs.length = L + 1 := ⟨xs.length - 1, by omega⟩
  have eL : (((xs.map V.int).length : Nat) : Int) - 1 = (L : Int) := by rw [List.length_map]; omega
  refine ⟨_, rfl, a, _, rfl, ha.seq, _, _, rfl, rfl, ?_⟩
  dsimp only
  rw [eL]
  refine ⟨_, rfl, (L : Int), rfl, by omega, by omega, fun D hD => ?_⟩
  refine comp_range (fun i H' => H' D = some (.lst (((List.range i).map fun j : Nat => r - j).map V.int)) ∧ Same H H') ⟨by rw [upd_same]; rfl, Same.new hD _⟩ ?_ ?_
  · rintro i H3 hi ⟨hD3, S3⟩
    refine ⟨_, rfl, _, rfl, _, _, rfl, rfl, _, hD3, ?_, Nx.of hi ⟨?_, fun b o e => ?_⟩⟩
    · rw [List.length_map, List.length_map, List.length_range]
      exact small1000 (by omega)
    · rw [upd_same, List.range_succ, List.map_append, List.map_append, Int.zero_add]
      rfl
    · rw [upd_ne (ne_of_none e hD)]
      exact S3 _ _ e
  rintro H1 ⟨hD1, S1⟩
  rw [show ((L : Int)).toNat = L from Int.toNat_natCast L] at hD1
  refine ⟨_, rfl, D, _, L, p, rfl, hD1, by omega, p1, by omega, fun la H2 la0 S2 hla => ?_⟩
  refine ⟨_, rfl, (L : Int), rfl, by omega, by omega, fun D2 hD2 => ?_⟩
  refine comp_range (fun i H' => H' D2 = some (.lst (((List.range i).map fun j : Nat => r - (L : Int) + j).map V.int)) ∧ Same H2 H') ⟨by rw [upd_same]; rfl, Same.new hD2 _⟩ ?_ ?_
  · rintro i H3 hi ⟨hD3, S3⟩
    refine ⟨_, rfl, _, rfl, _, _, rfl, rfl, _, rfl, _, _, rfl, rfl, _, hD3, ?_, Nx.of hi ⟨?_, fun b o e => ?_⟩⟩
    · rw [List.length_map, List.length_map, List.length_range]
      exact small1000 (by omega)
    · rw [upd_same, List.range_succ, List.map_append, List.map_append, Int.zero_add]
      rfl
    · rw [upd_ne (ne_of_none e hD2)]
      exact S3 _ _ e
  rintro H3 ⟨hD3, S3⟩
  rw [show ((L : Int)).toNat = L from Int.toNat_natCast L] at hD3
  refine ⟨_, rfl, D2, _, L, p, rfl, hD3, by omega, p1, by omega, fun lb H4 lb0 S4 hlb => ?_⟩
  refine ⟨_, rfl, _, rfl, L, p, rfl, by omega, by omega, pp, p9, fun ls H5 sh ls0 S5 hsh hsr hls => ?_⟩
  have S25 := S3.trans (S4.trans S5)
  have S05 := S1.trans (S2.trans S25)
  have hla5 := S25 _ _ hla
  have hlb5 := S5 _ _ hlb
  have ha5 := ha.same S05
  have hW := wgt_fac hsh
  refine ⟨_, rfl, _, _, rfl, rfl, _, rfl, by omega, by omega, for_range (fun i σ H' => ∃ (t : Int) (x8 x9 x10 : Option V), σ = [some (.ref a), some (.int r), some (.int p), some (.int L), some (.ref la), some (.ref lb), some (.ref ls), some (.int t), x8, x9, x10] ∧ 0 ≤ t ∧ t < p ∧ p ∣ t - sm (fun i => xs.getD i 0 * px r i (L + 1) * ((-1) ^ (L - i) * (sh i * sh (L - i)))) i ∧ H' = H5)
    ⟨0, _, _, _, rfl, by decide, p0, ⟨0, by simp [sm]⟩, rfl⟩ ?_ ?_⟩
  · rintro i σ H6 hi ⟨t, x8, x9, x10, rfl, t0, t1, td, rfl⟩
    have hi' : i < L + 1 := by omega
    obtain ⟨m, hm⟩ : ∃ m, L = i + m := ⟨L - i, by omega⟩
    have e0 : (0 : Int) + (i : Int) = (i : Int) := Int.zero_add _
    have e1 : (L : Int) - (0 + (i : Int)) = (m : Int) := by omega
    have r1' := hsr i
    have r2' := hsr m
    have ar := pmd_rng p1 (fun j : Nat => r - j) i
    have br := pmd_rng p1 (fun j : Nat => r - (L : Int) + j) m
    have xi := xb i
    have m1 : ∀ z : Int, 0 ≤ z % p := fun z => Int.emod_nonneg _ (by omega)
    have m2 : ∀ z : Int, z % p < p := fun z => Int.emod_lt_of_pos _ p0
    refine ⟨_, rfl, _, rfl, ls, _, _, .int (sh i), rfl, rfl, SqL.of hls, by rw [e0]; exact map_at hi', _, rfl, _, rfl, _, rfl, _, _, rfl, rfl, ls, _, _, .int (sh m), rfl, rfl, SqL.of hls, by rw [e1]; exact map_at (by omega), _, _, rfl, rfl, .inl ⟨by omega, by omega⟩, _, rfl, _, _, rfl, rfl, p0, ?_⟩
    refine ⟨_, rfl, _, rfl, ?_⟩
    rw [e0]
    refine ha5.ix (by omega) ?_
    refine ⟨_, rfl, _, rfl, la, _, _, .int (pmd p (fun j : Nat => r - j) i), rfl, rfl, SqL.of hla5, prL_at hi', _, _, rfl, rfl, .inl ⟨by omega, by omega⟩, ?_⟩
    refine ⟨_, rfl, _, rfl, _, rfl, _, _, rfl, rfl, lb, _, _, .int (pmd p (fun j : Nat => r - (L : Int) + j) m), rfl, rfl, SqL.of hlb5, by rw [← e0, e1]; exact prL_at (by omega), _, _, rfl, rfl, .inr ⟨by omega, by omega⟩, _, rfl, _, _, rfl, rfl, p0, ?_⟩
    have s1 := m1 (sh i * sh m)
    have s2 := m2 (sh i * sh m)
    refine ⟨_, rfl, _, _, rfl, rfl, .inr ⟨by omega, by omega⟩, ?_⟩
    refine ⟨_, rfl, _, rfl, _, _, rfl, rfl, _, _, rfl, rfl, (by show (0 : Int) < _; decide), rfl, _, rfl, ?_⟩
    have fin : ∀ z : Int, z = (if m % 2 = 1 then -(xs.getD i 0 * pmd p (fun j : Nat => r - j) i * pmd p (fun j : Nat => r - (L : Int) + j) m % p * (sh i * sh m % p)) else xs.getD i 0 * pmd p (fun j : Nat => r - j) i * pmd p (fun j : Nat => r - (L : Int) + j) m % p * (sh i * sh m % p)) →
        p ∣ (t + z) % p - sm (fun i => xs.getD i 0 * px r i (L + 1) * ((-1) ^ (L - i) * (sh i * sh (L - i)))) (i + 1) := fun z hz => by
      show p ∣ _ - (sm _ i + xs.getD i 0 * px r i (L + 1) * ((-1) ^ (L - i) * (sh i * sh (L - i))))
      have em : L - i = m := by omega
      have hb : p ∣ pmd p (fun j : Nat => r - (L : Int) + j) m - pr (fun j => r - (i + m : Nat) + j) m := by
        rw [← hm]
        exact pmd_dvd p _ m
      subst hz
      rw [em]
      have el : L + 1 = i + m + 1 := by omega
      rw [el] at td ⊢
      exact vb_step td (pmd_dvd p _ i) hb (dm p _) (dm p _) (dm p _)
    by_cases c : m % 2 = 1
    · refine iteD (congrArg V.int (by omega)) ?_
      refine ⟨_, rfl, _, rfl, ?_⟩
      refine ⟨_, rfl, _, rfl, _, _, rfl, rfl, _, rfl, _, _, rfl, rfl, p0, ?_⟩
      exact ⟨_, _, _, _, rfl, m1 _, m2 _, fin _ (by rw [if_pos c]), rfl⟩
    · refine iteDF (fun z => c (by have := V.int.inj z; omega)) ?_
      refine ⟨_, rfl, _, rfl, _, _, rfl, rfl, _, rfl, _, _, rfl, rfl, p0, ?_⟩
      exact ⟨_, _, _, _, rfl, m1 _, m2 _, fin _ (by rw [if_neg c]), rfl⟩
  · rintro σ H6 ⟨t, x8, x9, x10, rfl, t0, t1, td, rfl⟩
    rw [show ((L : Int) + 1).toNat = L + 1 by omega] at td
    rw [← hL] at hW
    have e := val_of (r := r) hP xp hW t0 t1 (by
      unfold lag
      rw [hL]
      exact td)
    rw [e]
    exact ⟨_, rfl, q H6 S05⟩
theorem sc_value_at : FnScope ["values", "r", "p", "place"] ["values", "r", "p"] (defScope s_value_at) := ⟨rfl, rfl, rfl, by decide +kernel, rfl, by decide +kernel, by decide +kernel⟩
theorem ok_value_at {f : Addr} {fd : FuncData} (F : Fun K "value_at" "value_at" s_value_at f fd) (B : Bl mg) (C_value_behind : Cal P w K mg base 3 "value_behind" ["values", "r", "p"] spVal) : FnOk P w K mg base CX0 4 f fd ["values", "r", "p"] spVal := by
  refine F.ok sc_value_at (fun vs H Q E h => ?_) (fun cdv A outer s H vs Q E hr h => ?_)
  · obtain ⟨a, xs, r, p, rfl, _⟩ := h
    rfl
  obtain ⟨a, xs, r, p, rfl, ha, ok, pp, p9, r0, r1, q⟩ := h
  refine ⟨_, (pss_cons (ps_set (i := 3) sc_value_at.nd rfl (Or.inl rfl) (pe_op op_mod (pv 1) (pv 2)))
      (pss_cons (ps_if (pt_cmpR op_lt (pv 3) (pe_callB call_len_seq rfl B.len PySem.boot_len (pa_cons (pv 0) pa_nil)) (nomark _)) (pss_one (ps_ret (pe_op op_mod (pe_ix (ix_list.or ix_tup) (pv 0) (pv 3) (fun _ _ => rfl)) (pv 2)))) pss_nil)
      (pss_one (ps_ret (pe_cal C_value_behind hr (by decide) rfl (pa_cons (pv 0) (pa_cons (pv 3) (pa_cons (pv 2) pa_nil)))))))), ?_⟩
  have p0 : 0 < p := by omega
  have hP := pm_of pp (by omega)
  have er : r % p = r := Int.emod_eq_of_lt r0 r1
  refine ⟨_, rfl, _, rfl, _, _, rfl, rfl, p0, ?_⟩
  dsimp only
  rw [er]
  refine ⟨_, rfl, _, rfl, a, _, rfl, ha.seq, _, _, rfl, rfl, _, rfl, ?_⟩
  refine ite2 (fun c => ?_) (fun c => ?_)
  · have c' := of_decide_eq_true c
    rw [List.length_map] at c'
    obtain ⟨k, rfl⟩ : ∃ k : Nat, r = (k : Int) := ⟨r.toNat, by omega⟩
    refine ⟨_, rfl, _, rfl, ?_⟩
    refine ha.ix (by omega) ?_
    refine ⟨_, rfl, _, _, rfl, rfl, p0, ?_⟩
    show Q (.int (xs.getD k 0 % p)) H
    rw [← val_at hP ok.2.2.1 (by omega)]
    exact q H (Same.refl _)
  · exact ⟨_, rfl, _, rfl, _, rfl, a, xs, r, p, rfl, ha, ok, pp, p9, r0, r1, q⟩
theorem getD_rng {xs : List Int} {p : Int} (p0 : 0 < p) (h : ∀ x ∈ xs, 0 ≤ x ∧ x < p) (k : Nat) : 0 ≤ xs.getD k 0 ∧ xs.getD k 0 < p := by
  rw [List.getD_eq_getElem?_getD]
  cases e : xs[k]? with
  | none => exact ⟨Int.le_refl 0, p0⟩
  | some x => exact h x (List.mem_of_getElem? e)
/-- the rule of a row -/
def rl (p : Int) (xs : List Int) (r : Int) : Int := lag (fun i => xs.getD i 0) (wt p xs.length) xs.length r
theorem rl_poly (p : Int) (xs : List Int) : IsPoly xs.length (rl p xs) := lag_poly _ _ _
theorem emod_iff {p a b : Int} : a % p = b % p ↔ p ∣ a - b := ⟨fun h => by
  have h1 := Int.emod_add_mul_ediv a p
  have h2 := Int.emod_add_mul_ediv b p
  exact ⟨a / p - b / p, by grind⟩, md⟩
theorem val_iff {p : Int} {xs ys : List Int} {r : Int} : val p xs r = val p ys r ↔ p ∣ rl p xs r - rl p ys r := emod_iff
theorem rl_at {p : Int} (hp : Pm p) {xs : List Int} (hn : (xs.length : Int) ≤ p) {k : Nat} (hk : k < xs.length) : p ∣ rl p xs k - xs.getD k 0 := lag_at (wgt_wt hp hn) hk
theorem val_gap {p : Int} (hp : Pm p) {xs ys zs : List Int} (hn : (xs.length : Int) ≤ p) (e1 : ys.length = xs.length) (e2 : zs.length = xs.length) (h : ∀ k, k < xs.length → zs.getD k 0 = (xs.getD k 0 - ys.getD k 0) % p) (r : Int) :
    val p zs r = (val p xs r - val p ys r) % p := by
  have g := lag_gap hp hn (wgt_wt hp hn) (v1 := fun i => xs.getD i 0) (v2 := fun i => ys.getD i 0) (v3 := fun i => zs.getD i 0) (fun k hk => by
    show p ∣ zs.getD k 0 - _
    rw [h k hk]
    exact dm p _) r
  show lag _ (wt p zs.length) zs.length r % p = (lag _ (wt p xs.length) xs.length r % p - lag _ (wt p ys.length) ys.length r % p) % p
  rw [e1, e2]
  generalize lag (fun i => zs.getD i 0) (wt p xs.length) xs.length r = c at *
  generalize lag (fun i => xs.getD i 0) (wt p xs.length) xs.length r = a at *
  generalize lag (fun i => ys.getD i 0) (wt p xs.length) xs.length r = b at *
  obtain ⟨u, hu⟩ := g
  obtain ⟨v, hv⟩ := dm p a
  obtain ⟨w, hw⟩ := dm p b
  exact md ⟨u - v + w, by grind⟩
theorem val_times {p c : Int} (hp : Pm p) {xs zs : List Int} (hn : (xs.length : Int) ≤ p) (e2 : zs.length = xs.length) (h : ∀ k, k < xs.length → zs.getD k 0 = xs.getD k 0 * c % p) (r : Int) :
    val p zs r = val p xs r * c % p := by
  have g := lag_times hp hn (wgt_wt hp hn) (v1 := fun i => xs.getD i 0) (v3 := fun i => zs.getD i 0) (c := c) (fun k hk => by
    show p ∣ zs.getD k 0 - _
    rw [h k hk]
    exact dm p _) r
  show lag _ (wt p zs.length) zs.length r % p = (lag _ (wt p xs.length) xs.length r % p * c) % p
  rw [e2]
  generalize lag (fun i => zs.getD i 0) (wt p xs.length) xs.length r = z at *
  generalize lag (fun i => xs.getD i 0) (wt p xs.length) xs.length r = a at *
  obtain ⟨u, hu⟩ := g
  obtain ⟨v, hv⟩ := dm p a
  exact md ⟨u - v * c, by grind⟩
/-- the numbers of the field at which two rows stand for the same -/
def meets (p : Int) (xs ys : List Int) (i : Nat) : List Int := fnd (fun k => decide (val p xs k = val p ys k)) i
structure Rw (xs : List Int) (p : Int) : Prop where
  one : 1 ≤ xs.length
  few : xs.length ≤ 12
  fits : (xs.length : Int) ≤ p
  rng : ∀ x ∈ xs, 0 ≤ x ∧ x < p
theorem Rw.ok {xs : List Int} {p : Int} (h : Rw xs p) (p0 : 0 < p) (p9 : p ≤ 29) : RowOk xs p := ⟨h.one, by have := h.few; omega, h.fits, fun k => by have := getD_rng p0 h.rng k; omega⟩
theorem gap_poly {p : Int} {xs ys : List Int} (e : ys.length = xs.length) : IsPoly xs.length fun x => rl p xs x - rl p ys x := by
  have h := rl_poly p ys
  rw [e] at h
  exact ((rl_poly p xs).add (h.mul (-1))).congr fun x => by grind
theorem gap_at {p : Int} (hp : Pm p) {xs ys : List Int} (hx : Rw xs p) (hy : Rw ys p) (e : ys.length = xs.length) {k : Nat} (hk : k < xs.length) (hne : xs.getD k 0 ≠ ys.getD k 0) : ¬ p ∣ rl p xs k - rl p ys k := fun d => by
  have p0 : 0 < p := by have := hp.1; omega
  obtain ⟨a, ha⟩ := rl_at hp hx.fits hk
  obtain ⟨b, hb⟩ := rl_at hp hy.fits (show k < ys.length by omega)
  obtain ⟨c, hc⟩ := d
  have hx' := getD_rng p0 hx.rng k
  have hy' := getD_rng p0 hy.rng k
  exact hne (apart_mod hx'.1 hy'.1 hx'.2 hy'.2 ⟨c - a + b, by grind⟩)
theorem meets_rng {p : Int} {xs ys : List Int} {i : Nat} (hi : (i : Int) ≤ p) : ∀ x ∈ meets p xs ys i, 0 ≤ x ∧ x < p := fun x hx => by
  obtain ⟨k, rfl, h1, _⟩ := fnd_mem.mp hx
  omega
theorem meets_few {p : Int} (hp : Pm p) {xs ys : List Int} (hx : Rw xs p) (hy : Rw ys p) (e : ys.length = xs.length) {k i : Nat} (hk : k < xs.length) (hne : xs.getD k 0 ≠ ys.getD k 0) (hi : (i : Int) ≤ p) : (meets p xs ys i).length < xs.length :=
  few (k := 0) hp (gap_poly e) (gap_at hp hx hy e hk hne) (incr_far (fnd_incr _ _) (meets_rng hi)) fun r hr => by
    obtain ⟨j, rfl, _, hj⟩ := fnd_mem.mp hr
    exact val_iff.mp (of_decide_eq_true hj)
theorem fnd_ne_len (a : Nat) : ∀ i, (fnd (fun k => decide (k ≠ a)) i).length = if a < i then i - 1 else i
  | 0 => rfl
  | i + 1 => by
    rw [fnd_succ, List.length_append, fnd_ne_len a i]
    by_cases c : i = a
    · subst c
      simp
    · by_cases c2 : a < i
      · have : a < i + 1 := by omega
        simp [c, c2, this]
        omega
      · have : ¬ a < i + 1 := by omega
        simp [c, c2, this]
theorem meets_one {p : Int} (hp : Pm p) {xs ys : List Int} (hx : Rw xs p) (hy : Rw ys p) (e : ys.length = xs.length) {a : Nat} (ha : a < xs.length) (hne : xs.getD a 0 ≠ ys.getD a 0) (hs : ∀ k, k ≠ a → xs.getD k 0 = ys.getD k 0) :
    fnd (fun k => decide (k ≠ a)) xs.length = meets p xs ys p.toNat := by
  have hn := hx.fits
  have same : ∀ k, k < xs.length → k ≠ a → p ∣ rl p xs k - rl p ys k := fun k hk hka => by
    obtain ⟨u, hu⟩ := rl_at hp hx.fits hk
    obtain ⟨v, hv⟩ := rl_at hp hy.fits (show k < ys.length by omega)
    have := hs k hka
    exact ⟨u - v, by grind⟩
  refine incr_eq (fnd_incr _ _) (fnd_incr _ _) fun x => ?_
  constructor
  · intro h
    obtain ⟨k, rfl, hk, hka⟩ := fnd_mem.mp h
    exact fnd_mem.mpr ⟨k, rfl, by omega, decide_eq_true (val_iff.mpr (same k hk (of_decide_eq_true hka)))⟩
  · intro h
    obtain ⟨k, rfl, hk, hka⟩ := fnd_mem.mp h
    have d := val_iff.mp (of_decide_eq_true hka)
    have ne : k ≠ a := fun z => by
      subst z
      exact gap_at hp hx hy e ha hne d
    refine fnd_mem.mpr ⟨k, rfl, Nat.lt_of_not_le fun c => ?_, decide_eq_true ne⟩
    have hf := few (k := 0) hp (gap_poly e) (gap_at hp hx hy e ha hne) (rs := fnd (fun k => decide (k ≠ a)) xs.length ++ [(k : Int)])
      (incr_far (p := p) (List.pairwise_append.mpr ⟨fnd_incr _ _, List.pairwise_singleton _ _, fun u hu v hv => by
        obtain ⟨j, rfl, hj, _⟩ := fnd_mem.mp hu
        rw [List.mem_singleton.mp hv]
        omega⟩) fun u hu => by
        rcases List.mem_append.mp hu with h | h
        · obtain ⟨j, rfl, hj, _⟩ := fnd_mem.mp h
          omega
        · rw [List.mem_singleton.mp h]
          omega)
      fun u hu => by
        rcases List.mem_append.mp hu with h | h
        · obtain ⟨j, rfl, hj, hja⟩ := fnd_mem.mp h
          exact same j hj (of_decide_eq_true hja)
        · rw [List.mem_singleton.mp h]
          exact d
    rw [List.length_append, fnd_ne_len, if_pos ha, List.length_singleton] at hf
    omega
theorem strict_of {l : List Int} (h : l.Pairwise (· ≤ ·)) (hn : l.Nodup) : l.Pairwise (· < ·) := (h.and hn).imp fun h => by omega
theorem meets_prod {p c : Int} (hp : Pm p) {xs ys rs ms : List Int} (hx : Rw xs p) (hy : Rw ys p) (e : ys.length = xs.length) (hc : ¬ p ∣ c) (hn : rs.Nodup) (hr : ∀ r ∈ rs, 0 ≤ r ∧ r < p) (hl : rs.length < xs.length)
    (h : ∀ k, k < xs.length → ys.getD k 0 = (xs.getD k 0 + pRm p k c rs) % p) (hm : List.Perm ms rs) (ho : ms.Pairwise (· ≤ ·)) : ms = meets p xs ys p.toNat := by
  have p0 : 0 < p := by have := hp.1; omega
  have hP : IsPoly xs.length fun x => rl p xs x + c * pRt x rs := (rl_poly p xs).add (((pRt_poly rs).upTo _ (by omega)).mul c)
  have al : ∀ x, p ∣ rl p ys x - (rl p xs x + c * pRt x rs) := by
    have hyp := rl_poly p ys
    rw [e] at hyp
    refine alike hp hx.fits hyp hP fun k hk => ?_
    obtain ⟨u, hu⟩ := rl_at hp hx.fits hk
    obtain ⟨v, hv⟩ := rl_at hp hy.fits (show k < ys.length by omega)
    obtain ⟨w, hw⟩ := pRm_dvd p k c rs
    obtain ⟨z, hz⟩ := dm p (xs.getD k 0 + pRm p k c rs)
    rw [← h k hk] at hz
    exact ⟨v + z + w - u, by grind⟩
  have iff : ∀ x, val p xs x = val p ys x ↔ ∃ r ∈ rs, p ∣ x - r := fun x => by
    rw [val_iff]
    obtain ⟨u, hu⟩ := al x
    constructor
    · rintro ⟨v, hv⟩
      exact pRt_zero hp (hp.mul (a := c) ⟨-u - v, by grind⟩ hc)
    · rintro ⟨r, hr, w, hw⟩
      have : p ∣ pRt x rs := by
        have z := pRt_root hr
        obtain ⟨q, _, hq⟩ := (pRt_poly rs).div r
        have := hq x
        exact ⟨w * q x, by grind⟩
      obtain ⟨v, hv⟩ := this
      exact ⟨-u - c * v, by grind⟩
  refine incr_eq (strict_of ho (hm.nodup_iff.mpr hn)) (fnd_incr _ _) fun x => ?_
  rw [hm.mem_iff]
  constructor
  · intro hx'
    have b := hr x hx'
    refine fnd_mem.mpr ⟨x.toNat, by omega, by omega, decide_eq_true ?_⟩
    rw [show ((x.toNat : Nat) : Int) = x by omega]
    exact (iff x).mpr ⟨x, hx', 0, by simp⟩
  · intro hx'
    obtain ⟨k, rfl, hk, hka⟩ := fnd_mem.mp hx'
    obtain ⟨r, hr', d⟩ := (iff k).mp (of_decide_eq_true hka)
    have b := hr r hr'
    rw [apart_mod (by omega) b.1 (by omega) b.2 d]
    exact hr'
theorem pr_29 : Pr 29 := pr_of_b (by decide +kernel)
def spPrime9 : Sp := fun vs H Q _ => ∃ (f : Addr) (m : Int), vs = [.ref f, .int m] ∧ FeedAt H f ∧ 1 ≤ m ∧ m ≤ 12 ∧ ∀ (p : Int) (H' : Hp), Pr p → 3 ≤ p → m ≤ p → p ≤ 29 → FeedAt H' f → SameBut f H H' → Q (.int p) H'
theorem sc_l_prime : FnScope ["_law_feed_here", "_law_least", "_law_number"] ["_law_feed_here", "_law_least"] (defScope s_l_prime) := ⟨rfl, rfl, rfl, by decide +kernel, rfl, by decide +kernel, by decide +kernel⟩
theorem ok_l_prime {f : Addr} {fd : FuncData} (F : Fun K "_law_prime" "_law_prime" s_l_prime f fd) (B : Bl mg) (C_l_take : Cal P w K mg base 1 "_law_take" ["_law_feed_here", "_law_many"] spTake) (C_l_is_prime : Cal P w K mg base 1 "_law_is_prime" ["_law_number"] spPrimeB) : FnOk P w K mg base CX0 2 f fd ["_law_feed_here", "_law_least"] spPrime9 := by
  refine F.ok sc_l_prime (fun vs H Q E h => ?_) (fun cdv A outer s H vs Q E hr h => ?_)
  · obtain ⟨f, m, rfl, _⟩ := h
    rfl
  obtain ⟨f, m, rfl, hF, m1, m12, q⟩ := h
  refine ⟨_, (pss_cons (ps_set (i := 2) sc_l_prime.nd rfl (Or.inl rfl) (pe_op op_add (pe_callB (call_max2 rfl) rfl B.max PyProof.Rows.boot_max (pa_cons pe_int (pa_cons (pv 1) pa_nil))) (pe_cal C_l_take hr (by decide) rfl (pa_cons (pv 0) (pa_cons pe_int pa_nil)))))
      (pss_cons (ps_while PassesOwn.never (pt_not (pt_val (pe_cal C_l_is_prime hr (by decide) rfl (pa_cons (pv 2) pa_nil)))) (pss_one (ps_set (i := 2) sc_l_prime.nd rfl (Or.inl rfl) (pe_op op_add (pv 2) pe_int))))
      (pss_one (ps_ret (pv 2))))), ?_⟩
  refine ⟨_, rfl, _, _, rfl, ?_⟩
  obtain ⟨b, eb, b0, b1, b2⟩ : ∃ b : Int, (if m > 3 then m else 3) = b ∧ 3 ≤ b ∧ m ≤ b ∧ b ≤ 12 := ⟨_, rfl, by split <;> omega, by split <;> omega, by split <;> omega⟩
  rw [eb]
  refine ⟨_, rfl, f, 12, rfl, hF, by decide, by decide, fun d1 H3 a1 b1 F3 S => ?_⟩
  refine ⟨_, _, rfl, rfl, ?_⟩
  refine ⟨fun mm σ H' => ∃ n : Int, σ = [some (.ref f), some (.int m), some (.int n)] ∧ H' = H3 ∧ b ≤ n ∧ n ≤ 29 ∧ mm = (29 - n).toNat, ⟨_, _, rfl, rfl, by omega, by omega, rfl⟩, ?_⟩
  rintro mm σ H' ⟨n, rfl, rfl, k0, k1, rfl⟩
  refine ⟨_, rfl, n, rfl, fun b hb => ⟨b, rfl, ?_⟩⟩
  cases b with
  | true =>
    refine iteF ?_
    exact ⟨_, rfl, q n _ (hb.mp rfl) (by omega) (by omega) k1 F3 S⟩
  | false =>
    refine iteT ?_
    refine ⟨_, fun _ _ h => h, ?_⟩
    have ne : n ≠ 29 := fun z => by
      subst z
      exact nomatch hb.mpr pr_29
    refine ⟨_, rfl, _, _, rfl, rfl, ?_⟩
    exact ⟨_, by omega, n + 1, rfl, rfl, by omega, by omega, rfl⟩
def spPro : Sp := fun vs H Q _ => ∃ (a : Addr) (rs : List Int) (x c p : Int), vs = [.ref a, .int x, .int c, .int p] ∧ H a = some (.lst (rs.map V.int)) ∧ 0 ≤ c ∧ c < p ∧ p ≤ 29 ∧ Q (.int (pRm p x c rs)) H
theorem sc_l_product : FnScope ["_law_roots", "_law_x", "_law_share", "_law_p", "_law_found", "_law_root"] ["_law_roots", "_law_x", "_law_share", "_law_p"] (defScope s_l_product) := ⟨rfl, rfl, rfl, by decide +kernel, rfl, by decide +kernel, by decide +kernel⟩
theorem ok_l_product {f : Addr} {fd : FuncData} (F : Fun K "_law_product" "_law_product" s_l_product f fd) : FnOk P w K mg base CX0 1 f fd ["_law_roots", "_law_x", "_law_share", "_law_p"] spPro := by
  refine F.ok sc_l_product (fun vs H Q E h => ?_) (fun cdv A outer s H vs Q E hr h => ?_)
  · obtain ⟨a, rs, x, c, p, rfl, _⟩ := h
    rfl
  obtain ⟨a, rs, x, c, p, rfl, ha, c0, c1, p9, q⟩ := h
  refine ⟨_, (pss_cons (ps_set (i := 4) sc_l_product.nd rfl (Or.inl rfl) (pv 2))
      (pss_cons (ps_for PassesOwn.never rfl (pi_list (pv 0)) (pg_name (i := 5) sc_l_product.nd rfl (Or.inl rfl)) (pss_one (ps_set (i := 4) sc_l_product.nd rfl (Or.inl rfl) (pe_op op_mod (pe_op op_mul (pv 4) (pe_op op_sub (pv 1) (pv 5))) (pv 3)))))
      (pss_one (ps_ret (pv 4))))), ?_⟩
  have p0 : 0 < p := by omega
  refine ⟨_, rfl, _, rfl, a, rfl, ⟨_, SqL.of ha⟩, for_list (K := K) (xs := rs.map V.int) (fun i σ H' => ∃ x5 : Option V, σ = [some (.ref a), some (.int x), some (.int c), some (.int p), some (.int (pRm p x c (rs.take i))), x5] ∧ H' = H) ⟨_, rfl, rfl⟩ (fun i σ H' _ hst => by obtain ⟨_, _, h⟩ := hst; rw [h]; exact SqL.of ha) ?_ ?_⟩
  · rintro i z σ H2 hz ⟨x5, rfl, rfl⟩
    rw [List.getElem?_map] at hz
    obtain ⟨r, hr', rfl⟩ := Option.map_eq_some_iff.mp hz
    have b := pRm_rng (x := x) p0 (rs.take i) c0 c1
    refine ⟨_, rfl, _, rfl, _, rfl, _, _, rfl, rfl, _, _, rfl, rfl, .inl ⟨by omega, by omega⟩, _, rfl, _, _, rfl, rfl, p0, ?_⟩
    refine ⟨some (.int r), ?_, rfl⟩
    rw [List.take_add_one, hr']
    show _ = [_, _, _, _, some (V.int (pRm p x c (rs.take i ++ [r]))), _]
    rw [pRm_snoc]
    rfl
  · rintro σ H2 ⟨x5, rfl, rfl⟩
    rw [List.length_map, List.take_length]
    exact ⟨_, rfl, q⟩
/-- the numbers at which they meet, or none told -/
def MeetAt (H : Hp) (v : V) (xs ys : List Int) (p : Int) : Prop := v = .non ∨ ∃ l, v = .ref l ∧ H l = some (.lst ((meets p xs ys p.toNat).map V.int))
theorem MeetAt.same {H H' : Hp} {v : V} {xs ys : List Int} {p : Int} (h : MeetAt H v xs ys p) (s : Same H H') : MeetAt H' v xs ys p := h.elim .inl fun ⟨l, e, hl⟩ => .inr ⟨l, e, s _ _ hl⟩
theorem MeetAt.but {H H' : Hp} {v : V} {xs ys : List Int} {p : Int} {f : Addr} (h : MeetAt H v xs ys p) (hn : ∀ l, v = .ref l → l ≠ f) (s : SameBut f H H') : MeetAt H' v xs ys p := h.elim .inl fun ⟨l, e, hl⟩ => .inr ⟨l, e, s _ _ (hn l e) hl⟩
def spRight : Sp := fun vs H Q _ => ∃ (a b : Addr) (mv : V) (xs ys : List Int) (c p : Int), vs = [.ref a, .ref b, mv, .int c, .int p] ∧ H a = some (.lst (xs.map V.int)) ∧ H b = some (.lst (ys.map V.int)) ∧ Rw xs p ∧ Rw ys p ∧ ys.length = xs.length ∧
  (∃ k, k < xs.length ∧ xs.getD k 0 ≠ ys.getD k 0) ∧ MeetAt H mv xs ys p ∧ 0 ≤ c ∧ c < p ∧ Pr p ∧ p ≤ 29 ∧ ∀ H', Same H H' → Q (.bl true) H'
theorem getD_map {g : Nat → Int} {n k : Nat} (h : k < n) : ((List.range n).map g).getD k 0 = g k := by
  rw [List.getD_eq_getElem?_getD, List.getElem?_map, List.getElem?_range h]
  rfl
theorem gmap_at {g : Int → Int} {xs : List Int} {k : Nat} (h : k < xs.length) : (xs.map g).getD k 0 = g (xs.getD k 0) := by
  rw [List.getD_eq_getElem?_getD, List.getElem?_map, List.getD_eq_getElem?_getD, List.getElem?_eq_getElem h]
  rfl
theorem at_row {xs : List Int} {k : Nat} (hk : k < xs.length) : atI (xs.map V.int) (k : Int) = some (.int (xs.getD k 0)) := atI_nat (by rw [List.getElem?_map, List.getElem?_eq_getElem hk, List.getD_eq_getElem?_getD, List.getElem?_eq_getElem hk]; rfl)
theorem shaped_li (ns : List Int) : SeqAt.shaped (.list (ns.map PyData.int)) = true := by
  simp [SeqAt.shaped, PyData.canLay0, PyData.depth, PySem.W.ke_canLayAll0, PySem.W.ke_depthAll]
theorem eqv_li (ns ms : List Int) : PyData.eqv (.list (ns.map PyData.int)) (.list (ms.map PyData.int)) = decide (ns = ms) := by simp [PyData.eqv, eqvAll_ints]
theorem sc_l_right : FnScope ["_law_row", "_law_other_here", "_law_meets", "_law_share", "_law_p", "_law_found", "_law_gaps", "_law_times", "_law_r", "_law_one", "_law_two"] ["_law_row", "_law_other_here", "_law_meets", "_law_share", "_law_p"] (defScope s_l_right) := ⟨rfl, rfl, rfl, by decide +kernel, rfl, by decide +kernel, by decide +kernel⟩
theorem ok_l_right {f : Addr} {fd : FuncData} (F : Fun K "_law_right" "_law_right" s_l_right f fd) (B : Bl mg) (C_value_at : Cal P w K mg base 4 "value_at" ["values", "r", "p"] spVal) : FnOk P w K mg base CX0 5 f fd ["_law_row", "_law_other_here", "_law_meets", "_law_share", "_law_p"] spRight := by
  refine F.ok sc_l_right (fun vs H Q E h => ?_) (fun cdv A outer s H vs Q E hr h => ?_)
  · obtain ⟨a, b, mv, xs, ys, c, p, rfl, _⟩ := h
    rfl
  obtain ⟨a, b, mv, xs, ys, c, p, rfl, ha, hb, hx, hy, el, ⟨k0, hk0, hne⟩, hm, c0, c1, pp, p9, q⟩ := h
  refine ⟨_, (pss_cons (ps_set (i := 5) sc_l_right.nd rfl (Or.inl rfl) (pe_lst pa_nil))
      (pss_cons (ps_comp (i := 6) (N := ["_law_row", "_law_p", "_law_other_here"]) (ix := [0, 4, 1]) sc_l_right.nd rfl (Or.inl rfl) rfl
            (CompScope.three (by with_unfolding_all rfl) (by decide) rfl (by decide) rfl (by decide +kernel) rfl (by with_unfolding_all rfl) (by with_unfolding_all rfl) (by with_unfolding_all rfl) (by with_unfolding_all rfl) (by with_unfolding_all rfl) rfl rfl (by with_unfolding_all rfl) rfl rfl (by with_unfolding_all rfl) rfl rfl) rfl
            (pi_range1 rfl B.range (pa_cons (pe_callB call_len_seq rfl B.len PySem.boot_len (pa_cons (pv 0) pa_nil)) pa_nil)) (fun _ _ _ => pb_all (pe_op op_mod (pe_op op_sub (pe_ix (ix_listK K) (pv 1) (pv 0) (fun _ _ => rfl)) (pe_ix (ix_listK K) (pv 3) (pv 0) (fun _ _ => rfl))) (pv 2))))
      (pss_cons (ps_comp (i := 7) (N := ["_law_share", "_law_p"]) (ix := [3, 4]) sc_l_right.nd rfl (Or.inl rfl) rfl
            (CompScope.two (by with_unfolding_all rfl) (by decide) rfl (by decide) rfl (by decide +kernel) (by first | exact Or.inl rfl | exact Or.inr rfl) (by with_unfolding_all rfl) (by with_unfolding_all rfl) (by with_unfolding_all rfl) (by with_unfolding_all rfl) rfl rfl (by with_unfolding_all rfl) rfl rfl) rfl
            (pi_list (pv 0)) (fun _ _ _ => pb_all (pe_op op_mod (pe_op op_mul (pv 0) (pv 1)) (pv 2))))
      (pss_cons (ps_for PassesOwn.never rfl (pi_range1 rfl B.range (pa_cons (pv 4) pa_nil)) (pg_name (i := 8) sc_l_right.nd rfl (Or.inl rfl)) (pss_cons (ps_set (i := 9) sc_l_right.nd rfl (Or.inl rfl) (pe_cal C_value_at hr (by decide) rfl (pa_cons (pv 0) (pa_cons (pv 8) (pa_cons (pv 4) pa_nil)))))
        (pss_cons (ps_set (i := 10) sc_l_right.nd rfl (Or.inl rfl) (pe_cal C_value_at hr (by decide) rfl (pa_cons (pv 1) (pa_cons (pv 8) (pa_cons (pv 4) pa_nil)))))
        (pss_cons (ps_if (pt_cmpR op_eq (pv 9) (pv 10) (nomark _)) (pss_one (ps_expr (pe_bm PySem.F.plainAttrs_list PySem.F.slot_list_append PySem.F.type_list_append mt_append (pv 5) (pa_cons (pv 8) pa_nil)))) pss_nil)
        (pss_one (ps_if (PW.pt (pw_or (pt_cmpR op_ne (pe_cal C_value_at hr (by decide) rfl (pa_cons (pv 6) (pa_cons (pv 8) (pa_cons (pv 4) pa_nil)))) (pe_op op_mod (pe_op op_sub (pv 9) (pv 10)) (pv 4)) (nomark _)) (pw_or1 (pt_cmpR op_ne (pe_cal C_value_at hr (by decide) rfl (pa_cons (pv 7) (pa_cons (pv 8) (pa_cons (pv 4) pa_nil)))) (pe_op op_mod (pe_op op_mul (pv 9) (pv 3)) (pv 4)) (nomark _))))) (pss_one (ps_ret pe_bl)) pss_nil))))))
      (pss_one (ps_ret (pe_and (pe_cmpR op_lt (pe_callB call_len_seq rfl B.len PySem.boot_len (pa_cons (pv 5) pa_nil)) (pe_callB call_len_seq rfl B.len PySem.boot_len (pa_cons (pv 0) pa_nil)) (nomark _)) (pe_one (pe_or (pe_cmpR op_isN (pv 2) pe_non (nomark _)) (pe_one (pe_cmpR (op_eqD hr.units) (pv 5) (pv 2) (nomark _)))))))))))), ?_⟩
  have p2 := pp.1
  have p0 : 0 < p := by omega
  have hP := pm_of pp (by omega)
  have x1 := hx.one
  have x2 := hx.few
  have x3 := hx.fits
  refine ⟨Nat.zero_le _, fun fo hfo => ?_⟩
  have Gf := Same.new hfo (.lst [])
  have hf1 : upd H fo (.lst []) fo = some (.lst ((meets p xs ys 0).map V.int)) := upd_same
  generalize upd H fo (.lst []) = H1 at Gf hf1
  have fa : fo ≠ a := fun z => by rw [z, ha] at hfo; cases hfo
  have fb : fo ≠ b := fun z => by rw [z, hb] at hfo; cases hfo
  have ha1 := Gf _ _ ha
  have hb1 := Gf _ _ hb
  refine ⟨_, rfl, a, _, rfl, .inl (SqL.of ha1), ?_⟩
  rw [List.length_map]
  refine ⟨(xs.length : Int), rfl, by omega, by omega, fun D hD => ?_⟩
  refine comp_range (fun i H' => H' D = some (.lst (((List.range i).map fun k : Nat => (xs.getD k 0 - ys.getD k 0) % p).map V.int)) ∧ Same H1 H') ⟨by rw [upd_same]; rfl, Same.new hD _⟩ ?_ ?_
  · rintro i H3 hi ⟨hD3, S3⟩
    have hi' : i < xs.length := by omega
    rw [Int.zero_add]
    refine ⟨_, rfl, _, rfl, a, _, _, _, rfl, rfl, SqL.of (S3 _ _ ha1), at_row hi', _, rfl, _, rfl, b, _, _, _, rfl, rfl, SqL.of (S3 _ _ hb1), at_row (by omega), _, _, rfl, rfl, _, rfl, _, _, rfl, rfl, p0, ?_⟩
    refine ⟨_, hD3, ?_, Nx.of hi ⟨?_, fun b o e => ?_⟩⟩
    · rw [List.length_map, List.length_map, List.length_range]
      exact small1000 (by omega)
    · rw [upd_same, List.range_succ, List.map_append, List.map_append]
      rfl
    · rw [upd_ne (ne_of_none e hD)]
      exact S3 _ _ e
  rintro H2 ⟨hD2, S2⟩
  rw [Int.toNat_natCast] at hD2
  have fD : fo ≠ D := fun z => by rw [← z, hf1] at hD; cases hD
  have hf2 := S2 _ _ hf1
  have ha2 := S2 _ _ ha1
  have hb2 := S2 _ _ hb1
  refine ⟨_, rfl, a, rfl, ⟨_, SqL.of ha2⟩, fun D2 hD2' => ?_⟩
  refine comp_list (K := K) (xs := xs.map V.int) (fun i H' => H' D2 = some (.lst (((xs.take i).map fun x => x * c % p).map V.int)) ∧ Same H2 H') ⟨by rw [upd_same]; rfl, Same.new hD2' _⟩ (fun i H' _ h => SqL.of (h.2 _ _ ha2)) ?_ ?_
  · rintro i z H3 hz ⟨hD3, S3⟩
    have hi := (List.getElem?_eq_some_iff.mp hz).1
    rw [List.getElem?_map] at hz
    obtain ⟨x, hx', rfl⟩ := Option.map_eq_some_iff.mp hz
    have bx := hx.rng x (List.mem_of_getElem? hx')
    refine ⟨_, rfl, _, rfl, _, _, rfl, rfl, .inl ⟨by omega, by omega⟩, _, rfl, _, _, rfl, rfl, p0, ?_⟩
    refine ⟨_, hD3, ?_, Nx.of hi ⟨?_, fun b o e => ?_⟩⟩
    · rw [List.length_map, List.length_map, List.length_take]
      exact small1000 (by omega)
    · rw [upd_same, List.take_add_one, hx', List.map_append, List.map_append]
      rfl
    · rw [upd_ne (ne_of_none e hD2')]
      exact S3 _ _ e
  rintro H3 ⟨hT3, S3⟩
  rw [List.length_map, List.take_length] at hT3
  have hD3 := S3 _ _ hD2
  have hf3 := S3 _ _ hf2
  have ha3 := S3 _ _ ha2
  have hb3 := S3 _ _ hb2
  have fD2 : fo ≠ D2 := fun z => by rw [← z, hf2] at hD2'; cases hD2'
  obtain ⟨gs, eg⟩ : ∃ gs : List Int, gs = (List.range xs.length).map fun k : Nat => (xs.getD k 0 - ys.getD k 0) % p := ⟨_, rfl⟩
  obtain ⟨ts, et⟩ : ∃ ts : List Int, ts = xs.map fun x => x * c % p := ⟨_, rfl⟩
  rw [← eg] at hD3
  rw [← et] at hT3
  have gl : gs.length = xs.length := by rw [eg, List.length_map, List.length_range]
  have tl : ts.length = xs.length := by rw [et, List.length_map]
  have hg : Rw gs p := ⟨by omega, by omega, by omega, fun x hx => by
    rw [eg] at hx
    obtain ⟨k, _, rfl⟩ := List.mem_map.mp hx
    exact ⟨Int.emod_nonneg _ (by omega), Int.emod_lt_of_pos _ p0⟩⟩
  have ht : Rw ts p := ⟨by omega, by omega, by omega, fun x hx => by
    rw [et] at hx
    obtain ⟨k, _, rfl⟩ := List.mem_map.mp hx
    exact ⟨Int.emod_nonneg _ (by omega), Int.emod_lt_of_pos _ p0⟩⟩
  have vg := val_gap hP x3 el gl fun k hk => by rw [eg]; exact getD_map hk
  have vt := val_times (c := c) hP x3 tl fun k hk => by rw [et]; exact gmap_at hk
  clear eg et
  have S03 := Gf.trans (S2.trans S3)
  refine ⟨_, rfl, p, rfl, by omega, by omega, for_range (fun i σ H' => ∃ x8 x9 x10 : Option V, σ = [some (.ref a), some (.ref b), some mv, some (.int c), some (.int p), some (.ref fo), some (.ref D), some (.ref D2), x8, x9, x10] ∧ SameBut fo H3 H' ∧ H' fo = some (.lst ((meets p xs ys i).map V.int))) ⟨_, _, _, rfl, SameBut.refl _ _, hf3⟩ ?_ ?_⟩
  · rintro i σ H4 hi ⟨x8, x9, x10, rfl, S4, hf4⟩
    rw [Int.zero_add]
    have hi' : (i : Int) < p := by omega
    refine ⟨_, rfl, _, rfl, _, rfl, a, xs, (i : Int), p, rfl, .inl (S4 _ _ (Ne.symm fa) ha3), hx.ok p0 p9, pp, by omega, by omega, hi', fun H5 S5 => ?_⟩
    have S45 := S4.trans (SameBut.of S5)
    refine ⟨_, rfl, _, rfl, _, rfl, b, ys, (i : Int), p, rfl, .inl (S45 _ _ (Ne.symm fb) hb3), hy.ok p0 p9, pp, by omega, by omega, hi', fun H6 S6 => ?_⟩
    have S46 := S45.trans (SameBut.of S6)
    have hf6 := S6 _ _ (S5 _ _ hf4)
    have ln := fnd_len (fun k => decide (val p xs k = val p ys k)) i
    refine ⟨_, rfl, _, rfl, rfl, _, rfl, ?_⟩
    refine ite2 (fun c8 => ?b1) (fun c8 => ?b2)
    case' b1 =>
      have c9 := V.int.inj (of_decide_eq_true c8)
      refine ⟨_, rfl, .inl ⟨rfl, _, SqL.of hf6⟩, _, rfl, fo, _, _, rfl, rfl, hf6, ?_, ?_⟩
      · rw [List.length_map]
        exact small1000 (by unfold meets; omega)
      have hf7 : upd H6 fo (.lst ((meets p xs ys i).map V.int ++ [.int i])) fo = some (.lst ((meets p xs ys (i + 1)).map V.int)) := by
        unfold meets
        rw [upd_same, fnd_succ, if_pos (decide_eq_true c9), List.map_append]
        rfl
      have S7 : SameBut fo H3 (upd H6 fo (.lst ((meets p xs ys i).map V.int ++ [.int i]))) := S46.trans (SameBut.upd _)
      generalize upd H6 fo (.lst ((meets p xs ys i).map V.int ++ [.int i])) = H7 at hf7 S7
    case' b2 =>
      have c9 : ¬ val p xs i = val p ys i := fun z => c8 (decide_eq_true (congrArg V.int z))
      have hf7 : H6 fo = some (.lst ((meets p xs ys (i + 1)).map V.int)) := by
        unfold meets
        rw [fnd_succ, if_neg (fun z => c9 (of_decide_eq_true z)), List.append_nil]
        exact hf6
      have S7 := S46
      generalize H6 = H7 at hf7 S7
    all_goals
      refine ⟨_, rfl, _, rfl, _, rfl, D, gs, (i : Int), p, rfl, .inl (S7 _ _ (Ne.symm fD) hD3), hg.ok p0 p9, pp, by omega, by omega, hi', fun H8 S8 => ?_⟩
      have S78 := S7.trans (SameBut.of S8)
      refine ⟨_, rfl, _, rfl, _, _, rfl, rfl, _, rfl, _, _, rfl, rfl, p0, rfl, _, rfl, ?_⟩
      refine iteNS (congrArg V.int (vg i)) ?_
      refine ⟨_, rfl, _, rfl, _, rfl, D2, ts, (i : Int), p, rfl, .inl (S78 _ _ (Ne.symm fD2) hT3), ht.ok p0 p9, pp, by omega, by omega, hi', fun H9 S9 => ?_⟩
      have vr := val_rng (show 1 < p by omega) xs (i : Int)
      refine ⟨_, rfl, _, rfl, _, _, rfl, rfl, .inl ⟨by omega, by omega⟩, _, rfl, _, _, rfl, rfl, p0, rfl, _, rfl, ?_⟩
      refine iteNS (congrArg V.int (vt i)) ?_
      exact ⟨_, _, _, rfl, S78.trans (SameBut.of S9), S9 _ _ (S8 _ _ hf7)⟩
  · rintro σ H4 ⟨x8, x9, x10, rfl, S4, hf4⟩
    have ha4 := S4 _ _ (Ne.symm fa) ha3
    have lt := meets_few hP hx hy el hk0 hne (i := p.toNat) (by omega)
    have S04 : Same H H4 := fun u o e => S4 u o (ne_of_none e hfo) (S03 u o e)
    refine ⟨_, rfl, fo, _, rfl, .inl (SqL.of hf4), _, rfl, a, _, rfl, .inl (SqL.of ha4), _, _, rfl, rfl, true, ?_, iteT ?_⟩
    · rw [List.length_map, List.length_map]
      exact congrArg V.bl (decide_eq_true (by omega))
    rcases hm.same S04 with e | ⟨l, e, hl⟩
    · subst e
      exact ⟨_, rfl, rfl, true, rfl, iteT (q H4 S04)⟩
    · subst e
      refine ⟨_, rfl, rfl, false, rfl, iteF ?_⟩
      refine ⟨_, rfl, _, rfl, _, _, .lst (SqL.of hf4) (rep_ints _), .lst (SqL.of hl) (rep_ints _), shaped_li _, shaped_li _, ?_⟩
      rw [eqv_li, decide_eq_true rfl]
      exact q H4 S04
theorem add_ne {x m p : Int} (x0 : 0 ≤ x) (x1 : x < p) (m0 : 1 ≤ m) (m1 : m < p) : x ≠ (x + m) % p := fun h => by
  have e := Int.emod_add_mul_ediv (x + m) p
  have := Int.le_of_dvd (by omega) (show p ∣ m from ⟨(x + m) / p, by omega⟩)
  omega
theorem getD_set {xs : List Int} {k j : Nat} {v : Int} (hk : k < xs.length) : (xs.set k v).getD j 0 = if j = k then v else xs.getD j 0 := by
  rw [List.getD_eq_getElem?_getD, List.getD_eq_getElem?_getD, List.getElem?_set]
  by_cases c : k = j
  · subst c
    simp [hk]
  · rw [if_neg c, if_neg (Ne.symm c)]
theorem Rw.set {xs : List Int} {p v : Int} {k : Nat} (h : Rw xs p) (v0 : 0 ≤ v) (v1 : v < p) : Rw (xs.set k v) p :=
  ⟨by rw [List.length_set]; exact h.one, by rw [List.length_set]; exact h.few, by rw [List.length_set]; exact h.fits, fun x hx => by
    rcases List.mem_or_eq_of_mem_set hx with e | e
    · exact h.rng x e
    · rw [e]
      exact ⟨v0, v1⟩⟩
theorem cut_lo {xs : List V} {k : Nat} (hk : k ≤ xs.length) : cutV xs none (some (k : Int)) = xs.take k := by
  unfold cutV
  rw [HT.sIx_none, HT.sIx_nat, List.drop_zero, Nat.sub_zero, Nat.min_eq_left hk]
theorem cut_hi {xs : List V} {k : Nat} (hk : k ≤ xs.length) : cutV xs (some (k : Int)) none = xs.drop k := by
  unfold cutV
  rw [HT.sIx_none, HT.sIx_nat, Nat.min_eq_left hk]
  exact List.take_of_length_le (by rw [List.length_drop]; exact Nat.le_refl _)
theorem put_in {xs : List Int} {k : Nat} {v : Int} (hk : k < xs.length) : (xs.map V.int).take k ++ [V.int v] ++ (xs.map V.int).drop (k + 1) = (xs.set k v).map V.int := by
  rw [List.set_eq_take_append_cons_drop, if_pos hk, List.map_append, List.map_cons, List.map_take, List.map_drop, List.append_assoc]
  rfl
theorem unlike {xs ys : List Int} (e : ys.length = xs.length) (h : ys ≠ xs) : ∃ k, k < xs.length ∧ xs.getD k 0 ≠ ys.getD k 0 := by
  apply Classical.byContradiction
  intro c
  apply h
  apply List.ext_getElem e
  intro k h1 h2
  apply Classical.byContradiction
  intro c2
  refine c ⟨k, h2, ?_⟩
  rw [List.getD_eq_getElem?_getD, List.getD_eq_getElem?_getD, List.getElem?_eq_getElem h1, List.getElem?_eq_getElem h2]
  exact fun z => c2 z.symm
theorem ixN_nat {n k : Nat} (h : k < n) : ixN n (k : Int) = some k := by
  unfold ixN
  rw [if_pos (by omega), if_pos (by omega), Int.toNat_natCast]
theorem seqIx {n : Nat} {d : Int} (h0 : 0 ≤ d) (h : d < n) : seqIndex? d n = some d.toNat := by
  unfold seqIndex?
  have h1 : ¬ d < 0 := by omega
  simp [h1, h0, h]
theorem erase_perm : ∀ (l : List Int) (k : Nat) (h : k < l.length), List.Perm (l[k] :: l.eraseIdx k) l
  | a :: l, 0, _ => List.Perm.refl _
  | a :: l, k + 1, h => by
    have ih := erase_perm l k (by simpa using h)
    exact (List.Perm.swap a _ _).trans (ih.cons a)
theorem erase_map : ∀ (l : List Int) (k : Nat), (l.map V.int).eraseIdx k = (l.eraseIdx k).map V.int
  | [], _ => rfl
  | a :: l, 0 => rfl
  | a :: l, k + 1 => congrArg (V.int a :: ·) (erase_map l k)
def spOther : Sp := fun vs H Q _ => ∃ (f a : Addr) (xs : List Int) (p : Int), vs = [.ref f, .ref a, .int p] ∧ FeedAt H f ∧ H a = some (.lst (xs.map V.int)) ∧ a ≠ f ∧ Rw xs p ∧ Pr p ∧ 3 ≤ p ∧ p ≤ 29 ∧
  ∀ (t o : Addr) (mv : V) (ys : List Int) (H' : Hp), H' t = some (.tup [.ref o, mv]) → H' o = some (.lst (ys.map V.int)) → o ≠ f → (∀ l, mv = .ref l → l ≠ f) → Rw ys p → ys.length = xs.length → (∃ k, k < xs.length ∧ xs.getD k 0 ≠ ys.getD k 0) → MeetAt H' mv xs ys p → FeedAt H' f → SameBut f H H' → Q (.ref t) H'
theorem feed_upd {H : Hp} {f p : Addr} {o : HO} (F : FeedAt H f) (h : p ≠ f) : FeedAt (upd H p o) f := by
  obtain ⟨x, t, e, r⟩ := F
  exact ⟨x, t, by rw [upd_ne (Ne.symm h)]; exact e, r⟩
theorem sc_l_other : FnScope ["_law_feed_here", "_law_row", "_law_p", "_law_form", "_law_at", "_law_more", "_law_other_here", "_law_left", "_law_roots"] ["_law_feed_here", "_law_row", "_law_p"] (defScope s_l_other) := ⟨rfl, rfl, rfl, by decide +kernel, rfl, by decide +kernel, by decide +kernel⟩
theorem ok_l_other {f : Addr} {fd : FuncData} (F : Fun K "_law_other" "_law_other" s_l_other f fd) (B : Bl mg) (C_l_take : Cal P w K mg base 1 "_law_take" ["_law_feed_here", "_law_many"] spTake) (C_l_product : Cal P w K mg base 1 "_law_product" ["_law_roots", "_law_x", "_law_share", "_law_p"] spPro) : FnOk P w K mg base CX0 2 f fd ["_law_feed_here", "_law_row", "_law_p"] spOther := by
  refine F.ok sc_l_other (fun vs H Q E h => ?_) (fun cdv A outer s H vs Q E hr h => ?_)
  · obtain ⟨f, a, xs, p, rfl, _⟩ := h
    rfl
  obtain ⟨f, a, xs, p, rfl, F0, ha, af, hx, pp, p3, p9, q⟩ := h
  refine ⟨_, (pss_cons (ps_set (i := 3) sc_l_other.nd rfl (Or.inl rfl) (pe_cal C_l_take hr (by decide) rfl (pa_cons (pv 0) (pa_cons pe_int pa_nil))))
      (pss_cons (ps_set (i := 4) sc_l_other.nd rfl (Or.inr rfl) (pe_cal C_l_take hr (by decide) rfl (pa_cons (pv 0) (pa_cons (pe_callB call_len_seq rfl B.len PySem.boot_len (pa_cons (pv 1) pa_nil)) pa_nil))))
      (pss_cons (ps_set (i := 5) sc_l_other.nd rfl (Or.inr rfl) (pe_op op_add pe_int (pe_cal C_l_take hr (by decide) rfl (pa_cons (pv 0) (pa_cons (pe_op op_sub (pv 2) pe_int) pa_nil)))))
      (pss_cons (ps_if (pt_cmpR op_eq (pv 3) pe_int (nomark _)) (pss_cons (ps_set (i := 6) sc_l_other.nd rfl (Or.inl rfl) (pe_op op_cat (pe_op op_cat (pe_slice sl_list (pv 1) po_none (po_some (pv 4))) (pe_lst (pa_cons (pe_op op_mod (pe_op op_add (pe_ix ix_list (pv 1) (pv 4) (fun _ _ => rfl)) (pv 5)) (pv 2)) pa_nil))) (pe_slice sl_list (pv 1) (po_some (pe_op op_add (pv 4) pe_int)) po_none)))
        (pss_one (ps_ret (pe_tup (pa_cons (pv 6) (pa_cons (pe_comp (N := ["_law_at"]) (ix := [4]) rfl
            (CompScope.one (by with_unfolding_all rfl) (by decide) rfl (by decide) rfl (by decide +kernel) (by with_unfolding_all rfl) (by with_unfolding_all rfl) (by with_unfolding_all rfl) rfl rfl) rfl
            (pi_range1 rfl B.range (pa_cons (pe_callB call_len_seq rfl B.len PySem.boot_len (pa_cons (pv 1) pa_nil)) pa_nil)) (fun _ _ _ => pb_if (pt_cmpR op_ne (pv 0) (pv 1) (nomark _)) (pv 0))) pa_nil)))))) pss_nil)
      (pss_cons (ps_if (pt_cmpR op_eq (pv 3) pe_int (nomark _)) (pss_cons (ps_comp (i := 6) (N := ["_law_p", "_law_feed_here"]) (ix := [2, 0]) sc_l_other.nd rfl (Or.inl rfl) rfl
            (CompScope.two (by with_unfolding_all rfl) (by decide) rfl (by decide) rfl (by decide +kernel) (by first | exact Or.inl rfl | exact Or.inr rfl) (by with_unfolding_all rfl) (by with_unfolding_all rfl) (by with_unfolding_all rfl) (by with_unfolding_all rfl) rfl rfl (by with_unfolding_all rfl) rfl rfl) rfl
            (pi_list (pv 1)) (fun _ _ _ => pb_all (pe_op op_mod (pe_op op_add (pe_op op_add (pv 0) pe_int) (pe_cal C_l_take hr (by decide) rfl (pa_cons (pv 2) (pa_cons (pe_op op_sub (pv 1) pe_int) pa_nil)))) (pv 1))))
        (pss_cons (ps_asg (pe_op op_mod (pe_op op_add (pe_ix ix_list (pv 1) (pv 4) (fun _ _ => rfl)) (pe_ix ix_list (pe_lst (pa_cons pe_int (pa_cons (pv 5) pa_nil))) (pe_callTy call_int1 rfl B.int boot_int' (pa_cons (pe_cmpR op_eq (pe_callB call_len_seq rfl B.len PySem.boot_len (pa_cons (pv 1) pa_nil)) pe_int (nomark _)) pa_nil)) (fun _ _ => rfl))) (pv 2)) (pg_sub (pv 6) (pv 4) set_list))
        (pss_one (ps_ret (pe_tup (pa_cons (pv 6) (pa_cons pe_non pa_nil))))))) pss_nil)
      (pss_cons (ps_if (pt_cmpR op_eq (pv 3) pe_int (nomark _)) (pss_cons (ps_set (i := 7) sc_l_other.nd rfl (Or.inr rfl) (pe_listrng1 rfl rfl B.list rfl B.range (pa_cons (pv 2) pa_nil)))
        (pss_cons (ps_set (i := 8) sc_l_other.nd rfl (Or.inr rfl) (pe_comp (N := ["_law_left", "_law_feed_here"]) (ix := [7, 0]) rfl
            (CompScope.two (by with_unfolding_all rfl) (by decide) rfl (by decide) rfl (by decide +kernel) (by first | exact Or.inl rfl | exact Or.inr rfl) (by with_unfolding_all rfl) (by with_unfolding_all rfl) (by with_unfolding_all rfl) (by with_unfolding_all rfl) rfl rfl (by with_unfolding_all rfl) rfl rfl) rfl
            (pi_range1 rfl B.range (pa_cons (pe_cal C_l_take hr (by decide) rfl (pa_cons (pv 0) (pa_cons (pe_callB call_len_seq rfl B.len PySem.boot_len (pa_cons (pv 1) pa_nil)) pa_nil))) pa_nil)) (fun _ _ _ => pb_all (pe_bmK K PySem.F.plainAttrs_list PySem.F.slot_list_pop PySem.F.type_list_pop mt_popAt (pv 1) (pa_cons (pe_cal C_l_take hr (by decide) rfl (pa_cons (pv 2) (pa_cons (pe_callB (call_lenK K) rfl B.len PySem.boot_len (pa_cons (pv 1) pa_nil)) pa_nil))) pa_nil)))))
        (pss_cons (ps_comp (i := 6) (N := ["_law_row", "_law_roots", "_law_p", "_law_more"]) (ix := [1, 8, 2, 5]) sc_l_other.nd rfl (Or.inl rfl) rfl
            (CompScope.four (by with_unfolding_all rfl) (by decide) rfl (by decide) rfl (by decide +kernel) rfl (by with_unfolding_all rfl) (by with_unfolding_all rfl) (by with_unfolding_all rfl) (by with_unfolding_all rfl) (by with_unfolding_all rfl) (by with_unfolding_all rfl) rfl rfl (by with_unfolding_all rfl) rfl rfl (by with_unfolding_all rfl) rfl rfl (by with_unfolding_all rfl) rfl rfl) rfl
            (pi_range1 rfl B.range (pa_cons (pe_callB call_len_seq rfl B.len PySem.boot_len (pa_cons (pv 1) pa_nil)) pa_nil)) (fun _ _ _ => pb_all (pe_op op_mod (pe_op op_add (pe_ix (ix_listK K) (pv 1) (pv 0) (fun _ _ => rfl)) (pe_cal C_l_product hr (by decide) rfl (pa_cons (pv 2) (pa_cons (pv 0) (pa_cons (pv 4) (pa_cons (pv 3) pa_nil)))))) (pv 3))))
        (pss_one (ps_ret (pe_tup (pa_cons (pv 6) (pa_cons (pe_callB call_sorted rfl B.sorted PyProof.Rows.boot_sorted (pa_cons (pv 8) pa_nil)) pa_nil)))))))) pss_nil)
      (pss_cons (ps_comp (i := 6) (N := ["_law_p", "_law_feed_here"]) (ix := [2, 0]) sc_l_other.nd rfl (Or.inl rfl) rfl
            (CompScope.two (by with_unfolding_all rfl) (by decide) rfl (by decide) rfl (by decide +kernel) (by first | exact Or.inl rfl | exact Or.inr rfl) (by with_unfolding_all rfl) (by with_unfolding_all rfl) (by with_unfolding_all rfl) (by with_unfolding_all rfl) rfl rfl (by with_unfolding_all rfl) rfl rfl) rfl
            (pi_list (pv 1)) (fun _ _ _ => pb_all (pe_cal C_l_take hr (by decide) rfl (pa_cons (pv 2) (pa_cons (pv 1) pa_nil)))))
      (pss_cons (ps_if (pt_cmpR (op_eqD hr.units) (pv 6) (pv 1) (nomark _)) (pss_one (ps_asg (pe_op op_mod (pe_op op_add (pe_ix ix_list (pv 1) (pv 4) (fun _ _ => rfl)) (pv 5)) (pv 2)) (pg_sub (pv 6) (pv 4) set_list))) pss_nil)
      (pss_one (ps_ret (pe_tup (pa_cons (pv 6) (pa_cons pe_non pa_nil))))))))))))), ?_⟩
  have p0 : 0 < p := by omega
  have hP := pm_of pp (by omega)
  have x1 := hx.one
  have x2 := hx.few
  have x3 := hx.fits
  have m1 : ∀ z : Int, 0 ≤ z % p := fun z => Int.emod_nonneg _ (by omega)
  have m2 : ∀ z : Int, z % p < p := fun z => Int.emod_lt_of_pos _ p0
  refine ⟨_, rfl, f, 4, rfl, F0, by decide, by decide, fun d0 H1 _ _ F1 S1 => ?_⟩
  refine ⟨_, rfl, _, rfl, a, _, rfl, .inl (SqL.of (S1 _ _ af ha)), ?_⟩
  rw [List.length_map]
  refine ⟨f, (xs.length : Int), rfl, F1, by omega, by omega, fun d1 H2 a1 b1 F2 S2 => ?_⟩
  obtain ⟨at', rfl⟩ : ∃ k : Nat, d1 = (k : Int) := ⟨d1.toNat, by omega⟩
  have hat : at' < xs.length := by omega
  refine ⟨_, rfl, _, rfl, _, _, rfl, rfl, f, p - 1, rfl, F2, by omega, by omega, fun d2 H3 a2 b2 F3 S3 => ?_⟩
  refine ⟨_, _, rfl, rfl, ?_⟩
  have S03 : SameBut f H H3 := S1.trans (S2.trans S3)
  have ha3 := S03 _ _ af ha
  have xr := getD_rng p0 hx.rng
  have xa := xr at'
  have vne := add_ne (m := 1 + d2) xa.1 xa.2 (by omega) (by omega)
  have hv0 := m1 (xs.getD at' 0 + (1 + d2))
  have hv1 := m2 (xs.getD at' 0 + (1 + d2))
  have setne : ∀ {ys : List Int}, ys.length = xs.length → ∃ k, k < xs.length ∧ xs.getD k 0 ≠ (ys.set at' ((xs.getD at' 0 + (1 + d2)) % p)).getD k 0 := fun {ys} e => ⟨at', hat, by
    rw [getD_set (by omega), if_pos rfl]
    exact vne⟩
  refine ⟨_, rfl, rfl, _, rfl, ?_⟩
  refine ite2 (fun _ => ?_) (fun _ => ?_)
  · refine ⟨_, rfl, _, rfl, _, rfl, a, _, rfl, SqL.of ha3, fun l1 hl1 => ?_⟩
    rw [cut_lo (by rw [List.length_map]; omega)]
    have G1 := Same.new hl1 (.lst ((xs.map V.int).take at'))
    have g1 : upd H3 l1 (.lst ((xs.map V.int).take at')) l1 = some (.lst ((xs.map V.int).take at')) := upd_same
    generalize upd H3 l1 (.lst ((xs.map V.int).take at')) = H4 at G1 g1
    refine ⟨_, rfl, _, rfl, a, _, _, _, rfl, rfl, SqL.of (G1 _ _ ha3), at_row hat, _, rfl, _, _, rfl, rfl, _, rfl, _, _, rfl, rfl, p0, (by show 1 ≤ sizeLine; decide), fun l2 hl2 => ?_⟩
    have G2 := Same.new hl2 (.lst [.int ((xs.getD at' 0 + (1 + d2)) % p)])
    have g2 : upd H4 l2 (.lst [.int ((xs.getD at' 0 + (1 + d2)) % p)]) l2 = some (.lst [.int ((xs.getD at' 0 + (1 + d2)) % p)]) := upd_same
    generalize upd H4 l2 (.lst [.int ((xs.getD at' 0 + (1 + d2)) % p)]) = H5 at G2 g2
    refine ⟨l1, l2, _, _, rfl, rfl, G2 _ _ g1, g2, ?_, fun l3 hl3 => ?_⟩
    · rw [List.length_take, List.length_map]
      exact small (by show min at' xs.length + 1 ≤ 1000; omega)
    have G3 := Same.new hl3 (.lst ((xs.map V.int).take at' ++ [.int ((xs.getD at' 0 + (1 + d2)) % p)]))
    have g3 : upd H5 l3 (.lst ((xs.map V.int).take at' ++ [.int ((xs.getD at' 0 + (1 + d2)) % p)])) l3 = some (.lst ((xs.map V.int).take at' ++ [.int ((xs.getD at' 0 + (1 + d2)) % p)])) := upd_same
    generalize upd H5 l3 (.lst ((xs.map V.int).take at' ++ [.int ((xs.getD at' 0 + (1 + d2)) % p)])) = H6 at G3 g3
    have ha6 := G3 _ _ (G2 _ _ (G1 _ _ ha3))
    refine ⟨_, rfl, _, rfl, _, _, rfl, rfl, _, rfl, a, _, rfl, SqL.of ha6, fun l4 hl4 => ?_⟩
    rw [show ((at' : Int) + 1) = ((at' + 1 : Nat) : Int) by omega, cut_hi (by rw [List.length_map]; omega)]
    have G4 := Same.new hl4 (.lst ((xs.map V.int).drop (at' + 1)))
    have g4 : upd H6 l4 (.lst ((xs.map V.int).drop (at' + 1))) l4 = some (.lst ((xs.map V.int).drop (at' + 1))) := upd_same
    generalize upd H6 l4 (.lst ((xs.map V.int).drop (at' + 1))) = H7 at G4 g4
    refine ⟨l3, l4, _, _, rfl, rfl, G4 _ _ g3, g4, ?_, fun o ho => ?_⟩
    · rw [List.length_append, List.length_take, List.length_drop, List.length_map]
      exact small (by show min at' xs.length + 1 + (xs.length - (at' + 1)) ≤ 1000; omega)
    rw [put_in hat]
    obtain ⟨ys, ey⟩ : ∃ ys : List Int, ys = xs.set at' ((xs.getD at' 0 + (1 + d2)) % p) := ⟨_, rfl⟩
    have hy : Rw ys p := by rw [ey]; exact hx.set hv0 hv1
    have el : ys.length = xs.length := by rw [ey, List.length_set]
    have hne := setne rfl
    have hna : xs.getD at' 0 ≠ ys.getD at' 0 := by rw [ey, getD_set hat, if_pos rfl]; exact vne
    have hsame : ∀ k, k ≠ at' → xs.getD k 0 = ys.getD k 0 := fun k hk => by rw [ey, getD_set hat, if_neg hk]
    rw [← ey] at hne ⊢
    have G5 := Same.new ho (.lst (ys.map V.int))
    have g5 : upd H7 o (.lst (ys.map V.int)) o = some (.lst (ys.map V.int)) := upd_same
    generalize upd H7 o (.lst (ys.map V.int)) = H8 at G5 g5
    have G38 : Same H3 H8 := G1.trans (G2.trans (G3.trans (G4.trans G5)))
    have ha8 := G38 _ _ ha3
    have F7 := F3.same (G1.trans (G2.trans (G3.trans G4)))
    have of' : o ≠ f := F7.ne ho
    have F8 := F7.same G5
    refine ⟨_, rfl, _, rfl, a, _, rfl, .inl (SqL.of ha8), ?_⟩
    rw [List.length_map]
    refine ⟨(xs.length : Int), rfl, by omega, by omega, fun D hD => ?_⟩
    have Df := F8.ne hD
    refine comp_range (fun i H' => H' D = some (.lst ((fnd (fun k => decide (k ≠ at')) i).map V.int)) ∧ Same H8 H') ⟨by rw [upd_same]; rfl, Same.new hD _⟩ ?_ ?_
    · rintro i H9 hi ⟨hD9, S9⟩
      rw [Int.zero_add]
      refine ⟨_, rfl, _, rfl, rfl, _, rfl, ?_⟩
      by_cases c : i = at'
      · refine iteNS (congrArg (fun z : Nat => V.int (z : Int)) c) ?_
        refine Nx.of hi ⟨?_, S9⟩
        rw [fnd_succ, if_neg (fun z => (of_decide_eq_true z) c), List.append_nil]
        exact hD9
      · refine iteN (fun z => c (by have := V.int.inj z; omega)) ?_
        have ln := fnd_len (fun k => decide (k ≠ at')) i
        refine ⟨_, rfl, _, hD9, ?_, Nx.of hi ⟨?_, fun b o e => ?_⟩⟩
        · rw [List.length_map]
          exact small1000 (by omega)
        · rw [upd_same, fnd_succ, if_pos (decide_eq_true c), List.map_append]
          rfl
        · rw [upd_ne (ne_of_none e hD)]
          exact S9 _ _ e
    rintro H9 ⟨hD9, S9⟩
    rw [Int.toNat_natCast, meets_one hP hx hy el hat hna hsame] at hD9
    refine ⟨(by show 2 ≤ sizeLine; decide), fun t ht => ?_⟩
    have G9 := Same.new ht (.tup [.ref o, .ref D])
    exact q t o (.ref D) ys _ upd_same (G9 _ _ (S9 _ _ g5)) of' (fun l e => by cases e; exact Df) hy el hne (.inr ⟨D, rfl, G9 _ _ hD9⟩) ((F8.same S9).same G9) (S03.trans (SameBut.of (G38.trans (S9.trans G9))))
  refine ⟨_, rfl, rfl, _, rfl, ?_⟩
  refine ite2 (fun _ => ?_) (fun _ => ?_)
  · refine ⟨_, rfl, a, rfl, ⟨_, SqL.of ha3⟩, fun D hD => ?_⟩
    have Df := F3.ne hD
    have GD := Same.new hD (.lst [])
    refine comp_list (K := K) (xs := xs.map V.int) (fun i H' => ∃ ys : List Int, H' D = some (.lst (ys.map V.int)) ∧ ys.length = i ∧ (∀ x ∈ ys, 0 ≤ x ∧ x < p) ∧ (∀ k, k < i → xs.getD k 0 ≠ ys.getD k 0) ∧ FeedAt H' f ∧ SameBut f H3 H')
      ⟨[], upd_same, rfl, (fun x hx => by cases hx), (fun k hk => absurd hk (Nat.not_lt_zero k)), F3.same GD, SameBut.of GD⟩ (fun i H' _ hst => by obtain ⟨_, _, _, _, _, _, h⟩ := hst; exact SqL.of (h _ _ af ha3)) ?_ ?_
    · rintro i z H4 hz ⟨ys, hD4, yl, yr, yn, F4, S4⟩
      have hi := (List.getElem?_eq_some_iff.mp hz).1
      rw [List.getElem?_map] at hz
      obtain ⟨x, hx', rfl⟩ := Option.map_eq_some_iff.mp hz
      have bx := hx.rng x (List.mem_of_getElem? hx')
      refine ⟨_, rfl, _, _, rfl, rfl, _, rfl, _, rfl, _, _, rfl, rfl, f, p - 1, rfl, F4, by omega, by omega, fun d H5 e0 e1 F5 S5 => ?_⟩
      refine ⟨_, _, rfl, rfl, _, rfl, _, _, rfl, rfl, p0, ?_⟩
      refine ⟨_, S5 _ _ Df hD4, ?_, Nx.of hi ⟨ys ++ [(x + 1 + d) % p], ?_, ?_, ?_, ?_, feed_upd F5 Df, ?_⟩⟩
      · rw [List.length_map] at hi ⊢
        exact small1000 (by omega)
      · rw [upd_same, List.map_append]
        rfl
      · rw [List.length_append, List.length_singleton, yl]
      · intro x hx
        rcases List.mem_append.mp hx with h | h
        · exact yr x h
        · rw [List.mem_singleton.mp h]
          exact ⟨m1 _, m2 _⟩
      · intro k hk
        by_cases c : k < i
        · have e : (ys ++ [(x + 1 + d) % p]).getD k 0 = ys.getD k 0 := by
            rw [List.getD_eq_getElem?_getD, List.getElem?_append_left (by omega), List.getD_eq_getElem?_getD]
          rw [e]
          exact yn k c
        · have e : k = i := by omega
          subst e
          have e1 : (ys ++ [(x + 1 + d) % p]).getD k 0 = (x + 1 + d) % p := by
            rw [List.getD_eq_getElem?_getD, List.getElem?_append_right (by omega), yl]
            simp
          have e2 : xs.getD k 0 = x := by rw [List.getD_eq_getElem?_getD, hx']; rfl
          rw [e1, e2, Int.add_assoc]
          exact add_ne bx.1 bx.2 (by omega) (by omega)
      · intro b o hb e'
        rw [upd_ne (ne_of_none e' hD)]
        exact S5 b o hb (S4 b o hb e')
    rintro H4 ⟨ys, hD4, yl, yr, yn, F4, S4⟩
    rw [List.length_map] at yl yn
    have ha4 := S4 _ _ af ha3
    refine ⟨_, rfl, _, rfl, a, _, _, _, rfl, rfl, SqL.of ha4, at_row hat, _, rfl, (by show 2 ≤ sizeLine; decide), fun l hl => ?_⟩
    have Gl := Same.new hl (.lst [.int 0, .int (1 + d2)])
    have gl : upd H4 l (.lst [.int 0, .int (1 + d2)]) l = some (.lst [.int 0, .int (1 + d2)]) := upd_same
    generalize upd H4 l (.lst [.int 0, .int (1 + d2)]) = H5 at Gl gl
    refine ⟨_, rfl, a, _, rfl, .inl (SqL.of (Gl _ _ ha4)), rfl, .inr ⟨_, rfl, ?_⟩⟩
    rw [List.length_map]
    obtain ⟨ix, mo, ei, at5, mo0, mo1, mo2⟩ : ∃ ix mo : Int, (if decide (V.int (xs.length : Int) = V.int 1) = true then (1 : Int) else 0) = ix ∧ atI [V.int 0, V.int (1 + d2)] ix = some (.int mo) ∧ 0 ≤ mo ∧ mo < p ∧ (xs.length = 1 → 1 ≤ mo) := by
      by_cases c : xs.length = 1
      · exact ⟨1, 1 + d2, by rw [c]; rfl, rfl, by omega, by omega, fun _ => by omega⟩
      · refine ⟨0, 0, ?_, rfl, by omega, by omega, fun z => absurd z c⟩
        rw [decide_eq_false (fun z => c (by have := V.int.inj z; omega))]
        rfl
    rw [ei]
    refine ⟨l, _, _, _, rfl, rfl, SqL.of gl, at5, _, _, rfl, rfl, _, rfl, _, _, rfl, rfl, p0, ?_⟩
    refine ⟨_, rfl, _, rfl, D, _, _, at', rfl, rfl, Gl _ _ hD4, ixN_nat (by rw [List.length_map]; omega), ?_⟩
    rw [← List.map_set]
    have w0 := m1 (xs.getD at' 0 + mo)
    have w1 := m2 (xs.getD at' 0 + mo)
    have hy0 : Rw ys p := ⟨by omega, by omega, by omega, yr⟩
    obtain ⟨zs, ez⟩ : ∃ zs : List Int, zs = ys.set at' ((xs.getD at' 0 + mo) % p) := ⟨_, rfl⟩
    have hz : Rw zs p := by rw [ez]; exact hy0.set w0 w1
    have el : zs.length = xs.length := by rw [ez, List.length_set, yl]
    have hne : ∃ k, k < xs.length ∧ xs.getD k 0 ≠ zs.getD k 0 := by
      by_cases c : xs.length = 1
      · refine ⟨at', hat, ?_⟩
        rw [ez, getD_set (by omega), if_pos rfl]
        exact add_ne xa.1 xa.2 (mo2 c) mo1
      · obtain ⟨k, hk, hka⟩ : ∃ k, k < xs.length ∧ k ≠ at' := ⟨if at' = 0 then 1 else 0, by split <;> omega, by split <;> omega⟩
        refine ⟨k, hk, ?_⟩
        rw [ez, getD_set (by omega), if_neg hka]
        exact yn k hk
    rw [← ez]
    refine ⟨_, rfl, (by show 2 ≤ sizeLine; decide), fun t ht => ?_⟩
    have G9 := Same.new ht (.tup [.ref D, .non])
    have S5 : SameBut f H3 H5 := S4.trans (SameBut.of Gl)
    have hD5 := Gl _ _ hD4
    have SD : SameBut f H3 (upd H5 D (.lst (zs.map V.int))) := fun b o hb e' => by
      rw [upd_ne (ne_of_none e' hD)]
      exact S5 b o hb e'
    exact q t D .non zs _ upd_same (G9 _ _ upd_same) Df (fun l e => by cases e) hz el hne (.inl rfl) ((feed_upd (F4.same Gl) Df).same G9) (S03.trans (SD.trans (SameBut.of G9)))
  refine ⟨_, rfl, rfl, _, rfl, ?_⟩
  refine ite2 (fun _ => ?_) (fun _ => ?_)
  · refine ⟨_, rfl, p, rfl, by omega, by omega, fun L hL => ?_⟩
    have Lf := F3.ne hL
    have GL := Same.new hL (.lst ((rngV 0 p.toNat).map V.int))
    have gL : upd H3 L (.lst ((rngV 0 p.toNat).map V.int)) L = some (.lst ((rngV 0 p.toNat).map V.int)) := upd_same
    generalize upd H3 L (.lst ((rngV 0 p.toNat).map V.int)) = H4 at GL gL
    refine ⟨_, rfl, _, rfl, a, _, rfl, .inl (SqL.of (GL _ _ ha3)), ?_⟩
    rw [List.length_map]
    refine ⟨f, (xs.length : Int), rfl, F3.same GL, by omega, by omega, fun d3 H5 a3 b3 F5 S5 => ?_⟩
    have S35 : SameBut f H3 H5 := (SameBut.of GL).trans S5
    have gL5 := S5 _ _ Lf gL
    refine ⟨d3, rfl, by omega, by omega, fun D hD => ?_⟩
    have Df := F5.ne hD
    have LD : L ≠ D := fun z => by rw [z, hD] at gL5; cases gL5
    have GD := Same.new hD (.lst [])
    refine comp_range (fun i H' => ∃ ls rs : List Int, H' L = some (.lst (ls.map V.int)) ∧ H' D = some (.lst (rs.map V.int)) ∧ rs.length = i ∧ (ls.length : Int) + i = p ∧ (ls ++ rs).Nodup ∧ (∀ x ∈ ls ++ rs, 0 ≤ x ∧ x < p) ∧ FeedAt H' f ∧ SameBut f H3 H')
      ⟨rngV 0 p.toNat, [], GD _ _ gL5, upd_same, rfl, ?_, ?_, ?_, F5.same GD, S35.trans (SameBut.of GD)⟩ ?_ ?_
    · rw [rngV_len]
      omega
    · rw [List.append_nil]
      unfold rngV
      refine (List.pairwise_map.mpr ?_)
      exact List.nodup_range.imp fun h z => h (by omega)
    · intro x hx
      rw [List.append_nil] at hx
      obtain ⟨k, hk, rfl⟩ := List.mem_map.mp hx
      have := List.mem_range.mp hk
      omega
    · rintro i H6 hi ⟨ls, rs, hL6, hD6, rl6, lp, nd, rg, F6, S6⟩
      have hi' : i < 12 := by omega
      refine ⟨_, rfl, .inl ⟨rfl, _, SqL.of hL6⟩, _, rfl, _, rfl, L, _, rfl, .inl (SqL.of hL6), ?_⟩
      rw [List.length_map]
      refine ⟨f, (ls.length : Int), rfl, F6, by omega, by omega, fun d H7 e0 e1 F7 S7 => ?_⟩
      have hk : d.toNat < ls.length := by omega
      refine ⟨L, _, d, d.toNat, .int ls[d.toNat], rfl, rfl, S7 _ _ Lf hL6, by omega, by omega, seqIx e0 (by rw [List.length_map]; omega), by rw [List.getElem?_map, List.getElem?_eq_getElem hk]; rfl, ?_⟩
      have S67 := S6.trans S7
      have hD8 : upd H7 L (.lst ((ls.map V.int).eraseIdx d.toNat)) D = some (.lst (rs.map V.int)) := by
        rw [upd_ne (Ne.symm LD)]
        exact S7 _ _ Df hD6
      have pm : List.Perm (ls.eraseIdx d.toNat ++ (rs ++ [ls[d.toNat]])) (ls ++ rs) := by
        have h1 : List.Perm (ls[d.toNat] :: ls.eraseIdx d.toNat) ls := erase_perm ls d.toNat hk
        have h2 : List.Perm (ls.eraseIdx d.toNat ++ (rs ++ [ls[d.toNat]])) (ls[d.toNat] :: (ls.eraseIdx d.toNat ++ rs)) := by
          rw [← List.append_assoc]
          exact List.perm_append_singleton _ _
        exact h2.trans (h1.append_right rs)
      refine ⟨_, hD8, ?_, Nx.of hi ⟨ls.eraseIdx d.toNat, rs ++ [ls[d.toNat]], ?_, ?_, ?_, ?_, ?_, ?_, ?_, ?_⟩⟩
      · rw [List.length_map]
        exact small1000 (by omega)
      · rw [upd_ne LD, upd_same, erase_map]
      · rw [upd_same, List.map_append]
        rfl
      · rw [List.length_append, List.length_singleton, rl6]
      · rw [List.length_eraseIdx_of_lt hk]
        omega
      · exact pm.nodup_iff.mpr nd
      · intro x hx
        exact rg x (pm.mem_iff.mp hx)
      · exact feed_upd (feed_upd F7 Lf) Df
      · intro b o hb e'
        have hbD : b ≠ D := fun z => by
          have := S35 b o hb e'
          rw [z, hD] at this
          cases this
        rw [upd_ne hbD, upd_ne (ne_of_none e' hL)]
        exact S67 b o hb e'
    rintro H6 ⟨ls, rs, hL6, hD6, rl6, lp, nd, rg, F6, S6⟩
    have ha6 := S6 _ _ af ha3
    refine ⟨_, rfl, a, _, rfl, .inl (SqL.of ha6), ?_⟩
    rw [List.length_map]
    refine ⟨(xs.length : Int), rfl, by omega, by omega, fun o ho => ?_⟩
    have of' := F6.ne ho
    refine comp_range (fun i H' => H' o = some (.lst (((List.range i).map fun k : Nat => (xs.getD k 0 + pRm p k (1 + d2) rs) % p).map V.int)) ∧ Same H6 H') ⟨by rw [upd_same]; rfl, Same.new ho _⟩ ?_ ?_
    · rintro i H7 hi ⟨ho7, S7⟩
      have hi' : i < xs.length := by omega
      rw [Int.zero_add]
      refine ⟨_, rfl, _, rfl, a, _, _, _, rfl, rfl, SqL.of (S7 _ _ ha6), at_row hi', _, rfl, _, rfl, _, rfl, _, rfl, D, rs, _, _, _, rfl, S7 _ _ hD6, by omega, by omega, p9, ?_⟩
      refine ⟨_, _, rfl, rfl, _, rfl, _, _, rfl, rfl, p0, ?_⟩
      refine ⟨_, ho7, ?_, Nx.of hi ⟨?_, fun b o e => ?_⟩⟩
      · rw [List.length_map, List.length_map, List.length_range]
        exact small1000 (by omega)
      · rw [upd_same, List.range_succ, List.map_append, List.map_append]
        rfl
      · rw [upd_ne (ne_of_none e ho)]
        exact S7 _ _ e
    rintro H7 ⟨ho7, S7⟩
    rw [Int.toNat_natCast] at ho7
    obtain ⟨ys, ey⟩ : ∃ ys : List Int, ys = (List.range xs.length).map fun k : Nat => (xs.getD k 0 + pRm p k (1 + d2) rs) % p := ⟨_, rfl⟩
    rw [← ey] at ho7
    have el : ys.length = xs.length := by rw [ey, List.length_map, List.length_range]
    have hy : Rw ys p := ⟨by omega, by omega, by omega, fun x hx => by
      rw [ey] at hx
      obtain ⟨k, _, rfl⟩ := List.mem_map.mp hx
      exact ⟨m1 _, m2 _⟩⟩
    have yk : ∀ k, k < xs.length → ys.getD k 0 = (xs.getD k 0 + pRm p k (1 + d2) rs) % p := fun k hk => by rw [ey]; exact getD_map hk
    have rs12 : rs.length < xs.length := by omega
    have nrs : rs.Nodup := (List.nodup_append.mp nd).2.1
    have rgs : ∀ r ∈ rs, 0 ≤ r ∧ r < p := fun r hr => rg r (List.mem_append_right _ hr)
    have cnd : ¬ p ∣ 1 + d2 := fun z => by
      have := Int.le_of_dvd (by omega) z
      omega
    refine ⟨_, rfl, _, rfl, D, rs, rfl, SqL.of (S7 _ _ hD6), by omega, fun l ms hl pm od => ?_⟩
    have lf := (F6.same S7).ne hl
    have em := meets_prod hP hx hy el cnd nrs rgs rs12 yk pm od
    rw [em]
    have Gm := Same.new hl (.lst ((meets p xs ys p.toNat).map V.int))
    have gm : upd H7 l (.lst ((meets p xs ys p.toNat).map V.int)) l = some (.lst ((meets p xs ys p.toNat).map V.int)) := upd_same
    generalize upd H7 l (.lst ((meets p xs ys p.toNat).map V.int)) = H8 at Gm gm
    have hne : ∃ k, k < xs.length ∧ xs.getD k 0 ≠ ys.getD k 0 := by
      apply unlike el
      intro z
      have h1 : ∀ k : Nat, meets p xs ys k = (List.range k).map fun j : Nat => (j : Int) := fun k => by
        induction k with
        | zero => rfl
        | succ k ih =>
          have s1 : meets p xs ys (k + 1) = meets p xs ys k ++ if decide (val p xs k = val p ys k) = true then [(k : Int)] else [] := fnd_succ _ _
          rw [s1, ih, if_pos (decide_eq_true (by rw [z])), List.range_succ, List.map_append]
          rfl
      have h2 := congrArg List.length em
      rw [h1, List.length_map, List.length_range, pm.length_eq] at h2
      omega
    refine ⟨(by show 2 ≤ sizeLine; decide), fun t ht => ?_⟩
    have G9 := Same.new ht (.tup [.ref o, .ref l])
    exact q t o (.ref l) ys _ upd_same (G9 _ _ (Gm _ _ ho7)) of' (fun l' e => by cases e; exact lf) hy el hne (.inr ⟨l, rfl, G9 _ _ gm⟩) (((F6.same S7).same Gm).same G9) (S03.trans (S6.trans (SameBut.of (S7.trans (Gm.trans G9)))))
  · refine ⟨_, rfl, a, rfl, ⟨_, SqL.of ha3⟩, fun D hD => ?_⟩
    have Df := F3.ne hD
    have GD := Same.new hD (.lst [])
    refine comp_list (K := K) (xs := xs.map V.int) (fun i H' => ∃ ys : List Int, H' D = some (.lst (ys.map V.int)) ∧ ys.length = i ∧ (∀ x ∈ ys, 0 ≤ x ∧ x < p) ∧ FeedAt H' f ∧ SameBut f H3 H')
      ⟨[], upd_same, rfl, (fun x hx => by cases hx), F3.same GD, SameBut.of GD⟩ (fun i H' _ hst => by obtain ⟨_, _, _, _, _, h⟩ := hst; exact SqL.of (h _ _ af ha3)) ?_ ?_
    · rintro i z H4 hz ⟨ys, hD4, yl, yr, F4, S4⟩
      have hi := (List.getElem?_eq_some_iff.mp hz).1
      refine ⟨_, rfl, _, rfl, f, p, rfl, F4, by omega, by omega, fun d H5 e0 e1 F5 S5 => ?_⟩
      refine ⟨_, S5 _ _ Df hD4, ?_, Nx.of hi ⟨ys ++ [d], ?_, ?_, ?_, feed_upd F5 Df, ?_⟩⟩
      · rw [List.length_map] at hi ⊢
        exact small1000 (by omega)
      · rw [upd_same, List.map_append]
        rfl
      · rw [List.length_append, List.length_singleton, yl]
      · intro x hx
        rcases List.mem_append.mp hx with h | h
        · exact yr x h
        · rw [List.mem_singleton.mp h]
          exact ⟨e0, e1⟩
      · intro b o hb e'
        rw [upd_ne (ne_of_none e' hD)]
        exact S5 b o hb (S4 b o hb e')
    rintro H4 ⟨ys, hD4, yl, yr, F4, S4⟩
    rw [List.length_map] at yl
    have ha4 := S4 _ _ af ha3
    have hy0 : Rw ys p := ⟨by omega, by omega, by omega, yr⟩
    refine ⟨_, rfl, _, rfl, _, _, .lst (SqL.of hD4) (rep_ints _), .lst (SqL.of ha4) (rep_ints _), shaped_li _, shaped_li _, _, rfl, ?_⟩
    rw [eqv_li]
    refine ite2 (fun c => ?_) (fun c => ?_)
    · refine ⟨_, rfl, _, rfl, a, _, _, _, rfl, rfl, SqL.of ha4, at_row hat, _, rfl, _, _, rfl, rfl, _, rfl, _, _, rfl, rfl, p0, ?_⟩
      refine ⟨_, rfl, _, rfl, D, _, _, at', rfl, rfl, hD4, ixN_nat (by rw [List.length_map]; omega), ?_⟩
      rw [← List.map_set]
      refine ⟨_, rfl, (by show 2 ≤ sizeLine; decide), fun t ht => ?_⟩
      have G9 := Same.new ht (.tup [.ref D, .non])
      have SD : SameBut f H3 (upd H4 D (.lst ((ys.set at' ((xs.getD at' 0 + (1 + d2)) % p)).map V.int))) := fun b o hb e' => by
        rw [upd_ne (ne_of_none e' hD)]
        exact S4 b o hb e'
      exact q t D .non _ _ upd_same (G9 _ _ upd_same) Df (fun l e => by cases e) (hy0.set hv0 hv1) (by rw [List.length_set, yl]) (setne yl) (.inl rfl) ((feed_upd F4 Df).same G9) (S03.trans (SD.trans (SameBut.of G9)))
    · refine ⟨_, rfl, (by show 2 ≤ sizeLine; decide), fun t ht => ?_⟩
      have G9 := Same.new ht (.tup [.ref D, .non])
      exact q t D .non ys _ upd_same (G9 _ _ hD4) Df (fun l e => by cases e) hy0 yl (unlike yl fun z => c (decide_eq_true z)) (.inl rfl) (F4.same G9) (S03.trans (S4.trans (SameBut.of G9)))
theorem sc_law : FnScope ["_law_script", "_law_k", "_law_feed_here", "_law_many", "_law_p", "_law_row", "_law_other_here", "_law_meets"] ["_law_script"] (defScope s_law) := ⟨rfl, rfl, rfl, by decide +kernel, rfl, by decide +kernel, by decide +kernel⟩
theorem ok_law {f : Addr} {fd : FuncData} (F : Fun K "law" "law" s_law f fd) (B : Bl mg) (C_l_feed : Cal P w K mg base 1 "_law_feed" ["_law_script", "_law_k"] (spFeed K)) (C_l_take : Cal P w K mg base 1 "_law_take" ["_law_feed_here", "_law_many"] spTake)
    (C_l_prime : Cal P w K mg base 2 "_law_prime" ["_law_feed_here", "_law_least"] spPrime9) (C_l_other : Cal P w K mg base 2 "_law_other" ["_law_feed_here", "_law_row", "_law_p"] spOther) (C_l_right : Cal P w K mg base 5 "_law_right" ["_law_row", "_law_other_here", "_law_meets", "_law_share", "_law_p"] spRight) : FnOk P w K mg base CX0 6 f fd ["_law_script"] (spLaw K) := by
  refine F.ok sc_law (fun vs H Q E h => ?_) (fun cdv A outer s H vs Q E hr h => ?_)
  · obtain ⟨a, ns, rfl, _⟩ := h
    rfl
  obtain ⟨a, ns, rfl, hS, h63, q⟩ := h
  refine ⟨_, (pss_cons (ps_for PassesOwn.never rfl (pi_range1 rfl B.range (pa_cons (pe_callB (call_max2 rfl) rfl B.max PyProof.Rows.boot_max (pa_cons pe_int (pa_cons (pe_callB call_len_seq rfl B.len PySem.boot_len (pa_cons (pe_slice sl_list (pv 0) (po_some pe_int) (po_some pe_int)) pa_nil)) pa_nil))) pa_nil)) (pg_name (i := 1) sc_law.nd rfl (Or.inl rfl)) (pss_cons (ps_set (i := 2) sc_law.nd rfl (Or.inr rfl) (pe_cal C_l_feed hr (by decide) rfl (pa_cons (pv 0) (pa_cons (pe_op op_add pe_int (pv 1)) pa_nil))))
        (pss_cons (ps_set (i := 3) sc_law.nd rfl (Or.inl rfl) (pe_op op_add pe_int (pe_cal C_l_take hr (by decide) rfl (pa_cons (pv 2) (pa_cons (pe_ix ix_list (pe_lst (pa_cons pe_int (pa_cons pe_int pa_nil))) (pe_cal C_l_take hr (by decide) rfl (pa_cons (pv 2) (pa_cons pe_int pa_nil))) (fun _ _ => rfl)) pa_nil)))))
        (pss_cons (ps_set (i := 4) sc_law.nd rfl (Or.inr rfl) (pe_cal C_l_prime hr (by decide) rfl (pa_cons (pv 2) (pa_cons (pv 3) pa_nil))))
        (pss_cons (ps_comp (i := 5) (N := ["_law_p", "_law_feed_here"]) (ix := [4, 2]) sc_law.nd rfl (Or.inl rfl) rfl
            (CompScope.two (by with_unfolding_all rfl) (by decide) rfl (by decide) rfl (by decide +kernel) (by first | exact Or.inl rfl | exact Or.inr rfl) (by with_unfolding_all rfl) (by with_unfolding_all rfl) (by with_unfolding_all rfl) (by with_unfolding_all rfl) rfl rfl (by with_unfolding_all rfl) rfl rfl) rfl
            (pi_range1 rfl B.range (pa_cons (pv 3) pa_nil)) (fun _ _ _ => pb_all (pe_cal C_l_take hr (by decide) rfl (pa_cons (pv 2) (pa_cons (pv 1) pa_nil)))))
        (pss_cons (ps_asg (pe_cal C_l_other hr (by decide) rfl (pa_cons (pv 2) (pa_cons (pv 5) (pa_cons (pv 4) pa_nil)))) (pg_tup rfl (pgs_cons (pg_name (i := 6) sc_law.nd rfl (Or.inl rfl)) (pgs_cons (pg_name (i := 7) sc_law.nd rfl (Or.inl rfl)) pgs_nil))))
        (pss_one (ps_if (pt_not (pt_val (pe_cal C_l_right hr (by decide) rfl (pa_cons (pv 5) (pa_cons (pv 6) (pa_cons (pv 7) (pa_cons (pe_cal C_l_take hr (by decide) rfl (pa_cons (pv 2) (pa_cons (pv 4) pa_nil))) (pa_cons (pv 4) pa_nil)))))))) (pss_one (ps_ret pe_bl)) pss_nil))))))))
      (pss_one (ps_ret pe_bl))), ?_⟩
  refine ⟨_, rfl, _, rfl, _, rfl, a, _, rfl, hS, fun l hl => ?_⟩
  have cl := cutV_length (ns.map V.int) (some 1) (some 9)
  rw [List.length_map] at cl
  refine ⟨l, _, rfl, .inl (SqL.of upd_same), _, _, rfl, _, rfl, ?_, ?_, for_range (fun i σ H' => ∃ x1 x2 x3 x4 x5 x6 x7, σ = [some (.ref a), x1, x2, x3, x4, x5, x6, x7] ∧ Same H H') ⟨_, _, _, _, _, _, _, rfl, Same.new hl _⟩ ?_ ?_⟩
  · split <;> omega
  · split <;> omega
  · rintro i σ H0 hi ⟨x1, x2, x3, x4, x5, x6, x7, rfl, s0⟩
    have hi' : i < 64 := by
      have z : ∀ n : Nat, n ≤ 63 → (if (n : Int) > 1 then (n : Int) else 1).toNat < 64 := fun n hn => by split <;> omega
      have := z (cutV (ns.map V.int) (some 1) (some 9)).length (by omega)
      omega
    refine ⟨_, rfl, _, rfl, _, _, rfl, rfl, a, ns, _, rfl, s0.seq hS, h63, by omega, by omega, fun f H1 f0 s1 F1 => ?_⟩
    have n0 : H f = none := s0.free f0
    have t1 : Same H H1 := s0.trans s1
    refine ⟨_, rfl, (by show 2 ≤ sizeLine; decide), fun l2 hl2 => ?_⟩
    have G2 := Same.new hl2 (.lst [.int 4, .int 12])
    have g2 : upd H1 l2 (.lst [.int 4, .int 12]) l2 = some (.lst [.int 4, .int 12]) := upd_same
    have l2f := F1.ne hl2
    generalize upd H1 l2 (.lst [.int 4, .int 12]) = H2 at G2 g2
    refine ⟨_, rfl, f, 2, rfl, F1.same G2, by decide, by decide, fun d1 H3 a1 b1 F3 S3 => ?_⟩
    obtain ⟨v, hv, vm⟩ := at_in (l := [V.int 4, V.int 12]) (i := d1) a1 (by show d1 < 2; exact b1)
    obtain ⟨k, rfl, k0, k1⟩ : ∃ k : Int, v = .int k ∧ 0 < k ∧ k ≤ 12 := by
      simp only [List.mem_cons, List.not_mem_nil, or_false] at vm
      rcases vm with h | h <;> exact ⟨_, h, by decide, by decide⟩
    refine ⟨l2, _, _, _, rfl, rfl, SqL.of (S3 _ _ l2f g2), hv, f, k, rfl, F3, k0, by omega, fun d2 H4 a2 b2 F4 S4 => ?_⟩
    refine ⟨_, _, rfl, rfl, ?_⟩
    have B4 : SameBut f H1 H4 := (SameBut.of G2).trans (S3.trans S4)
    obtain ⟨m, em, m0, m12⟩ : ∃ m : Nat, 1 + d2 = (m : Int) ∧ 1 ≤ m ∧ m ≤ 12 := ⟨(1 + d2).toNat, by omega, by omega, by omega⟩
    refine ⟨_, rfl, _, rfl, f, 1 + d2, rfl, F4, by omega, by omega, fun p H5 pp p3 mp p9 F5 S5 => ?_⟩
    have p0 : 0 < p := by omega
    refine ⟨_, rfl, 1 + d2, rfl, by omega, by omega, fun D hD => ?_⟩
    have Df := F5.ne hD
    have GD := Same.new hD (.lst [])
    refine comp_range (fun i H' => ∃ xs : List Int, H' D = some (.lst (xs.map V.int)) ∧ xs.length = i ∧ (∀ x ∈ xs, 0 ≤ x ∧ x < p) ∧ FeedAt H' f ∧ SameBut f H5 H') ⟨[], upd_same, rfl, (fun x hx => by cases hx), F5.same GD, SameBut.of GD⟩ ?_ ?_
    · rintro i H8 hi ⟨xs, hD8, cl8, xr, F8, S8⟩
      refine ⟨_, rfl, _, rfl, f, p, rfl, F8, p0, by omega, fun d H9 dd0 dd1 F9 S9 => ?_⟩
      refine ⟨_, S9 D _ Df hD8, ?_, Nx.of hi ⟨xs ++ [d], ?_, ?_, ?_, feed_upd F9 Df, ?_⟩⟩
      · rw [List.length_map]
        exact small1000 (by omega)
      · rw [upd_same, List.map_append]
        rfl
      · rw [List.length_append, List.length_singleton, cl8]
      · intro x hx
        rcases List.mem_append.mp hx with h | h
        · exact xr x h
        · rw [List.mem_singleton.mp h]
          exact ⟨dd0, dd1⟩
      · intro b o hb e'
        rw [upd_ne (ne_of_none e' hD)]
        exact S9 b o hb (S8 b o hb e')
    rintro H6 ⟨xs, hD6, xl, xr, F6, S6⟩
    have hx : Rw xs p := ⟨by omega, by omega, by omega, xr⟩
    refine ⟨_, rfl, _, rfl, _, rfl, f, D, xs, p, rfl, F6, hD6, Df, hx, pp, p3, p9, fun t o mv ys H7 ht ho of' mf hy el hne hm F7 S7 => ?_⟩
    refine ⟨t, _, rfl, SqT.of ht, rfl, _, _, rfl, _, _, rfl, rfl, ?_⟩
    refine ⟨_, rfl, _, rfl, _, rfl, _, rfl, _, rfl, f, p, rfl, F7, p0, by omega, fun c H8 c0 c1 F8 S8 => ?_⟩
    refine ⟨_, rfl, D, o, mv, xs, ys, c, p, rfl, S8 _ _ Df (S7 _ _ Df hD6), S8 _ _ of' ho, hx, hy, el, hne, hm.but mf S8, c0, c1, pp, p9, fun H9 S9 => ⟨_, rfl, ?_⟩⟩
    refine iteF ?_
    exact ⟨_, _, _, _, _, _, _, rfl, t1.but n0 (B4.trans (S5.trans (S6.trans (S7.trans (S8.trans (SameBut.of S9))))))⟩
  · rintro σ H0 ⟨x1, x2, x3, x4, x5, x6, x7, rfl, s0⟩
    exact q H0
end
theorem all_mk {l : PySem.W.OpenLaw} {w : World} {K : PySem.W.Frag} {h : Heap} {mg : Str → Option Value} {fa f0 f1 f2 f3 f4 f5 f6 f7 f8 f9 f10 f11 f12 : Addr} (X : K.In h) (G : h.Ns mainGlobals mg) (hfa : mg "law" = some (.ref fa))
    {od0 an0 od1 an1 od2 an2 od3 an3 od4 an4 od5 an5 od6 an6 od7 an7 od8 an8 od9 an9 od10 an10 od11 an11 od12 an12 : Option Addr} {sl0 sl1 sl2 sl3 sl4 sl5 sl6 sl7 sl8 sl9 sl10 sl11 sl12 : Array (Option Value)} {oc0 kV0 dc0 pm0 cd0 ct0 oc1 kV1 dc1 pm1 cd1 ct1 oc2 kV2 dc2 pm2 cd2 ct2 oc3 kV3 dc3 pm3 cd3 ct3 oc4 kV4 dc4 pm4 cd4 ct4 oc5 kV5 dc5 pm5 cd5 ct5 oc6 kV6 dc6 pm6 cd6 ct6 oc7 kV7 dc7 pm7 cd7 ct7 oc8 kV8 dc8 pm8 cd8 ct8 oc9 kV9 dc9 pm9 cd9 ct9 oc10 kV10 dc10 pm10 cd10 ct10 oc11 kV11 dc11 pm11 cd11 ct11 oc12 kV12 dc12 pm12 cd12 ct12 : Value}
    (a0 : PySem.W.nsIn K mainGlobals "inverse_of" = some (some (.ref f0))) (l0 : K.lookup f0 = some ⟨oc0, od0, .func (PySem.W.fnOf "inverse_of" "inverse_of" (defArgs s_inverse_of) (defBody s_inverse_of) (defScope s_inverse_of) .none kV0 dc0 pm0 an0 cd0 ct0), sl0⟩) (c0 : PySem.W.codeIn K cd0 "inverse_of" = true) (k0 : PySem.W.keepIn K (.ref f0) = true)
    (a1 : PySem.W.nsIn K mainGlobals "value_at" = some (some (.ref f1))) (l1 : K.lookup f1 = some ⟨oc1, od1, .func (PySem.W.fnOf "value_at" "value_at" (defArgs s_value_at) (defBody s_value_at) (defScope s_value_at) .none kV1 dc1 pm1 an1 cd1 ct1), sl1⟩) (c1 : PySem.W.codeIn K cd1 "value_at" = true) (k1 : PySem.W.keepIn K (.ref f1) = true)
    (a2 : PySem.W.nsIn K mainGlobals "value_behind" = some (some (.ref f2))) (l2 : K.lookup f2 = some ⟨oc2, od2, .func (PySem.W.fnOf "value_behind" "value_behind" (defArgs s_value_behind) (defBody s_value_behind) (defScope s_value_behind) .none kV2 dc2 pm2 an2 cd2 ct2), sl2⟩) (c2 : PySem.W.codeIn K cd2 "value_behind" = true) (k2 : PySem.W.keepIn K (.ref f2) = true)
    (a3 : PySem.W.nsIn K mainGlobals "products" = some (some (.ref f3))) (l3 : K.lookup f3 = some ⟨oc3, od3, .func (PySem.W.fnOf "products" "products" (defArgs s_products) (defBody s_products) (defScope s_products) .none kV3 dc3 pm3 an3 cd3 ct3), sl3⟩) (c3 : PySem.W.codeIn K cd3 "products" = true) (k3 : PySem.W.keepIn K (.ref f3) = true)
    (a4 : PySem.W.nsIn K mainGlobals "inverse_factorials" = some (some (.ref f4))) (l4 : K.lookup f4 = some ⟨oc4, od4, .func (PySem.W.fnOf "inverse_factorials" "inverse_factorials" (defArgs s_inverse_factorials) (defBody s_inverse_factorials) (defScope s_inverse_factorials) .none kV4 dc4 pm4 an4 cd4 ct4), sl4⟩) (c4 : PySem.W.codeIn K cd4 "inverse_factorials" = true) (k4 : PySem.W.keepIn K (.ref f4) = true)
    (a5 : PySem.W.nsIn K mainGlobals "_law_feed" = some (some (.ref f5))) (l5 : K.lookup f5 = some ⟨oc5, od5, .func (PySem.W.fnOf "_law_feed" "_law_feed" (defArgs s_l_feed) (defBody s_l_feed) (defScope s_l_feed) .none kV5 dc5 pm5 an5 cd5 ct5), sl5⟩) (c5 : PySem.W.codeIn K cd5 "_law_feed" = true) (k5 : PySem.W.keepIn K (.ref f5) = true)
    (a6 : PySem.W.nsIn K mainGlobals "_law_take" = some (some (.ref f6))) (l6 : K.lookup f6 = some ⟨oc6, od6, .func (PySem.W.fnOf "_law_take" "_law_take" (defArgs s_l_take) (defBody s_l_take) (defScope s_l_take) .none kV6 dc6 pm6 an6 cd6 ct6), sl6⟩) (c6 : PySem.W.codeIn K cd6 "_law_take" = true) (k6 : PySem.W.keepIn K (.ref f6) = true)
    (a7 : PySem.W.nsIn K mainGlobals "_law_is_prime" = some (some (.ref f7))) (l7 : K.lookup f7 = some ⟨oc7, od7, .func (PySem.W.fnOf "_law_is_prime" "_law_is_prime" (defArgs s_l_is_prime) (defBody s_l_is_prime) (defScope s_l_is_prime) .none kV7 dc7 pm7 an7 cd7 ct7), sl7⟩) (c7 : PySem.W.codeIn K cd7 "_law_is_prime" = true) (k7 : PySem.W.keepIn K (.ref f7) = true)
    (a8 : PySem.W.nsIn K mainGlobals "_law_prime" = some (some (.ref f8))) (l8 : K.lookup f8 = some ⟨oc8, od8, .func (PySem.W.fnOf "_law_prime" "_law_prime" (defArgs s_l_prime) (defBody s_l_prime) (defScope s_l_prime) .none kV8 dc8 pm8 an8 cd8 ct8), sl8⟩) (c8 : PySem.W.codeIn K cd8 "_law_prime" = true) (k8 : PySem.W.keepIn K (.ref f8) = true)
    (a9 : PySem.W.nsIn K mainGlobals "_law_product" = some (some (.ref f9))) (l9 : K.lookup f9 = some ⟨oc9, od9, .func (PySem.W.fnOf "_law_product" "_law_product" (defArgs s_l_product) (defBody s_l_product) (defScope s_l_product) .none kV9 dc9 pm9 an9 cd9 ct9), sl9⟩) (c9 : PySem.W.codeIn K cd9 "_law_product" = true) (k9 : PySem.W.keepIn K (.ref f9) = true)
    (a10 : PySem.W.nsIn K mainGlobals "_law_other" = some (some (.ref f10))) (l10 : K.lookup f10 = some ⟨oc10, od10, .func (PySem.W.fnOf "_law_other" "_law_other" (defArgs s_l_other) (defBody s_l_other) (defScope s_l_other) .none kV10 dc10 pm10 an10 cd10 ct10), sl10⟩) (c10 : PySem.W.codeIn K cd10 "_law_other" = true) (k10 : PySem.W.keepIn K (.ref f10) = true)
    (a11 : PySem.W.nsIn K mainGlobals "_law_right" = some (some (.ref f11))) (l11 : K.lookup f11 = some ⟨oc11, od11, .func (PySem.W.fnOf "_law_right" "_law_right" (defArgs s_l_right) (defBody s_l_right) (defScope s_l_right) .none kV11 dc11 pm11 an11 cd11 ct11), sl11⟩) (c11 : PySem.W.codeIn K cd11 "_law_right" = true) (k11 : PySem.W.keepIn K (.ref f11) = true)
    (a12 : PySem.W.nsIn K mainGlobals "law" = some (some (.ref f12))) (l12 : K.lookup f12 = some ⟨oc12, od12, .func (PySem.W.fnOf "law" "law" (defArgs s_law) (defBody s_law) (defScope s_law) .none kV12 dc12 pm12 an12 cd12 ct12), sl12⟩) (c12 : PySem.W.codeIn K cd12 "law" = true) (k12 : PySem.W.keepIn K (.ref f12) = true)
    (z0 : PySem.W.nsIn K mainGlobals "len" = some none) (z1 : PySem.W.nsIn K mainGlobals "range" = some none) (z2 : PySem.W.nsIn K mainGlobals "isinstance" = some none) (z3 : PySem.W.nsIn K mainGlobals "int" = some none) (z4 : PySem.W.nsIn K mainGlobals "bool" = some none) (z5 : PySem.W.nsIn K mainGlobals "list" = some none) (z6 : PySem.W.nsIn K mainGlobals "tuple" = some none) (z7 : PySem.W.nsIn K mainGlobals "max" = some none) (z8 : PySem.W.nsIn K mainGlobals "min" = some none) (z9 : PySem.W.nsIn K mainGlobals "reversed" = some none) (z10 : PySem.W.nsIn K mainGlobals "sorted" = some none) :
    ∃ fd : FuncData, (∀ (s : Shared) (v : Value), BindsTo s fd ⟨[v], []⟩ [("_law_script", v)]) ∧ ∀ base : Heap, K.In base → base.Ns mainGlobals mg → FnOk l.prog w K mg base CX0 6 fa fd ["_law_script"] (spLaw K) := by
  have e := hfa.symm.trans (PySem.W.mg_of X G a12)
  cases e
  have F_inverse_of := fun_mk (st := s_inverse_of) l0 c0 k0
  have m_inverse_of := PySem.W.mg_of X G a0
  have F_value_at := fun_mk (st := s_value_at) l1 c1 k1
  have m_value_at := PySem.W.mg_of X G a1
  have F_value_behind := fun_mk (st := s_value_behind) l2 c2 k2
  have m_value_behind := PySem.W.mg_of X G a2
  have F_products := fun_mk (st := s_products) l3 c3 k3
  have m_products := PySem.W.mg_of X G a3
  have F_inverse_factorials := fun_mk (st := s_inverse_factorials) l4 c4 k4
  have m_inverse_factorials := PySem.W.mg_of X G a4
  have F_l_feed := fun_mk (st := s_l_feed) l5 c5 k5
  have m_l_feed := PySem.W.mg_of X G a5
  have F_l_take := fun_mk (st := s_l_take) l6 c6 k6
  have m_l_take := PySem.W.mg_of X G a6
  have F_l_is_prime := fun_mk (st := s_l_is_prime) l7 c7 k7
  have m_l_is_prime := PySem.W.mg_of X G a7
  have F_l_prime := fun_mk (st := s_l_prime) l8 c8 k8
  have m_l_prime := PySem.W.mg_of X G a8
  have F_l_product := fun_mk (st := s_l_product) l9 c9 k9
  have m_l_product := PySem.W.mg_of X G a9
  have F_l_other := fun_mk (st := s_l_other) l10 c10 k10
  have m_l_other := PySem.W.mg_of X G a10
  have F_l_right := fun_mk (st := s_l_right) l11 c11 k11
  have m_l_right := PySem.W.mg_of X G a11
  have F_law := fun_mk (st := s_law) l12 c12 k12
  have B : Bl mg := ⟨PySem.W.mg_none_of X G z0, PySem.W.mg_none_of X G z1, PySem.W.mg_none_of X G z2, PySem.W.mg_none_of X G z3, PySem.W.mg_none_of X G z4, PySem.W.mg_none_of X G z5, PySem.W.mg_none_of X G z6, PySem.W.mg_none_of X G z7, PySem.W.mg_none_of X G z8, PySem.W.mg_none_of X G z9, PySem.W.mg_none_of X G z10⟩
  refine ⟨PySem.W.fnOf "law" "law" (defArgs s_law) (defBody s_law) (defScope s_law) .none kV12 dc12 pm12 an12 cd12 ct12, fun s v => .of_eq rfl, fun base _ _ => ?_⟩
  have C_l_feed := Cal.of (P := l.prog) (w := w) (base := base) F_l_feed (ok_l_feed F_l_feed B.len) m_l_feed (fun _ _ _ _ _ _ us hl => by obtain ⟨u0, u1, rfl⟩ := len2 hl; rfl)
  have C_l_take := Cal.of (P := l.prog) (w := w) (base := base) F_l_take (ok_l_take F_l_take ) m_l_take (fun _ _ _ _ _ _ us hl => by obtain ⟨u0, u1, rfl⟩ := len2 hl; rfl)
  have C_inverse_of := Cal.of (P := l.prog) (w := w) (base := base) F_inverse_of (ok_inverse_of F_inverse_of ) m_inverse_of (fun _ _ _ _ _ _ us hl => by obtain ⟨u0, u1, rfl⟩ := len2 hl; rfl)
  have C_products := Cal.of (P := l.prog) (w := w) (base := base) F_products (ok_products F_products ) m_products (fun _ _ _ _ _ _ us hl => by obtain ⟨u0, u1, rfl⟩ := len2 hl; rfl)
  have C_inverse_factorials := Cal.of (P := l.prog) (w := w) (base := base) F_inverse_factorials (ok_inverse_factorials F_inverse_factorials B C_products C_inverse_of) m_inverse_factorials (fun _ _ _ _ _ _ us hl => by obtain ⟨u0, u1, rfl⟩ := len2 hl; rfl)
  have C_value_behind := Cal.of (P := l.prog) (w := w) (base := base) F_value_behind (ok_value_behind F_value_behind B C_products C_inverse_factorials) m_value_behind (fun _ _ _ _ _ _ us hl => by obtain ⟨u0, u1, u2, rfl⟩ := len3 hl; rfl)
  have C_value_at := Cal.of (P := l.prog) (w := w) (base := base) F_value_at (ok_value_at F_value_at B C_value_behind) m_value_at (fun _ _ _ _ _ _ us hl => by obtain ⟨u0, u1, u2, rfl⟩ := len3 hl; rfl)
  have C_l_is_prime := Cal.of (P := l.prog) (w := w) (base := base) F_l_is_prime (ok_l_is_prime F_l_is_prime B.range) m_l_is_prime (fun _ _ _ _ _ _ us hl => by obtain ⟨u0, rfl⟩ := len1 hl; rfl)
  have C_l_prime := Cal.of (P := l.prog) (w := w) (base := base) F_l_prime (ok_l_prime F_l_prime B C_l_take C_l_is_prime) m_l_prime (fun _ _ _ _ _ _ us hl => by obtain ⟨u0, u1, rfl⟩ := len2 hl; rfl)
  have C_l_product := Cal.of (P := l.prog) (w := w) (base := base) F_l_product (ok_l_product F_l_product ) m_l_product (fun _ _ _ _ _ _ us hl => by obtain ⟨u0, u1, u2, u3, rfl⟩ := len4 hl; rfl)
  have C_l_other := Cal.of (P := l.prog) (w := w) (base := base) F_l_other (ok_l_other F_l_other B C_l_take C_l_product) m_l_other (fun _ _ _ _ _ _ us hl => by obtain ⟨u0, u1, u2, rfl⟩ := len3 hl; rfl)
  have C_l_right := Cal.of (P := l.prog) (w := w) (base := base) F_l_right (ok_l_right F_l_right B C_value_at) m_l_right (fun _ _ _ _ _ _ us hl => by obtain ⟨u0, u1, u2, u3, u4, rfl⟩ := len5 hl; rfl)
  exact ok_law F_law B C_l_feed C_l_take C_l_prime C_l_other C_l_right
theorem walk {l : PySem.W.OpenLaw} {q : Program} {loose : List Str} {XP : (Str → Option Value) → Heap → Prop} {YP : World → Heap → Prop} {d : DefRec} {K : Params → PySem.W.Frag} (hn : l.most = some 63) (hdf : d.params.defaults = [])
    (hY : ∀ (w : World) (h : Heap), YP w h → (K w.params).In h)
    (F : ∀ (w : World) (mg : Str → Option Value) (fa : Addr) (h : Heap), (K w.params).In h → h.Ns mainGlobals mg → mg d.name = some (.ref fa) →
      ∃ fd : FuncData, (∀ (s : Shared) (u : Value), BindsTo s fd ⟨[u], []⟩ [("_law_script", u)]) ∧ ∀ base : Heap, (K w.params).In base → base.Ns mainGlobals mg → FnOk l.prog w (K w.params) mg base CX0 6 fa fd ["_law_script"] (spLaw (K w.params))) :
    PySem.W.WalkO q loose XP YP l.row.toRowW d [] (fun f vs => PySem.call f vs) :=
  L2.walk_of (n := 63) (k := 6) (x := "_law_script") (CX := fun _ => CX0) (sp := fun w => spLaw (K w.params)) hn (by decide) hdf ⟨rfl, by decide, by decide⟩ hY F (fun _ _ a ns hl _ hS => ⟨a, ns, rfl, hS, hl, fun _ => rfl⟩) fun _ _ _ _ _ z => z
end Mine
open PySem PySem.W PyProof.Rows
set_option maxRecDepth 100000 in
set_option maxHeartbeats 0 in
theorem PySem.Challenge.cw_asktally_k19_whole_unlike_rows_part_holds : PySem.Challenge.rw_asktally_k19_whole_unlike_rows_part.Holds := by
  w_on; o_law; k_head; (case hw => w_witness2)
  k_fill
  refine Mine.walk (l := PySem.Challenge.rw_asktally_k19_whole_unlike_rows_part) rfl rfl (fun w h Y => PySem.W.kIn_of Y) ?F
  case F =>
    intro w mg fa h KX G hmg
    refine' Mine.all_mk KX G hmg ?a0 ?l0 ?c0 ?k0 ?a1 ?l1 ?c1 ?k1 ?a2 ?l2 ?c2 ?k2 ?a3 ?l3 ?c3 ?k3 ?a4 ?l4 ?c4 ?k4 ?a5 ?l5 ?c5 ?k5 ?a6 ?l6 ?c6 ?k6 ?a7 ?l7 ?c7 ?k7 ?a8 ?l8 ?c8 ?k8 ?a9 ?l9 ?c9 ?k9 ?a10 ?l10 ?c10 ?k10 ?a11 ?l11 ?c11 ?k11 ?a12 ?l12 ?c12 ?k12  ?z0 ?z1 ?z2 ?z3 ?z4 ?z5 ?z6 ?z7 ?z8 ?z9 ?z10
    (case a0 => k_is); (case l0 => k_is); (case c0 => k_is); (case k0 => k_is)
    (case a1 => k_is); (case l1 => k_is); (case c1 => k_is); (case k1 => k_is)
    (case a2 => k_is); (case l2 => k_is); (case c2 => k_is); (case k2 => k_is)
    (case a3 => k_is); (case l3 => k_is); (case c3 => k_is); (case k3 => k_is)
    (case a4 => k_is); (case l4 => k_is); (case c4 => k_is); (case k4 => k_is)
    (case a5 => k_is); (case l5 => k_is); (case c5 => k_is); (case k5 => k_is)
    (case a6 => k_is); (case l6 => k_is); (case c6 => k_is); (case k6 => k_is)
    (case a7 => k_is); (case l7 => k_is); (case c7 => k_is); (case k7 => k_is)
    (case a8 => k_is); (case l8 => k_is); (case c8 => k_is); (case k8 => k_is)
    (case a9 => k_is); (case l9 => k_is); (case c9 => k_is); (case k9 => k_is)
    (case a10 => k_is); (case l10 => k_is); (case c10 => k_is); (case k10 => k_is)
    (case a11 => k_is); (case l11 => k_is); (case c11 => k_is); (case k11 => k_is)
    (case a12 => k_is); (case l12 => k_is); (case c12 => k_is); (case k12 => k_is)
    (case z0 => k_is)
    (case z1 => k_is)
    (case z2 => k_is)
    (case z3 => k_is)
    (case z4 => k_is)
    (case z5 => k_is)
    (case z6 => k_is)
    (case z7 => k_is)
    (case z8 => k_is)
    (case z9 => k_is)
    (case z10 => k_is)
