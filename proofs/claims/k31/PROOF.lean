import PyProof.Rows.All
import Wide.All
import OpenK.AllK
import Wide.FinOn
import Lean
import PyProof.EqAt
import PyProof.EqKinds
import PyProof.TupleCall
import PySem.Challenge.RW_asktally_k31_whole_helpers_written_and_r
set_option Elab.async false
set_option linter.all false
set_option maxRecDepth 100000
/-! THE HAND LAYER, for ints, bools, texts, own classes, LISTS and tuples (index, slices, in, append, pop ..), calls, loops. Paste it whole ahead of your own text; what your proof does not reach may be deleted. -/
namespace L2
open PySem PySem.Spec PyProof.Rows

/-- a key: an int or a str -/
abbrev Key := Sum Int Str
def keyIs : Key → Value → Bool
  | .inl k, v => Value.isInt k v
  | .inr x, v => Value.isStrOf x v
def keyH (w : World) : Key → Int
  | .inl k => hashInt k
  | .inr x => hashStr w x
theorem keyIs_shape : ∀ {k : Key} {v : Value}, keyIs k v = true → (∃ i t, k = Sum.inl i ∧ v = Value.int i t) ∨ (∃ x t, k = Sum.inr x ∧ v = Value.str x t)
  | .inl i, v, h => by
    obtain ⟨t, e⟩ := Value.isInt_shape (k := i) (v := v) h
    exact .inl ⟨i, t, rfl, e⟩
  | .inr x, v, h => by
    obtain ⟨t, e⟩ := Value.isStrOf_shape (x := x) (v := v) h
    exact .inr ⟨x, t, rfl, e⟩
theorem key_ll (a b : Int) : decide ((Sum.inl a : Key) = Sum.inl b) = (a == b) := by
  by_cases e : a = b
  · subst e; simp
  · have h : ¬ (Sum.inl a : Key) = Sum.inl b := fun q => e (Sum.inl.inj q)
    rw [decide_eq_false h]
    exact (beq_eq_false_iff_ne.mpr e).symm
theorem key_rr (a b : Str) : decide ((Sum.inr a : Key) = Sum.inr b) = decide (a = b) := by
  by_cases e : a = b
  · subst e; simp
  · have h : ¬ (Sum.inr a : Key) = Sum.inr b := fun q => e (Sum.inr.inj q)
    rw [decide_eq_false h, decide_eq_false e]
theorem key_lr (a : Int) (b : Str) : decide ((Sum.inl a : Key) = Sum.inr b) = false := decide_eq_false (fun q => nomatch q)
theorem key_rl (a : Str) (b : Int) : decide ((Sum.inr a : Key) = Sum.inl b) = false := decide_eq_false (fun q => nomatch q)

def mixKind (prog : Program) (w : World) : PySem.KeyKind prog w Key where
  is := keyIs
  hash := keyH w
  inj := fun v a b ha hb => by
    rcases keyIs_shape ha with ⟨i, t, rfl, rfl⟩ | ⟨x, t, rfl, rfl⟩
    · rcases keyIs_shape hb with ⟨j, u, rfl, e⟩ | ⟨y, u, rfl, e⟩
      · injection e with e1 _; rw [e1]
      · exact nomatch e
    · rcases keyIs_shape hb with ⟨j, u, rfl, e⟩ | ⟨y, u, rfl, e⟩
      · exact nomatch e
      · injection e with e1 _; rw [e1]
  byValue := fun k v h => by
    rcases keyIs_shape h with ⟨i, t, rfl, rfl⟩ | ⟨x, t, rfl, rfl⟩ <;> rfl
  pyHash := fun hv h => by
    rcases keyIs_shape hv with ⟨i, t, rfl, rfl⟩ | ⟨x, t, rfl, rfl⟩
    · exact wpAny_pyHash_int h
    · exact wpAny_pyHash_str h
  eqBool := fun hu hv h => by
    rcases keyIs_shape hu with ⟨i, t, rfl, rfl⟩ | ⟨x, t, rfl, rfl⟩
    · rcases keyIs_shape hv with ⟨j, u, rfl, rfl⟩ | ⟨y, u, rfl, rfl⟩
      · rw [key_ll] at h; exact wpAny_eqBool_int h
      · rw [key_lr] at h; exact SeqAt.EqAt.int_str i t y u _ _ _ _ h
    · rcases keyIs_shape hv with ⟨j, u, rfl, rfl⟩ | ⟨y, u, rfl, rfl⟩
      · rw [key_rl] at h; exact SeqAt.EqAt.str_int x t j u _ _ _ _ h
      · rw [key_rr] at h; exact wpAny_eqBool_str h
  «strs» := fun k x t v h => by
    rcases keyIs_shape h with ⟨i, u, rfl, e⟩ | ⟨y, u, rfl, e⟩
    · exact nomatch e
    · injection e with e1 _
      subst e1
      cases v <;> rfl

end L2

namespace L2
open PySem PySem.Spec PyProof.Rows

/-- a value, without the heap -/
inductive V where
  | non | bl (b : Bool) | int (i : Int) | str (x : Str) | byt (b : Array UInt8) | flt (b : UInt64) | ref (a : Addr) | ty (n : String)
  deriving DecidableEq

def RelV : V → Value → Prop
  | .non, u => u = Value.none
  | .bl b, u => u = Value.bool b
  | .int i, u => ∃ t, u = Value.int i t
  | .str x, u => ∃ t, u = Value.str x t
  | .byt b, u => ∃ t, u = Value.bytes b t
  | .flt b, u => ∃ t, u = Value.float b t
  | .ref a, u => u = Value.ref a
  | .ty n, u => u = Value.type n

abbrev Vals : List V → List Value → Prop := Paired RelV
theorem Vals.length {xs : List V} {us : List Value} (r : Vals xs us) : xs.length = us.length := Paired.length r
theorem Vals.get : ∀ {xs : List V} {us : List Value} {i : Nat} {x : V}, Vals xs us → xs[i]? = some x → ∃ u, us[i]? = some u ∧ RelV x u
  | _, _, _, _, .nil, e => by simp at e
  | _, _, 0, _, .cons r _, e => by simp at e; subst e; exact ⟨_, rfl, r⟩
  | _, _, i + 1, x, .cons _ t, e => by
    obtain ⟨u, h1, h2⟩ := Vals.get (i := i) (x := x) t (by simpa using e)
    exact ⟨u, by simpa using h1, h2⟩
theorem Vals.set {x : V} {u : Value} (r : RelV x u) : ∀ {xs : List V} {us : List Value} (i : Nat), Vals xs us → Vals (xs.set i x) (us.set i u)
  | _, _, _, .nil => .nil
  | _, _, 0, .cons _ t => .cons r t
  | _, _, i + 1, .cons q t => .cons q (Vals.set r i t)
theorem Vals.append : ∀ {xs ys : List V} {us ws : List Value}, Vals xs us → Vals ys ws → Vals (xs ++ ys) (us ++ ws)
  | _, _, _, _, .nil, s => s
  | _, _, _, _, .cons r t, s => .cons r (Vals.append t s)
theorem Vals.take : ∀ {xs : List V} {us : List Value} (n : Nat), Vals xs us → Vals (xs.take n) (us.take n)
  | _, _, 0, _ => .nil
  | _, _, _ + 1, .nil => .nil
  | _, _, n + 1, .cons r t => .cons r (Vals.take n t)
theorem Vals.drop : ∀ {xs : List V} {us : List Value} (n : Nat), Vals xs us → Vals (xs.drop n) (us.drop n)
  | _, _, 0, r => r
  | _, _, _ + 1, .nil => .nil
  | _, _, n + 1, .cons _ t => Vals.drop n t
def RelO : Option V → Option Value → Prop
  | some v, some u => RelV v u
  | none, none => True
  | _, _ => False
def KV {κ : Type} : List (κ × V) → List (κ × Value) → Prop := Paired fun (p : κ × V) (q : κ × Value) => p.1 = q.1 ∧ RelV p.2 q.2

/-- a key of a dict (00_mix): an int or a text -/
def kV : Key → V
  | .inl i => .int i
  | .inr x => .str x

/-- what stands at a tracked address -/
inductive HO where
  /-- a list -/
  | lst (xs : List V)
  /-- a tuple (never changes) -/
  | tup (xs : List V)
  /-- a dict whose keys are ints and texts; one whose keys are tuples of ints and texts (the empty one is both) -/
  | dK (kvs : List (Key × V)) | dT (kvs : List (List Key × V))
  /-- a set of ints: its members, its size -/
  | set (S : Int → Bool) (n : Nat)
  /-- an instance of the class at C, its dict at dx, its attributes -/
  | ins (C dx : Addr) (fs : List (Str × V))
  /-- the dict of the instance at x -/
  | own (x : Addr)
  /-- the dict of an exception -/
  | xd (fs : List (Str × V))
  /-- a bound method, f of x -/
  | met (f x : Addr)
  /-- a range object lo, lo + 1, .. below hi -/
  | rng (lo hi : Int)
  /-- a thing that is known to the object (the script; a dict while a loop walks it): read, never written while it is so -/
  | frz (o : Obj) (u : HO)
  /-- a code object's table -/
  | tbl (ps : Array Value)
  /-- any other thing, by what is true of its one object (a def of one's own: SetO a S n := HO.ext fun h => ..) -/
  | ext (φ : Heap → Prop)

abbrev Hp := Addr → Option HO
def upd (H : Hp) (a : Addr) (o : HO) : Hp := fun b => if b = a then some o else H b
theorem upd_same {H : Hp} {a : Addr} {o : HO} : upd H a o a = some o := by unfold upd; rw [if_pos rfl]
theorem upd_ne {H : Hp} {a b : Addr} {o : HO} (h : b ≠ a) : upd H a o b = H b := by unfold upd; rw [if_neg h]
theorem ne_of_none {H : Hp} {a b : Addr} {o : HO} (h : H a = some o) (h' : H b = none) : a ≠ b := by
  intro e; subst e; rw [h] at h'; cases h'

section
variable (P : Program) (w : World)
def ObjOk (H : Hp) (h : Heap) (a : Addr) : HO → Prop
  | .lst xs => xs.length ≤ sizeLine ∧ ∃ (its : List Value) (n : Nat), Vals xs its ∧ h.get? a = some { cls := .type "list", data := .seq its.toArray n }
  | .tup xs => xs.length ≤ sizeLine ∧ ∃ its : List Value, Vals xs its ∧ IsTup h a its.toArray ∧ ∃ o, h.get? a = some o ∧ o.dict = none
  | .dK kvs => kvs.length ≤ sizeLine ∧ (a == sysModules) = false ∧ ∃ vs, KV kvs vs ∧ h.DictOf (mixKind P w) a vs
  | .dT kvs => kvs.length ≤ sizeLine ∧ (a == sysModules) = false ∧ ∃ xs : List (List Key × Addr × Value),
      Paired (fun (p : List Key × V) (q : List Key × Addr × Value) => p.1 = q.1 ∧ H q.2.1 = some (.tup (p.1.map kV)) ∧ RelV p.2 q.2.2) kvs xs ∧
      ∃ o es ep, h.get? a = some o ∧ o.ExactDict ∧ o.data = .dict es ep ∧ es.toList = xs.map (entryOfKey (tupleKind (mixKind P w))) ∧ (xs.map (·.1)).Nodup
  | .set S n => h.SetOf (intKind P w) a S n
  | .ins C dx fs => H dx = some (.own a) ∧ fs.length ≤ 1000 ∧ dx ≠ a ∧ h.get? a = some (PySem.W.instObj C dx) ∧
      ∃ mA, h.Ns1 dx mA ∧ (∀ f, RelO (fs.lookup f) (mA f)) ∧ PySem.Within mA (fs.map (·.1))
  | .own _ => ∃ o, h.get? a = some o
  | .xd fs => ∃ mA, h.Ns1 a mA ∧ ∀ f, RelO (fs.lookup f) (mA f)
  | .rng lo hi => ∃ t u v, h.get? a = some { cls := .type "range", data := .fields #[.int lo t, .int hi u, .int 1 v] }
  | .frz o u => h.get? a = some o ∧ ObjOk H h a u
  | .tbl ps => h.get? a = some { cls := .none, data := .fields ps }
  | .met f x => h.get? a = some (PySem.W.methodObj (.ref f) (.ref x))
  | .ext φ => φ h ∧ (∃ o, h.get? a = some o) ∧ ∀ h1 h2 : Heap, φ h1 → (∀ o, h1.get? a = some o → h2.get? a = some o) → φ h2
/-- the abstract heap is held -/
def HOk (H : Hp) (h : Heap) : Prop := ∀ a o, H a = some o → ObjOk P w H h a o
end

section
variable {P : Program} {w : World} {H H' : Hp} {h h' : Heap} {a : Addr} {o : HO}
theorem ObjOk.lt (x : ObjOk P w H h a o) : a < h.objs.size := by
  cases o with
  | lst xs => obtain ⟨_, _, _, _, e⟩ := x; exact Heap.lt_size e
  | tup xs => obtain ⟨_, _, _, p, _⟩ := x; exact p.lt
  | dK kvs => obtain ⟨_, _, _, _, o, _, _, e, _⟩ := x; exact Heap.lt_size e
  | dT kvs => obtain ⟨_, _, _, _, o, _, _, e, _⟩ := x; exact Heap.lt_size e
  | set S n => obtain ⟨o, _, _, _, e, _⟩ := x; exact Heap.lt_size e
  | ins C dx fs => obtain ⟨_, _, _, e, _⟩ := x; exact Heap.lt_size e
  | own y => obtain ⟨_, e⟩ := x; exact Heap.lt_size e
  | xd fs => obtain ⟨_, ⟨_, _, _, e, _⟩, _⟩ := x; exact Heap.lt_size e
  | rng lo hi => obtain ⟨_, _, _, e⟩ := x; exact Heap.lt_size e
  | frz ob u => obtain ⟨e, _⟩ := x; exact Heap.lt_size e
  | tbl ps => exact Heap.lt_size (show h.get? a = some _ from x)
  | met f y => exact Heap.lt_size (show h.get? a = some _ from x)
  | ext φ => obtain ⟨_, ⟨_, e⟩, _⟩ := x; exact Heap.lt_size e
theorem Paired.mapP {α β : Type} {F G : α → β → Prop} : ∀ {l₁ : List α} {l₂ : List β}, Paired F l₁ l₂ → (∀ a b, F a b → G a b) → Paired G l₁ l₂
  | _, _, .nil, _ => .nil
  | _, _, .cons r t, f => .cons (f _ _ r) (Paired.mapP t f)
/-- what an object's description leans on: its own object, its own dict, the tuples -/
theorem ObjOk.stay (x : ObjOk P w H h a o) (k : ∀ b u, (b = a ∨ H b = some (.own a)) → h.get? b = some u → h'.get? b = some u)
    (ho : ∀ b, H b = some (.own a) → H' b = some (.own a)) (ht : ∀ b xs, H b = some (.tup xs) → H' b = some (.tup xs)) : ObjOk P w H' h' a o := by
  induction o with
  | lst xs => obtain ⟨z, its, n, r, e⟩ := x; exact ⟨z, its, n, r, k _ _ (.inl rfl) e⟩
  | tup xs => obtain ⟨z, its, r, ⟨ob, e, c⟩, od, e2, d⟩ := x; exact ⟨z, its, r, ⟨ob, k _ _ (.inl rfl) e, c⟩, od, k _ _ (.inl rfl) e2, d⟩
  | dK kvs => obtain ⟨z, y, vs, r, ob, es, ep, e, c⟩ := x; exact ⟨z, y, vs, r, ob, es, ep, k _ _ (.inl rfl) e, c⟩
  | dT kvs =>
    obtain ⟨z, y, xs, r, ob, es, ep, e, c⟩ := x
    exact ⟨z, y, xs, Paired.mapP r fun p q z => ⟨z.1, ht _ _ z.2.1, z.2.2⟩, ob, es, ep, k _ _ (.inl rfl) e, c⟩
  | set S n => obtain ⟨ob, es, ep, t, e, c⟩ := x; exact ⟨ob, es, ep, t, k _ _ (.inl rfl) e, c⟩
  | ins C dx fs =>
    obtain ⟨d, z, ne, e, mA, ⟨od, es, ep, e2, c⟩, r⟩ := x
    exact ⟨ho _ d, z, ne, k _ _ (.inl rfl) e, mA, ⟨od, es, ep, k _ _ (.inr d) e2, c⟩, r⟩
  | own y => obtain ⟨ob, e⟩ := x; exact ⟨ob, k _ _ (.inl rfl) e⟩
  | xd fs => obtain ⟨mA, ⟨od, es, ep, e, c⟩, r⟩ := x; exact ⟨mA, ⟨od, es, ep, k _ _ (.inl rfl) e, c⟩, r⟩
  | rng lo hi => obtain ⟨t, u, v, e⟩ := x; exact ⟨t, u, v, k _ _ (.inl rfl) e⟩
  | frz ob u ih => obtain ⟨e, q⟩ := x; exact ⟨k _ _ (.inl rfl) e, ih q⟩
  | tbl ps =>
    have e : h.get? a = some { cls := .none, data := .fields ps } := x
    show h'.get? a = some { cls := .none, data := .fields ps }
    exact k a _ (.inl rfl) e
  | met f y =>
    have e : h.get? a = some (PySem.W.methodObj (.ref f) (.ref y)) := x
    show h'.get? a = some (PySem.W.methodObj (.ref f) (.ref y))
    exact k a _ (.inl rfl) e
  | ext φ => obtain ⟨p, ⟨o, e⟩, st⟩ := x; exact ⟨st _ _ p fun o q => k _ _ (.inl rfl) q, ⟨o, k _ _ (.inl rfl) e⟩, st⟩
theorem HOk.lt (x : HOk P w H h) (e : H a = some o) : a < h.objs.size := (x a o e).lt
theorem HOk.fresh (x : HOk P w H h) (e : h.objs.size ≤ a) : H a = none := by
  cases q : H a with
  | none => rfl
  | some u => exact absurd (Nat.lt_of_lt_of_le (x.lt q) e) (Nat.lt_irrefl _)
/-- every object of the heap is kept -/
theorem HOk.kept (x : HOk P w H h) (k : ∀ b u, h.get? b = some u → h'.get? b = some u) : HOk P w H h' := fun a o e =>
  (x a o e).stay (fun b u _ q => k b u q) (fun _ q => q) fun _ _ q => q
/-- a new object is laid and tracked -/
theorem HOk.laid (x : HOk P w H h) (k : ∀ b u, h.get? b = some u → h'.get? b = some u) (hp : h.objs.size ≤ a) (new : ObjOk P w (upd H a o) h' a o) : HOk P w (upd H a o) h' := fun b u e => by
  have hn := x.fresh hp
  by_cases hb : b = a
  · subst hb; rw [upd_same] at e; cases e; exact new
  · rw [upd_ne hb] at e
    exact (x b u e).stay (fun c v _ q => k c v q) (fun c q => by rw [upd_ne (ne_of_none q hn)]; exact q) fun c xs q => by rw [upd_ne (ne_of_none q hn)]; exact q
end

/-- what may be read as u: it is u, or a known u -/
def Rd (H : Hp) (a : Addr) (u : HO) : Prop := H a = some u ∨ ∃ o, H a = some (.frz o u)
theorem Rd.ok {P : Program} {w : World} {H : Hp} {h : Heap} {a : Addr} {u : HO} (r : Rd H a u) (x : HOk P w H h) : ObjOk P w H h a u := by
  rcases r with r | ⟨o, r⟩
  · exact x a u r
  · obtain ⟨_, q⟩ := x a _ r
    exact q
/-- what may be written -/
def Mut : Option HO → Prop
  | some (.lst _) => True
  | some (.dK _) => True
  | some (.dT _) => True
  | some (.set _ _) => True
  | some (.ins _ _ _) => True
  | some (.ext _) => True
  | _ => False
section
variable {P : Program} {w : World} {H : Hp} {h h' : Heap} {x e : Addr} {o' : HO}
/-- the object at e is changed: x itself, or the dict of the instance x -/
theorem HOk.write (ok : HOk P w H h) (mu : Mut (H x)) (he : e = x ∨ H e = some (.own x)) (k : ∀ b u, b ≠ e → h.get? b = some u → h'.get? b = some u) (heo : ∃ u, h'.get? e = some u)
    (new : ObjOk P w (upd H x o') h' x o') : HOk P w (upd H x o') h' := fun b u q => by
  have nown : ∀ c y, H c = some (.own y) → c ≠ x := fun c y r z => by subst z; rw [r] at mu; exact mu
  have ntup : ∀ c xs, H c = some (.tup xs) → c ≠ x := fun c xs r z => by subst z; rw [r] at mu; exact mu
  by_cases hb : b = x
  · subst hb; rw [upd_same] at q; cases q; exact new
  · rw [upd_ne hb] at q
    by_cases hbe : b = e
    · have q' : H b = some (.own x) := by
        rcases he with z | z
        · exact absurd (hbe.trans z) hb
        · rw [hbe]; exact z
      rw [q] at q'; cases q'
      obtain ⟨v, hv⟩ := heo
      exact ⟨v, by rw [hbe]; exact hv⟩
    · refine (ok b u q).stay (fun c v hc r => k c v ?_ r) (fun c r => by rw [upd_ne (nown c b r)]; exact r) fun c xs r => by rw [upd_ne (ntup c xs r)]; exact r
      rcases hc with rfl | hc
      · exact hbe
      · rintro rfl
        rcases he with z | z
        · exact nown c b hc z
        · rw [hc] at z; cases z; exact hb rfl
end

/-! ### kept unless tracked; of the frames at fs (the callers') the slots may change (an exception that passes writes there); of the records at ex (iterators) nothing is said -/
structure Un (fs ex : List Addr) (H H' : Hp) (h h' : Heap) : Prop where
  keep : ∀ b o, h.get? b = some o → H b = none → b ∉ fs → b ∉ ex → h'.get? b = some o
  slot : ∀ b o, h.get? b = some o → H b = none → b ∈ fs → b ∉ ex → ∃ sl, h'.get? b = some { o with slots := sl }
  free : ∀ b o, h.get? b = some o → H b = none → b ∉ ex → H' b = none
  there : ∀ b o, h.get? b = some o → b ∉ ex → ∃ o', h'.get? b = some o'
  tups : ∀ b xs, H b = some (.tup xs) → H' b = some (.tup xs)
  frzs : ∀ b o u, H b = some (.frz o u) → H' b = some (.frz o u)
  tbls : ∀ b ps, H b = some (.tbl ps) → ∃ more, H' b = some (.tbl (ps ++ more))
section
variable {fs fs' ex ex' : List Addr} {H H1 H2 : Hp} {h h1 h2 h' : Heap} {a x e : Addr} {o : HO}
theorem Un.any (u : Un fs ex H H1 h h1) {b : Addr} {ob : Obj} (q : h.get? b = some ob) (n : H b = none) (hx : b ∉ ex) : ∃ sl, h1.get? b = some { ob with slots := sl } := by
  by_cases hb : b ∈ fs
  · exact u.slot b ob q n hb hx
  · exact ⟨ob.slots, u.keep b ob q n hb hx⟩
theorem Un.kept (k : ∀ b u, h.get? b = some u → h'.get? b = some u) : Un fs ex H H h h' :=
  ⟨fun b ob q _ _ _ => k b ob q, fun b ob q _ _ _ => ⟨ob.slots, k b ob q⟩, fun _ _ _ n _ => n, fun b ob q _ => ⟨ob, k b ob q⟩, fun _ _ q => q, fun _ _ _ q => q, fun _ ps q => ⟨#[], by rw [q]; simp⟩⟩
theorem Un.refl : Un fs ex H H h h := Un.kept fun _ _ q => q
theorem Un.laid (k : ∀ b u, h.get? b = some u → h'.get? b = some u) (hp : h.objs.size ≤ a) (hn : H a = none) : Un fs ex H (upd H a o) h h' where
  keep := fun b u q _ _ _ => k b u q
  slot := fun b u q _ _ _ => ⟨u.slots, k b u q⟩
  free := fun b u q n _ => by rw [upd_ne (Nat.ne_of_lt (Nat.lt_of_lt_of_le (Heap.lt_size q) hp))]; exact n
  there := fun b u q _ => ⟨u, k b u q⟩
  tups := fun b xs q => by rw [upd_ne (ne_of_none q hn)]; exact q
  frzs := fun b u xs q => by rw [upd_ne (ne_of_none q hn)]; exact q
  tbls := fun b ps q => ⟨#[], by rw [upd_ne (ne_of_none q hn), q]; simp⟩
theorem Un.write (mu : Mut (H x)) (he : e = x ∨ H e = some (.own x)) (k : ∀ b u, b ≠ e → h.get? b = some u → h'.get? b = some u) (heo : ∃ u, h'.get? e = some u) : Un fs ex H (upd H x o) h h' := by
  have hx : ∀ b, H b = none → b ≠ x := fun b n z => by subst z; rw [n] at mu; exact mu
  have hb : ∀ b, H b = none → b ≠ e := fun b n z => by
    subst z
    rcases he with r | r
    · exact hx b n r
    · rw [n] at r; cases r
  have hm : ∀ b u, H b = some u → ¬ Mut (some u) → b ≠ x := fun b u q nm z => by subst z; rw [q] at mu; exact nm mu
  refine ⟨fun b u q n _ _ => k b u (hb b n) q, fun b u q n _ _ => ⟨u.slots, k b u (hb b n) q⟩, fun b u q n _ => by rw [upd_ne (hx b n)]; exact n, fun b u q _ => ?_,
    fun b xs q => by rw [upd_ne (hm b _ q fun z => z)]; exact q, fun b u xs q => by rw [upd_ne (hm b _ q fun z => z)]; exact q, fun b ps q => ⟨#[], by rw [upd_ne (hm b _ q fun z => z), q]; simp⟩⟩
  by_cases hbe : b = e
  · subst hbe; exact heo
  · exact ⟨u, k b u hbe q⟩
end

/-! ### the heap without what is tracked -/
def trk (h : Heap) (H : Hp) : List Addr := (List.range h.objs.size).filter fun a => (H a).isSome
def hidT (h : Heap) (H : Hp) : Heap := PySem.W.hideAll h (trk h H)
theorem hidT_size (h : Heap) (H : Hp) : (hidT h H).objs.size = h.objs.size := PySem.W.hideAll_size _ _
theorem hidT_get {h : Heap} {H : Hp} {b : Addr} {o : Obj} (e : h.get? b = some o) (n : H b = none) : (hidT h H).get? b = some o :=
  PySem.W.hideAll_get _ e fun hm => by
    have q : (H b).isSome = true := (List.mem_filter.mp hm).2
    rw [n] at q; simp at q
theorem of_hidT {h : Heap} {H : Hp} {b : Addr} {o : Obj} (e : (hidT h H).get? b = some o) : h.get? b = some o ∧ H b = none := by
  have e' : h.get? b = some o := PySem.W.of_hideAll (trk h H) e
  refine ⟨e', ?_⟩
  cases q : H b with
  | none => rfl
  | some x =>
    have hm : b ∈ trk h H := List.mem_filter.mpr ⟨List.mem_range.mpr (Heap.lt_size e'), by simp [q]⟩
    have z : (hidT h H).get? b = none := PySem.W.hideAll_none (trk h H) hm
    rw [z] at e; cases e

/-! ### OpenK's ledger, filled with every new object but one -/
def allNews (g h : Heap) (L : Addr) : List (Addr × Obj) := (List.range h.objs.size).filterMap fun a => if a = L ∨ (g.get? a).isSome = true then none else (h.get? a).map fun o => (a, o)
def rest (g h : Heap) (L d : Addr) : List (Addr × Obj) := (allNews g h L).filter fun p => decide (p.1 ≠ d)
end L2

namespace L2
open PySem PySem.Spec PyProof.Rows

/-- the module's facts, over the base: the heap at the law's entry without what is tracked there -/
structure Mod (K : PySem.W.Frag) (mg : Str → Option Value) (base : Heap) : Prop where
  kin : K.In base
  glob : base.Ns mainGlobals mg
  blt : ∃ mb, base.Ns builtinsNs mb ∧ ∀ x : Str, x ≠ "__name__" → mb x = bootBuiltins x
  nolimit : base.NoLimit

/-- the context: a def's body (or a comprehension's block) running. base: fixed through the whole law; s₀, H₀: the entry; outer: the frames whose slots others may change (a def's callers); stack: all frames that run;
   ex: iterators that were made ahead of the entry and are walked here (a comprehension's); fn: the names whose cells were made at the entry (a def: all; a comprehension's block: its own); calm: not within an except suite; pn: pins that every state bears; xe: what is wanted of an exception that leaves the code -/
structure Cx where
  prog : Program
  w : World
  K : PySem.W.Frag
  mg : Str → Option Value
  base : Heap
  A : Around
  N : List Str
  s₀ : Shared
  H₀ : Hp
  env : Env
  outer : List Env
  stack : List Env
  ex : List Addr
  fn : Str → Bool
  calm : Bool
  pn : List (Addr × Obj)
  xe : Value → Shared → Prop
/-- the callers' frames -/
def frs (l : List Env) : List Addr := l.filterMap (·.frame)
abbrev Cx.fs (X : Cx) : List Addr := frs X.outer

def Vis (sc : Scope) (x : Str) : Prop := sc.names.lookup x = some .local ∨ sc.names.lookup x = some .cell ∨ sc.names.lookup x = some .free
def Loc (sc : Scope) (x : Str) : Prop := sc.names.lookup x = some .local ∨ sc.names.lookup x = some .cell
def Look (env : Env) (h : Heap) (m : Str → Option Value) (x : Str) (u : Value) : Prop :=
  (env.kindOf x = some .local ∧ m x = some u) ∨ ((env.kindOf x = some .cell ∨ env.kindOf x = some .free) ∧ ∃ c, env.cells.lookup x = some c ∧ h.IsCell c (some u))

structure Cx.Ok (X : Cx) : Prop where
  mod : Mod X.K X.mg X.base
  kind : X.env.scope.kind = .function
  glob : X.env.globals = mainGlobals
  blt : X.env.builtins = builtinsNs
  above : X.s₀.heap.objs.size ≤ X.env.locals
  inj : ∀ x y c, X.env.cells.lookup x = some c → X.env.cells.lookup y = some c → x = y
  has : ∀ x, (X.env.kindOf x = some .cell ∨ X.env.kindOf x = some .free) → ∃ c, X.env.cells.lookup x = some c
  cab : ∀ x c, X.fn x = true → X.env.cells.lookup x = some c → X.s₀.heap.objs.size ≤ c
  hd : X.calm = true → X.A.handled = none
  frames : X.A.frames = some X.stack
  stk : X.stack = X.outer ∨ (X.stack = X.env :: X.outer ∧ X.env.frame = some X.env.locals)
  exf : ∀ b ∈ X.ex, b ≠ X.env.locals ∧ ∀ x c, X.env.cells.lookup x = some c → c ≠ b
  bs : ∀ b o, X.base.get? b = some o → X.s₀.heap.get? b = some o ∧ X.H₀ b = none
  bsz : X.base.objs.size ≤ X.s₀.heap.objs.size
  noex : ∀ b o, X.base.get? b = some o → b ∉ X.ex
  exfs : ∀ b ∈ X.ex, b ∉ X.fs
  funs : X.s₀.heap.FunFrames X.base X.outer
  frf : ∀ b ∈ X.fs, X.H₀ b = none

structure Inv (X : Cx) (pins : List (Addr × Obj)) (σ : List (Option V)) (H : Hp) (s : Shared) : Prop where
  ok : X.Ok
  os : s.os = X.s₀.os
  bare : AllBare s.gens
  base : Un X.fs X.ex X.H₀ H X.s₀.heap s.heap
  loc : ∃ m, s.heap.Ns X.env.locals m ∧ ∀ (i : Nat) (x : Str) (v : V), X.N[i]? = some x → σ[i]? = some (some v) → Vis X.env.scope x → ∃ u, RelV v u ∧ Look X.env s.heap m x u
  cell : ∀ x c, X.env.cells.lookup x = some c → ∃ v, s.heap.IsCell c v
  free : H X.env.locals = none
  freeC : ∀ x c, X.env.cells.lookup x = some c → H c = none
  pin : ∀ p ∈ X.pn ++ pins, s.heap.get? p.1 = some p.2 ∧ H p.1 = none ∧ p.1 ≠ X.env.locals ∧ p.1 ∉ X.fs ∧ ∀ v, p.2.data ≠ .cell v
  hok : HOk X.prog X.w H s.heap
  len : σ.length = X.N.length

section
variable {X : Cx} {pins : List (Addr × Obj)} {σ : List (Option V)} {H H' : Hp} {s : Shared} {h' : Heap}

theorem Cx.Ok.nofr (ok : X.Ok) {b : Addr} {o : Obj} (e : X.base.get? b = some o) : b ∉ X.fs := fun hb => by
  have := (ok.funs.mem hb).1
  rw [e] at this; cases this
theorem Inv.bs (I : Inv X pins σ H s) : ∀ b o, X.base.get? b = some o → s.heap.get? b = some o ∧ H b = none := fun b o e =>
  ⟨I.base.keep b o (I.ok.bs b o e).1 (I.ok.bs b o e).2 (I.ok.nofr e) (I.ok.noex b o e), I.base.free b o (I.ok.bs b o e).1 (I.ok.bs b o e).2 (I.ok.noex b o e)⟩
theorem Inv.bk (I : Inv X pins σ H s) : ∀ b o, X.base.get? b = some o → s.heap.get? b = some o := fun b o e => (I.bs b o e).1
theorem Inv.mod (I : Inv X pins σ H s) : Mod X.K X.mg X.base := I.ok.mod
theorem Inv.kIn (I : Inv X pins σ H s) : X.K.In s.heap := I.ok.mod.kin.keeps I.bk
theorem Inv.lt (I : Inv X pins σ H s) : X.env.locals < s.heap.objs.size := let ⟨_, hn, _⟩ := I.loc; hn.lt
theorem Inv.sz (I : Inv X pins σ H s) : X.s₀.heap.objs.size ≤ s.heap.objs.size := Nat.le_trans I.ok.above (Nat.le_of_lt I.lt)
theorem Inv.nofs (I : Inv X pins σ H s) {a : Addr} (h : s.heap.objs.size ≤ a) : a ∉ X.fs := fun hb => by
  obtain ⟨_, o, ho, _⟩ := I.ok.funs.mem hb
  exact absurd (Nat.lt_of_lt_of_le (Heap.lt_size ho) (Nat.le_trans I.sz h)) (Nat.lt_irrefl _)
theorem Inv.cne (I : Inv X pins σ H s) : ∀ x c, X.env.cells.lookup x = some c → c ≠ X.env.locals := fun x c e z => by
  obtain ⟨v, o, ho, hd⟩ := I.cell x c e
  obtain ⟨m, ⟨o', es, ep, ho', hd', _⟩, _⟩ := I.loc
  rw [z, ho'] at ho; cases ho; rw [hd'] at hd; cases hd
theorem Inv.funs (I : Inv X pins σ H s) : s.heap.FunFrames X.base X.outer := by
  have all : ∀ (l : List Env), (∀ b ∈ frs l, b ∈ X.fs) → X.s₀.heap.FunFrames X.base l → s.heap.FunFrames X.base l := by
    intro l
    induction l with
    | nil => intro _ _; trivial
    | cons env r ih =>
      intro hs hl
      obtain ⟨hk, ⟨L, o, hf, hn, ho, hd⟩, hr⟩ := hl
      have hL : L ∈ X.fs := hs L (by unfold frs; rw [List.filterMap_cons, hf]; exact List.mem_cons_self)
      obtain ⟨sl, e⟩ := I.base.slot L o ho (I.ok.frf L hL) hL fun z => I.ok.exfs L z hL
      exact ⟨hk, ⟨L, _, hf, hn, e, hd⟩, ih (fun b hb => hs b (by unfold frs; rw [List.filterMap_cons, hf]; exact List.mem_cons_of_mem _ hb)) hr⟩
  exact all X.outer (fun _ hb => hb) I.ok.funs

/-- the frames that run, for a call -/
theorem Inv.stack (I : Inv X pins σ H s) : s.heap.FunFrames X.base X.stack := by
  rcases I.ok.stk with e | ⟨e, hf⟩
  · rw [e]; exact I.funs
  · rw [e]
    obtain ⟨m, hn, _⟩ := I.loc
    refine .cons (by rw [I.ok.kind]; decide) hf hn ?_ I.funs
    exact Heap.get?_none_of_le (Nat.le_trans I.ok.bsz I.ok.above)
theorem Inv.stkSub (I : Inv X pins σ H s) : ∀ b ∈ frs X.stack, b ∈ X.env.locals :: X.fs := fun b hb => by
  rcases I.ok.stk with e | ⟨e, hf⟩
  · rw [e] at hb; exact List.mem_cons_of_mem _ hb
  · rw [e] at hb
    unfold frs at hb
    rw [List.filterMap_cons, hf] at hb
    exact hb
theorem Inv.stkFree (I : Inv X pins σ H s) : ∀ b ∈ frs X.stack, H b = none := fun b hb => by
  rcases List.mem_cons.mp (I.stkSub b hb) with e | hb
  · rw [e]; exact I.free
  · obtain ⟨_, o, ho, _⟩ := I.ok.funs.mem hb
    exact I.base.free b o ho (I.ok.frf b hb) fun z => I.ok.exfs b z hb

/-- THE STEP: the untracked objects but the frame and the records at ch are kept (the callers' frames up to slots), the frame's map is kept, the new abstract heap is held -/
theorem Inv.step {g' : Array GenState} {t' : Nat} {d' : Drawn} {ch : List Addr} (I : Inv X pins σ H s)
    (hch : ∀ b ∈ ch, (b ∈ X.ex ∨ X.s₀.heap.objs.size ≤ b) ∧ b ≠ X.env.locals ∧ (∀ x c, X.env.cells.lookup x = some c → c ≠ b) ∧ ∀ p ∈ X.pn ++ pins, p.1 ≠ b)
    (keep : ∀ b o, b ≠ X.env.locals → b ∉ X.fs → b ∉ ch → s.heap.get? b = some o → H b = none → h'.get? b = some o)
    (slot : ∀ b o, b ≠ X.env.locals → b ∈ X.fs → b ∉ ch → s.heap.get? b = some o → H b = none → ∃ sl, h'.get? b = some { o with slots := sl }) (free : ∀ b o, b ∉ ch → s.heap.get? b = some o → H b = none → H' b = none)
    (there : ∀ b o, b ∉ ch → s.heap.get? b = some o → ∃ o', h'.get? b = some o')
    (tups : ∀ b xs, H b = some (.tup xs) → H' b = some (.tup xs)) (frzs : ∀ b o u, H b = some (.frz o u) → H' b = some (.frz o u)) (tbls : ∀ b ps, H b = some (.tbl ps) → ∃ more, H' b = some (.tbl (ps ++ more)))
    (ns : ∀ m, s.heap.Ns X.env.locals m → h'.Ns X.env.locals m) (hok : HOk X.prog X.w H' h') (hg : AllBare g') :
    Inv X pins σ H' { s with heap := h', gens := g', drawn := d', toks := t' } := by
  have neL : ∀ b o, X.s₀.heap.get? b = some o → b ≠ X.env.locals := fun b o e => Nat.ne_of_lt (Nat.lt_of_lt_of_le (Heap.lt_size e) I.ok.above)
  have neC : ∀ b o, X.s₀.heap.get? b = some o → b ∉ X.ex → b ∉ ch := fun b o e hx hb => by
    rcases (hch b hb).1 with z | z
    · exact hx z
    · exact absurd (Nat.lt_of_lt_of_le (Heap.lt_size e) z) (Nat.lt_irrefl _)
  have cellK : ∀ x c, X.env.cells.lookup x = some c → ∀ v, s.heap.IsCell c v → h'.IsCell c v := fun x c e v ⟨o, ho, hd⟩ => by
    have nch : c ∉ ch := fun z => (hch c z).2.2.1 x c e rfl
    by_cases hc : c ∈ X.fs
    · obtain ⟨sl, q⟩ := slot c o (I.cne x c e) hc nch ho (I.freeC x c e)
      exact ⟨_, q, hd⟩
    · exact ⟨o, keep c o (I.cne x c e) hc nch ho (I.freeC x c e), hd⟩
  refine ⟨I.ok, I.os, hg, ⟨fun b o e n hb hx => ?_, fun b o e n hb hx => ?_, fun b o e n hx => ?_, fun b o e hx => ?_, fun b xs e => tups b xs (I.base.tups b xs e), fun b o xs e => frzs b o xs (I.base.frzs b o xs e), fun b ps e => ?_⟩, ?_, fun x c e => ?_, ?_, fun x c e => ?_, fun p hp => ?_, hok, I.len⟩
  · exact keep b o (neL b o e) hb (neC b o e hx) (I.base.keep b o e n hb hx) (I.base.free b o e n hx)
  · obtain ⟨sl, e1⟩ := I.base.slot b o e n hb hx
    obtain ⟨sl', e2⟩ := slot b _ (neL b o e) hb (neC b o e hx) e1 (I.base.free b o e n hx)
    exact ⟨sl', e2⟩
  · obtain ⟨o', e1⟩ := I.base.there b o e hx
    exact free b o' (neC b o e hx) e1 (I.base.free b o e n hx)
  · obtain ⟨o', e1⟩ := I.base.there b o e hx
    exact there b o' (neC b o e hx) e1
  · obtain ⟨m1, e1⟩ := I.base.tbls b ps e
    obtain ⟨m2, e2⟩ := tbls b _ e1
    exact ⟨m1 ++ m2, by rw [e2, Array.append_assoc]⟩
  · obtain ⟨m, hn, hl⟩ := I.loc
    refine ⟨m, ns m hn, fun i x v e1 e2 e3 => ?_⟩
    obtain ⟨u, r, l⟩ := hl i x v e1 e2 e3
    refine ⟨u, r, ?_⟩
    rcases l with l | ⟨k, c, e, z⟩
    · exact .inl l
    · exact .inr ⟨k, c, e, cellK x c e _ z⟩
  · obtain ⟨v, z⟩ := I.cell x c e
    exact ⟨v, cellK x c e v z⟩
  · obtain ⟨m, ⟨o, _, _, ho, _⟩, _⟩ := I.loc
    exact free _ o (fun z => (hch _ z).2.1 rfl) ho I.free
  · obtain ⟨v, o, ho, hd⟩ := I.cell x c e
    exact free c o (fun z => (hch c z).2.2.1 x c e rfl) ho (I.freeC x c e)
  · obtain ⟨e, n, ne, nf, d⟩ := I.pin p hp
    have nch : p.1 ∉ ch := fun z => (hch p.1 z).2.2.2 p hp rfl
    exact ⟨keep p.1 p.2 ne nf nch e n, free p.1 p.2 nch e n, ne, nf, d⟩
/-- .. where the frame's own object is kept too -/
theorem Inv.un {t' : Nat} (I : Inv X pins σ H s) (u : Un X.fs [] H H' s.heap h') (hok : HOk X.prog X.w H' h') : Inv X pins σ H' { s with heap := h', toks := t' } := by
  obtain ⟨m, ⟨o, es, ep, ho, r⟩, _⟩ := id I.loc
  obtain ⟨sl, hL⟩ := u.any ho I.free (by simp)
  exact I.step (g' := s.gens) (d' := s.drawn) (ch := []) (fun _ z => nomatch z) (fun b o _ hb _ e n => u.keep b o e n hb (by simp)) (fun b o _ hb _ e n => u.slot b o e n hb (by simp)) (fun b o _ e n => u.free b o e n (by simp)) (fun b o _ e => u.there b o e (by simp)) u.tups u.frzs u.tbls (fun m' hm => by
    obtain ⟨o', es', ep', ho', r'⟩ := hm
    rw [ho] at ho'; cases ho'
    exact ⟨_, es', ep', hL, r'⟩) hok I.bare
/-- behind a call (or a comprehension's block): the slots of this frame may have changed too, the records at ch may have turned -/
theorem Inv.call {g' : Array GenState} {t' : Nat} {d' : Drawn} {ch : List Addr} (I : Inv X pins σ H s) (u : Un (frs X.stack) ch H H' s.heap h') (hok : HOk X.prog X.w H' h') (hg : AllBare g')
    (hch : ∀ b ∈ ch, (b ∈ X.ex ∨ X.s₀.heap.objs.size ≤ b) ∧ b ≠ X.env.locals ∧ (∀ x c, X.env.cells.lookup x = some c → c ≠ b) ∧ ∀ p ∈ X.pn ++ pins, p.1 ≠ b) :
    Inv X pins σ H' { s with heap := h', gens := g', drawn := d', toks := t' } := by
  obtain ⟨m, ⟨o, es, ep, ho, r⟩, _⟩ := id I.loc
  obtain ⟨sl, hL⟩ := u.any ho I.free fun z => (hch _ z).2.1 rfl
  exact I.step (ch := ch) hch (fun b o hL hb hc e n => u.keep b o e n (fun z => (List.mem_cons.mp (I.stkSub b z)).elim hL hb) hc) (fun b o _ _ hc e n => u.any e n hc) (fun b o hc e n => u.free b o e n hc) (fun b o hc e => u.there b o e hc) u.tups u.frzs u.tbls (fun m' hm => by
    obtain ⟨o', es', ep', ho', r'⟩ := hm
    rw [ho] at ho'; cases ho'
    exact ⟨_, es', ep', hL, r'⟩) hok hg
/-- an untracked record of ours (an iterator) has turned -/
theorem Inv.turned {t' : Nat} {it : Addr} (I : Inv X pins σ H s) (k : ∀ b o, b ≠ it → s.heap.get? b = some o → h'.get? b = some o) (hn : H it = none) (hL : it ≠ X.env.locals)
    (h1 : it ∈ X.ex ∨ X.s₀.heap.objs.size ≤ it) (h2 : ∀ x c, X.env.cells.lookup x = some c → c ≠ it) (h3 : ∀ p ∈ X.pn ++ pins, p.1 ≠ it) : Inv X pins σ H { s with heap := h', toks := t' } := by
  have nit : ∀ b u, H b = some u → b ≠ it := fun b u e z => by rw [z, hn] at e; cases e
  refine I.step (g' := s.gens) (d' := s.drawn) (ch := [it]) (fun b hb => ?_) (fun b o _ _ hc e _ => k b o (fun z => hc (by simp [z])) e) (fun b o _ _ hc e _ => ⟨o.slots, k b o (fun z => hc (by simp [z])) e⟩) (fun _ _ _ _ n => n)
    (fun b o hc e => ⟨o, k b o (fun z => hc (by simp [z])) e⟩) (fun _ _ e => e) (fun _ _ _ e => e) (fun b ps e => ⟨#[], by rw [e]; simp⟩) (fun m hm => ?_) (fun b u e => ?_) I.bare
  · have e : b = it := by simpa using hb
    subst e
    exact ⟨h1, hL, h2, h3⟩
  · obtain ⟨o, es, ep, ho, r⟩ := hm
    exact ⟨o, es, ep, k _ o (Ne.symm hL) ho, r⟩
  · refine (I.hok b u e).stay (fun c v hc q => k c v ?_ q) (fun _ q => q) fun _ _ q => q
    rcases hc with z | z
    · rw [z]; exact nit b u e
    · exact nit c _ z
theorem Inv.tok (I : Inv X pins σ H s) (t : Nat) : Inv X pins σ H { s with toks := t } := I.un (h' := s.heap) (t' := t) Un.refl I.hok
/-- all objects kept -/
theorem Inv.kept {t' : Nat} (I : Inv X pins σ H s) (k : ∀ b u, s.heap.get? b = some u → h'.get? b = some u) : Inv X pins σ H { s with heap := h', toks := t' } := I.un (Un.kept k) (I.hok.kept k)
/-- a new object laid and tracked -/
theorem Inv.laid {a : Addr} {o : HO} {t' : Nat} (I : Inv X pins σ H s) (k : ∀ b u, s.heap.get? b = some u → h'.get? b = some u) (hp : s.heap.objs.size ≤ a) (new : ObjOk X.prog X.w (upd H a o) h' a o) :
    Inv X pins σ (upd H a o) { s with heap := h', toks := t' } := I.un (Un.laid k hp (I.hok.fresh hp)) (I.hok.laid k hp new)
/-- an object written -/
theorem Inv.write {x e : Addr} {o : HO} {t' : Nat} (I : Inv X pins σ H s) (mu : Mut (H x)) (he : e = x ∨ H e = some (.own x)) (k : ∀ b u, b ≠ e → s.heap.get? b = some u → h'.get? b = some u) (heo : ∃ u, h'.get? e = some u)
    (new : ObjOk X.prog X.w (upd H x o) h' x o) : Inv X pins σ (upd H x o) { s with heap := h', toks := t' } := I.un (Un.write mu he k heo) (I.hok.write mu he k heo new)
theorem Inv.pins_of {pins' : List (Addr × Obj)} (I : Inv X pins σ H s) (h : ∀ p ∈ pins', s.heap.get? p.1 = some p.2 ∧ H p.1 = none ∧ p.1 ≠ X.env.locals ∧ p.1 ∉ X.fs ∧ ∀ v, p.2.data ≠ .cell v) : Inv X pins' σ H s :=
  ⟨I.ok, I.os, I.bare, I.base, I.loc, I.cell, I.free, I.freeC, fun p hp => (List.mem_append.mp hp).elim (fun z => I.pin p (List.mem_append_left _ z)) (h p), I.hok, I.len⟩

theorem nodup_ix {N : List Str} (hN : N.Nodup) {i j : Nat} {x : Str} (a : N[i]? = some x) (b : N[j]? = some x) : i = j := by
  obtain ⟨h1, e1⟩ := List.getElem?_eq_some_iff.mp a
  obtain ⟨h2, e2⟩ := List.getElem?_eq_some_iff.mp b
  exact (List.getElem_inj hN).mp (e1.trans e2.symm)

/-- a name is stored; what changed -/
theorem store_ok2 {M : Model} {A : Around} {E : Value → Shared → Prop} {i : Nat} {x : Str} {v : V} {u : Value} {Q : Unit → Shared → Prop} (I : Inv X pins σ H s) (hN : X.N.Nodup) (hi : X.N[i]? = some x) (hx : Loc X.env.scope x) (r : RelV v u)
    (h : ∀ s', Inv X pins (σ.set i (some v)) H s' → (∃ a, Heap.SameBut a s.heap s'.heap ∧ (a = X.env.locals ∨ X.env.cells.lookup x = some a)) → Q () s') (hf : X.fn x = true ∨ X.env.scope.names.lookup x = some .local := by first | exact .inl rfl | exact .inr rfl | assumption) : wpAny M A (storeName X.env x u) Q E s := by
  obtain ⟨m, hn, hl⟩ := id I.loc
  have hcls : (X.env.scope.kind == .class || (X.env.scope.kind == .module && X.env.locals != X.env.globals)) = false := by rw [I.ok.kind]; rfl
  have hiσ : i < σ.length := by rw [I.len]; exact (List.getElem?_eq_some_iff.mp hi).1
  have cne := I.cne
  have tracked : ∀ {a : Addr} {h' : Heap}, (∃ o, s.heap.get? a = some o ∧ H a = none) → Heap.SameBut a s.heap h' → HOk X.prog X.w H h' := fun {a h'} ha hs b ob e => by
    obtain ⟨_, _, hfree⟩ := ha
    refine (I.hok b ob e).stay (fun c w' hc q => (hs.2 c ?_).trans q) (fun _ q => q) fun _ _ q => q
    rintro rfl
    rcases hc with rfl | hc
    · rw [hfree] at e; cases e
    · rw [hfree] at hc; cases hc
  rcases hx with hk | hk
  · refine wpAny_storeName_local hk hn (fun h' hn' hs => ?_) hcls
    obtain ⟨oL, _, _, hoL, _⟩ := id hn
    refine h _ ⟨I.ok, I.os, I.bare, ⟨fun b o e n hb hx => ?_, fun b o e n hb hx => ?_, I.base.free, fun b o e hx => ?_, I.base.tups, I.base.frzs, I.base.tbls⟩, ⟨_, hn', fun j y v' e1 e2 e3 => ?_⟩, fun y c e => ?_, I.free, I.freeC, fun p hp => ?_, tracked ⟨oL, hoL, I.free⟩ hs, by simpa using I.len⟩ ⟨_, hs, .inl rfl⟩
    · exact (hs.2 b (Nat.ne_of_lt (Nat.lt_of_lt_of_le (Heap.lt_size e) I.ok.above))).trans (I.base.keep b o e n hb hx)
    · obtain ⟨sl, e1⟩ := I.base.slot b o e n hb hx
      exact ⟨sl, (hs.2 b (Nat.ne_of_lt (Nat.lt_of_lt_of_le (Heap.lt_size e) I.ok.above))).trans e1⟩
    · obtain ⟨o', e1⟩ := I.base.there b o e hx
      exact ⟨o', (hs.2 b (Nat.ne_of_lt (Nat.lt_of_lt_of_le (Heap.lt_size e) I.ok.above))).trans e1⟩
    · by_cases hj : j = i
      · subst hj
        rw [hi] at e1; cases e1
        rw [List.getElem?_set_self hiσ] at e2
        cases e2
        exact ⟨u, r, .inl ⟨hk, by simp⟩⟩
      · rw [List.getElem?_set_ne (Ne.symm hj)] at e2
        obtain ⟨u', r', q⟩ := hl j y v' e1 e2 e3
        refine ⟨u', r', ?_⟩
        rcases q with ⟨k, e⟩ | ⟨k, c, e, z⟩
        · refine .inl ⟨k, ?_⟩
          have : y ≠ x := fun e => hj (nodup_ix hN e1 (e ▸ hi))
          simp [this, e]
        · exact .inr ⟨k, c, e, z.sameBut hs (cne y c e)⟩
    · obtain ⟨w', z⟩ := I.cell y c e
      exact ⟨w', z.sameBut hs (cne y c e)⟩
    · obtain ⟨e, n, ne, nf, d⟩ := I.pin p hp
      exact ⟨(hs.2 p.1 ne).trans e, n, ne, nf, d⟩
  · have hfn : X.fn x = true := by
      rcases hf with z | z
      · exact z
      · rw [z] at hk; cases hk
    obtain ⟨c, hc⟩ := I.ok.has x (.inl hk)
    obtain ⟨w', z⟩ := I.cell x c hc
    refine wpAny_storeName_cell I.ok.kind hk hc z (fun h' hc' hs => ?_)
    obtain ⟨oc, hoc, hocd⟩ := id z
    refine h { s with heap := h' } ⟨I.ok, I.os, I.bare, ⟨fun b o e n hb hx => ?_, fun b o e n hb hx => ?_, I.base.free, fun b o e hx => ?_, I.base.tups, I.base.frzs, I.base.tbls⟩, ⟨m, hn.sameBut hs (Ne.symm (cne x c hc)), fun j y v' e1 e2 e3 => ?_⟩, fun y c' e => ?_, I.free, I.freeC, fun p hp => ?_, tracked ⟨oc, hoc, I.freeC x c hc⟩ hs, by simpa using I.len⟩ ⟨c, hs, .inr hc⟩
    · exact (hs.2 b (Nat.ne_of_lt (Nat.lt_of_lt_of_le (Heap.lt_size e) (I.ok.cab x c hfn hc)))).trans (I.base.keep b o e n hb hx)
    · obtain ⟨sl, e1⟩ := I.base.slot b o e n hb hx
      exact ⟨sl, (hs.2 b (Nat.ne_of_lt (Nat.lt_of_lt_of_le (Heap.lt_size e) (I.ok.cab x c hfn hc)))).trans e1⟩
    · obtain ⟨o', e1⟩ := I.base.there b o e hx
      exact ⟨o', (hs.2 b (Nat.ne_of_lt (Nat.lt_of_lt_of_le (Heap.lt_size e) (I.ok.cab x c hfn hc)))).trans e1⟩
    · by_cases hj : j = i
      · subst hj
        rw [hi] at e1; cases e1
        rw [List.getElem?_set_self hiσ] at e2
        cases e2
        exact ⟨u, r, .inr ⟨.inl hk, c, hc, hc'⟩⟩
      · rw [List.getElem?_set_ne (Ne.symm hj)] at e2
        obtain ⟨u', r', q⟩ := hl j y v' e1 e2 e3
        refine ⟨u', r', ?_⟩
        rcases q with q | ⟨k, c', e, z'⟩
        · exact .inl q
        · refine .inr ⟨k, c', e, z'.sameBut hs ?_⟩
          rintro rfl
          exact hj (nodup_ix hN e1 (I.ok.inj _ _ _ e hc ▸ hi))
    · by_cases hcc : c' = c
      · subst hcc; exact ⟨_, hc'⟩
      · obtain ⟨w2, z2⟩ := I.cell y c' e
        exact ⟨w2, z2.sameBut hs hcc⟩
    · obtain ⟨e, n, ne, nf, d⟩ := I.pin p hp
      refine ⟨(hs.2 p.1 ?_).trans e, n, ne, nf, d⟩
      intro q
      rw [q, hoc] at e
      have q' : oc = p.2 := Option.some.inj e
      exact d w' (by rw [← q']; exact hocd)
theorem store_ok {M : Model} {A : Around} {E : Value → Shared → Prop} {i : Nat} {x : Str} {v : V} {u : Value} {Q : Unit → Shared → Prop} (I : Inv X pins σ H s) (hN : X.N.Nodup) (hi : X.N[i]? = some x) (hx : Loc X.env.scope x) (r : RelV v u)
    (h : ∀ s', Inv X pins (σ.set i (some v)) H s' → Q () s') (hf : X.fn x = true ∨ X.env.scope.names.lookup x = some .local := by first | exact .inl rfl | exact .inr rfl | assumption) : wpAny M A (storeName X.env x u) Q E s :=
  store_ok2 I hN hi hx r (fun s' I' _ => h s' I') hf
/-- behind a call or a block, the state as it is -/
theorem Inv.call' {s' : Shared} {ch : List Addr} (I : Inv X pins σ H s) (ho : s'.os = s.os) (u : Un (frs X.stack) ch H H' s.heap s'.heap) (hok : HOk X.prog X.w H' s'.heap) (hg : AllBare s'.gens)
    (hch : ∀ b ∈ ch, (b ∈ X.ex ∨ X.s₀.heap.objs.size ≤ b) ∧ b ≠ X.env.locals ∧ (∀ x c, X.env.cells.lookup x = some c → c ≠ b) ∧ ∀ p ∈ X.pn ++ pins, p.1 ≠ b) : Inv X pins σ H' s' := by
  obtain ⟨h', g', d', t', o'⟩ := s'
  have e : o' = s.os := ho
  subst e
  exact I.call (g' := g') (t' := t') (d' := d') u hok hg hch
end

/-! ### the judgements -/
/-- an exception: its class, its own dict's address (where it has one), the abstract heap behind it -/
abbrev XK := Value → Option Addr → Hp → Prop
abbrev St := List (Option V)
abbrev VK := V → Hp → Prop
/-- an expression's reading; a test's; an argument list's -/
abbrev TE := St → Hp → VK → Prop
abbrev TT := St → Hp → (Bool → Hp → Prop) → Prop
abbrev TA := St → Hp → (List V → Hp → Prop) → Prop
/-- what is wanted behind a statement -/
structure Ends where
  nx : St → Hp → Prop
  rt : VK
  bk : St → Hp → Prop := fun _ _ => False
  ct : St → Hp → Prop := fun _ _ => False
abbrev TS := Ends → St → Hp → Prop

def EP (X : Cx) (pins : List (Addr × Obj)) (σ : St) (Q : VK) (u : Value) (s' : Shared) : Prop := ∃ v H', Inv X pins σ H' s' ∧ RelV v u ∧ Q v H'
def TP (X : Cx) (pins : List (Addr × Obj)) (σ : St) (Q : Bool → Hp → Prop) (b : Bool) (s' : Shared) : Prop := ∃ H', Inv X pins σ H' s' ∧ Q b H'
def AP (X : Cx) (pins : List (Addr × Obj)) (σ : St) (Q : List V → Hp → Prop) (us : List Value) (s' : Shared) : Prop := ∃ vs H', Inv X pins σ H' s' ∧ Vals vs us ∧ Q vs H'
def SP (X : Cx) (pins : List (Addr × Obj)) (D : Ends) (f : Flow) (s' : Shared) : Prop :=
  match f with
  | .next => ∃ σ' H', Inv X pins σ' H' s' ∧ D.nx σ' H'
  | .brk => ∃ σ' H', Inv X pins σ' H' s' ∧ D.bk σ' H'
  | .cont => ∃ σ' H', Inv X pins σ' H' s' ∧ D.ct σ' H'
  | .ret u => ∃ v σ' H', Inv X pins σ' H' s' ∧ RelV v u ∧ D.rt v H'

def PE (X : Cx) (e : Expr) (t : TE) : Prop :=
  ∀ (pins : List (Addr × Obj)) (s : Shared) (σ : St) (H : Hp) (Q : VK), Inv X pins σ H s → t σ H Q → wpAny (model X.prog X.w) X.A (eval e X.env) (EP X pins σ Q) X.xe s
def PT (X : Cx) (e : Expr) (t : TT) : Prop :=
  ∀ (pins : List (Addr × Obj)) (s : Shared) (σ : St) (H : Hp) (Q : Bool → Hp → Prop), Inv X pins σ H s → t σ H Q → wpAny (model X.prog X.w) X.A (isTrue e X.env (eval e X.env)) (TP X pins σ Q) X.xe s
/-- a test whatever its 'whole' is (and, or) -/
def PW (X : Cx) (e : Expr) (t : TT) : Prop :=
  ∀ (whole : Sem Value) (pins : List (Addr × Obj)) (s : Shared) (σ : St) (H : Hp) (Q : Bool → Hp → Prop), Inv X pins σ H s → t σ H Q → wpAny (model X.prog X.w) X.A (isTrue e X.env whole) (TP X pins σ Q) X.xe s
theorem PW.pt {X : Cx} {e : Expr} {t : TT} (h : PW X e t) : PT X e t := h _
/-- an argument list (no star), from the left -/
def PA (X : Cx) (es : List Expr) (t : TA) : Prop :=
  ∀ (pos : Pos) (pins : List (Addr × Obj)) (s : Shared) (σ : St) (H : Hp) (Q : List V → Hp → Prop), Inv X pins σ H s → t σ H Q → wpAny (model X.prog X.w) X.A (spliced (backTo pos (starEach es X.env))) (AP X pins σ Q) X.xe s
def PS (X : Cx) (st : Stmt) (t : TS) : Prop :=
  ∀ (pins : List (Addr × Obj)) (s : Shared) (σ : St) (H : Hp) (D : Ends), Inv X pins σ H s → t D σ H → wpAny (model X.prog X.w) X.A (exec st X.env) (SP X pins D) X.xe s
def PSs (X : Cx) (st : List Stmt) (t : TS) : Prop :=
  ∀ (pins : List (Addr × Obj)) (s : Shared) (σ : St) (H : Hp) (D : Ends), Inv X pins σ H s → t D σ H → wpAny (model X.prog X.w) X.A (execs st X.env) (SP X pins D) X.xe s
/-- weaken the end -/
theorem thn {α : Type} {t : Sem α} {Q Q' : α → Shared → Prop} {M : Model} {A : Around} {E : Value → Shared → Prop} {s : Shared} (h : wpAny M A t Q E s) (hQ : ∀ a s, Q a s → Q' a s) : wpAny M A t Q' E s := wpAny_mono h hQ fun _ _ x => x
end L2

namespace L2
open PySem PySem.Spec PyProof.Rows
section
variable {X : Cx}

/-! ### names and constants -/
def tVar (i : Nat) : TE := fun σ H Q => ∃ v, σ[i]? = some (some v) ∧ Q v H
def tC (v : V) : TE := fun _ H Q => Q v H
theorem pe_var {i : Nat} {x : Str} {pos : Pos} (hN : X.N[i]? = some x) (hv : Vis X.env.scope x) (hd : (x == ("__debug__" : Str)) = false := by decide) (hcd : (x == ("__classdict__" : Str)) = false := by decide) : PE X (.Name x pos) (tVar i) := by
  intro pins s σ H Q I h
  obtain ⟨v, e, h⟩ := h
  obtain ⟨m, hn, hl⟩ := I.loc
  obtain ⟨u, r, l⟩ := hl i x v hN e hv
  have fin : EP X pins σ Q u s := ⟨v, H, I, r, h⟩
  rcases l with ⟨hk, hm⟩ | ⟨hk, c, hc, hcell⟩
  · exact wpAny_Name (wpAny_loadName_local I.ok.kind hk hn hm fin) hd
  · rcases hk with hk | hk
    · exact wpAny_Name (wpAny_loadName_cell I.ok.kind hk hc hcell fin) hd
    · exact wpAny_Name (wpAny_loadName_free I.ok.kind hk hc hcell fin hcd) hd
theorem pe_int {i j pos} : PE X (.Constant (.int i) j pos) (tC (.int i)) := fun _ _ _ H _ I h => wpAny_Constant_int ⟨.int i, H, I.tok _, ⟨_, rfl⟩, h⟩
theorem pe_bl {b j pos} : PE X (.Constant (.bool b) j pos) (tC (.bl b)) := fun _ _ _ H _ I h => Constant_bool ⟨.bl b, H, I, rfl, h⟩
theorem pe_str {x j pos} : PE X (.Constant (.str x) j pos) (tC (.str x)) := fun _ _ _ H _ I h => Calls.Constant_str ⟨.str x, H, I.tok _, ⟨_, rfl⟩, h⟩

/-- a global name of the def -/
def Gl (X : Cx) (x : Str) : Prop := X.env.kindOf x = some .globalImplicit
theorem ld_glob {E : Value → Shared → Prop} {pins : List (Addr × Obj)} {s : Shared} {σ : St} {H : Hp} {x : Str} {u : Value} {pos : Pos} {Q : Value → Shared → Prop} (I : Inv X pins σ H s) (hg : Gl X x) (hm : X.mg x = some u) (h : Q u s)
    (hd : (x == ("__debug__" : Str)) = false := by decide) : wpAny (model X.prog X.w) X.A (eval (.Name x pos) X.env) Q E s :=
  Calls.Name_function_global I.ok.kind hg (Calls.loadGlobal_global (by rw [I.ok.glob]; exact I.mod.glob.keeps I.bk) hm h) hd
theorem ld_blt {E : Value → Shared → Prop} {pins : List (Addr × Obj)} {s : Shared} {σ : St} {H : Hp} {x : Str} {u : Value} {pos : Pos} {Q : Value → Shared → Prop} (I : Inv X pins σ H s) (hg : Gl X x) (hm : X.mg x = none) (hv : bootBuiltins x = some u) (h : Q u s)
    (hn : x ≠ "__name__" := by decide) (hd : (x == ("__debug__" : Str)) = false := by decide) : wpAny (model X.prog X.w) X.A (eval (.Name x pos) X.env) Q E s := by
  obtain ⟨mb, h1, h2⟩ := I.mod.blt
  exact Calls.Name_function_global I.ok.kind hg (Calls.loadGlobal_builtin (by rw [I.ok.glob]; exact I.mod.glob.keeps I.bk) hm (by rw [I.ok.blt]; exact h1.keeps I.bk) ((h2 x hn).trans hv) h) hd
/-- a module's constant, a class, a function, as a value -/
theorem pe_glob {x : Str} {v : V} {u : Value} {pos : Pos} (hg : Gl X x) (hm : X.mg x = some u) (r : RelV v u) (hd : (x == ("__debug__" : Str)) = false := by decide) : PE X (.Name x pos) (tC v) :=
  fun _ _ _ H _ I h => ld_glob I hg hm ⟨v, H, I, r, h⟩ hd
theorem pe_bltn {x : Str} {v : V} {u : Value} {pos : Pos} (hg : Gl X x) (hm : X.mg x = none) (hv : bootBuiltins x = some u) (r : RelV v u) (hn : x ≠ "__name__" := by decide) (hd : (x == ("__debug__" : Str)) = false := by decide) : PE X (.Name x pos) (tC v) :=
  fun _ _ _ H _ I h => ld_blt I hg hm hv ⟨v, H, I, r, h⟩ hn hd

/-! ### arithmetic -/
/-- two ints -/
def t2I (ta tb : TE) (k : Int → Int → Hp → Prop) : St → Hp → Prop := fun σ H => ta σ H fun x H1 => tb σ H1 fun y H2 => ∃ i j, x = .int i ∧ y = .int j ∧ k i j H2
def tAdd (ta tb : TE) : TE := fun σ H Q => t2I ta tb (fun i j H2 => Q (.int (i + j)) H2) σ H
def tSub (ta tb : TE) : TE := fun σ H Q => t2I ta tb (fun i j H2 => Q (.int (i - j)) H2) σ H
/-- the left factor below 2^64 -/
def tMul (ta tb : TE) : TE := fun σ H Q => t2I ta tb (fun i j H2 => (-(2 ^ 64) < i ∧ i < 2 ^ 64) ∧ Q (.int (i * j)) H2) σ H
variable {a b : Expr} {ta tb : TE} {pos : Pos}
/-! ### comparisons -/
def PC (X : Cx) (op : CmpOp) (a b : Expr) (t : TE) : Prop :=
  ∀ (pins : List (Addr × Obj)) (s : Shared) (σ : St) (H : Hp) (Q : VK), Inv X pins σ H s → t σ H Q →
    wpAny (model X.prog X.w) X.A (eval a X.env) (fun v s₁ => wpAny (model X.prog X.w) X.A (eval b X.env) (fun u s₂ => wpAny (model X.prog X.w) X.A (compareOp op v u) (EP X pins σ Q) X.xe s₂) X.xe s₁) X.xe s
def tCmp (p : Int → Int → Bool) (ta tb : TE) : TE := fun σ H Q => t2I ta tb (fun i j H2 => Q (.bl (p i j)) H2) σ H
abbrev tLt : TE → TE → TE := tCmp fun i j => decide (i < j)
abbrev tLe : TE → TE → TE := tCmp fun i j => decide (i ≤ j)
abbrev tGt : TE → TE → TE := tCmp fun i j => decide (j < i)
abbrev tGe : TE → TE → TE := tCmp fun i j => decide (j ≤ i)
abbrev tEqI : TE → TE → TE := tCmp fun i j => decide (i = j)
abbrev tNeI : TE → TE → TE := tCmp fun i j => !decide (i = j)
/-- is None -/
def tIsN (ta : TE) : TE := fun σ H Q => ta σ H fun x H1 => Q (.bl (decide (x = .non))) H1
def tNotN (ta : TE) : TE := fun σ H Q => ta σ H fun x H1 => Q (.bl (!decide (x = .non))) H1
/-- a comparison as a value, as a test -/
def tB (t : TE) : TT := fun σ H Q => t σ H fun x H1 => ∃ c, x = .bl c ∧ Q c H1
/-- an expression whose value is a bool, as a test -/
theorem pt_val {e : Expr} {t : TE} (h : PE X e t) (he : ∀ whole, isTrue e X.env whole = (do let v ← whole; standAt e.pos; holding [v] (truthy v)) := by intro _; rfl) : PT X e (tB t) := by
  intro pins s σ H Q I hw
  refine isTrue_plain (thn (h pins s σ H _ I hw) fun v s1 ⟨x, H1, I1, r1, q1⟩ => ?_) (he _)
  obtain ⟨d, rfl, q⟩ := q1
  cases r1
  exact wpAny_truthy_bool ⟨H1, I1, q⟩

/-! ### and, or, not -/
variable {tA tB' : TT} {rest : List Expr}
def tAnd (t u : TT) : TT := fun σ H Q => t σ H fun c H1 => if c = true then u σ H1 Q else Q false H1
def tOr (t u : TT) : TT := fun σ H Q => t σ H fun c H1 => if c = true then Q true H1 else u σ H1 Q
def tNot (t : TT) : TT := fun σ H Q => t σ H fun c H1 => Q (!c) H1
theorem pw_and1 (ha : PT X a tA) : PW X (.BoolOp .And [a] pos) tA := by
  intro wh pins s σ H Q I h
  refine isTrue_and (thn (ha pins s σ H Q I h) fun c s1 e => ?_)
  cases c with
  | true => exact isTrue_and_nil e
  | false => exact e
theorem pw_or1 (ha : PT X a tA) : PW X (.BoolOp .Or [a] pos) tA := by
  intro wh pins s σ H Q I h
  refine isTrue_or (thn (ha pins s σ H Q I h) fun c s1 e => ?_)
  cases c with
  | false => exact isTrue_or_nil e
  | true => exact e
theorem pw_and (ha : PT X a tA) (hb : PW X (.BoolOp .And (b :: rest) pos) tB') : PW X (.BoolOp .And (a :: b :: rest) pos) (tAnd tA tB') := by
  intro wh pins s σ H Q I h
  refine isTrue_and (thn (ha pins s σ H _ I h) fun c s1 ⟨H1, I1, q1⟩ => ?_)
  cases c with
  | true => exact hb wh pins s1 σ H1 Q I1 q1
  | false => exact ⟨H1, I1, q1⟩
theorem pw_or (ha : PT X a tA) (hb : PW X (.BoolOp .Or (b :: rest) pos) tB') : PW X (.BoolOp .Or (a :: b :: rest) pos) (tOr tA tB') := by
  intro wh pins s σ H Q I h
  refine isTrue_or (thn (ha pins s σ H _ I h) fun c s1 ⟨H1, I1, q1⟩ => ?_)
  cases c with
  | true => exact ⟨H1, I1, q1⟩
  | false => exact hb wh pins s1 σ H1 Q I1 q1
theorem pt_not (ha : PT X a tA) : PT X (.UnaryOp .Not a pos) (tNot tA) := by
  intro pins s σ H Q I h
  exact isTrue_not (ha pins s σ H (fun c H1 => Q (!c) H1) I h)
/-- .. as values (bools) -/
def tAndV (ta tb : TE) : TE := fun σ H Q => ta σ H fun x H1 => ∃ c, x = .bl c ∧ if c = true then tb σ H1 Q else Q (.bl false) H1
def tOrV (ta tb : TE) : TE := fun σ H Q => ta σ H fun x H1 => ∃ c, x = .bl c ∧ if c = true then Q (.bl true) H1 else tb σ H1 Q
def tNotV (ta : TE) : TE := fun σ H Q => ta σ H fun x H1 => ∃ c, x = .bl c ∧ Q (.bl (!c)) H1
/-- a if t else b -/
def tIf (t : TT) (ta tb : TE) : TE := fun σ H Q => t σ H fun c H1 => if c = true then ta σ H1 Q else tb σ H1 Q
theorem pe_ifExp {c : Expr} (hc : PT X c tA) (ha : PE X a ta) (hb : PE X b tb) : PE X (.IfExp c a b pos) (tIf tA ta tb) := by
  intro pins s σ H Q I h
  refine wpAny_IfExp (thn (hc pins s σ H _ I h) fun d s1 ⟨H1, I1, q1⟩ => ?_)
  cases d with
  | true => exact ha pins s1 σ H1 Q I1 q1
  | false => exact hb pins s1 σ H1 Q I1 q1
end
end L2

namespace L2
open PySem PySem.Spec PyProof.Rows

/-! ### a list, a tuple that is read: tracked, frozen, or an object of the module -/
def SqL (K : PySem.W.Frag) (H : Hp) (a : Addr) (xs : List V) : Prop :=
  Rd H a (.lst xs) ∨
    ∃ (o : Obj) (its : Array Value) (n : Nat), K.lookup a = some o ∧ o.cls = .type "list" ∧ o.dict = none ∧ o.data = .seq its n ∧ its.size ≤ sizeLine ∧ Vals xs its.toList
def SqT (K : PySem.W.Frag) (H : Hp) (a : Addr) (xs : List V) : Prop :=
  Rd H a (.tup xs) ∨
    ∃ (o : Obj) (its : Array Value) (n : Nat), K.lookup a = some o ∧ o.cls = .type "tuple" ∧ o.data = .seq its n ∧ its.size ≤ sizeLine ∧ Vals xs its.toList
def absV : Value → Option V
  | .none => some .non
  | .bool b => some (.bl b)
  | .int i _ => some (.int i)
  | .str x _ => some (.str x)
  | .bytes b _ => some (.byt b)
  | .float b _ => some (.flt b)
  | .ref a => some (.ref a)
  | .type n => some (.ty n)
  | _ => none
theorem RelV.abs {x : V} {u : Value} (r : RelV x u) : absV u = some x := by
  cases x with
  | non => cases r; rfl
  | bl _ => cases r; rfl
  | int _ => obtain ⟨t, rfl⟩ := r; rfl
  | str _ => obtain ⟨t, rfl⟩ := r; rfl
  | byt _ => obtain ⟨t, rfl⟩ := r; rfl
  | flt _ => obtain ⟨t, rfl⟩ := r; rfl
  | ref _ => cases r; rfl
  | ty _ => cases r; rfl
theorem RelV.inj {x y : V} {u : Value} (r : RelV x u) (q : RelV y u) : x = y := Option.some.inj (r.abs.symm.trans q.abs)
theorem Vals.inj : ∀ {xs ys : List V} {us : List Value}, Vals xs us → Vals ys us → xs = ys
  | _, _, _, .nil, .nil => rfl
  | _, _, _, .cons r t, .cons r' t' => by rw [r.inj r', Vals.inj t t']
section
variable {X : Cx} {pins : List (Addr × Obj)} {σ : St} {H : Hp} {s : Shared} {a : Addr} {xs ys : List V}
theorem SqL.of {K : PySem.W.Frag} (h : H a = some (.lst xs)) : SqL K H a xs := .inl (.inl h)
theorem SqT.of {K : PySem.W.Frag} (h : H a = some (.tup xs)) : SqT K H a xs := .inl (.inl h)
theorem Inv.list (I : Inv X pins σ H s) (h : SqL X.K H a xs) : ∃ its : List Value, Vals xs its ∧ PlainL s.heap a its.toArray ∧ xs.length ≤ sizeLine := by
  rcases h with h | ⟨o, its, n, hk, hc, hd, hs, hz, r⟩
  · obtain ⟨z, its, n, r, e⟩ := h.ok I.hok
    exact ⟨its, r, ⟨_, n, e, rfl, rfl, rfl⟩, z⟩
  · refine ⟨its.toList, r, ⟨o, n, I.kIn a o hk, hc, hd, by simpa using hs⟩, ?_⟩
    have e := r.length
    simp only [Array.length_toList] at e
    omega
theorem Inv.tuple (I : Inv X pins σ H s) (h : SqT X.K H a xs) : ∃ its : List Value, Vals xs its ∧ IsTup s.heap a its.toArray ∧ xs.length ≤ sizeLine := by
  rcases h with h | ⟨o, its, n, hk, hc, hs, hz, r⟩
  · obtain ⟨z, its, r, p, _⟩ := h.ok I.hok
    exact ⟨its, r, p, z⟩
  · refine ⟨its.toList, r, ⟨o, I.kIn a o hk, hc, n, by simpa using hs⟩, ?_⟩
    have e := r.length
    simp only [Array.length_toList] at e
    omega
theorem Inv.list_inj (I : Inv X pins σ H s) (h : SqL X.K H a xs) (h' : SqL X.K H a ys) : xs = ys := by
  obtain ⟨its, r, ⟨o, n, e, _, _, d⟩, _⟩ := I.list h
  obtain ⟨its', r', ⟨o', n', e', _, _, d'⟩, _⟩ := I.list h'
  rw [e] at e'; cases e'
  rw [d] at d'
  injection d' with d1 _
  have : its = its' := by simpa using congrArg Array.toList d1
  subst this
  exact r.inj r'
theorem Inv.tuple_inj (I : Inv X pins σ H s) (h : SqT X.K H a xs) (h' : SqT X.K H a ys) : xs = ys := by
  obtain ⟨its, r, ⟨o, e, _, n, d⟩, _⟩ := I.tuple h
  obtain ⟨its', r', ⟨o', e', _, n', d'⟩, _⟩ := I.tuple h'
  rw [e] at e'; cases e'
  rw [d] at d'
  injection d' with d1 _
  have : its = its' := by simpa using congrArg Array.toList d1
  subst this
  exact r.inj r'
end

/-! ### another wish about exceptions -/
abbrev Cx.wish (X : Cx) (E : Value → Shared → Prop) : Cx := { X with xe := E }
/-- no exception leaves -/
abbrev Cx.nox (X : Cx) : Cx := X.wish fun _ _ => False
theorem Cx.Ok.wish {X : Cx} (ok : X.Ok) (E : Value → Shared → Prop) : (X.wish E).Ok :=
  ⟨ok.mod, ok.kind, ok.glob, ok.blt, ok.above, ok.inj, ok.has, ok.cab, ok.hd, ok.frames, ok.stk, ok.exf, ok.bs, ok.bsz, ok.noex, ok.exfs, ok.funs, ok.frf⟩
theorem Cx.Ok.unwish {X : Cx} {E : Value → Shared → Prop} (ok : (X.wish E).Ok) : X.Ok :=
  ⟨ok.mod, ok.kind, ok.glob, ok.blt, ok.above, ok.inj, ok.has, ok.cab, ok.hd, ok.frames, ok.stk, ok.exf, ok.bs, ok.bsz, ok.noex, ok.exfs, ok.funs, ok.frf⟩
section
variable {X : Cx} {pins : List (Addr × Obj)} {σ : St} {H : Hp} {s : Shared} {E : Value → Shared → Prop}
theorem Inv.wish (I : Inv X pins σ H s) (E : Value → Shared → Prop) : Inv (X.wish E) pins σ H s := ⟨I.ok.wish E, I.os, I.bare, I.base, I.loc, I.cell, I.free, I.freeC, I.pin, I.hok, I.len⟩
theorem Inv.unwish (I : Inv (X.wish E) pins σ H s) : Inv X pins σ H s := ⟨I.ok.unwish, I.os, I.bare, I.base, I.loc, I.cell, I.free, I.freeC, I.pin, I.hok, I.len⟩
theorem SP.unwish {D : Ends} {f : Flow} {s' : Shared} (h : SP (X.wish E) pins D f s') : SP X pins D f s' := by
  cases f with
  | next => obtain ⟨σ', H', I, q⟩ := h; exact ⟨σ', H', I.unwish, q⟩
  | brk => obtain ⟨σ', H', I, q⟩ := h; exact ⟨σ', H', I.unwish, q⟩
  | cont => obtain ⟨σ', H', I, q⟩ := h; exact ⟨σ', H', I.unwish, q⟩
  | ret u => obtain ⟨v, σ', H', I, r, q⟩ := h; exact ⟨v, σ', H', I.unwish, r, q⟩
theorem PSs.nox {st : List Stmt} {t : TS} (h : PSs X.nox st t) : PSs X st t := fun pins s σ H D I hw =>
  wpAny_mono (h pins s σ H D (I.wish _) hw) (fun _ _ q => q.unwish) fun _ _ z => False.elim z
end

/-! ### blocks and small statements -/
section
variable {X : Cx} {st : Stmt} {rest : List Stmt} {t u : TS} {e : Expr} {te : TE} {pos : Pos}
def tNext : TS := fun D σ H => D.nx σ H
def tSeq (t u : TS) : TS := fun D σ H => t { D with nx := u D } σ H
theorem pss_nil : PSs X [] tNext := fun _ _ σ H _ I h => wpAny_execs_nil ⟨σ, H, I, h⟩
theorem pss_cons (h1 : PS X st t) (h2 : PSs X rest u) : PSs X (st :: rest) (tSeq t u) := by
  intro pins s σ H D I h
  refine wpAny_execs_cons (thn (h1 pins s σ H { D with nx := u D } I h) fun f s1 q => ?_)
  cases f with
  | next =>
    obtain ⟨σ', H', I', q⟩ := q
    exact h2 pins s1 σ' H' D I' q
  | ret v => exact q
  | brk => exact q
  | cont => exact q
theorem pss_one (h1 : PS X st t) : PSs X [st] t := by
  intro pins s σ H D I h
  refine wpAny_execs_cons (thn (h1 pins s σ H D I h) fun f s1 q => ?_)
  cases f with
  | next => exact wpAny_execs_nil q
  | ret v => exact q
  | brk => exact q
  | cont => exact q
def tBreak : TS := fun D σ H => D.bk σ H
def tCont : TS := fun D σ H => D.ct σ H
/-- in a def's body nothing is shown -/
theorem Inv.quiet {pins : List (Addr × Obj)} {σ : St} {H : Hp} {s : Shared} (I : Inv X pins σ H s) : interactive X.env = false := by simp [interactive, I.ok.kind]
/-- an expression whose value is dropped -/
def tDrop (te : TE) : TS := fun D σ H => te σ H fun _ H1 => D.nx σ H1
theorem ps_expr (he : PE X e te) (hs : swapsWith e none pos.line X.env = pure false := by rfl) : PS X (.Expr e pos) (tDrop te) := by
  intro pins s σ H D I h
  exact wpAny_Expr_any (thn (he pins s σ H _ I h) fun v s1 ⟨x, H1, I1, r1, q1⟩ => ⟨σ, H1, I1, q1⟩) I.quiet hs
def tRet (te : TE) : TS := fun D σ H => te σ H D.rt
theorem ps_ret (he : PE X e te) : PS X (.Return (some e) pos) (tRet te) := by
  intro pins s σ H D I h
  exact wpAny_Return_some (thn (he pins s σ H _ I h) fun v s1 ⟨x, H1, I1, r1, q1⟩ => ⟨x, σ, H1, I1, r1, q1⟩)
def tRetN : TS := fun D _ H => D.rt .non H
def tIfS (c : TT) (t u : TS) : TS := fun D σ H => c σ H fun b H1 => if b = true then t D σ H1 else u D σ H1
theorem ps_if {c : Expr} {a b : List Stmt} {tc : TT} (hc : PT X c tc) (ha : PSs X a t) (hb : PSs X b u) : PS X (.If c a b pos) (tIfS tc t u) := by
  intro pins s σ H D I h
  refine wpAny_If (thn (hc pins s σ H _ I h) fun d s1 ⟨H1, I1, q1⟩ => ?_)
  cases d with
  | true => exact ha pins s1 σ H1 D I1 q1
  | false => exact hb pins s1 σ H1 D I1 q1
/-- code that the proof never comes to -/
def tNever : TS := fun _ _ _ => False
theorem pss_never {sts : List Stmt} : PSs X sts tNever := fun _ _ _ _ _ _ h => h.elim
end

/-! ### targets -/
abbrev TG := V → St → Hp → (St → Hp → Prop) → Prop
abbrev TGs := List V → St → Hp → (St → Hp → Prop) → Prop
def PG (X : Cx) (target : Expr) (t : TG) : Prop :=
  ∀ (pins : List (Addr × Obj)) (s : Shared) (σ : St) (H : Hp) (v : V) (u : Value) (Q : St → Hp → Prop), Inv X pins σ H s → RelV v u → t v σ H Q →
    wpAny (model X.prog X.w) X.A (assign target X.env u) (fun _ s' => ∃ σ' H', Inv X pins σ' H' s' ∧ Q σ' H') X.xe s
/-- several targets, one after another -/
def PGs (X : Cx) (ts : List Expr) (t : TGs) : Prop :=
  ∀ (pins : List (Addr × Obj)) (s : Shared) (σ : St) (H : Hp) (vs : List V) (us : List Value) (Q : St → Hp → Prop), Inv X pins σ H s → Vals vs us → t vs σ H Q →
    wpAny (model X.prog X.w) X.A (assignInOrder ((assignEach ts X.env).map (·.2)) us) (fun _ s' => ∃ σ' H', Inv X pins σ' H' s' ∧ Q σ' H') X.xe s
/-- o[i] = v, by values -/
abbrev TSet := V → V → V → Hp → (Hp → Prop) → Prop
def PSet (X : Cx) (t : TSet) : Prop :=
  ∀ (pins : List (Addr × Obj)) (s : Shared) (σ : St) (H : Hp) (o i v : V) (ov iv u : Value) (Q : Hp → Prop), Inv X pins σ H s → RelV o ov → RelV i iv → RelV v u → t o i v H Q →
    wpAny (model X.prog X.w) X.A (setItem ov iv u) (fun _ s' => ∃ H', Inv X pins σ H' s' ∧ Q H') X.xe s
/-- a op= b, by values -/
abbrev TIp := V → V → Hp → VK → Prop
def PIp (X : Cx) (op : Operator) (t : TIp) : Prop :=
  ∀ (pins : List (Addr × Obj)) (s : Shared) (σ : St) (H : Hp) (x y : V) (v u : Value) (Q : VK), Inv X pins σ H s → RelV x v → RelV y u → t x y H Q →
    wpAny (model X.prog X.w) X.A (inplaceOp op v u) (EP X pins σ Q) X.xe s
section
variable {X : Cx} {pos : Pos}
def gName (i : Nat) : TG := fun v σ H Q => Q (σ.set i (some v)) H
theorem pg_name {i : Nat} {x : Str} (hN : X.N.Nodup) (hi : X.N[i]? = some x) (hx : Loc X.env.scope x) (hf : X.fn x = true ∨ X.env.scope.names.lookup x = some .local := by first | exact .inl rfl | exact .inr rfl | assumption) : PG X (.Name x pos) (gName i) := by
  intro pins s σ H v u Q I r h
  exact wpAny_assign_Name (store_ok I hN hi hx r (fun s' I' => ⟨_, H, I', h⟩) hf)
def gNil : TGs := fun vs σ H Q => vs = [] ∧ Q σ H
def gCons (t : TG) (u : TGs) : TGs := fun vs σ H Q => ∃ v r, vs = v :: r ∧ t v σ H fun σ' H' => u r σ' H' Q
theorem pgs_nil : PGs X [] gNil := by
  intro pins s σ H vs us Q I r h
  obtain ⟨e, h⟩ := h
  subst e
  cases r
  exact assignInOrder_nil ⟨σ, H, I, h⟩
theorem pgs_cons {e : Expr} {es : List Expr} {t : TG} {u : TGs} (h1 : PG X e t) (h2 : PGs X es u)
    (hs : (assignEach (e :: es) X.env).map (·.2) = assign e X.env :: (assignEach es X.env).map (·.2) := by rfl) : PGs X (e :: es) (gCons t u) := by
  intro pins s σ H vs us Q I r h
  obtain ⟨v, vr, e1, h⟩ := h
  subst e1
  cases r with
  | cons r rr =>
    rw [hs]
    refine assignInOrder_cons (thn (h1 pins s σ H _ _ _ I r h) fun _ s1 ⟨σ1, H1, I1, q1⟩ => ?_)
    exact h2 pins s1 σ1 H1 _ _ Q I1 rr q1
/-- (a, b, ..) = a tuple of that length -/
def gTup (K : PySem.W.Frag) (n : Nat) (t : TGs) : TG := fun v σ H Q => ∃ a xs, v = .ref a ∧ SqT K H a xs ∧ xs.length = n ∧ t xs σ H Q
theorem pg_tup {es : List Expr} {k : Nat} {t : TGs} {n : Nat} (hc : X.calm = true) (h : PGs X es t)
    (hn : (assignEach es X.env).length = n := by rfl) (hst : (assignEach es X.env).findIdx? (·.1) = none := by rfl) : PG X (.Tuple es k pos) (gTup X.K n t) := by
  intro pins s σ H v u Q I r hw
  obtain ⟨a, xs, e1, hq, hl, hw⟩ := hw
  subst e1
  cases r
  obtain ⟨its, rv, ht, hz⟩ := I.tuple hq
  refine assign_Tuple_tuple (I.ok.hd hc) ht (by simp [hn, ← hl, rv.length]) hst fun h' hx => ?_
  have I1 : Inv X pins σ H { s with heap := h' } := I.kept (t' := s.toks) fun b o e => hx b o (Nat.ne_of_lt (Heap.lt_size e)) e
  exact h pins _ σ H xs _ Q I1 (by simpa using rv) hw
/-- o[i] = .. -/
def gSub (to ti : TE) (t : TSet) : TG := fun v σ H Q => to σ H fun o H1 => ti σ H1 fun i H2 => t o i v H2 fun H3 => Q σ H3
theorem pg_sub {o i : Expr} {to ti : TE} {t : TSet} (ho : PE X o to) (hi : PE X i ti) (hs : PSet X t)
    (ha : ∀ v, assign (.Subscript o i pos) X.env v = (do
      let ov ← holding [v] (eval o X.env)
      let iv ← holding [v, ov] (eval i X.env)
      standAt pos
      holding [v, ov, iv] (setItem ov iv v)
      release [v, ov, iv] []) := by intro _; rfl) : PG X (.Subscript o i pos) (gSub to ti t) := by
  intro pins s σ H v u Q I r h
  rw [ha]
  refine wpAny_bind (wpAny_holding (thn (ho pins s σ H _ I h) fun ov s1 ⟨x, H1, I1, r1, q1⟩ => ?_))
  refine wpAny_bind (wpAny_holding (thn (hi pins s1 σ H1 _ I1 q1) fun iv s2 ⟨y, H2, I2, r2, q2⟩ => ?_))
  refine wpAny_bind (wpAny_standAt (wpAny_bind (wpAny_holding (thn (hs pins s2 σ H2 x y v ov iv u _ I2 r1 r2 r q2) fun _ s3 ⟨H3, I3, q3⟩ => ?_))))
  exact wpAny_release ⟨σ, H3, I3, q3⟩
/-- target = value -/
def tAsg (te : TE) (g : TG) : TS := fun D σ H => te σ H fun x H1 => g x σ H1 D.nx
theorem ps_asg {tg e : Expr} {te : TE} {g : TG} (he : PE X e te) (hg : PG X tg g) (hs : swapsWithSole [tg] e pos.line X.env = pure false := by rfl) (hw : swappedStores [tg] e X.env = pure none := by rfl)
    (h1 : (assignEach [tg] X.env).map (·.2) = [assign tg X.env] := by rfl) : PS X (.Assign [tg] e pos) (tAsg te g) := by
  intro pins s σ H D I h
  refine wpAny_Assign_stores (thn (he pins s σ H _ I h) fun v s1 ⟨x, H1, I1, r1, q1⟩ => ?_) hs hw
  rw [h1]
  exact thn (hg pins s1 σ H1 x v _ I1 r1 q1) fun _ s2 q => q
/-- name = value -/
theorem ps_set {i : Nat} {x : Str} {e : Expr} {te : TE} {pos' : Pos} (hN : X.N.Nodup) (hi : X.N[i]? = some x) (hx : Loc X.env.scope x) (he : PE X e te) (hs : swapsWith e (some (.Name x pos')) pos.line X.env = pure false := by rfl) (hf : X.fn x = true ∨ X.env.scope.names.lookup x = some .local := by first | exact .inl rfl | exact .inr rfl | assumption) :
    PS X (.Assign [.Name x pos'] e pos) (tAsg te (gName i)) := by
  intro pins s σ H D I h
  refine wpAny_Assign_Name (thn (he pins s σ H _ I h) fun v s1 ⟨y, H1, I1, r1, q1⟩ => ?_) hs
  exact store_ok I1 hN hi hx r1 (fun s2 I2 => ⟨_, H1, I2, q1⟩) hf
/-- a, b = x, y with plain local names: stored from the right; the pair itself is not tracked (the opening rows as in PyProof/Rows/TupAssign.lean:23) -/
def tPar (i j : Nat) (ta : TA) : TS := fun D σ H => ta σ H fun vs H1 => ∃ v w, vs = [v, w] ∧ D.nx ((σ.set i (some v)).set j (some w)) H1
/-- name op= e -/
def tAug (i : Nat) (te : TE) (ti : TIp) : TS := fun D σ H => ∃ x, σ[i]? = some (some x) ∧ te σ H fun y H1 => ti x y H1 fun z H2 => D.nx (σ.set i (some z)) H2
/-- o[i] op= e -/
def tAugS (to ti te : TE) (tget : V → V → Hp → VK → Prop) (tip : TIp) (tset : TSet) : TS := fun D σ H => to σ H fun o H1 => ti σ H1 fun i H2 => tget o i H2 fun x H3 => te σ H3 fun y H4 => tip x y H4 fun z H5 => tset o i z H5 fun H6 => D.nx σ H6
/-- o[i], by values -/
def PGet (X : Cx) (t : V → V → Hp → VK → Prop) : Prop :=
  ∀ (pins : List (Addr × Obj)) (s : Shared) (σ : St) (H : Hp) (o i : V) (ov iv : Value) (Q : VK), Inv X pins σ H s → RelV o ov → RelV i iv → t o i H Q →
    wpAny (model X.prog X.w) X.A (getItem ov iv) (EP X pins σ Q) X.xe s
/-- ints -/
def ipI (f : Int → Int → Int) : TIp := fun x y H Q => ∃ i j, x = .int i ∧ y = .int j ∧ Q (.int (f i j)) H
end

/-! ### while -/
section
variable {X : Cx} {pos : Pos}
/-- the invariant W with its measure -/
def tWhile (c : TT) (tb : TS) : TS := fun D σ H => ∃ W : Nat → St → Hp → Prop, (∃ m, W m σ H) ∧ ∀ m σ H, W m σ H →
  c σ H fun b H1 => if b = true then ∃ N : St → Hp → Prop, (∀ σ' H', N σ' H' → ∃ m', m' < m ∧ W m' σ' H') ∧ tb { D with nx := N, ct := N, bk := D.nx } σ H1 else D.nx σ H1
theorem ps_while {c : Expr} {body : List Stmt} {tc : TT} {tb : TS} (hp : PassesOwn (model X.prog X.w) X.A X.env X.xe) (hc : PT X c tc) (hb : PSs X body tb) : PS X (.While c body [] pos) (tWhile tc tb) := by
  intro pins s σ H D I h
  obtain ⟨W, ⟨m0, w0⟩, turn⟩ := h
  refine wpAny_While (codeAny_whileLoop (fun n s' => ∃ σ' H', Inv X pins σ' H' s' ∧ W n σ' H') ?_ m0 ⟨σ, H, I, w0⟩)
  rintro n s1 ⟨σ1, H1, I1, w1⟩
  refine wpAny_passesOwn hp (thn (hc pins s1 σ1 H1 _ I1 (turn n σ1 H1 w1)) fun b s2 ⟨H2, I2, q2⟩ => ?_)
  cases b with
  | true =>
    obtain ⟨N, hN, q2⟩ := q2
    rw [if_pos rfl]
    refine wpAny_passesOwn hp (thn (hb pins s2 σ1 H2 _ I2 q2) fun f s3 q3 => ?_)
    cases f with
    | next =>
      obtain ⟨σ3, H3, I3, n3⟩ := q3
      obtain ⟨m', hm, w3⟩ := hN σ3 H3 n3
      exact ⟨m', hm, σ3, H3, I3, w3⟩
    | cont =>
      obtain ⟨σ3, H3, I3, n3⟩ := q3
      obtain ⟨m', hm, w3⟩ := hN σ3 H3 n3
      exact ⟨m', hm, σ3, H3, I3, w3⟩
    | brk => exact q3
    | ret v => exact q3
  | false =>
    rw [if_neg Bool.false_ne_true]
    exact wpAny_execs_nil ⟨σ1, H2, I2, q2⟩
end

/-! ### what a loop or a comprehension walks -/
/-- at turn i: it yields x (the heap may grow), or it stops -/
structure It where
  go : Nat → Hp → Prop
  yld : Nat → Hp → V → Hp → Prop
  stop : Nat → Hp → Prop
/-- the iterator's own objects may turn: they are not the frame's, not pinned, younger than the entry (or a comprehension's own) -/
def FpOk (X : Cx) (pins : List (Addr × Obj)) (H : Hp) (b : Addr) : Prop :=
  H b = none ∧ b ≠ X.env.locals ∧ b ∉ X.fs ∧ (b ∈ X.ex ∨ X.s₀.heap.objs.size ≤ b) ∧ (∀ x c, X.env.cells.lookup x = some c → c ≠ b) ∧ ∀ p ∈ X.pn ++ pins, p.1 ≠ b
theorem Inv.fpOk {X : Cx} {pins : List (Addr × Obj)} {σ : St} {H H' : Hp} {s : Shared} {b : Addr} (I : Inv X pins σ H s) (hb : s.heap.objs.size ≤ b) (hn : H' b = none) : FpOk X pins H' b := by
  refine ⟨hn, Nat.ne_of_gt (Nat.lt_of_lt_of_le I.lt hb), I.nofs hb, .inr (Nat.le_trans I.sz hb), fun x c e z => ?_, fun p hp z => ?_⟩
  · obtain ⟨v, q⟩ := I.cell x c e
    exact absurd (Nat.lt_of_lt_of_le q.lt (by rw [z]; exact hb)) (Nat.lt_irrefl _)
  · exact absurd (Nat.lt_of_lt_of_le (Heap.lt_size (I.pin p hp).1) (by rw [z]; exact hb)) (Nat.lt_irrefl _)
structure Turn (P : Program) (w : World) (K : PySem.W.Frag) (tg : Expr) (J : It) (fp : List Addr) (it : Addr) (tn : Nat → Heap → Prop) : Prop where
  mem : it ∈ fp
  obj : ∀ i h, tn i h → ∀ b ∈ fp, ∃ o, h.get? b = some o ∧ ∀ v, o.data ≠ .cell v
  keep : ∀ i h h', tn i h → (∀ b ∈ fp, ∀ o, h.get? b = some o → h'.get? b = some o) → tn i h'
  item : ∀ (X : Cx), X.prog = P → X.w = w → X.K = K → X.calm = true → ∀ (i : Nat) (pins : List (Addr × Obj)) (s : Shared) (σ : St) (H : Hp) (E : Value → Shared → Prop), Inv X pins σ H s → (∀ b ∈ fp, FpOk X pins H b) → tn i s.heap → J.go i H →
    wpAny (model P w) X.A (pyNext (.ref it)) (fun r s1 => ∃ u, r = some u ∧
      wpAny (model P w) X.A (letOwnedTupleGo tg (.ref it) u) (fun _ s2 => ∃ x H', Inv X pins σ H' s2 ∧ RelV x u ∧ J.yld i H x H' ∧ tn (i + 1) s2.heap ∧ ∀ b ∈ fp, H' b = none) E s1) E s
  done : ∀ (X : Cx), X.prog = P → X.w = w → X.K = K → X.calm = true → ∀ (i : Nat) (pins : List (Addr × Obj)) (s : Shared) (σ : St) (H : Hp) (E : Value → Shared → Prop), Inv X pins σ H s → (∀ b ∈ fp, FpOk X pins H b) → tn i s.heap → J.stop i H →
    wpAny (model P w) X.A (pyNext (.ref it)) (fun r s1 => r = none ∧ Inv X pins σ H s1) E s
  self : ∀ (A : Around) (i : Nat) (s : Shared) (Q : Value → Shared → Prop) (E : Value → Shared → Prop), tn i s.heap → Q (.ref it) s → wpAny (model P w) A (pyIter (.ref it)) Q E s
abbrev TI := St → Hp → (It → Hp → Prop) → Prop
/-- an iterator has come -/
def PIE (X : Cx) (pins : List (Addr × Obj)) (σ : St) (tg : Expr) (R : It → Hp → Prop) (itv : Value) (s2 : Shared) : Prop :=
  ∃ (it : Addr) (fp : List Addr) (tn : Nat → Heap → Prop) (J : It) (H' : Hp), itv = .ref it ∧ Inv X pins σ H' s2 ∧ Turn X.prog X.w X.K tg J fp it tn ∧ tn 0 s2.heap ∧ (∀ b ∈ fp, FpOk X pins H' b) ∧ R J H'
def PI (X : Cx) (tg iter : Expr) (wi : TI) : Prop :=
  ∀ (pins : List (Addr × Obj)) (s : Shared) (σ : St) (H : Hp) (R : It → Hp → Prop), Inv X pins σ H s → wi σ H R →
    wpAny (model X.prog X.w) X.A (eval iter X.env) (fun v s1 => wpAny (model X.prog X.w) X.A (pyIter v) (PIE X pins σ tg R) X.xe s1) X.xe s

/-- the step ahead of the store is nothing for an iterator that keeps no tuple -/
theorem go_of {M : Model} {A : Around} {E : Value → Shared → Prop} {s : Shared} {tg : Expr} {it : Addr} {u : Value} {o : Obj} {n : String} {vs : Array Value} {Q : Unit → Shared → Prop} (ho : s.heap.get? it = some o) (hc : o.cls = .type n) (hd : o.data = .fields vs)
    (hn : ["enumerate", "zip", "dict_itemiterator", "dict_reverseitemiterator", "odict_iterator", "itertools.zip_longest", "itertools.pairwise"].contains n = false) (hQ : Q () s) : wpAny M A (letOwnedTupleGo tg (.ref it) u) Q E s := by
  unfold letOwnedTupleGo
  cases tg <;> first
    | exact wpAny_pure hQ
    | (cases u <;> first
        | exact wpAny_pure hQ
        | (refine wpAny_bind (wpAny_load ho ?_)
           rw [hc, hd]
           show wpAny M A (if (["enumerate", "zip", "dict_itemiterator", "dict_reverseitemiterator", "odict_iterator", "itertools.zip_longest", "itertools.pairwise"].contains n && vs[0]? == some (rawInt _)) = true then _ else _) Q E s
           rw [if_neg (by intro h; rw [hn, Bool.false_and] at h; cases h)]
           exact wpAny_pure hQ))

/-- the list at a, as it stands at each turn (a loop may append to it) -/
def Itl (K : PySem.W.Frag) (a : Addr) : It :=
  ⟨fun i H => ∃ xs x, SqL K H a xs ∧ xs[i]? = some x, fun i H x H' => H' = H ∧ ∀ xs, SqL K H a xs → xs[i]? = some x, fun i H => ∃ xs, SqL K H a xs ∧ xs.length ≤ i⟩
def Itt (K : PySem.W.Frag) (a : Addr) : It :=
  ⟨fun i H => ∃ xs x, SqT K H a xs ∧ xs[i]? = some x, fun i H x H' => H' = H ∧ ∀ xs, SqT K H a xs → xs[i]? = some x, fun i H => ∃ xs, SqT K H a xs ∧ xs.length ≤ i⟩
/-- lo, lo + 1, .. (n of them) -/
def Itr (lo : Int) (n : Nat) : It := ⟨fun i _ => i < n, fun i H x H' => H' = H ∧ x = .int (lo + i), fun i _ => n ≤ i⟩
theorem turn_tuple {P : Program} {w : World} {K : PySem.W.Frag} {tg : Expr} (a it : Addr) : Turn P w K tg (Itt K a) [it] it (fun i h => h.IsTupleIter it a i) where
  mem := by simp
  obj := fun i h st b hb => by
    have e : b = it := by simpa using hb
    subst e
    obtain ⟨o, e, c, d⟩ := st
    exact ⟨o, e, fun v z => by rw [d] at z; cases z⟩
  keep := fun i h h' st k => st.at fun o e => k it (by simp) o e
  item := by
    intro X hP hw hK hc i pins s σ H E I hf st hg
    subst hP hw hK
    obtain ⟨xs, x, hq, hx⟩ := hg
    obtain ⟨its, rv, p, hz⟩ := I.tuple hq
    obtain ⟨u, hu, ru⟩ := rv.get hx
    obtain ⟨f0, f1, f2, f3, f4, f5⟩ := hf it (by simp)
    refine wpAny_pyNext_tuple_item st (show s.heap.IsTuple a its.toArray from p) (x := u) (by simpa using hu) fun h' st' sb => ?_
    have I1 : Inv X pins σ H { s with heap := h' } := I.turned (t' := s.toks) (fun b o hb e => (sb.2 b hb).trans e) f0 f1 f3 f4 f5
    obtain ⟨o, e, c, d⟩ := id st'
    exact ⟨u, rfl, go_of (s := { s with heap := h' }) e c d (by decide) ⟨x, H, I1, ru, ⟨rfl, fun ys hy => by rw [I.tuple_inj hy hq]; exact hx⟩, st', fun b hb => (hf b hb).1⟩⟩
  done := by
    intro X hP hw hK hc i pins s σ H E I hf st hg
    subst hP hw hK
    obtain ⟨xs, hq, hx⟩ := hg
    obtain ⟨its, rv, p, hz⟩ := I.tuple hq
    obtain ⟨f0, f1, f2, f3, f4, f5⟩ := hf it (by simp)
    have hl := rv.length
    exact wpAny_pyNext_tuple_end (I.ok.hd hc) st (show s.heap.IsTuple a its.toArray from p) (by simp; omega) fun h' eb => ⟨rfl, I.turned (t' := s.toks) (fun b o hb e => eb b o hb e) f0 f1 f3 f4 f5⟩
  self := fun _ _ _ _ _ st h => wpAny_pyIter_tupleiter st h
theorem turn_range {P : Program} {w : World} {K : PySem.W.Frag} {tg : Expr} (it : Addr) (lo : Int) (n : Nat) : Turn P w K tg (Itr lo n) [it] it (fun i h => IsRangeIter h it (lo + (i : Nat) * 1) ((n : Int) - (i : Nat)) 1) where
  mem := by simp
  obj := fun i h st b hb => by
    have e : b = it := by simpa using hb
    subst e
    exact ⟨_, st, fun v z => by
      have z' : Data.fields _ = Data.cell v := z
      cases z'⟩
  keep := fun i h h' st k => k it (by simp) _ st
  item := by
    intro X hP hw hK hc i pins s σ H E I hf st hg
    subst hP hw hK
    obtain ⟨f0, f1, f2, f3, f4, f5⟩ := hf it (by simp)
    have W := Walks.range (prog := X.prog) (w := X.w) (I.ok.hd hc) it lo 1 n
    refine W.item i s _ _ hg st fun v h' tk hv st' kk => ?_
    obtain ⟨t, rfl⟩ := hv
    have I1 : Inv X pins σ H { s with heap := h', toks := tk } := I.turned (fun b o hb e => kk b o (by simpa using hb) e) f0 f1 f3 f4 f5
    refine ⟨_, rfl, go_of (s := { s with heap := h', toks := tk }) (n := "range_iterator") st' rfl rfl (by decide) ⟨.int (lo + i), H, I1, ⟨t, ?_⟩, ⟨rfl, rfl⟩, st', fun b hb => (hf b hb).1⟩⟩
    rw [Int.mul_one]
  done := by
    intro X hP hw hK hc i pins s σ H E I hf st hg
    subst hP hw hK
    obtain ⟨f0, f1, f2, f3, f4, f5⟩ := hf it (by simp)
    exact wpAny_pyNext_range_end (I.ok.hd hc) st (by have : n ≤ i := hg; omega) fun h' eb => ⟨rfl, I.turned (t' := s.toks) (fun b o hb e => eb b o hb e) f0 f1 f3 f4 f5⟩
  self := fun _ _ _ _ _ st h => wpAny_pyIter_rangeiter st h
end L2

namespace L2
open PySem PySem.Spec PyProof.Rows
section
variable {X : Cx} {tg : Expr}
def iList (K : PySem.W.Frag) (tl : TE) : TI := fun σ H R => tl σ H fun x H1 => ∃ a, x = .ref a ∧ (∃ xs, SqL K H1 a xs) ∧ R (Itl K a) H1
def iTup (K : PySem.W.Frag) (tl : TE) : TI := fun σ H R => tl σ H fun x H1 => ∃ a, x = .ref a ∧ (∃ xs, SqT K H1 a xs) ∧ R (Itt K a) H1
theorem pi_tup {l : Expr} {tl : TE} (hl : PE X l tl) : PI X tg l (iTup X.K tl) := by
  intro pins s σ H R I h
  refine thn (hl pins s σ H _ I h) fun v s1 ⟨x, H1, I1, r1, q1⟩ => ?_
  obtain ⟨a, e, ⟨xs, hq⟩, q⟩ := q1
  subst e
  cases r1
  obtain ⟨its, rv, p, hz⟩ := I1.tuple hq
  refine wpAny_pyIter_tuple (show s1.heap.IsTuple a its.toArray from p) ?_
  refine ⟨s1.heap.objs.size, [s1.heap.objs.size], _, _, H1, rfl, I1.kept (t' := s1.toks) fun b o e => Heap.get?_push_of_some _ e, turn_tuple a _, ⟨_, Heap.get?_push_size _ rfl, rfl, rfl⟩, fun b hb => ?_, q⟩
  have e : b = s1.heap.objs.size := by simpa using hb
  subst e
  exact I1.fpOk (Nat.le_refl _) (I1.hok.fresh (Nat.le_refl _))
/-- a range object just made, walked -/
theorem range_it {pins : List (Addr × Obj)} {σ : St} {H : Hp} {s : Shared} {R : It → Hp → Prop} {E : Value → Shared → Prop} {lo hi : Int} {t u v : Tok} {tk : Nat} (I : Inv X pins σ H s) (h1 : -(2 ^ 62) ≤ lo) (h2 : lo < 2 ^ 62) (h3 : -(2 ^ 62) ≤ hi) (h4 : hi < 2 ^ 62)
    (q : R (Itr lo (hi - lo).toNat) H) : wpAny (model X.prog X.w) X.A (pyIter (.ref s.heap.objs.size)) (PIE X pins σ tg R) E { s with heap := s.heap.push { cls := .type "range", data := .fields #[.int lo t, .int hi u, .int 1 v] }, toks := tk } := by
  refine wpAny_pyIter_range (IsRange.new ..) (small_one h1 h2 h3 h4) ?_
  have I1 : Inv X pins σ H { s with heap := s.heap.push { cls := .type "range", data := .fields #[.int lo t, .int hi u, .int 1 v] }, toks := tk } := I.kept fun b o e => Heap.get?_push_of_some _ e
  refine ⟨(s.heap.push { cls := .type "range", data := .fields #[.int lo t, .int hi u, .int 1 v] }).objs.size, [(s.heap.push { cls := .type "range", data := .fields #[.int lo t, .int hi u, .int 1 v] }).objs.size], _, _, H, rfl,
    I1.kept (t' := tk) fun b o e => Heap.get?_push_of_some _ e, turn_range _ lo (hi - lo).toNat, ?_, fun b hb => ?_, q⟩
  · have e1 : lo + ((0 : Nat) : Int) * 1 = lo := by simp
    have e2 : (((hi - lo).toNat : Nat) : Int) - ((0 : Nat) : Int) = Builtin.Range.rangeSize lo hi 1 := by rw [rangeSize_one]; split <;> omega
    show IsRangeIter _ _ (lo + ((0 : Nat) : Int) * 1) ((((hi - lo).toNat : Nat) : Int) - ((0 : Nat) : Int)) 1
    rw [e1, e2]
    exact Heap.get?_push_size _ rfl
  · have e : b = (s.heap.push { cls := .type "range", data := .fields #[.int lo t, .int hi u, .int 1 v] }).objs.size := by simpa using hb
    subst e
    exact I1.fpOk (Nat.le_refl _) (I1.hok.fresh (Nat.le_refl _))
def iRng1 (ta : TA) : TI := fun σ H R => ta σ H fun vs H1 => ∃ j : Int, vs = [.int j] ∧ -(2 ^ 62) ≤ j ∧ j < 2 ^ 62 ∧ R (Itr 0 j.toNat) H1
def iRng2 (ta : TA) : TI := fun σ H R => ta σ H fun vs H1 => ∃ i j : Int, vs = [.int i, .int j] ∧ (-(2 ^ 62) ≤ i ∧ i < 2 ^ 62 ∧ -(2 ^ 62) ≤ j ∧ j < 2 ^ 62) ∧ R (Itr i (j - i).toNat) H1
theorem pi_range1 {a : Expr} {ta : TA} {p pos : Pos} (hg : Gl X "range") (hm : X.mg "range" = none) (ha : PA X [a] ta) (hs : starEach [a] X.env = [(false, eval a X.env)] := by rfl) : PI X tg (.Call (.Name "range" p) [a] [] pos) (iRng1 ta) := by
  intro pins s σ H R I h
  refine Call_ (ld_blt I hg hm boot_range (PyProof.Rows.callWith_type1 (thn (ha pos pins s σ H _ I h) fun us s1 ⟨vs, H1, I1, r1, q1⟩ => ?_) hs rfl))
  obtain ⟨j, e, q1, q2, q⟩ := q1
  subst e
  cases r1 with
  | cons r rr =>
    cases rr
    obtain ⟨t, rfl⟩ := r
    exact call_range_1 (range_it I1 (by omega) (by omega) q1 q2 (by simpa using q))
/-! ### for -/
/-- W: the invariant by the turn and a measure; N: what the body is to reach -/
def tFor (wi : TI) (g : TG) (tb : TS) : TS := fun D σ H => wi σ H fun J H1 => ∃ W : Nat → Nat → St → Hp → Prop, (∃ m, W 0 m σ H1) ∧ ∀ i m σ H, W i m σ H →
  (J.stop i H ∧ D.nx σ H) ∨ (J.go i H ∧ ∃ N : St → Hp → Prop, (∀ σ' H', N σ' H' → ∃ m', m' < m ∧ W (i + 1) m' σ' H') ∧ ∀ x H', J.yld i H x H' → g x σ H' fun σ2 H2 => tb { D with nx := N, ct := N, bk := D.nx } σ2 H2)
/-- the records at fp as they stand -/
def pinsAt (fp : List Addr) (h : Heap) : List (Addr × Obj) := fp.filterMap fun b => (h.get? b).map fun o => (b, o)
theorem mem_pinsAt {fp : List Addr} {h : Heap} {b : Addr} {o : Obj} (hb : b ∈ fp) (e : h.get? b = some o) : (b, o) ∈ pinsAt fp h := List.mem_filterMap.mpr ⟨b, hb, by rw [e]; rfl⟩
theorem of_pinsAt {fp : List Addr} {h : Heap} {p : Addr × Obj} (hp : p ∈ pinsAt fp h) : p.1 ∈ fp ∧ h.get? p.1 = some p.2 := by
  obtain ⟨b, hb, e⟩ := List.mem_filterMap.mp hp
  cases q : h.get? b with
  | none => rw [q] at e; cases e
  | some o =>
    rw [q] at e
    have e' : (b, o) = p := Option.some.inj e
    subst e'
    exact ⟨hb, q⟩
theorem Inv.pinned {pins : List (Addr × Obj)} {σ : St} {H : Hp} {s : Shared} {fp : List Addr} (I : Inv X pins σ H s) (hf : ∀ b ∈ fp, FpOk X pins H b) (ho : ∀ b ∈ fp, ∃ o, s.heap.get? b = some o ∧ ∀ v, o.data ≠ .cell v) : Inv X (pins ++ pinsAt fp s.heap) σ H s :=
  I.pins_of fun p hp => (List.mem_append.mp hp).elim (fun z => I.pin p (List.mem_append_right _ z)) fun z => by
    obtain ⟨hb, e⟩ := of_pinsAt z
    obtain ⟨f0, f1, f2, _⟩ := hf p.1 hb
    obtain ⟨o, e', d⟩ := ho p.1 hb
    rw [e] at e'; cases e'
    exact ⟨e, f0, f1, f2, d⟩
theorem Inv.unpinned {pins pl : List (Addr × Obj)} {σ : St} {H : Hp} {s : Shared} (I : Inv X (pins ++ pl) σ H s) : Inv X pins σ H s := I.pins_of fun p hp => I.pin p (List.mem_append_right _ (List.mem_append_left _ hp))
theorem ps_for {iter : Expr} {body : List Stmt} {wi : TI} {g : TG} {tb : TS} {pos : Pos} (hp : PassesOwn (model X.prog X.w) X.A X.env X.xe) (hc : X.calm = true) (hi : PI X tg iter wi) (hg : PG X tg g) (hb : PSs X body tb)
    (hs : ∀ x, foldedSetIterable iter X.env x = pure x := by intro _; rfl) : PS X (.For tg iter body [] pos) (tFor wi g tb) := by
  intro pins s σ H D I h
  refine wpAny_For (thn (hi pins s σ H _ I h) fun v s1 h1 => thn h1 fun itv s2 h2 => ?_) hs
  obtain ⟨it, fp, tn, J, H2, e, I2, T, st2, f2, W, ⟨m0, w0⟩, turn⟩ := h2
  subst e
  -- what stays true of the iterator's objects through the loop
  have stat : ∀ {H' : Hp}, (∀ b ∈ fp, H' b = none) → ∀ b ∈ fp, FpOk X pins H' b := fun hn b hb => ⟨hn b hb, (f2 b hb).2⟩
  refine codeAny_forLoop_any (fun n s' => ∃ i σ' H', Inv X pins σ' H' s' ∧ tn i s'.heap ∧ (∀ b ∈ fp, H' b = none) ∧ W i n σ' H') ?_ m0 ⟨0, σ, H2, I2, st2, fun b hb => (f2 b hb).1, w0⟩
  rintro n s3 ⟨i, σ3, H3, I3, st3, fr3, w3⟩
  rcases turn i n σ3 H3 w3 with ⟨stop, qn⟩ | ⟨go, N, hN, step⟩
  · refine wpAny_passesOwn hp (thn (T.done X rfl rfl rfl hc i pins s3 σ3 H3 X.xe I3 (stat fr3) st3 stop) fun r s4 ⟨hr, I4⟩ => ?_)
    subst hr
    exact wpAny_execs_nil ⟨σ3, H3, I4, qn⟩
  · refine wpAny_passesOwn hp (thn (T.item X rfl rfl rfl hc i pins s3 σ3 H3 X.xe I3 (stat fr3) st3 go) fun r s4 ⟨u, hr, h4⟩ => ?_)
    subst hr
    refine wpAny_passesOwn hp (thn h4 fun _ s5 ⟨x, H5, I5, r5, y5, st5, fr5⟩ => ?_)
    have I5' := I5.pinned (stat fr5) (T.obj _ _ st5)
    refine wpAny_passesOwn hp (thn (hg _ s5 σ3 H5 x u _ I5' r5 (step x H5 y5)) fun _ s6 ⟨σ6, H6, I6, q6⟩ => ?_)
    refine wpAny_passesOwn hp (thn (hb _ s6 σ6 H6 _ I6 q6) fun f s7 q7 => ?_)
    have again : ∀ {σ7 : St} {H7 : Hp}, Inv X (pins ++ pinsAt fp s5.heap) σ7 H7 s7 → N σ7 H7 → ∃ m, m < n ∧ ∃ i σ' H', Inv X pins σ' H' s7 ∧ tn i s7.heap ∧ (∀ b ∈ fp, H' b = none) ∧ W i m σ' H' := fun {σ7 H7} I7 n7 => by
      obtain ⟨m', hm, w7⟩ := hN σ7 H7 n7
      refine ⟨m', hm, i + 1, σ7, H7, I7.unpinned, T.keep _ _ _ st5 fun b hb o e => (I7.pin (b, o) (List.mem_append_right _ (List.mem_append_right _ (mem_pinsAt hb e)))).1, fun b hb => ?_, w7⟩
      obtain ⟨o, e, d⟩ := T.obj _ _ st5 b hb
      exact (I7.pin (b, o) (List.mem_append_right _ (List.mem_append_right _ (mem_pinsAt hb e)))).2.1
    cases f with
    | next => obtain ⟨σ7, H7, I7, n7⟩ := q7; exact again I7 n7
    | cont => obtain ⟨σ7, H7, I7, n7⟩ := q7; exact again I7 n7
    | brk => obtain ⟨σ7, H7, I7, q7⟩ := q7; exact ⟨σ7, H7, I7.unpinned, q7⟩
    | ret v => obtain ⟨x7, σ7, H7, I7, r7, q7⟩ := q7; exact ⟨x7, σ7, H7, I7.unpinned, r7, q7⟩
end

/-! ### the forms one uses -/
theorem for_tup {K : PySem.W.Frag} {a : Addr} {xs : List V} {g : TG} {tb : TS} {D : Ends} {σ : St} {H : Hp} (Pv : Nat → St → Hp → Prop) (h0 : Pv 0 σ H) (hl : ∀ i σ H, i ≤ xs.length → Pv i σ H → SqT K H a xs)
    (hs : ∀ i x σ H, xs[i]? = some x → Pv i σ H → g x σ H fun σ2 H2 => tb { D with nx := Pv (i + 1), ct := Pv (i + 1), bk := D.nx } σ2 H2) (hd : ∀ σ H, Pv xs.length σ H → D.nx σ H) :
    ∃ W : Nat → Nat → St → Hp → Prop, (∃ m, W 0 m σ H) ∧ ∀ i m σ H, W i m σ H →
      ((Itt K a).stop i H ∧ D.nx σ H) ∨ ((Itt K a).go i H ∧ ∃ N : St → Hp → Prop, (∀ σ' H', N σ' H' → ∃ m', m' < m ∧ W (i + 1) m' σ' H') ∧ ∀ x H', (Itt K a).yld i H x H' → g x σ H' fun σ2 H2 => tb { D with nx := N, ct := N, bk := D.nx } σ2 H2) := by
  refine ⟨fun i m σ H => m = xs.length - i ∧ i ≤ xs.length ∧ Pv i σ H, ⟨xs.length, by simp, Nat.zero_le _, h0⟩, ?_⟩
  rintro i m σ H ⟨rfl, hi, p⟩
  have q := hl i σ H hi p
  by_cases hlt : i < xs.length
  · refine .inr ⟨⟨xs, xs[i], q, by simp [hlt]⟩, Pv (i + 1), fun σ' H' p' => ⟨xs.length - (i + 1), by omega, rfl, hlt, p'⟩, fun x H' y => ?_⟩
    obtain ⟨e, y⟩ := y
    subst e
    exact hs i x σ _ (y xs q) p
  · have e : i = xs.length := by omega
    subst e
    exact .inl ⟨⟨xs, q, Nat.le_refl _⟩, hd σ H p⟩
end L2

namespace L2
open PySem PySem.Spec PyProof.Rows

abbrev R2 := V → V → Hp → VK → Prop
/-- a two-place operation on values: f is binaryOp op, inplaceOp op or compareOp op -/
def OpR (X : Cx) (f : Value → Value → Sem Value) (r : R2) : Prop :=
  ∀ (pins : List (Addr × Obj)) (s : Shared) (σ : St) (H : Hp) (x y : V) (v u : Value) (Q : VK), Inv X pins σ H s → RelV x v → RelV y u → r x y H Q →
    wpAny (model X.prog X.w) X.A (f v u) (EP X pins σ Q) X.xe s
/-- a one-place operation -/
def UnR (X : Cx) (f : Value → Sem Value) (r : V → Hp → VK → Prop) : Prop :=
  ∀ (pins : List (Addr × Obj)) (s : Shared) (σ : St) (H : Hp) (x : V) (v : Value) (Q : VK), Inv X pins σ H s → RelV x v → r x H Q →
    wpAny (model X.prog X.w) X.A (f v) (EP X pins σ Q) X.xe s
/-- a call of a value that is known (a builtin, a type) with values -/
def CallR (X : Cx) (f : Value) (r : List V → Hp → VK → Prop) : Prop :=
  ∀ (pins : List (Addr × Obj)) (s : Shared) (σ : St) (H : Hp) (xs : List V) (us : List Value) (Q : VK), Inv X pins σ H s → Vals xs us → r xs H Q →
    wpAny (model X.prog X.w) X.A (call f us) (EP X pins σ Q) X.xe s
/-- a value's truth -/
def TruR (X : Cx) (r : V → Hp → (Bool → Hp → Prop) → Prop) : Prop :=
  ∀ (pins : List (Addr × Obj)) (s : Shared) (σ : St) (H : Hp) (x : V) (v : Value) (Q : Bool → Hp → Prop), Inv X pins σ H s → RelV x v → r x H Q →
    wpAny (model X.prog X.w) X.A (truthy v) (TP X pins σ Q) X.xe s

def tOp (r : R2) (ta tb : TE) : TE := fun σ H Q => ta σ H fun x H1 => tb σ H1 fun y H2 => r x y H2 Q
def tUn (r : V → Hp → VK → Prop) (ta : TE) : TE := fun σ H Q => ta σ H fun x H1 => r x H1 Q
/-- ints in, under C, and a value out -/
def rI (C : Int → Int → Prop) (g : Int → Int → V) : R2 := fun x y H Q => ∃ i j, x = .int i ∧ y = .int j ∧ C i j ∧ Q (g i j) H
def rI0 (g : Int → Int → V) : R2 := fun x y H Q => ∃ i j, x = .int i ∧ y = .int j ∧ Q (g i j) H
def rU (g : Int → V) : V → Hp → VK → Prop := fun x H Q => ∃ i, x = .int i ∧ Q (g i) H

section
variable {X : Cx} {a b c : Expr} {ta tb tc : TE} {pos : Pos}

theorem binT (ha : PE X a ta) (hb : PE X b tb) {pins : List (Addr × Obj)} {s : Shared} {σ : St} {H : Hp} {R : V → V → Hp → Prop} (I : Inv X pins σ H s)
    (h : ta σ H fun x H1 => tb σ H1 fun y H2 => R x y H2) {Q : Value → Shared → Prop} {f : Value → Value → Sem Value}
    (hf : ∀ v u s2 x y H2, Inv X pins σ H2 s2 → RelV x v → RelV y u → R x y H2 → wpAny (model X.prog X.w) X.A (f v u) Q X.xe s2) :
    wpAny (model X.prog X.w) X.A (eval a X.env) (fun v s₁ => wpAny (model X.prog X.w) X.A (eval b X.env) (fun u s₂ => wpAny (model X.prog X.w) X.A (f v u) Q X.xe s₂) X.xe s₁) X.xe s := by
  refine thn (ha pins s σ H _ I h) fun v s1 ⟨x, H1, I1, r1, q1⟩ => ?_
  refine thn (hb pins s1 σ H1 _ I1 q1) fun u s2 ⟨y, H2, I2, r2, q2⟩ => ?_
  exact hf v u s2 x y H2 I2 r1 r2 q2

theorem pe_op {op : Operator} {r : R2} (ho : OpR X (binaryOp op) r) (ha : PE X a ta) (hb : PE X b tb) : PE X (.BinOp a op b pos) (tOp r ta tb) := by
  intro pins s σ H Q I h
  exact wpAny_BinOp (binT ha hb I h fun v u s2 x y H2 I2 rx ry q => ho pins s2 σ H2 x y v u Q I2 rx ry q)
/-! ### ints -/
theorem opI {f : Value → Value → Sem Value} {C : Int → Int → Prop} {g : Int → Int → Int}
    (rule : ∀ (i j : Int) (t u : Tok) (s : Shared) (Q : Value → Shared → Prop) (E : Value → Shared → Prop), C i j → Q (.int (g i j) s.toks) { s with toks := s.toks + 1 } → wpAny (model X.prog X.w) X.A (f (.int i t) (.int j u)) Q E s) :
    OpR X f (rI C fun i j => .int (g i j)) := by
  intro pins s σ H x y v u Q I rx ry h
  obtain ⟨i, j, rfl, rfl, hc, q⟩ := h
  obtain ⟨t, rfl⟩ := rx
  obtain ⟨t', rfl⟩ := ry
  exact rule i j t t' s _ _ hc ⟨.int (g i j), H, I.tok _, ⟨_, rfl⟩, q⟩
theorem opI0 {f : Value → Value → Sem Value} {g : Int → Int → Int}
    (rule : ∀ (i j : Int) (t u : Tok) (s : Shared) (Q : Value → Shared → Prop) (E : Value → Shared → Prop), Q (.int (g i j) s.toks) { s with toks := s.toks + 1 } → wpAny (model X.prog X.w) X.A (f (.int i t) (.int j u)) Q E s) :
    OpR X f (rI0 fun i j => .int (g i j)) := by
  intro pins s σ H x y v u Q I rx ry h
  obtain ⟨i, j, rfl, rfl, q⟩ := h
  obtain ⟨t, rfl⟩ := rx
  obtain ⟨t', rfl⟩ := ry
  exact rule i j t t' s _ _ ⟨.int (g i j), H, I.tok _, ⟨_, rfl⟩, q⟩
theorem opB0 {f : Value → Value → Sem Value} {g : Int → Int → Bool}
    (rule : ∀ (i j : Int) (t u : Tok) (s : Shared) (Q : Value → Shared → Prop) (E : Value → Shared → Prop), Q (.bool (g i j)) s → wpAny (model X.prog X.w) X.A (f (.int i t) (.int j u)) Q E s) :
    OpR X f (rI0 fun i j => .bl (g i j)) := by
  intro pins s σ H x y v u Q I rx ry h
  obtain ⟨i, j, rfl, rfl, q⟩ := h
  obtain ⟨t, rfl⟩ := rx
  obtain ⟨t', rfl⟩ := ry
  exact rule i j t t' s _ _ ⟨.bl (g i j), H, I, rfl, q⟩

def CDiv (i j : Int) : Prop := 0 < j ∧ j < 1073741824
def CDivN (i j : Int) : Prop := j ≠ 0 ∧ j.natAbs < 1073741824
def CPow (i j : Int) : Prop := 0 ≤ j ∧ j ≤ 1000000 ∧ i.natAbs < 2 ^ 64
def CMul (i j : Int) : Prop := (-(2 ^ 64) < i ∧ i < 2 ^ 64) ∨ (-(2 ^ 64) < j ∧ j < 2 ^ 64)
theorem CMul.ok {i j : Int} (h : CMul i j) : IntMulOk i j := by
  rcases h with ⟨h1, h2⟩ | ⟨h1, h2⟩
  · exact .of_left (intBits_le_64 h1 h2)
  · exact .of_right (intBits_le_64 h1 h2)
theorem op_add : OpR X (binaryOp .Add) (rI0 fun i j => .int (i + j)) := opI0 fun _ _ _ _ _ _ _ q => add_int q
theorem op_sub : OpR X (binaryOp .Sub) (rI0 fun i j => .int (i - j)) := opI0 fun _ _ _ _ _ _ _ q => sub_int q
theorem op_mul : OpR X (binaryOp .Mult) (rI CMul fun i j => .int (i * j)) := opI fun _ _ _ _ _ _ _ hc q => mul_int q hc.ok
/-- // by a positive divisor -/
theorem op_fdiv : OpR X (binaryOp .FloorDiv) (rI CDiv fun i j => .int (i / j)) := opI fun i j _ _ _ _ _ hc q => by
  have h1 : (0 : Int) < j := hc.1
  have h2 : j < 1073741824 := hc.2
  exact floordiv_int (by omega) (by rw [Int.fdiv_eq_ediv_of_nonneg i (by omega)]; exact q) (.inl (PyProof.noPylong_small (by omega)))
/-- % by a positive divisor of any size -/
theorem op_mod : OpR X (binaryOp .Mod) (rI (fun _ j => 0 < j) fun i j => .int (i % j)) := opI fun i j _ _ _ _ _ hc q => by
  have h1 : (0 : Int) < j := hc
  exact mod_int' (by omega) (by rw [Int.fmod_eq_emod_of_nonneg i (by omega)]; exact q)
theorem op_pow : OpR X (binaryOp .Pow) (rI CPow fun i j => .int (i ^ j.toNat)) := opI fun _ _ _ _ _ _ _ hc q => pow_int_small hc.1 hc.2.1 hc.2.2 q
/-! ### bools among ints: n += (a < b) -/
end

/-! ### comparisons -/
/-- the scalars that == tells apart as data does -/
def scal : V → V → Bool
  | .non, .non => true | .non, .int _ => true | .int _, .non => true | .non, .bl _ => true | .bl _, .non => true | .non, .str _ => true | .str _, .non => true
  | .int _, .int _ => true | .bl _, .bl _ => true | .str _, .str _ => true | .byt _, .byt _ => true
  | .int _, .str _ => true | .str _, .int _ => true | .bl _, .str _ => true | .str _, .bl _ => true
  | _, _ => false
def rEq : R2 := fun x y H Q => scal x y = true ∧ Q (.bl (decide (x = y))) H
def rNe : R2 := fun x y H Q => scal x y = true ∧ Q (.bl (!decide (x = y))) H

theorem dec_int {i j : Int} : decide (V.int i = V.int j) = (i == j) := by
  rw [Bool.eq_iff_iff]
  simp
theorem dec_bl {i j : Bool} : decide (V.bl i = V.bl j) = (i == j) := by
  rw [Bool.eq_iff_iff]
  simp
theorem dec_str {i j : Str} : decide (V.str i = V.str j) = (i == j) := by
  rw [Bool.eq_iff_iff]
  simp
theorem dec_byt {i j : Array UInt8} : decide (V.byt i = V.byt j) = (i.toList == j.toList) := by
  rw [Bool.eq_iff_iff]
  cases i
  cases j
  simp

section
variable {X : Cx} {a b c : Expr} {ta tb tc : TE} {pos : Pos}
theorem fin_bl {pins : List (Addr × Obj)} {σ : St} {H : Hp} {s : Shared} {Q : VK} {k k' : Bool} (I : Inv X pins σ H s) (q : Q (.bl k) H) (e : k = k') : EP X pins σ Q (.bool k') s := by
  subst e
  exact ⟨.bl k, H, I, rfl, q⟩
theorem op_eq : OpR X (compareOp .Eq) rEq := by
  intro pins s σ H x y v u Q I rx ry h
  obtain ⟨hs, q⟩ := h
  cases x with
  | non =>
    cases rx
    cases y with
    | non => cases ry; exact PySem.EqNone.eq_none_none (fin_bl I q (by simp))
    | bl j => cases ry; exact PySem.EqNone.eq_none_bool (fin_bl I q (by simp))
    | int j => obtain ⟨t', rfl⟩ := ry; exact PySem.EqNone.eq_none_int (fin_bl I q (by simp))
    | str j => obtain ⟨t', rfl⟩ := ry; exact PySem.EqNone.eq_none_str (fin_bl I q (by simp))
    | _ => exact absurd (show false = true from hs) Bool.false_ne_true
  | bl i =>
    cases rx
    cases y with
    | non => cases ry; exact PySem.EqNone.eq_bool_none (fin_bl I q (by simp))
    | bl j => cases ry; exact eq_bool (fin_bl I q dec_bl)
    | str j => obtain ⟨t', rfl⟩ := ry; exact PySem.EqMixed.eq_bool_str (fin_bl I q (by simp))
    | _ => exact absurd (show false = true from hs) Bool.false_ne_true
  | int i =>
    obtain ⟨t, rfl⟩ := rx
    cases y with
    | non => cases ry; exact PySem.EqNone.eq_int_none (fin_bl I q (by simp))
    | int j => obtain ⟨t', rfl⟩ := ry; exact eq_int (fin_bl I q dec_int)
    | str j => obtain ⟨t', rfl⟩ := ry; exact PySem.EqMixed.eq_int_str (fin_bl I q (by simp))
    | _ => exact absurd (show false = true from hs) Bool.false_ne_true
  | str i =>
    obtain ⟨t, rfl⟩ := rx
    cases y with
    | non => cases ry; exact PySem.EqNone.eq_str_none (fin_bl I q (by simp))
    | bl j => cases ry; exact PySem.EqMixed.eq_str_bool (fin_bl I q (by simp))
    | int j => obtain ⟨t', rfl⟩ := ry; exact PySem.EqMixed.eq_str_int (fin_bl I q (by simp))
    | str j => obtain ⟨t', rfl⟩ := ry; exact eq_str (fin_bl I q dec_str)
    | _ => exact absurd (show false = true from hs) Bool.false_ne_true
  | byt i =>
    obtain ⟨t, rfl⟩ := rx
    cases y with
    | byt j => obtain ⟨t', rfl⟩ := ry; exact PySem.W.eq_bytes (fin_bl I q dec_byt)
    | _ => exact absurd (show false = true from hs) Bool.false_ne_true
  | _ => cases y <;> exact absurd (show false = true from hs) Bool.false_ne_true
theorem op_ne : OpR X (compareOp .NotEq) rNe := by
  intro pins s σ H x y v u Q I rx ry h
  obtain ⟨hs, q⟩ := h
  cases x with
  | non =>
    cases rx
    cases y with
    | non => cases ry; exact PySem.EqNone.ne_none_none (fin_bl I q (by simp))
    | bl j => cases ry; exact PySem.EqNone.ne_none_bool (fin_bl I q (by simp))
    | int j => obtain ⟨t', rfl⟩ := ry; exact PySem.EqNone.ne_none_int (fin_bl I q (by simp))
    | str j => obtain ⟨t', rfl⟩ := ry; exact PySem.EqNone.ne_none_str (fin_bl I q (by simp))
    | _ => exact absurd (show false = true from hs) Bool.false_ne_true
  | bl i =>
    cases rx
    cases y with
    | non => cases ry; exact PySem.EqNone.ne_bool_none (fin_bl I q (by simp))
    | bl j => cases ry; exact ne_bool (fin_bl I q (congrArg not dec_bl))
    | str j => obtain ⟨t', rfl⟩ := ry; exact PySem.EqMixed.ne_bool_str (fin_bl I q (by simp))
    | _ => exact absurd (show false = true from hs) Bool.false_ne_true
  | int i =>
    obtain ⟨t, rfl⟩ := rx
    cases y with
    | non => cases ry; exact PySem.EqNone.ne_int_none (fin_bl I q (by simp))
    | int j => obtain ⟨t', rfl⟩ := ry; exact ne_int (fin_bl I q (congrArg not dec_int))
    | str j => obtain ⟨t', rfl⟩ := ry; exact PySem.EqMixed.ne_int_str (fin_bl I q (by simp))
    | _ => exact absurd (show false = true from hs) Bool.false_ne_true
  | str i =>
    obtain ⟨t, rfl⟩ := rx
    cases y with
    | non => cases ry; exact PySem.EqNone.ne_str_none (fin_bl I q (by simp))
    | bl j => cases ry; exact PySem.EqMixed.ne_str_bool (fin_bl I q (by simp))
    | int j => obtain ⟨t', rfl⟩ := ry; exact PySem.EqMixed.ne_str_int (fin_bl I q (by simp))
    | str j => obtain ⟨t', rfl⟩ := ry; exact ne_str (fin_bl I q (congrArg not dec_str))
    | _ => exact absurd (show false = true from hs) Bool.false_ne_true
  | byt i =>
    obtain ⟨t, rfl⟩ := rx
    cases y with
    | byt j => obtain ⟨t', rfl⟩ := ry; exact PySem.W.ne_bytes (fin_bl I q (congrArg not dec_byt))
    | _ => exact absurd (show false = true from hs) Bool.false_ne_true
  | _ => cases y <;> exact absurd (show false = true from hs) Bool.false_ne_true

theorem op_lt : OpR X (compareOp .Lt) (rI0 fun i j => .bl (decide (i < j))) := opB0 fun _ _ _ _ _ _ _ q => lt_int q
theorem op_gt : OpR X (compareOp .Gt) (rI0 fun i j => .bl (decide (j < i))) := opB0 fun _ _ _ _ _ _ _ q => gt_int q
theorem op_ge : OpR X (compareOp .GtE) (rI0 fun i j => .bl (decide (j ≤ i))) := opB0 fun _ _ _ _ _ _ _ q => ge_int q
/-- the one string within the other -/
theorem op_in_str : OpR X (compareOp .In) (fun x y H Q => ∃ i j, x = .str i ∧ y = .str j ∧ Q (.bl (!(Builtin.Str.occurrences j i 0 j.length 1).isEmpty)) H) := by
  intro pins s σ H x y v u Q I rx ry h
  obtain ⟨i, j, rfl, rfl, q⟩ := h
  obtain ⟨t, rfl⟩ := rx
  obtain ⟨t', rfl⟩ := ry
  exact in_str (fin_bl I q rfl)

/-- is, is not of two objects that are tracked lists or instances -/
def isObj : HO → Bool
  | .lst _ => true
  | .ins _ _ _ => true
  | _ => false
theorem nomark (b : Expr) {op : CmpOp} (h : op ≠ .In := by decide) (h2 : op ≠ .NotIn := by decide) : behindInMarks op b = false := by
  have e1 : (op == CmpOp.In) = false := by cases op <;> first | rfl | exact absurd rfl h
  have e2 : (op == CmpOp.NotIn) = false := by cases op <;> first | rfl | exact absurd rfl h2
  cases b <;> simp [behindInMarks, e1, e2]
/-- a comparison as a value; hm: nomark b, or (for in, not in) by with_unfolding_all rfl -/
theorem pe_cmpR {op : CmpOp} {r : R2} (ho : OpR X (compareOp op) r) (ha : PE X a ta) (hb : PE X b tb) (hm : behindInMarks op b = false) : PE X (.Compare a [op] [b] pos) (tOp r ta tb) := by
  intro pins s σ H Q I h
  exact wpAny_Compare1 (binT ha hb I h fun v u s2 x y H2 I2 rx ry q => ho pins s2 σ H2 x y v u Q I2 rx ry q) hm
/-- a reading of a value as a test -/
def tTest (t : TE) : TT := fun σ H Q => t σ H fun x H' => ∃ k, x = .bl k ∧ Q k H'
theorem pt_cmpR {op : CmpOp} {r : R2} (ho : OpR X (compareOp op) r) (ha : PE X a ta) (hb : PE X b tb) (hm : behindInMarks op b = false) : PT X (.Compare a [op] [b] pos) (tTest (tOp r ta tb)) := by
  intro pins s σ H Q I h
  refine wpAny_isTrue_Compare1 (thn (ha pins s σ H _ I h) fun v s1 ⟨x, H1, I1, r1, q1⟩ => thn (hb pins s1 σ H1 _ I1 q1) fun u s2 ⟨y, H2, I2, r2, q2⟩ =>
    thn (ho pins s2 σ H2 x y v u _ I2 r1 r2 q2) fun c s3 ⟨z, H3, I3, r3, k, e, q3⟩ => ?_) hm
  subst e
  cases r3
  exact wpAny_truthy_bool ⟨H3, I3, q3⟩
/-- a op1 b op2 c -/
def tChain (r r' : R2) (ta tb tc : TE) : TE := fun σ H Q => ta σ H fun x H1 => tb σ H1 fun y H2 => r x y H2 fun z H3 => ∃ k, z = .bl k ∧
  (if k = true then tc σ H3 fun w' H4 => r' y w' H4 Q else Q (.bl false) H3)
/-! ### truth -/
/-- a value's truth by the abstract heap -/
def TruV (K : PySem.W.Frag) (x : V) (H : Hp) (k : Bool) : Prop :=
  match x with
  | .non => k = false
  | .bl b => k = b
  | .int i => k = (i != 0)
  | .str y => y.length ≤ sizeLine ∧ k = ((y.length : Int) != 0)
  | .byt y => y.size ≤ sizeLine ∧ k = ((y.size : Int) != 0)
  | .ref p => (∃ xs, SqL K H p xs ∧ k = !xs.isEmpty) ∨ (∃ xs, SqT K H p xs ∧ k = !xs.isEmpty) ∨ ∃ kvs, H p = some (.dK kvs) ∧ k = !kvs.isEmpty
  | _ => False
theorem line63 : (sizeLine : Nat) < 2 ^ 63 := by rw [sizeLine_eq]; decide
/-! ### strs and bytes -/
theorem op_add_str : OpR X (binaryOp .Add) (fun x y H Q => ∃ i j, x = .str i ∧ y = .str j ∧ i.length + j.length ≤ sizeLine ∧ Q (.str (i ++ j)) H) := by
  intro pins s σ H x y v u Q I rx ry h
  obtain ⟨i, j, rfl, rfl, hz, q⟩ := h
  obtain ⟨t, rfl⟩ := rx
  obtain ⟨t', rfl⟩ := ry
  exact add_str (fun t' tk => ⟨.str (i ++ j), H, I.tok _, ⟨_, rfl⟩, q⟩) hz
def PlainIxT (b : Expr) : Prop := ∀ o i, subscripted b false o i = operate [o, i] (getItem o i)
/-! ### scalar builtins, by CallR -/
theorem vals1 {x : V} {us : List Value} (r : Vals [x] us) : ∃ u, us = [u] ∧ RelV x u := by
  cases r with
  | cons r1 r2 => cases r2; exact ⟨_, rfl, r1⟩
theorem vals2 {x y : V} {us : List Value} (r : Vals [x, y] us) : ∃ u w', us = [u, w'] ∧ RelV x u ∧ RelV y w' := by
  cases r with
  | cons r1 r2 =>
    cases r2 with
    | cons r3 r4 => cases r4; exact ⟨_, _, rfl, r1, r3⟩
theorem call_str_int : CallR X (.type "str") (fun xs H Q => ∃ i, xs = [.int i] ∧ i.natAbs.log2 < 1920 ∧ Q (.str (toString i)) H) := by
  intro pins s σ H xs us Q I r h
  obtain ⟨i, rfl, hz, q⟩ := h
  obtain ⟨u, rfl, t, rfl⟩ := vals1 r
  exact PySem.P.str_of_int hz ⟨.str _, H, I.tok _, ⟨_, rfl⟩, q⟩
/-- len of a str, a bytes, a list, a tuple -/
def LenV (K : PySem.W.Frag) (x : V) (H : Hp) (n : Nat) : Prop :=
  match x with
  | .str y => y.length ≤ sizeLine ∧ n = y.length
  | .byt y => y.size ≤ sizeLine ∧ n = y.size
  | .ref p => (∃ xs, SqL K H p xs ∧ n = xs.length) ∨ ∃ xs, SqT K H p xs ∧ n = xs.length
  | _ => False
end
end L2

namespace L2
open PySem PySem.Spec PyProof.Rows

/-! ### an instance, its attributes a map -/
structure ObjM (h : Heap) (x dx C : Addr) (mA : Str → Option Value) : Prop where
  obj : h.get? x = some (PySem.W.instObj C dx)
  ns : h.Ns1 dx mA
  ne : dx ≠ x

theorem lookIn_ns {h : Heap} {dx : Addr} {mA : Str → Option Value} (n : h.Ns1 dx mA) : ∃ od, h.get? dx = some od ∧ ∀ name, PySem.W.lookIn name od = some (mA name) := by
  obtain ⟨o, es, ep, ho, hd, hk, _, hm⟩ := n
  refine ⟨o, ho, fun name => ?_⟩
  have e := hm name
  unfold nsFind findBy at e
  rw [← Array.find?_toList] at e
  unfold PySem.W.lookIn
  rw [hd]
  dsimp only
  split
  · rename_i y q
    rw [q] at e
    exact congrArg some e
  · rename_i q
    rw [q] at e
    have a : es.toList.any (·.refKey) = false := by
      rw [List.any_eq_false]
      intro y hy
      obtain ⟨z, t, hkey⟩ := hk y (Array.mem_toList_iff.mp hy)
      simp [DictEntry.refKey, hkey]
    have a' : ¬ es.toList.any (·.refKey) = true := by rw [a]; exact Bool.false_ne_true
    rw [if_neg a']
    exact congrArg some e

theorem ObjM.look {h : Heap} {x dx C : Addr} {mA : Str → Option Value} (I : ObjM h x dx C mA) : ∃ od, PySem.W.InstAt h x (PySem.W.instObj C dx) C (some od) ∧ ∀ name, PySem.W.lookIn name od = some (mA name) :=
  let ⟨od, ho, hl⟩ := lookIn_ns I.ns
  ⟨od, ⟨I.obj, rfl, rfl, ho⟩, hl⟩

section
variable {prog : Program} {w : World} {A : Around} {E : Value → Shared → Prop} {s : Shared} {K : PySem.W.Frag} {x dx C f : Addr} {mA : Str → Option Value} {name : Str} {v : Value}

theorem get_map {expr : Bool} {Q : Value → Shared → Prop} (X : K.In s.heap) (I : ObjM s.heap x dx C mA) (hg : PySem.W.plainGet K C name = true) (hh : PySem.W.hasDictIn K C = true)
    (ha : PySem.W.findIn K (.ref C) name = some none) (hv : mA name = some v) (hv' : PySem.W.handedIn v = true) (h : Q v { s with toks := s.toks + 1 }) :
    wpAny (model prog w) A (getAttr (.ref x) name expr) Q E s := by
  obtain ⟨od, J, hl⟩ := I.look
  exact PySem.W.get_value X J (PySem.W.plainGet_of hg).1 (PySem.W.findObj_own hh ha rfl (by rw [hl, hv])) hv' h

theorem get_meth {pl : Sem Bool} {Q : Value × List Value → Shared → Prop} (X : K.In s.heap) (I : ObjM s.heap x dx C mA) (hg : PySem.W.plainGet K C name = true)
    (hf : PySem.W.findIn K (.ref C) name = some (some (.ref f))) (ht : PySem.W.isFn K (.ref f) = true) (hv : mA name = none) (h : Q (.ref f, [.ref x]) s) :
    wpAny (model prog w) A (getMethod (.ref x) name pl) Q E s := by
  obtain ⟨od, J, hl⟩ := I.look
  exact PySem.W.method_fn X J (PySem.W.plainGet_of hg).1 (PySem.W.plainGet_of hg).2 hf (beq_iff_eq.mp ht) (by show (PySem.W.lookIn name od).map (·.isSome) = some false; rw [hl, hv]; rfl) h

theorem set_map {ns : List Str} {Q : Unit → Shared → Prop} (X : K.In s.heap) (I : ObjM s.heap x dx C mA)
    (hs : PySem.W.findIn K (.ref C) "__setattr__" = some (some (.builtin "object.__setattr__"))) (hp : PySem.W.plainOver K C = true) (ht : PySem.W.takerIn K C name = some none) (hh : PySem.W.hasDictIn K C = true)
    (hw : PySem.Within mA ns) (hsz : ns.length ≤ sizeLine)
    (h : ∀ h', ObjM h' x dx C (fun y => if y = name then some v else mA y) → Heap.SameBut dx s.heap h' → Q () { s with heap := h', toks := s.toks + 2 }) :
    wpAny (model prog w) A (setAttr (.ref x) name v) Q E s := by
  obtain ⟨od, J, hl⟩ := I.look
  refine PySem.W.set_plain X J hs (PySem.W.osa_open (s := { s with toks := s.toks + 1 }) (r := none) X J hp ht fun b => ?_)
  obtain ⟨cd, hc, hd'⟩ := PySem.W.any_some hh
  have hx : s.heap.get? x = some ⟨.ref C, some dx, .plain, #[]⟩ := I.obj
  refine wpAny_bind (wpAny_pure (wpAny_bind (wpAny_bind (wpAny_loadPart hx (wpAny_bind (PySem.W.Looks.here (s := { s with toks := s.toks + 1 }) (PySem.W.looks_clsIn X hc) ?_))))))
  rw [hd']
  refine wpAny_pure (a := some dx) (wpAny_bind (wpAny_pure (wpAny_bind ?_)))
  refine wpAny_nsSet1 (s := { s with toks := s.toks + 1 }) I.ns fun h' hn2 hs2 => ?_
  obtain ⟨oD, esD, epD, hoD, hdD, hcD⟩ := hn2.count (PySem.Within.cons name v hw)
  refine wpAny_bind (wpAny_lookBehind hoD (by rw [hdD]; exact pastItsLine_dict (Nat.le_trans hcD (by rw [List.length_cons]; omega))) ?_)
  exact wpAny_pure (h _ ⟨(hs2.2 _ (Ne.symm I.ne)).trans I.obj, hn2, I.ne⟩ hs2)

/-- C(..): the dict at the heap's end, the instance behind it; then its __init__ -/
theorem make_map {R : Result → Shared → Prop} {vs : List Value} {kw : List (Str × Value)} (X : K.In s.heap) (hm : PySem.W.makesIn K C = true)
    (hi : PySem.W.findIn K (.ref C) "__init__" = some (some (.ref f))) (hf : PySem.W.typeIn K (.ref f) = some (.type "function"))
    (h : codeAny (model prog w) (A.under (.builtin "type.__call__" ⟨.ref C :: vs, kw⟩)) (.call (.ref f) ⟨.ref (s.heap.objs.size + 1) :: vs, kw⟩) (PySem.W.InitBack (s.heap.objs.size + 1) R)
      { s with heap := (s.heap.push PySem.W.emptyDict).push (PySem.W.instObj C s.heap.objs.size) }) :
    codeAny (model prog w) A (.call (.ref C) ⟨vs, kw⟩) R s := by
  obtain ⟨hh, g, d, t, os⟩ := s
  exact PySem.W.make_core (PySem.W.makes_of X hm) (PySem.W.looks_findIn X hi) (fun self => PySem.W.bind_fn X self hf) (.inl rfl) h
end

/-! ### the attributes as a list of pairs -/
def putF (f : Str) (v : V) : List (Str × V) → List (Str × V)
  | [] => [(f, v)]
  | (g, x) :: r => if g = f then (g, v) :: r else (g, x) :: putF f v r
theorem lookup_putF (f g : Str) (v : V) : ∀ fs : List (Str × V), (putF f v fs).lookup g = if g = f then some v else fs.lookup g
  | [] => by
    show List.lookup g [(f, v)] = _
    by_cases h : g = f
    · have hb : (g == f) = true := beq_iff_eq.mpr h
      simp only [List.lookup, hb, if_pos h]
    · have hb : (g == f) = false := beq_eq_false_iff_ne.mpr h
      simp only [List.lookup, hb, if_neg h]
  | (k, x) :: r => by
    have ih := lookup_putF f g v r
    rw [show putF f v ((k, x) :: r) = (if k = f then (k, v) :: r else (k, x) :: putF f v r) from rfl]
    by_cases hk : k = f
    · rw [if_pos hk]
      by_cases h : g = k
      · have hb : (g == k) = true := beq_iff_eq.mpr h
        simp only [List.lookup, hb, if_pos (h.trans hk)]
      · have hb : (g == k) = false := beq_eq_false_iff_ne.mpr h
        simp only [List.lookup, hb, if_neg (fun e : g = f => h (e.trans hk.symm))]
    · rw [if_neg hk]
      by_cases h : g = k
      · have hb : (g == k) = true := beq_iff_eq.mpr h
        simp only [List.lookup, hb, if_neg (fun e : g = f => hk (h.symm.trans e))]
      · have hb : (g == k) = false := beq_eq_false_iff_ne.mpr h
        simp only [List.lookup, hb]
        exact ih
theorem keys_putF (f : Str) (v : V) : ∀ fs : List (Str × V), f ∈ (putF f v fs).map (·.1) ∧ ∀ g, g ∈ fs.map (·.1) → g ∈ (putF f v fs).map (·.1)
  | [] => ⟨by simp [putF], fun g h => by simp at h⟩
  | (k, x) :: r => by
    obtain ⟨i1, i2⟩ := keys_putF f v r
    rw [show putF f v ((k, x) :: r) = (if k = f then (k, v) :: r else (k, x) :: putF f v r) from rfl]
    by_cases hk : k = f
    · rw [if_pos hk]
      subst hk
      exact ⟨by simp, fun g h => by simpa using h⟩
    · rw [if_neg hk]
      refine ⟨?_, fun g h => ?_⟩
      · rw [List.map_cons]
        exact List.mem_cons_of_mem _ i1
      · rw [List.map_cons] at h ⊢
        rcases List.mem_cons.mp h with e | e
        · exact List.mem_cons.mpr (.inl e)
        · exact List.mem_cons_of_mem _ (i2 g e)
theorem length_putF (f : Str) (v : V) : ∀ fs : List (Str × V), (putF f v fs).length ≤ fs.length + 1
  | [] => by simp [putF]
  | (k, x) :: r => by
    have ih := length_putF f v r
    rw [show putF f v ((k, x) :: r) = (if k = f then (k, v) :: r else (k, x) :: putF f v r) from rfl]
    by_cases hk : k = f
    · rw [if_pos hk, List.length_cons, List.length_cons]; omega
    · rw [if_neg hk, List.length_cons, List.length_cons]; omega

theorem RelO.some_of {v : V} {o : Option Value} (r : RelO (some v) o) : ∃ u, o = some u ∧ RelV v u := by
  cases o with
  | none => exact (show False from r).elim
  | some u => exact ⟨u, rfl, r⟩
theorem RelO.none_of {o : Option Value} (r : RelO none o) : o = none := by
  cases o with
  | none => rfl
  | some u => exact (show False from r).elim
theorem handed_of {v : V} {u : Value} (r : RelV v u) : PySem.W.handedIn u = true := by
  cases v with
  | non => cases (show u = Value.none from r); rfl
  | bl b => cases (show u = Value.bool b from r); rfl
  | int i => obtain ⟨t, e⟩ := (show ∃ t, u = Value.int i t from r); cases e; rfl
  | str x => obtain ⟨t, e⟩ := (show ∃ t, u = Value.str x t from r); cases e; rfl
  | byt b => obtain ⟨t, e⟩ := (show ∃ t, u = Value.bytes b t from r); cases e; rfl
  | flt b => obtain ⟨t, e⟩ := (show ∃ t, u = Value.float b t from r); cases e; rfl
  | ref a => cases (show u = Value.ref a from r); rfl
  | ty n => cases (show u = Value.type n from r); rfl

section
variable {P : Program} {w : World} {H H' : Hp} {h h' : Heap} {a C dx : Addr} {fs fs' : List (Str × V)}
theorem ins_get (hok : HOk P w H h) (e : H a = some (.ins C dx fs)) : ∃ mA, ObjM h a dx C mA ∧ (∀ f, RelO (fs.lookup f) (mA f)) ∧ PySem.Within mA (fs.map (·.1)) ∧ fs.length ≤ 1000 ∧ H dx = some (.own a) := by
  obtain ⟨d, z, ne, ob, mA, n, r, q⟩ := (show ObjOk P w H h a (.ins C dx fs) from hok a _ e)
  exact ⟨mA, ⟨ob, n, ne⟩, r, q, z, d⟩
end

/-! ### what of the text a class must have -/
structure Cls (K : PySem.W.Frag) (C : Addr) : Prop where
  pg : PySem.W.plainGet K C Str.empty = true
  hd : PySem.W.hasDictIn K C = true
  po : PySem.W.plainOver K C = true
  sa : PySem.W.findIn K (.ref C) "__setattr__" = some (some (.builtin "object.__setattr__"))
theorem Cls.get {K : PySem.W.Frag} {C : Addr} (c : Cls K C) (f : Str) : PySem.W.plainGet K C f = true := c.pg
/-- no class of it has the name -/
def NoAttr (K : PySem.W.Frag) (C : Addr) (f : Str) : Prop := PySem.W.findIn K (.ref C) f = some none
theorem NoAttr.taker {K : PySem.W.Frag} {C : Addr} {f : Str} (n : NoAttr K C f) : PySem.W.takerIn K C f = some none := by
  unfold PySem.W.takerIn
  rw [show PySem.W.findIn K (.ref C) f = some none from n]
  rfl
/-- a constant of the class -/
structure Con (K : PySem.W.Frag) (C : Addr) (f : Str) (v : V) (u : Value) : Prop where
  at_ : PySem.W.findIn K (.ref C) f = some (some u)
  rel : RelV v u
  get : PySem.W.specialIn K u "__get__" = some none
  cp : PySem.W.copiedNames.contains f = false
/-- a method: a plain def of the class or of one above it -/
structure Meth (K : PySem.W.Frag) (C : Addr) (m : Str) (f : Addr) : Prop where
  at_ : PySem.W.findIn K (.ref C) m = some (some (.ref f))
  fn : PySem.W.isFn K (.ref f) = true
  kp : PySem.W.keepIn K (.ref f) = true

section
variable {X : Cx} {pins : List (Addr × Obj)} {σ : St} {H : Hp} {s : Shared} {a C dx : Addr} {fs : List (Str × V)} {f : Str} {v : V} {A : Around} {E : Value → Shared → Prop}

theorem getattr_ok {b : Bool} {Q : Value → Shared → Prop} (I : Inv X pins σ H s) (e : H a = some (.ins C dx fs)) (c : Cls X.K C) (n : NoAttr X.K C f) (l : fs.lookup f = some v)
    (h : ∀ u s', Inv X pins σ H s' → RelV v u → Q u s') : wpAny (model X.prog X.w) A (getAttr (.ref a) f b) Q E s := by
  obtain ⟨mA, O, r, _, _, _⟩ := ins_get I.hok e
  obtain ⟨u, hu, ru⟩ := RelO.some_of (v := v) (o := mA f) (by rw [← l]; exact r f)
  exact get_map I.kIn O (c.get f) c.hd n hu (handed_of ru) (h u _ (I.tok _) ru)

theorem getmeth_ok {m : Str} {g : Addr} {pl : Sem Bool} {Q : Value × List Value → Shared → Prop} (I : Inv X pins σ H s) (e : H a = some (.ins C dx fs)) (c : Cls X.K C) (k : Meth X.K C m g) (l : fs.lookup m = none)
    (h : Q (.ref g, [.ref a]) s) : wpAny (model X.prog X.w) A (getMethod (.ref a) m pl) Q E s := by
  obtain ⟨mA, O, r, _, _, _⟩ := ins_get I.hok e
  have hn : mA m = none := RelO.none_of (by rw [← l]; exact r m)
  exact get_meth I.kIn O (c.get m) k.at_ k.fn hn h

theorem setattr_ok {y : V} {u : Value} {Q : Unit → Shared → Prop} (I : Inv X pins σ H s) (e : H a = some (.ins C dx fs)) (c : Cls X.K C) (n : NoAttr X.K C f) (hl : fs.length < 1000) (ry : RelV y u)
    (h : ∀ s', Inv X pins σ (upd H a (.ins C dx (putF f y fs))) s' → Q () s') : wpAny (model X.prog X.w) A (setAttr (.ref a) f u) Q E s := by
  obtain ⟨mA, O, r, wi, _, ho⟩ := ins_get I.hok e
  have hz : (fs.map (·.1)).length ≤ sizeLine := by rw [List.length_map, sizeLine_eq]; omega
  refine set_map I.kIn O c.sa c.po n.taker c.hd wi hz fun h' O' sb => h _ ?_
  have hd : ∃ o, h'.get? dx = some o := let ⟨o, _, _, e', _⟩ := O'.ns; ⟨o, e'⟩
  refine I.write (x := a) (e := dx) (by rw [e]; exact True.intro) (.inr ho) (fun b q hb z => (sb.2 b hb).trans z) hd ?_
  refine ⟨by rw [upd_ne O.ne]; exact ho, ?_, O.ne, O'.obj, _, O'.ns, fun g => ?_, fun g hg => ?_⟩
  · have := length_putF f y fs; omega
  · show RelO ((putF f y fs).lookup g) (if g = f then some u else mA g)
    rw [lookup_putF]
    by_cases q : g = f
    · rw [if_pos q, if_pos q]; exact ry
    · rw [if_neg q, if_neg q]; exact r g
  · by_cases q : g = f
    · rw [q]; exact (keys_putF f y fs).1
    · refine (keys_putF f y fs).2 g (wi g fun z => hg ?_)
      show (if g = f then some u else mA g) = none
      rw [if_neg q]; exact z

/-- a new instance, tracked, without attributes -/
theorem Inv.made (I : Inv X pins σ H s) : Inv X pins σ (upd (upd H s.heap.objs.size (.own (s.heap.objs.size + 1))) (s.heap.objs.size + 1) (.ins C s.heap.objs.size []))
    { s with heap := (s.heap.push PySem.W.emptyDict).push (PySem.W.instObj C s.heap.objs.size) } := by
  have e1 : (s.heap.push PySem.W.emptyDict).get? s.heap.objs.size = some PySem.W.emptyDict := Heap.get?_push_size s.heap rfl
  have e2 : ((s.heap.push PySem.W.emptyDict).push (PySem.W.instObj C s.heap.objs.size)).get? (s.heap.objs.size + 1) = some (PySem.W.instObj C s.heap.objs.size) := by
    have := Heap.get?_push_size (s.heap.push PySem.W.emptyDict) (o := PySem.W.instObj C s.heap.objs.size) rfl
    rwa [Heap.size_push] at this
  have e3 : (s.heap.push PySem.W.emptyDict).Ns s.heap.objs.size (fun _ => none) := ⟨PySem.W.emptyDict, #[], _, e1, rfl, (fun e he => absurd he (by simp)), fun _ => rfl⟩
  have I1 := I.laid (a := s.heap.objs.size) (o := .own (s.heap.objs.size + 1)) (h' := s.heap.push PySem.W.emptyDict) (t' := s.toks) (fun b u q => Heap.get?_push_of_some _ q) (Nat.le_refl _) ⟨_, e1⟩
  refine I1.laid (a := s.heap.objs.size + 1) (o := .ins C s.heap.objs.size []) (t' := s.toks) (fun b u q => Heap.get?_push_of_some _ q) (Nat.le_of_eq (Heap.size_push _ _)) ?_
  have ne : s.heap.objs.size ≠ s.heap.objs.size + 1 := Nat.ne_of_lt (Nat.lt_succ_self _)
  refine ⟨by rw [upd_ne ne, upd_same], Nat.zero_le _, ne, e2, fun _ => none, (Heap.Ns1.of_empty e3).at fun o q => Heap.get?_push_of_some _ q, fun _ => True.intro, fun y hy => absurd rfl hy⟩

/-- e.f where nothing but the object is asked: through attributeBase (super) and the last hold -/
theorem attr_of {prog : Program} {w : World} {env : Env} {e : Expr} {f : Str} {pos : Pos} {s : Shared} {Q : Value → Shared → Prop} (hb : attributeBase e f env (eval e env) = eval e env)
    (h : wpAny (model prog w) A (eval e env) (fun o s₁ => wpAny (model prog w) A (getAttr o f true) Q E s₁) E s) : wpAny (model prog w) A (eval (.Attribute e f pos) env) Q E s :=
  Attribute_any_ h (by rw [arm_eval_Attribute, hb])
end

/-! ### readings and rules -/
/-- e.f, an attribute of the instance -/
def tFld (K : PySem.W.Frag) (ta : TE) (f : Str) : TE := fun σ H Q => ta σ H fun x H1 => ∃ a C dx fs v, x = .ref a ∧ H1 a = some (.ins C dx fs) ∧ Cls K C ∧ NoAttr K C f ∧ fs.lookup f = some v ∧ Q v H1
/-- e.f, a constant of the class -/
def tCon (K : PySem.W.Frag) (ta : TE) (f : Str) : TE := fun σ H Q => ta σ H fun x H1 => ∃ a C dx fs v u, x = .ref a ∧ H1 a = some (.ins C dx fs) ∧ Cls K C ∧ Con K C f v u ∧ fs.lookup f = none ∧ Q v H1
/-- e.f = value -/
def sFld (K : PySem.W.Frag) (ta tv : TE) (f : Str) : TS := fun D σ H => tv σ H fun y H1 => ta σ H1 fun x H2 => ∃ a C dx fs, x = .ref a ∧ H2 a = some (.ins C dx fs) ∧ Cls K C ∧ NoAttr K C f ∧ fs.length < 1000 ∧
  D.nx σ (upd H2 a (.ins C dx (putF f y fs)))
/-- an augmented operator on two values -/
def InOp (X : Cx) (op : Operator) (rd : V → V → Hp → VK → Prop) : Prop :=
  ∀ (pins : List (Addr × Obj)) (s : Shared) (σ : St) (H : Hp) (x y : V) (u v : Value) (Q : VK), Inv X pins σ H s → RelV x u → RelV y v → rd x y H Q → wpAny (model X.prog X.w) X.A (inplaceOp op u v) (EP X pins σ Q) X.xe s
/-- e.f op= value -/
def sFldAug (K : PySem.W.Frag) (ta tv : TE) (rd : V → V → Hp → VK → Prop) (f : Str) : TS := fun D σ H => ta σ H fun x H1 => ∃ a C dx fs v, x = .ref a ∧ H1 a = some (.ins C dx fs) ∧ Cls K C ∧ NoAttr K C f ∧ fs.lookup f = some v ∧
  tv σ H1 fun y H2 => rd v y H2 fun z H3 => ∃ dx' fs', H3 a = some (.ins C dx' fs') ∧ fs'.length < 1000 ∧ D.nx σ (upd H3 a (.ins C dx' (putF f z fs')))

section
variable {X : Cx} {o e value : Expr} {f : Str} {pos pos' tpos : Pos} {ta tv : TE}
theorem pe_fld (he : PE X e ta) (hb : attributeBase e f X.env (eval e X.env) = eval e X.env) : PE X (.Attribute e f pos) (tFld X.K ta f) := by
  intro pins s σ H Q I h
  refine attr_of hb (thn (he pins s σ H _ I h) fun u s1 ⟨x, H1, I1, rx, a, C, dx, fs, v, ex, ea, c, n, l, q⟩ => ?_)
  subst ex
  obtain rfl : u = Value.ref a := rx
  exact getattr_ok I1 ea c n l fun u' s2 I2 ru => ⟨v, H1, I2, ru, q⟩
theorem ps_fld (ha : PE X o ta) (hv : PE X value tv) (hs : swapsWith value (some (.Attribute o f pos')) pos.line X.env = pure false) : PS X (.Assign [.Attribute o f pos'] value pos) (sFld X.K ta tv f) := by
  intro pins s σ H D I h
  refine plainObj_wpAny_Assign_Attribute (thn (hv pins s σ H _ I h) fun u s1 ⟨y, H1, I1, ry, q⟩ => thn (ha pins s1 σ H1 _ I1 q) fun ov s2 ⟨x, H2, I2, rx, a, C, dx, fs, ex, ea, c, n, l, q2⟩ => ?_) hs
  subst ex
  obtain rfl : ov = Value.ref a := rx
  exact setattr_ok I2 ea c n l ry fun s3 I3 => ⟨σ, _, I3, q2⟩
def rAdd : V → V → Hp → VK → Prop := fun x y H Q => ∃ i j, x = .int i ∧ y = .int j ∧ Q (.int (i + j)) H
def rSub : V → V → Hp → VK → Prop := fun x y H Q => ∃ i j, x = .int i ∧ y = .int j ∧ Q (.int (i - j)) H
end

/-! ### isinstance -/
section
variable {X : Cx} {pins : List (Addr × Obj)} {σ : St} {H : Hp} {s : Shared} {A : Around} {E : Value → Shared → Prop} {Q : Value → Shared → Prop} {c : Value} {b : Bool}
/-- the type of a value, as the fragment's deciders take it; for an instance its class -/
inductive TyOf (K : PySem.W.Frag) (H : Hp) : V → Value → Prop where
  | non : TyOf K H .non (.type "NoneType")
  | bl (x : Bool) : TyOf K H (.bl x) (.type "bool")
  | int (i : Int) : TyOf K H (.int i) (.type "int")
  | str (x : Str) : TyOf K H (.str x) (.type "str")
  | flt (x : UInt64) : TyOf K H (.flt x) (.type "float")
  | lst {a : Addr} {xs : List V} (e : H a = some (.lst xs)) : TyOf K H (.ref a) (.type "list")
  | frz {a : Addr} {o : Obj} {xs : List V} (e : H a = some (.frz o (.lst xs))) : TyOf K H (.ref a) (.type "list")
  | tup {a : Addr} {xs : List V} (e : H a = some (.tup xs)) : TyOf K H (.ref a) (.type "tuple")
  | dK {a : Addr} {kvs : List (Key × V)} (e : H a = some (.dK kvs)) : TyOf K H (.ref a) (.type "dict")
  | dT {a : Addr} {kvs : List (List Key × V)} (e : H a = some (.dT kvs)) : TyOf K H (.ref a) (.type "dict")
  | ins {a C dx : Addr} {fs : List (Str × V)} (e : H a = some (.ins C dx fs)) (cl : Cls K C) (ha : PySem.W.findIn K (.ref C) "__class__" = some (some (.builtin "object.__class__")))
      (hn : PySem.W.specialIn K (.builtin "object.__class__") "__get__" = some (some (.builtin "getset_descriptor.__get__"))) (htk : PySem.W.takesIn K (.builtin "object.__class__") = some true)
      (hm : PySem.W.mroIn K C (.type "object") = some true) : TyOf K H (.ref a) (.ref C)
/-- isinstance(x, c) for one class c, a built-in or an own one: kitOne's answer -/
theorem isinst_ok {x : V} {u t : Value} (I : Inv X pins σ H s) (rx : RelV x u) (ty : TyOf X.K H x t) (e : PySem.W.kitOne X.K t c = some b) (h : ∀ tk, Q (.bool b) { s with toks := tk }) :
    wpAny (model X.prog X.w) A (call (.builtin "isinstance") [u, c]) Q E s := by
  cases ty with
  | non => cases (show u = Value.none from rx); exact PySem.W.kia_one PySem.W.kitx_none I.kIn True.intro e (fun z => nomatch z) h
  | bl y => cases (show u = Value.bool y from rx); exact PySem.W.kia_one PySem.W.kitx_bool I.kIn True.intro e (fun z => nomatch z) h
  | int i => obtain ⟨t, q⟩ := (show ∃ t, u = Value.int i t from rx); cases q; exact PySem.W.kia_one PySem.W.kitx_int I.kIn True.intro e (fun z => nomatch z) h
  | str y => obtain ⟨t, q⟩ := (show ∃ t, u = Value.str y t from rx); cases q; exact PySem.W.kia_one PySem.W.kitx_str I.kIn True.intro e (fun z => nomatch z) h
  | flt y => obtain ⟨t, q⟩ := (show ∃ t, u = Value.float y t from rx); cases q; exact PySem.W.kia_one PySem.W.kitx_float I.kIn True.intro e (fun z => nomatch z) h
  | @lst a xs ea =>
    cases (show u = Value.ref a from rx)
    obtain ⟨_, _, n, _, h1⟩ := (show ObjOk X.prog X.w H s.heap a (.lst xs) from I.hok a _ ea)
    exact PySem.W.kia_one PySem.W.kitx_list I.kIn ⟨_, h1, rfl⟩ e (fun z => nomatch z) h
  | @frz a ob xs ea =>
    cases (show u = Value.ref a from rx)
    obtain ⟨_, _, _, n, _, h1⟩ := (show ObjOk X.prog X.w H s.heap a (.frz ob (.lst xs)) from I.hok a _ ea)
    exact PySem.W.kia_one PySem.W.kitx_list I.kIn ⟨_, h1, rfl⟩ e (fun z => nomatch z) h
  | @tup a xs ea =>
    cases (show u = Value.ref a from rx)
    obtain ⟨_, _, _, p, _⟩ := (show ObjOk X.prog X.w H s.heap a (.tup xs) from I.hok a _ ea)
    obtain ⟨o, h1, h2, _⟩ := p
    exact PySem.W.kia_one PySem.W.kitx_tuple I.kIn ⟨o, h1, h2⟩ e (fun z => nomatch z) h
  | @dK a kvs ea =>
    cases (show u = Value.ref a from rx)
    obtain ⟨_, _, vs, _, p⟩ := (show ObjOk X.prog X.w H s.heap a (.dK kvs) from I.hok a _ ea)
    obtain ⟨o, es, ep, h1, h2, _⟩ := p
    exact PySem.W.kia_one PySem.W.kitx_dict I.kIn ⟨o, h1, h2.1⟩ e (fun z => nomatch z) h
  | @dT a kvs ea =>
    cases (show u = Value.ref a from rx)
    obtain ⟨_, _, xs, _, o, es, ep, h1, h2, _⟩ := (show ObjOk X.prog X.w H s.heap a (.dT kvs) from I.hok a _ ea)
    exact PySem.W.kia_one PySem.W.kitx_dict I.kIn ⟨o, h1, h2.1⟩ e (fun z => nomatch z) h
  | @ins a C dx fs ea cl ha hn htk hm =>
    cases (show u = Value.ref a from rx)
    obtain ⟨mA, O, _⟩ := ins_get I.hok ea
    obtain ⟨od, J, _⟩ := O.look
    exact PySem.W.kia_one (PySem.W.kitx_own (cl.get _) cl.hd ha hn htk hm) I.kIn J e (fun z => nomatch z) h
end
end L2

namespace L2
open PySem PySem.Spec PyProof.Rows

/-! ### room -/
structure Room (k : Nat) (A : Around) : Prop where
  hd : A.handled = none
  dp : A.depth + 3 * k + 5 < recursionLimit
  un : A.units + 16 * k + 200 < cLine
theorem Room.mono {j k : Nat} {A : Around} (r : Room k A) (h : j ≤ k) : Room j A := ⟨r.hd, by have := r.dp; omega, by have := r.un; omega⟩
theorem Room.deeper {k : Nat} {A : Around} (r : Room (k + 1) A) (env : Env) : Room k (A.deeper env) :=
  ⟨r.hd, by have := r.dp; show A.depth + 1 + 3 * k + 5 < _; omega, by have := r.un; show A.units + 3 + 16 * k + 200 < _; omega⟩
theorem make_depth {A : Around} {C : Addr} {us : List Value} {kw : List (Str × Value)} : (A.under (.builtin "type.__call__" ⟨.ref C :: us, kw⟩)).depth = A.depth + 1 := by
  first | rfl | simp [Around.under, Code.weight, Code.isCreation, Code.isGuard, Code.isCaller, Code.frames, Code.isFrame, guardIds]
theorem make_units {A : Around} {C : Addr} {us : List Value} {kw : List (Str × Value)} : (A.under (.builtin "type.__call__" ⟨.ref C :: us, kw⟩)).units = A.units + 1 := by
  first | rfl | simp [Around.under, Code.cUnits, Code.frames, Code.isFrame]
theorem Room.make {k : Nat} {A : Around} (r : Room (k + 1) A) (C : Addr) (us : List Value) (kw : List (Str × Value)) : Room k (A.under (.builtin "type.__call__" ⟨.ref C :: us, kw⟩)) :=
  ⟨r.hd, by have := r.dp; rw [make_depth]; omega, by have := r.un; rw [make_units]; omega⟩
theorem Room.depth {k : Nat} {A : Around} (r : Room k A) : A.depth < recursionLimit := by have := r.dp; omega
theorem Room.units0 {k : Nat} {A : Around} (r : Room k A) : A.units < cLine := by have := r.un; omega

/-! ### argument lists and displays -/
def tNil : TA := fun _ H Q => Q [] H
def tCons (ta : TE) (tr : TA) : TA := fun σ H Q => ta σ H fun x H1 => tr σ H1 fun xs H2 => Q (x :: xs) H2
section
variable {X : Cx} {e : Expr} {es : List Expr} {te : TE} {t : TA} {pos : Pos}
theorem pa_nil : PA X [] tNil := fun _ _ _ _ H Q I h => Calls.spliced_nil ⟨[], H, I, .nil, h⟩
theorem pa_cons (ha : PE X e te) (hr : PA X es t) (hs : starEach (e :: es) X.env = (false, eval e X.env) :: starEach es X.env := by rfl) : PA X (e :: es) (tCons te t) := by
  intro pos pins s σ H Q I h
  rw [hs]
  show wpAny _ _ (spliced ((false, eval e X.env) :: backTo pos (starEach es X.env))) _ _ s
  refine Calls.spliced_cons (thn (ha pins s σ H _ I h) fun u s1 ⟨x, H1, I1, r1, q1⟩ => ?_)
  exact thn (hr pos pins s1 σ H1 _ I1 q1) fun us s2 ⟨xs, H2, I2, r2, q2⟩ => ⟨x :: xs, H2, I2, .cons r1 r2, q2⟩

/-- a tuple, a list of written items -/
def tTup (t : TA) : TE := fun σ H Q => t σ H fun xs H1 => xs.length ≤ sizeLine ∧ ∀ p, H1 p = none → Q (.ref p) (upd H1 p (.tup xs))
def tLst (t : TA) : TE := fun σ H Q => t σ H fun xs H1 => xs.length ≤ sizeLine ∧ ∀ p, H1 p = none → Q (.ref p) (upd H1 p (.lst xs))
theorem pe_tup {x1} (h : PA X es t) : PE X (.Tuple es x1 pos) (tTup t) := by
  intro pins s σ H Q I hq
  refine wpAny_Tuple_spliced (thn (h pos pins s σ H _ I hq) fun us s1 ⟨xs, H1, I1, r, z, q⟩ => ⟨by rw [← r.length]; exact z, ?_⟩)
  have hf : H1 s1.heap.objs.size = none := I1.hok.fresh (Nat.le_refl _)
  refine ⟨.ref s1.heap.objs.size, upd H1 s1.heap.objs.size (.tup xs), I1.laid (t' := s1.toks) (fun b u e => Heap.get?_push_of_some _ e) (Nat.le_refl _) ?_, rfl, q _ hf⟩
  exact ⟨z, us, r, ⟨_, Heap.get?_push_size _ rfl, rfl, _, rfl⟩, _, Heap.get?_push_size _ rfl, rfl⟩
theorem pe_lst (h : PA X es t) : PE X (.List es pos) (tLst t) := by
  intro pins s σ H Q I hq
  refine wpAny_List_spliced (thn (h pos pins s σ H _ I hq) fun us s1 ⟨xs, H1, I1, r, z, q⟩ => ⟨by rw [← r.length]; exact z, ?_⟩)
  have hf : H1 s1.heap.objs.size = none := I1.hok.fresh (Nat.le_refl _)
  refine ⟨.ref s1.heap.objs.size, upd H1 s1.heap.objs.size (.lst xs), I1.laid (t' := s1.toks) (fun b u e => Heap.get?_push_of_some _ e) (Nat.le_refl _) ?_, rfl, q _ hf⟩
  exact ⟨z, us, 0, r, Heap.get?_push_size _ rfl⟩
end

/-! ### what a def promises -/
/-- a def's promise: the bound arguments in the parameters' order, the heap, the wanted end, the wanted exception -/
abbrev Sp := List V → Hp → VK → XK → Prop
/-- how an exception lies behind a call (file 08 gives it): the callers' frames, abstract heap and state ahead of the call, the wish, the exception, the state -/
abbrev CXT := List Env → Hp → Shared → XK → Value → Shared → Prop

/-- the state at a call -/
structure Env0 (P : Program) (w : World) (K : PySem.W.Frag) (mg : Str → Option Value) (base : Heap) (A : Around) (outer : List Env) (s : Shared) (H : Hp) : Prop where
  frames : A.frames = some outer
  mod : Mod K mg base
  bs : ∀ b o, base.get? b = some o → s.heap.get? b = some o ∧ H b = none
  bsz : base.objs.size ≤ s.heap.objs.size
  funs : s.heap.FunFrames base outer
  frf : ∀ b ∈ frs outer, H b = none
  hok : HOk P w H s.heap
  bare : AllBare s.gens
/-- a call's end -/
def CE (outer : List Env) (P : Program) (w : World) (H : Hp) (s : Shared) (Q : VK) (u : Value) (s' : Shared) : Prop :=
  ∃ v H', s'.os = s.os ∧ AllBare s'.gens ∧ Un (frs outer) [] H H' s.heap s'.heap ∧ HOk P w H' s'.heap ∧ RelV v u ∧ Q v H'
def CR (CX : CXT) (outer : List Env) (P : Program) (w : World) (H : Hp) (s : Shared) (Q : VK) (E : XK) (r : Result) (s' : Shared) : Prop :=
  match r with
  | .ok (.ret u) => CE outer P w H s Q u s'
  | .ok _ => False
  | .error e => CX outer H s E e s'
structure FnOk (P : Program) (w : World) (K : PySem.W.Frag) (mg : Str → Option Value) (base : Heap) (CX : CXT) (k : Nat) (f : Addr) (fd : FuncData) (ps : List Str) (sp : Sp) : Prop where
  len : ∀ vs H Q E, sp vs H Q E → vs.length = ps.length
  run : ∀ (A : Around) (outer : List Env) (s : Shared) (H : Hp) (args : Args) (us : List Value) (vs : List V) (Q : VK) (E : XK), Room k A → Env0 P w K mg base A outer s H → BindsTo s fd args (ps.zip us) → Vals vs us → sp vs H Q E →
    codeAny (model P w) A (.call (.ref f) args) (CR CX outer P w H s Q E) s
theorem Env0.make {P : Program} {w : World} {K : PySem.W.Frag} {mg : Str → Option Value} {base : Heap} {A : Around} {outer : List Env} {s : Shared} {H : Hp} (e : Env0 P w K mg base A outer s H) (C : Addr) (us : List Value) (kw : List (Str × Value)) :
    Env0 P w K mg base (A.under (.builtin "type.__call__" ⟨.ref C :: us, kw⟩)) outer s H := ⟨by first | exact e.frames | (simpa [Around.under, Code.envs, Code.isFrame, pushEnvs] using e.frames), e.mod, e.bs, e.bsz, e.funs, e.frf, e.hok, e.bare⟩
section
variable {X : Cx} {pins : List (Addr × Obj)} {σ : St} {H : Hp} {s s' : Shared}
/-- from a body: what a callee wants -/
theorem Inv.env0 (I : Inv X pins σ H s) : Env0 X.prog X.w X.K X.mg X.base X.A X.stack s H :=
  ⟨I.ok.frames, I.ok.mod, I.bs, Nat.le_trans I.ok.bsz I.sz, I.stack, I.stkFree, I.hok, I.bare⟩
/-- behind a call -/
theorem Inv.after {Q : VK} {u : Value} (I : Inv X pins σ H s) (h : CE X.stack X.prog X.w H s Q u s') : EP X pins σ Q u s' := by
  obtain ⟨v, H', os, bare, un, hok, r, q⟩ := h
  obtain ⟨hh, g, d, t, os'⟩ := s'
  obtain rfl : os' = s.os := os
  exact ⟨v, H', I.call (h' := hh) (g' := g) (d' := d) (t' := t) (ch := []) un hok bare (fun b z => absurd z (by simp)), r, q⟩
end

/-! ### calls -/
/-- f(..): the written arguments, then the defaults dvs; E: what is wanted of an exception -/
def tCall (sp : Sp) (dvs : List V) (E : XK) (t : TA) : TE := fun σ H Q => t σ H fun vs H1 => sp (vs ++ dvs) H1 Q E
/-- o.m(..) of an instance of the class at C -/
def tMeth (C : Addr) (m : Str) (sp : Sp) (dvs : List V) (E : XK) (ta : TE) (t : TA) : TE := fun σ H Q => ta σ H fun x H1 => ∃ a dx fs, x = .ref a ∧ H1 a = some (.ins C dx fs) ∧ fs.lookup m = none ∧
  t σ H1 fun vs H2 => sp (x :: (vs ++ dvs)) H2 Q E
/-- C(..): a new instance and its dict, then __init__ -/
def tMake (C : Addr) (sp : Sp) (dvs : List V) (E : XK) (t : TA) : TE := fun σ H Q => t σ H fun vs H1 => ∀ x dx, H1 x = none → H1 dx = none → dx ≠ x →
  sp (.ref x :: (vs ++ dvs)) (upd (upd H1 dx (.own x)) x (.ins C dx [])) (fun v H2 => v = .non ∧ Q (.ref x) H2) E

/-- how the parameters are bound: us the positional arguments, kw the keywords' values by name, ds the defaults that fill up -/
def Binds (K : PySem.W.Frag) (fd : FuncData) (ps : List Str) (ds : List Value) : Prop :=
  ∀ (s : Shared) (us : List Value), K.In s.heap → (us ++ ds).length = ps.length → BindsTo s fd ⟨us, []⟩ (ps.zip (us ++ ds))
/-- every parameter is given -/
theorem Binds.all {K : PySem.W.Frag} {fd : FuncData} {ps : List Str} (h : ∀ us : List Value, us.length = ps.length → bindArgs fd ⟨us, []⟩ = pure (ps.zip us)) : Binds K fd ps [] := fun s us _ hl => by
  rw [List.append_nil] at hl ⊢
  exact .of_eq (h us hl)

/-- an exception of a callee reaches what this body wants of exceptions -/
def Passes (CX : CXT) (X : Cx) (E : XK) : Prop := ∀ (pins : List (Addr × Obj)) (σ : St) (H : Hp) (s : Shared) (e : Value) (s' : Shared), Inv X pins σ H s → CX X.stack H s E e s' → X.xe e s'

section
variable {X : Cx} {CX : CXT} {k : Nat} {f C : Addr} {fd : FuncData} {ps : List Str} {sp : Sp} {dvs : List V} {ds : List Value} {E : XK} {x m : Str} {p pos apos : Pos} {e o : Expr} {es : List Expr} {ta : TE} {t : TA}

/-- the callee runs -/
theorem run_fn {pins : List (Addr × Obj)} {σ : St} {H : Hp} {s : Shared} {Q : VK} {us : List Value} {vs : List V} (F : FnOk X.prog X.w X.K X.mg X.base CX k f fd ps sp) (hr : Room k X.A) (hb : Binds X.K fd ps ds) (hd : Vals dvs ds) (hx : Passes CX X E)
    (I : Inv X pins σ H s) (r : Vals vs us) (h : sp (vs ++ dvs) H Q E) : wpAny (model X.prog X.w) X.A (call (.ref f) us) (EP X pins σ Q) X.xe s := by
  have r2 : Vals (vs ++ dvs) (us ++ ds) := r.append hd
  have hl : (us ++ ds).length = ps.length := by rw [← r2.length]; exact F.len _ _ _ _ h
  refine wpAny_call (codeAny_mono (F.run X.A X.stack s H ⟨us, []⟩ (us ++ ds) (vs ++ dvs) Q E hr I.env0 (hb s us I.kIn hl) r2 h) fun r s' hq => ?_)
  cases r with
  | error e => exact hx pins σ H s e s' I hq
  | ok fl =>
    cases fl with
    | ret u => exact I.after hq
    | next => exact False.elim hq
    | brk => exact False.elim hq
    | cont => exact False.elim hq

theorem pe_call (F : FnOk X.prog X.w X.K X.mg X.base CX k f fd ps sp) (hr : Room k X.A) (hg : Gl X x) (hm : X.mg x = some (.ref f)) (hk : PySem.W.keepIn X.K (.ref f) = true) (hb : Binds X.K fd ps ds) (hd : Vals dvs ds) (hx : Passes CX X E)
    (ha : PA X (e :: es) t) (hdb : (x == ("__debug__" : Str)) = false := by decide) (he : starEach (e :: es) X.env = (false, eval e X.env) :: starEach es X.env := by rfl) (hpl : (backTo pos (starEach es X.env)).any (·.1) = false := by rfl) :
    PE X (.Call (.Name x p) (e :: es) [] pos) (tCall sp dvs E t) := by
  intro pins s σ H Q I h
  refine wpAny_Call_Name_kw (ld_glob I hg hm ?_ hdb)
  refine PySem.W.callWith_K (h₀ := X.base) I.ok.mod.kin hk (thn (ha pos pins s σ H _ I h) fun us s1 ⟨vs, H1, I1, r, q⟩ => ⟨I1.kIn, ?_⟩) he hpl
  exact run_fn F hr hb hd hx I1 r q
/-- o.m(e, ..) -/
theorem pe_meth {pl : Sem Bool} (he : PE X o ta) (c : Cls X.K C) (hm : Meth X.K C m f) (F : FnOk X.prog X.w X.K X.mg X.base CX k f fd ps sp) (hr : Room k X.A) (hb : Binds X.K fd ps ds) (hd : Vals dvs ds) (hx : Passes CX X E) (ha : PA X (e :: es) t)
    (hst : starEach (e :: es) X.env = (false, eval e X.env) :: starEach es X.env := by rfl) (hpl : (backTo pos (starEach es X.env)).any (·.1) = false := by rfl)
    (ht : eval (.Call (.Attribute o m apos) (e :: es) [] pos) X.env = (do
      let ov ← eval o X.env
      standAt apos.atName
      let (f, first) ← holding [ov] (getMethod ov m pl)
      callWith pos f first (backTo pos (starEach (e :: es) X.env)) (backToKw pos (keywordEach [] X.env))) := by rfl) :
    PE X (.Call (.Attribute o m apos) (e :: es) [] pos) (tMeth C m sp dvs E ta t) := by
  intro pins s σ H Q I h
  refine PySem.W.methodCall_KW (pl := pl) (thn (he pins s σ H _ I h) fun u s1 ⟨x, H1, I1, rx, a, dx, fs, ex, ea, l, q⟩ => ?_) ht
  subst ex
  obtain rfl : u = Value.ref a := rx
  refine getmeth_ok I1 ea c hm l ?_
  refine PySem.W.callWith_K (first := [.ref a]) (h₀ := X.base) I.ok.mod.kin hm.kp (thn (ha pos pins s1 σ H1 _ I1 q) fun us s2 ⟨vs, H2, I2, r, q2⟩ => ⟨I2.kIn, ?_⟩) hst hpl
  exact run_fn (us := .ref a :: us) (vs := .ref a :: vs) F hr hb hd hx I2 (.cons rfl r) q2
/-- o.m() -/
theorem pe_meth0 {pl : Sem Bool} (he : PE X o ta) (c : Cls X.K C) (hm : Meth X.K C m f) (F : FnOk X.prog X.w X.K X.mg X.base CX k f fd ps sp) (hr : Room k X.A) (hb : Binds X.K fd ps ds) (hd : Vals dvs ds) (hx : Passes CX X E)
    (ht : eval (.Call (.Attribute o m apos) [] [] pos) X.env = (do
      let ov ← eval o X.env
      standAt apos.atName
      let (f, first) ← holding [ov] (getMethod ov m pl)
      callWith pos f first (backTo pos (starEach [] X.env)) (backToKw pos (keywordEach [] X.env))) := by rfl) :
    PE X (.Call (.Attribute o m apos) [] [] pos) (tMeth C m sp dvs E ta tNil) := by
  intro pins s σ H Q I h
  refine PySem.W.methodCall_KW (pl := pl) (thn (he pins s σ H _ I h) fun u s1 ⟨x, H1, I1, rx, a, dx, fs, ex, ea, l, q⟩ => ?_) ht
  subst ex
  obtain rfl : u = Value.ref a := rx
  refine getmeth_ok I1 ea c hm l ?_
  exact PySem.W.callWith_K0 (first := [.ref a]) I1.kIn hm.kp (run_fn (us := [.ref a]) (vs := [.ref a]) F hr hb hd hx I1 (.cons rfl .nil) q)

/-- what a class must have to be made -/
structure Mk (K : PySem.W.Frag) (C f : Addr) : Prop where
  makes : PySem.W.makesIn K C = true
  init : PySem.W.findIn K (.ref C) "__init__" = some (some (.ref f))
  fn : PySem.W.isFn K (.ref f) = true
  kp : PySem.W.keepIn K (.ref C) = true

theorem run_make {pins : List (Addr × Obj)} {σ : St} {H : Hp} {s : Shared} {Q : VK} {us : List Value} {vs : List V} (M : Mk X.K C f) (F : FnOk X.prog X.w X.K X.mg X.base CX k f fd ps sp) (hr : Room (k + 1) X.A) (hb : Binds X.K fd ps ds) (hd : Vals dvs ds)
    (hx : Passes CX X E) (I : Inv X pins σ H s) (r : Vals vs us)
    (h : ∀ x dx, H x = none → H dx = none → dx ≠ x → sp (.ref x :: (vs ++ dvs)) (upd (upd H dx (.own x)) x (.ins C dx [])) (fun v H2 => v = .non ∧ Q (.ref x) H2) E) :
    wpAny (model X.prog X.w) X.A (call (.ref C) us) (EP X pins σ Q) X.xe s := by
  have hq := h (s.heap.objs.size + 1) s.heap.objs.size (I.hok.fresh (Nat.le_succ _)) (I.hok.fresh (Nat.le_refl _)) (Nat.ne_of_lt (Nat.lt_succ_self _))
  have I2 := Inv.made (C := C) I
  have r2 : Vals (V.ref (s.heap.objs.size + 1) :: (vs ++ dvs)) (Value.ref (s.heap.objs.size + 1) :: (us ++ ds)) := .cons rfl (r.append hd)
  have hl : (Value.ref (s.heap.objs.size + 1) :: us ++ ds).length = ps.length := by
    have e := r2.length
    rw [F.len _ _ _ _ hq] at e
    exact e.symm
  refine wpAny_call (make_map (f := f) I.kIn M.makes M.init (beq_iff_eq.mp M.fn) (codeAny_mono (F.run _ X.stack _ _ ⟨Value.ref (s.heap.objs.size + 1) :: us, []⟩ (Value.ref (s.heap.objs.size + 1) :: (us ++ ds)) _ _ E (hr.make C us [])
    (I2.env0.make C us []) (hb _ (Value.ref (s.heap.objs.size + 1) :: us) I2.kIn hl) r2 hq) fun r s' hq' => ?_))
  cases r with
  | error e => exact hx pins σ _ _ e s' I2 hq'
  | ok fl =>
    cases fl with
    | ret u =>
      obtain ⟨v, H', I3, rv, ev, q3⟩ := I2.after hq'
      subst ev
      exact ⟨rv, ⟨V.ref (s.heap.objs.size + 1), H', I3, rfl, q3⟩⟩
    | next => exact False.elim hq'
    | brk => exact False.elim hq'
    | cont => exact False.elim hq'
theorem pe_make (M : Mk X.K C f) (F : FnOk X.prog X.w X.K X.mg X.base CX k f fd ps sp) (hr : Room (k + 1) X.A) (hg : Gl X x) (hm : X.mg x = some (.ref C)) (hb : Binds X.K fd ps ds) (hd : Vals dvs ds) (hx : Passes CX X E)
    (ha : PA X (e :: es) t) (hdb : (x == ("__debug__" : Str)) = false := by decide) (he : starEach (e :: es) X.env = (false, eval e X.env) :: starEach es X.env := by rfl) (hpl : (backTo pos (starEach es X.env)).any (·.1) = false := by rfl) :
    PE X (.Call (.Name x p) (e :: es) [] pos) (tMake C sp dvs E t) := by
  intro pins s σ H Q I h
  refine wpAny_Call_Name_kw (ld_glob I hg hm ?_ hdb)
  refine PySem.W.callWith_K (h₀ := X.base) I.ok.mod.kin M.kp (thn (ha pos pins s σ H _ I h) fun us s1 ⟨vs, H1, I1, r, q⟩ => ⟨I1.kIn, ?_⟩) he hpl
  exact run_make M F hr hb hd hx I1 r q
end

/-! ### keywords -/
/-- the values of the keywords, from the left -/
def PK (X : Cx) (kws : List Keyword) (t : TA) : Prop :=
  ∀ (pos : Pos) (pins : List (Addr × Obj)) (s : Shared) (σ : St) (H : Hp) (Q : List V → Hp → Prop), Inv X pins σ H s → t σ H Q → wpAny (model X.prog X.w) X.A (evalAll ((backToKw pos (keywordEach kws X.env)).map (·.2))) (AP X pins σ Q) X.xe s
section
variable {X : Cx} {CX : CXT} {k : Nat} {f C : Addr} {fd : FuncData} {ps ks : List Str} {sp : Sp} {E : XK} {x m : Str} {p pos apos kpos : Pos} {e o : Expr} {es : List Expr} {kws : List Keyword} {te ta : TE} {t tk : TA} {nm : Option Str}
/-- how a call with keywords binds: g puts the positional values us and the keywords' values ws (names ks) in the parameters' order, defaults among them -/
structure KBinds (K : PySem.W.Frag) (fd : FuncData) (ps ks : List Str) (g : List Value → List Value → List Value) (gV : List V → List V → List V) : Prop where
  to : ∀ (s : Shared) (us ws : List Value), K.In s.heap → (g us ws).length = ps.length → BindsTo s fd ⟨us, ks.zip ws⟩ (ps.zip (g us ws))
  rel : ∀ {vs : List V} {us : List Value} {zs : List V} {ws : List Value}, Vals vs us → Vals zs ws → Vals (gV vs zs) (g us ws)
def tCallK (sp : Sp) (gV : List V → List V → List V) (E : XK) (t tk : TA) : TE := fun σ H Q => t σ H fun vs H1 => tk σ H1 fun zs H2 => sp (gV vs zs) H2 Q E
variable {g : List Value → List Value → List Value} {gV : List V → List V → List V}
end

/-! ### a def's body keeps its promise -/
/-- names: the parameters first -/
structure FnScope (N P : List Str) (sc : Scope) : Prop where
  kind : sc.kind = .function
  co : sc.isCoroutine = false
  gen : sc.isGenerator = false
  nd : N.Nodup
  pre : N.take P.length = P
  par : ∀ x ∈ P, sc.names.lookup x = some .local ∨ sc.names.lookup x = some .cell
  nofree : ∀ y ∈ sc.names, y.2 ≠ .free

theorem bindL_out {kindOf : Str → Option NameKind} {x : Str} : ∀ {binds : List (Str × Value)} {m : Str → Option Value}, (∀ v, (x, v) ∉ binds) → bindL kindOf binds m x = m x
  | [], _, _ => rfl
  | (n, v) :: r, m, h => by
    unfold bindL
    rw [bindL_out fun w hw => h w (List.mem_cons_of_mem _ hw)]
    split
    · have : x ≠ n := by rintro rfl; exact h v List.mem_cons_self
      simp [this]
    · rfl
theorem bindC_out {kindOf : Str → Option NameKind} {x : Str} : ∀ {binds : List (Str × Value)} {m : Str → Option Value}, (∀ v, (x, v) ∉ binds) → bindC kindOf binds m x = m x
  | [], _, _ => rfl
  | (n, v) :: r, m, h => by
    unfold bindC
    rw [bindC_out fun w hw => h w (List.mem_cons_of_mem _ hw)]
    split
    · rfl
    · have : x ≠ n := by rintro rfl; exact h v List.mem_cons_self
      simp [this]
theorem bindL_get {kindOf : Str → Option NameKind} {x : Str} {v : Value} : ∀ {P : List Str} {vs : List Value} {i : Nat} {m : Str → Option Value}, P.Nodup → P[i]? = some x → vs[i]? = some v → kindOf x = some .local →
    bindL kindOf (P.zip vs) m x = some v
  | [], _, _, _, _, h, _, _ => by simp at h
  | _ :: _, [], _, _, _, _, h, _ => by simp at h
  | p :: P, w :: vs, 0, m, nd, h1, h2, hk => by
    simp at h1 h2; subst h1; subst h2
    show bindL kindOf ((p, w) :: P.zip vs) m p = _
    unfold bindL
    rw [bindL_out fun v hv => (List.nodup_cons.mp nd).1 (List.of_mem_zip hv).1, if_pos hk]
    simp
  | p :: P, w :: vs, i + 1, m, nd, h1, h2, hk => by
    show bindL kindOf ((p, w) :: P.zip vs) m x = _
    unfold bindL
    exact bindL_get (i := i) (List.nodup_cons.mp nd).2 (by simpa using h1) (by simpa using h2) hk
theorem bindC_get {kindOf : Str → Option NameKind} {x : Str} {v : Value} : ∀ {P : List Str} {vs : List Value} {i : Nat} {m : Str → Option Value}, P.Nodup → P[i]? = some x → vs[i]? = some v → kindOf x ≠ some .local →
    bindC kindOf (P.zip vs) m x = some v
  | [], _, _, _, _, h, _, _ => by simp at h
  | _ :: _, [], _, _, _, _, h, _ => by simp at h
  | p :: P, w :: vs, 0, m, nd, h1, h2, hk => by
    simp at h1 h2; subst h1; subst h2
    show bindC kindOf ((p, w) :: P.zip vs) m p = _
    unfold bindC
    rw [bindC_out fun v hv => (List.nodup_cons.mp nd).1 (List.of_mem_zip hv).1, if_neg hk]
    simp
  | p :: P, w :: vs, i + 1, m, nd, h1, h2, hk => by
    show bindC kindOf ((p, w) :: P.zip vs) m x = _
    unfold bindC
    exact bindC_get (i := i) (List.nodup_cons.mp nd).2 (by simpa using h1) (by simpa using h2) hk

/-- the names' values at the entry -/
def start (N : List Str) (vs : List V) : St := vs.map some ++ List.replicate (N.length - vs.length) none

/-- the context of a def's body, at its entry; an exception leaves the frame, then lies as CX says -/
def cxOf (CX : CXT) (P : Program) (w : World) (K : PySem.W.Frag) (mg : Str → Option Value) (base : Heap) (N : List Str) (qual : Str) (scope : Scope) (f : Addr) (cd : Value) (A : Around) (outer : List Env) (s : Shared) (H : Hp) (E : XK) : Cx where
  prog := P
  w := w
  K := K
  mg := mg
  base := base
  A := A.deeper (envOfC qual scope s.heap.objs.size f cd)
  N := N
  s₀ := s
  H₀ := H
  env := envOfC qual scope s.heap.objs.size f cd
  outer := outer
  stack := envOfC qual scope s.heap.objs.size f cd :: outer
  ex := []
  calm := true
  fn := fun _ => true
  pn := []
  xe := fun e s' => wpAny (model P w) (A.deeper (envOfC qual scope s.heap.objs.size f cd)) (leaving (envOfC qual scope s.heap.objs.size f cd) e) (fun _ s'' => CX outer H s E e s'') (fun e' s'' => CX outer H s E e' s'') s'

theorem cell_has {sc : Scope} {n : Nat} {x : Str} (h : sc.names.lookup x = some .cell) : ∃ c, (cellsFrom n sc.names []).lookup x = some c := by
  have q := PySem.W.cellsFrom_some sc.names n [] (.inl h)
  exact Option.isSome_iff_exists.mp q

theorem inv_start {CX : CXT} {P : Program} {w : World} {K : PySem.W.Frag} {mg : Str → Option Value} {base : Heap} {N ps : List Str} {qual : Str} {scope : Scope} {f : Addr} {cd : Value} {A : Around} {outer : List Env} {s s1 : Shared} {H : Hp} {E : XK} {us : List Value} {vs : List V}
    (S : FnScope N ps scope) (hd : A.handled = none) (e0 : Env0 P w K mg base A outer s H) (hl : vs.length = ps.length) (r : Vals vs us)
    (x : InCallC s s.heap.objs.size (bindL (envOfC qual scope s.heap.objs.size f cd).kindOf (ps.zip us) fun _ => none) (cellsFrom (s.heap.objs.size + 1) scope.names []) (bindC (envOfC qual scope s.heap.objs.size f cd).kindOf (ps.zip us) fun _ => none) s1) :
    Inv (cxOf CX P w K mg base N qual scope f cd A outer s H E) [] (start N vs) H s1 := by
  have hpl : ps.length ≤ N.length := by have := congrArg List.length S.pre; rw [List.length_take] at this; omega
  obtain ⟨h1, tk, rfl, hk⟩ := x.done
  have noA : ∀ b : Addr, b ∉ (cxOf CX P w K mg base N qual scope f cd A outer s H E).ex := fun b z => absurd (show b ∈ ([] : List Addr) from z) (by simp)
  refine ⟨⟨e0.mod, S.kind, rfl, rfl, Nat.le_refl _, fun y z c h1 h2 => ?_, fun y hy => ?_, fun y c _ h => ?_, fun _ => hd, Around.frames_deeper e0.frames, .inr ⟨rfl, rfl⟩, fun b z => absurd z (noA b), e0.bs, e0.bsz, fun b _ _ => noA b, fun b z => absurd z (noA b), e0.funs, e0.frf⟩,
    rfl, e0.bare, Un.kept hk, ⟨_, x.toInCall.ns, fun i y v h1 h2 h3 => ?_⟩, fun y c h => ⟨_, x.cell y c h⟩, e0.hok.fresh (Nat.le_refl _), fun y c h => ?_, fun p hp => absurd (show p ∈ ([] : List (Addr × Obj)) from hp) (by simp), e0.hok.kept hk, ?_⟩
  · exact name_of_addr x.apart (PySem.mem_of_lookup h1) (PySem.mem_of_lookup h2)
  · have hy : scope.names.lookup y = some .cell ∨ scope.names.lookup y = some .free := hy
    rcases hy with hy | hy
    · exact cell_has hy
    · exact absurd rfl (S.nofree _ (PySem.mem_of_lookup hy))
  · exact Nat.le_of_lt (x.above y c (PySem.mem_of_lookup h))
  · have hi : i < vs.length := by
      unfold start at h2
      by_cases hi : i < vs.length
      · exact hi
      · rw [List.getElem?_append_right (by simpa using hi)] at h2
        rw [List.getElem?_replicate] at h2
        split at h2 <;> cases h2
    have ha : vs[i]? = some v := by
      unfold start at h2
      rw [List.getElem?_append_left (by simpa using hi), List.getElem?_map] at h2
      cases e : vs[i]? with
      | none => rw [e] at h2; cases h2
      | some a => rw [e] at h2; cases h2; rfl
    obtain ⟨u, hu, rv⟩ := r.get ha
    have hp : ps[i]? = some y := by
      rw [← S.pre, List.getElem?_take_of_lt (by omega)]; exact h1
    have ndP : ps.Nodup := by rw [← S.pre]; exact S.nd.sublist (List.take_sublist _ _)
    refine ⟨u, rv, ?_⟩
    rcases S.par y (List.mem_of_getElem? hp) with k | k
    · exact .inl ⟨k, bindL_get ndP hp hu k⟩
    · obtain ⟨c, e⟩ := cell_has (n := s.heap.objs.size + 1) k
      refine .inr ⟨.inl k, c, e, ?_⟩
      have q := x.cell y c e
      rw [bindC_get ndP hp hu (by show scope.names.lookup y ≠ _; rw [k]; decide)] at q
      exact q
  · exact e0.hok.fresh (Nat.le_of_lt (x.above y c (PySem.mem_of_lookup h)))
  · unfold start
    show _ = N.length
    rw [List.length_append, List.length_map, List.length_replicate]
    omega

/-- THE RULE: a def (or a method) of the text, by its body. The body's reading t is chosen for each entry; it is run at the parameters' values -/
theorem fn_of {CX : CXT} {P : Program} {w : World} {K : PySem.W.Frag} {mg : Str → Option Value} {base : Heap} {k : Nat} {f : Addr} {name qual : Str} {params : Arguments} {body : List Stmt} {scope : Scope} {dV kV doc pm cdv ct oc : Value} {an od : Option Addr}
    {osl : Array (Option Value)} {N ps : List Str} {sp : Sp} (lk : K.lookup f = some ⟨oc, od, .func (PySem.W.fnOf name qual params body scope dV kV doc pm an cdv ct), osl⟩) (hcd : PySem.W.codeIn K cdv qual = true) (S : FnScope N ps scope)
    (len : ∀ vs H Q E, sp vs H Q E → vs.length = ps.length)
    (hbody : ∀ (A : Around) (outer : List Env) (s : Shared) (H : Hp) (vs : List V) (Q : VK) (E : XK), Room k (A.deeper (envOfC qual scope s.heap.objs.size f cdv)) → sp vs H Q E →
      ∃ t, PSs (cxOf CX P w K mg base N qual scope f cdv A outer s H E) body t ∧ t { nx := fun _ H' => Q .non H', rt := Q } (start N vs) H) :
    FnOk P w K mg base CX (k + 1) f (PySem.W.fnOf name qual params body scope dV kV doc pm an cdv ct) ps sp := by
  refine ⟨len, fun A outer s H args us vs Q E hr e0 hb r hsp => ?_⟩
  have hl := len _ _ _ _ hsp
  have KX : K.In s.heap := e0.mod.kin.keeps fun b o e => (e0.bs b o e).1
  have lim : s.heap.NoLimit := e0.mod.nolimit.keeps fun b o e => (e0.bs b o e).1
  have hkind : ∀ y ∈ ps.zip us, scope.names.lookup y.1 = some .local ∨ (scope.names.lookup y.1 = some .cell ∧ ((cellsFrom (s.heap.objs.size + 1) scope.names []).lookup y.1).isSome = true) := fun ⟨n, v⟩ hy => by
    rcases S.par n (List.of_mem_zip hy).1 with q | q
    · exact .inl q
    · exact .inr ⟨q, PySem.W.cellsFrom_some _ _ _ (.inl q)⟩
  refine codeAny_call_function hr.depth (KX _ _ lk) rfl S.co S.gen rfl (PySem.W.codeRec_of KX hcd) (hb _ _ _ _ ?_)
  refine wpAny_newFunctionEnv_cells S.kind hkind fun env he s1 x => ?_
  subst he
  refine ⟨lim.keeps x.toInCall.keep, codeAny_func ?_⟩
  obtain ⟨t, ht, hq⟩ := hbody A outer s H vs Q E (hr.deeper _) hsp
  have I : Inv (cxOf CX P w K mg base N qual scope f cdv A outer s H E) [] (start N vs) H s1 := inv_start S hr.hd e0 hl r x
  refine wpAny_mono (ht [] s1 (start N vs) H _ I hq) (fun fl s' hs => ?_) fun e s' hs => hs
  have fin : ∀ {σ' : St} {H' : Hp} {v : V} {u : Value}, Inv (cxOf CX P w K mg base N qual scope f cdv A outer s H E) [] σ' H' s' → RelV v u → Q v H' → CE outer P w H s Q u s' :=
    fun {σ' H' v u} J rv q => ⟨v, H', J.os, J.bare, J.base, J.hok, rv, q⟩
  cases fl with
  | ret u =>
    obtain ⟨v, σ', H', J, rv, q⟩ := hs
    exact fin J rv q
  | next =>
    obtain ⟨σ', H', J, q⟩ := hs
    exact fin (v := V.non) (u := Value.none) J rfl q
  | brk =>
    obtain ⟨_, _, _, q⟩ := hs
    exact False.elim q
  | cont =>
    obtain ⟨_, _, _, q⟩ := hs
    exact False.elim q
end L2

namespace L2
open PySem PySem.Spec PyProof.Rows
section
variable {X : Cx} {x : Str} {p pos : Pos} {e : Expr} {es : List Expr} {t : TA} {id T : String} {r : List V → Hp → VK → Prop}

def tCB (r : List V → Hp → VK → Prop) (t : TA) : TE := fun σ H Q => t σ H fun vs H1 => r vs H1 Q
/-- f(e, ..), f a built-in function -/
theorem pe_callB (hc : CallR X (.builtin id) r) (hg : Gl X x) (hm : X.mg x = none) (hv : bootBuiltins x = some (.builtin id)) (ha : PA X (e :: es) t) (hn : x ≠ "__name__" := by decide) (hdb : (x == ("__debug__" : Str)) = false := by decide)
    (he : starEach (e :: es) X.env = (false, eval e X.env) :: starEach es X.env := by rfl) (hpl : (backTo pos (starEach es X.env)).any (·.1) = false := by rfl) : PE X (.Call (.Name x p) (e :: es) [] pos) (tCB r t) := by
  intro pins s σ H Q I h
  refine wpAny_Call_Name_kw (ld_blt I hg hm hv ?_ hn hdb)
  exact PyProof.Rows.callWith_builtin1 (thn (ha pos pins s σ H _ I h) fun us s1 ⟨vs, H1, I1, r1, q1⟩ => hc pins s1 σ H1 vs us Q I1 r1 q1) he hpl
/-- T(e, ..), T a built-in type -/
theorem pe_callTy (hc : CallR X (.type T) r) (hg : Gl X x) (hm : X.mg x = none) (hv : bootBuiltins x = some (.type T)) (ha : PA X (e :: es) t) (hn : x ≠ "__name__" := by decide) (hdb : (x == ("__debug__" : Str)) = false := by decide)
    (he : starEach (e :: es) X.env = (false, eval e X.env) :: starEach es X.env := by rfl) (hpl : (backTo pos (starEach es X.env)).any (·.1) = false := by rfl) : PE X (.Call (.Name x p) (e :: es) [] pos) (tCB r t) := by
  intro pins s σ H Q I h
  refine wpAny_Call_Name_kw (ld_blt I hg hm hv ?_ hn hdb)
  exact PyProof.Rows.callWith_type1 (thn (ha pos pins s σ H _ I h) fun us s1 ⟨vs, H1, I1, r1, q1⟩ => hc pins s1 σ H1 vs us Q I1 r1 q1) he hpl
end
end L2

namespace HT
open PySem PyProof.Rows

/-- t < u of tuples of ints -/
def lexLt : List Int → List Int → Bool
  | [], [] => false
  | [], _ :: _ => true
  | _ :: _, [] => false
  | x :: xs, y :: ys => if x = y then lexLt xs ys else decide (x < y)
section
open PySem.SeqAt
open PySem.AutoSeq1 (wpAny_loadPart')
open PySem.MeetsSeq PySem.MeetsSeq2 PySem.MeetsSeq3

end

section
variable {prog : Program} {w : World} {A : Around} {E : Value → Shared → Prop} {s : Shared}

/-- t + u, t not empty -/
theorem cat_tup {t b : Addr} {vs ws : List Value} {Q : Value → Shared → Prop} (ht : IsTup s.heap t vs.toArray) (hb : IsTup s.heap b ws.toArray) (hv : vs ≠ [])
    (h1 : ws = [] → Q (.ref t) s) (h2 : ws ≠ [] → Q (.ref s.heap.objs.size) { s with heap := s.heap.push { cls := .type "tuple", data := .seq (vs ++ ws).toArray } })
    (hsz : vs.length + ws.length ≤ sizeLine) : wpAny (model prog w) A (binaryOp .Add (.ref t) (.ref b)) Q E s := by
  obtain ⟨⟨cls, dd, data, sl⟩, ho, hc, n, hd⟩ := id ht
  obtain ⟨⟨cls2, dd2, data2, sl2⟩, ho2, hc2, n2, hd2⟩ := id hb
  simp only at hc hd hc2 hd2
  subst hc hd hc2 hd2
  have e : vs.toArray ++ ws.toArray = (vs ++ ws).toArray := by simp
  by_cases hw : ws = []
  · exact concat_meets ⟨_, ho, rfl⟩ ⟨_, ho2, rfl⟩ noFill_tuple_add seq_tuple_add PySem.F.slot_tuple_add PySem.F.entry_tuple_add (PySem.F.args_tuple_add_2 _ _)
      (tuple_addW1 t b vs.toArray ws.toArray n n2 dd dd2 sl sl2 (by simpa using hv) (by simp [hw])) ⟨ho, ho2, h1 hw⟩
  · refine concat_meets ⟨_, ho, rfl⟩ ⟨_, ho2, rfl⟩ noFill_tuple_add seq_tuple_add PySem.F.slot_tuple_add PySem.F.entry_tuple_add (PySem.F.args_tuple_add_2 _ _)
      (tuple_addW2 t b vs.toArray ws.toArray n n2 dd dd2 sl sl2 (by simpa using hv) (by simpa using hw) (by rw [List.size_toArray, List.size_toArray]; exact hsz)) ⟨ho, ho2, ?_⟩
    rw [e]
    exact h2 hw

/-! ### t[a:b], not the whole -/
/-- a slice's bound as a place among n (d where it is left out) -/
def sIx (n d : Nat) : Option Int → Nat
  | none => d
  | some v => if v < 0 then (v + (n : Int)).toNat else min v.toNat n
theorem sIx_none (n d : Nat) : sIx n d none = d := rfl
theorem sIx_nat (n d k : Nat) : sIx n d (some (k : Int)) = min k n := by
  show (if (k : Int) < 0 then ((k : Int) + (n : Int)).toNat else min (k : Int).toNat n) = min k n
  rw [if_neg (by omega), Int.toNat_natCast]
theorem sIx_le (n d : Nat) (hd : d ≤ n) (o : Option Int) : sIx n d o ≤ n := by
  cases o with
  | none => exact hd
  | some v =>
    show (if v < 0 then (v + (n : Int)).toNat else min v.toNat n) ≤ n
    by_cases hv : v < 0
    · rw [if_pos hv]; omega
    · rw [if_neg hv]; exact Nat.min_le_right _ _
theorem clip_eq (v : Int) (n d : Nat) : (if v < 0 then max (v + (n : Int)) 0 else min v (n : Int)) = ((sIx n d (some v) : Nat) : Int) := by
  show (if v < 0 then max (v + (n : Int)) 0 else min v (n : Int)) = (((if v < 0 then (v + (n : Int)).toNat else min v.toNat n) : Nat) : Int)
  by_cases hv : v < 0
  · simp only [if_pos hv]; omega
  · simp only [if_neg hv]; omega
theorem adjust_gen (lo hi : Option Int) (n : Nat) : Builtin.Slice.sliceAdjust lo hi 1 (n : Int) = (((sIx n 0 lo : Nat) : Int), ((sIx n n hi : Nat) : Int)) := by
  have h1 : ¬ ((1 : Int) < 0) := by omega
  unfold Builtin.Slice.sliceAdjust
  simp only [h1, if_false]
  refine Prod.ext ?_ ?_
  · cases lo with
    | none => rfl
    | some v => exact clip_eq v n 0
  · cases hi with
    | none => rfl
    | some v => exact clip_eq v n n
theorem places_gen (i j : Nat) : Builtin.Slice.slicePlaces (i : Int) (j : Int) 1 = j - i := by
  unfold Builtin.Slice.slicePlaces
  have h1 : (1 : Int) > 0 := by omega
  simp only [h1, if_true, Int.ediv_one]
  split <;> omega
theorem slicePart_ {v : Value} {o : Option Int} {Q : Option Int → Shared → Prop} (p : IsPart v o) (h : Q o s) : wpAny (model prog w) A (Builtin.Slice.slicePartIndex v) Q E s := by
  cases p with
  | none => exact slicePart_none h
  | int i t => exact slicePart_int h
theorem sliceApplied_gen {sl : Addr} {vl vu : Value} {lo hi : Option Int} {n : Nat} {Q : Int × Int × Nat → Shared → Prop} (hs : s.heap.IsSliceOf sl vl vu .none) (pl : IsPart vl lo) (pu : IsPart vu hi)
    (h : Q (((sIx n 0 lo : Nat) : Int), 1, sIx n n hi - sIx n 0 lo) s) : wpAny (model prog w) A (Builtin.Slice.sliceApplied (.ref sl) (pure (n : Int))) Q E s := by
  obtain ⟨os, hos, hcs, hds⟩ := id hs
  unfold Builtin.Slice.sliceApplied Builtin.Slice.sliceFields
  refine wpAny_bind (wpAny_bind (wpAny_field hos hds (x := vl) rfl (wpAny_bind (wpAny_field hos hds (x := vu) rfl (wpAny_bind (wpAny_field hos hds (x := .none) rfl (wpAny_pure ?_)))))))
  refine wpAny_bind (slicePart_none ?_)
  show wpAny _ _ (if ((1 : Int) == 0) = true then _ else _) _ _ s
  rw [if_neg (by decide)]
  refine wpAny_bind (slicePart_ pl (wpAny_bind (slicePart_ pu (wpAny_bind (wpAny_pure ?_)))))
  show wpAny _ _ (match Builtin.Slice.sliceAdjust lo hi 1 (n : Int) with | (lo, hi) => pure (lo, (1 : Int), Builtin.Slice.slicePlaces lo hi 1)) _ _ s
  rw [adjust_gen lo hi n]
  show wpAny _ _ (pure (((sIx n 0 lo : Nat) : Int), (1 : Int), Builtin.Slice.slicePlaces ((sIx n 0 lo : Nat) : Int) ((sIx n n hi : Nat) : Int) 1)) _ _ s
  rw [places_gen]
  exact wpAny_pure h
theorem pick_gen (xs : Array Value) (i k : Nat) : ((List.range k).filterMap fun (m : Nat) => xs[((i : Int) + (m : Int) * 1).toNat]?).toArray = ((xs.toList.drop i).take k).toArray := by
  have e : (fun (m : Nat) => xs[((i : Int) + (m : Int) * 1).toNat]?) = fun m => xs[i + m]? := by
    funext m
    have : ((i : Int) + (m : Int) * 1).toNat = i + m := by omega
    rw [this]
  rw [e]
  have := pick_run xs i k
  rw [List.filterMap_map] at this
  have e2 : ((fun x => xs[x]?) ∘ fun x => i + x) = fun m => xs[i + m]? := rfl
  rw [e2] at this
  rw [this]

theorem getItem_tuple_cut {t sl : Addr} {items : Array Value} {vl vu : Value} {lo hi : Option Int} {Q : Value → Shared → Prop} (ht : IsTup s.heap t items) (hs : s.heap.IsSliceOf sl vl vu .none) (pl : IsPart vl lo) (pu : IsPart vu hi)
    (hw : ¬ (sIx items.size 0 lo = 0 ∧ sIx items.size items.size hi = items.size))
    (h : Q (.ref s.heap.objs.size) { s with heap := s.heap.push { cls := .type "tuple", data := .seq ((items.toList.drop (sIx items.size 0 lo)).take (sIx items.size items.size hi - sIx items.size 0 lo)).toArray } })
    (hsz : items.size ≤ sizeLine) : wpAny (model prog w) A (getItem (.ref t) (.ref sl)) Q E s := by
  have htake : sizeOk (.seq ((items.toList.drop (sIx items.size 0 lo)).take (sIx items.size items.size hi - sIx items.size 0 lo)).toArray) := by
    show ((items.toList.drop (sIx items.size 0 lo)).take (sIx items.size items.size hi - sIx items.size 0 lo)).toArray.size ≤ sizeLine
    rw [List.size_toArray, List.length_take, List.length_drop, Array.length_toList]
    omega
  have hj : sIx items.size items.size hi ≤ items.size := sIx_le _ _ (Nat.le_refl _) hi
  obtain ⟨os, hos, hcs, hds⟩ := id hs
  have hTs : s.TypeIs (.ref sl) "slice" := ⟨os, hos, hcs⟩
  unfold getItem
  try with_reducible refine wpAny_holding ?_
  first | refine wpAny_bind (wpAny_pure ?_) | skip
  refine wpAny_bind (wpAny_sequenceKey ht.typeIs (by decide) ?_)
  refine wpAny_bind (wpAny_callSpecial?_slot (name := Str.ofString "__getitem__") ht.typeIs PyProof.Rows.slot_tuple_getitem
    (wpAny_call_entry PyProof.Rows.slot_tuple_getitem ht.typeIs entry_tuple_getitem ?_ (args_tuple_getitem _ _)))
  show wpAny _ _ (Builtin.Tuple.tupleItemsOf (.ref t) >>= _) _ _ s
  refine wpAny_bind (tupleItemsOf_ ht ?_)
  refine wpAny_bind (wpAny_typeOf hTs ?_)
  rw [if_pos (by decide)]
  refine wpAny_bind (sliceApplied_gen hs pl pu ?_)
  have hno : ¬ ((((sIx items.size 0 lo : Nat) : Int) == 0 && (1 : Int) == 1 && (sIx items.size items.size hi - sIx items.size 0 lo) == items.size) = true) := by
    intro q
    rw [Bool.and_eq_true, Bool.and_eq_true] at q
    have q1 : ((sIx items.size 0 lo : Nat) : Int) = 0 := eq_of_beq q.1.1
    have q2 : sIx items.size items.size hi - sIx items.size 0 lo = items.size := eq_of_beq q.2
    exact hw ⟨by omega, by omega⟩
  show wpAny _ _ (if (((sIx items.size 0 lo : Nat) : Int) == 0 && (1 : Int) == 1 && (sIx items.size items.size hi - sIx items.size 0 lo) == items.size) = true then _ else _) _ _ s
  rw [if_neg hno, pick_gen]
  first
    | exact wpAny_bind (m := Builtin.Tuple.tupleExact _) (wpAny_newObj_type (wpAny_pure ⟨_, rfl, wpAny_pure h⟩) htake)
    | exact wpAny_bind (m := Builtin.Tuple.tupleExact _) (wpAny_newObj_type (wpAny_bind (wpAny_pure (wpAny_pure ⟨_, rfl, wpAny_pure h⟩))) htake)
    | exact wpAny_bind (wpAny_bind (m := Builtin.Tuple.tupleExact _) (wpAny_newObj_type (wpAny_pure (wpAny_pure ⟨_, rfl, wpAny_pure h⟩)) htake))
    | exact wpAny_bind (wpAny_bind (m := Builtin.Tuple.tupleExact _) (wpAny_newObj_type (wpAny_pure ⟨_, rfl, wpAny_pure h⟩) htake))
end
end HT

namespace L2
open PySem PySem.Spec PyProof.Rows

/-! ### the parts of a slice -/
abbrev TO := St → Hp → (Option Int → Hp → Prop) → Prop
/-- a slice's part (left out, or an int) -/
def PO (X : Cx) (e : Option Expr) (t : TO) : Prop :=
  ∀ (pins : List (Addr × Obj)) (s : Shared) (σ : St) (H : Hp) (Q : Option Int → Hp → Prop), Inv X pins σ H s → t σ H Q →
    wpAny (model X.prog X.w) X.A (evalPart e X.env) (fun u s' => ∃ o H', Inv X pins σ H' s' ∧ IsPart u o ∧ Q o H') X.xe s
def tNoPart : TO := fun _ H Q => Q none H
def tPart (t : TE) : TO := fun σ H Q => t σ H fun x H1 => ∃ i, x = .int i ∧ Q (some i) H1

section
variable {X : Cx} {e : Expr} {te : TE} {lo hi : Option Expr} {tl th : TO} {pos p2 : Pos}

theorem po_none : PO X none tNoPart := by
  intro pins s σ H Q I h
  rw [evalPart_none]
  exact wpAny_pure ⟨none, H, I, .none, h⟩
theorem po_some (h : PE X e te) : PO X (some e) (tPart te) := by
  intro pins s σ H Q I hw
  rw [evalPart_some]
  refine thn (h pins s σ H _ I hw) fun u s1 ⟨x, H1, I1, r1, q1⟩ => ?_
  obtain ⟨i, rfl, q⟩ := q1
  obtain ⟨t, rfl⟩ := r1
  exact ⟨some i, H1, I1, .int i t, q⟩

/-- what a slice of a value is, by values: the slice object stands at sl -/
def SlR (X : Cx) (r : V → Option Int → Option Int → Hp → VK → Prop) : Prop :=
  ∀ (pins : List (Addr × Obj)) (s : Shared) (σ : St) (H : Hp) (x : V) (v vl vu : Value) (lo hi : Option Int) (sl : Addr) (Q : VK), Inv X pins σ H s → RelV x v → s.heap.IsSliceOf sl vl vu .none → IsPart vl lo → IsPart vu hi → r x lo hi H Q →
    ∃ T id, typeLookup (.type T) "__getitem__" = pure (some (.builtin id)) ∧ s.TypeIs v T ∧ wpAny (model X.prog X.w) X.A (getItem v (.ref sl)) (EP X pins σ Q) X.xe s
def tSl (r : V → Option Int → Option Int → Hp → VK → Prop) (te : TE) (tl th : TO) : TE := fun σ H Q => te σ H fun x H1 => tl σ H1 fun l H2 => th σ H2 fun u H3 => r x l u H3 Q
/-- a[lo:hi], any a -/
theorem pe_slice {r : V → Option Int → Option Int → Hp → VK → Prop} (hr : SlR X r) (he : PE X e te) (hl : PO X lo tl) (hu : PO X hi th) : PE X (.Subscript e (.Slice lo hi none p2) pos) (tSl r te tl th) := by
  intro pins s σ H Q I h
  refine Subscript_ (thn (he pins s σ H _ I h) fun v s1 ⟨x, H1, I1, r1, q1⟩ => ?_)
  refine wpAny_Slice (thn (hl pins s1 σ H1 _ I1 q1) fun vl s2 ⟨l, H2, I2, pl, q2⟩ => thn (hu pins s2 σ H2 _ I2 q2) fun vu s3 ⟨u, H3, I3, pu, q3⟩ => ?_)
  rw [evalPart_none]
  refine wpAny_pure ?_
  have I4 : Inv X pins σ H3 { s3 with heap := s3.heap.push { cls := .type "slice", data := .fields #[vl, vu, .none] } } := I3.kept (t' := s3.toks) fun b ob q => Heap.get?_push_of_some _ q
  obtain ⟨T, id, hT, ht, hg⟩ := hr pins { s3 with heap := s3.heap.push { cls := .type "slice", data := .fields #[vl, vu, .none] } } σ H3 x v vl vu l u s3.heap.objs.size Q I4 r1 (Heap.IsSliceOf.new ..) pl pu q3
  show wpAny (model X.prog X.w) X.A (subscriptTail e (.Slice lo hi none p2) v (.ref s3.heap.objs.size)) (EP X pins σ Q) X.xe { s3 with heap := s3.heap.push { cls := .type "slice", data := .fields #[vl, vu, .none] } }
  exact tail_any (ops := [.ref s3.heap.objs.size, v]) ht hT hg (by with_unfolding_all rfl)

/-- the items of xs[lo:hi] -/
def cutV (xs : List V) (lo hi : Option Int) : List V := (xs.drop (HT.sIx xs.length 0 lo)).take (HT.sIx xs.length xs.length hi - HT.sIx xs.length 0 lo)
theorem cutV_length (xs : List V) (lo hi : Option Int) : (cutV xs lo hi).length ≤ xs.length := by
  unfold cutV
  rw [List.length_take, List.length_drop]
  omega
/-- t[lo:hi], not the whole of it (the whole would be t itself) -/
def rSlT (K : PySem.W.Frag) : V → Option Int → Option Int → Hp → VK → Prop := fun x lo hi H Q => ∃ a xs, x = .ref a ∧ SqT K H a xs ∧
  ¬ (HT.sIx xs.length 0 lo = 0 ∧ HT.sIx xs.length xs.length hi = xs.length) ∧ ∀ p, H p = none → Q (.ref p) (upd H p (.tup (cutV xs lo hi)))
theorem sl_tup : SlR X (rSlT X.K) := by
  intro pins s σ H x v vl vu lo hi sl Q I rx hs pl pu h
  obtain ⟨a, xs, rfl, hx, hw, q⟩ := h
  cases rx
  obtain ⟨its, r, ht, hz⟩ := I.tuple hx
  have hlen : its.toArray.size = xs.length := by rw [List.size_toArray]; exact r.length.symm
  refine ⟨"tuple", _, PyProof.Rows.slot_tuple_getitem.lookup, ht.typeIs, ?_⟩
  refine HT.getItem_tuple_cut ht hs pl pu (by rw [hlen]; exact hw) ?_ (by rw [hlen]; exact hz)
  rw [hlen]
  refine ⟨.ref s.heap.objs.size, _, I.laid (t' := s.toks) (o := .tup (cutV xs lo hi)) (fun b ob q => Heap.get?_push_of_some _ q) (Nat.le_refl _) ?_, rfl, q _ (I.hok.fresh (Nat.le_refl _))⟩
  exact ⟨Nat.le_trans (cutV_length xs lo hi) hz, _, (r.drop (HT.sIx xs.length 0 lo)).take (HT.sIx xs.length xs.length hi - HT.sIx xs.length 0 lo), IsTup.new _ _, _, Heap.get?_push_size _ rfl, rfl⟩

/-! ### t < u, t + u -/
def rLtT (K : PySem.W.Frag) : R2 := fun x y H Q => ∃ a b ns ms, x = .ref a ∧ y = .ref b ∧ SqT K H a (ns.map V.int) ∧ SqT K H b (ms.map V.int) ∧ Q (.bl (HT.lexLt ns ms)) H
/-- t + u, t not empty: u empty gives t itself -/
def rCatT (K : PySem.W.Frag) : R2 := fun x y H Q => ∃ a b xs ys, x = .ref a ∧ y = .ref b ∧ SqT K H a xs ∧ SqT K H b ys ∧ xs ≠ [] ∧ xs.length + ys.length ≤ sizeLine ∧
  (ys = [] → Q (.ref a) H) ∧ (ys ≠ [] → ∀ p, H p = none → Q (.ref p) (upd H p (.tup (xs ++ ys))))
theorem Vals.nil_iff {xs : List V} {us : List Value} (r : Vals xs us) : us = [] ↔ xs = [] := by
  cases r with
  | nil => simp
  | cons _ _ => simp
theorem op_catT : OpR X (binaryOp .Add) (rCatT X.K) := by
  intro pins s σ H x y v u Q I rx ry h
  obtain ⟨a, b, xs, ys, rfl, rfl, ha, hb, hx, hz, q1, q2⟩ := h
  cases rx
  cases ry
  obtain ⟨its, r1, p1, _⟩ := I.tuple ha
  obtain ⟨its2, r2, p2, _⟩ := I.tuple hb
  refine HT.cat_tup p1 p2 (fun z => hx (r1.nil_iff.mp z)) (fun z => ⟨.ref a, H, I, rfl, q1 (r2.nil_iff.mp z)⟩) (fun z => ?_) (by rw [← r1.length, ← r2.length]; exact hz)
  refine ⟨.ref s.heap.objs.size, _, I.laid (t' := s.toks) (o := .tup (xs ++ ys)) (fun b ob q => Heap.get?_push_of_some _ q) (Nat.le_refl _) ?_, rfl, q2 (fun w => z (r2.nil_iff.mpr w)) _ (I.hok.fresh (Nat.le_refl _))⟩
  exact ⟨by rw [List.length_append]; exact hz, _, r1.append r2, IsTup.new _ _, _, Heap.get?_push_size _ rfl, rfl⟩
end
end L2

namespace L2
open PySem PySem.Spec PyProof.Rows

/-! ### places -/
/-- the place that an index of any sign means -/
def ixN (n : Nat) (i : Int) : Option Nat := if 0 ≤ i then (if i < n then some i.toNat else none) else if -(n : Int) ≤ i then some (i + n).toNat else none
def atI {α : Type} (xs : List α) (i : Int) : Option α := (ixN xs.length i).bind fun j => xs[j]?
theorem ixN_seq {n : Nat} {i : Int} {j : Nat} (h : ixN n i = some j) : seqIndex? i n = some j ∧ j < n ∧ -(n : Int) ≤ i ∧ i < n := by
  unfold ixN at h
  by_cases h0 : 0 ≤ i
  · rw [if_pos h0] at h
    by_cases h1 : i < n
    · rw [if_pos h1] at h
      have e : i.toNat = j := Option.some.inj h
      exact ⟨by rw [seqIndex_of h0 h1, e], by omega, by omega, h1⟩
    · rw [if_neg h1] at h; cases h
  · rw [if_neg h0] at h
    by_cases h1 : -(n : Int) ≤ i
    · rw [if_pos h1] at h
      have e : (i + n).toNat = j := Option.some.inj h
      exact ⟨by rw [seqIndex_neg (by omega) h1, e], by omega, h1, by omega⟩
    · rw [if_neg h1] at h; cases h
theorem atI_get {α : Type} {xs : List α} {i : Int} {v : α} (h : atI xs i = some v) : ∃ j, seqIndex? i xs.length = some j ∧ xs[j]? = some v ∧ j < xs.length ∧ -(xs.length : Int) ≤ i ∧ i < xs.length := by
  unfold atI at h
  cases e : ixN xs.length i with
  | none => rw [e] at h; cases h
  | some j =>
    rw [e] at h
    obtain ⟨h1, h2, h3, h4⟩ := ixN_seq e
    exact ⟨j, h1, h, h2, h3, h4⟩
theorem atI_nat {α : Type} {xs : List α} {j : Nat} {v : α} (h : xs[j]? = some v) : atI xs (j : Int) = some v := by
  have hj : j < xs.length := (List.getElem?_eq_some_iff.mp h).1
  have e : ixN xs.length (j : Int) = some j := by
    unfold ixN
    rw [if_pos (by omega), if_pos (by omega)]; simp
  unfold atI; rw [e]; exact h
/-! ### what may be subscripted -/
/-- what stands as an index of a plain subscript -/
def PlainIx (b : Expr) : Prop := ∀ o i, subscripted b false o i = operate [o, i] (getItem o i)
/-- a subscript by values -/
def IxR (X : Cx) (r : R2) : Prop :=
  ∀ (value slice : Expr) (pins : List (Addr × Obj)) (s : Shared) (σ : St) (H : Hp) (x y : V) (v u : Value) (Q : VK), Inv X pins σ H s → RelV x v → RelV y u → r x y H Q →
    subscripted slice false v u = operate [v, u] (getItem v u) → wpAny (model X.prog X.w) X.A (subscriptTail value slice v u) (EP X pins σ Q) X.xe s
/-- a call of a builtin's method by values: the receiver, the arguments -/
def MtR (X : Cx) (id : String) (r : V → List V → Hp → VK → Prop) : Prop :=
  ∀ (pins : List (Addr × Obj)) (s : Shared) (σ : St) (H : Hp) (x : V) (xs : List V) (v : Value) (us : List Value) (Q : VK), Inv X pins σ H s → RelV x v → Vals xs us → r x xs H Q →
    wpAny (model X.prog X.w) X.A (call (.builtin id) (v :: us)) (EP X pins σ Q) X.xe s
section
variable {X : Cx} {a b : Expr} {ta tb : TE} {pos : Pos}
/-- a[b] -/
theorem pe_ix {r : R2} (hr : IxR X r) (ha : PE X a ta) (hb : PE X b tb) (hs : PlainIx b) : PE X (.Subscript a b pos) (tOp r ta tb) := by
  intro pins s σ H Q I h
  exact Subscript_ (binT ha hb I h fun v u s2 x y H2 I2 rx ry q => hr a b pins s2 σ H2 x y v u Q I2 rx ry q (hs _ _))

def rIxL (K : PySem.W.Frag) : R2 := fun x y H Q => ∃ p xs i v, x = .ref p ∧ y = .int i ∧ SqL K H p xs ∧ atI xs i = some v ∧ Q v H
def rIxT (K : PySem.W.Frag) : R2 := fun x y H Q => ∃ p xs i v, x = .ref p ∧ y = .int i ∧ SqT K H p xs ∧ atI xs i = some v ∧ Q v H
def rIxS : R2 := fun x y H Q => ∃ z i c, x = .str z ∧ y = .int i ∧ z.length ≤ sizeLine ∧ atI z.cps.toList i = some c ∧ Q (.str ⟨#[c]⟩) H
theorem ix_list : IxR X (rIxL X.K) := by
  intro value slice pins s σ H x y v u Q I rx ry h hs
  obtain ⟨p, xs, i, z, rfl, rfl, hq, he, q⟩ := h
  cases rx
  obtain ⟨t, rfl⟩ := ry
  obtain ⟨its, r, pl, hz⟩ := I.list hq
  obtain ⟨j, h1, h2, h3, h4, h5⟩ := atI_get he
  obtain ⟨w, ew, rw'⟩ := r.get h2
  have hl := r.length
  have hn := line63
  have fin : EP X pins σ Q w s := ⟨z, H, I, rw', q⟩
  by_cases h0 : 0 ≤ i
  · have hj : i.toNat = j := by
      rw [seqIndex_of h0 h5] at h1
      exact Option.some.inj h1
    exact item_listR pl.isList h0 (by omega) (by rw [hj]; simpa using ew) fin hs
  · have hj : (i + (its.toArray.size : Int)).toNat = j := by
      rw [seqIndex_neg (by omega) h4] at h1
      rw [List.size_toArray, ← hl]
      exact Option.some.inj h1
    exact subscriptTail_builtinR (x := w) pl.isList.typeIs slot_list_getitem.lookup
      (wpAny_getItem_list_neg (Q := fun r s' => r = w ∧ EP X pins σ Q r s') pl.isList (by omega) (by rw [List.size_toArray] <;> omega) (by omega) (by rw [hj]; simpa using ew) ⟨rfl, fin⟩) hs
theorem ix_tup : IxR X (rIxT X.K) := by
  intro value slice pins s σ H x y v u Q I rx ry h hs
  obtain ⟨p, xs, i, z, rfl, rfl, hq, he, q⟩ := h
  cases rx
  obtain ⟨t, rfl⟩ := ry
  obtain ⟨its, r, pl, hz⟩ := I.tuple hq
  obtain ⟨j, h1, h2, h3, h4, h5⟩ := atI_get he
  obtain ⟨w, ew, rw'⟩ := r.get h2
  have hl := r.length
  have hn := line63
  have fin : EP X pins σ Q w s := ⟨z, H, I, rw', q⟩
  exact subscriptTail_builtinR (x := w) pl.typeIs slot_tuple_getitem.lookup
    (getItem_tuple (j := j) (Q := fun r s' => r = w ∧ EP X pins σ Q r s') pl (by omega) (by omega) (by rw [List.size_toArray, ← hl]; exact h1) (by simpa using ew) ⟨rfl, fin⟩) hs
theorem ix_str : IxR X rIxS := by
  intro value slice pins s σ H x y v u Q I rx ry h hs
  obtain ⟨z, i, c, rfl, rfl, hz, he, q⟩ := h
  obtain ⟨t, rfl⟩ := rx
  obtain ⟨t', rfl⟩ := ry
  obtain ⟨j, h1, h2, h3, h4, h5⟩ := atI_get he
  have hl : z.cps.toList.length = z.length := by simp [Str.length]
  rw [hl] at h1 h4 h5
  have hn := line63
  exact tail_any (typeIs_str s z t) slot_str_getitem.lookup (getItem_str (c := c) (by
    have e1 : decide (i < -(2 ^ 63 : Int)) = false := decide_eq_false (by omega)
    have e2 : decide (i ≥ 2 ^ 63) = false := decide_eq_false (by omega)
    rw [e1, e2, Bool.or_false]) (by rw [h1]; simpa using h2) ⟨.str ⟨#[c]⟩, H, I.tok _, ⟨_, rfl⟩, q⟩) hs
/-- list, tuple or str -/
def rIx (K : PySem.W.Frag) : R2 := fun x y H Q => rIxL K x y H Q ∨ rIxT K x y H Q ∨ rIxS x y H Q
/-! ### xs[i] = v, any sign -/
/-- the list's object behind a store -/
theorem mapSeq_set (its : List Value) (n j : Nat) (u : Value) : Obj.mapSeq (·.setIfInBounds j u) { cls := .type "list", data := .seq its.toArray n } = { cls := .type "list", data := .seq (its.set j u).toArray n } := by
  simp [Obj.mapSeq]
theorem Inv.lst {pins : List (Addr × Obj)} {σ : St} {H : Hp} {s : Shared} {p : Addr} {xs : List V} (I : Inv X pins σ H s) (h : H p = some (.lst xs)) :
    ∃ (its : List Value) (n : Nat), Vals xs its ∧ s.heap.get? p = some { cls := .type "list", data := .seq its.toArray n } ∧ xs.length ≤ sizeLine := by
  obtain ⟨z, its, n, r, e⟩ := I.hok p _ h
  exact ⟨its, n, r, e, z⟩
/-- the list at p is written by an update of its object -/
theorem Inv.lstUpd {pins : List (Addr × Obj)} {σ : St} {H : Hp} {s : Shared} {p : Addr} {xs ys : List V} {its its' : List Value} {n n' : Nat} {f : Obj → Obj} (I : Inv X pins σ H s) (h : H p = some (.lst xs))
    (ho : s.heap.get? p = some { cls := .type "list", data := .seq its.toArray n }) (hf : f { cls := .type "list", data := .seq its.toArray n } = { cls := .type "list", data := .seq its'.toArray n' }) (r : Vals ys its') (hz : ys.length ≤ sizeLine) (t : Nat) :
    Inv X pins σ (upd H p (.lst ys)) { s with heap := s.heap.update p f, toks := t } := by
  have e : (s.heap.update p f).get? p = some { cls := .type "list", data := .seq its'.toArray n' } := by
    rw [Heap.get?_update_self f ho (by rw [hf] <;> rfl), hf]
  refine I.write (x := p) (e := p) (by rw [h]; trivial) (.inl rfl) (fun b u hb q => (Heap.get?_update_other _ _ (Ne.symm hb)).trans q) ⟨_, e⟩ ?_
  exact ⟨hz, its', n', r, e⟩
def rSetL : V → V → V → Hp → (Hp → Prop) → Prop := fun o i v H Q => ∃ p xs k j, o = .ref p ∧ i = .int k ∧ H p = some (.lst xs) ∧ ixN xs.length k = some j ∧ Q (upd H p (.lst (xs.set j v)))
theorem set_list : PSet X rSetL := by
  intro pins s σ H o i v ov iv u Q I ro ri rv h
  obtain ⟨p, xs, k, j, rfl, rfl, hp, hj, q⟩ := h
  cases ro
  obtain ⟨t, rfl⟩ := ri
  obtain ⟨its, n, r, ho, hz⟩ := I.lst hp
  obtain ⟨h1, h2, h3, h4⟩ := ixN_seq hj
  have hl := r.length
  have hn := line63
  have I' : Inv X pins σ (upd H p (.lst (xs.set j v))) { s with heap := s.heap.update p (Obj.mapSeq (·.setIfInBounds j u)) } :=
    I.lstUpd hp ho (mapSeq_set its n j u) (r.set rv j) (by rw [List.length_set]; exact hz) s.toks
  by_cases h0 : 0 ≤ k
  · have hk : k.toNat = j := by
      rw [seqIndex_of h0 h4] at h1
      exact Option.some.inj h1
    exact PySem.W.ki_setAt ho h0 (by omega) (by rw [List.size_toArray, ← hl]; exact h4) (by rw [hk]; exact ⟨_, I', q⟩)
  · have hk : (k + (its.toArray.size : Int)).toNat = j := by
      rw [seqIndex_neg (by omega) h3] at h1
      rw [List.size_toArray, ← hl]
      exact Option.some.inj h1
    exact PySem.W.ki_setBack ho (by omega) (by rw [List.size_toArray, ← hl]; exact h3) (by omega) (by rw [hk]; exact ⟨_, I', q⟩)

/-! ### slices -/
/-- xs[lo:hi] of a list: a new list -/
def rSlL (K : PySem.W.Frag) : V → Option Int → Option Int → Hp → VK → Prop := fun x lo hi H Q => ∃ a xs, x = .ref a ∧ SqL K H a xs ∧ ∀ p, H p = none → Q (.ref p) (upd H p (.lst (cutV xs lo hi)))
/-! ### in, not in: flat items -/
def flatV : V → Bool
  | .non => true
  | .bl _ => true
  | .int _ => true
  | .str _ => true
  | _ => false
/-- == of flat values -/
def eqV : V → V → Bool
  | .non, .non => true
  | .bl a, .bl b => a == b
  | .bl a, .int b => (if a then 1 else 0) == b
  | .int a, .bl b => a == (if b then 1 else 0)
  | .int a, .int b => a == b
  | .str a, .str b => a == b
  | _, _ => false
theorem eqAt_V {A : Around} {s : Shared} {y x : V} {u v : Value} (ry : RelV y u) (rx : RelV x v) (fy : flatV y = true) (fx : flatV x = true) : SeqAt.EqAt A s u v (eqV y x) := by
  cases y with
  | non =>
    cases ry
    cases x with
    | non => cases rx; exact SeqAt.EqAt.same _
    | bl b => cases rx; exact SeqAt.EqAt.none_bool b
    | int b => obtain ⟨t, rfl⟩ := rx; exact SeqAt.EqAt.none_int b t
    | str b => obtain ⟨t, rfl⟩ := rx; exact SeqAt.EqAt.none_str b t
    | _ => exact absurd (show false = true from fx) Bool.false_ne_true
  | bl a =>
    cases ry
    cases x with
    | non => cases rx; exact SeqAt.EqAt.bool_none a
    | bl b => cases rx; exact SeqAt.EqAt.bool_bool a b
    | int b => obtain ⟨t, rfl⟩ := rx; exact SeqAt.EqAt.bool_int a b t
    | str b => obtain ⟨t, rfl⟩ := rx; exact SeqAt.EqAt.bool_str a b t
    | _ => exact absurd (show false = true from fx) Bool.false_ne_true
  | int a =>
    obtain ⟨t', rfl⟩ := ry
    cases x with
    | non => cases rx; exact SeqAt.EqAt.int_none a t'
    | bl b => cases rx; exact SeqAt.EqAt.int_bool a t' b
    | int b => obtain ⟨t, rfl⟩ := rx; exact SeqAt.EqAt.int_int a t' b t
    | str b => obtain ⟨t, rfl⟩ := rx; exact SeqAt.EqAt.int_str a t' b t
    | _ => exact absurd (show false = true from fx) Bool.false_ne_true
  | str a =>
    obtain ⟨t', rfl⟩ := ry
    cases x with
    | non => cases rx; exact SeqAt.EqAt.str_none a t'
    | bl b => cases rx; exact SeqAt.EqAt.str_bool a t' b
    | int b => obtain ⟨t, rfl⟩ := rx; exact SeqAt.EqAt.str_int a t' b t
    | str b => obtain ⟨t, rfl⟩ := rx; exact SeqAt.EqAt.str_str a t' b t
    | _ => exact absurd (show false = true from fx) Bool.false_ne_true
  | _ => exact absurd (show false = true from fy) Bool.false_ne_true
/-- the items' answers, read off the values (a value's own answer does not lean on its token) -/
def eqU (x : V) (u : Value) : Bool := match u with
  | .none => eqV .non x
  | .bool b => eqV (.bl b) x
  | .int i _ => eqV (.int i) x
  | .str z _ => eqV (.str z) x
  | _ => false
theorem eqU_of {x y : V} {u : Value} (r : RelV y u) (f : flatV y = true) : eqU x u = eqV y x := by
  cases y with
  | non => cases r; rfl
  | bl b => cases r; rfl
  | int i => obtain ⟨t, rfl⟩ := r; rfl
  | str z => obtain ⟨t, rfl⟩ := r; rfl
  | _ => exact absurd (show false = true from f) Bool.false_ne_true
theorem any_eqU {x : V} : ∀ {xs : List V} {us : List Value}, Vals xs us → xs.all flatV = true → us.any (eqU x) = xs.any fun y => eqV y x
  | _, _, .nil, _ => rfl
  | y :: xs, u :: us, .cons r t, f => by
    rw [List.all_cons, Bool.and_eq_true] at f
    rw [List.any_cons, List.any_cons, eqU_of r f.1, any_eqU t f.2]
theorem mem_eqAt {A : Around} {s : Shared} {x : V} {v : Value} (rx : RelV x v) (fx : flatV x = true) : ∀ {xs : List V} {us : List Value}, Vals xs us → xs.all flatV = true → ∀ u ∈ us, SeqAt.EqAt A s u v (eqU x u)
  | _, _, .nil, _ => fun u hu => by cases hu
  | y :: xs, u :: us, .cons r t, f => fun u' hu => by
    rw [List.all_cons, Bool.and_eq_true] at f
    rcases List.mem_cons.mp hu with rfl | hu
    · rw [eqU_of r f.1]; exact eqAt_V r rx f.1 fx
    · exact mem_eqAt rx fx t f.2 u' hu
def inV (x : V) (xs : List V) : Bool := xs.any fun y => eqV y x
/-- x in a list or tuple of flat items -/
def rIn (K : PySem.W.Frag) (neg : Bool) : R2 := fun x y H Q => ∃ p xs, y = .ref p ∧ (SqL K H p xs ∨ SqT K H p xs) ∧ flatV x = true ∧ xs.all flatV = true ∧ Q (.bl (if neg then !inV x xs else inV x xs)) H
theorem op_in_seq : OpR X (compareOp .In) (rIn X.K false) := by
  intro pins s σ H x y v u Q I rx ry h
  obtain ⟨p, xs, rfl, hq, fx, fs, q⟩ := h
  cases ry
  rcases hq with hq | hq
  · obtain ⟨its, r, pl, hz⟩ := I.list hq
    refine SeqAt.in_listAt (eqU x) pl.isList (fun w hw => mem_eqAt rx fx r fs w (by simpa using hw)) ⟨.bl _, H, I, rfl, ?_⟩
    rw [show its.toArray.any (eqU x) = its.any (eqU x) by simp, any_eqU r fs]
    exact q
  · obtain ⟨its, r, pl, hz⟩ := I.tuple hq
    refine SeqAt.in_tupleAt (eqU x) pl (fun w hw => mem_eqAt rx fx r fs w (by simpa using hw)) ⟨.bl _, H, I, rfl, ?_⟩
    rw [show its.toArray.any (eqU x) = its.any (eqU x) by simp, any_eqU r fs]
    exact q
theorem op_notIn_str : OpR X (compareOp .NotIn) (fun x y H Q => ∃ i j, x = .str i ∧ y = .str j ∧ Q (.bl (!(!(Builtin.Str.occurrences j i 0 j.length 1).isEmpty))) H) := by
  intro pins s σ H x y v u Q I rx ry h
  obtain ⟨i, j, rfl, rfl, q⟩ := h
  obtain ⟨t, rfl⟩ := rx
  obtain ⟨t', rfl⟩ := ry
  exact notIn_str ⟨.bl _, H, I, rfl, q⟩

/-! ### len, list(x), tuple(x) of any list or tuple that is read -/
theorem call_len_seq : CallR X (.builtin "len") (fun xs H Q => ∃ p ys, xs = [.ref p] ∧ (SqL X.K H p ys ∨ SqT X.K H p ys) ∧ Q (.int ys.length) H) := by
  intro pins s σ H xs us Q I r h
  obtain ⟨p, ys, rfl, hq, q⟩ := h
  obtain ⟨u, rfl, rx⟩ := vals1 r
  cases rx
  have hn := line63
  rcases hq with hq | hq
  · obtain ⟨its, r', pl, hz⟩ := I.list hq
    have hlen := r'.length
    exact Calls.call_len_list pl.isList (by simp only [List.size_toArray] <;> omega) ⟨.int ys.length, H, I.tok _, ⟨s.toks + 1, by rw [List.size_toArray, hlen]⟩, q⟩
  · obtain ⟨its, r', pl, hz⟩ := I.tuple hq
    have hlen := r'.length
    exact len_tuple pl (by simp only [List.size_toArray] <;> omega) ⟨.int ys.length, H, I.tok _, ⟨s.toks + 1, by rw [List.size_toArray, hlen]⟩, q⟩
theorem call_len_str : CallR X (.builtin "len") (fun xs H Q => ∃ z, xs = [.str z] ∧ z.length ≤ sizeLine ∧ Q (.int z.length) H) := by
  intro pins s σ H xs us Q I r h
  obtain ⟨z, rfl, hz, q⟩ := h
  obtain ⟨u, rfl, t, rfl⟩ := vals1 r
  have hn := line63
  exact len_str (by omega) ⟨.int z.length, H, I.tok _, ⟨_, rfl⟩, q⟩
theorem call_tuple_of : CallR X (.type "tuple") (fun xs H Q => ∃ p ys, xs = [.ref p] ∧ ((SqL X.K H p ys ∧ ∀ l, H l = none → Q (.ref l) (upd H l (.tup ys))) ∨ (SqT X.K H p ys ∧ Q (.ref p) H))) := by
  intro pins s σ H xs us Q I r h
  obtain ⟨p, ys, rfl, h⟩ := h
  obtain ⟨u, rfl, rx⟩ := vals1 r
  cases rx
  rcases h with ⟨hq, q⟩ | ⟨hq, q⟩
  · obtain ⟨its, r', pl, hz⟩ := I.list hq
    have hlen := r'.length
    refine call_tuple_list pl.isList (fun h' kp => ?_) (by simp only [List.size_toArray] <;> omega)
    have I1 : Inv X pins σ H { s with heap := h' } := I.kept (t' := s.toks) kp
    have I2 : Inv X pins σ (upd H h'.objs.size (.tup ys)) { s with heap := h'.push { cls := .type "tuple", data := .seq its.toArray } } :=
      I1.laid (t' := s.toks) (fun b o e => Heap.get?_push_of_some _ e) (Nat.le_refl _) (show ObjOk X.prog X.w _ _ _ (.tup ys) from ⟨hz, its, r', IsTup.new _ _, _, Heap.get?_push_size _ rfl, rfl⟩)
    exact ⟨.ref h'.objs.size, _, I2, rfl, q _ (I1.hok.fresh (Nat.le_refl _))⟩
  · obtain ⟨its, r', pl, hz⟩ := I.tuple hq
    exact call_tuple_same pl ⟨.ref p, H, I, rfl, q⟩

/-! ### the call of a builtin's method: o.m(..) -/
/-- the value is of that builtin type -/
def tyV (K : PySem.W.Frag) (T : String) (x : V) (H : Hp) : Prop := match x with
  | .str _ => T = "str"
  | .int _ => T = "int"
  | .ref p => (T = "list" ∧ ∃ xs, SqL K H p xs) ∨ (T = "tuple" ∧ ∃ o, K.lookup p = some o ∧ o.cls = .type "tuple" ∧ o.dict = none) ∨
      (T = "dict" ∧ ((∃ kvs, H p = some (.dK kvs)) ∨ ∃ kvs, H p = some (.dT kvs))) ∨ (T = "set" ∧ ∃ S n, H p = some (.set S n))
  | _ => False
theorem tyV_is {pins : List (Addr × Obj)} {σ : St} {H : Hp} {s : Shared} {T : String} {x : V} {v : Value} (I : Inv X pins σ H s) (r : RelV x v) (ty : tyV X.K T x H) :
    s.TypeIs v T ∧ ∀ a, v = .ref a → ∃ ob, s.heap.get? a = some ob ∧ ob.dict = none := by
  cases x with
  | str z =>
    obtain ⟨t, rfl⟩ := r
    cases (show T = "str" from ty)
    exact ⟨typeIs_str s z t, fun _ e => nomatch e⟩
  | int i =>
    obtain ⟨t, rfl⟩ := r
    cases (show T = "int" from ty)
    exact ⟨typeIs_int s i t, fun _ e => nomatch e⟩
  | ref p =>
    cases r
    rcases ty with ⟨rfl, xs, hq⟩ | ⟨rfl, o, hk, hc, hd⟩ | ⟨rfl, hk⟩ | ⟨rfl, S, n, hk⟩
    · obtain ⟨its, _, pl, _⟩ := I.list hq
      refine ⟨pl.isList.typeIs, fun a e => ?_⟩
      cases e
      obtain ⟨o, n, e, c, hd, _⟩ := pl
      exact ⟨o, e, hd⟩
    · refine ⟨⟨o, I.kIn p o hk, hc⟩, fun a e => ?_⟩
      cases e
      exact ⟨o, I.kIn _ o hk, hd⟩
    · have z : ∃ o, s.heap.get? p = some o ∧ o.ExactDict := by
        rcases hk with ⟨kvs, hk⟩ | ⟨kvs, hk⟩
        · obtain ⟨_, _, _, _, o, _, _, e, ex, _⟩ := I.hok p _ hk
          exact ⟨o, e, ex⟩
        · obtain ⟨_, _, _, _, o, _, _, e, ex, _⟩ := I.hok p _ hk
          exact ⟨o, e, ex⟩
      obtain ⟨o, e, ex⟩ := z
      refine ⟨⟨o, e, ex.1⟩, fun a e2 => ?_⟩
      cases e2
      exact ⟨o, e, ex.2.1⟩
    · obtain ⟨o, _, _, _, e, ex, _⟩ := I.hok p _ hk
      refine ⟨⟨o, e, ex.1⟩, fun a e2 => ?_⟩
      cases e2
      exact ⟨o, e, ex.2.1⟩
  | _ => exact False.elim ty
def tBM0 (K : PySem.W.Frag) (T : String) (r : V → List V → Hp → VK → Prop) (to : TE) : TE := fun σ H Q => to σ H fun x H1 => tyV K T x H1 ∧ r x [] H1 Q
def tBM (K : PySem.W.Frag) (T : String) (r : V → List V → Hp → VK → Prop) (to : TE) (t : TA) : TE := fun σ H Q => to σ H fun x H1 => tyV K T x H1 ∧ t σ H1 fun xs H2 => r x xs H2 Q
variable {o e : Expr} {es : List Expr} {to : TE} {t : TA} {name : Str} {apos cpos : Pos} {T id : String} {r : V → List V → Hp → VK → Prop}
theorem pe_bm0 (pa : PlainAttrs T) (slot : Slot T name id) (hty : typeOf (.builtin id) = pure (.type "method_descriptor")) (hm : MtR X id r) (ho : PE X o to)
    (hbase : attributeBase o name X.env (eval o X.env) = eval o X.env := by rfl) (hline : (apos.endLine == cpos.line) = true := by rfl) : PE X (.Call (.Attribute o name apos) [] [] cpos) (tBM0 X.K T r to) := by
  intro pins s σ H Q I h
  refine wpAny_Call_method0_late hbase hline (thn (ho pins s σ H _ I h) fun v s1 ⟨x, H1, I1, r1, ty, q1⟩ => ?_)
  obtain ⟨h1, h2⟩ := tyV_is I1 r1 ty
  exact ⟨T, id, pa, slot, hty, h1, h2, Calls.callWith_builtin rfl (PySem.evalArgs_none (hm pins s1 σ H1 x [] v [] Q I1 r1 .nil q1))⟩
theorem pe_bm (pa : PlainAttrs T) (slot : Slot T name id) (hty : typeOf (.builtin id) = pure (.type "method_descriptor")) (hm : MtR X id r) (ho : PE X o to) (ha : PA X (e :: es) t)
    (hbase : attributeBase o name X.env (eval o X.env) = eval o X.env := by rfl)
    (hfew : ((backTo cpos (starEach (e :: es) X.env)).all (fun x => !x.1) && (backToKw cpos (keywordEach [] X.env)).all (fun x => x.1.isSome)
      && decide ((e :: es).length + ([] : List Keyword).length + (if ([] : List Keyword).isEmpty then 0 else 1) < 30)) = true := by rfl)
    (hline : (apos.endLine == cpos.line) = true := by rfl) (hs : starEach (e :: es) X.env = (false, eval e X.env) :: starEach es X.env := by rfl) (hplain : (backTo cpos (starEach es X.env)).any (·.1) = false := by rfl) :
    PE X (.Call (.Attribute o name apos) (e :: es) [] cpos) (tBM X.K T r to t) := by
  intro pins s σ H Q I h
  refine wpAny_Call_method_late hbase hfew hline rfl (thn (ho pins s σ H _ I h) fun v s1 ⟨x, H1, I1, r1, ty, q1⟩ => ?_)
  obtain ⟨h1, h2⟩ := tyV_is I1 r1 ty
  refine ⟨T, id, pa, slot, hty, h1, h2, ?_⟩
  have hA := ha cpos pins s1 σ H1 _ I1 q1
  rw [hs] at hA ⊢
  refine Calls.callWith_builtin (by show (false || (backTo cpos (starEach es X.env)).any (·.1)) = false; rw [hplain] <;> rfl) (Calls.evalArgs_plain ?_)
  exact thn hA fun us s2 ⟨vs, H2, I2, r2, q2⟩ => hm pins s2 σ H2 x vs v us Q I2 r1 r2 q2
/- xs.append(e), list.index on a module's tuple .. are MtR facts of 06m -/
end
end L2

namespace L2
open PySem PySem.Spec PyProof.Rows

def MtM (X : Cx) (id : String) (r : V → List V → Hp → VK → Prop) : Prop :=
  ∀ (pins : List (Addr × Obj)) (s : Shared) (σ : St) (H : Hp) (x : V) (xs : List V) (v : Value) (us : List Value) (Q : VK), Inv X pins σ H s → RelV x v → Vals xs us → r x xs H Q →
    wpAny (model X.prog X.w) X.A (call (.builtin id) (v :: us)) (EP X pins σ Q) X.xe s

/-! ### lists of values -/
theorem Vals.one : ∀ {x : V} {us : List Value}, Vals [x] us → ∃ u, us = [u] ∧ RelV x u
  | _, _, .cons r .nil => ⟨_, rfl, r⟩
theorem Vals.zero : ∀ {us : List Value}, Vals [] us → us = []
  | _, .nil => rfl
theorem Vals.dropLast {xs : List V} {us : List Value} (h : Vals xs us) : Vals xs.dropLast us.dropLast := by
  induction h with
  | nil => exact .nil
  | cons r t ih =>
    cases t with
    | nil => exact .nil
    | cons q t' => exact .cons r ih
theorem erase_last {α : Type} (l : List α) : l.eraseIdx (l.length - 1) = l.dropLast := by
  induction l with
  | nil => rfl
  | cons a r ih =>
    cases r with
    | nil => rfl
    | cons b r =>
      have e : (a :: b :: r).length - 1 = ((b :: r).length - 1) + 1 := by
        have h1 : (a :: b :: r).length = r.length + 2 := rfl
        have h2 : (b :: r).length = r.length + 1 := rfl
        omega
      rw [e, List.eraseIdx_cons_succ, ih]
      all_goals rfl
section
variable {X : Cx} {pins : List (Addr × Obj)} {σ : St} {H : Hp} {s : Shared} {l b : Addr} {xs ys zs : List V}

/-! ### the two steps: a tracked list is rewritten, a new list is laid -/
theorem Inv.lset {its its' : List Value} {n : Nat} {f : Array Value → Array Value} {t' : Nat} (I : Inv X pins σ H s) (hH : H l = some (.lst xs))
    (e : s.heap.get? l = some { cls := .type "list", data := .seq its.toArray n }) (hf : f its.toArray = its'.toArray) (hv : Vals ys its') (hz : ys.length ≤ sizeLine) :
    Inv X pins σ (upd H l (.lst ys)) { s with heap := s.heap.update l (Obj.mapSeq f), toks := t' } := by
  have q := PySem.IsL.update e f
  rw [hf] at q
  refine I.write (x := l) (e := l) (by rw [hH]; exact trivial) (.inl rfl) (fun b' u hb hu => (Heap.get?_update_other s.heap (Obj.mapSeq f) (Ne.symm hb)).trans hu) ⟨_, q⟩ ?_
  exact ⟨hz, its', _, hv, q⟩
theorem Inv.lnew {its : List Value} {t' : Nat} (I : Inv X pins σ H s) (hv : Vals ys its) (hz : ys.length ≤ sizeLine) :
    Inv X pins σ (upd H s.heap.objs.size (.lst ys)) { s with heap := s.heap.push { cls := .type "list", data := .seq its.toArray }, toks := t' } :=
  I.laid (fun _ _ q => Heap.get?_push_of_some _ q) (Nat.le_refl _) ⟨hz, its, 0, hv, Heap.get?_push_size _ rfl⟩
theorem Inv.fresh (I : Inv X pins σ H s) : H s.heap.objs.size = none := I.hok.fresh (Nat.le_refl _)
theorem Inv.lstM (I : Inv X pins σ H s) (hH : H l = some (.lst xs)) : xs.length ≤ sizeLine ∧ ∃ (its : List Value) (n : Nat), Vals xs its ∧ xs.length = its.length ∧ s.heap.get? l = some { cls := .type "list", data := .seq its.toArray n } := by
  obtain ⟨z, its, n, r, e⟩ := I.hok l _ hH
  exact ⟨z, its, n, r, r.length, e⟩

end

section
variable {X : Cx}

/-! ### methods -/
def rAppend : V → List V → Hp → VK → Prop := fun x vs H Q => ∃ l xs y, x = .ref l ∧ vs = [y] ∧ H l = some (.lst xs) ∧ xs.length < sizeLine ∧ Q .non (upd H l (.lst (xs ++ [y])))
theorem mt_append : MtM X "list.append" rAppend := by
  intro pins s σ H x vs v us Q I rx rv h
  obtain ⟨l, xs, y, rfl, rfl, hH, hz, q⟩ := h
  cases rx
  obtain ⟨u, rfl, ru⟩ := rv.one
  obtain ⟨z, its, n, r, hl, e⟩ := I.lstM hH
  refine call_meets F.slot_list_append ⟨_, e, rfl⟩ F.entry_list_append (F.args_list_append_2 _ _) (PySem.list_append l its.toArray n u (by rw [List.size_toArray]; omega)) ⟨e, ?_⟩
  refine ⟨.non, _, I.lset (its' := its ++ [u]) hH e (by simp) (r.append (.cons ru .nil)) ?_, rfl, q⟩
  rw [List.length_append, List.length_singleton]
  omega

def rExtend : V → List V → Hp → VK → Prop := fun x vs H Q => ∃ l b xs zs, x = .ref l ∧ vs = [.ref b] ∧ H l = some (.lst xs) ∧ H b = some (.lst zs) ∧ xs.length + zs.length ≤ sizeLine ∧ Q .non (upd H l (.lst (xs ++ zs)))
def rPop : V → List V → Hp → VK → Prop := fun x vs H Q => ∃ l xs y, x = .ref l ∧ vs = [] ∧ H l = some (.lst xs) ∧ xs[xs.length - 1]? = some y ∧ Q y (upd H l (.lst xs.dropLast))
theorem mt_pop : MtM X "list.pop" rPop := by
  intro pins s σ H x vs v us Q I rx rv h
  obtain ⟨l, xs, y, rfl, rfl, hH, hy, q⟩ := h
  cases rx
  have hus := rv.zero
  subst hus
  obtain ⟨z, its, n, r, hl, e⟩ := I.lstM hH
  obtain ⟨u, hu, ru⟩ := r.get hy
  have hy' : its.toArray[its.toArray.size - 1]? = some u := by
    show its.toArray[its.length - 1]? = some u
    rw [← Array.getElem?_toList, ← hl]
    exact hu
  refine call_meets F.slot_list_pop ⟨_, e, rfl⟩ F.entry_list_pop (F.args_list_pop_1 _) (MeetsSeq.list_pop_last l its.toArray n u hy' (by rw [List.size_toArray]; omega)) ⟨e, ?_⟩
  refine ⟨y, _, I.lset (its' := its.dropLast) hH e ?_ r.dropLast ?_, ru, q⟩
  · show its.toArray.eraseIdxIfInBounds (its.toArray.size - 1) = its.dropLast.toArray
    rw [List.size_toArray, List.eraseIdxIfInBounds_toArray, erase_last]
  · rw [List.length_dropLast]
    omega

def rPopAt : V → List V → Hp → VK → Prop := fun x vs H Q => ∃ l xs i k y, x = .ref l ∧ vs = [.int i] ∧ H l = some (.lst xs) ∧ -(2 ^ 63) ≤ i ∧ i < 2 ^ 63 ∧ seqIndex? i xs.length = some k ∧ xs[k]? = some y ∧ Q y (upd H l (.lst (xs.eraseIdx k)))
def rReverse : V → List V → Hp → VK → Prop := fun x vs H Q => ∃ l xs, x = .ref l ∧ vs = [] ∧ H l = some (.lst xs) ∧ Q .non (upd H l (.lst xs.reverse))
def rClear : V → List V → Hp → VK → Prop := fun x vs H Q => ∃ l xs, x = .ref l ∧ vs = [] ∧ H l = some (.lst xs) ∧ Q .non (upd H l (.lst []))
/-! ### list + list, list += list, list * int -/
def rCat : R2 := fun x y H Q => ∃ l b xs zs, x = .ref l ∧ y = .ref b ∧ H l = some (.lst xs) ∧ H b = some (.lst zs) ∧ xs.length + zs.length ≤ sizeLine ∧ ∀ p, H p = none → Q (.ref p) (upd H p (.lst (xs ++ zs)))
theorem op_cat : OpR X (binaryOp .Add) rCat := by
  intro pins s σ H x y v u Q I rx ry h
  obtain ⟨l, b, xs, zs, rfl, rfl, hH, hB, hz, q⟩ := h
  cases rx
  cases ry
  obtain ⟨z, its, n, r, hl, e⟩ := I.lstM hH
  obtain ⟨z2, its2, n2, r2, hl2, e2⟩ := I.lstM hB
  refine PySem.P.add_list e e2 ?_ (by rw [List.size_toArray, List.size_toArray]; omega)
  have ea : its.toArray ++ its2.toArray = (its ++ its2).toArray := by simp
  rw [ea]
  exact ⟨.ref _, _, I.lnew (t' := s.toks) (r.append r2) (by rw [List.length_append]; omega), rfl, q _ I.fresh⟩
/-- a list times an int (a negative one is nothing) -/
def rRep : R2 := fun x y H Q => ∃ l k xs, x = .ref l ∧ y = .int k ∧ H l = some (.lst xs) ∧ -(2 ^ 63) ≤ k ∧ k < 2 ^ 63 ∧ xs.length * k.toNat ≤ sizeLine ∧
  ∀ p, H p = none → Q (.ref p) (upd H p (.lst (List.replicate k.toNat xs).flatten))
/-! ### del xs[i] -/
end

/-! ### xs[a:b] = ys -/
section
variable {prog : Program} {w : World} {A : Around} {E : Value → Shared → Prop} {s : Shared}
set_option maxRecDepth 100000 in
end

section
variable {X : Cx}
end
end L2

namespace Att
open PySem PySem.W PySem.Calls PyProof.Rows

/-! ### the script -/
theorem ints_of_wellAll {P : Params} {h : Heap} : ∀ (ns : List Int) (vs : List Value), WellAll P h vs (ns.map WData.int) → IntsAre vs ns := by
  intro ns
  induction ns with
  | nil =>
    intro vs w
    rw [List.map_nil] at w
    cases w
    exact .nil
  | cons n ns ih =>
    intro vs w
    rw [List.map_cons] at w
    cases w with
    | cons a b =>
      cases a
      exact .cons _ _ (ih _ b)

theorem script_of {l : OpenLaw} {n : Nat} (hn : l.most = some n) {P : Params} {h : Heap} {args : List WData} {vals : List Value}
    (hpre : l.row.toRowW.claim.pre args = true) (hwl : WellAll P h vals args) :
    ∃ a vs ns, vals = [Value.ref a] ∧ args = [WData.list (ns.map WData.int)] ∧ h.get? a = some { cls := .type "list", data := .seq vs.toArray } ∧ IntsAre vs ns ∧ ns.length ≤ n := by
  have hsh : WShape.hasAll [] args [.list .int] = true := (pre_splitW hpre).1
  have hc : l.pre.holds [] { args := args } = true := (pre_splitW hpre).2
  obtain ⟨d, r, rfl, h1, h2⟩ := hasAllW_cons hsh
  obtain rfl := hasAllW_nil h2
  obtain ⟨xs, rfl, h3⟩ := hasW_list h1
  obtain ⟨ns, rfl⟩ := items_int h3
  have hlen : ns.length ≤ n := by
    unfold OpenLaw.pre at hc
    have h4 : (WTm.not (.lt (.lit (.int (n : Int))) (.len (.arg 0)))).holds [] { args := [.list (ns.map .int)] } = true := by
      have h4 := (holds_andW hc).1
      rw [hn] at h4
      exact h4
    have h5 := condW_of h4 (w_not (w_lt w_lit (w_len_list (w_arg rfl))))
    rw [List.length_map] at h5
    refine Nat.le_of_not_lt fun q => ?_
    have q' : (n : Int) < ((ns.length : Nat) : Int) := by omega
    first
      | (rw [decide_eq_true q'] at h5; exact absurd h5 (by decide))
      | (simp at h5; omega)
  cases hwl with
  | cons w1 w2 =>
    cases w2
    cases w1 with
    | list ho hall => exact ⟨_, _, ns, rfl, rfl, ho, ints_of_wellAll ns _ hall, hlen⟩

theorem post_true (l : OpenLaw) (args : List WData) : l.row.toRowW.claim.post args (.bool true) args = true :=
  postW_of (r := l.row.toRowW) (X := (true == true))
    (show WShape.has [] (.bool true) .bool = true by first | rfl | decide | simp [WShape.has, WShape.arms, WShape.armsAll])
    (show (WTm.eq .res (.lit (.bool true))).value [] { args := args, res := some (.bool true), after := args } = some (.bool (true == true)) from w_eq_bool (w_res rfl) w_lit) rfl

/-! ### the attachment: holds_open's last premise (the goal 'hc' behind k_head) from a wpAny of the law's body -/
/-- the same from a codeAny of the CALL (for a layer whose function contracts speak of calls) -/
theorem attach_call {l : OpenLaw} {n : Nat} {q : Program} {loose : List Str} {XP : (Str → Option Value) → Heap → Prop} {YP : World → Heap → Prop} {d : DefRec}
    (hn : l.most = some n) (hdf : d.params.defaults = [])
    (call : ∀ (w : World) (s₀ s₁ : Shared) (mg mb : Str → Option Value) (fa : Addr) (o : Obj) (pm cd doc : Value) (a : Addr) (vs : List Value) (ns : List Int),
      Ground q loose [] XP w s₀ mg mb s₁.heap → YP w s₁.heap →
      s₁.heap.get? fa = some o → o.data = .func (docDef d.name d.params d.body d.scope pm cd doc) → s₁.heap.CodeRec cd d.name → mg d.name = some (.ref fa) →
      s₁.heap.get? a = some { cls := .type "list", data := .seq vs.toArray } → IntsAre vs ns → ns.length ≤ n → s₁.gens = #[] →
      codeAny (model l.prog w) callerA (.call (.ref fa) ⟨[.ref a], []⟩) (fun r s' => r = .ok (.ret (.bool true)) ∧ OldK s₁.heap s'.heap ∧ s'.os = s₁.os ∧ AllBare s'.gens) s₁) :
    WalkO q loose XP YP l.row.toRowW d [] (fun f vs => PySem.call f vs) := by
  intro w s₀ s₁ mg mb G Y fa o pm cd doc dV kV ho hd hcd hD hmg hg args vals as hpre hlay hrd hwl hlo
  obtain rfl : dV = .none := Dflts.none hD hdf
  obtain rfl : kV = .none := Dflts.noKw hD
  obtain ⟨a, vs, ns, rfl, rfl, hobj, hints, hlen⟩ := script_of hn hpre hwl
  refine enter_call (codeAny_mono (call w s₀ s₁ mg mb fa o pm cd doc a vs ns G Y ho (fd_plain hd) hcd hmg hobj hints hlen hg) fun r s' hq => ?_)
  obtain ⟨rfl, h2, h3, h4⟩ := hq
  exact ⟨.inl ⟨.bool true, .bool true, [], rfl, fun _ => rfl, .bool true, post_true l _, fun _ => ⟨List.Pairwise.nil, fun _ hm => (nomatch hm)⟩⟩, h2, h3, h4⟩

/-! ### rules over ANY heap (no ledger) from facts about the written part K: the library's own take a ledger (News) for what they write -/
section
variable {prog : Program} {w : World} {A : Around} {E : Value → Shared → Prop} {s : Shared} {K : Frag}

/-! the whole heap as the ledger: makes every rule that writes through a ledger a rule over any heap -/
def noObjs (h : Heap) : Heap := { h with objs := #[] }
def ledger (h : Heap) (L d : Addr) : List (Addr × Obj) := (List.range h.objs.size).filterMap fun a => if a = L ∨ a = d then none else (h.get? a).map fun o => (a, o)
end
end Att

namespace L2
open PySem PySem.Spec PyProof.Rows

theorem vals_ints : ∀ {vs : List Value} {ns : List Int}, IntsAre vs ns → Vals (ns.map V.int) vs
  | _, _, .nil => .nil
  | _, _, .cons n t h => .cons ⟨t, rfl⟩ (vals_ints h)

/-- nothing is tracked but the script, known to the object (or it is an object of the module) -/
def Only (H : Hp) : Prop := ∀ b, H b = none ∨ ∃ o xs, H b = some (.frz o (.lst xs))

/-- THE HEAD: the law's promise, at the heap behind the top. F, the promise of the law's def, may use that base is part of the heap (so K.In base, base.Ns mainGlobals mg stand in Mod) -/
theorem law_call {P : Program} {w : World} {K : PySem.W.Frag} {mg mb : Str → Option Value} {CX : CXT} {k : Nat} {fa a : Addr} {fd : FuncData} {x : Str} {sp : Sp} {s₁ : Shared} {vs : List Value} {ns : List Int}
    (KX : K.In s₁.heap) (hns : s₁.heap.Ns mainGlobals mg) (hb : s₁.heap.Ns builtinsNs mb) (hbb : ∀ x : Str, x ≠ "__name__" → mb x = bootBuiltins x) (hlim : s₁.heap.NoLimit) (hg : s₁.gens = #[])
    (ha : s₁.heap.get? a = some { cls := .type "list", data := .seq vs.toArray }) (hi : IntsAre vs ns) (hl : ns.length ≤ sizeLine) (hr : Room k callerA)
    (F : ∀ base : Heap, K.In base → base.Ns mainGlobals mg → FnOk P w K mg base CX k fa fd [x] sp) (hbind : ∀ (s : Shared) (u : Value), BindsTo s fd ⟨[u], []⟩ [(x, u)])
    (hsp : ∀ H : Hp, Only H → SqL K H a (ns.map V.int) → sp [.ref a] H (fun v _ => v = .bl true) fun _ _ _ => False)
    (hCX : ∀ H e s', CX [] H s₁ (fun _ _ _ => False) e s' → False) :
    codeAny (model P w) callerA (.call (.ref fa) ⟨[.ref a], []⟩) (fun r s' => r = .ok (.ret (.bool true)) ∧ OldK s₁.heap s'.heap ∧ s'.os = s₁.os ∧ AllBare s'.gens) s₁ := by
  have rv := vals_ints hi
  have lenV := hi.length
  -- from an abstract heap in which nothing but the script may be tracked
  have core : ∀ H : Hp, Only H → SqL K H a (ns.map V.int) → HOk P w H s₁.heap → (∀ b, H b ≠ none → b = a) → (H a ≠ none → K.lookup a = none) →
      codeAny (model P w) callerA (.call (.ref fa) ⟨[.ref a], []⟩) (fun r s' => r = .ok (.ret (.bool true)) ∧ OldK s₁.heap s'.heap ∧ s'.os = s₁.os ∧ AllBare s'.gens) s₁ := by
    intro H hO hS hok hA hK
    have base_of : ∀ {b : Addr} {o : Obj}, s₁.heap.get? b = some o → H b = none → (hidT s₁.heap H).get? b = some o := fun e n => hidT_get e n
    have noA : ∀ {b : Addr} {o : Obj} {es : Array DictEntry} {ep : Nat}, s₁.heap.get? b = some o → o.data = .dict es ep → H b = none := fun {b o es ep} e d => by
      cases q : H b with
      | none => rfl
      | some u =>
        have e' : b = a := hA b (by rw [q]; simp)
        subst e'
        rw [ha] at e; cases e
        have d' : Data.seq vs.toArray _ = Data.dict es ep := d
        cases d'
    have nsK : ∀ {b : Addr} {m : Str → Option Value}, s₁.heap.Ns b m → (hidT s₁.heap H).Ns b m := fun {b m} ⟨o, es, ep, e, d, r⟩ => ⟨o, es, ep, base_of e (noA e d), d, r⟩
    have hKb : K.In (hidT s₁.heap H) := fun b o e => base_of (KX b o e) (by
      cases q : H b with
      | none => rfl
      | some u =>
        have e' : b = a := hA b (by rw [q]; simp)
        subst e'
        rw [hK (by rw [q]; simp)] at e; cases e)
    have hM : Mod K mg (hidT s₁.heap H) := ⟨hKb, nsK hns, ⟨mb, nsK hb, hbb⟩, let ⟨mc, h1, h2⟩ := hlim; ⟨mc, nsK h1, h2⟩⟩
    have e0 : Env0 P w K mg (hidT s₁.heap H) callerA [] s₁ H := ⟨rfl, hM, fun b o e => of_hidT e, Nat.le_of_eq (hidT_size _ _), trivial, fun b hb => absurd (show b ∈ ([] : List Addr) from hb) (by simp), hok, .of_eq hg⟩
    refine codeAny_mono ((F _ hKb (nsK hns)).run callerA [] s₁ H ⟨[.ref a], []⟩ [.ref a] [.ref a] _ _ hr e0 (hbind s₁ (.ref a)) (.cons rfl .nil) (hsp H hO hS)) fun r s' h => ?_
    cases r with
    | error e => exact (hCX H e s' h).elim
    | ok fl =>
      cases fl with
      | next => exact False.elim h
      | brk => exact False.elim h
      | cont => exact False.elim h
      | ret u =>
        obtain ⟨v, H', os, bare, un, hok', r', q⟩ := h
        have q' : v = .bl true := q
        subst q'
        obtain rfl : u = Value.bool true := r'
        refine ⟨rfl, OldK.of_keep fun b o e => ?_, os, bare⟩
        cases q : H b with
        | none => exact un.keep b o e q (by intro z; exact absurd (show b ∈ ([] : List Addr) from z) (by simp)) (by simp)
        | some u =>
          rcases hO b with z | ⟨ob, xs, z⟩
          · rw [q] at z; cases z
          · have z2 := un.frzs b ob _ z
            obtain ⟨e1, _⟩ := hok b _ z
            obtain ⟨e2, _⟩ := hok' b _ z2
            rw [e] at e1; cases e1
            exact e2
  cases hk : K.lookup a with
  | some o =>
    -- the script is one of the module's own objects
    have e := KX a o hk
    rw [ha] at e
    cases e
    refine core (fun _ => none) (fun _ => .inl rfl) (.inr ⟨_, vs.toArray, _, hk, rfl, rfl, rfl, by rw [List.size_toArray, lenV]; exact hl, by simpa using rv⟩) (fun b u z => by have z' : (none : Option HO) = some u := z; cases z') (fun b z => absurd rfl z) fun z => absurd rfl z
  | none =>
    refine core (fun b => if b = a then some (.frz { cls := .type "list", data := .seq vs.toArray } (.lst (ns.map V.int))) else none) (fun b => ?_) (.inl (.inr ⟨{ cls := .type "list", data := .seq vs.toArray }, if_pos rfl⟩)) (fun b u z => ?_) (fun b z => ?_) fun _ => hk
    · by_cases hb : b = a
      · exact .inr ⟨_, _, if_pos hb⟩
      · exact .inl (if_neg hb)
    · by_cases hb : b = a
      · have z' := (if_pos hb).symm.trans z
        cases z'
        subst hb
        exact ⟨ha, by rw [List.length_map]; exact hl, vs, _, rv, ha⟩
      · have z' := (if_neg hb).symm.trans z
        cases z'
    · by_cases hb : b = a
      · exact hb
      · exact absurd (if_neg hb) z
end L2

namespace L2
open PySem PySem.Spec PyProof.Rows

abbrev KOf {K : PySem.W.Frag} {h : Heap} (_ : K.In h) : PySem.W.Frag := K

/-- the goal that k_head leaves (case hc), from the law's promise. F gives the function object fd (K's own) once, then the promise over every base -/
theorem walk_of {l : PySem.W.OpenLaw} {n k : Nat} {q : Program} {loose : List Str} {XP : (Str → Option Value) → Heap → Prop} {YP : World → Heap → Prop} {d : DefRec} {K : Params → PySem.W.Frag} {CX : World → CXT} {sp : World → Sp} {x : Str}
    (hn : l.most = some n) (hn2 : n ≤ sizeLine) (hdf : d.params.defaults = []) (hr : Room k callerA)
    (hY : ∀ (w : World) (h : Heap), YP w h → (K w.params).In h)
    (F : ∀ (w : World) (mg : Str → Option Value) (fa : Addr) (h : Heap), (K w.params).In h → h.Ns mainGlobals mg → mg d.name = some (.ref fa) →
      ∃ fd : FuncData, (∀ (s : Shared) (u : Value), BindsTo s fd ⟨[u], []⟩ [(x, u)]) ∧
        ∀ base : Heap, (K w.params).In base → base.Ns mainGlobals mg → FnOk l.prog w (K w.params) mg base (CX w) k fa fd [x] (sp w))
    (hsp : ∀ (w : World) (H : Hp) (a : Addr) (ns : List Int), ns.length ≤ n → Only H → SqL (K w.params) H a (ns.map V.int) → sp w [.ref a] H (fun v _ => v = .bl true) fun _ _ _ => False)
    (hCX : ∀ (w : World) (H : Hp) (s : Shared) (e : Value) (s' : Shared), CX w [] H s (fun _ _ _ => False) e s' → False) :
    PySem.W.WalkO q loose XP YP l.row.toRowW d [] (fun f vs => PySem.call f vs) := by
  refine Att.attach_call hn hdf fun w s₀ s₁ mg mb fa o pm cd doc a vs ns G Y ho hd hcd hmg hobj hints hlen hg => ?_
  have KX := hY w _ Y
  obtain ⟨fd, hb, hF⟩ := F w mg fa _ KX G.T.g hmg
  exact law_call KX G.T.g G.T.b G.T.builtins G.T.nolimit hg hobj hints (Nat.le_trans hlen hn2) hr hF hb (fun H hO hS => hsp w H a ns hlen hO hS) fun H e s' => hCX w H s₁ e s'
end L2

/- THE LAST THEOREM (shape; LID, My.* are yours):
   My.Adr: a structure of the addresses that your layer names (classes, functions); My.Txt K t: a structure (Prop) of the equations over K;
   My.txt_mk : {K} {implicit addresses ..} (e1 : nsIn K mainGlobals "law" = some (some (.ref f))) (e2 : K.lookup f = some ⟨oc, od, .func (fnOf "law" "law" params body scope dV kV doc pm an cdv ct), sl⟩) (e3 : codeIn K cdv "law" = true) .. : ∃ t, My.Txt K t

set_option maxRecDepth 100000 in
set_option maxHeartbeats 0 in
theorem PySem.Challenge.cw_LID_holds : PySem.Challenge.rw_LID.Holds := by
  w_on; o_law; k_head; (case hw => w_witness2)
  k_fill
  refine L2.walk_of (l := PySem.Challenge.rw_LID) (n := 63) (k := 40) (x := "script") (CX := fun w => ..) (sp := fun _ => My.sp_law) rfl (by decide) rfl ⟨rfl, by decide, by decide⟩ (fun w h Y => PySem.W.kIn_of Y) ?F ?S ?C
  case F =>
    intro w mg fa h KX G hmg
    have T : ∃ t, My.Txt (L2.KOf KX) t := by
      dsimp only [L2.KOf]                          -- K must stand as «<heap const> w.params» for k_is
      refine' My.txt_mk ?e1 ?e2 ?e3 ..
      (case e1 => PySem.W.k_is)                    -- in the order: a name -> its address -> its object -> its parts
      (case e2 => PySem.W.k_is)
      ..
    obtain ⟨t, T⟩ := T
    have e0 := hmg.symm.trans (PySem.W.mg_of KX G T.law)
    cases e0                                       -- fa is the law's own address
    exact ⟨_, fun s u => .of_eq rfl, fun base kb nb => My.law_fn T kb nb⟩     -- if «.of_eq rfl» comes too early: refine' ⟨_, ?b, fun base kb nb => My.law_fn T kb nb⟩; exact fun s u => .of_eq rfl
  case S => exact fun w H a ns hl hO hS => ..
  case C => exact ..
(the tactic k_is has no namespace: write k_is) -/

/-! SHORT WORDS over the layer: a def of the text, its body, what a loop and a test want. -/
namespace L2
open PySem PySem.Spec PyProof.Rows

/-! ### the text by places -/
/-- the j-th statement of a class's body -/
def inClass (s : Stmt) (j : Nat) : Stmt := match s with
  | .ClassDef _ _ _ body _ _ _ _ _ _ _ => body.getD j (.Pass ⟨0, 0, 0, 0⟩)
  | _ => .Pass ⟨0, 0, 0, 0⟩
def defArgs (s : Stmt) : Arguments := match s with
  | .FunctionDef _ a _ _ _ _ _ _ _ _ => a
  | _ => { posonlyargs := [], args := [], vararg := none, kwonlyargs := [], kw_defaults := [], kwarg := none, defaults := [] }
def defBody (s : Stmt) : List Stmt := match s with
  | .FunctionDef _ _ b _ _ _ _ _ _ _ => b
  | _ => []
def defScope (s : Stmt) : Scope := match s with
  | .FunctionDef _ _ _ _ _ _ sc _ _ _ => sc
  | _ => { kind := .function, names := [], isGenerator := false, isCoroutine := false }

/-! ### no exception leaves a def -/
abbrev CX0 : CXT := fun _ _ _ _ _ _ => False
abbrev E0 : XK := fun _ _ _ => False
theorem pass0 {X : Cx} : Passes CX0 X E0 := fun _ _ _ _ _ _ _ h => h.elim

/-! ### a def (or method) of the text as it stands behind the top -/
structure Fun (K : PySem.W.Frag) (x qual : Str) (st : Stmt) (f : Addr) (fd : FuncData) : Prop where
  ex : ∃ (oc : Value) (od : Option Addr) (kV doc pm : Value) (an : Option Addr) (cdv ct : Value) (osl : Array (Option Value)),
    fd = PySem.W.fnOf x qual (defArgs st) (defBody st) (defScope st) .none kV doc pm an cdv ct ∧ K.lookup f = some ⟨oc, od, .func fd, osl⟩ ∧ PySem.W.codeIn K cdv qual = true
  kp : PySem.W.keepIn K (.ref f) = true
section
variable {P : Program} {w : World} {K : PySem.W.Frag} {mg : Str → Option Value} {base : Heap}
/-- THE RULE for a def: its body as a term of rules, and the reading of that term -/
theorem Fun.ok {x qual : Str} {st : Stmt} {f : Addr} {fd : FuncData} {N ps : List Str} {k : Nat} {sp : Sp} (F : Fun K x qual st f fd) (S : FnScope N ps (defScope st)) (len : ∀ vs H Q E, sp vs H Q E → vs.length = ps.length)
    (hbody : ∀ (cdv : Value) (A : Around) (outer : List Env) (s : Shared) (H : Hp) (vs : List V) (Q : VK) (E : XK), Room k (A.deeper (envOfC qual (defScope st) s.heap.objs.size f cdv)) → sp vs H Q E →
      ∃ t, PSs (cxOf CX0 P w K mg base N qual (defScope st) f cdv A outer s H E).nox (defBody st) t ∧ t { nx := fun _ H' => Q .non H', rt := Q } (start N vs) H) : FnOk P w K mg base CX0 (k + 1) f fd ps sp := by
  obtain ⟨oc, od, kV, doc, pm, an, cdv, ct, osl, rfl, lk, hcd⟩ := F.ex
  refine fn_of lk hcd S len fun A outer s H vs Q E hr hsp => ?_
  obtain ⟨t, h, q⟩ := hbody cdv A outer s H vs Q E hr hsp
  exact ⟨t, h.nox, q⟩
/-- how its arguments bind (no defaults): h is «fun _ _ _ _ _ _ us hl => match us, hl with | [_, _], _ => rfl», one _ a parameter -/
theorem Fun.binds {x qual : Str} {st : Stmt} {f : Addr} {fd : FuncData} {ps : List Str} (F : Fun K x qual st f fd)
    (h : ∀ (kV doc pm : Value) (an : Option Addr) (cdv ct : Value) (us : List Value), us.length = ps.length → bindArgs (PySem.W.fnOf x qual (defArgs st) (defBody st) (defScope st) .none kV doc pm an cdv ct) ⟨us, []⟩ = pure (ps.zip us)) : Binds K fd ps [] := by
  obtain ⟨oc, od, kV, doc, pm, an, cdv, ct, osl, rfl, lk, hcd⟩ := F.ex
  exact .all (h kV doc pm an cdv ct)
theorem fun_mk {x qual : Str} {st : Stmt} {f : Addr} {oc : Value} {od an : Option Addr} {osl : Array (Option Value)} {kV doc pm cdv ct : Value} (l : K.lookup f = some ⟨oc, od, .func (PySem.W.fnOf x qual (defArgs st) (defBody st) (defScope st) .none kV doc pm an cdv ct), osl⟩)
    (c : PySem.W.codeIn K cdv qual = true) (k : PySem.W.keepIn K (.ref f) = true) : Fun K x qual st f (PySem.W.fnOf x qual (defArgs st) (defBody st) (defScope st) .none kV doc pm an cdv ct) := ⟨⟨oc, od, kV, doc, pm, an, cdv, ct, osl, rfl, l, c⟩, k⟩
end
theorem small1000 {n : Nat} (h : n ≤ 1000) : n < sizeLine := Nat.lt_of_le_of_lt h (by decide)

/-! ### expressions in short: the name that stands in the i-th slot -/
section
variable {X : Cx}
theorem pv (i : Nat) {x : Str} {pos : Pos} (hN : X.N[i]? = some x := by rfl) (hv : Vis X.env.scope x := by first | exact Or.inl rfl | exact Or.inr (Or.inl rfl) | exact Or.inr (Or.inr rfl)) (hd : (x == ("__debug__" : Str)) = false := by decide)
    (hcd : (x == ("__classdict__" : Str)) = false := by decide) : PE X (.Name x pos) (tVar i) := pe_var hN hv hd hcd
end

/-! ### tests -/
theorem iteF {A B : Prop} (h : B) : if false = true then A else B := by
  rw [if_neg Bool.false_ne_true]
  exact h
theorem iteT {A B : Prop} (h : A) : if true = true then A else B := by
  rw [if_pos rfl]
  exact h
theorem ite2 {c A B : Prop} [Decidable c] (h1 : c → A) (h2 : ¬ c → B) : if c then A else B := by
  by_cases h : c
  · rw [if_pos h]
    exact h1 h
  · rw [if_neg h]
    exact h2 h
/-! ### heaps -/
/-- all that was tracked is as it was -/
def Same (H H' : Hp) : Prop := ∀ b o, H b = some o → H' b = some o
theorem Same.refl (H : Hp) : Same H H := fun _ _ h => h
theorem Same.trans {H H1 H2 : Hp} (a : Same H H1) (b : Same H1 H2) : Same H H2 := fun c o h => b c o (a c o h)
theorem Same.free {H H' : Hp} (e : Same H H') {l : Addr} (h : H' l = Option.none) : H l = Option.none := by
  cases q : H l with
  | none => rfl
  | some o =>
    rw [e l o q] at h
    cases h
theorem Same.seq {K : PySem.W.Frag} {H H' : Hp} {a : Addr} {xs : List V} (e : Same H H') (h : SqL K H a xs) : SqL K H' a xs := by
  rcases h with (h | ⟨o, h⟩) | h
  · exact .inl (.inl (e _ _ h))
  · exact .inl (.inr ⟨o, e _ _ h⟩)
  · exact .inr h

end L2

set_option maxHeartbeats 4000000
namespace L2
open PySem PySem.Spec PyProof.Rows
section
variable {X : Cx}
/-- isinstance of a value against one built-in class -/
theorem call_isinst : CallR X (.builtin "isinstance") (fun xs H Q => ∃ x t n b, xs = [x, .ty n] ∧ TyOf X.K H x t ∧ PySem.W.kitOne X.K t (.type n) = some b ∧ Q (.bl b) H) := by
  intro pins s σ H xs us Q I r h
  obtain ⟨x, t, n, b, rfl, ty, e, q⟩ := h
  obtain ⟨u, w', rfl, r1, r2⟩ := vals2 r
  cases r2
  exact isinst_ok I r1 ty e (fun tk => ⟨.bl b, H, I.tok tk, rfl, q⟩)
theorem kit_self (K : PySem.W.Frag) (n : String) : PySem.W.kitOne K (.type n) (.type n) = some true := by
  unfold PySem.W.kitOne
  rw [if_pos (by simp)]
theorem kit_int_bool (K : PySem.W.Frag) : PySem.W.kitOne K (.type "int") (.type "bool") = some false := by
  show (if ((Value.type "int" == Value.type "bool") = true) then some true else if PySem.W.kitMeta "bool" = true then ((fastBuiltinMro "int").map (·.contains (.type "bool"))) else none) = some false
  decide +kernel
/-- // by a divisor that is no giant -/
def CDivL (_ j : Int) : Prop := 0 < j ∧ j < 2 ^ 63
theorem op_fdivL : OpR X (binaryOp .FloorDiv) (rI CDivL fun i j => .int (i / j)) := opI fun i j _ _ _ _ _ hc q => by
  have e : Int.fdiv i j = i / j := Int.fdiv_eq_ediv_of_nonneg i (Int.le_of_lt hc.1)
  rw [← e] at q
  refine floordiv_int (by have := hc.1; omega) q (.inl (PyProof.noPylong_of_log2 ?_))
  have h1 := hc.1
  have h2 := hc.2
  have h3 : j.natAbs < 2 ^ 63 := by omega
  have h4 := (Nat.log2_lt (n := j.natAbs) (k := 63) (by omega)).mpr h3
  omega
end

theorem boot_int' : bootBuiltins "int" = some (.type "int") := by decide +kernel
theorem boot_bool' : bootBuiltins "bool" = some (.type "bool") := by decide +kernel
theorem boot_list' : bootBuiltins "list" = some (.type "list") := by decide +kernel
theorem boot_tuple' : bootBuiltins "tuple" = some (.type "tuple") := by decide +kernel
/-! a def of the text, as its callers see it -/
structure Cal (P : Program) (w : World) (K : PySem.W.Frag) (mg : Str → Option Value) (base : Heap) (n : Nat) (x : Str) (ps : List Str) (sp : Sp) : Prop where
  ex : ∃ (f : Addr) (fd : FuncData), FnOk P w K mg base CX0 n f fd ps sp ∧ Binds K fd ps [] ∧ PySem.W.keepIn K (.ref f) = true ∧ mg x = some (.ref f)
theorem pe_cal {X : Cx} {n k : Nat} {x : Str} {ps : List Str} {sp : Sp} {e : Expr} {es : List Expr} {t : TA} {p pos : Pos} (C : Cal X.prog X.w X.K X.mg X.base n x ps sp) (hr : Room k X.A) (hk : n ≤ k) (hg : Gl X x)
    (ha : PA X (e :: es) t) (hdb : (x == ("__debug__" : Str)) = false := by decide) (he : starEach (e :: es) X.env = (false, eval e X.env) :: starEach es X.env := by rfl) (hpl : (backTo pos (starEach es X.env)).any (·.1) = false := by rfl) :
    PE X (.Call (.Name x p) (e :: es) [] pos) (tCall sp [] E0 t) := by
  obtain ⟨f, fd, F, b, kp, m⟩ := C.ex
  exact pe_call F (hr.mono hk) hg m kp b .nil pass0 ha hdb he hpl
theorem Cal.of {P : Program} {w : World} {K : PySem.W.Frag} {mg : Str → Option Value} {base : Heap} {n : Nat} {x qual : Str} {ps : List Str} {sp : Sp} {st : Stmt} {f : Addr} {fd : FuncData} (F : Fun K x qual st f fd) (O : FnOk P w K mg base CX0 n f fd ps sp) (m : mg x = some (.ref f))
    (h : ∀ (kV doc pm : Value) (an : Option Addr) (cdv ct : Value) (us : List Value), us.length = ps.length → bindArgs (PySem.W.fnOf x qual (defArgs st) (defBody st) (defScope st) .none kV doc pm an cdv ct) ⟨us, []⟩ = pure (ps.zip us)) : Cal P w K mg base n x ps sp :=
  ⟨f, fd, O, F.binds h, F.kp, m⟩

theorem iteD {c A B : Prop} [Decidable c] (hc : c) (h : A) : if decide c = true then A else B := by
  rw [decide_eq_true hc]
  exact iteT h
theorem iteDF {c A B : Prop} [Decidable c] (hc : ¬ c) (h : B) : if decide c = true then A else B := by
  rw [decide_eq_false hc]
  exact iteF h

/-! heaps: all but f is as it was -/
def SameBut (f : Addr) (H H' : Hp) : Prop := ∀ b o, b ≠ f → H b = some o → H' b = some o
theorem SameBut.trans {f : Addr} {H H1 H2 : Hp} (a : SameBut f H H1) (b : SameBut f H1 H2) : SameBut f H H2 := fun c o h e => b c o h (a c o h e)
theorem SameBut.refl (f : Addr) (H : Hp) : SameBut f H H := fun _ _ _ h => h
theorem SameBut.of {f : Addr} {H H' : Hp} (h : Same H H') : SameBut f H H' := fun b o _ e => h b o e
theorem SameBut.upd {f : Addr} {H : Hp} (o : HO) : SameBut f H (upd H f o) := fun b u h e => by rw [upd_ne h]; exact e
theorem Same.new {H : Hp} {p : Addr} (h : H p = none) (o : HO) : Same H (upd H p o) := fun b u q => by rw [upd_ne (ne_of_none q h)]; exact q
/-! the law's own row of draws: a list of two ints -/
def FeedAt (H : Hp) (f : Addr) : Prop := ∃ own st : Int, H f = some (.lst [.int own, .int st]) ∧ 0 ≤ own ∧ 0 ≤ st ∧ st ≤ 2147483646
theorem FeedAt.ne {H : Hp} {f b : Addr} (F : FeedAt H f) (h : H b = none) : b ≠ f := by
  obtain ⟨o, s, e, _⟩ := F
  intro z
  subst z
  rw [h] at e
  cases e
theorem FeedAt.same {H H' : Hp} {f : Addr} (F : FeedAt H f) (s : Same H H') : FeedAt H' f := by
  obtain ⟨o, t, e, h⟩ := F
  exact ⟨o, t, s _ _ e, h⟩
def spTake : Sp := fun vs H Q _ => ∃ (f : Addr) (m : Int), vs = [.ref f, .int m] ∧ FeedAt H f ∧ 0 < m ∧ m < 2 ^ 63 ∧ ∀ (d : Int) (H' : Hp), 0 ≤ d → d < m → FeedAt H' f → SameBut f H H' → Q (.int d) H'
def spFeed (K : PySem.W.Frag) : Sp := fun vs H Q _ => ∃ (a : Addr) (ns : List Int) (k : Int), vs = [.ref a, .int k] ∧ SqL K H a (ns.map V.int) ∧ ns.length ≤ 63 ∧ 0 ≤ k ∧ k < 1000000 ∧ ∀ (p : Addr) (H' : Hp), H p = none → Same H H' → FeedAt H' p → Q (.ref p) H'
def spLaw (K : PySem.W.Frag) : Sp := fun vs H Q _ => ∃ (a : Addr) (ns : List Int), vs = [.ref a] ∧ SqL K H a (ns.map V.int) ∧ ns.length ≤ 63 ∧ ∀ H', Q (.bl true) H'
theorem small {n : Nat} (h : n ≤ 1000) : n ≤ sizeLine := Nat.le_of_lt (small1000 h)
theorem at_int {ns : List Int} {k : Int} (h0 : 0 ≤ k) (h : k < (ns.length : Int)) : ∃ v : Int, atI (ns.map V.int) k = some (.int v) := by
  have hk : k.toNat < ns.length := by omega
  have q : atI (ns.map V.int) ((k.toNat : Nat) : Int) = some (.int ns[k.toNat]) := atI_nat (by rw [List.getElem?_map, List.getElem?_eq_getElem hk] <;> rfl)
  have ek : ((k.toNat : Nat) : Int) = k := by omega
  rw [ek] at q
  exact ⟨_, q⟩
end L2

namespace L2
open PySem PySem.Spec PyProof.Rows

/-! ### [elt for x in iter if ..]: the block -/
@[reducible] def cxComp (X : Cx) (N : List Str) (scope : Scope) (cl : List (Str × Addr)) (s : Shared) (H : Hp) (fp : List Addr) : Cx where
  prog := X.prog
  w := X.w
  K := X.K
  mg := X.mg
  base := X.base
  A := X.A
  N := N
  s₀ := s
  H₀ := H
  env := compEnvC scope cl s.heap.objs.size X.env
  outer := X.stack
  stack := X.stack
  ex := fp
  fn := fun _ => false
  calm := X.calm
  pn := []
  xe := fun _ _ => False

/-- the block's own name x, the def's names N that it sees (all cells there), their places ix among the def's names -/
structure CompScope (X : Cx) (x : Str) (N : List Str) (ix : List Nat) (scope : Scope) (cl : List (Str × Addr)) : Prop where
  clos : closureFor scope X.env = pure cl
  nocell : ∀ y ∈ scope.names, y.2 ≠ .cell
  kind : scope.kind = .function
  names : ∀ y ∈ scope.names, y.2 = .local → scope.names.lookup y.1 = some .local
  own : scope.names.lookup x = some .local
  nd : (x :: N).Nodup
  sub : ∀ p ∈ cl, X.env.cells.lookup p.1 = some p.2
  has : ((relabel scope X.env).names.all fun p => !(p.2 == .cell || p.2 == .free) || (cl.lookup p.1).isSome) = true
  outs : ∀ (j : Nat) (y : Str), N[j]? = some y → (relabel scope X.env).names.lookup y = some .cell ∧ ∃ k c, ix[j]? = some k ∧ X.N[k]? = some y ∧ cl.lookup y = some c ∧ X.env.scope.names.lookup y = some .cell

/-- the def's values that the block sees -/
def outs (ix : List Nat) (σ : St) : St := ix.map fun k => (σ[k]?).join

section
variable {X : Cx} {pins : List (Addr × Obj)} {σ : St} {x : Str} {N : List Str} {ix : List Nat} {scope : Scope} {cl : List (Str × Addr)} {fp : List Addr} {H3 : Hp} {s3 : Shared}

theorem CompScope.cells (S : CompScope X x N ix scope cl) {y : Str} {c : Addr} (h : cl.lookup y = some c) : X.env.cells.lookup y = some c := S.sub _ (PySem.mem_of_lookup h)

theorem comp_cx (S : CompScope X x N ix scope cl) (I3 : Inv X pins σ H3 s3) (hf : ∀ b ∈ fp, FpOk X pins H3 b) (hlt : ∀ b ∈ fp, b < s3.heap.objs.size) : (cxComp X (x :: N) scope cl s3 H3 fp).Ok where
  mod := I3.ok.mod
  kind := S.kind
  glob := I3.ok.glob
  blt := I3.ok.blt
  above := Nat.le_refl _
  inj := fun y z c h1 h2 => I3.ok.inj y z c (S.cells h1) (S.cells h2)
  has := fun y hy => by
    have q := List.all_eq_true.mp S.has
    have hy : (relabel scope X.env).names.lookup y = some .cell ∨ (relabel scope X.env).names.lookup y = some .free := hy
    have z : ∀ k : NameKind, (k == .cell || k == .free) = true → (relabel scope X.env).names.lookup y = some k → ∃ c, cl.lookup y = some c := fun k hk e => by
      have r := q _ (PySem.mem_of_lookup e)
      rw [hk] at r
      exact Option.isSome_iff_exists.mp (by simpa using r)
    rcases hy with e | e
    · exact z _ (by rfl) e
    · exact z _ (by rfl) e
  cab := fun _ _ h _ => nomatch h
  hd := I3.ok.hd
  frames := I3.ok.frames
  stk := .inl rfl
  exf := fun b hb => ⟨Nat.ne_of_lt (hlt b hb), fun y c e => (hf b hb).2.2.2.2.1 y c (S.cells e)⟩
  bs := fun b o e => I3.bs b o e
  bsz := Nat.le_trans I3.ok.bsz I3.sz
  noex := fun b o e hb => by
    rcases (hf b hb).2.2.2.1 with z | z
    · exact I3.ok.noex b o e z
    · exact absurd (Nat.lt_of_lt_of_le (Heap.lt_size e) (Nat.le_trans I3.ok.bsz z)) (Nat.lt_irrefl _)
  exfs := fun b hb z => by
    rcases List.mem_cons.mp (I3.stkSub b z) with e | e
    · exact (hf b hb).2.1 e
    · exact (hf b hb).2.2.1 e
  funs := I3.stack
  frf := I3.stkFree

theorem comp_start (S : CompScope X x N ix scope cl) (I3 : Inv X pins σ H3 s3) (hf : ∀ b ∈ fp, FpOk X pins H3 b) (hlt : ∀ b ∈ fp, b < s3.heap.objs.size) (hix : ix.length = N.length) {h1 : Heap} {t' : Nat} {m : Str → Option Value}
    (hn : h1.Ns s3.heap.objs.size m) (hk : ∀ b o, s3.heap.get? b = some o → h1.get? b = some o) : Inv (cxComp X (x :: N) scope cl s3 H3 fp) [] (none :: outs ix σ) H3 { s3 with heap := h1, toks := t' } where
  ok := comp_cx S I3 hf hlt
  os := rfl
  bare := I3.bare
  base := Un.kept hk
  loc := by
    refine ⟨m, hn, fun i y v h1' h2 h3 => ?_⟩
    cases i with
    | zero =>
      have h2' : (some (none : Option V)) = some (some v) := h2
      cases h2'
    | succ j =>
      have h1'' : N[j]? = some y := h1'
      have h2' : (outs ix σ)[j]? = some (some v) := h2
      obtain ⟨hr, k, c, e1, e2, e3, e4⟩ := S.outs j y h1''
      unfold outs at h2'
      rw [List.getElem?_map, e1] at h2'
      have h2'' : (σ[k]?).join = some v := Option.some.inj h2'
      have e5 : σ[k]? = some (some v) := by
        cases q : σ[k]? with
        | none => rw [q] at h2''; cases h2''
        | some o => rw [q] at h2''; exact congrArg some h2''
      obtain ⟨m0, _, hl⟩ := I3.loc
      obtain ⟨u, r, l⟩ := hl k y v e2 e5 (.inr (.inl e4))
      refine ⟨u, r, .inr ⟨.inl hr, c, e3, ?_⟩⟩
      rcases l with ⟨kk, _⟩ | ⟨_, c', ec, z⟩
      · have kk' : X.env.scope.names.lookup y = some .local := kk
        rw [e4] at kk'; cases kk'
      · rw [S.cells e3] at ec
        cases ec
        obtain ⟨o, ho, hd⟩ := z
        exact ⟨o, hk _ _ ho, hd⟩
  cell := fun y c e => by
    obtain ⟨v, o, ho, hd⟩ := I3.cell y c (S.cells e)
    exact ⟨v, o, hk _ _ ho, hd⟩
  free := I3.hok.fresh (Nat.le_refl _)
  freeC := fun y c e => I3.freeC y c (S.cells e)
  pin := fun p hp => absurd (show p ∈ ([] : List (Addr × Obj)) from hp) (by simp)
  hok := I3.hok.kept hk
  len := by
    show (none :: outs ix σ).length = (x :: N).length
    rw [List.length_cons, List.length_cons]
    unfold outs
    rw [List.length_map, hix]

theorem comp_back (I3 : Inv X pins σ H3 s3) (hf : ∀ b ∈ fp, FpOk X pins H3 b) {σ' : St} {H' : Hp} {s' : Shared} {h'' : Heap} {N' : List Str} (J : Inv (cxComp X N' scope cl s3 H3 fp) [] σ' H' s') (hb : Heap.SameBut s3.heap.objs.size s'.heap h'') :
    Inv X pins σ H' { s' with heap := h'' } := by
  have ne : ∀ b o, s3.heap.get? b = some o → b ≠ s3.heap.objs.size := fun b o e => Nat.ne_of_lt (Heap.lt_size e)
  have B : Un (frs X.stack) fp H3 H' s3.heap s'.heap := J.base
  refine I3.call' (s' := { s' with heap := h'' }) (ch := fp) J.os ⟨fun b o e n h1 h2 => (hb.2 b (ne b o e)).trans (B.keep b o e n h1 h2), fun b o e n h1 h2 => ?_, B.free, fun b o e h2 => ?_, B.tups, B.frzs, B.tbls⟩ (fun b ob e => ?_) J.bare (fun b z => ?_)
  · obtain ⟨sl, q⟩ := B.slot b o e n h1 h2
    exact ⟨sl, (hb.2 b (ne b o e)).trans q⟩
  · obtain ⟨o', q⟩ := B.there b o e h2
    exact ⟨o', (hb.2 b (ne b o e)).trans q⟩
  · have fr : H' s3.heap.objs.size = none := J.free
    refine (J.hok b ob e).stay (fun c w' hc q => (hb.2 c ?_).trans q) (fun _ q => q) fun _ _ q => q
    rintro rfl
    rcases hc with rfl | hc
    · rw [fr] at e; cases e
    · rw [fr] at hc; cases hc
  · obtain ⟨_, h2, _, h4, h5, h6⟩ := hf b z
    exact ⟨h4, h2, h5, h6⟩
end

/-! ### the tests and the element -/
abbrev TBl := St → Hp → (Hp → Prop) → VK → Prop
def PB (X : Cx) (ifs : List Expr) (elt : Expr) (tb : TBl) : Prop :=
  ∀ (pins : List (Addr × Obj)) (s : Shared) (σ : St) (H : Hp) (skip : Hp → Prop) (keep : VK), Inv X pins σ H s → tb σ H skip keep →
    wpAny (model X.prog X.w) X.A (forIn ifs true fun c r => if r = true then do let ok ← isTrue c X.env (eval c X.env); pure (ForInStep.yield ok) else pure (ForInStep.yield r))
      (fun ok s3 => if ok = true then wpAny (model X.prog X.w) X.A (eval elt X.env) (EP X pins σ keep) X.xe s3 else ∃ H', Inv X pins σ H' s3 ∧ skip H') X.xe s
def tB0 (te : TE) : TBl := fun σ H _ keep => te σ H keep
def tB1 (tc : TT) (te : TE) : TBl := fun σ H skip keep => tc σ H fun b H1 => if b = true then te σ H1 keep else skip H1
theorem pb_all {X : Cx} {elt : Expr} {te : TE} (he : PE X elt te) : PB X [] elt (tB0 te) := by
  intro pins s σ H skip keep I h
  refine wpAny_tests_nil ?_
  rw [if_pos rfl]
  exact he pins s σ H keep I h
/-- what a comprehension is: W the invariant by the turn and a measure; the list stands at D -/
def CompEx (J : It) (D : Addr) (ix : List Nat) (tb : TBl) (σ : St) (H : Hp) (Q : VK) : Prop := ∃ W : Nat → Nat → Hp → Prop, (∃ m, W 0 m (upd H D (.lst []))) ∧ ∀ i m H2, W i m H2 →
  (J.stop i H2 ∧ Q (.ref D) H2) ∨ (J.go i H2 ∧ ∀ y H3, J.yld i H2 y H3 → tb (some y :: outs ix σ) H3 (fun H4 => ∃ m', m' < m ∧ W (i + 1) m' H4)
    fun z H4 => ∃ ys, H4 D = some (.lst ys) ∧ ys.length < sizeLine ∧ ∃ m', m' < m ∧ W (i + 1) m' (upd H4 D (.lst (ys ++ [z]))))
def tCompR (wi : TI) (ix : List Nat) (tb : TBl) : TE := fun σ H Q => wi σ H fun J H1 => ∀ D, H1 D = none → CompEx J D ix tb σ H1 Q

section
variable {prog : Program} {w : World} {A : Around} {E : Value → Shared → Prop} {R : Result → Shared → Prop} {s : Shared}
/-- the loop, the target's own step left in -/
theorem compLoop_go {elt target iter : Expr} {ifs : List Expr} {scope : Scope} {pos : Pos} {it acc : Value} {env : Env} (I : Nat → Shared → Prop)
    (turn : ∀ n s, I n s → wpAny (model prog w) A (pyNext it) (fun r s1 => match r with
      | none => R (.ok .next) s1
      | some v => wpAny (model prog w) A (letOwnedTupleGo target it v) (fun _ s1' => wpAny (model prog w) A (assign target env v) (fun _ s2 =>
          wpAny (model prog w) A (forIn ifs true fun c r => if r = true then do let ok ← isTrue c env (eval c env); pure (ForInStep.yield ok) else pure (ForInStep.yield r)) (fun ok s3 =>
            if ok = true then wpAny (model prog w) A (eval elt env) (fun x s4 =>
              wpAny (model prog w) A (call (.builtin "list.append") [acc, x]) (fun _ s5 => ∃ m, m < n ∧ I m s5) (fun _ _ => False) s4) (fun _ _ => False) s3
            else ∃ m, m < n ∧ I m s3) (fun _ _ => False) s2) (fun _ _ => False) s1') (fun _ _ => False) s1) (fun _ _ => False) s)
    (n : Nat) (h : I n s) :
    codeAny (model prog w) A (.compLoop (.ListComp elt [⟨target, iter, ifs, 0⟩] scope pos) 0 it acc env) R s := by
  have up : ∀ {α : Type} {t : Sem α} {Q Q' : α → Shared → Prop} {E' : Value → Shared → Prop} {s : Shared}, wpAny (model prog w) A t Q (fun _ _ => False) s → (∀ a s, Q a s → Q' a s) → wpAny (model prog w) A t Q' E' s :=
    fun h q => wpAny_mono h q fun _ _ f => f.elim
  refine codeAny_loop rfl I (fun n s hI => ?_) n h
  show wpAny _ A ((compTurn (.ListComp elt [⟨target, iter, ifs, 0⟩] scope pos) 0 it acc env).onRaise (fun x => do noteFrame x env; theTreesLotGoes x)) _ _ s
  refine wpAny_noted ?_
  rw [compTurn_list]
  refine wpAny_bind (wpAny_standAt (wpAny_bind (up (turn n s hI) fun r s1 h1 => ?_)))
  cases r with
  | none => exact wpAny_pure h1
  | some v =>
    refine wpAny_bind (up h1 fun _ s1' h1' => ?_)
    refine wpAny_bind (up h1' fun _ s2 h2 => wpAny_bind (up h2 fun ok s3 h3 => ?_))
    cases ok with
    | false => exact wpAny_pure ⟨rfl, h3⟩
    | true =>
      exact wpAny_bind (wpAny_bind (up h3 fun x s4 h4 => wpAny_bind (up h4 fun _ s5 h5 => wpAny_pure (wpAny_pure ⟨rfl, h5⟩))))
end

/-- an untracked record that is none of the def's own -/
structure Apart (X : Cx) (pins : List (Addr × Obj)) (H : Hp) (C : Addr) : Prop where
  fr : H C = none
  lo : C ≠ X.env.locals
  sz : X.s₀.heap.objs.size ≤ C
  ce : ∀ y c, X.env.cells.lookup y = some c → c ≠ C
  pi : ∀ p ∈ X.pn ++ pins, p.1 ≠ C
theorem Apart.turn {X : Cx} {pins : List (Addr × Obj)} {σ : St} {H : Hp} {C : Addr} {s : Shared} {h' : Heap} (a : Apart X pins H C) (I : Inv X pins σ H s) (hs : Heap.SameBut C s.heap h') : Inv X pins σ H { s with heap := h' } :=
  I.turned (t' := s.toks) (fun b o ne e => (hs.2 b ne).trans e) a.fr a.lo (.inr a.sz) a.ce a.pi
section
variable {X : Cx} {x : Str} {N : List Str} {ix : List Nat} {scope : Scope} {cl : List (Str × Addr)} {elt iter : Expr} {ifs : List Expr} {px pos : Pos} {wi : TI} {tb : TBl}

/-- the block runs: behind it the def's own state stands again -/
theorem comp_run (hc : X.calm = true) (S : CompScope X x N ix scope cl) (hix : ix.length = N.length) (hb : ∀ s3 H3 fp, PB (cxComp X (x :: N) scope cl s3 H3 fp) ifs elt tb)
    {pins : List (Addr × Obj)} {s2 : Shared} {σ : St} {H2 : Hp} {Q : VK} {it : Addr} {fp : List Addr} {tn : Nat → Heap → Prop} {J : It} {RR : Value → Addr → Result → Shared → Prop} {E : Value → Shared → Prop}
    (I2 : Inv X pins σ H2 s2) (T : Turn X.prog X.w X.K (.Name x px) J fp it tn) (st2 : tn 0 s2.heap) (f2 : ∀ b ∈ fp, FpOk X pins H2 b)
    (h : ∀ D, H2 D = none → ∃ W : Nat → Nat → Hp → Prop, (∃ m, W 0 m (upd H2 D (.lst []))) ∧ ∀ i m H3, W i m H3 →
      (J.stop i H3 ∧ Q (.ref D) H3) ∨ (J.go i H3 ∧ ∀ y H4, J.yld i H3 y H4 → tb (some y :: outs ix σ) H4 (fun H5 => ∃ m', m' < m ∧ W (i + 1) m' H5)
        fun z H5 => ∃ ys, H5 D = some (.lst ys) ∧ ys.length < sizeLine ∧ ∃ m', m' < m ∧ W (i + 1) m' (upd H5 D (.lst (ys ++ [z])))))
    (hRR : ∀ (D C : Addr) (H' : Hp) (s' : Shared) (m : Str → Option Value), s'.heap.Ns C m → Apart X pins H' C → Inv X pins σ H' s' → Q (.ref D) H' → RR (.ref D) C (.ok .next) s') :
    wpAny (model X.prog X.w) X.A (newList []) (fun acc s3 => wpAny (model X.prog X.w) X.A (newFunctionEnv scope X.env.globals cl [] X.env.qual none .none (some X.env)) (fun cenv s4 =>
      codeAny (model X.prog X.w) X.A (.compStart (.ListComp elt [⟨.Name x px, iter, ifs, 0⟩] scope pos) 0 (.ref it) acc { cenv with scope := relabel scope X.env }) (RR acc cenv.locals) s4) E s3) E s2 := by
  refine wpAny_newObj_type (wpAny_newFunctionEnv S.nocell (by intro y hy; simp at hy) (fun h1 hns1 hsb1 => ?_) S.kind)
  dsimp only at hns1 hsb1 ⊢
  have I3 : Inv X pins σ (upd H2 s2.heap.objs.size (.lst [])) { s2 with heap := s2.heap.push { cls := .type "list", dict := none, data := .seq ([] : List Value).toArray } } := I2.lnew (its := []) (ys := []) (t' := s2.toks) .nil (Nat.zero_le _)
  have hD : H2 s2.heap.objs.size = none := I2.fresh
  obtain ⟨W, ⟨m0, w0⟩, turn⟩ := h s2.heap.objs.size hD
  have hltF : ∀ b ∈ fp, b < s2.heap.objs.size := fun b hb => by
    obtain ⟨o, e, _⟩ := T.obj 0 _ st2 b hb
    exact Heap.lt_size e
  generalize hs3 : ({ s2 with heap := s2.heap.push { cls := .type "list", dict := none, data := .seq ([] : List Value).toArray } } : Shared) = s3 at I3
  have eh : s2.heap.push { cls := .type "list", dict := none, data := .seq ([] : List Value).toArray } = s3.heap := by rw [← hs3]
  have et : s2.toks = s3.toks := by rw [← hs3]
  rw [eh] at hns1 hsb1 ⊢
  have sz3 : s3.heap.objs.size = s2.heap.objs.size + 1 := by rw [← eh, Heap.size_push]
  have hlt3 : ∀ b ∈ fp, b < s3.heap.objs.size := fun b hb => Nat.lt_of_lt_of_le (hltF b hb) (by rw [sz3]; exact Nat.le_succ _)
  have f3 : ∀ b ∈ fp, FpOk X pins (upd H2 s2.heap.objs.size (.lst [])) b := fun b hb => by
    obtain ⟨q1, q2⟩ := f2 b hb
    exact ⟨by rw [upd_ne (Nat.ne_of_lt (hltF b hb))]; exact q1, q2⟩
  have up : ∀ b o, s3.heap.get? b = some o → h1.get? b = some o := fun b o e => hsb1.extBut b o (Nat.ne_of_lt (Heap.lt_size e)) (Heap.get?_push_of_some _ e)
  have old : ∀ b o, s2.heap.get? b = some o → h1.get? b = some o := fun b o e => up b o (by rw [← eh]; exact Heap.get?_push_of_some _ e)
  have es : ({ s2 with heap := h1, toks := s2.toks + ([] : List (Str × Value)).length } : Shared) = { s3 with heap := h1, toks := s2.toks + ([] : List (Str × Value)).length } := by rw [← hs3]
  rw [es]
  have I4 : Inv (cxComp X (x :: N) scope cl s3 (upd H2 s2.heap.objs.size (.lst [])) fp) [] (none :: outs ix σ) (upd H2 s2.heap.objs.size (.lst [])) { s3 with heap := h1, toks := s2.toks + ([] : List (Str × Value)).length } :=
    comp_start S I3 f3 hlt3 hix hns1 up
  have st4 : tn 0 h1 := T.keep 0 _ _ st2 fun b _ o e => old b o e
  have loop : codeAny (model X.prog X.w) X.A (.compLoop (.ListComp elt [⟨.Name x px, iter, ifs, 0⟩] scope pos) 0 (.ref it) (.ref s2.heap.objs.size) (compEnvC scope cl s3.heap.objs.size X.env)) (RR (.ref s2.heap.objs.size) s3.heap.objs.size)
      { s3 with heap := h1, toks := s2.toks + ([] : List (Str × Value)).length } := by
    refine compLoop_go (fun n s' => ∃ i v0 H', Inv (cxComp X (x :: N) scope cl s3 (upd H2 s2.heap.objs.size (.lst [])) fp) [] (v0 :: outs ix σ) H' s' ∧ tn i s'.heap ∧ (∀ b ∈ fp, H' b = none) ∧ W i n H') ?_ m0 ⟨0, none, _, I4, st4, fun b hb => (f3 b hb).1, w0⟩
    rintro n s5 ⟨i, v0, H5, I5, st5, fr5, w5⟩
    have stat : ∀ {H' : Hp}, (∀ b ∈ fp, H' b = none) → ∀ b ∈ fp, FpOk (cxComp X (x :: N) scope cl s3 (upd H2 s2.heap.objs.size (.lst [])) fp) [] H' b := fun hn b hb =>
      ⟨hn b hb, ((comp_cx S I3 f3 hlt3).exf b hb).1, (comp_cx S I3 f3 hlt3).exfs b hb, .inl hb, ((comp_cx S I3 f3 hlt3).exf b hb).2, fun p hp => absurd (show p ∈ ([] : List (Addr × Obj)) from hp) (by simp)⟩
    rcases turn i n H5 w5 with ⟨stop, qn⟩ | ⟨go, step⟩
    · refine thn (T.done (cxComp X (x :: N) scope cl s3 (upd H2 s2.heap.objs.size (.lst [])) fp) rfl rfl rfl hc i [] s5 _ H5 _ I5 (stat fr5) st5 stop) fun r s6 ⟨hr, I6⟩ => ?_
      subst hr
      obtain ⟨m6, hn6, _⟩ := I6.loc
      exact hRR _ _ H5 s6 m6 hn6 ⟨I6.free, Ne.symm (Nat.ne_of_lt I3.lt), I3.sz, fun y c e z => by
        obtain ⟨v, q⟩ := I3.cell y c e
        exact absurd q.lt (by rw [z]; exact Nat.lt_irrefl _), fun p hp z => absurd (Heap.lt_size (I3.pin p hp).1) (by rw [z]; exact Nat.lt_irrefl _)⟩ (comp_back I3 f3 I6 (Heap.SameBut.refl _ _)) qn
    · refine thn (T.item (cxComp X (x :: N) scope cl s3 (upd H2 s2.heap.objs.size (.lst [])) fp) rfl rfl rfl hc i [] s5 _ H5 _ I5 (stat fr5) st5 go) fun r s6 ⟨u, hr, h6⟩ => ?_
      subst hr
      refine thn h6 fun _ s7 ⟨y, H7, I7, r7, y7, st7, fr7⟩ => ?_
      have I7' := I7.pinned (stat fr7) (T.obj _ _ st7)
      refine wpAny_assign_Name (store_ok (i := 0) I7' S.nd rfl (.inl (lookup_relabel_local S.own)) r7 (fun s8 I8 => ?_) (.inr (lookup_relabel_local S.own)))
      have I8' : Inv (cxComp X (x :: N) scope cl s3 (upd H2 s2.heap.objs.size (.lst [])) fp) ([] ++ pinsAt fp s7.heap) (some y :: outs ix σ) H7 s8 := I8
      have again : ∀ {v9 : Option V} {H9 : Hp} {s9 : Shared}, Inv (cxComp X (x :: N) scope cl s3 (upd H2 s2.heap.objs.size (.lst [])) fp) ([] ++ pinsAt fp s7.heap) (v9 :: outs ix σ) H9 s9 → (∃ m', m' < n ∧ W (i + 1) m' H9) →
          ∃ m, m < n ∧ ∃ i v0 H', Inv (cxComp X (x :: N) scope cl s3 (upd H2 s2.heap.objs.size (.lst [])) fp) [] (v0 :: outs ix σ) H' s9 ∧ tn i s9.heap ∧ (∀ b ∈ fp, H' b = none) ∧ W i m H' := fun {v9 H9 s9} I9 ⟨m', hm, w9⟩ => by
        refine ⟨m', hm, i + 1, v9, H9, I9.unpinned, T.keep _ _ _ st7 fun b hb o e => (I9.pin (b, o) (List.mem_append_right _ (List.mem_append_right _ (mem_pinsAt hb e)))).1, fun b hb => ?_, w9⟩
        obtain ⟨o, e, d⟩ := T.obj _ _ st7 b hb
        exact (I9.pin (b, o) (List.mem_append_right _ (List.mem_append_right _ (mem_pinsAt hb e)))).2.1
      refine thn (hb s3 (upd H2 s2.heap.objs.size (.lst [])) fp _ s8 _ H7 _ _ I8' (step y H7 y7)) fun ok s9 q9 => ?_
      cases ok with
      | false =>
        rw [if_neg (by decide)] at q9 ⊢
        obtain ⟨H9, I9, q9⟩ := q9
        exact again I9 q9
      | true =>
        rw [if_pos rfl] at q9 ⊢
        refine thn q9 fun u s10 ⟨z, H10, I10, r10, ys, hy, hz, q10⟩ => ?_
        refine thn (mt_append _ s10 _ H10 (.ref s2.heap.objs.size) [z] (.ref s2.heap.objs.size) [u] (fun _ H' => ∃ m', m' < n ∧ W (i + 1) m' H') I10 rfl (.cons r10 .nil) ⟨_, ys, z, rfl, rfl, hy, hz, q10⟩) fun _ s11 ⟨_, H11, I11, _, q11⟩ => ?_
        exact again I11 q11
  exact codeAny_compStart_list loop (T.self _ 0 _ _ _ st4 loop)

/-- [elt for x in iter if ..] as a value -/
theorem pe_comp (hc : X.calm = true) (S : CompScope X x N ix scope cl) (hix : ix.length = N.length) (hi : PI X (.Name x px) iter wi) (hb : ∀ s3 H3 fp, PB (cxComp X (x :: N) scope cl s3 H3 fp) ifs elt tb)
    (hs : ∀ x, foldedSetIterable iter X.env x = pure x := by intro _; rfl) : PE X (.ListComp elt [⟨.Name x px, iter, ifs, 0⟩] scope pos) (tCompR wi ix tb) := by
  intro pins s σ H Q I h
  rw [eval_ListComp]
  refine wpAny_comprehension_free (use := none) rfl hs S.clos S.kind S.names (thn (hi pins s σ H _ I h) fun xv s1 h1 => thn h1 fun itv s2 h2 => ?_)
  obtain ⟨it, fp, tn, J, H2, rfl, I2, T, st2, f2, R⟩ := h2
  refine comp_run hc S hix hb (RR := fun acc C => compPost (model X.prog X.w) X.A X.xe none (EP X pins σ Q) acc C) I2 T st2 f2 R ?_
  intro D C H' s' m hn ap I' q
  exact ⟨m, hn, fun h'' hb'' => ⟨.ref D, H', ap.turn I' hb'', rfl, q⟩⟩
/-- y = [elt for x in iter if ..] -/
theorem ps_comp {i : Nat} {y : Str} {py spos : Pos} (hN : X.N.Nodup) (hi0 : X.N[i]? = some y) (hx : Loc X.env.scope y) (hc : X.calm = true) (S : CompScope X x N ix scope cl) (hix : ix.length = N.length) (hi : PI X (.Name x px) iter wi) (hb : ∀ s3 H3 fp, PB (cxComp X (x :: N) scope cl s3 H3 fp) ifs elt tb)
    (hsw : swapsWith (.ListComp elt [⟨.Name x px, iter, ifs, 0⟩] scope pos) (some (.Name y py)) spos.line X.env = pure true := by with_unfolding_all rfl)
    (hs : ∀ x, foldedSetIterable iter X.env x = pure x := by intro _; rfl) (hf : X.fn y = true ∨ X.env.scope.names.lookup y = some .local := by first | exact .inl rfl | exact .inr rfl | assumption) :
    PS X (.Assign [.Name y py] (.ListComp elt [⟨.Name x px, iter, ifs, 0⟩] scope pos) spos) (fun D σ H => tCompR wi ix tb σ H fun v H' => D.nx (σ.set i (some v)) H') := by
  intro pins s σ H Dn I h
  rw [exec_Assign_Name_used _ _ _ _ hsw]
  refine wpAny_bind (wpAny_standAt (wpAny_bind ?_))
  show wpAny _ X.A (do let _ ← comprehension (.ListComp elt [⟨.Name x px, iter, ifs, 0⟩] scope pos) scope X.env _ (newList []) false (eval iter X.env) (some (assign (.Name y py) X.env))) _ _ s
  refine wpAny_bind (wpAny_mono (wpAny_comprehension_free (use := some (assign (.Name y py) X.env)) (Q := fun _ s' => SP X pins Dn .next s') rfl hs S.clos S.kind S.names
    (thn (hi pins s σ H _ I h) fun xv s1 h1 => thn h1 fun itv s2 h2 => ?_)) (fun _ s' hq => wpAny_pure (wpAny_pure hq)) fun _ _ e => e)
  obtain ⟨it, fp, tn, J, H2, rfl, I2, T, st2, f2, R⟩ := h2
  refine comp_run hc S hix hb (RR := fun acc C => compPost (model X.prog X.w) X.A X.xe (some (assign (.Name y py) X.env)) (fun _ s' => SP X pins Dn .next s') acc C) (Q := fun v H' => Dn.nx (σ.set i (some v)) H') I2 T st2 f2 R ?_
  intro D C H' s' m hn ap I' q
  show wpAny _ X.A (assign (.Name y py) X.env (.ref D)) _ _ _
  refine wpAny_assign_Name (store_ok2 I' hN hi0 hx (v := .ref D) rfl (fun s'' I'' hsb => ?_) hf)
  obtain ⟨a, hsb, ha⟩ := hsb
  have ne : C ≠ a := by
    rcases ha with z | z
    · rw [z]; exact ap.lo
    · exact Ne.symm (ap.ce y a z)
  exact ⟨m, hn.sameBut hsb ne, fun h'' hb'' => ⟨_, H', ap.turn I'' hb'', q⟩⟩
end
end L2

namespace L2
open PySem PySem.Spec PyProof.Rows
section
variable {X : Cx} {pins : List (Addr × Obj)} {σ : St} {H : Hp} {s : Shared} {h' : Heap}
/-- several untracked records of ours have turned, and a new object is tracked -/
theorem Inv.turnedNew {t' : Nat} {ch : List Addr} {T : Addr} {o : HO} (I : Inv X pins σ H s) (k : ∀ b u, b ∉ ch → s.heap.get? b = some u → h'.get? b = some u) (hf : ∀ b ∈ ch, FpOk X pins H b) (hT : s.heap.objs.size ≤ T)
    (new : ObjOk X.prog X.w (upd H T o) h' T o) : Inv X pins σ (upd H T o) { s with heap := h', toks := t' } := by
  have nit : ∀ b u, H b = some u → b ∉ ch := fun b u e z => by rw [(hf b z).1] at e; cases e
  have hn : H T = none := I.hok.fresh hT
  have lt : ∀ b u, s.heap.get? b = some u → b ≠ T := fun b u e => Nat.ne_of_lt (Nat.lt_of_lt_of_le (Heap.lt_size e) hT)
  refine I.step (g' := s.gens) (d' := s.drawn) (ch := ch) (fun b hb => ?_) (fun b u _ _ hc e _ => k b u hc e) (fun b u _ _ hc e _ => ⟨u.slots, k b u hc e⟩) (fun b u _ e n => by rw [upd_ne (lt b u e)]; exact n) (fun b u hc e => ⟨u, k b u hc e⟩)
    (fun b xs e => by rw [upd_ne (ne_of_none e hn)]; exact e) (fun b ob u e => by rw [upd_ne (ne_of_none e hn)]; exact e) (fun b ps e => ⟨#[], by rw [upd_ne (ne_of_none e hn), e]; simp⟩) (fun m hm => ?_) (fun b u e => ?_) I.bare
  · obtain ⟨_, h2, _, h4, h5, h6⟩ := hf b hb
    exact ⟨h4, h2, h5, h6⟩
  · obtain ⟨ob, es, ep, ho, r⟩ := hm
    exact ⟨ob, es, ep, k _ ob (fun z => (hf _ z).2.1 rfl) ho, r⟩
  · by_cases hb : b = T
    · subst hb
      rw [upd_same] at e
      cases e
      exact new
    · rw [upd_ne hb] at e
      refine (I.hok b u e).stay (fun c v hc q => k c v ?_ q) (fun c q => by rw [upd_ne (ne_of_none q hn)]; exact q) fun c xs q => by rw [upd_ne (ne_of_none q hn)]; exact q
      rcases hc with z | z
      · rw [z]; exact nit b u e
      · exact nit c _ z
theorem Inv.turnedL {t' : Nat} {ch : List Addr} (I : Inv X pins σ H s) (k : ∀ b u, b ∉ ch → s.heap.get? b = some u → h'.get? b = some u) (hf : ∀ b ∈ ch, FpOk X pins H b) : Inv X pins σ H { s with heap := h', toks := t' } := by
  have nit : ∀ b u, H b = some u → b ∉ ch := fun b u e z => by rw [(hf b z).1] at e; cases e
  refine I.step (g' := s.gens) (d' := s.drawn) (ch := ch) (fun b hb => ?_) (fun b u _ _ hc e _ => k b u hc e) (fun b u _ _ hc e _ => ⟨u.slots, k b u hc e⟩) (fun _ _ _ _ n => n) (fun b u hc e => ⟨u, k b u hc e⟩)
    (fun _ _ e => e) (fun _ _ _ e => e) (fun b ps e => ⟨#[], by rw [e]; simp⟩) (fun m hm => ?_) (fun b u e => ?_) I.bare
  · obtain ⟨_, h2, _, h4, h5, h6⟩ := hf b hb
    exact ⟨h4, h2, h5, h6⟩
  · obtain ⟨ob, es, ep, ho, r⟩ := hm
    exact ⟨ob, es, ep, k _ ob (fun z => (hf _ z).2.1 rfl) ho, r⟩
  · refine (I.hok b u e).stay (fun c v hc q => k c v ?_ q) (fun _ q => q) fun _ _ q => q
    rcases hc with z | z
    · rw [z]; exact nit b u e
    · exact nit c _ z
end

/-! ### for a, b in enumerate(xs) -/
def Ite (K : PySem.W.Frag) (a : Addr) : It :=
  ⟨fun i H => ∃ xs x, SqL K H a xs ∧ xs[i]? = some x, fun i H y H' => ∃ t, y = .ref t ∧ H t = none ∧ ∀ xs x, SqL K H a xs → xs[i]? = some x → H' = upd H t (.tup [.int i, x]), fun i H => ∃ xs, SqL K H a xs ∧ xs.length ≤ i⟩
theorem turn_enum {P : Program} {w : World} {K : PySem.W.Frag} {elts : List Expr} {k : Nat} {pos : Pos} (a e it : Addr) (hei : e ≠ it) :
    Turn P w K (.Tuple elts k pos) (Ite K a) [e, it] e (fun i h => (∃ old, IsEnum h e it i old) ∧ h.IsListIter it a i) where
  mem := by simp
  obj := fun i h st b hb => by
    obtain ⟨⟨old, he⟩, o, e2, c, d⟩ := st
    rcases List.mem_cons.mp hb with z | z
    · subst z
      exact ⟨_, he, fun v z => nomatch z⟩
    · have z' := List.mem_singleton.mp z
      subst z'
      exact ⟨o, e2, fun v z => by rw [d] at z; cases z⟩
  keep := fun i h h' st k => by
    obtain ⟨⟨old, he⟩, hit⟩ := st
    exact ⟨⟨old, k e (by simp) _ he⟩, hit.at fun o x => k it (by simp) o x⟩
  item := by
    intro X hP hw hK hc i pins s σ H E I hf st hg
    subst hP hw hK
    obtain ⟨xs, x, hq, hx⟩ := hg
    obtain ⟨its, rv, p, hz⟩ := I.list hq
    obtain ⟨u, hu, ru⟩ := rv.get hx
    obtain ⟨⟨old, he⟩, hit⟩ := st
    refine wpAny_pyNext_enum_item he hit p.isList (x := u) (by simpa using hu) hei fun h1 ho hit1 hT hsz hk => ?_
    refine ⟨_, rfl, wpAny_letOwnedTupleGo_enum ho fun h2 he2 hs2 => ?_⟩
    have elt : e < s.heap.objs.size := Heap.lt_size he
    have hT2 : h2.get? s.heap.objs.size = some { cls := .type "tuple", data := .seq #[.int i s.toks, u] } := (hs2.2 _ (Ne.symm (Nat.ne_of_lt elt))).trans hT
    have I2 : Inv X pins σ (upd H s.heap.objs.size (.tup [.int i, x])) { s with heap := h2, toks := s.toks + 1 } := by
      refine I.turnedNew (ch := [e, it]) (fun b ob hb eb => ?_) hf (Nat.le_refl _) ⟨by show 2 ≤ sizeLine; decide, [.int i s.toks, u], .cons ⟨_, rfl⟩ (.cons ru .nil), ⟨_, hT2, rfl, _, rfl⟩, _, hT2, rfl⟩
      have b1 : b ≠ e := fun z => hb (by simp [z])
      have b2 : b ≠ it := fun z => hb (by simp [z])
      exact (hs2.2 b b1).trans (hk b ob b1 b2 eb)
    refine ⟨.ref s.heap.objs.size, _, I2, rfl, ⟨_, rfl, I.hok.fresh (Nat.le_refl _), fun ys y hy hyi => ?_⟩, ⟨⟨u, by simpa using he2⟩, hit1.at fun o z => (hs2.2 it (Ne.symm hei)).trans z⟩, fun b hb => ?_⟩
    · have e1 := I.list_inj hy hq
      subst e1
      rw [hx] at hyi
      cases hyi
      rfl
    · have z := hf b hb
      have hlt : b < s.heap.objs.size := by
        rcases List.mem_cons.mp hb with y | y
        · rw [y]; exact elt
        · rw [List.mem_singleton.mp y]
          obtain ⟨o, e2, _⟩ := hit
          exact Heap.lt_size e2
      rw [upd_ne (Nat.ne_of_lt hlt)]
      exact z.1
  done := by
    intro X hP hw hK hc i pins s σ H E I hf st hg
    subst hP hw hK
    obtain ⟨xs, hq, hx⟩ := hg
    obtain ⟨its, rv, p, hz⟩ := I.list hq
    obtain ⟨⟨old, he⟩, hit⟩ := st
    have hl := rv.length
    exact wpAny_pyNext_enum_end (I.ok.hd hc) he hit p.isList (Array.getElem?_eq_none (by simp; omega)) fun h' eb => ⟨rfl, I.turnedL (t' := s.toks) (ch := [e, it]) (fun b o hb eo => eb b o (fun z => hb (by simp [z])) eo) hf⟩
  self := fun _ _ _ _ _ st h => by
    obtain ⟨⟨old, he⟩, _⟩ := st
    exact wpAny_pyIter_enum he h
section
variable {X : Cx} {elts : List Expr} {k : Nat} {tpos : Pos}
def iEnum (K : PySem.W.Frag) (tl : TE) : TI := fun σ H R => tl σ H fun x H1 => ∃ a, x = .ref a ∧ (∃ xs, SqL K H1 a xs) ∧ R (Ite K a) H1
theorem pi_enum {l : Expr} {tl : TE} {p pos : Pos} (hg : Gl X "enumerate") (hm : X.mg "enumerate" = none) (hl : PE X l tl) (hs : starEach [l] X.env = [(false, eval l X.env)] := by rfl) :
    PI X (.Tuple elts k tpos) (.Call (.Name "enumerate" p) [l] [] pos) (iEnum X.K tl) := by
  intro pins s σ H R I h
  refine Call_ (ld_blt I hg hm boot_enumerate (PyProof.Rows.callWith_type1 ?_ hs rfl))
  rw [hs]
  show wpAny _ _ (spliced ((false, eval l X.env) :: backTo pos (starEach [] X.env))) _ _ s
  refine Calls.spliced_cons (thn (hl pins s σ H _ I h) fun u s1 ⟨x, H1, I1, r1, a, ex, ⟨xs, hq⟩, q⟩ => ?_)
  subst ex
  cases r1
  obtain ⟨its, rv, p, hz⟩ := I1.list hq
  refine Calls.spliced_nil ?_
  refine call_enumerate_list p.isList fun h' he hit hsz hk => ?_
  refine wpAny_pyIter_enum he ?_
  have I2 : Inv X pins σ H1 { s1 with heap := h' } := I1.kept (t' := s1.toks) hk
  refine ⟨s1.heap.objs.size + 1, [s1.heap.objs.size + 1, s1.heap.objs.size], _, _, H1, rfl, I2, turn_enum a _ _ (Nat.ne_of_gt (Nat.lt_succ_self _)), ⟨⟨_, he⟩, hit⟩, fun b hb => ?_, q⟩
  rcases List.mem_cons.mp hb with z | z
  · rw [z]
    exact I1.fpOk (Nat.le_succ _) (I1.hok.fresh (Nat.le_succ _))
  · rw [List.mem_singleton.mp z]
    exact I1.fpOk (Nat.le_refl _) (I1.hok.fresh (Nat.le_refl _))
end
/-- over enumerate of a list that the body leaves as it is -/
theorem for_enum {K : PySem.W.Frag} {a : Addr} {xs : List V} {g : TG} {tb : TS} {D : Ends} {σ : St} {H : Hp} (Pv : Nat → St → Hp → Prop) (h0 : Pv 0 σ H) (hl : ∀ i σ H, i ≤ xs.length → Pv i σ H → SqL K H a xs)
    (hs : ∀ i x σ H t, xs[i]? = some x → Pv i σ H → H t = none → g (.ref t) σ (upd H t (.tup [.int i, x])) fun σ2 H2 => tb { D with nx := Pv (i + 1), ct := Pv (i + 1), bk := D.nx } σ2 H2) (hd : ∀ σ H, Pv xs.length σ H → D.nx σ H) :
    ∃ W : Nat → Nat → St → Hp → Prop, (∃ m, W 0 m σ H) ∧ ∀ i m σ H, W i m σ H →
      ((Ite K a).stop i H ∧ D.nx σ H) ∨ ((Ite K a).go i H ∧ ∃ N : St → Hp → Prop, (∀ σ' H', N σ' H' → ∃ m', m' < m ∧ W (i + 1) m' σ' H') ∧ ∀ x H', (Ite K a).yld i H x H' → g x σ H' fun σ2 H2 => tb { D with nx := N, ct := N, bk := D.nx } σ2 H2) := by
  refine ⟨fun i m σ H => m = xs.length - i ∧ i ≤ xs.length ∧ Pv i σ H, ⟨xs.length, by simp, Nat.zero_le _, h0⟩, ?_⟩
  rintro i m σ H ⟨rfl, hi, p⟩
  have q := hl i σ H hi p
  by_cases hlt : i < xs.length
  · refine .inr ⟨⟨xs, xs[i], q, by simp [hlt]⟩, Pv (i + 1), fun σ' H' p' => ⟨xs.length - (i + 1), by omega, rfl, hlt, p'⟩, fun x H' y => ?_⟩
    obtain ⟨t, rfl, ht, e⟩ := y
    have e' := e xs xs[i] q (by simp [hlt])
    subst e'
    exact hs i xs[i] σ H t (by simp [hlt]) p ht
  · have e : i = xs.length := by omega
    subst e
    exact .inl ⟨⟨xs, q, Nat.le_refl _⟩, hd σ H p⟩
end L2

namespace L2
open PySem PySem.Spec PyProof.Rows
/-! ### data in the abstract heap, and == of it -/
mutual
inductive Rep (K : PySem.W.Frag) (H : Hp) : V → PyData → Prop
  | non : Rep K H .non .none
  | bl (b : Bool) : Rep K H (.bl b) (.bool b)
  | int (i : Int) : Rep K H (.int i) (.int i)
  | str (x : Str) : Rep K H (.str x) (.str x)
  | tup {a : Addr} {xs : List V} {ds : List PyData} : SqT K H a xs → RepAll K H xs ds → Rep K H (.ref a) (.tuple ds)
  | lst {a : Addr} {xs : List V} {ds : List PyData} : SqL K H a xs → RepAll K H xs ds → Rep K H (.ref a) (.list ds)
inductive RepAll (K : PySem.W.Frag) (H : Hp) : List V → List PyData → Prop
  | nil : RepAll K H [] []
  | cons {x : V} {d : PyData} {xs : List V} {ds : List PyData} : Rep K H x d → RepAll K H xs ds → RepAll K H (x :: xs) (d :: ds)
end
section
variable {X : Cx} {pins : List (Addr × Obj)} {σ : St} {H : Hp} {s : Shared}
mutual
theorem Rep.reads (I : Inv X pins σ H s) : ∀ {x : V} {d : PyData} {v : Value}, Rep X.K H x d → RelV x v → ∃ as, Reads s.heap v d as
  | _, _, v, .non, r => by cases (show v = Value.none from r); exact ⟨_, Reads.none⟩
  | _, _, v, .bl b, r => by cases (show v = Value.bool b from r); exact ⟨_, Reads.bool b⟩
  | _, _, v, .int i, r => by obtain ⟨t, e⟩ := (show ∃ t, v = Value.int i t from r); cases e; exact ⟨_, Reads.int i t⟩
  | _, _, v, .str x, r => by obtain ⟨t, e⟩ := (show ∃ t, v = Value.str x t from r); cases e; exact ⟨_, Reads.str x t⟩
  | _, _, v, .tup (a := a) h q, r => by
    cases (show v = Value.ref a from r)
    obtain ⟨its, rv, ⟨o, ho, hc, n, hd⟩, _⟩ := I.tuple h
    obtain ⟨as, z⟩ := RepAll.reads I q rv
    exact ⟨_, reads_tuple_at ho hc hd (by simpa using z)⟩
  | _, _, v, .lst (a := a) h q, r => by
    cases (show v = Value.ref a from r)
    obtain ⟨its, rv, ⟨o, n, ho, hc, _, hd⟩, _⟩ := I.list h
    obtain ⟨as, z⟩ := RepAll.reads I q rv
    exact ⟨_, reads_list_at ho hc hd (by simpa using z)⟩
theorem RepAll.reads (I : Inv X pins σ H s) : ∀ {xs : List V} {ds : List PyData} {vs : List Value}, RepAll X.K H xs ds → Vals xs vs → ∃ as, ReadsAll s.heap vs ds as
  | _, _, _, .nil, .nil => ⟨_, ReadsAll.nil⟩
  | _, _, _, .cons h q, .cons r rs => by
    obtain ⟨as, z⟩ := Rep.reads I h r
    obtain ⟨bs, y⟩ := RepAll.reads I q rs
    exact ⟨_, ReadsAll.cons z y⟩
end
end
section
variable {X : Cx}
def rEqD (K : PySem.W.Frag) : R2 := fun x y H Q => ∃ d e, Rep K H x d ∧ Rep K H y e ∧ SeqAt.shaped d = true ∧ SeqAt.shaped e = true ∧ Q (.bl (PyData.eqv d e)) H
def rNeD (K : PySem.W.Frag) : R2 := fun x y H Q => ∃ d e, Rep K H x d ∧ Rep K H y e ∧ SeqAt.shaped d = true ∧ SeqAt.shaped e = true ∧ Q (.bl (!PyData.eqv d e)) H
/-- t + u of tuples, t without items: u itself -/
def rCatT0 (K : PySem.W.Frag) : R2 := fun x y H Q => ∃ a b ys, x = .ref a ∧ y = .ref b ∧ SqT K H a [] ∧ SqT K H b ys ∧ Q (.ref b) H
end
end L2

namespace L2
open PySem PySem.Spec PyProof.Rows
/-! ### list(reversed(xs)) -/
section
variable {prog : Program} {w : World} {A : Around} {E : Value → Shared → Prop} {s : Shared} {R : Result → Shared → Prop}
end
section
variable {X : Cx}
/-- list(reversed(e)), e a list -/
def tListRev (K : PySem.W.Frag) (te : TE) : TE := fun σ H Q => te σ H fun x H1 => ∃ l ys, x = .ref l ∧ SqL K H1 l ys ∧ ∀ p, H1 p = none → Q (.ref p) (upd H1 p (.lst ys.reverse))
end
end L2

namespace L2
open PySem PySem.Spec PyProof.Rows
/-! ### the forms of a comprehension that one uses -/
def Nx (n i : Nat) (Pv : Nat → Hp → Prop) (H : Hp) : Prop := ∃ m', m' < n - i ∧ (m' = n - (i + 1) ∧ i + 1 ≤ n ∧ Pv (i + 1) H)
theorem Nx.of {n i : Nat} {Pv : Nat → Hp → Prop} {H : Hp} (h : i < n) (p : Pv (i + 1) H) : Nx n i Pv H := ⟨n - (i + 1), by omega, rfl, h, p⟩
theorem comp_tup {K : PySem.W.Frag} {a D : Addr} {xs : List V} {ix : List Nat} {tb : TBl} {σ : St} {H : Hp} {Q : VK} (Pv : Nat → Hp → Prop) (h0 : Pv 0 (upd H D (.lst []))) (hl : ∀ i H, i ≤ xs.length → Pv i H → SqT K H a xs)
    (hs : ∀ i x H, xs[i]? = some x → Pv i H → tb (some x :: outs ix σ) H (Nx xs.length i Pv) fun z H' => ∃ ys, H' D = some (.lst ys) ∧ ys.length < sizeLine ∧ Nx xs.length i Pv (upd H' D (.lst (ys ++ [z])))) (hd : ∀ H, Pv xs.length H → Q (.ref D) H) :
    CompEx (Itt K a) D ix tb σ H Q := by
  refine ⟨fun i m H => m = xs.length - i ∧ i ≤ xs.length ∧ Pv i H, ⟨xs.length, by simp, Nat.zero_le _, h0⟩, ?_⟩
  rintro i m H ⟨rfl, hi, p⟩
  have q := hl i H hi p
  by_cases hlt : i < xs.length
  · refine .inr ⟨⟨xs, xs[i], q, by simp [hlt]⟩, fun x H' y => ?_⟩
    obtain ⟨e, y⟩ := y
    subst e
    exact hs i x _ (y xs q) p
  · have e : i = xs.length := by omega
    subst e
    exact .inl ⟨⟨xs, q, Nat.le_refl _⟩, hd H p⟩
theorem comp_range {lo : Int} {n : Nat} {D : Addr} {ix : List Nat} {tb : TBl} {σ : St} {H : Hp} {Q : VK} (Pv : Nat → Hp → Prop) (h0 : Pv 0 (upd H D (.lst [])))
    (hs : ∀ i H, i < n → Pv i H → tb (some (.int (lo + i)) :: outs ix σ) H (Nx n i Pv) fun z H' => ∃ ys, H' D = some (.lst ys) ∧ ys.length < sizeLine ∧ Nx n i Pv (upd H' D (.lst (ys ++ [z])))) (hd : ∀ H, Pv n H → Q (.ref D) H) :
    CompEx (Itr lo n) D ix tb σ H Q := by
  refine ⟨fun i m H => m = n - i ∧ i ≤ n ∧ Pv i H, ⟨n, by simp, Nat.zero_le _, h0⟩, ?_⟩
  rintro i m H ⟨rfl, hi, p⟩
  by_cases hlt : i < n
  · refine .inr ⟨hlt, fun x H' y => ?_⟩
    obtain ⟨e, y⟩ := y
    subst e y
    exact hs i _ hlt p
  · have e : i = n := by omega
    subst e
    exact .inl ⟨Nat.le_refl _, hd H p⟩
/-- a comprehension that sees no name of the def -/
theorem CompScope.closed {X : Cx} {x : Str} {scope : Scope} (c1 : closureFor scope X.env = pure []) (c2 : ∀ y ∈ scope.names, y.2 ≠ .cell) (c3 : scope.kind = .function) (c4 : ∀ y ∈ scope.names, y.2 = .local → scope.names.lookup y.1 = some .local)
    (c5 : scope.names.lookup x = some .local) (c6 : ((relabel scope X.env).names.all fun p => !(p.2 == .cell || p.2 == .free) || ((([] : List (Str × Addr))).lookup p.1).isSome) = true) : CompScope X x [] [] scope [] where
  clos := c1
  nocell := c2
  kind := c3
  names := c4
  own := c5
  nd := by simp
  sub := fun p hp => absurd hp (by simp)
  has := c6
  outs := fun j y h => by simp at h
end L2

namespace L2
open PySem PySem.Spec PyProof.Rows
/-! ### the rules that look at the written part, K named (for a comprehension's block) -/
section
variable {X : Cx}
def rIsi (K : PySem.W.Frag) : List V → Hp → VK → Prop := fun xs H Q => ∃ x t n b, xs = [x, .ty n] ∧ TyOf K H x t ∧ PySem.W.kitOne K t (.type n) = some b ∧ Q (.bl b) H
def rLen (K : PySem.W.Frag) : List V → Hp → VK → Prop := fun xs H Q => ∃ p ys, xs = [.ref p] ∧ (SqL K H p ys ∨ SqT K H p ys) ∧ Q (.int ys.length) H
end
end L2

namespace L2
open PySem PySem.Spec PyProof.Rows
/-! ### texts: their signs, slices, join, times, startswith; all of a list -/
def Its (z : Str) : It := ⟨fun i _ => i < z.cps.size, fun i H x H' => H' = H ∧ ∃ c, z.cps[i]? = some c ∧ x = .str ⟨#[c]⟩, fun i _ => z.cps.size ≤ i⟩
theorem walks_strU {prog : Program} {w : World} {A : Around} (hh : A.handled = none) (I : Addr) (x : Str) (t : Tok) : Walks prog w A I [I] [I] x.cps.size (SignAt x) (fun i h => h.IsStrIter I (strIterType x) x t i) := by
  unfold strIterType
  split
  · exact Walks.strAscii hh I x t
  · exact Walks.strWide hh I x t
theorem turn_str {P : Program} {w : World} {K : PySem.W.Frag} {y : Str} {py : Pos} (z : Str) (t : Tok) (it : Addr) : Turn P w K (.Name y py) (Its z) [it] it (fun i h => i ≤ z.cps.size ∧ h.IsStrIter it (strIterType z) z t i) where
  mem := by simp
  obj := fun i h st b hb => by
    have e : b = it := by simpa using hb
    subst e
    obtain ⟨_, o, e, c, d⟩ := st
    exact ⟨o, e, fun v z => by rw [d] at z; cases z⟩
  keep := fun i h h' st k => by
    obtain ⟨hi, o, e, r⟩ := st
    exact ⟨hi, o, k it (by simp) o e, r⟩
  item := by
    intro X hP hw hK hc i pins s σ H E I hf st hg
    subst hP hw hK
    obtain ⟨f0, f1, f2, f3, f4, f5⟩ := hf it (by simp)
    refine (walks_strU (I.ok.hd hc) it z t).item i s _ E hg st.2 fun v h' tk hP hst hk => ?_
    obtain ⟨c, u, hcx, rfl⟩ := hP
    have I1 : Inv X pins σ H { s with heap := h', toks := tk } := I.turned (fun b o hb e => hk b o (by simpa using hb) e) f0 f1 f3 f4 f5
    exact ⟨_, rfl, wpAny_of_eq (a := ()) rfl ⟨.str ⟨#[c]⟩, H, I1, ⟨_, rfl⟩, ⟨rfl, c, hcx, rfl⟩, ⟨hg, hst⟩, fun b hb => (hf b hb).1⟩⟩
  done := by
    intro X hP hw hK hc i pins s σ H E I hf st hg
    subst hP hw hK
    obtain ⟨f0, f1, f2, f3, f4, f5⟩ := hf it (by simp)
    have e : i = z.cps.size := Nat.le_antisymm st.1 hg
    subst e
    refine (walks_strU (I.ok.hd hc) it z t).done s _ E st.2 fun h' tk hk => ?_
    exact ⟨rfl, I.turned (fun b o hb e => hk b o (by simpa using hb) e) f0 f1 f3 f4 f5⟩
  self := fun A i s Q E st h => by
    obtain ⟨_, st⟩ := st
    unfold strIterType at st
    split at st
    · exact wpAny_pyIter_striter_ascii st h
    · exact wpAny_pyIter_striter_wide st h
section
variable {X : Cx} {y : Str} {py : Pos}
def iStr (tl : TE) : TI := fun σ H R => tl σ H fun x H1 => ∃ z, x = .str z ∧ R (Its z) H1
theorem pi_str {l : Expr} {tl : TE} (hl : PE X l tl) : PI X (.Name y py) l (iStr tl) := by
  intro pins s σ H R I h
  refine thn (hl pins s σ H _ I h) fun v s1 ⟨x, H1, I1, r1, q1⟩ => ?_
  obtain ⟨z, e, q⟩ := q1
  subst e
  obtain ⟨t, rfl⟩ := r1
  refine wpAny_pyIter_strU ?_
  refine ⟨s1.heap.objs.size, [s1.heap.objs.size], _, _, H1, rfl, I1.kept (t' := s1.toks) fun b o e => Heap.get?_push_of_some _ e, turn_str z t _, ⟨Nat.zero_le _, _, Heap.get?_push_size _ rfl, rfl, rfl⟩, fun b hb => ?_, q⟩
  have e : b = s1.heap.objs.size := by simpa using hb
  subst e
  exact I1.fpOk (Nat.le_refl _) (I1.hok.fresh (Nat.le_refl _))
end
theorem comp_str {z : Str} {D : Addr} {ix : List Nat} {tb : TBl} {σ : St} {H : Hp} {Q : VK} (Pv : Nat → Hp → Prop) (h0 : Pv 0 (upd H D (.lst [])))
    (hs : ∀ i c H, z.cps[i]? = some c → Pv i H → tb (some (.str ⟨#[c]⟩) :: outs ix σ) H (Nx z.cps.size i Pv) fun u H' => ∃ ys, H' D = some (.lst ys) ∧ ys.length < sizeLine ∧ Nx z.cps.size i Pv (upd H' D (.lst (ys ++ [u])))) (hd : ∀ H, Pv z.cps.size H → Q (.ref D) H) :
    CompEx (Its z) D ix tb σ H Q := by
  refine ⟨fun i m H => m = z.cps.size - i ∧ i ≤ z.cps.size ∧ Pv i H, ⟨z.cps.size, by simp, Nat.zero_le _, h0⟩, ?_⟩
  rintro i m H ⟨rfl, hi, p⟩
  by_cases hlt : i < z.cps.size
  · refine .inr ⟨hlt, fun x H' y => ?_⟩
    obtain ⟨e, c, hc, rfl⟩ := y
    subst e
    exact hs i c _ hc p
  · have e : i = z.cps.size := by omega
    subst e
    exact .inl ⟨Nat.le_refl _, hd H p⟩
section
variable {X : Cx}
/-- t[lo:hi] of a text -/
def rSlS : V → Option Int → Option Int → Hp → VK → Prop := fun x lo hi H Q => ∃ z, x = .str z ∧ z.length ≤ sizeLine ∧ Q (.str (Txt.slice z lo hi)) H
theorem sl_str : SlR X rSlS := by
  intro pins s σ H x v vl vu lo hi sl Q I rx hs pl pu h
  obtain ⟨z, rfl, hz, q⟩ := h
  obtain ⟨t, rfl⟩ := rx
  refine ⟨"str", _, F.slot_str_getitem.lookup, typeIs_str _ _ _, ?_⟩
  have fin : ∀ t' k, EP X pins σ Q (.str (Txt.slice z lo hi) t') { s with toks := k } := fun t' k => ⟨.str _, H, I.tok k, ⟨_, rfl⟩, q⟩
  obtain ⟨o, ho, hc, hd⟩ := hs
  cases pl with
  | none =>
    cases pu with
    | none => exact wpAny_getItem_str_slice (l := none) (u := none) (st := none) ⟨o, ho, hc, hd⟩ rfl (post_val_or_str ⟨Nat.le_trans (Txt.slice_le z _ _) hz, fin⟩)
    | int j u => exact wpAny_getItem_str_slice (l := none) (u := some (j, u)) (st := none) ⟨o, ho, hc, hd⟩ rfl (post_val_or_str ⟨Nat.le_trans (Txt.slice_le z _ _) hz, fin⟩)
  | int i u' =>
    cases pu with
    | none => exact wpAny_getItem_str_slice (l := some (i, u')) (u := none) (st := none) ⟨o, ho, hc, hd⟩ rfl (post_val_or_str ⟨Nat.le_trans (Txt.slice_le z _ _) hz, fin⟩)
    | int j u => exact wpAny_getItem_str_slice (l := some (i, u')) (u := some (j, u)) (st := none) ⟨o, ho, hc, hd⟩ rfl (post_val_or_str ⟨Nat.le_trans (Txt.slice_le z _ _) hz, fin⟩)
/-- t.startswith(u) -/
def rStarts : V → List V → Hp → VK → Prop := fun x vs H Q => ∃ z u, x = .str z ∧ vs = [.str u] ∧ Q (.bl (Txt.startswith z u)) H
theorem mt_startswith : MtR X "str.startswith" rStarts := by
  intro pins s σ H x vs v us Q I rx rv h
  obtain ⟨z, u, rfl, rfl, q⟩ := h
  obtain ⟨t, rfl⟩ := rx
  obtain ⟨w', rfl, t', rfl⟩ := rv.one
  exact SC.startswith ⟨.bl _, H, I, rfl, q⟩
theorem strsAre_of : ∀ {zs : List Str} {us : List Value}, Vals (zs.map V.str) us → StrsAre us zs
  | [], _, .nil => .nil
  | _ :: _, _, .cons ⟨t, e⟩ r => by subst e; exact .cons _ t (strsAre_of r)
/-- sep.join(list of texts) -/
def rJoin (K : PySem.W.Frag) : V → List V → Hp → VK → Prop := fun x vs H Q => ∃ z a ys, x = .str z ∧ vs = [.ref a] ∧ SqL K H a (ys.map V.str) ∧ z.length ≤ 16 ∧ (ys.map (·.length)).sum + ys.length ≤ 1048576 ∧ Q (.str (Txt.join z ys)) H
theorem mt_join : MtR X "str.join" (rJoin X.K) := by
  intro pins s σ H x vs v us Q I rx rv h
  obtain ⟨z, a, ys, rfl, rfl, hq, hz, hw, q⟩ := h
  obtain ⟨t, rfl⟩ := rx
  obtain ⟨w', rfl, ra⟩ := rv.one
  cases ra
  obtain ⟨its, r', p, _⟩ := I.list hq
  exact join_listW p.isList (by simpa using strsAre_of r') hz hw fun t' k => ⟨.str _, H, I.tok k, ⟨_, rfl⟩, q⟩
/-- t * n of a short text -/
def rMulS : R2 := fun x y H Q => ∃ z n, x = .str z ∧ y = .int n ∧ MulOk z n ∧ Q (.str (Txt.mul z n)) H
/-- all of a list of truths -/
def rAll (K : PySem.W.Frag) : List V → Hp → VK → Prop := fun xs H Q => ∃ (a : Addr) (bs : List Bool), xs = [.ref a] ∧ SqL K H a (bs.map V.bl) ∧ Q (.bl (bs.all id)) H
theorem bools_get : ∀ {bs : List Bool} {us : List Value} {i : Nat} {v : Value}, Vals (bs.map V.bl) us → us[i]? = some v → ∃ b, bs[i]? = some b ∧ v = .bool b
  | [], _, _, _, .nil, h => by simp at h
  | b :: _, _, 0, _, .cons r _, h => by
    simp at h
    subst h
    exact ⟨b, rfl, r⟩
  | _ :: _, _, i + 1, _, .cons _ t, h => by
    obtain ⟨b, h1, h2⟩ := bools_get (i := i) t (by simpa using h)
    exact ⟨b, by simpa using h1, h2⟩
theorem call_all (hc : X.calm = true) : CallR X (.builtin "all") (rAll X.K) := by
  intro pins s σ H xs us Q I r h
  obtain ⟨a, bs, rfl, hq, q⟩ := h
  obtain ⟨u, rfl, ru⟩ := vals1 r
  cases ru
  obtain ⟨its, r', p, hz⟩ := I.list hq
  have hl := r'.length
  rw [List.length_map] at hl
  have hlt : a < s.heap.objs.size := by obtain ⟨o, n, e, _⟩ := p; exact Heap.lt_size e
  refine call_all_walk (wpAny_pyIter_list p.isList ?_)
  refine ⟨s.heap.objs.size, _, _, _, _, _, fun i => bs[i]?.getD true, rfl, Walks.list (A := X.A.in1) (I.ok.hd hc) s.heap.objs.size a (Nat.ne_of_lt hlt) its.toArray, ⟨⟨_, Heap.get?_push_size _ rfl, rfl, rfl⟩, p.isList.push _⟩, ?_, ?_⟩
  · intro i v s' Q' E' hP hQ
    obtain ⟨b, hb, rfl⟩ := bools_get r' (i := i) (v := v) (by simpa using hP)
    have hQ' : Q' b s' := by simpa [hb] using hQ
    exact wpAny_truthy_bool hQ'
  · intro h' tk hk
    have e : (List.range its.toArray.size).all (fun i => bs[i]?.getD true) = bs.all id := by
      rw [List.size_toArray, ← hl]
      rw [Bool.eq_iff_iff, List.all_eq_true, List.all_eq_true]
      constructor
      · intro h b hb
        obtain ⟨i, hi, e⟩ := List.getElem_of_mem hb
        have := h i (List.mem_range.mpr hi)
        rw [List.getElem?_eq_getElem hi] at this
        simpa [e] using this
      · intro h i hi
        have hi' := List.mem_range.mp hi
        rw [List.getElem?_eq_getElem hi']
        exact h _ (List.getElem_mem hi')
    rw [e]
    refine ⟨.bl _, H, ?_, rfl, q⟩
    have I1 : Inv X pins σ H { s with heap := s.heap.push { cls := .type "list_iterator", data := .fields #[.ref a, .int 0 0] } } := I.kept (t' := s.toks) fun b o e => Heap.get?_push_of_some _ e
    refine I1.turnedL (t' := tk) (ch := [s.heap.objs.size]) (fun b o hb e => hk b o (by simpa using hb) e) fun b hb => ?_
    rw [List.mem_singleton.mp hb]
    exact I.fpOk (Nat.le_refl _) (I.hok.fresh (Nat.le_refl _))
end
end L2

namespace L2
open PySem PySem.Spec PyProof.Rows
/-- written texts, one after another -/
inductive Consts : List Expr → List Str → Prop
  | nil : Consts [] []
  | cons {x : Str} {j : Nat} {pos : Pos} {es : List Expr} {zs : List Str} : Consts es zs → Consts (.Constant (.str x) j pos :: es) (x :: zs)
theorem pa_consts {X : Cx} : ∀ {es : List Expr} {zs : List Str}, Consts es zs → PA X es (fun _ H Q => Q (zs.map V.str) H)
  | _, _, .nil => pa_nil
  | _, _, .cons h => fun pos pins s σ H Q I q => pa_cons pe_str (pa_consts h) (by rfl) pos pins s σ H Q I q
/-- a comprehension that sees one name of the def -/
theorem CompScope.one {X : Cx} {x y : Str} {scope : Scope} {k : Nat} {c : Addr} (c1 : closureFor scope X.env = pure [(y, c)]) (c2 : ∀ y ∈ scope.names, y.2 ≠ .cell) (c3 : scope.kind = .function) (c4 : ∀ y ∈ scope.names, y.2 = .local → scope.names.lookup y.1 = some .local)
    (c5 : scope.names.lookup x = some .local) (nd : [x, y].Nodup) (hc : X.env.cells.lookup y = some c) (c6 : ((relabel scope X.env).names.all fun p => !(p.2 == .cell || p.2 == .free) || (([(y, c)] : List (Str × Addr)).lookup p.1).isSome) = true)
    (hr : (relabel scope X.env).names.lookup y = some .cell) (hk : X.N[k]? = some y) (hs : X.env.scope.names.lookup y = some .cell) : CompScope X x [y] [k] scope [(y, c)] where
  clos := c1
  nocell := c2
  kind := c3
  names := c4
  own := c5
  nd := nd
  sub := fun p hp => by
    rw [List.mem_singleton.mp hp]
    exact hc
  has := c6
  outs := fun j z h => by
    cases j with
    | zero =>
      have e : y = z := Option.some.inj h
      subst e
      exact ⟨hr, k, c, rfl, hk, by simp [List.lookup], hs⟩
    | succ j => simp at h
/-- .. two names -/
theorem CompScope.two {X : Cx} {x y z : Str} {scope : Scope} {k l : Nat} {c d : Addr} {cl : List (Str × Addr)} (c1 : closureFor scope X.env = pure cl) (c2 : ∀ y ∈ scope.names, y.2 ≠ .cell) (c3 : scope.kind = .function) (c4 : ∀ y ∈ scope.names, y.2 = .local → scope.names.lookup y.1 = some .local)
    (c5 : scope.names.lookup x = some .local) (nd : [x, y, z].Nodup) (hcl : cl = [(z, d), (y, c)] ∨ cl = [(y, c), (z, d)]) (hc : X.env.cells.lookup y = some c) (hd : X.env.cells.lookup z = some d) (c6 : ((relabel scope X.env).names.all fun p => !(p.2 == .cell || p.2 == .free) || (cl.lookup p.1).isSome) = true)
    (hr : (relabel scope X.env).names.lookup y = some .cell) (hk : X.N[k]? = some y) (hs : X.env.scope.names.lookup y = some .cell)
    (hr2 : (relabel scope X.env).names.lookup z = some .cell) (hk2 : X.N[l]? = some z) (hs2 : X.env.scope.names.lookup z = some .cell) : CompScope X x [y, z] [k, l] scope cl where
  clos := c1
  nocell := c2
  kind := c3
  names := c4
  own := c5
  nd := nd
  sub := fun p hp => by
    rcases hcl with rfl | rfl
    all_goals
      rcases List.mem_cons.mp hp with e | e
      · rw [e]; assumption
      · rw [List.mem_singleton.mp e]; assumption
  has := c6
  outs := fun j w h => by
    have nyz : y ≠ z := fun e => by simp [e] at nd
    match j, h with
    | 0, h =>
      have e : y = w := Option.some.inj h
      subst e
      refine ⟨hr, k, c, rfl, hk, ?_, hs⟩
      rcases hcl with rfl | rfl
      · have : (y == z) = false := by simpa using nyz
        simp [List.lookup, this]
      · simp [List.lookup]
    | 1, h =>
      have e : z = w := Option.some.inj h
      subst e
      refine ⟨hr2, l, d, rfl, hk2, ?_, hs2⟩
      rcases hcl with rfl | rfl
      · simp [List.lookup]
      · have : (z == y) = false := by simpa using Ne.symm nyz
        simp [List.lookup, this]
    | j + 2, h => simp at h
end L2

namespace Mine
open PySem L2
/-! ### names and trees as the laws draw them -/
def NmOk (x : Str) : Prop := x.length ≤ 20 ∧ (∀ c ∈ x.cps.toList, 97 ≤ c ∧ c ≤ 122) ∧ x ≠ "aa"
theorem mem_slice {x : Str} {l u : Option Int} {c : Nat} (h : c ∈ (Txt.slice x l u).cps.toList) : c ∈ x.cps.toList := by
  have e : Txt.slice x l u = StrLaws.sliceText x l u := rfl
  rw [e] at h
  unfold StrLaws.sliceText at h
  split at h
  · exact h
  · obtain ⟨i, _, hi⟩ := List.mem_filterMap.mp (show c ∈ (List.filterMap _ _) by simpa using h)
    have := Array.mem_of_getElem? hi
    simpa using this
theorem mem_append {x y : Str} {c : Nat} (h : c ∈ (x ++ y).cps.toList) : c ∈ x.cps.toList ∨ c ∈ y.cps.toList := by
  have e : (x ++ y).cps.toList = x.cps.toList ++ y.cps.toList := by simp [Str.cps_append]
  rw [e] at h
  exact List.mem_append.mp h
theorem mem_join0 {zs : List Str} {c : Nat} (h : c ∈ (Txt.join "" zs).cps.toList) : ∃ z ∈ zs, c ∈ z.cps.toList := by
  have e : Txt.join "" zs = Str.join "" zs := by
    cases zs with
    | nil => rfl
    | cons a r => exact StrLaws.glued_cons "" r a
  rw [e] at h
  rcases (PyProof.Rows.mem_join "" c zs).mp h with h | ⟨_, h⟩
  · exact h
  · have e0 : (("" : Str)).cps.toList = [] := by decide +kernel
    rw [e0] at h
    cases h
inductive Tr where
  | is (x : Str) | yes | no | not (a : Tr) | bin (w : Str) (a b : Tr)
def Tr.size : Tr → Nat
  | .is _ => 1 | .yes => 1 | .no => 1 | .not a => a.size + 1 | .bin _ a b => a.size + b.size + 1
def Tr.depth : Tr → Nat
  | .is _ => 1 | .yes => 1 | .no => 1 | .not a => a.depth + 1 | .bin _ a b => max a.depth b.depth + 1
def Tr.names : Tr → List Str
  | .is x => [x] | .yes => [] | .no => [] | .not a => a.names | .bin _ a b => a.names ++ b.names
def joinW : List Str := ["and", "or", "odd", "same"]
def Tr.ok (ns : List Str) : Tr → Prop
  | .is x => x ∈ ns | .yes => True | .no => True | .not a => a.ok ns | .bin w a b => w ∈ joinW ∧ a.ok ns ∧ b.ok ns
inductive TreeAt (H : Hp) : V → Tr → Prop
  | is {a : Addr} {x : Str} : H a = some (.tup [.str "is", .str x]) → TreeAt H (.ref a) (.is x)
  | yes {a : Addr} : H a = some (.tup [.str "yes"]) → TreeAt H (.ref a) .yes
  | no {a : Addr} : H a = some (.tup [.str "no"]) → TreeAt H (.ref a) .no
  | not {a : Addr} {v : V} {t : Tr} : H a = some (.tup [.str "not", v]) → TreeAt H v t → TreeAt H (.ref a) (.not t)
  | bin {a : Addr} {w : Str} {v u : V} {t r : Tr} : H a = some (.tup [.str w, v, u]) → TreeAt H v t → TreeAt H u r → TreeAt H (.ref a) (.bin w t r)
abbrev KeepT (H H' : Hp) : Prop := ∀ a xs, H a = some (.tup xs) → H' a = some (.tup xs)
theorem keepT_same {H H' : Hp} (s : Same H H') : KeepT H H' := fun a _ h => s a _ h
theorem keepT_feed {H H' : Hp} {f : Addr} (F : FeedAt H f) (s : SameBut f H H') : KeepT H H' := fun a xs h => s a _ (fun z => by
  obtain ⟨o, t, e, _⟩ := F
  rw [z, e] at h
  cases h) h
def NamesAt (H : Hp) (a : Addr) (ns : List Str) : Prop := H a = some (.lst (ns.map V.str)) ∨ H a = some (.tup (ns.map V.str))
def spNames : Sp := fun vs H Q _ => ∃ (f : Addr) (m : Int), vs = [.ref f, .int m] ∧ FeedAt H f ∧ 0 ≤ m ∧ m ≤ 6 ∧ ∀ (l : Addr) (ns : List Str) (H' : Hp), H l = none → l ≠ f → H' l = some (.lst (ns.map V.str)) → ns.length = m.toNat → (∀ x ∈ ns, NmOk x) → FeedAt H' f → SameBut f H H' → Q (.ref l) H'
def spTree (n : Nat) : Sp := fun vs H Q _ => ∃ (f a : Addr) (room deep : Int) (ns : List Str), vs = [.ref f, .ref a, .int room, .int deep] ∧ FeedAt H f ∧ NamesAt H a ns ∧ ns.length ≤ 6 ∧ 1 ≤ room ∧ room ≤ 100 ∧ 1 ≤ deep ∧ deep + 1 ≤ (n : Int) + 1 ∧
  ∀ (v : V) (t : Tr) (H' : Hp), FeedAt H' f → SameBut f H H' → TreeAt H' v t → t.ok ns → (t.size : Int) ≤ room → (t.depth : Int) ≤ deep → Q v H'
theorem at_in {α : Type} {l : List α} {i : Int} (h0 : 0 ≤ i) (h : i < (l.length : Int)) : ∃ v, atI l i = some v ∧ v ∈ l := by
  have hk : i.toNat < l.length := by omega
  have q : atI l ((i.toNat : Nat) : Int) = some l[i.toNat] := atI_nat (List.getElem?_eq_getElem hk)
  have ek : ((i.toNat : Nat) : Int) = i := by omega
  rw [ek] at q
  exact ⟨_, q, List.getElem_mem hk⟩
end Mine

namespace L2
open PySem PySem.Spec PyProof.Rows
section
variable {X : Cx}
/-! ### list(range(a, b)) -/
def rngV (lo : Int) (n : Nat) : List Int := (List.range n).map fun i : Nat => lo + (i : Int)
def tListRng (ta : TA) : TE := fun σ H Q => ta σ H fun vs H1 => ∃ i j : Int, vs = [.int i, .int j] ∧ (-(2 ^ 62) ≤ i ∧ i < 2 ^ 62 ∧ -(2 ^ 62) ≤ j ∧ j < 2 ^ 62) ∧ j - i ≤ 1000 ∧ ∀ p, H1 p = none → Q (.ref p) (upd H1 p (.lst ((rngV i (j - i).toNat).map V.int)))
/-! ### sum(xs) -/
def rSum (K : PySem.W.Frag) : List V → Hp → VK → Prop := fun xs H Q => ∃ (a : Addr) (ns : List Int), xs = [.ref a] ∧ SqL K H a (ns.map V.int) ∧ (∀ n ∈ ns, 0 ≤ n) ∧ ns.sum < 2 ^ 63 ∧ Q (.int ns.sum) H
end
end L2

namespace L2
open PySem PySem.Spec PyProof.Rows
/-! ### list(reversed(t)), t a tuple -/
def RevT (h : Heap) (it t : Addr) (i : Int) : Prop := h.get? it = some { cls := .type "reversed", data := .fields #[.ref t, rawInt i] }
section
variable {prog : Program} {w : World} {A : Around} {E : Value → Shared → Prop} {s : Shared} {R : Result → Shared → Prop} {it t : Addr}
end
section
variable {X : Cx}
/-- list(reversed(e)), e a tuple -/
def tListRevT (K : PySem.W.Frag) (te : TE) : TE := fun σ H Q => te σ H fun x H1 => ∃ l ys, x = .ref l ∧ SqT K H1 l ys ∧ ∀ p, H1 p = none → Q (.ref p) (upd H1 p (.lst ys.reverse))
end
end L2

namespace Mine
open PySem L2
/-! ### more of trees: parts, sizes, data -/
def Tr.wf : Tr → Prop
  | .is x => NmOk x | .yes => True | .no => True | .not a => a.wf | .bin w a b => w ∈ joinW ∧ a.wf ∧ b.wf
def Tr.parts : Tr → List Tr
  | .is _ => [] | .yes => [] | .no => [] | .not a => [a] | .bin _ a b => [a, b]
def sizes (ts : List Tr) : Nat := (ts.map Tr.size).sum
def namesL (ts : List Tr) : List Str := (ts.map Tr.names).flatten
inductive TreesAt (H : Hp) : List V → List Tr → Prop
  | nil : TreesAt H [] []
  | cons {v : V} {t : Tr} {vs : List V} {ts : List Tr} : TreeAt H v t → TreesAt H vs ts → TreesAt H (v :: vs) (t :: ts)
def Tr.data : Tr → PyData
  | .is x => .tuple [.str "is", .str x] | .yes => .tuple [.str "yes"] | .no => .tuple [.str "no"] | .not a => .tuple [.str "not", a.data] | .bin w a b => .tuple [.str w, a.data, b.data]
end Mine

namespace L2
open PySem PySem.Spec PyProof.Rows
/-! ### xs.index(x) -/
section
variable {prog : Program} {w : World} {A : Around} {E : Value → Shared → Prop} {s : Shared}
def idxF (xs : Array Value) (x : Value) : Nat → Option PySem.Fin × Unit → Sem (ForInStep (Option PySem.Fin × Unit)) := fun i _ => match xs[i]? with
  | some y => do
    let b ← eqBool y x
    if b = true then do
        let r ← retInt (i : Int)
        pure (ForInStep.done (some r, ()))
      else pure (ForInStep.yield (none, ()))
  | _ => pure (ForInStep.yield (none, ()))
end
section
variable {X : Cx}
/-- the place of the first text z in ns -/
def posOf (z : Str) : List Str → Option Nat
  | [] => none
  | a :: r => if a = z then some 0 else (posOf z r).map (· + 1)
def rIndexT (K : PySem.W.Frag) : V → List V → Hp → VK → Prop := fun x vs H Q => ∃ (a : Addr) (ns : List Str) (z : Str) (j : Nat), x = .ref a ∧ vs = [.str z] ∧ SqT K H a (ns.map V.str) ∧ posOf z ns = some j ∧ Q (.int (j : Int)) H
def rIndexL (K : PySem.W.Frag) : V → List V → Hp → VK → Prop := fun x vs H Q => ∃ (a : Addr) (ns : List Str) (z : Str) (j : Nat), x = .ref a ∧ vs = [.str z] ∧ SqL K H a (ns.map V.str) ∧ posOf z ns = some j ∧ Q (.int (j : Int)) H
end
end L2

namespace L2
open PySem PySem.Spec PyProof.Rows

/-! ### lists of pairs as tables -/
section
variable {κ : Type} [DecidableEq κ]
def valV (kvs : List (κ × V)) (k : κ) : Option V := (kvs.find? fun kv => decide (kv.1 = k)).map (·.2)
/-- in its place, or at the end -/
def putK (kvs : List (κ × V)) (k : κ) (v : V) : List (κ × V) :=
  if (kvs.any fun kv => decide (kv.1 = k)) = true then kvs.map (fun kv => if kv.1 = k then (kv.1, v) else kv) else kvs ++ [(k, v)]
def dropK (kvs : List (κ × V)) (k : κ) : List (κ × V) := kvs.filter fun kv => decide (kv.1 ≠ k)

end


/-! ### a tracked dict, its keys ints and texts or tuples of these -/
/-- raw entries of a dict with tuple keys -/
abbrev KT (H : Hp) : List (List Key × V) → List (List Key × Addr × Value) → Prop := Paired fun p q => p.1 = q.1 ∧ H q.2.1 = some (.tup (p.1.map kV)) ∧ RelV p.2 q.2.2
section
variable {P : Program} {w : World} {H : Hp} {h : Heap} {a : Addr}
end

/-- what the dict at a holds at the key y -/
def DGet (H : Hp) (a : Addr) (y : V) (r : Option V) : Prop :=
  (∃ kvs k, Rd H a (.dK kvs) ∧ y = kV k ∧ r = valV kvs k) ∨ ∃ kvs k b, Rd H a (.dT kvs) ∧ y = .ref b ∧ H b = some (.tup (k.map kV)) ∧ r = valV kvs k
/-- the heap behind a[y] = v -/
def DPut (H : Hp) (a : Addr) (y v : V) (H' : Hp) : Prop :=
  (∃ kvs k, H a = some (.dK kvs) ∧ y = kV k ∧ kvs.length < sizeLine ∧ H' = upd H a (.dK (putK kvs k v))) ∨
  ∃ kvs k b, H a = some (.dT kvs) ∧ y = .ref b ∧ H b = some (.tup (k.map kV)) ∧ kvs.length < sizeLine ∧ H' = upd H a (.dT (putK kvs k v))
section
variable {X : Cx} {pins : List (Addr × Obj)} {σ : St} {H : Hp} {s : Shared} {a : Addr} {y v : V} {u r : Value} {o : Option V} {A : Around} {E : Value → Shared → Prop}

end

section
variable {X : Cx} {pins : List (Addr × Obj)} {σ : St} {H : Hp} {s : Shared} {a : Addr} {kvs : List (Key × V)} {k : Key} {u : Value} {A : Around} {E : Value → Shared → Prop}
end


/-! ### readings and rules -/
/-- the element of a subscription, not a slice -/
def NoSl (i : Expr) : Prop := ∀ ov iv, subscripted i false ov iv = operate [ov, iv] (getItem ov iv)
/-- d[y] -/
def tDGet (td ty : TE) : TE := fun σ H Q => td σ H fun x H1 => ty σ H1 fun y H2 => ∃ a v, x = .ref a ∧ DGet H2 a y (some v) ∧ Q v H2
/-- y in d, y not in d -/
def tDIn (ty td : TE) : TE := fun σ H Q => ty σ H fun y H1 => td σ H1 fun x H2 => ∃ a o, x = .ref a ∧ DGet H2 a y o ∧ Q (.bl o.isSome) H2
def tDNotIn (ty td : TE) : TE := fun σ H Q => ty σ H fun y H1 => td σ H1 fun x H2 => ∃ a o, x = .ref a ∧ DGet H2 a y o ∧ Q (.bl (!o.isSome)) H2
/-- d[y] = v -/
def sDPut (td ty tv : TE) : TS := fun D σ H => tv σ H fun v H1 => td σ H1 fun x H2 => ty σ H2 fun y H3 => ∃ a H4, x = .ref a ∧ DPut H3 a y v H4 ∧ D.nx σ H4
/-- d[y] op= v -/
def sDAug (td ty tv : TE) (rd : V → V → Hp → VK → Prop) : TS := fun D σ H => td σ H fun x H1 => ty σ H1 fun y H2 => ∃ a v, x = .ref a ∧ DGet H2 a y (some v) ∧
  tv σ H2 fun y2 H3 => rd v y2 H3 fun z H4 => ∃ H5, DPut H4 a y z H5 ∧ D.nx σ H5
/-- del d[y] -/
def sDDel (td ty : TE) : TS := fun D σ H => td σ H fun x H1 => ty σ H1 fun y H2 => ∃ a kvs k, x = .ref a ∧ H2 a = some (.dK kvs) ∧ y = kV k ∧ (valV kvs k).isSome = true ∧ D.nx σ (upd H2 a (.dK (dropK kvs k)))

section
variable {X : Cx} {o i e value : Expr} {pos pos' tpos : Pos} {td ty tv : TE}
end


/-! ### displays -/
/-- {}, to be a dict of the kind that is wanted -/
def tDNewK : TE := fun _ H Q => ∀ p, H p = none → Q (.ref p) (upd H p (.dK []))
def tDNewT : TE := fun _ H Q => ∀ p, H p = none → Q (.ref p) (upd H p (.dT []))
section
variable {X : Cx} {pos : Pos}
end

/-- the pairs of a display, from the left -/
def tPairs : List (TE × TE) → St → Hp → (List (V × V) → Hp → Prop) → Prop
  | [], _, H, Q => Q [] H
  | (tk, tv) :: r, σ, H, Q => tk σ H fun x H1 => tv σ H1 fun y H2 => tPairs r σ H2 fun ps H3 => Q ((x, y) :: ps) H3
abbrev VV : List (V × V) → List (Value × Value) → Prop := Paired fun p q => RelV p.1 q.1 ∧ RelV p.2 q.2
def PPs (X : Cx) (pos : Pos) (keys : List (Option Expr)) (values : List Expr) (trs : List (TE × TE)) : Prop :=
  ∀ (pins : List (Addr × Obj)) (s : Shared) (σ : St) (H : Hp) (Q : List (V × V) → Hp → Prop), Inv X pins σ H s → tPairs trs σ H Q →
    wpAny (model X.prog X.w) X.A (evalPairs (pairTrees keys values X.env pos)) (fun vs s' => ∃ ps H', Inv X pins σ H' s' ∧ VV ps vs ∧ Q ps H') X.xe s
def mergeK (kvs more : List (Key × V)) : List (Key × V) := more.foldl (fun acc kv => putK acc kv.1 kv.2) kvs
/-- {k: v, ..} with keys ints and texts; the new dict stands empty while the pairs are made -/
def tDisp (trs : List (TE × TE)) : TE := fun σ H Q => ∀ p, H p = none → tPairs trs σ (upd H p (.dK [])) fun ps H2 => H2 p = some (.dK []) ∧ ∃ kvs : List (Key × V), ps = kvs.map (fun kv => (kV kv.1, kv.2)) ∧ kvs.length ≤ 15 ∧ Q (.ref p) (upd H2 p (.dK (mergeK [] kvs)))
/-! ### methods -/
/-- a method call o.m(e) of a built-in, with one argument: what must be seen of the text -/
structure M1 (X : Cx) (o : Expr) (m : Str) (apos : Pos) (e : Expr) (cpos : Pos) : Prop where
  base : attributeBase o m X.env (eval o X.env) = eval o X.env
  few : ((backTo cpos (starEach [e] X.env)).all (fun x => !x.1) && (backToKw cpos (keywordEach [] X.env)).all (fun x => x.1.isSome)
    && decide (([e] : List Expr).length + ([] : List Keyword).length + (if ([] : List Keyword).isEmpty then 0 else 1) < 30)) = true
  line : (apos.endLine == cpos.line) = true
  trees : backTo cpos (starEach [e] X.env) = [(false, eval e X.env)]
structure M2 (X : Cx) (o : Expr) (m : Str) (apos : Pos) (e f : Expr) (cpos : Pos) : Prop where
  base : attributeBase o m X.env (eval o X.env) = eval o X.env
  few : ((backTo cpos (starEach [e, f] X.env)).all (fun x => !x.1) && (backToKw cpos (keywordEach [] X.env)).all (fun x => x.1.isSome)
    && decide (([e, f] : List Expr).length + ([] : List Keyword).length + (if ([] : List Keyword).isEmpty then 0 else 1) < 30)) = true
  line : (apos.endLine == cpos.line) = true
  trees : backTo cpos (starEach [e, f] X.env) = [(false, eval e X.env), (false, eval f X.env)]

/-- a is a dict, whatever its keys -/
def IsD (H : Hp) (a : Addr) : Prop := (∃ kvs, Rd H a (.dK kvs)) ∨ ∃ kvs, Rd H a (.dT kvs)
section
variable {X : Cx} {pins : List (Addr × Obj)} {σ : St} {H : Hp} {s : Shared} {a : Addr} {y d : V} {u r : Value} {o : Option V} {A : Around} {E : Value → Shared → Prop}
end

def tDGet1 (td ty : TE) : TE := fun σ H Q => td σ H fun x H1 => ∃ a, x = .ref a ∧ IsD H1 a ∧ ty σ H1 fun y H2 => ∃ o, DGet H2 a y o ∧ Q (o.getD .non) H2
def tDGet2 (td ty tx : TE) : TE := fun σ H Q => td σ H fun x H1 => ∃ a, x = .ref a ∧ IsD H1 a ∧ ty σ H1 fun y H2 => tx σ H2 fun z H3 => ∃ o, DGet H3 a y o ∧ Q (o.getD z) H3
/-- d.pop(k): there; d.pop(k, x): there or not -/
def tDPop1 (td ty : TE) : TE := fun σ H Q => td σ H fun x H1 => ∃ a, x = .ref a ∧ IsD H1 a ∧ ty σ H1 fun y H2 => ∃ kvs k v, H2 a = some (.dK kvs) ∧ y = kV k ∧ valV kvs k = some v ∧ Q v (upd H2 a (.dK (dropK kvs k)))
def tDPop2 (td ty tx : TE) : TE := fun σ H Q => td σ H fun x H1 => ∃ a, x = .ref a ∧ IsD H1 a ∧ ty σ H1 fun y H2 => tx σ H2 fun z H3 => ∃ kvs k, H3 a = some (.dK kvs) ∧ y = kV k ∧
  (∀ v, valV kvs k = some v → Q v (upd H3 a (.dK (dropK kvs k)))) ∧ (valV kvs k = none → Q z H3)
section
variable {X : Cx} {o e f : Expr} {apos cpos : Pos} {td ty tx : TE}
end

/-! ### dict(d): a copy -/
section
variable {X : Cx} {pins : List (Addr × Obj)} {σ : St} {H : Hp} {s : Shared} {a : Addr} {kvs : List (Key × V)} {A : Around} {E : Value → Shared → Prop}
end


section
variable {X : Cx} {pins : List (Addr × Obj)} {σ : St} {H : Hp} {s : Shared} {a : Addr} {y : V} {u : Value} {A : Around} {E : Value → Shared → Prop}
end
end L2

namespace L2
open PySem PySem.Spec PyProof.Rows
/-! ### xs.index(z), xs a list or a tuple -/
section
variable {X : Cx}
def tIndex (K : PySem.W.Frag) (to : TE) (t : TA) : TE := fun σ H Q => to σ H fun x H1 => ∃ (a : Addr) (ns : List Str), x = .ref a ∧ (H1 a = some (.lst (ns.map V.str)) ∨ H1 a = some (.tup (ns.map V.str))) ∧ t σ H1 fun vs H2 => (H2 a = H1 a) ∧ ∃ (z : Str) (j : Nat), vs = [.str z] ∧ posOf z ns = some j ∧ Q (.int (j : Int)) H2
variable {o e : Expr} {es : List Expr} {to : TE} {t : TA} {apos cpos : Pos}
end
end L2

namespace L2
open PySem PySem.Spec PyProof.Rows
end L2

namespace L2
open PySem PySem.Spec PyProof.Rows
/-! ### xs.count(z) -/
section
variable {X : Cx}
def rCountL (K : PySem.W.Frag) : V → List V → Hp → VK → Prop := fun x vs H Q => ∃ (a : Addr) (xs : List V) (z : V), x = .ref a ∧ vs = [z] ∧ SqL K H a xs ∧ xs.all flatV = true ∧ flatV z = true ∧ Q (.int ((xs.countP fun y => eqV y z : Nat) : Int)) H
end
/-! ### xs[::-1] -/
section
variable {prog : Program} {w : World} {A : Around} {E : Value → Shared → Prop} {s : Shared}
end
section
variable {X : Cx} {e k : Expr} {te tk : TE} {pos p2 : Pos}
/-- e[::k], k being -1 -/
def tRev (K : PySem.W.Frag) (te tk : TE) : TE := fun σ H Q => te σ H fun x H1 => tk σ H1 fun y H2 => y = .int (-1) ∧ ∃ a xs, x = .ref a ∧
  ((SqL K H2 a xs ∧ ∀ p, H2 p = none → Q (.ref p) (upd H2 p (.lst xs.reverse))) ∨ (SqT K H2 a xs ∧ ∀ p, H2 p = none → Q (.ref p) (upd H2 p (.tup xs.reverse))))
end
/-! ### max(t, default=d), t a tuple of ints -/
def bestI (g : Nat → Int) : Nat → Int
  | 0 => g 0
  | k + 1 => if bestI g k < g (k + 1) then g (k + 1) else bestI g k
def maxD (ns : List Int) (d : Int) : Int := match ns with | [] => d | _ :: _ => bestI (fun i => ns[i]?.getD 0) (ns.length - 1)
section
variable {prog : Program} {w : World} {A : Around} {R : Result → Shared → Prop} {I S : Addr} {fp wr : List Addr} {n : Nat} {P : Nat → Value → Prop} {St : Nat → Heap → Prop} {g : Nat → Int} {kw : List (Str × Value)}
end
section
variable {X : Cx} {e k : Expr} {te tk : TE} {pos p1 kp : Pos}
def tMaxD (K : PySem.W.Frag) (te tk : TE) : TE := fun σ H Q => te σ H fun x H1 => tk σ H1 fun y H2 => ∃ a ns d, x = .ref a ∧ y = .int d ∧ SqT K H2 a (ns.map V.int) ∧ Q (.int (maxD ns d)) H2
/-- max(xs), xs a list of ints, not empty -/
def rMax1 (K : PySem.W.Frag) : List V → Hp → VK → Prop := fun xs H Q => ∃ a ns, xs = [.ref a] ∧ SqL K H a (ns.map V.int) ∧ ns ≠ [] ∧ Q (.int (maxD ns 0)) H
end
end L2

namespace L2
open PySem PySem.Spec PyProof.Rows
/-! ### enumerate of a tuple -/
section
variable {prog : Program} {w : World} {A : Around} {E : Value → Shared → Prop} {s : Shared}
theorem tn_item {it t : Addr} {i : Nat} {items : Array Value} {x : Value} {Q : Value → Shared → Prop} (hit : s.heap.IsTupleIter it t i) (ht : s.heap.IsTuple t items) (hx : items[i]? = some x)
    (q : ∀ h', h'.IsTupleIter it t (i + 1) → Heap.SameBut it s.heap h' → Q x { s with heap := h' }) : wpAny (model prog w) A (Builtin.SmallTypes.nextOf (.ref it)) Q E s := by
  obtain ⟨o, ho, hc, hd⟩ := id hit; obtain ⟨ol, hol, _, nl, hdl⟩ := ht
  unfold Builtin.SmallTypes.nextOf
  refine wpAny_bind (wpAny_callSpecial?_slot (name := Str.ofString "__next__") hit.typeIs F.slot_tuple_iterator_next (wpAny_call_entry F.slot_tuple_iterator_next hit.typeIs F.entry_tuple_iterator_next ?_ (F.args_tuple_iterator_next_1 _)))
  show wpAny _ _ (field (.ref it) 0 >>= _) _ _ s; refine wpAny_bind (wpAny_field ho hd (x := .ref t) rfl ?_)
  show wpAny _ _ (if (Value.ref t == Value.none) = true then _ else _) _ _ s; rw [if_neg (show ¬ ((Value.ref t == Value.none) = true) from Bool.false_ne_true)]
  show wpAny _ _ (field (.ref it) 1 >>= _) _ _ s; refine wpAny_bind (wpAny_field ho hd (x := .int i 0) rfl ?_)
  show wpAny _ _ (seqItems? (.ref t) >>= _) _ _ s; refine wpAny_bind (wpAny_seqItems hol hdl ?_)
  simp only [Int.toNat_natCast, hx]
  refine wpAny_bind (wpAny_setField ho hd (by simp) (wpAny_pure ⟨x, rfl, wpAny_pure (q _ ?_ (Heap.SameBut.update ..))⟩))
  exact ⟨_, Heap.get?_update_self _ ho (Obj.isFreed_of_fields (Obj.data_mapFields hd _)), (Obj.cls_mapFields ..).trans hc, by rw [Obj.data_mapFields hd]; simp [rawInt]⟩
theorem tn_end {it t : Addr} {i : Nat} {items : Array Value} {Q : Value → Shared → Prop} (hh : A.handled = none) (hit : s.heap.IsTupleIter it t i) (ht : s.heap.IsTuple t items) (hx : items[i]? = none)
    (q : ∀ h' e, Heap.ExtBut it s.heap h' → (∃ o, h'.get? e = some o ∧ o.cls = .type "StopIteration") → E (.ref e) { s with heap := h' }) : wpAny (model prog w) A (Builtin.SmallTypes.nextOf (.ref it)) Q E s := by
  obtain ⟨o, ho, hc, hd⟩ := id hit; obtain ⟨ol, hol, _, nl, hdl⟩ := ht
  unfold Builtin.SmallTypes.nextOf
  refine wpAny_bind (wpAny_callSpecial?_slot (name := Str.ofString "__next__") hit.typeIs F.slot_tuple_iterator_next (wpAny_call_entry F.slot_tuple_iterator_next hit.typeIs F.entry_tuple_iterator_next ?_ (F.args_tuple_iterator_next_1 _)))
  show wpAny _ _ (field (.ref it) 0 >>= _) _ _ s; refine wpAny_bind (wpAny_field ho hd (x := .ref t) rfl ?_)
  show wpAny _ _ (if (Value.ref t == Value.none) = true then _ else _) _ _ s; rw [if_neg (show ¬ ((Value.ref t == Value.none) = true) from Bool.false_ne_true)]
  show wpAny _ _ (field (.ref it) 1 >>= _) _ _ s; refine wpAny_bind (wpAny_field ho hd (x := .int i 0) rfl ?_)
  show wpAny _ _ (seqItems? (.ref t) >>= _) _ _ s; refine wpAny_bind (wpAny_seqItems hol hdl ?_)
  simp only [Int.toNat_natCast, hx]
  first
    | refine wpAny_bind (wpAny_rule (wpAny_bind (wpAny_setField ho hd (by simp) (wpAny_bind (wpAny_letGo ?_)))))
    | refine wpAny_bind (wpAny_rule (wpAny_bind (wpAny_setField ho hd (by simp) ?_)))
  show wpAny _ _ (newExc (.type "StopIteration") [] >>= _) _ _ _; refine wpAny_bind ?_
  simp only [newExc, newTuple]; refine wpAny_bind (wpAny_newObj_type ?_ (by size_fits))
  refine wpAny_bind (m := firstArgMember _ _) (wpAny_of_eq (a := Value.none) (by first | rfl | (simp only [firstArgMember]; rfl)) ?_); refine wpAny_newObj_type ?_ (by size_fits)
  simp only [raiseNew]; refine wpAny_bind (wpAny_handled ?_)
  first | rw [show A.in1.handled = none from hh] | rw [hh]
  refine wpAny_bind (wpAny_pure (wpAny_throw ?_)); exact q _ _ (((Heap.SameBut.update ..).extBut.push _).push _) ⟨_, Heap.get?_push_size _ rfl, rfl⟩
end
open AutoSeq1 (wpAny_loadPart') in
set_option maxHeartbeats 1000000 in
section
variable {prog : Program} {w : World} {A : Around} {E : Value → Shared → Prop} {s : Shared}
end
def IteT (K : PySem.W.Frag) (a : Addr) : It :=
  ⟨fun i H => ∃ xs x, SqT K H a xs ∧ xs[i]? = some x, fun i H y H' => ∃ t, y = .ref t ∧ H t = none ∧ ∀ xs x, SqT K H a xs → xs[i]? = some x → H' = upd H t (.tup [.int i, x]), fun i H => ∃ xs, SqT K H a xs ∧ xs.length ≤ i⟩
section
variable {X : Cx} {elts : List Expr} {k : Nat} {tpos : Pos}
def iEnumT (K : PySem.W.Frag) (tl : TE) : TI := fun σ H R => tl σ H fun x H1 => ∃ a, x = .ref a ∧ (∃ xs, SqT K H1 a xs) ∧ R (IteT K a) H1
end
end L2

namespace L2
open PySem PySem.Spec PyProof.Rows
/-! ### for x in reversed(xs), xs a list -/
def ItV (K : PySem.W.Frag) (a : Addr) (xs : List V) : It := ⟨fun i H => SqL K H a xs ∧ i < xs.length, fun i H y H' => H' = H ∧ xs.reverse[i]? = some y, fun i _ => xs.length ≤ i⟩
section
variable {X : Cx} {tg : Expr}
def iRevL (K : PySem.W.Frag) (tl : TE) : TI := fun σ H R => tl σ H fun x H1 => ∃ a xs, x = .ref a ∧ SqL K H1 a xs ∧ R (ItV K a xs) H1
end
end L2
namespace L2
open PySem PySem.Spec PyProof.Rows
section
variable {X : Cx} {o e : Expr} {es : List Expr} {to ta : TE} {t : TA} {T id : String} {name f : Str} {r : V → List V → Hp → VK → Prop} {apos cpos pos : Pos}
end
end L2

namespace L2
open PySem PySem.Spec PyProof.Rows
/-! ### a comprehension whose own name another one within it sees -/
@[reducible] def cxCompO (X : Cx) (x : Str) (N : List Str) (scope : Scope) (cl : List (Str × Addr)) (s : Shared) (H : Hp) (fp : List Addr) : Cx where
  prog := X.prog
  w := X.w
  K := X.K
  mg := X.mg
  base := X.base
  A := X.A
  N := x :: N
  s₀ := s
  H₀ := H
  env := compEnvC scope ((x, s.heap.objs.size + 1) :: cl) s.heap.objs.size X.env
  outer := X.stack
  stack := X.stack
  ex := fp
  fn := fun y => y == x
  calm := X.calm
  pn := []
  xe := fun _ _ => False
structure CompScopeO (X : Cx) (x : Str) (N : List Str) (ix : List Nat) (scope : Scope) (cl : List (Str × Addr)) : Prop where
  clos : closureFor scope X.env = pure cl
  lay : ∀ (n : Addr) (h : Heap), cellsFrom n scope.names cl = (x, n) :: cl ∧ pushCells h scope.names = h.push { cls := .type "cell", data := .cell none }
  kind : scope.kind = .function
  names : ∀ y ∈ scope.names, y.2 = .local → scope.names.lookup y.1 = some .local
  own : (relabel scope X.env).names.lookup x = some .cell
  nd : (x :: N).Nodup
  sub : ∀ p ∈ cl, X.env.cells.lookup p.1 = some p.2
  has : ((relabel scope X.env).names.all fun p => !(p.2 == .cell || p.2 == .free) || (p.1 == x || (cl.lookup p.1).isSome)) = true
  outs : ∀ (j : Nat) (y : Str), N[j]? = some y → (relabel scope X.env).names.lookup y = some .cell ∧ ∃ k c, ix[j]? = some k ∧ X.N[k]? = some y ∧ cl.lookup y = some c ∧ X.env.scope.names.lookup y = some .cell
section
variable {X : Cx} {pins : List (Addr × Obj)} {σ : St} {x : Str} {N : List Str} {ix : List Nat} {scope : Scope} {cl : List (Str × Addr)} {fp : List Addr} {H3 : Hp} {s3 : Shared}
end
section
variable {M : Model} {A : Around} {E : Value → Shared → Prop} {s : Shared}
end
section
variable {X : Cx} {x : Str} {N : List Str} {ix : List Nat} {scope : Scope} {cl : List (Str × Addr)} {elt iter : Expr} {ifs : List Expr} {px pos : Pos} {wi : TI} {tb : TBl}
end
end L2

namespace L2
open PySem PySem.Spec PyProof.Rows
end L2

namespace L2
open PySem PySem.Spec PyProof.Rows
/-! ### range(a, b, c) of a step above 0 -/
def ItrS (lo c : Int) (n : Nat) : It := ⟨fun i _ => i < n, fun i H x H' => H' = H ∧ x = .int (lo + i * c), fun i _ => n ≤ i⟩
section
variable {X : Cx} {tg : Expr}
def iRng3 (ta : TA) : TI := fun σ H R => ta σ H fun vs H1 => ∃ i j c : Int, vs = [.int i, .int j, .int c] ∧ 0 < c ∧ c < 1000000 ∧ Builtin.Range.small i j c = true ∧ R (ItrS i c (Builtin.Range.rangeSize i j c).toNat) H1
end
end L2

namespace L2
open PySem PySem.Spec PyProof.Rows
section
variable {X : Cx}
/-! ### list(range(b)), sorted(xs) -/
def tListRng1 (ta : TA) : TE := fun σ H Q => ta σ H fun vs H1 => ∃ j : Int, vs = [.int j] ∧ 0 ≤ j ∧ j ≤ 1000 ∧ ∀ p, H1 p = none → Q (.ref p) (upd H1 p (.lst ((rngV 0 j.toNat).map V.int)))
def rSorted (K : PySem.W.Frag) : List V → Hp → VK → Prop := fun xs H Q => ∃ a ns, xs = [.ref a] ∧ SqL K H a (ns.map V.int) ∧ ns.length < 64 ∧ ∀ p ms, H p = none → List.Perm ms ns → ms.Pairwise (· ≤ ·) → Q (.ref p) (upd H p (.lst (ms.map V.int)))
end
end L2

namespace L2
open PySem PySem.Spec PyProof.Rows PySem.Builtin PySem.Builtin.Str
/-! ### text.split(sep) -/
section
variable {prog : Program} {w : World} {A : Around} {E : Value → Shared → Prop} {s : Shared} {Q : Value → Shared → Prop} {x : PySem.Str} {t : Tok}
theorem split_push {y : PySem.Str} {u : Tok} (hy : (y.length == 0) = false)
    (h : ∀ l k, l.map (·.1) = Txt.split x y → Q (.ref s.heap.objs.size) { s with heap := s.heap.push { cls := .type "list", data := .seq (strValues l).toArray }, toks := k })
    (hsz : x.length + 2 ≤ sizeLine) : wpAny (model prog w) A (call (.builtin "str.split") [.str x t, .str y u]) Q E s := by
  have hn : (partsBetween x (occurrences x y 0 x.length (x.length + 1)) y.length).length ≤ sizeLine := by
    have e1 := StrLaws.occ_length_le x y 0 x.length (x.length + 1)
    rw [length_partsBetween]; omega
  cases h1 : (decide (x.length < y.length) || decide (strKind x < strKind y))
  · cases hf : (occurrences x y 0 x.length (x.length + 1)).isEmpty
    · refine call_meets F.slot_str_split (typeIs_str _ _ _) F.entry_str_split (F.args_str_split_2 _ _) (meets_str_split_sep x y t u h1 hy hf (by omega) hn) ?_
      show wants Q E _ { s with toks := _, heap := s.heap.push { cls := .type "list", data := .seq (strsFrom s.toks (partsBetween x (occurrences x y 0 x.length (x.length + 1)) y.length)).toArray } }
      rw [strsFrom_eq]
      exact h (numbered s.toks _) _ ((numbered_texts _ _).trans ((if_neg (ne_true_of_eq_false h1)).trans (if_neg (ne_true_of_eq_false hf))).symm)
    · exact call_meets F.slot_str_split (typeIs_str _ _ _) F.entry_str_split (F.args_str_split_2 _ _) (meets_str_split_not_found x y t u h1 hy hf)
        (h [(x, t)] s.toks ((if_neg (ne_true_of_eq_false h1)).trans (if_pos hf)).symm)
  · exact call_meets F.slot_str_split (typeIs_str _ _ _) F.entry_str_split (F.args_str_split_2 _ _) (meets_str_split_cannot_occur x y t u h1)
      (h [(x, t)] s.toks (if_pos h1).symm)
end
theorem strVals : ∀ l : List (PySem.Str × Tok), Vals ((l.map (·.1)).map V.str) (strValues l)
  | [] => .nil
  | (x, t) :: r => .cons ⟨t, rfl⟩ (strVals r)
section
variable {X : Cx}
def rSplit : V → List V → Hp → VK → Prop := fun x vs H Q => ∃ z u, x = .str z ∧ vs = [.str u] ∧ 0 < u.length ∧ z.length ≤ 100000 ∧ (Txt.split z u).length ≤ 100000 ∧ ∀ p, H p = none → Q (.ref p) (upd H p (.lst ((Txt.split z u).map V.str)))
theorem mt_split : MtR X "str.split" rSplit := by
  intro pins s σ H x vs v us Q I rx rv h
  obtain ⟨z, u, rfl, rfl, hu, hz, hl, q⟩ := h
  obtain ⟨t, rfl⟩ := rx
  obtain ⟨w', rfl, t', rfl⟩ := rv.one
  have sl : sizeLine = 16777216 := sizeLine_eq
  refine split_push (by rw [beq_eq_false_iff_ne]; omega) (fun l k e => ?_) (by omega)
  have r := strVals l
  rw [e] at r
  exact ⟨.ref _, _, I.lnew (t' := k) r (by rw [List.length_map]; omega), rfl, q _ I.fresh⟩
/-! ### int(text) -/
theorem call_int_text : CallR X (.type "int") (fun xs H Q => ∃ x n, xs = [.str x] ∧ PySem.intText? x = some n ∧ x.length ≤ 640 ∧ Q (.int n) H) := by
  intro pins s σ H xs us Q I r h
  obtain ⟨x, n, rfl, e, hl, q⟩ := h
  obtain ⟨u, rfl, t, rfl⟩ := vals1 r
  exact PySem.W.KIN.call_text e hl ⟨.int n, H, I.tok _, ⟨_, rfl⟩, q⟩
end
end L2
namespace L2
open PySem PySem.Spec PyProof.Rows
section
variable {X : Cx} {e : Expr} {te : TE} {p pos pos1 : Pos}
/-! ### isinstance(e, (tuple, list)) -/
def tIsiT (te : TE) : TE := fun σ H Q => te σ H fun x H1 => ∃ a xs, x = .ref a ∧ (H1 a = some (.lst xs) ∨ H1 a = some (.tup xs)) ∧ Q (.bl true) H1
end
end L2

namespace HT
open PySem PyProof.Rows
section
variable {prog : Program} {w : World} {A : Around} {E : Value → Shared → Prop} {s : Shared}
theorem getItem_tuple_whole {t sl : Addr} {items : Array Value} {vl vu : Value} {lo hi : Option Int} {Q : Value → Shared → Prop} (ht : IsTup s.heap t items) (hs : s.heap.IsSliceOf sl vl vu .none) (pl : IsPart vl lo) (pu : IsPart vu hi)
    (hw : sIx items.size 0 lo = 0 ∧ sIx items.size items.size hi = items.size) (h : Q (.ref t) s) : wpAny (model prog w) A (getItem (.ref t) (.ref sl)) Q E s := by
  obtain ⟨os, hos, hcs, hds⟩ := id hs
  have hTs : s.TypeIs (.ref sl) "slice" := ⟨os, hos, hcs⟩
  unfold getItem
  try with_reducible refine wpAny_holding ?_
  first | refine wpAny_bind (wpAny_pure ?_) | skip
  refine wpAny_bind (wpAny_sequenceKey ht.typeIs (by decide) ?_)
  refine wpAny_bind (wpAny_callSpecial?_slot (name := Str.ofString "__getitem__") ht.typeIs PyProof.Rows.slot_tuple_getitem
    (wpAny_call_entry PyProof.Rows.slot_tuple_getitem ht.typeIs entry_tuple_getitem ?_ (args_tuple_getitem _ _)))
  show wpAny _ _ (Builtin.Tuple.tupleItemsOf (.ref t) >>= _) _ _ s
  refine wpAny_bind (tupleItemsOf_ ht ?_)
  refine wpAny_bind (wpAny_typeOf hTs ?_)
  rw [if_pos (by decide)]
  refine wpAny_bind (sliceApplied_gen hs pl pu ?_)
  have hyes : (((sIx items.size 0 lo : Nat) : Int) == 0 && (1 : Int) == 1 && (sIx items.size items.size hi - sIx items.size 0 lo) == items.size) = true := by
    rw [hw.1, hw.2, Nat.sub_zero]
    simp
  show wpAny _ _ (if (((sIx items.size 0 lo : Nat) : Int) == 0 && (1 : Int) == 1 && (sIx items.size items.size hi - sIx items.size 0 lo) == items.size) = true then _ else _) _ _ s
  rw [if_pos hyes]
  refine wpAny_bind ?_
  unfold Builtin.Tuple.tupleIsExact
  refine wpAny_bind (wpAny_typeOf ht.typeIs (wpAny_pure ?_))
  rw [if_pos (by decide)]
  first
    | exact wpAny_bind (wpAny_rule (wpAny_pure ⟨_, rfl, wpAny_pure h⟩))
    | (refine wpAny_pure ?_; exact ⟨_, rfl, wpAny_pure h⟩)
    | (refine wpAny_bind (wpAny_pure ?_); refine wpAny_pure ?_; exact ⟨_, rfl, wpAny_pure h⟩)
    | (refine wpAny_bind (wpAny_pure ?_); refine wpAny_bind (wpAny_pure ?_); refine wpAny_pure ?_; exact ⟨_, rfl, wpAny_pure h⟩)
    | (refine wpAny_bind (wpAny_bind (wpAny_pure ?_)); refine wpAny_pure ?_; exact ⟨_, rfl, wpAny_pure h⟩)
end
end HT
namespace L2
open PySem PySem.Spec PyProof.Rows
section
variable {X : Cx}
/-- t[lo:hi], the whole of it: t itself -/
def rSlTW (K : PySem.W.Frag) : V → Option Int → Option Int → Hp → VK → Prop := fun x lo hi H Q => ∃ a xs, x = .ref a ∧ SqT K H a xs ∧
  (HT.sIx xs.length 0 lo = 0 ∧ HT.sIx xs.length xs.length hi = xs.length) ∧ Q (.ref a) H
theorem sl_tupW : SlR X (rSlTW X.K) := by
  intro pins s σ H x v vl vu lo hi sl Q I rx hs pl pu h
  obtain ⟨a, xs, rfl, hx, hw, q⟩ := h
  cases rx
  obtain ⟨its, r, ht, hz⟩ := I.tuple hx
  have hlen : its.toArray.size = xs.length := by rw [List.size_toArray]; exact r.length.symm
  refine ⟨"tuple", _, PyProof.Rows.slot_tuple_getitem.lookup, ht.typeIs, ?_⟩
  exact HT.getItem_tuple_whole ht hs pl pu (by rw [hlen]; exact hw) ⟨.ref a, H, I, rfl, q⟩
/-- any slice of a tuple: a tuple of what is cut out -/
theorem cutV_whole {xs : List V} {lo hi : Option Int} (hw : HT.sIx xs.length 0 lo = 0 ∧ HT.sIx xs.length xs.length hi = xs.length) : cutV xs lo hi = xs := by
  unfold cutV
  rw [hw.1, hw.2, List.drop_zero, Nat.sub_zero, List.take_length]
def rSlTA (K : PySem.W.Frag) : V → Option Int → Option Int → Hp → VK → Prop := fun x lo hi H Q => ∃ a xs, x = .ref a ∧ SqT K H a xs ∧ H a = some (.tup xs) ∧ ∀ p H', Same H H' → H' p = some (.tup (cutV xs lo hi)) → Q (.ref p) H'
theorem sl_tupA : SlR X (rSlTA X.K) := by
  intro pins s σ H x v vl vu lo hi sl Q I rx hs pl pu h
  obtain ⟨a, xs, rfl, hx, ha, q⟩ := h
  by_cases hw : HT.sIx xs.length 0 lo = 0 ∧ HT.sIx xs.length xs.length hi = xs.length
  · exact sl_tupW pins s σ H _ v vl vu lo hi sl Q I rx hs pl pu ⟨a, xs, rfl, hx, hw, q a H (Same.refl _) (by rw [cutV_whole hw]; exact ha)⟩
  · exact sl_tup pins s σ H _ v vl vu lo hi sl Q I rx hs pl pu ⟨a, xs, rfl, hx, hw, fun p hp => q p _ (Same.new hp _) upd_same⟩
end
end L2

namespace L2
open PySem PySem.Spec PyProof.Rows
/-! ### zip of two sequences, each a list or a tuple -/
def SqIt (h : Heap) (i l : Addr) (k : Nat) (xs : Array Value) : Prop := (h.IsListIter i l k ∧ h.IsList l xs) ∨ (h.IsTupleIter i l k ∧ h.IsTuple l xs)
theorem SqIt.at {h h' : Heap} {i l : Addr} {k : Nat} {xs : Array Value} (q : SqIt h i l k xs) (e1 : ∀ o, h.get? i = some o → h'.get? i = some o) (e2 : ∀ o, h.get? l = some o → h'.get? l = some o) : SqIt h' i l k xs := by
  rcases q with ⟨a, b⟩ | ⟨a, b⟩
  · exact .inl ⟨a.at e1, b.at e2⟩
  · exact .inr ⟨a.at e1, b.at e2⟩
theorem SqIt.ext {h h' : Heap} {i l c : Addr} {k : Nat} {xs : Array Value} (q : SqIt h i l k xs) (e : Heap.ExtBut c h h') (n1 : i ≠ c) (n2 : l ≠ c) : SqIt h' i l k xs := q.at (fun o z => e _ o n1 z) (fun o z => e _ o n2 z)
section
variable {prog : Program} {w : World} {A : Around} {E : Value → Shared → Prop} {s : Shared}
theorem sq_item {i l : Addr} {k : Nat} {xs : Array Value} {x : Value} {Q : Value → Shared → Prop} (q : SqIt s.heap i l k xs) (n : l ≠ i) (hx : xs[k]? = some x)
    (hQ : ∀ h', SqIt h' i l (k + 1) xs → Heap.SameBut i s.heap h' → Q x { s with heap := h' }) : wpAny (model prog w) A (Builtin.SmallTypes.nextOf (.ref i)) Q E s := by
  rcases q with ⟨a, b⟩ | ⟨a, b⟩
  · exact wpAny_nextOf_list_item a b hx fun h' a' e => hQ h' (.inl ⟨a', b.extBut e.extBut n⟩) e
  · exact tn_item a b hx fun h' a' e => hQ h' (.inr ⟨a', b.extBut e.extBut n⟩) e
theorem sq_end {i l : Addr} {k : Nat} {xs : Array Value} {Q : Value → Shared → Prop} (hh : A.handled = none) (q : SqIt s.heap i l k xs) (hx : xs[k]? = none)
    (hE : ∀ h' e, Heap.ExtBut i s.heap h' → (∃ o, h'.get? e = some o ∧ o.cls = .type "StopIteration") → E (.ref e) { s with heap := h' }) : wpAny (model prog w) A (Builtin.SmallTypes.nextOf (.ref i)) Q E s := by
  rcases q with ⟨a, b⟩ | ⟨a, b⟩
  · exact wpAny_nextOf_list_end hh a b hx hE
  · exact tn_end hh a b hx hE
theorem zq_item {z TI TO i1 i2 l1 l2 : Addr} {k1 k2 : Nat} {xs ys : Array Value} {x y a b : Value} {Q : Option Value → Shared → Prop} (D : ZipApart z TI TO i1 i2 l1 l2)
    (hz : IsZip s.heap z TI TO .none) (hTI : IsPair s.heap TI (.ref i1) (.ref i2)) (hTO : IsPair s.heap TO a b) (h1 : SqIt s.heap i1 l1 k1 xs) (h2 : SqIt s.heap i2 l2 k2 ys) (hx : xs[k1]? = some x) (hy : ys[k2]? = some y)
    (hQ : ∀ h', IsZip h' z TI TO (rawInt s.heap.objs.size) → IsPair h' TO x y → SqIt h' i1 l1 (k1 + 1) xs → SqIt h' i2 l2 (k2 + 1) ys → IsPair h' s.heap.objs.size x y →
      (∀ c o, c ≠ z → c ≠ TO → c ≠ i1 → c ≠ i2 → s.heap.get? c = some o → h'.get? c = some o) → Q (some (.ref s.heap.objs.size)) { s with heap := h' }) :
    wpAny (model prog w) A (pyNext (.ref z)) Q E s := by
  have hT : s.TypeIs (.ref z) "zip" := ⟨_, hz, rfl⟩
  unfold pyNext
  refine wpAny_bind (wpAny_attempt (wpAny_callSpecial?_slot (name := Str.ofString "__next__") hT F.slot_zip_next (wpAny_call_entry F.slot_zip_next hT F.entry_zip_next ?_ (F.args_zip_next_1 _))))
  show wpAny _ _ (field (.ref z) 2 >>= _) _ _ _
  refine wpAny_bind (wpAny_field hz rfl (x := .bool false) rfl ?_)
  show wpAny _ _ (field (.ref z) 3 >>= _) _ _ _
  refine wpAny_bind (wpAny_field hz rfl (x := .ref TI) rfl (wpAny_bind (wpAny_seqItems hTI rfl ?_)))
  show wpAny _ _ (Builtin.SmallTypes.ownedTupleIsFree (.ref z) >>= _) _ _ _
  refine wpAny_bind ?_
  unfold Builtin.SmallTypes.ownedTupleIsFree
  refine wpAny_bind (wpAny_field hz rfl (x := .none) rfl (wpAny_pure ?_))
  simp only [if_true]
  refine wpAny_bind (wpAny_rule (wpAny_bind (wpAny_field hz rfl (x := .ref TO) rfl (wpAny_bind (wpAny_setField_rec hz (by simp) fun ha za sa => wpAny_bind ?_)))))
  replace za : IsZip ha z TI TO .ellipsis := za
  simp only [List.zipIdx_cons, List.zipIdx_nil, List.forIn_cons, List.forIn_nil]
  refine wpAny_bind (wpAny_bind (wpAny_onRaise ?_))
  show wpAny _ _ (Builtin.SmallTypes.nextOf (.ref i1) >>= _) _ _ _
  refine wpAny_bind (sq_item (h1.ext sa.extBut D.i1z D.l1z) D.l1i1 hx fun hb q1 sb => wpAny_pure ?_)
  have TOb : IsPair hb TO a b := sb.extBut _ _ D.TOi1 (sa.extBut _ _ D.TOz hTO)
  refine wpAny_bind (wpAny_seqItems TOb rfl (wpAny_bind (wpAny_updateSeq_pair TOb fun hc TOc sc => ?_)))
  replace TOc : IsPair hc TO x b := TOc
  refine wpAny_bind (wpAny_letGo (wpAny_pure (wpAny_bind (wpAny_bind (wpAny_onRaise ?_)))))
  show wpAny _ _ (Builtin.SmallTypes.nextOf (.ref i2) >>= _) _ _ _
  refine wpAny_bind (sq_item (((h2.ext sa.extBut D.i2z D.l2z).ext sb.extBut D.i12.symm D.l2i1).ext sc.extBut D.TOi2.symm D.l2TO) D.l2i2 hy fun hd q2 sd => wpAny_pure ?_)
  have TOd : IsPair hd TO x b := sd.extBut _ _ D.TOi2 TOc
  refine wpAny_bind (wpAny_seqItems TOd rfl (wpAny_bind (wpAny_updateSeq_pair TOd fun he TOe se => ?_)))
  replace TOe : IsPair he TO x y := TOe
  refine wpAny_bind (wpAny_letGo (wpAny_pure (wpAny_pure (wpAny_bind (wpAny_seqItems TOe rfl (wpAny_bind (wpAny_newTuple ?_)))))))
  have sz : he.objs.size = s.heap.objs.size := by rw [se.1, sd.1, sc.1, sb.1, sa.1]
  have ze : IsZip he z TI TO .ellipsis := se.extBut _ _ D.TOz.symm (sd.extBut _ _ D.i2z.symm (sc.extBut _ _ D.TOz.symm (sb.extBut _ _ D.i1z.symm za)))
  have ke : ∀ c o, c ≠ z → c ≠ TO → c ≠ i1 → c ≠ i2 → s.heap.get? c = some o → he.get? c = some o := fun c o c1 c2 c3 c4 e => se.extBut _ _ c2 (sd.extBut _ _ c4 (sc.extBut _ _ c2 (sb.extBut _ _ c3 (sa.extBut _ _ c1 e))))
  have q1e := ((q1.ext sc.extBut D.TOi1.symm D.l1TO).ext sd.extBut D.i12 D.l1i2).ext se.extBut D.TOi1.symm D.l1TO
  have q2e := q2.ext se.extBut D.TOi2.symm D.l2TO
  have zlt : z < he.objs.size := Heap.lt_size ze
  show wpAny _ _ (Builtin.SmallTypes.ownedTupleHandOut (.ref z) (.ref he.objs.size) >>= _) _ _ _
  refine wpAny_bind ?_
  unfold Builtin.SmallTypes.ownedTupleHandOut
  have zf : IsZip (he.push { cls := .type "tuple", data := .seq #[x, y] }) z TI TO .ellipsis := Heap.get?_push_of_some _ ze
  refine wpAny_bind (wpAny_setField_rec zf (by simp) fun hg zg sg => ?_)
  replace zg : IsZip hg z TI TO (rawInt he.objs.size) := zg
  refine wpAny_setField_rec zg (by simp) fun hi zi si => ?_
  replace zi : IsZip hi z TI TO (rawInt he.objs.size) := zi
  have up : ∀ c o, c ≠ z → he.get? c = some o → hi.get? c = some o := fun c o c1 e => si.extBut _ _ c1 (sg.extBut _ _ c1 (Heap.get?_push_of_some _ e))
  have Ti : IsPair hi he.objs.size x y := si.extBut _ _ (Nat.ne_of_gt zlt) (sg.extBut _ _ (Nat.ne_of_gt zlt) (Heap.get?_push_size _ rfl))
  rw [sz] at zi Ti
  refine wpAny_pure ⟨_, rfl, wpAny_pure ?_⟩
  show Q (some (.ref he.objs.size)) _
  rw [sz]
  exact hQ hi zi (up _ _ D.TOz TOe) (q1e.at (fun o e => up _ o D.i1z e) (fun o e => up _ o D.l1z e)) (q2e.at (fun o e => up _ o D.i2z e) (fun o e => up _ o D.l2z e)) Ti fun c o c1 c2 c3 c4 e => up c o c1 (ke c o c1 c2 c3 c4 e)
theorem zq_end {z TI TO i1 i2 l1 l2 : Addr} {k1 k2 : Nat} {xs ys : Array Value} {a b : Value} {Q : Option Value → Shared → Prop} (hh : A.handled = none) (D : ZipApart z TI TO i1 i2 l1 l2)
    (hz : IsZip s.heap z TI TO .none) (hTI : IsPair s.heap TI (.ref i1) (.ref i2)) (hTO : IsPair s.heap TO a b) (h1 : SqIt s.heap i1 l1 k1 xs) (h2 : SqIt s.heap i2 l2 k2 ys) (hend : xs[k1]? = none ∨ ys[k2]? = none)
    (hQ : ∀ h', (∀ c o, c ≠ z → c ≠ TO → c ≠ i1 → c ≠ i2 → s.heap.get? c = some o → h'.get? c = some o) → Q none { s with heap := h' }) : wpAny (model prog w) A (pyNext (.ref z)) Q E s := by
  have hT : s.TypeIs (.ref z) "zip" := ⟨_, hz, rfl⟩
  unfold pyNext
  have hh1 : A.in1.handled = none := hh
  suffices hs : wpAny (model prog w) A.in1 (Builtin.«zip.__next__» ⟨[.ref z], []⟩) (fun fin s' => ∃ v, fin = .done (.ret v) ∧ False)
      (fun v s' => ∃ h' e, v = .ref e ∧ s' = { s with heap := h' } ∧ (∀ c o, c ≠ z → c ≠ TO → c ≠ i1 → c ≠ i2 → s.heap.get? c = some o → h'.get? c = some o) ∧ ∃ o, h'.get? e = some o ∧ o.cls = .type "StopIteration") s by
    refine wpAny_bind (wpAny_attempt (wpAny_callSpecial?_slot (name := Str.ofString "__next__") hT F.slot_zip_next (wpAny_call_entry F.slot_zip_next hT F.entry_zip_next (wpAny_mono hs (fun _ _ h => by obtain ⟨_, _, f⟩ := h; exact f.elim) ?_) (F.args_zip_next_1 _))))
    rintro _ _ ⟨h', e, rfl, rfl, hk, o, ho, hc⟩
    exact wpAny_bind (wpAny_isInstance (T := "StopIteration") (b := true) ⟨o, ho, hc⟩ isSubtype_stop (wpAny_pure (hQ _ hk)))
  show wpAny _ _ (field (.ref z) 2 >>= _) _ _ _
  refine wpAny_bind (wpAny_field hz rfl (x := .bool false) rfl ?_)
  show wpAny _ _ (field (.ref z) 3 >>= _) _ _ _
  refine wpAny_bind (wpAny_field hz rfl (x := .ref TI) rfl (wpAny_bind (wpAny_seqItems hTI rfl ?_)))
  show wpAny _ _ (Builtin.SmallTypes.ownedTupleIsFree (.ref z) >>= _) _ _ _
  refine wpAny_bind ?_
  unfold Builtin.SmallTypes.ownedTupleIsFree
  refine wpAny_bind (wpAny_field hz rfl (x := .none) rfl (wpAny_pure ?_))
  simp only [if_true]
  refine wpAny_bind (wpAny_rule (wpAny_bind (wpAny_field hz rfl (x := .ref TO) rfl (wpAny_bind (wpAny_setField_rec hz (by simp) fun ha za sa => wpAny_bind ?_)))))
  replace za : IsZip ha z TI TO .ellipsis := za
  simp only [List.zipIdx_cons, List.zipIdx_nil, List.forIn_cons, List.forIn_nil]
  refine wpAny_bind (wpAny_bind (wpAny_onRaise ?_))
  show wpAny _ _ (Builtin.SmallTypes.nextOf (.ref i1) >>= _) _ _ _
  cases hx : xs[k1]? with
  | none =>
    refine wpAny_bind (sq_end hh1 (h1.ext sa.extBut D.i1z D.l1z) hx fun hb e sb ⟨oe, hoe, hce⟩ => ?_)
    have zb : IsZip hb z TI TO .ellipsis := sb _ _ D.i1z.symm za
    have ez : e ≠ z := fun x => by subst x; rw [zb] at hoe; cases hoe; simp at hce
    exact wpAny_setField_rec zb (by simp) fun hc _ sc => ⟨hc, e, rfl, rfl, fun c o c1 _ c3 _ x => sc.extBut _ _ c1 (sb _ _ c3 (sa.extBut _ _ c1 x)), oe, sc.extBut _ _ ez hoe, hce⟩
  | some x =>
    have hy : ys[k2]? = none := by
      rcases hend with h | h
      · rw [hx] at h; cases h
      · exact h
    refine wpAny_bind (sq_item (h1.ext sa.extBut D.i1z D.l1z) D.l1i1 hx fun hb q1 sb => wpAny_pure ?_)
    have TOb : IsPair hb TO a b := sb.extBut _ _ D.TOi1 (sa.extBut _ _ D.TOz hTO)
    refine wpAny_bind (wpAny_seqItems TOb rfl (wpAny_bind (wpAny_updateSeq_pair TOb fun hc TOc sc => ?_)))
    refine wpAny_bind (wpAny_letGo (wpAny_pure (wpAny_bind (wpAny_bind (wpAny_onRaise ?_)))))
    show wpAny _ _ (Builtin.SmallTypes.nextOf (.ref i2) >>= _) _ _ _
    refine wpAny_bind (sq_end hh1 (((h2.ext sa.extBut D.i2z D.l2z).ext sb.extBut D.i12.symm D.l2i1).ext sc.extBut D.TOi2.symm D.l2TO) hy fun hd e sd ⟨oe, hoe, hce⟩ => ?_)
    have zd : IsZip hd z TI TO .ellipsis := sd _ _ D.i2z.symm (sc.extBut _ _ D.TOz.symm (sb.extBut _ _ D.i1z.symm za))
    have ez : e ≠ z := fun x => by subst x; rw [zd] at hoe; cases hoe; simp at hce
    exact wpAny_setField_rec zd (by simp) fun he _ se => ⟨he, e, rfl, rfl, fun c o c1 c2 c3 c4 x => se.extBut _ _ c1 (sd _ _ c4 (sc.extBut _ _ c2 (sb.extBut _ _ c3 (sa.extBut _ _ c1 x)))), oe, se.extBut _ _ ez hoe, hce⟩
end
def itO (b : Bool) (l : Addr) : Obj := { cls := .type (if b = true then "list_iterator" else "tuple_iterator"), data := .fields #[.ref l, .int 0 0] }
def SqO (b : Bool) (h : Heap) (l : Addr) (xs : Array Value) : Prop := if b = true then h.IsList l xs else h.IsTuple l xs
abbrev zqH (h : Heap) (b1 b2 : Bool) (l1 l2 : Addr) : Heap := ((((h.push (itO b1 l1)).push (itO b2 l2)).push { cls := .type "tuple", data := .seq #[.ref h.objs.size, .ref (h.push (itO b1 l1)).objs.size] }).push { cls := .type "tuple", data := .seq #[.none, .none] }).push
  { cls := .type "zip", data := .fields #[.none, .bool false, .bool false, .ref ((h.push (itO b1 l1)).push (itO b2 l2)).objs.size, .ref (((h.push (itO b1 l1)).push (itO b2 l2)).push { cls := .type "tuple", data := .seq #[.ref h.objs.size, .ref (h.push (itO b1 l1)).objs.size] }).objs.size] }
abbrev zqA (h : Heap) (b1 b2 : Bool) (l1 l2 : Addr) : Addr := ((((h.push (itO b1 l1)).push (itO b2 l2)).push { cls := .type "tuple", data := .seq #[.ref h.objs.size, .ref (h.push (itO b1 l1)).objs.size] }).push { cls := .type "tuple", data := .seq #[.none, .none] }).objs.size
theorem sqO_push {b : Bool} {h : Heap} {l : Addr} {xs : Array Value} (q : SqO b h l xs) (o : Obj) : SqO b (h.push o) l xs := by
  cases b
  · exact Heap.IsTuple.at q fun o' e => Heap.get?_push_of_some _ e
  · exact Heap.IsList.push q _
theorem sqO_iter {prog : Program} {w : World} {A : Around} {E : Value → Shared → Prop} {s : Shared} {b : Bool} {l : Addr} {xs : Array Value} {Q : Value → Shared → Prop} (q : SqO b s.heap l xs) (hQ : Q (.ref s.heap.objs.size) { s with heap := s.heap.push (itO b l) }) :
    wpAny (model prog w) A (pyIter (.ref l)) Q E s := by
  cases b
  · exact wpAny_pyIter_tuple (t := l) (items := xs) q hQ
  · exact wpAny_pyIter_list (l := l) (items := xs) q hQ
set_option maxHeartbeats 1000000 in
theorem meets_zq (b1 b2 : Bool) (l1 l2 : Addr) (xs ys : Array Value) :
    Meets (Builtin.«zip.__new__» ⟨[.type "zip", .ref l1, .ref l2], []⟩) (fun _ R s => SqO b1 s.heap l1 xs ∧ SqO b2 s.heap l2 ys ∧
      R (.ok (.ret (.ref (zqA s.heap b1 b2 l1 l2)))) { s with heap := zqH s.heap b1 b2 l1 l2 }) :=
  .of_wp fun prog w A R s h => by
    obtain ⟨hp, g, d, tk, os⟩ := s
    obtain ⟨hl1, hl2, h⟩ := h
    have hsub := sub_zip
    have hL1 : SqO b1 (Shared.heap ⟨hp, g, d, tk, os⟩) l1 xs := hl1
    have hL2 : SqO b2 (Shared.heap ⟨hp.push (itO b1 l1), g, d, tk, os⟩) l2 ys := sqO_push hl2 _
    wp_walk using sqO_iter hL1, sqO_iter hL2
    exact ⟨_, rfl, h⟩
end L2

namespace L2
open PySem PySem.Spec PyProof.Rows
section
variable {prog : Program} {w : World} {A : Around} {E : Value → Shared → Prop} {s : Shared}
theorem itO_sq {b : Bool} {h h' : Heap} {n l : Addr} {xs : Array Value} (e : h'.get? n = some (itO b l)) (q : SqO b h l xs) (k : ∀ o, h.get? l = some o → h'.get? l = some o) : SqIt h' n l 0 xs := by
  cases b
  · exact .inr ⟨⟨_, e, rfl, rfl⟩, Heap.IsTuple.at q k⟩
  · exact .inl ⟨⟨_, e, rfl, rfl⟩, Heap.IsList.at q k⟩
theorem call_zq {b1 b2 : Bool} {l1 l2 : Addr} {xs ys : Array Value} {Q : Value → Shared → Prop} (hl1 : SqO b1 s.heap l1 xs) (hl2 : SqO b2 s.heap l2 ys)
    (h : ∀ h', IsZip h' (s.heap.objs.size + 4) (s.heap.objs.size + 2) (s.heap.objs.size + 3) .none → IsPair h' (s.heap.objs.size + 2) (.ref s.heap.objs.size) (.ref (s.heap.objs.size + 1)) →
      IsPair h' (s.heap.objs.size + 3) .none .none → SqIt h' s.heap.objs.size l1 0 xs → SqIt h' (s.heap.objs.size + 1) l2 0 ys →
      (∀ c o, s.heap.get? c = some o → h'.get? c = some o) → Q (.ref (s.heap.objs.size + 4)) { s with heap := h' }) :
    wpAny (model prog w) A (call (.type "zip") [.ref l1, .ref l2]) Q E s := by
  refine callType_new F.called_zip (by decide) (F.typeCall_zip_2 _ _) (F.newCall_zip_2 _ _) (fun obj => F.args_object_init_3 obj _ _) F.entry_zip_new (meets_zq b1 b2 l1 l2 xs ys) ⟨hl1, hl2, ?_⟩
  have z1 : ∀ (h : Heap) (o : Obj), (h.push o).objs.size = h.objs.size + 1 := fun h o => Heap.size_push ..
  have up : ∀ (h : Heap) (o : Obj) (c : Addr) (u : Obj), h.get? c = some u → (h.push o).get? c = some u := fun h o c u e => Heap.get?_push_of_some _ e
  have top : ∀ (h : Heap) (o : Obj) (n : Nat), o.isFreed = false → h.objs.size = n → (h.push o).get? n = some o := fun h o n f e => by rw [← e]; exact Heap.get?_push_size _ f
  have f1 : ∀ b l, (itO b l).isFreed = false := fun _ _ => rfl
  show _ ∧ _
  have g1 : (zqH s.heap b1 b2 l1 l2).get? s.heap.objs.size = some (itO b1 l1) := up _ _ _ _ (up _ _ _ _ (up _ _ _ _ (up _ _ _ _ (top _ _ _ (f1 _ _) rfl))))
  have g2 : (zqH s.heap b1 b2 l1 l2).get? (s.heap.objs.size + 1) = some (itO b2 l2) := up _ _ _ _ (up _ _ _ _ (up _ _ _ _ (top _ _ _ (f1 _ _) (z1 _ _))))
  have g3 : IsPair (zqH s.heap b1 b2 l1 l2) (s.heap.objs.size + 2) (.ref s.heap.objs.size) (.ref (s.heap.objs.size + 1)) := by
    have := up _ { cls := .type "zip", data := .fields #[.none, .bool false, .bool false, .ref ((s.heap.push (itO b1 l1)).push (itO b2 l2)).objs.size, .ref (((s.heap.push (itO b1 l1)).push (itO b2 l2)).push { cls := .type "tuple", data := .seq #[.ref s.heap.objs.size, .ref (s.heap.push (itO b1 l1)).objs.size] }).objs.size] } _ _ (up _ { cls := .type "tuple", data := .seq #[.none, .none] } _ _ (top ((s.heap.push (itO b1 l1)).push (itO b2 l2)) { cls := .type "tuple", data := .seq #[.ref s.heap.objs.size, .ref (s.heap.push (itO b1 l1)).objs.size] } (s.heap.objs.size + 2) rfl (by rw [z1, z1])))
    exact this.trans (by rw [z1])
  have g4 : IsPair (zqH s.heap b1 b2 l1 l2) (s.heap.objs.size + 3) .none .none := up _ _ _ _ (top _ _ _ rfl (by rw [z1, z1, z1]))
  have g5 : IsZip (zqH s.heap b1 b2 l1 l2) (s.heap.objs.size + 4) (s.heap.objs.size + 2) (s.heap.objs.size + 3) .none := by
    have := top ((((s.heap.push (itO b1 l1)).push (itO b2 l2)).push { cls := .type "tuple", data := .seq #[.ref s.heap.objs.size, .ref (s.heap.push (itO b1 l1)).objs.size] }).push { cls := .type "tuple", data := .seq #[.none, .none] })
      { cls := .type "zip", data := .fields #[.none, .bool false, .bool false, .ref ((s.heap.push (itO b1 l1)).push (itO b2 l2)).objs.size, .ref (((s.heap.push (itO b1 l1)).push (itO b2 l2)).push { cls := .type "tuple", data := .seq #[.ref s.heap.objs.size, .ref (s.heap.push (itO b1 l1)).objs.size] }).objs.size] } (s.heap.objs.size + 4) rfl (by rw [z1, z1, z1, z1])
    exact this.trans (by simp only [z1])
  have ea : zqA s.heap b1 b2 l1 l2 = s.heap.objs.size + 4 := by simp only [zqA, z1]
  have keep : ∀ c o, s.heap.get? c = some o → (zqH s.heap b1 b2 l1 l2).get? c = some o := fun c o e => up _ _ _ _ (up _ _ _ _ (up _ _ _ _ (up _ _ _ _ (up _ _ _ _ e))))
  rw [ea]
  exact ⟨⟨_, g5, rfl⟩, h _ g5 g3 g4 (itO_sq g1 hl1 (keep _)) (itO_sq g2 hl2 (keep _)) keep⟩
end
def SqB (K : PySem.W.Frag) (b : Bool) (H : Hp) (a : Addr) (xs : List V) : Prop := if b = true then SqL K H a xs else SqT K H a xs
theorem SqB.at {X : Cx} {pins : List (Addr × Obj)} {σ : St} {H : Hp} {s : Shared} {b : Bool} {a : Addr} {xs : List V} (I : Inv X pins σ H s) (q : SqB X.K b H a xs) : ∃ its, Vals xs its ∧ SqO b s.heap a its.toArray ∧ a < s.heap.objs.size := by
  cases b
  · obtain ⟨its, rv, p, _⟩ := I.tuple q
    exact ⟨its, rv, p, p.lt⟩
  · obtain ⟨its, rv, p, _⟩ := I.list q
    exact ⟨its, rv, p.isList, p.lt⟩
/-- over zip(a, b) -/
def Itz (K : PySem.W.Frag) (c d : Bool) (a b : Addr) : It :=
  ⟨fun i H => ∃ xs ys x y, SqB K c H a xs ∧ SqB K d H b ys ∧ xs[i]? = some x ∧ ys[i]? = some y, fun i H v H' => ∃ t, v = .ref t ∧ H t = none ∧ ∀ xs ys x y, SqB K c H a xs → SqB K d H b ys → xs[i]? = some x → ys[i]? = some y → H' = upd H t (.tup [x, y]),
    fun i H => ∃ xs ys, SqB K c H a xs ∧ SqB K d H b ys ∧ (xs.length ≤ i ∨ ys.length ≤ i)⟩
end L2

namespace L2
open PySem PySem.Spec PyProof.Rows
theorem zipAp {n l1 l2 : Nat} (h1 : l1 < n) (h2 : l2 < n) : ZipApart (n + 4) (n + 2) (n + 3) n (n + 1) l1 l2 := by
  constructor <;> exact fun y => by
    have y' : (_ : Nat) = _ := y
    omega
section
variable {X : Cx} {elts : List Expr} {k : Nat} {tpos : Pos}
def iZip (K : PySem.W.Frag) (tl : TA) : TI := fun σ H R => tl σ H fun vs H1 => ∃ a b c d, vs = [.ref a, .ref b] ∧ (∃ xs, SqB K c H1 a xs) ∧ (∃ ys, SqB K d H1 b ys) ∧ R (Itz K c d a b) H1
theorem boot_zip' : bootBuiltins ("zip" : Str) = some (.type "zip") := by decide +kernel
theorem zip_kd {c : Bool} {h h' : Heap} {n l : Addr} {its its' : Array Value} (keep : ∀ e o, h.get? e = some o → h'.get? e = some o) (o : SqO c h l its') (q : SqIt h' n l 0 its) :
    ∃ o, h'.get? n = some o ∧ o.cls = .type (if c = true then "list_iterator" else "tuple_iterator") ∧ o.data = .fields #[.ref l, .int ((0 : Nat) : Int) 0] := by
  cases c
  · rcases q with ⟨_, ⟨o1, e1, c1, _⟩⟩ | ⟨q, _⟩
    · obtain ⟨o2, e2, c2, _⟩ := (show h'.IsTuple l its' from Heap.IsTuple.at o fun ob e => keep _ _ e)
      rw [e1] at e2
      cases e2
      rw [c1] at c2
      exact absurd (Value.type.inj c2) (by decide)
    · exact q
  · rcases q with ⟨q, _⟩ | ⟨_, ⟨o1, e1, c1, _⟩⟩
    · exact q
    · obtain ⟨o2, e2, c2, _⟩ := (show h'.IsList l its' from Heap.IsList.at o fun ob e => keep _ _ e)
      rw [e1] at e2
      cases e2
      rw [c1] at c2
      exact absurd (Value.type.inj c2) (by decide)
end
end L2

namespace L2
open PySem PySem.Spec PyProof.Rows
section
variable {X : Cx} {pins : List (Addr × Obj)} {σ : St} {x y2 : Str} {N : List Str} {ix : List Nat} {scope : Scope} {cl : List (Str × Addr)} {fp : List Addr} {H3 : Hp} {s3 : Shared}
end
section
variable {X : Cx} {x y2 : Str} {N : List Str} {ix : List Nat} {scope : Scope} {cl : List (Str × Addr)} {elt iter : Expr} {ifs : List Expr} {px py pt pos : Pos} {kt : Nat} {wi : TI} {tb : TBl}
def CompEx2 (K : PySem.W.Frag) (J : It) (D : Addr) (ix : List Nat) (tb : TBl) (σ : St) (H : Hp) (Q : VK) : Prop := ∃ W : Nat → Nat → Hp → Prop, (∃ m, W 0 m (upd H D (.lst []))) ∧ ∀ i m H2, W i m H2 →
  (J.stop i H2 ∧ Q (.ref D) H2) ∨ (J.go i H2 ∧ ∀ y H3, J.yld i H2 y H3 → ∃ t v1 v2, y = .ref t ∧ SqT K H3 t [v1, v2] ∧ tb (some v1 :: some v2 :: outs ix σ) H3 (fun H4 => ∃ m', m' < m ∧ W (i + 1) m' H4)
    fun z H4 => ∃ ys, H4 D = some (.lst ys) ∧ ys.length < sizeLine ∧ ∃ m', m' < m ∧ W (i + 1) m' (upd H4 D (.lst (ys ++ [z]))))
def tCompR2 (K : PySem.W.Frag) (wi : TI) (ix : List Nat) (tb : TBl) : TE := fun σ H Q => wi σ H fun J H1 => ∀ D, H1 D = none → CompEx2 K J D ix tb σ H1 Q
end
end L2

namespace L2
open PySem PyProof.Rows HT
section
variable {X : Cx}
/-- any(xs), xs a list of bools -/
def rAny (K : PySem.W.Frag) : List V → Hp → VK → Prop := fun xs H Q => ∃ (a : Addr) (bs : List Bool), xs = [.ref a] ∧ SqL K H a (bs.map V.bl) ∧ Q (.bl (bs.any id)) H
end
end L2

namespace L2
open PySem PySem.Spec PyProof.Rows
section
variable {X : Cx}
/-- t.startswith(u, place) -/
def startsAt (z u : Str) (i : Int) : Bool := decide (PySem.fromIndex z.length i + u.length ≤ z.length) && Builtin.Str.subAt z u (PySem.fromIndex z.length i)
def rStartsAt : V → List V → Hp → VK → Prop := fun x vs H Q => ∃ z u i, x = .str z ∧ vs = [.str u, .int i] ∧ Q (.bl (startsAt z u i)) H
theorem mt_startsAt : MtR X "str.startswith" rStartsAt := by
  intro pins s σ H x vs v us Q I rx rv h
  obtain ⟨z, u, i, rfl, rfl, q⟩ := h
  obtain ⟨t, rfl⟩ := rx
  cases rv with
  | cons r1 rv1 =>
    cases rv1 with
    | cons r2 rv2 =>
      cases rv2
      obtain ⟨t1, rfl⟩ := r1
      obtain ⟨t2, rfl⟩ := r2
      exact call_gives F.slot_str_startswith (typeIs_str _ _ _) F.entry_str_startswith (F.args_str_startswith_3 _ _ _) (gives_str_startswith_from z u i t t1 t2) ⟨.bl _, H, I, rfl, q⟩
/-- f-strings, part by part -/
abbrev TJ := St → Hp → Str → VK → Prop
def PJ (X : Cx) (es : List Expr) (t : TJ) : Prop :=
  ∀ (pins : List (Addr × Obj)) (s : Shared) (σ : St) (H : Hp) (out : Str) (Q : VK), Inv X pins σ H s → t σ H out Q → wpAny (model X.prog X.w) X.A (joinParts out (evalEach es X.env)) (EP X pins σ Q) X.xe s
theorem pj_nil : PJ X [] (fun _ H out Q => out.length ≤ sizeLine ∧ Q (.str out) H) := by
  intro pins s σ H out Q I h
  exact joinParts_nil ⟨.str out, H, I.tok _, ⟨_, rfl⟩, h.2⟩ h.1
theorem pj_cons {e : Expr} {es : List Expr} {te : TE} {t : TJ} (he : PE X e te) (ht : PJ X es t) : PJ X (e :: es) (fun σ H out Q => te σ H fun v H1 => ∃ y, v = .str y ∧ (out ++ y).length ≤ sizeLine ∧ t σ H1 (out ++ y) Q) := by
  intro pins s σ H out Q I h
  show wpAny _ _ (joinParts out (eval e X.env :: evalEach es X.env)) _ _ s
  refine joinParts_cons (thn (he pins s σ H _ I h) fun v s1 ⟨x, H1, I1, r1, y, ex, hz, q⟩ => ?_)
  subst ex
  obtain ⟨t', rfl⟩ := r1
  exact ⟨hz, ht pins s1 σ H1 _ Q I1 q⟩
theorem pe_fstr {e1 e2 : Expr} {es : List Expr} {t : TJ} {pos : Pos} (h : PJ X (e1 :: e2 :: es) t) : PE X (.JoinedStr (e1 :: e2 :: es) pos) (fun σ H Q => t σ H Str.empty Q) :=
  fun pins s σ H Q I k => JoinedStr_many (h pins s σ H Str.empty Q I k)
theorem pe_fmt {e : Expr} {te : TE} {pos : Pos} (he : PE X e te) : PE X (.FormattedValue e (-1) none pos) (fun σ H Q => te σ H fun v H1 => ∃ y, v = .str y ∧ y.length ≤ sizeLine ∧ Q (.str y) H1) := by
  intro pins s σ H Q I h
  refine FormattedValue_plain (thn (he pins s σ H _ I h) fun v s1 ⟨x, H1, I1, r1, y, ex, hz, q⟩ => ?_)
  subst ex
  obtain ⟨t', rfl⟩ := r1
  exact formatField_str (fun t'' tk => ⟨.str y, H1, I1.tok _, ⟨_, rfl⟩, q⟩) hz
end
end L2

namespace L2
open PySem PySem.Spec PyProof.Rows
section
variable {X : Cx}
end
end L2

namespace L2
open PySem PySem.Spec PyProof.Rows
/-! ### list(zip(a, b)) -/
theorem zip_no_len : typeLookup (.type "zip") "__len__" = pure none := by rw [typeLookup_type, builtinLookup_eq_fast]; kernel_rfl
theorem zip_no_hint : typeLookup (.type "zip") "__length_hint__" = pure none := by rw [typeLookup_type, builtinLookup_eq_fast]; kernel_rfl
abbrev IsZipB (h : Heap) (z TI TO : Addr) (f0 : Value) (b : Bool) : Prop :=
  h.get? z = some { cls := .type "zip", dict := none, data := .fields #[f0, .bool b, .bool false, .ref TI, .ref TO], slots := #[] }
section
variable {prog : Program} {w : World} {A : Around} {E : Value → Shared → Prop} {s : Shared}
theorem wpAny_alive {a : Addr} {Q : Option Obj → Shared → Prop} (h : Q (s.heap.get? a) s) : wpAny (model prog w) A (loadIfAlive a) Q E s := fun Γ p _ => by
  unfold loadIfAlive
  rw [Sem.wp_loadIfAlive]
  exact h
theorem zb_notFree {z TI TO t : Addr} {b : Bool} {ob : Obj} {Q : Bool → Shared → Prop} (hz : IsZipB s.heap z TI TO (rawInt t) b) (ht : s.heap.get? t = some ob)
    (hQ : ∀ h', IsZipB h' z TI TO (rawInt t) true → Heap.SameBut z s.heap h' → Q false { s with heap := h' }) : wpAny (model prog w) A (Builtin.SmallTypes.ownedTupleIsFree (.ref z)) Q E s := by
  unfold Builtin.SmallTypes.ownedTupleIsFree
  refine wpAny_bind (wpAny_field hz rfl (x := rawInt t) rfl ?_)
  show wpAny _ _ (loadIfAlive (Int.toNat (t : Int)) >>= _) _ _ _
  rw [Int.toNat_natCast]
  refine wpAny_bind (wpAny_alive ?_)
  rw [ht]
  simp only [Option.isNone_some, Bool.false_eq_true, if_false]
  refine wpAny_bind (wpAny_field hz rfl (x := .bool b) rfl ?_)
  cases b with
  | true =>
    rw [if_neg (by decide)]
    exact wpAny_pure (hQ s.heap hz (Heap.SameBut.refl _ _))
  | false =>
    rw [if_pos (by decide)]
    refine wpAny_bind (wpAny_setField_rec hz (by simp) fun ha za sa => wpAny_pure ?_)
    exact hQ ha za sa
theorem zb_item {z TI TO i1 i2 l1 l2 t : Addr} {k1 k2 : Nat} {xs ys : Array Value} {x y : Value} {b : Bool} {ob : Obj} {Q : Option Value → Shared → Prop} (D : ZipApart z TI TO i1 i2 l1 l2)
    (hz : IsZipB s.heap z TI TO (rawInt t) b) (ht : s.heap.get? t = some ob) (hTI : IsPair s.heap TI (.ref i1) (.ref i2)) (h1 : SqIt s.heap i1 l1 k1 xs) (h2 : SqIt s.heap i2 l2 k2 ys) (hx : xs[k1]? = some x) (hy : ys[k2]? = some y)
    (hQ : ∀ h', IsZipB h' z TI TO (rawInt t) true → SqIt h' i1 l1 (k1 + 1) xs → SqIt h' i2 l2 (k2 + 1) ys → IsPair h' s.heap.objs.size x y →
      (∀ c o, c ≠ z → c ≠ i1 → c ≠ i2 → s.heap.get? c = some o → h'.get? c = some o) → Q (some (.ref s.heap.objs.size)) { s with heap := h' }) :
    wpAny (model prog w) A (pyNext (.ref z)) Q E s := by
  have hT : s.TypeIs (.ref z) "zip" := ⟨_, hz, rfl⟩
  unfold pyNext
  refine wpAny_bind (wpAny_attempt (wpAny_callSpecial?_slot (name := Str.ofString "__next__") hT F.slot_zip_next (wpAny_call_entry F.slot_zip_next hT F.entry_zip_next ?_ (F.args_zip_next_1 _))))
  show wpAny _ _ (field (.ref z) 2 >>= _) _ _ _
  refine wpAny_bind (wpAny_field hz rfl (x := .bool false) rfl ?_)
  show wpAny _ _ (field (.ref z) 3 >>= _) _ _ _
  refine wpAny_bind (wpAny_field hz rfl (x := .ref TI) rfl (wpAny_bind (wpAny_seqItems hTI rfl ?_)))
  show wpAny _ _ (Builtin.SmallTypes.ownedTupleIsFree (.ref z) >>= _) _ _ _
  refine wpAny_bind (zb_notFree hz ht fun ha za sa => ?_)
  simp only [Bool.false_eq_true, if_false]
  refine wpAny_bind ?_
  rw [← Array.forIn_toList]
  simp only [List.forIn_cons, List.forIn_nil]
  refine wpAny_bind (wpAny_bind (wpAny_holding ?_))
  show wpAny _ _ (Builtin.SmallTypes.nextOf (.ref i1) >>= _) _ _ _
  refine wpAny_bind (sq_item (h1.ext sa.extBut D.i1z D.l1z) D.l1i1 hx fun hb q1 sb => wpAny_pure ?_)
  refine wpAny_pure (wpAny_bind (wpAny_bind (wpAny_holding ?_)))
  show wpAny _ _ (Builtin.SmallTypes.nextOf (.ref i2) >>= _) _ _ _
  refine wpAny_bind (sq_item ((h2.ext sa.extBut D.i2z D.l2z).ext sb.extBut D.i12.symm D.l2i1) D.l2i2 hy fun hd q2 sd => wpAny_pure ?_)
  refine wpAny_pure (wpAny_pure (wpAny_bind (wpAny_newTuple (hsz := by show 2 ≤ sizeLine; decide) ?_)))
  have sz : hd.objs.size = s.heap.objs.size := by rw [sd.1, sb.1, sa.1]
  have zd : IsZipB hd z TI TO (rawInt t) true := sd.extBut _ _ D.i2z.symm (sb.extBut _ _ D.i1z.symm za)
  have q1d := q1.ext sd.extBut D.i12 D.l1i2
  have up : ∀ c o, hd.get? c = some o → (hd.push { cls := .type "tuple", data := .seq #[x, y] }).get? c = some o := fun c o e => Heap.get?_push_of_some _ e
  refine wpAny_pure ⟨_, rfl, wpAny_pure ?_⟩
  show Q (some (.ref hd.objs.size)) _
  rw [sz]
  refine hQ _ (up _ _ zd) (q1d.at (fun o e => up _ o e) (fun o e => up _ o e)) (q2.at (fun o e => up _ o e) (fun o e => up _ o e)) ?_ fun c o c1 c2 c3 e => up _ _ (sd.extBut _ _ c3 (sb.extBut _ _ c2 (sa.extBut _ _ c1 e)))
  rw [← sz]
  exact Heap.get?_push_size _ rfl
theorem zb_end {z TI TO i1 i2 l1 l2 t : Addr} {k1 : Nat} {xs : Array Value} {b : Bool} {ob : Obj} {Q : Option Value → Shared → Prop} (hh : A.handled = none) (D : ZipApart z TI TO i1 i2 l1 l2)
    (hz : IsZipB s.heap z TI TO (rawInt t) b) (ht : s.heap.get? t = some ob) (hTI : IsPair s.heap TI (.ref i1) (.ref i2)) (h1 : SqIt s.heap i1 l1 k1 xs) (hx : xs[k1]? = none)
    (hQ : ∀ h', (∀ c o, c ≠ z → c ≠ i1 → c ≠ i2 → s.heap.get? c = some o → h'.get? c = some o) → Q none { s with heap := h' }) : wpAny (model prog w) A (pyNext (.ref z)) Q E s := by
  have hT : s.TypeIs (.ref z) "zip" := ⟨_, hz, rfl⟩
  unfold pyNext
  have hh1 : A.in1.handled = none := hh
  suffices hs : wpAny (model prog w) A.in1 (Builtin.«zip.__next__» ⟨[.ref z], []⟩) (fun fin s' => ∃ v, fin = .done (.ret v) ∧ False)
      (fun v s' => ∃ h' e, v = .ref e ∧ s' = { s with heap := h' } ∧ (∀ c o, c ≠ z → c ≠ i1 → c ≠ i2 → s.heap.get? c = some o → h'.get? c = some o) ∧ ∃ o, h'.get? e = some o ∧ o.cls = .type "StopIteration") s by
    refine wpAny_bind (wpAny_attempt (wpAny_callSpecial?_slot (name := Str.ofString "__next__") hT F.slot_zip_next (wpAny_call_entry F.slot_zip_next hT F.entry_zip_next (wpAny_mono hs (fun _ _ h => by obtain ⟨_, _, f⟩ := h; exact f.elim) ?_) (F.args_zip_next_1 _))))
    rintro _ _ ⟨h', e, rfl, rfl, hk, o, ho, hc⟩
    exact wpAny_bind (wpAny_isInstance (T := "StopIteration") (b := true) ⟨o, ho, hc⟩ isSubtype_stop (wpAny_pure (hQ _ hk)))
  show wpAny _ _ (field (.ref z) 2 >>= _) _ _ _
  refine wpAny_bind (wpAny_field hz rfl (x := .bool false) rfl ?_)
  show wpAny _ _ (field (.ref z) 3 >>= _) _ _ _
  refine wpAny_bind (wpAny_field hz rfl (x := .ref TI) rfl (wpAny_bind (wpAny_seqItems hTI rfl ?_)))
  show wpAny _ _ (Builtin.SmallTypes.ownedTupleIsFree (.ref z) >>= _) _ _ _
  refine wpAny_bind (zb_notFree hz ht fun ha za sa => ?_)
  simp only [Bool.false_eq_true, if_false]
  refine wpAny_bind ?_
  rw [← Array.forIn_toList]
  simp only [List.forIn_cons, List.forIn_nil]
  refine wpAny_bind (wpAny_bind (wpAny_holding ?_))
  show wpAny _ _ (Builtin.SmallTypes.nextOf (.ref i1) >>= _) _ _ _
  refine wpAny_bind (sq_end hh1 (h1.ext sa.extBut D.i1z D.l1z) hx fun hb e sb hoe => ?_)
  exact ⟨hb, e, rfl, rfl, fun c o c1 c3 _ x => sb _ _ c3 (sa.extBut _ _ c1 x), hoe⟩
end
end L2

namespace L2
open PySem PySem.Spec PyProof.Rows
theorem Same.seqB {K : PySem.W.Frag} {c : Bool} {H H' : Hp} {a : Addr} {xs : List V} (e : Same H H') (h : SqB K c H a xs) : SqB K c H' a xs := by
  cases c
  · rcases (show SqT K H a xs from h) with (h | ⟨o, h⟩) | h
    · exact .inl (.inl (e _ _ h))
    · exact .inl (.inr ⟨o, e _ _ h⟩)
    · exact .inr h
  · exact Same.seq e (show SqL K H a xs from h)
def ItK (c : Bool) (h : Heap) (i1 a : Addr) (k : Nat) : Prop := ∃ o, h.get? i1 = some o ∧ o.cls = .type (if c = true then "list_iterator" else "tuple_iterator") ∧ o.data = .fields #[.ref a, .int k 0]
theorem it_kd {c : Bool} {h : Heap} {i1 a : Addr} {k : Nat} {its its' : Array Value} (o : SqO c h a its') (q : SqIt h i1 a k its) : ItK c h i1 a k := by
  cases c
  · rcases q with ⟨_, ⟨o1, e1, c1, _⟩⟩ | ⟨q, _⟩
    · obtain ⟨o2, e2, c2, _⟩ := (show h.IsTuple a its' from o)
      rw [e1] at e2
      cases e2
      rw [c1] at c2
      exact absurd (Value.type.inj c2) (by decide)
    · exact q
  · rcases q with ⟨q, _⟩ | ⟨_, ⟨o1, e1, c1, _⟩⟩
    · exact q
    · obtain ⟨o2, e2, c2, _⟩ := (show h.IsList a its' from o)
      rw [e1] at e2
      cases e2
      rw [c1] at c2
      exact absurd (Value.type.inj c2) (by decide)
theorem kd_sq {c : Bool} {h : Heap} {i1 a : Addr} {k : Nat} {its : Array Value} (o : SqO c h a its) (q : ItK c h i1 a k) : SqIt h i1 a k its := by
  cases c
  · exact .inr ⟨q, o⟩
  · exact .inl ⟨q, o⟩
theorem ItK.at {c : Bool} {h h' : Heap} {i1 a : Addr} {k : Nat} (q : ItK c h i1 a k) (e : ∀ o, h.get? i1 = some o → h'.get? i1 = some o) : ItK c h' i1 a k := by
  obtain ⟨o, h1, h2, h3⟩ := q
  exact ⟨o, e o h1, h2, h3⟩
/-- the zip object and its parts, before turn i -/
def ZSt (c d : Bool) (a b z TI TO i1 i2 : Addr) (cs : List Addr) (i : Nat) (h : Heap) : Prop :=
  ((i = 0 ∧ IsZip h z TI TO .none) ∨ ∃ (t : Addr) (f : Bool), cs[0]? = some t ∧ IsZipB h z TI TO (rawInt t) f) ∧ IsPair h TI (.ref i1) (.ref i2) ∧ (∃ p q, IsPair h TO p q) ∧ ItK c h i1 a i ∧ ItK d h i2 b i
def PairsAt (H : Hp) (cs : List Addr) (xs ys : List V) : Prop := ∀ (j : Nat) (t : Addr) (x y : V), cs[j]? = some t → xs[j]? = some x → ys[j]? = some y → H t = some (.tup [x, y])
section
variable {X : Cx} {pins : List (Addr × Obj)} {σ : St}
theorem lz_loop (hc : X.calm = true) {c d : Bool} {a b z TI TO i1 i2 S : Addr} {xs ys : List V} {H0 : Hp} {A : Around} {R : Result → Shared → Prop} {res : Value} (hh : A.handled = none) (D : ZipApart z TI TO i1 i2 a b) (hxy : xs.length = ys.length) (hn : xs.length ≤ sizeLine)
    (q1 : SqB X.K c H0 a xs) (q2 : SqB X.K d H0 b ys) (hS0 : H0 S = none) (hSz : S ∉ [z, TI, TO, i1, i2]) :
    ∀ (k i : Nat) (s : Shared) (H : Hp) (cs : List Addr), xs.length - i = k → i ≤ xs.length → Inv X pins σ H s → (∀ e ∈ [z, TI, TO, i1, i2], FpOk X pins H e) → ZSt c d a b z TI TO i1 i2 cs i s.heap → H S = some (.lst (cs.map V.ref)) → cs.length = i → PairsAt H cs xs ys → (∀ t ∈ cs, H0 t = none ∧ t ≠ S) → Same H0 H →
      (∀ s' H' cs', Inv X pins σ H' s' → H' S = some (.lst (cs'.map V.ref)) → cs'.length = xs.length → PairsAt H' cs' xs ys → (∀ t ∈ cs', H0 t = none ∧ t ≠ S) → Same H0 H' → R (.ok (.ret res)) s') →
      codeAny (model X.prog X.w) A (.builtin "list.extend.loop" ⟨[.ref S, .ref z, res], []⟩) R s := by
  intro k
  induction k with
  | zero =>
    intro i s H cs hk hi I hf st hS cl pa fr sm hR
    have hin : i = xs.length := by omega
    refine codeAny_builtin F.entry_extend_loop ?_
    rw [Around.under_plainId F.plain_extend_loop _]
    show wpAny _ A.in1 (pyNext (.ref z) >>= _) _ _ s
    have hq1 := sm.seqB q1
    have hq2 := sm.seqB q2
    obtain ⟨its1, rv1, s1, _⟩ := SqB.at I hq1
    obtain ⟨its2, rv2, s2, _⟩ := SqB.at I hq2
    obtain ⟨hz, hTI, ⟨p, q, hTO⟩, it1, it2⟩ := st
    have l1 := rv1.length
    have S1 := kd_sq s1 it1
    have S2 := kd_sq s2 it2
    have hx : its1.toArray[i]? = none := Array.getElem?_eq_none (by simp; omega)
    have fin : ∀ h', (∀ e o, e ≠ z → e ≠ TO → e ≠ i1 → e ≠ i2 → s.heap.get? e = some o → h'.get? e = some o) → R (.ok (.ret res)) { s with heap := h' } := fun h' kp => by
      have I2 : Inv X pins σ H { s with heap := h' } := I.turnedL (t' := s.toks) (ch := [z, TI, TO, i1, i2]) (fun e o he eo => kp e o (fun y => he (by simp [y])) (fun y => he (by simp [y])) (fun y => he (by simp [y])) (fun y => he (by simp [y])) eo) hf
      exact hR _ H cs I2 hS (by omega) pa fr sm
    rcases hz with ⟨_, hz⟩ | ⟨t, f, ht, hz⟩
    · exact wpAny_bind (zq_end (A := A.in1) hh D hz hTI hTO S1 S2 (.inl hx) fun h' kp => wpAny_pure (fin h' kp))
    · have hlt := (List.getElem?_eq_some_iff.mp ht).1
      have ht' : H t = some (.tup [xs[0]'(by omega), ys[0]'(by omega)]) := pa 0 t _ _ ht (List.getElem?_eq_getElem _) (List.getElem?_eq_getElem _)
      obtain ⟨_, _, _, _, ob, eo, _⟩ := I.hok t _ ht'
      exact wpAny_bind (zb_end (A := A.in1) hh D hz eo hTI S1 hx fun h' kp => wpAny_pure (fin h' fun e o n1 n2 n3 n4 q => kp e o n1 n3 n4 q))
  | succ k ih =>
    intro i s H cs hk hi I hf st hS cl pa fr sm hR
    have hlt : i < xs.length := by omega
    refine codeAny_builtin F.entry_extend_loop ?_
    rw [Around.under_plainId F.plain_extend_loop _]
    show wpAny _ A.in1 (pyNext (.ref z) >>= _) _ _ s
    have hq1 := sm.seqB q1
    have hq2 := sm.seqB q2
    obtain ⟨its1, rv1, s1, _⟩ := SqB.at I hq1
    obtain ⟨its2, rv2, s2, _⟩ := SqB.at I hq2
    have hx : xs[i]? = some xs[i] := List.getElem?_eq_getElem hlt
    have hy : ys[i]? = some (ys[i]'(by omega)) := List.getElem?_eq_getElem _
    obtain ⟨u, hu, ru⟩ := rv1.get hx
    obtain ⟨v, hv, rv⟩ := rv2.get hy
    obtain ⟨hz, hTI, ⟨p, q, hTO⟩, it1, it2⟩ := st
    have S1 := kd_sq s1 it1
    have S2 := kd_sq s2 it2
    have zlt : z < s.heap.objs.size := by rcases hz with ⟨_, hz⟩ | ⟨_, _, _, hz⟩ <;> exact Heap.lt_size hz
    have flt : ∀ e ∈ [z, TI, TO, i1, i2], e < s.heap.objs.size := fun e he => by
      simp only [List.mem_cons, List.not_mem_nil, or_false] at he
      rcases he with rfl | rfl | rfl | rfl | rfl
      · exact zlt
      · exact Heap.lt_size hTI
      · exact Heap.lt_size hTO
      · obtain ⟨_, e, _⟩ := it1; exact Heap.lt_size e
      · obtain ⟨_, e, _⟩ := it2; exact Heap.lt_size e
    have hT : H s.heap.objs.size = none := I.hok.fresh (Nat.le_refl _)
    have nS : s.heap.objs.size ≠ S := fun e => by rw [e, hS] at hT; cases hT
    have nin : s.heap.objs.size ∉ cs := fun hm => by
      obtain ⟨j, hj, ej⟩ := List.getElem_of_mem hm
      have hj' : j < xs.length := by omega
      have := pa j _ _ _ (List.getElem?_eq_getElem hj) (List.getElem?_eq_getElem hj') (List.getElem?_eq_getElem (by omega))
      rw [ej, hT] at this
      cases this
    have step : ∀ h', ((∃ (t : Addr) (f : Bool), (cs ++ [s.heap.objs.size])[0]? = some t ∧ IsZipB h' z TI TO (rawInt t) f)) → (∃ p q, IsPair h' TO p q) → SqIt h' i1 a (i + 1) its1.toArray → SqIt h' i2 b (i + 1) its2.toArray → IsPair h' s.heap.objs.size u v →
        (∀ e o, e ≠ z → e ≠ TO → e ≠ i1 → e ≠ i2 → s.heap.get? e = some o → h'.get? e = some o) →
        wpAny (model X.prog X.w) A.in1 (updateSeq S (·.push (.ref s.heap.objs.size)) >>= fun _ => again (.builtin "list.extend.loop" ⟨[.ref S, .ref z, res], []⟩))
          (fun fin s' => match fin with | .done f => R (.ok f) s' | .again c' => c'.quiet = true ∧ codeAny (model X.prog X.w) A c' R s') (fun e s' => R (.error e) s') { s with heap := h' } := fun h' z' to' g1 g2 pr kp => by
      have I2 : Inv X pins σ (upd H s.heap.objs.size (.tup [xs[i], ys[i]'(by omega)])) { s with heap := h' } :=
        I.turnedNew (t' := s.toks) (ch := [z, TI, TO, i1, i2]) (fun e ob he ee => kp e ob (fun y => he (by simp [y])) (fun y => he (by simp [y])) (fun y => he (by simp [y])) (fun y => he (by simp [y])) ee) hf (Nat.le_refl _) ⟨by show 2 ≤ sizeLine; decide, [u, v], .cons ru (.cons rv .nil), ⟨_, pr, rfl, _, rfl⟩, _, pr, rfl⟩
      have hS2 : upd H s.heap.objs.size (.tup [xs[i], ys[i]'(by omega)]) S = some (.lst (cs.map V.ref)) := by rw [upd_ne (Ne.symm nS)]; exact hS
      obtain ⟨zz, its, n, r, hl, e⟩ := I2.lstM hS2
      have hll : its.length = i := by rw [← hl, List.length_map]; exact cl
      have I3 := I2.lset (t' := s.toks) (f := (·.push (Value.ref s.heap.objs.size))) (its' := its ++ [.ref s.heap.objs.size]) (ys := (cs ++ [s.heap.objs.size]).map V.ref) hS2 e (by simp) (by rw [List.map_append]; exact r.append (.cons rfl .nil)) (by rw [List.length_map, List.length_append, List.length_singleton]; omega)
      refine wpAny_bind (wpAny_updateSeq e rfl (wpAny_pure ⟨plainId_quiet F.plain_extend_loop _, ?_⟩) (by rw [List.size_toArray]; omega) (by show (its.toArray.push _).size ≤ sizeLine + 1; rw [Array.size_push, List.size_toArray]; omega))
      have sne : ∀ e ∈ [z, TI, TO, i1, i2], e ≠ S := fun e he y => hSz (y ▸ he)
      have oth : ∀ e o, e ≠ S → h'.get? e = some o → (h'.update S (Obj.mapSeq (·.push (Value.ref s.heap.objs.size)))).get? e = some o := fun e o ne q => (Heap.get?_update_other _ _ (Ne.symm ne)).trans q
      have so1 : SqO c h' a its1.toArray := by
        rcases (show SqIt h' i1 a (i + 1) its1.toArray from g1) with ⟨_, hq⟩ | ⟨_, hq⟩
        · cases c
          · obtain ⟨o1, e1, c1, _⟩ := (show s.heap.IsTuple a its1.toArray from s1)
            obtain ⟨o2, e2, c2, _⟩ := hq
            have e3 := kp a o1 D.l1z D.l1TO D.l1i1 D.l1i2 e1
            rw [e2] at e3
            cases e3
            rw [c1] at c2
            exact absurd (Value.type.inj c2) (by decide)
          · exact hq
        · cases c
          · exact hq
          · obtain ⟨o1, e1, c1, _⟩ := (show s.heap.IsList a its1.toArray from s1)
            obtain ⟨o2, e2, c2, _⟩ := hq
            have e3 := kp a o1 D.l1z D.l1TO D.l1i1 D.l1i2 e1
            rw [e2] at e3
            cases e3
            rw [c1] at c2
            exact absurd (Value.type.inj c2) (by decide)
      have so2 : SqO d h' b its2.toArray := by
        rcases (show SqIt h' i2 b (i + 1) its2.toArray from g2) with ⟨_, hq⟩ | ⟨_, hq⟩
        · cases d
          · obtain ⟨o1, e1, c1, _⟩ := (show s.heap.IsTuple b its2.toArray from s2)
            obtain ⟨o2, e2, c2, _⟩ := hq
            have e3 := kp b o1 D.l2z D.l2TO D.l2i1 D.l2i2 e1
            rw [e2] at e3
            cases e3
            rw [c1] at c2
            exact absurd (Value.type.inj c2) (by decide)
          · exact hq
        · cases d
          · exact hq
          · obtain ⟨o1, e1, c1, _⟩ := (show s.heap.IsList b its2.toArray from s2)
            obtain ⟨o2, e2, c2, _⟩ := hq
            have e3 := kp b o1 D.l2z D.l2TO D.l2i1 D.l2i2 e1
            rw [e2] at e3
            cases e3
            rw [c1] at c2
            exact absurd (Value.type.inj c2) (by decide)
      obtain ⟨t, f, ht, hzb⟩ := z'
      obtain ⟨p', q', hTO'⟩ := to'
      have hTI' : IsPair h' TI (.ref i1) (.ref i2) := kp _ _ D.TIz D.TITO D.TIi1 D.TIi2 hTI
      have nup : ∀ e, e ≠ S → e ≠ s.heap.objs.size → upd (upd H s.heap.objs.size (.tup [xs[i], ys[i]'(by omega)])) S (.lst ((cs ++ [s.heap.objs.size]).map V.ref)) e = H e := fun e n1 n2 => by rw [upd_ne n1, upd_ne n2]
      refine ih (i + 1) _ _ (cs ++ [s.heap.objs.size]) (by omega) (by omega) I3 (fun e he => ?_) ⟨.inr ⟨t, f, ht, oth _ _ (sne z (by simp)) hzb⟩, oth _ _ (sne TI (by simp)) hTI', ⟨p', q', oth _ _ (sne TO (by simp)) hTO'⟩, (it_kd so1 g1).at fun o => oth _ o (sne i1 (by simp)), (it_kd so2 g2).at fun o => oth _ o (sne i2 (by simp))⟩ upd_same (by rw [List.length_append, List.length_singleton]; omega) ?_ ?_ ?_ hR
      · obtain ⟨f1, f2⟩ := hf e he
        refine ⟨?_, f2⟩
        rw [nup e (sne e he) (Nat.ne_of_lt (flt e he))]
        exact f1
      · intro j t' x y ht' hx' hy'
        by_cases cj : j < cs.length
        · rw [List.getElem?_append_left cj] at ht'
          have hm := List.mem_of_getElem? ht'
          rw [nup t' (fr t' hm).2 (fun z => nin (z ▸ hm))]
          exact pa j t' x y ht' hx' hy'
        · have cj2 : j = cs.length := by
            have := (List.getElem?_eq_some_iff.mp ht').1
            rw [List.length_append, List.length_singleton] at this
            omega
          subst cj2
          rw [List.getElem?_append_right (Nat.le_refl _), Nat.sub_self] at ht'
          have et : s.heap.objs.size = t' := Option.some.inj ht'
          rw [cl, hx] at hx'
          rw [cl, hy] at hy'
          cases hx'
          cases hy'
          rw [← et, upd_ne nS, upd_same]
      · intro t' ht'
        rcases List.mem_append.mp ht' with hm | hm
        · exact fr t' hm
        · rw [List.mem_singleton.mp hm]
          exact ⟨sm.free hT, nS⟩
      · intro e o he
        rw [nup e (fun z => by rw [z, hS0] at he; cases he) (fun z => by rw [z] at he; rw [sm _ _ he] at hT; cases hT)]
        exact sm _ _ he
    rcases hz with ⟨i0, hz⟩ | ⟨t, f, ht, hz⟩
    · refine wpAny_bind (zq_item D hz hTI hTO S1 S2 (x := u) (y := v) (by simpa using hu) (by simpa using hv) fun h' z1 TO1 g1 g2 T1 k1 => ?_)
      refine step h' ⟨_, _, ?_, z1⟩ ⟨_, _, TO1⟩ g1 g2 T1 k1
      have : cs = [] := List.eq_nil_of_length_eq_zero (by omega)
      rw [this]
      rfl
    · have hlt0 := (List.getElem?_eq_some_iff.mp ht).1
      have ht' : H t = some (.tup [xs[0]'(by omega), ys[0]'(by omega)]) := pa 0 t _ _ ht (List.getElem?_eq_getElem _) (List.getElem?_eq_getElem _)
      obtain ⟨_, _, _, _, ob, eo, _⟩ := I.hok t _ ht'
      refine wpAny_bind (zb_item D hz eo hTI S1 S2 (x := u) (y := v) (by simpa using hu) (by simpa using hv) fun h' z1 g1 g2 T1 k1 => ?_)
      exact step h' ⟨t, _, by rw [List.getElem?_append_left hlt0]; exact ht, z1⟩ ⟨p, q, k1 _ _ D.TOz D.TOi1 D.TOi2 hTO⟩ g1 g2 T1 fun e o n1 n2 n3 n4 => k1 e o n1 n3 n4
end
end L2

namespace L2
open PySem PySem.Spec PyProof.Rows
section
variable {X : Cx} {pins : List (Addr × Obj)} {σ : St}
theorem call_list_zip (hc : X.calm = true) {c d : Bool} {a b z TI TO i1 i2 : Addr} {xs ys : List V} {H : Hp} {s : Shared} {Q : VK} (I : Inv X pins σ H s) (D : ZipApart z TI TO i1 i2 a b) (hxy : xs.length = ys.length) (hn : xs.length ≤ sizeLine)
    (q1 : SqB X.K c H a xs) (q2 : SqB X.K d H b ys) (hf : ∀ e ∈ [z, TI, TO, i1, i2], FpOk X pins H e) (st : ZSt c d a b z TI TO i1 i2 [] 0 s.heap)
    (h : ∀ S cs H2, H S = none → H2 S = some (.lst (cs.map V.ref)) → cs.length = xs.length → PairsAt H2 cs xs ys → (∀ t ∈ cs, H t = none ∧ t ≠ S) → Same H H2 → Q (.ref S) H2) :
    wpAny (model X.prog X.w) X.A (call (.type "list") [.ref z]) (EP X pins σ Q) X.xe s := by
  have hh : X.A.handled = none := I.ok.hd hc
  have zlt : ∀ e ∈ [z, TI, TO, i1, i2], e < s.heap.objs.size := fun e he => by
    obtain ⟨hz, hTI, ⟨p, q, hTO⟩, it1, it2⟩ := st
    simp only [List.mem_cons, List.not_mem_nil, or_false] at he
    rcases he with rfl | rfl | rfl | rfl | rfl
    · rcases hz with ⟨_, hz⟩ | ⟨_, _, _, hz⟩ <;> exact Heap.lt_size hz
    · exact Heap.lt_size hTI
    · exact Heap.lt_size hTO
    · obtain ⟨_, e, _⟩ := it1; exact Heap.lt_size e
    · obtain ⟨_, e, _⟩ := it2; exact Heap.lt_size e
  have hSz : s.heap.objs.size ∉ [z, TI, TO, i1, i2] := fun hm => Nat.lt_irrefl _ (zlt _ hm)
  have hS0 : H s.heap.objs.size = none := I.hok.fresh (Nat.le_refl _)
  have hzS : s.heap.objs.size ≠ z := fun e => hSz (by rw [e]; simp)
  refine callType_codes (Q₁ := fun obj s1 => obj = .ref s.heap.objs.size ∧ s1 = { s with heap := s.heap.push { cls := .type "list", data := .seq #[] } }) F.called_list (F.typeCall_list_1 _) F.entry_list_init
    (code_list_new _ ⟨rfl, rfl⟩) fun obj s1 h1 => ?_
  obtain ⟨rfl, rfl⟩ := h1
  have hS : (s.heap.push { cls := .type "list", data := .seq #[] }).get? s.heap.objs.size = some { cls := .type "list", data := .seq #[] } := Heap.get?_push_size _ rfl
  refine ⟨⟨_, hS, rfl⟩, F.args_list_init_2 _ _, ?_⟩
  show wpAny _ X.A.in1.in1 (do let old ← Builtin.List.listItems (.ref s.heap.objs.size); Builtin.List.listUpdate (.ref s.heap.objs.size) (fun _ => #[]); letGo old.toList.reverse; Builtin.List.listExtendWith (.ref s.heap.objs.size) (.ref z) .none) _ _ _
  have J0 : Inv X pins σ (upd H s.heap.objs.size (.lst [])) { s with heap := s.heap.push { cls := .type "list", data := .seq #[] } } := I.lnew (t' := s.toks) .nil (by show 0 ≤ sizeLine; decide)
  have J1 := J0.lset (t' := s.toks) (its := []) (f := fun _ => (#[] : Array Value)) (its' := []) (ys := []) upd_same hS (by simp) .nil (by show 0 ≤ sizeLine; decide)
  refine wpAny_bind ?_
  unfold Builtin.List.listItems
  refine wpAny_bind (wpAny_seqItems hS rfl (wpAny_pure ?_))
  show wpAny _ X.A.in1.in1 (updateSeq s.heap.objs.size (fun _ => #[]) >>= fun _ => letGo (#[] : Array Value).toList.reverse >>= fun _ => Builtin.List.listExtendWith (.ref s.heap.objs.size) (.ref z) .none) _ _ _
  refine wpAny_bind (wpAny_updateSeq hS rfl ?_)
  have hS2 := Heap.get?_update_self (Obj.mapSeq (fun _ => (#[] : Array Value))) hS rfl
  have oth : ∀ b o, b ≠ s.heap.objs.size → s.heap.get? b = some o → ((s.heap.push { cls := .type "list", data := .seq #[] }).update s.heap.objs.size (Obj.mapSeq (fun _ => (#[] : Array Value)))).get? b = some o :=
    fun b o hb e => (Heap.get?_update_other _ _ (Ne.symm hb)).trans (Heap.get?_push_of_some _ e)
  refine wpAny_bind (wpAny_letGo ?_)
  have zO : IsZip s.heap z TI TO .none := by
    rcases st.1 with ⟨_, hz⟩ | ⟨_, _, ht, _⟩
    · exact hz
    · cases ht
  have zO2 := oth z _ (Ne.symm hzS) zO
  generalize hh2 : (s.heap.push { cls := .type "list", data := .seq #[] }).update s.heap.objs.size (Obj.mapSeq (fun _ => (#[] : Array Value))) = h2 at J1 hS2 oth zO2 ⊢
  have hT : ({ s with heap := h2 } : Shared).TypeIs (.ref z) "zip" := ⟨_, zO2, rfl⟩
  unfold Builtin.List.listExtendWith
  refine wpAny_bind (wpAny_typeOf hT ?_)
  have h1 : Builtin.List.listSameRef (.ref s.heap.objs.size) (.ref z) = false := by simp [Builtin.List.listSameRef, hzS]
  have h2' : (Value.type "zip" == Value.type "list") = false := by decide
  have h3 : (Value.type "zip" == Value.type "tuple") = false := by decide
  simp only [h1, h2', h3, Bool.or_false, Bool.false_eq_true, if_false]
  refine wpAny_bind (wpAny_pyIter_zip zO2 ?_)
  refine wpAny_bind (wpAny_holding ?_)
  unfold Builtin.List.listLengthHint
  refine wpAny_bind (wpAny_specialOf hT zip_no_len ?_)
  show wpAny _ X.A.in1.in1 (specialOf (Value.ref z) (Str.ofString "__length_hint__") >>= _) _ _ _
  refine wpAny_bind (wpAny_specialOf hT zip_no_hint ?_)
  refine wpAny_pure ?_
  show wpAny _ X.A.in1.in1 (rule "list.extend.makes-room" >>= fun _ => Builtin.List.listTouch (.ref s.heap.objs.size) >>= fun _ =>
    again (.builtin "list.extend.loop" ⟨[.ref s.heap.objs.size, .ref z, .none], []⟩)) _ _ _
  refine wpAny_bind (wpAny_rule ?_)
  refine wpAny_bind ?_
  show wpAny _ X.A.in1.in1 (updateSeq s.heap.objs.size (·.push .none) >>= fun _ => updateSeq s.heap.objs.size (·.pop)) _ _ _
  refine wpAny_bind (wpAny_updateSeq hS2 rfl ?_)
  have hS3 := Heap.get?_update_self (Obj.mapSeq (·.push Value.none)) hS2 rfl
  refine wpAny_updateSeq (hz := by seq_fits) hS3 rfl ?_
  have J2 := J1.lset (t' := s.toks) (its := []) (f := (·.push Value.none)) (its' := [.none]) (ys := [.non]) upd_same hS2 (by simp) (.cons rfl .nil) (by show 1 ≤ sizeLine; decide)
  have J3 := J2.lset (t' := s.toks) (its := [.none]) (f := (·.pop)) (its' := []) (ys := []) upd_same hS3 (by simp) .nil (by show 0 ≤ sizeLine; decide)
  have oth3 : ∀ b o, b ≠ s.heap.objs.size → s.heap.get? b = some o → ((h2.update s.heap.objs.size (Obj.mapSeq (·.push Value.none))).update s.heap.objs.size (Obj.mapSeq (·.pop))).get? b = some o :=
    fun b o hb e => (Heap.get?_update_other _ _ (Ne.symm hb)).trans ((Heap.get?_update_other _ _ (Ne.symm hb)).trans (oth b o hb e))
  have sm : Same H (upd (upd (upd (upd H s.heap.objs.size (.lst [])) s.heap.objs.size (.lst [])) s.heap.objs.size (.lst [.non])) s.heap.objs.size (.lst [])) := fun e o q => by
    have ne : e ≠ s.heap.objs.size := ne_of_none q hS0
    rw [upd_ne ne, upd_ne ne, upd_ne ne, upd_ne ne]
    exact q
  have ss : ∀ e ∈ [z, TI, TO, i1, i2], e ≠ s.heap.objs.size := fun e he => Nat.ne_of_lt (zlt e he)
  have st3 : ZSt c d a b z TI TO i1 i2 [] 0 ((h2.update s.heap.objs.size (Obj.mapSeq (·.push Value.none))).update s.heap.objs.size (Obj.mapSeq (·.pop))) := by
    obtain ⟨hz, hTI, ⟨p, q, hTO⟩, it1, it2⟩ := st
    refine ⟨?_, oth3 _ _ (ss TI (by simp)) hTI, ⟨p, q, oth3 _ _ (ss TO (by simp)) hTO⟩, it1.at fun o => oth3 _ o (ss i1 (by simp)), it2.at fun o => oth3 _ o (ss i2 (by simp))⟩
    rcases hz with ⟨_, hz⟩ | ⟨_, _, ht, _⟩
    · exact .inl ⟨rfl, oth3 _ _ (ss z (by simp)) hz⟩
    · cases ht
  refine wpAny_pure ⟨plainId_quiet F.plain_extend_loop _, lz_loop (A := X.A.in1) hc hh D hxy hn q1 q2 hS0 hSz xs.length 0 _ _ [] (by omega) (Nat.zero_le _) J3 (fun e he => ?_) st3 upd_same rfl (fun j t x y ht => by simp at ht) (fun t ht => by cases ht) sm fun s' H' cs' I' g1 g2 g3 g4 g5 => ?_⟩
  · obtain ⟨f1, f2⟩ := hf e he
    have ne := ss e he
    refine ⟨?_, f2⟩
    rw [upd_ne ne, upd_ne ne, upd_ne ne, upd_ne ne]
    exact f1
  · exact ⟨rfl, .ref s.heap.objs.size, H', I', rfl, h _ cs' H' hS0 g1 g2 g3 g4 g5⟩
/-- list(zip(a, b)), each a list or a tuple -/
def tListZip (K : PySem.W.Frag) (t : TA) : TE := fun σ H Q => t σ H fun vs H1 => ∃ a b c d xs ys, vs = [.ref a, .ref b] ∧ SqB K c H1 a xs ∧ SqB K d H1 b ys ∧ xs.length = ys.length ∧ xs.length ≤ sizeLine ∧
  ∀ S cs H2, H1 S = none → H2 S = some (.lst (cs.map V.ref)) → cs.length = xs.length → PairsAt H2 cs xs ys → (∀ t ∈ cs, H1 t = none ∧ t ≠ S) → Same H1 H2 → Q (.ref S) H2
theorem pe_listzip {e1 e2 : Expr} {t : TA} {p1 p2 pos1 pos2 : Pos} (hc : X.calm = true) (hg1 : Gl X "list") (hm1 : X.mg "list" = none) (hg2 : Gl X "zip") (hm2 : X.mg "zip" = none) (ha : PA X [e1, e2] t)
    (hs1 : starEach [(.Call (.Name "zip" p2) [e1, e2] [] pos2 : Expr)] X.env = [(false, eval (.Call (.Name "zip" p2) [e1, e2] [] pos2) X.env)] := by rfl) (hs : starEach [e1, e2] X.env = [(false, eval e1 X.env), (false, eval e2 X.env)] := by rfl) (hs2 : starEach [e2] X.env = [(false, eval e2 X.env)] := by rfl) :
    PE X (.Call (.Name "list" p1) [.Call (.Name "zip" p2) [e1, e2] [] pos2] [] pos1) (tListZip X.K t) := by
  intro pins s σ H Q I h
  refine wpAny_Call_Name_kw (ld_blt I hg1 hm1 boot_list' ?_)
  refine PyProof.Rows.callWith_type1 ?_ hs1 rfl
  rw [hs1]
  show wpAny _ _ (spliced ((false, eval (.Call (.Name "zip" p2) [e1, e2] [] pos2) X.env) :: backTo pos1 (starEach [] X.env))) _ _ s
  have step : wpAny (model X.prog X.w) X.A (eval (.Call (.Name "zip" p2) [e1, e2] [] pos2) X.env) (fun v s1 => ∃ (z TI TO i1 i2 a b : Addr) (c d : Bool) (xs ys : List V) (H1 : Hp), v = .ref z ∧ Inv X pins σ H1 s1 ∧ ZipApart z TI TO i1 i2 a b ∧ xs.length = ys.length ∧ xs.length ≤ sizeLine ∧ SqB X.K c H1 a xs ∧ SqB X.K d H1 b ys ∧
      (∀ e ∈ [z, TI, TO, i1, i2], FpOk X pins H1 e) ∧ ZSt c d a b z TI TO i1 i2 [] 0 s1.heap ∧ ∀ S cs H2, H1 S = none → H2 S = some (.lst (cs.map V.ref)) → cs.length = xs.length → PairsAt H2 cs xs ys → (∀ t ∈ cs, H1 t = none ∧ t ≠ S) → Same H1 H2 → Q (.ref S) H2) X.xe s := by
    refine Call_ (ld_blt I hg2 hm2 boot_zip' (PyProof.Rows.callWith_type1 (thn (ha pos2 pins s σ H _ I h) fun us s1 ⟨vs, H1, I1, r1, q1⟩ => ?_) (by rw [hs, hs2]) (by rw [hs2]; rfl)))
    obtain ⟨a, b, c, d, xs, ys, ev, hq1, hq2, hxy, hn, q⟩ := q1
    subst ev
    cases r1 with
    | cons r rr =>
      cases rr with
      | cons r' rr =>
        cases rr
        cases r
        cases r'
        obtain ⟨its1, rv1, o1, l1⟩ := SqB.at I1 hq1
        obtain ⟨its2, rv2, o2, l2⟩ := SqB.at I1 hq2
        refine call_zq o1 o2 fun h' z1 p1 p2 k1 k2 keep => ?_
        have I2 : Inv X pins σ H1 { s1 with heap := h' } := I1.kept (t' := s1.toks) keep
        refine ⟨s1.heap.objs.size + 4, s1.heap.objs.size + 2, s1.heap.objs.size + 3, s1.heap.objs.size, s1.heap.objs.size + 1, a, b, c, d, xs, ys, H1, rfl, I2, zipAp l1 l2, hxy, hn, hq1, hq2, fun e he => ?_, ⟨.inl ⟨rfl, z1⟩, p1, ⟨_, _, p2⟩, zip_kd keep o1 k1, zip_kd keep o2 k2⟩, q⟩
        have ge : s1.heap.objs.size ≤ e := by
          simp only [List.mem_cons, List.not_mem_nil, or_false] at he
          rcases he with h | h | h | h | h <;> rw [h]
          · exact Nat.le_add_right ..
          · exact Nat.le_add_right ..
          · exact Nat.le_add_right ..
          · exact Nat.le_refl _
          · exact Nat.le_add_right ..
        exact I1.fpOk ge (I1.hok.fresh ge)
  refine Calls.spliced_cons (thn step fun v s1 hv => ?_)
  obtain ⟨z, TI, TO, i1, i2, a, b, c, d, xs, ys, H1, rfl, I1, D, hxy, hn, hq1, hq2, hf, st, q⟩ := hv
  refine Calls.spliced_nil ?_
  exact call_list_zip hc I1 D hxy hn hq1 hq2 hf st q
/-- xs != [] -/
def rNeNil (K : PySem.W.Frag) : R2 := fun x y H Q => ∃ a b xs, x = .ref a ∧ y = .ref b ∧ SqL K H a xs ∧ SqL K H b [] ∧ Q (.bl (!xs.isEmpty)) H
theorem op_neNil (hu : X.A.units < cLine) : OpR X (compareOp .NotEq) (rNeNil X.K) := by
  intro pins s σ H x y v u Q I rx ry h
  obtain ⟨a, b, xs, rfl, rfl, ha, hb, q⟩ := h
  cases rx
  cases ry
  obtain ⟨its, r1, p1, _⟩ := I.list ha
  obtain ⟨its2, r2, p2, _⟩ := I.list hb
  have e2 : its2 = [] := r2.nil_iff.mpr rfl
  subst e2
  cases xs with
  | nil =>
    have e1 : its = [] := r1.nil_iff.mpr rfl
    subst e1
    exact (SeqAt.RcNeAt.lists (e := fun _ => true) p1.isList p2.isList rfl hu fun j h1 => absurd h1 (by simp)) X.prog X.w X.xe _ ⟨.bl false, H, I, rfl, q⟩
  | cons z r =>
    have l1 := r1.length
    exact (SeqAt.RcNeAt.lists_lengths p1.isList p2.isList (by simp at l1 ⊢; intro e; rw [e] at l1; simp at l1) hu) X.prog X.w X.xe _ ⟨.bl true, H, I, rfl, q⟩
end
end L2

namespace L2
open PySem PySem.Spec PyProof.Rows
section
variable {X : Cx}
/-- str(x) of a whole number, of a text -/
theorem call_strV : CallR X (.type "str") (fun xs H Q => (∃ i, xs = [.int i] ∧ i.natAbs.log2 < 1920 ∧ Q (.str (toString i)) H) ∨ ∃ x, xs = [.str x] ∧ Q (.str x) H) := by
  intro pins s σ H xs us Q I r h
  rcases h with ⟨i, rfl, hz, q⟩ | ⟨x, rfl, q⟩
  · obtain ⟨u, rfl, t, rfl⟩ := vals1 r
    exact PySem.P.str_of_int hz ⟨.str _, H, I.tok _, ⟨_, rfl⟩, q⟩
  · obtain ⟨u, rfl, t, rfl⟩ := vals1 r
    exact PySem.P.str_of_str ⟨.str x, H, I, ⟨_, rfl⟩, q⟩
end
end L2

namespace Mine
open PySem L2
theorem len1 {us : List Value} (h : us.length = 1) : ∃ a, us = [a] := by
  cases us with
  | nil => cases h
  | cons a r =>
    cases r with
    | nil => exact ⟨a, rfl⟩
    | cons _ _ => cases h
theorem lenS {us : List Value} {n : Nat} (h : us.length = n + 1) : ∃ a r, us = a :: r ∧ r.length = n := by
  cases us with
  | nil => cases h
  | cons a r => exact ⟨a, r, rfl, Nat.succ.inj h⟩
theorem len2 {us : List Value} (h : us.length = 2) : ∃ a b, us = [a, b] := by
  obtain ⟨a, r, rfl, h1⟩ := lenS h
  obtain ⟨b, rfl⟩ := len1 h1
  exact ⟨a, b, rfl⟩
theorem len3 {us : List Value} (h : us.length = 3) : ∃ a b c, us = [a, b, c] := by
  obtain ⟨a, r, rfl, h1⟩ := lenS h
  obtain ⟨b, c, rfl⟩ := len2 h1
  exact ⟨a, b, c, rfl⟩
theorem len4 {us : List Value} (h : us.length = 4) : ∃ a b c d, us = [a, b, c, d] := by
  obtain ⟨a, r, rfl, h1⟩ := lenS h
  obtain ⟨b, c, d, rfl⟩ := len3 h1
  exact ⟨a, b, c, d, rfl⟩
theorem len5 {us : List Value} (h : us.length = 5) : ∃ a b c d e, us = [a, b, c, d, e] := by
  obtain ⟨a, r, rfl, h1⟩ := lenS h
  obtain ⟨b, c, d, e, rfl⟩ := len4 h1
  exact ⟨a, b, c, d, e, rfl⟩
theorem len6 {us : List Value} (h : us.length = 6) : ∃ a b c d e f, us = [a, b, c, d, e, f] := by
  obtain ⟨a, r, rfl, h1⟩ := lenS h
  obtain ⟨b, c, d, e, f, rfl⟩ := len5 h1
  exact ⟨a, b, c, d, e, f, rfl⟩
def top (i : Nat) : Stmt := PySem.Challenge.pw_asktally_k31_whole_helpers_written_and_r.main.body.getD i (.Pass ⟨0, 0, 0, 0⟩)
abbrev s_is_name : Stmt := top 12
abbrev s_is_figures : Stmt := top 13
abbrev s_read_helper : Stmt := top 21
abbrev s_helper_row : Stmt := top 22
abbrev s_next_name : Stmt := top 23
abbrev s_next_figures : Stmt := top 24
abbrev s_next_term : Stmt := top 25
abbrev s_term_in_bracket : Stmt := top 26
abbrev s_helper_text : Stmt := top 27
abbrev s_row_text : Stmt := top 28
abbrev s_term_text : Stmt := top 29
abbrev s_in_bracket : Stmt := top 30
abbrev s_l_feed : Stmt := top 32
abbrev s_l_take : Stmt := top 33
abbrev s_l_name : Stmt := top 34
abbrev s_l_some : Stmt := top 35
abbrev s_l_whole : Stmt := top 36
abbrev s_l_any_term : Stmt := top 37
abbrev s_l_any_row : Stmt := top 38
abbrev s_l_text : Stmt := top 39
abbrev s_l_line : Stmt := top 40
abbrev s_l_alike : Stmt := top 41
abbrev s_l_any_helper : Stmt := top 42
abbrev s_law : Stmt := top 43
section
variable {P : Program} {w : World} {K : PySem.W.Frag} {mg : Str → Option Value} {base : Heap}
theorem feedB (z : Int) : 0 ≤ z % 2147483646 + 1 ∧ z % 2147483646 + 1 ≤ 2147483646 := by omega
theorem sc_l_feed : FnScope ["_law_script", "_law_k", "_law_cell", "_law_own"] ["_law_script", "_law_k"] (defScope s_l_feed) := ⟨rfl, rfl, rfl, by decide +kernel, rfl, by decide +kernel, by decide +kernel⟩
theorem ok_l_feed {f : Addr} {fd : FuncData} (F : Fun K "_law_feed" "_law_feed" s_l_feed f fd) (hlen : mg "len" = none) : FnOk P w K mg base CX0 1 f fd ["_law_script", "_law_k"] (spFeed K) := by
  refine F.ok sc_l_feed (fun vs H Q E h => ?_) (fun cdv A outer s H vs Q E hr h => ?_)
  · obtain ⟨a, ns, k, rfl, _⟩ := h
    rfl
  obtain ⟨a, ns, k, rfl, hS, h63, k0, k1, q⟩ := h
  refine ⟨_, (pss_cons (ps_set (i := 2) sc_l_feed.nd rfl (Or.inl rfl) (pe_op op_add (pe_op op_mul pe_int (pv 1)) pe_int))
      (pss_cons (ps_if (pt_cmpR op_lt (pv 1) (pe_callB call_len_seq rfl hlen PySem.boot_len (pa_cons (pv 0) pa_nil)) (nomark _)) (pss_one (ps_set (i := 2) sc_l_feed.nd rfl (Or.inl rfl) (pe_ix ix_list (pv 0) (pv 1) (fun _ _ => rfl)))) (pss_one (ps_if (pt_cmpR op_gt (pe_callB call_len_seq rfl hlen PySem.boot_len (pa_cons (pv 0) pa_nil)) pe_int (nomark _)) (pss_one (ps_set (i := 2) sc_l_feed.nd rfl (Or.inl rfl) (pe_op op_add (pe_op op_mul (pe_op op_mod (pe_ix ix_list (pv 0) (pe_op op_mod (pv 1) (pe_callB call_len_seq rfl hlen PySem.boot_len (pa_cons (pv 0) pa_nil))) (fun _ _ => rfl)) pe_int) pe_int) (pe_op op_mul pe_int (pv 1))))) pss_nil)))
      (pss_cons (ps_set (i := 3) sc_l_feed.nd rfl (Or.inl rfl) pe_int)
      (pss_cons (ps_if (pt_cmpR op_ge (pv 2) (pe_op op_pow pe_int pe_int) (nomark _)) (pss_one (ps_set (i := 3) sc_l_feed.nd rfl (Or.inl rfl) (pv 2))) pss_nil)
      (pss_one (ps_ret (pe_lst (pa_cons (pv 3) (pa_cons (pe_op op_add (pe_op op_mod (pe_op op_add (pe_op op_mul (pe_op op_mod (pv 2) pe_int) pe_int) (pe_op op_mul pe_int (pv 1))) pe_int) pe_int) pa_nil))))))))), ?_⟩
  have hl : (ns.map V.int).length = ns.length := List.length_map _
  have hp : (10 : Int) ^ (18 : Int).toNat = 1000000000000000000 := by decide
  refine ⟨_, rfl, _, _, rfl, rfl, .inl ⟨by decide, by decide⟩, _, _, rfl, rfl, ?_⟩
  refine ⟨_, rfl, _, rfl, a, _, rfl, .inl hS, _, _, rfl, rfl, _, rfl, ?_⟩
  refine ite2 (fun c => ?b1) (fun c => ?b2)
  case' b1 =>
    have c' : k < (((ns.map V.int).length : Nat) : Int) := of_decide_eq_true c
    rw [hl] at c'
    obtain ⟨v, hv⟩ := at_int (ns := ns) k0 c'
    refine ⟨_, rfl, _, rfl, a, _, _, _, rfl, rfl, hS, hv, ?_⟩
  case' b2 =>
    refine ⟨_, rfl, a, _, rfl, .inl hS, _, _, rfl, rfl, _, rfl, ?_⟩
    refine ite2 (fun c2 => ?b3) (fun c2 => ?b4)
    case' b3 =>
      have c' : (0 : Int) < (((ns.map V.int).length : Nat) : Int) := of_decide_eq_true c2
      have m0 := Int.emod_nonneg k (b := (((ns.map V.int).length : Nat) : Int)) (by omega)
      have m1 := Int.emod_lt_of_pos k c'
      obtain ⟨v, hv⟩ := at_int (ns := ns) m0 (by rw [hl] at m1 ⊢; exact m1)
      have n0 := Int.emod_nonneg v (b := 2147483629) (by decide)
      have n1 := Int.emod_lt_of_pos v (b := 2147483629) (by decide)
      refine ⟨_, rfl, _, rfl, _, rfl, a, _, rfl, .inl hS, _, _, rfl, rfl, c', a, _, _, _, rfl, rfl, hS, hv, _, _, rfl, rfl, (by show (0 : Int) < _; decide), _, _, rfl, rfl, .inr ⟨by decide, by decide⟩, _, rfl, _, _, rfl, rfl, .inl ⟨by decide, by decide⟩, _, _, rfl, rfl, ?_⟩
  all_goals
    refine ⟨_, rfl, _, _, rfl, rfl, ⟨by decide, by decide, by decide⟩, _, _, rfl, rfl, _, rfl, ?_⟩
    refine ite2 (fun c3 => ?_) (fun c3 => ?_)
    · have c4 := of_decide_eq_true c3
      rw [hp] at c4
      refine ⟨_, rfl, _, rfl, _, rfl, _, _, rfl, rfl, (by show (0 : Int) < _; decide), _, _, rfl, rfl, .inr ⟨by decide, by decide⟩, _, rfl, _, _, rfl, rfl, .inl ⟨by decide, by decide⟩, _, _, rfl, rfl, _, _, rfl, rfl, (by show (0 : Int) < _; decide), _, _, rfl, rfl, (by show 2 ≤ sizeLine; decide), fun p hp => ?_⟩
      refine q p _ hp (Same.new hp _) ⟨_, _, upd_same, Int.le_trans (by decide) c4, (feedB _).1, (feedB _).2⟩
    · refine ⟨_, rfl, _, rfl, _, _, rfl, rfl, (by show (0 : Int) < _; decide), _, _, rfl, rfl, .inr ⟨by decide, by decide⟩, _, rfl, _, _, rfl, rfl, .inl ⟨by decide, by decide⟩, _, _, rfl, rfl, _, _, rfl, rfl, (by show (0 : Int) < _; decide), _, _, rfl, rfl, (by show 2 ≤ sizeLine; decide), fun p hp => ?_⟩
      refine q p _ hp (Same.new hp _) ⟨_, _, upd_same, Int.le_refl 0, (feedB _).1, (feedB _).2⟩
theorem sc_l_take : FnScope ["_law_feed_here", "_law_many", "_law_digit", "_law_one"] ["_law_feed_here", "_law_many"] (defScope s_l_take) := ⟨rfl, rfl, rfl, by decide +kernel, rfl, by decide +kernel, by decide +kernel⟩
theorem ok_l_take {f : Addr} {fd : FuncData} (F : Fun K "_law_take" "_law_take" s_l_take f fd) : FnOk P w K mg base CX0 1 f fd ["_law_feed_here", "_law_many"] spTake := by
  refine F.ok sc_l_take (fun vs H Q E h => ?_) (fun cdv A outer s H vs Q E hr h => ?_)
  · obtain ⟨f, m, rfl, _⟩ := h
    rfl
  obtain ⟨f, m, rfl, ⟨own, st, hf, o0, s0, s1⟩, m0, m1, q⟩ := h
  refine ⟨_, (pss_cons (ps_if (pt_cmpR op_gt (pe_ix ix_list (pv 0) pe_int (fun _ _ => rfl)) pe_int (nomark _)) (pss_cons (ps_set (i := 2) sc_l_take.nd rfl (Or.inl rfl) (pe_op op_mod (pe_ix ix_list (pv 0) pe_int (fun _ _ => rfl)) (pv 1)))
        (pss_cons (ps_asg (pe_op op_fdivL (pe_ix ix_list (pv 0) pe_int (fun _ _ => rfl)) (pv 1)) (pg_sub (pv 0) pe_int set_list))
        (pss_one (ps_ret (pv 2))))) pss_nil)
      (pss_cons (ps_set (i := 3) sc_l_take.nd rfl (Or.inl rfl) (pe_op op_mod (pe_op op_mul (pe_ix ix_list (pv 0) pe_int (fun _ _ => rfl)) pe_int) pe_int))
      (pss_cons (ps_asg (pe_op op_add (pe_op op_mod (pe_op op_add (pe_op op_mul (pv 3) pe_int) pe_int) pe_int) pe_int) (pg_sub (pv 0) pe_int set_list))
      (pss_one (ps_ret (pe_op op_mod (pe_op op_fdiv (pe_op op_add (pe_op op_mul (pv 3) pe_int) (pe_ix ix_list (pv 0) pe_int (fun _ _ => rfl))) pe_int) (pv 1))))))), ?_⟩
  refine ⟨_, rfl, f, _, 0, _, rfl, rfl, SqL.of hf, rfl, _, _, rfl, rfl, _, rfl, ?_⟩
  refine ite2 (fun c => ?_) (fun c => ?_)
  · refine ⟨_, rfl, f, _, 0, _, rfl, rfl, SqL.of hf, rfl, _, rfl, _, _, rfl, rfl, m0, ?_⟩
    refine ⟨_, rfl, f, _, 0, _, rfl, rfl, SqL.of hf, rfl, _, rfl, _, _, rfl, rfl, ⟨m0, m1⟩, _, rfl, f, _, 0, 0, rfl, rfl, hf, rfl, ?_⟩
    refine ⟨_, rfl, ?_⟩
    exact q _ _ (Int.emod_nonneg _ (by omega)) (Int.emod_lt_of_pos _ m0) ⟨_, _, upd_same, Int.ediv_nonneg o0 (by omega), s0, s1⟩ (SameBut.upd _)
  · have a0 := Int.emod_nonneg (st * 69621) (b := 2147483647) (by decide)
    have a1 := Int.emod_lt_of_pos (st * 69621) (b := 2147483647) (by decide)
    refine ⟨_, rfl, f, _, 1, _, rfl, rfl, SqL.of hf, rfl, _, _, rfl, rfl, .inr ⟨by decide, by decide⟩, _, _, rfl, rfl, (by show (0 : Int) < _; decide), ?_⟩
    refine ⟨_, rfl, _, _, rfl, rfl, .inr ⟨by decide, by decide⟩, _, _, rfl, rfl, _, _, rfl, rfl, (by show (0 : Int) < _; decide), _, _, rfl, rfl, _, rfl, f, _, 1, 1, rfl, rfl, hf, rfl, ?_⟩
    have b0 := Int.emod_nonneg (st * 69621 % 2147483647 * 48271 + 30103) (b := 2147483646) (by decide)
    have b1 := Int.emod_lt_of_pos (st * 69621 % 2147483647 * 48271 + 30103) (b := 2147483646) (by decide)
    refine ⟨_, rfl, _, _, rfl, rfl, .inr ⟨by decide, by decide⟩, _, rfl, f, _, 1, _, rfl, rfl, SqL.of upd_same, rfl, _, _, rfl, rfl, _, _, rfl, rfl, ⟨by decide, by decide⟩, _, rfl, _, _, rfl, rfl, m0, ?_⟩
    exact q _ _ (Int.emod_nonneg _ (by omega)) (Int.emod_lt_of_pos _ m0) ⟨_, _, upd_same, o0, by omega, by omega⟩ (SameBut.upd _)
def kept : List Str := ["yes", "no", "not", "and", "or", "odd", "same", "round", "due", "asked", "true", "coin"]
def NmK (x : Str) : Prop := (∀ c ∈ x.cps.toList, 97 ≤ c ∧ c ≤ 122) ∧ 1 ≤ x.length ∧ x.length ≤ 6 ∧ x ∉ kept
theorem feed_upd {H : Hp} {f p : Addr} {o : HO} (F : FeedAt H f) (h : p ≠ f) : FeedAt (upd H p o) f := by
  obtain ⟨x, t, e, r⟩ := F
  exact ⟨x, t, by rw [upd_ne (Ne.symm h)]; exact e, r⟩
theorem at0 (x : V) (xs : List V) : atI (x :: xs) 0 = some x := atI_nat (j := 0) rfl
theorem at1 (x y : V) (xs : List V) : atI (x :: y :: xs) 1 = some y := atI_nat (j := 1) rfl
theorem at2 (x y z : V) (xs : List V) : atI (x :: y :: z :: xs) 2 = some z := atI_nat (j := 2) rfl
/-! ### terms of helpers -/
inductive Tm where
  | num (n : Int) | box (x : Str) | plain (w : Str) | ask (w : Str) (a : Tm) | op (s : Str) (a b : Tm)
def Tm.size : Tm → Nat
  | .num _ => 1 | .box _ => 1 | .plain _ => 1 | .ask _ a => a.size + 1 | .op _ a b => a.size + b.size + 1
def Tm.depth : Tm → Nat
  | .num _ => 1 | .box _ => 1 | .plain _ => 1 | .ask _ a => a.depth + 1 | .op _ a b => max a.depth b.depth + 1
theorem Tm.depth_pos : ∀ t : Tm, 1 ≤ t.depth
  | .num _ => Nat.le_refl _ | .box _ => Nat.le_refl _ | .plain _ => Nat.le_refl _ | .ask _ a => Nat.le_add_left .. | .op _ a b => Nat.le_add_left ..
theorem Tm.size_pos : ∀ t : Tm, 1 ≤ t.size
  | .num _ => Nat.le_refl _ | .box _ => Nat.le_refl _ | .plain _ => Nat.le_refl _ | .ask _ a => Nat.le_add_left .. | .op _ a b => Nat.le_add_left ..
def plainW : List Str := ["round", "due", "asked"]
def askW : List Str := ["coin", "true"]
def signW : List Str := ["+", "-", "*", "/", "=", "<"]
def Tm.ok : Tm → Prop
  | .num n => 0 ≤ n ∧ n < 1000000000000 | .box x => NmK x | .plain w => w ∈ plainW | .ask w a => w ∈ askW ∧ a.ok | .op s a b => s ∈ signW ∧ a.ok ∧ b.ok
inductive TmAt (H : Hp) : V → Tm → Prop
  | num {a : Addr} {n : Int} : H a = some (.tup [.str "num", .int n]) → TmAt H (.ref a) (.num n)
  | box {a : Addr} {x : Str} : H a = some (.tup [.str "box", .str x]) → TmAt H (.ref a) (.box x)
  | plain {a : Addr} {w : Str} : H a = some (.tup [.str w]) → TmAt H (.ref a) (.plain w)
  | ask {a : Addr} {w : Str} {v : V} {t : Tm} : H a = some (.tup [.str w, v]) → TmAt H v t → TmAt H (.ref a) (.ask w t)
  | op {a : Addr} {s : Str} {v u : V} {t r : Tm} : H a = some (.tup [.str "op", .str s, v, u]) → TmAt H v t → TmAt H u r → TmAt H (.ref a) (.op s t r)
theorem TmAt.mono {H H' : Hp} (k : KeepT H H') {v : V} {t : Tm} (h : TmAt H v t) : TmAt H' v t := by
  induction h with
  | num e => exact .num (k _ _ e)
  | box e => exact .box (k _ _ e)
  | plain e => exact .plain (k _ _ e)
  | ask e _ ih => exact .ask (k _ _ e) ih
  | op e _ _ i1 i2 => exact .op (k _ _ e) i1 i2
structure Bl (mg : Str → Option Value) : Prop where
  len : mg "len" = none
  range : mg "range" = none
  isinstance : mg "isinstance" = none
  int : mg "int" = none
  bool : mg "bool" = none
  list : mg "list" = none
  tuple : mg "tuple" = none
  str : mg "str" = none
  all : mg "all" = none
  zip : mg "zip" = none
  enumerate : mg "enumerate" = none
theorem atI_mem {ns : List Int} {k : Int} (h0 : 0 ≤ k) (h : k < (ns.length : Int)) : ∃ v : Int, atI (ns.map V.int) k = some (.int v) ∧ v ∈ ns := by
  have hk : k.toNat < ns.length := by omega
  have q : atI (ns.map V.int) ((k.toNat : Nat) : Int) = some (.int ns[k.toNat]) := atI_nat (by rw [List.getElem?_map, List.getElem?_eq_getElem hk] <;> rfl)
  have ek : ((k.toNat : Nat) : Int) = k := by omega
  rw [ek] at q
  exact ⟨_, q, List.getElem_mem hk⟩
def spSome : Sp := fun vs H Q _ => ∃ (f b : Addr) (bs : List Str), vs = [.ref f, .ref b] ∧ FeedAt H f ∧ H b = some (.lst (bs.map V.str)) ∧ b ≠ f ∧ 1 ≤ bs.length ∧ bs.length ≤ 100 ∧ ∀ (x : Str) (H' : Hp), x ∈ bs → FeedAt H' f → SameBut f H H' → Q (.str x) H'
theorem sc_l_some : FnScope ["_law_feed_here", "_law_pool"] ["_law_feed_here", "_law_pool"] (defScope s_l_some) := ⟨rfl, rfl, rfl, by decide +kernel, rfl, by decide +kernel, by decide +kernel⟩
theorem ok_l_some {f : Addr} {fd : FuncData} (F : Fun K "_law_some" "_law_some" s_l_some f fd) (B : Bl mg) (C_l_take : Cal P w K mg base 1 "_law_take" ["_law_feed_here", "_law_many"] spTake) : FnOk P w K mg base CX0 2 f fd ["_law_feed_here", "_law_pool"] spSome := by
  refine F.ok sc_l_some (fun vs H Q E h => ?_) (fun cdv A outer s H vs Q E hr h => ?_)
  · obtain ⟨f, b, bs, rfl, _⟩ := h
    rfl
  obtain ⟨f, b, bs, rfl, F0, hb, nb, b1, b2, q⟩ := h
  refine ⟨_, (pss_one (ps_ret (pe_ix ix_list (pv 1) (pe_cal C_l_take hr (by decide) rfl (pa_cons (pv 0) (pa_cons (pe_callB call_len_seq rfl B.len PySem.boot_len (pa_cons (pv 1) pa_nil)) pa_nil))) (fun _ _ => rfl)))), ?_⟩
  have bl : (bs.map V.str).length = bs.length := List.length_map _
  refine ⟨_, rfl, _, rfl, _, rfl, b, _, rfl, .inl (SqL.of hb), f, _, rfl, F0, by omega, by omega, fun d H1 d0 d1 F1 B1 => ?_⟩
  rw [bl] at d1
  obtain ⟨v, hv, vm⟩ := at_in (l := bs.map V.str) (i := d) d0 (by rw [bl]; exact d1)
  obtain ⟨x, hx, rfl⟩ := List.mem_map.mp vm
  exact ⟨b, _, _, _, rfl, rfl, SqL.of (B1 _ _ nb hb), hv, q x H1 hx F1 B1⟩
def spWhole : Sp := fun vs H Q _ => ∃ (f : Addr), vs = [.ref f] ∧ FeedAt H f ∧ ∀ (n : Int) (H' : Hp), 0 ≤ n → n < 1000000000000 → FeedAt H' f → SameBut f H H' → Q (.int n) H'
theorem sc_l_whole : FnScope ["_law_feed_here", "_law_form", "_law_some_here"] ["_law_feed_here"] (defScope s_l_whole) := ⟨rfl, rfl, rfl, by decide +kernel, rfl, by decide +kernel, by decide +kernel⟩
theorem ok_l_whole {f : Addr} {fd : FuncData} (F : Fun K "_law_whole" "_law_whole" s_l_whole f fd) (C_l_take : Cal P w K mg base 1 "_law_take" ["_law_feed_here", "_law_many"] spTake) : FnOk P w K mg base CX0 2 f fd ["_law_feed_here"] spWhole := by
  refine F.ok sc_l_whole (fun vs H Q E h => ?_) (fun cdv A outer s H vs Q E hr h => ?_)
  · obtain ⟨f, rfl, _⟩ := h
    rfl
  obtain ⟨f, rfl, F0, q⟩ := h
  refine ⟨_, (pss_cons (ps_set (i := 1) sc_l_whole.nd rfl (Or.inl rfl) (pe_cal C_l_take hr (by decide) rfl (pa_cons (pv 0) (pa_cons pe_int pa_nil))))
      (pss_cons (ps_set (i := 2) sc_l_whole.nd rfl (Or.inl rfl) (pe_lst (pa_cons (pe_cal C_l_take hr (by decide) rfl (pa_cons (pv 0) (pa_cons pe_int pa_nil))) (pa_cons (pe_op op_sub (pe_op op_sub (pe_op op_pow pe_int pe_int) pe_int) (pe_cal C_l_take hr (by decide) rfl (pa_cons (pv 0) (pa_cons pe_int pa_nil)))) (pa_cons (pe_cal C_l_take hr (by decide) rfl (pa_cons (pv 0) (pa_cons (pe_op op_pow pe_int pe_int) pa_nil))) pa_nil)))))
      (pss_one (ps_ret (pe_ix ix_list (pe_op op_cat (pv 2) (pe_lst (pa_cons (pe_cal C_l_take hr (by decide) rfl (pa_cons (pv 0) (pa_cons pe_int pa_nil))) pa_nil))) (pv 1) (fun _ _ => rfl)))))), ?_⟩
  have hp12 : (10 : Int) ^ (12 : Int).toNat = 1000000000000 := by decide
  refine ⟨_, rfl, f, 4, rfl, F0, by decide, by decide, fun fm H1 m0 m1 F1 B1 => ?_⟩
  refine ⟨_, rfl, f, 12, rfl, F1, by decide, by decide, fun d1 H2 a0 a1 F2 B2 => ?_⟩
  refine ⟨_, _, rfl, rfl, ⟨by decide, by decide, by decide⟩, _, _, rfl, rfl, _, rfl, f, 5, rfl, F2, by decide, by decide, fun d2 H3 b0 b1 F3 B3 => ?_⟩
  refine ⟨_, _, rfl, rfl, _, rfl, _, _, rfl, rfl, ⟨by decide, by decide, by decide⟩, f, _, rfl, F3, (by show (0 : Int) < 10 ^ (12 : Int).toNat; rw [hp12]; decide), (by show (10 : Int) ^ (12 : Int).toNat < 2 ^ 63; rw [hp12]; decide), fun d3 H4 c0 c1 F4 B4 => ?_⟩
  rw [hp12] at c1
  refine ⟨(by show 3 ≤ sizeLine; decide), fun L hL => ?_⟩
  have GL := Same.new hL (.lst ([d1, (10 : Int) ^ (12 : Int).toNat - 1 - d2, d3].map V.int))
  have eL : upd H4 L (.lst ([d1, (10 : Int) ^ (12 : Int).toNat - 1 - d2, d3].map V.int)) L = some (.lst ([d1, (10 : Int) ^ (12 : Int).toNat - 1 - d2, d3].map V.int)) := upd_same
  have Lf := F4.ne hL
  refine ⟨_, rfl, _, rfl, f, 999, rfl, F4.same GL, by decide, by decide, fun d4 H5 e0 e1 F5 B5 => ?_⟩
  have eL5 := B5 _ _ Lf eL
  refine ⟨(by show 1 ≤ sizeLine; decide), fun L1 hL1 => ?_⟩
  have G1 := Same.new hL1 (.lst [.int d4])
  refine ⟨L, L1, _, _, rfl, rfl, G1 _ _ eL5, upd_same, (by show 4 ≤ sizeLine; decide), fun L2 hL2 => ?_⟩
  have G2 := Same.new hL2 (.lst ([d1, (10 : Int) ^ (12 : Int).toNat - 1 - d2, d3].map V.int ++ [.int d4]))
  have e2 : upd (upd H5 L1 (.lst [.int d4])) L2 (.lst ([d1, (10 : Int) ^ (12 : Int).toNat - 1 - d2, d3].map V.int ++ [.int d4])) L2 = some (.lst ([d1, (10 : Int) ^ (12 : Int).toNat - 1 - d2, d3, d4].map V.int)) := upd_same
  obtain ⟨v, hv, vm⟩ := atI_mem (ns := [d1, (10 : Int) ^ (12 : Int).toNat - 1 - d2, d3, d4]) m0 m1
  have vr : 0 ≤ v ∧ v < 1000000000000 := by
    rw [hp12] at vm
    simp only [List.mem_cons, List.not_mem_nil, or_false] at vm
    omega
  refine ⟨_, rfl, L2, _, _, _, rfl, rfl, SqL.of e2, hv, ?_⟩
  exact q v _ vr.1 vr.2 (F5.same (G1.trans G2)) (B1.trans (B2.trans (B3.trans (B4.trans ((SameBut.of GL).trans (B5.trans (SameBut.of (G1.trans G2))))))))
def Boxes (bs : List Str) : Prop := 1 ≤ bs.length ∧ bs.length ≤ 100 ∧ ∀ x ∈ bs, NmK x
def spTerm (n : Nat) : Sp := fun vs H Q _ => ∃ (f b : Addr) (bs : List Str) (room deep : Int), vs = [.ref f, .ref b, .int room, .int deep] ∧ FeedAt H f ∧ H b = some (.lst (bs.map V.str)) ∧ b ≠ f ∧ Boxes bs ∧ 1 ≤ room ∧ room ≤ 100 ∧ 1 ≤ deep ∧ deep ≤ (n : Int) ∧
  ∀ (v : V) (t : Tm) (H' : Hp), TmAt H' v t → t.ok → (t.size : Int) ≤ room → (t.depth : Int) ≤ deep → FeedAt H' f → SameBut f H H' → Q v H'
theorem sc_l_any_term : FnScope ["_law_feed_here", "_law_boxes", "_law_room", "_law_deep", "_law_form", "_law_plain", "_law_more", "_law_one"] ["_law_feed_here", "_law_boxes", "_law_room", "_law_deep"] (defScope s_l_any_term) := ⟨rfl, rfl, rfl, by decide +kernel, rfl, by decide +kernel, by decide +kernel⟩
theorem sign_of : ∀ c ∈ (("+-*/=<" : Str)).cps.toList, (⟨#[c]⟩ : Str) ∈ signW := by decide +kernel
theorem sign_len : (("+-*/=<" : Str)).cps.toList.length = 6 := by decide +kernel
theorem at_three {a b c : V} {i : Int} (h0 : 0 ≤ i) (h : i < 3) : (i = 0 ∧ atI [a, b, c] i = some a) ∨ (i = 1 ∧ atI [a, b, c] i = some b) ∨ (i = 2 ∧ atI [a, b, c] i = some c) := by
  have : i = 0 ∨ i = 1 ∨ i = 2 := by omega
  rcases this with rfl | rfl | rfl
  · exact .inl ⟨rfl, at0 ..⟩
  · exact .inr (.inl ⟨rfl, at1 ..⟩)
  · exact .inr (.inr ⟨rfl, at2 ..⟩)
theorem SameBut.new {H H' : Hp} {f p : Addr} {o : HO} (s : SameBut f H H') (h : H' p = none) : SameBut f H (upd H' p o) := s.trans (SameBut.of (Same.new h o))
theorem an_step {n : Nat} {f : Addr} {fd : FuncData} (F : Fun K "_law_any_term" "_law_any_term" s_l_any_term f fd) (C_l_take : Cal P w K mg base 1 "_law_take" ["_law_feed_here", "_law_many"] spTake) (C_l_some : Cal P w K mg base 2 "_law_some" ["_law_feed_here", "_law_pool"] spSome) (C_l_whole : Cal P w K mg base 2 "_law_whole" ["_law_feed_here"] spWhole) (C_l_any_term : Cal P w K mg base (n + 3) "_law_any_term" ["_law_feed_here", "_law_boxes", "_law_room", "_law_deep"] (spTerm n)) : FnOk P w K mg base CX0 (n + 4) f fd ["_law_feed_here", "_law_boxes", "_law_room", "_law_deep"] (spTerm (n + 1)) := by
  refine F.ok sc_l_any_term (fun vs H Q E h => ?_) (fun cdv A outer s H vs Q E hr h => ?_)
  · obtain ⟨f, b, bs, room, deep, rfl, _⟩ := h
    rfl
  obtain ⟨f, b, bs, room, deep, rfl, F0, hb, nb, bx, r1, r2, d1, d2, q⟩ := h
  refine ⟨_, (pss_cons (ps_set (i := 4) sc_l_any_term.nd rfl (Or.inl rfl) (pe_cal C_l_take hr (by omega) rfl (pa_cons (pv 0) (pa_cons pe_int pa_nil))))
      (pss_cons (ps_if (PW.pt (pw_or (pt_cmpR op_lt (pv 2) pe_int (nomark _)) (pw_or (pt_cmpR op_lt (pv 3) pe_int (nomark _)) (pw_or1 (pt_cmpR op_lt (pv 4) pe_int (nomark _)))))) (pss_cons (ps_set (i := 5) sc_l_any_term.nd rfl (Or.inl rfl) (pe_ix ix_list (pe_lst (pa_cons (pe_tup (pa_cons pe_str pa_nil)) (pa_cons (pe_tup (pa_cons pe_str pa_nil)) (pa_cons (pe_tup (pa_cons pe_str pa_nil)) pa_nil)))) (pe_cal C_l_take hr (by omega) rfl (pa_cons (pv 0) (pa_cons pe_int pa_nil))) (fun _ _ => rfl)))
        (pss_one (ps_ret (pe_ix ix_list (pe_lst (pa_cons (pe_tup (pa_cons pe_str (pa_cons (pe_cal C_l_whole hr (by omega) rfl (pa_cons (pv 0) pa_nil)) pa_nil))) (pa_cons (pe_tup (pa_cons pe_str (pa_cons (pe_cal C_l_some hr (by omega) rfl (pa_cons (pv 0) (pa_cons (pv 1) pa_nil))) pa_nil))) (pa_cons (pv 5) pa_nil)))) (pe_op op_mod (pv 4) pe_int) (fun _ _ => rfl))))) pss_nil)
      (pss_cons (ps_if (PW.pt (pw_or (pt_cmpR op_lt (pv 4) pe_int (nomark _)) (pw_or1 (pt_cmpR op_lt (pv 2) pe_int (nomark _))))) (pss_one (ps_ret (pe_tup (pa_cons (pe_ix ix_list (pe_lst (pa_cons pe_str (pa_cons pe_str pa_nil))) (pe_op op_mod (pv 4) pe_int) (fun _ _ => rfl)) (pa_cons (pe_cal C_l_any_term hr (Nat.le_refl _) rfl (pa_cons (pv 0) (pa_cons (pv 1) (pa_cons (pe_op op_sub (pv 2) pe_int) (pa_cons (pe_op op_sub (pv 3) pe_int) pa_nil))))) pa_nil))))) pss_nil)
      (pss_cons (ps_set (i := 6) sc_l_any_term.nd rfl (Or.inl rfl) (pe_op op_add pe_int (pe_cal C_l_take hr (by omega) rfl (pa_cons (pv 0) (pa_cons (pe_op op_sub (pv 2) pe_int) pa_nil)))))
      (pss_cons (ps_set (i := 7) sc_l_any_term.nd rfl (Or.inl rfl) (pe_cal C_l_any_term hr (Nat.le_refl _) rfl (pa_cons (pv 0) (pa_cons (pv 1) (pa_cons (pv 6) (pa_cons (pe_op op_sub (pv 3) pe_int) pa_nil))))))
      (pss_one (ps_ret (pe_tup (pa_cons pe_str (pa_cons (pe_ix ix_str pe_str (pe_cal C_l_take hr (by omega) rfl (pa_cons (pv 0) (pa_cons pe_int pa_nil))) (fun _ _ => rfl)) (pa_cons (pv 7) (pa_cons (pe_cal C_l_any_term hr (Nat.le_refl _) rfl (pa_cons (pv 0) (pa_cons (pv 1) (pa_cons (pe_op op_sub (pe_op op_sub (pv 2) pe_int) (pv 6)) (pa_cons (pe_op op_sub (pv 3) pe_int) pa_nil))))) pa_nil)))))))))))), ?_⟩
  refine ⟨_, rfl, f, 9, rfl, F0, by decide, by decide, fun fm H1 m0 m9 F1 B1 => ?_⟩
  have hb1 := B1 _ _ nb hb
  by_cases cc : room < 2 ∨ deep < 2 ∨ fm < 3
  · -- a leaf
    refine ⟨_, rfl, _, _, rfl, rfl, _, rfl, ?_⟩
    refine ite2 (fun _ => ?b1) (fun c1 => ?b2)
    case' b2 =>
      have c1' : ¬ room < 2 := by simpa using c1
      refine ⟨_, rfl, _, _, rfl, rfl, _, rfl, ?_⟩
      refine ite2 (fun _ => ?b3) (fun c2 => ?b4)
      case' b4 =>
        have c2' : ¬ deep < 2 := by simpa using c2
        refine ⟨_, rfl, _, _, rfl, rfl, _, rfl, ?_⟩
        refine iteD (by omega) ?_
    all_goals
      try refine iteT ?_
      refine ⟨(by show 1 ≤ sizeLine; decide), fun p1 hp1 => ?_⟩
      have g1 := Same.new hp1 (.tup [.str "round"])
      have e1 : upd H1 p1 (.tup [.str "round"]) p1 = some (.tup [.str "round"]) := upd_same
      refine ⟨(by show 1 ≤ sizeLine; decide), fun p2 hp2 => ?_⟩
      have g2 := Same.new hp2 (.tup [.str "due"])
      have e2 : upd (upd H1 p1 (.tup [.str "round"])) p2 (.tup [.str "due"]) p2 = some (.tup [.str "due"]) := upd_same
      refine ⟨(by show 1 ≤ sizeLine; decide), fun p3 hp3 => ?_⟩
      have g3 := Same.new hp3 (.tup [.str "asked"])
      have e3 : upd (upd (upd H1 p1 (.tup [.str "round"])) p2 (.tup [.str "due"])) p3 (.tup [.str "asked"]) p3 = some (.tup [.str "asked"]) := upd_same
      have S13 := g1.trans (g2.trans g3)
      have e1' := g3 _ _ (g2 _ _ e1)
      have e2' := g3 _ _ e2
      generalize upd (upd (upd H1 p1 (.tup [.str "round"])) p2 (.tup [.str "due"])) p3 (.tup [.str "asked"]) = H2 at S13 e1' e2' e3
      refine ⟨(by show 3 ≤ sizeLine; decide), fun L hL => ?_⟩
      have gL := Same.new hL (.lst [.ref p1, .ref p2, .ref p3])
      have eL : upd H2 L (.lst [.ref p1, .ref p2, .ref p3]) L = some (.lst [.ref p1, .ref p2, .ref p3]) := upd_same
      have S14 := S13.trans gL
      have F3 := F1.same S14
      have Lf : L ≠ f := (F1.same S13).ne hL
      refine ⟨_, rfl, f, 3, rfl, F3, by decide, by decide, fun d3 H4 a0 a3 F4 B4 => ?_⟩
      have eL4 := B4 _ _ Lf eL
      have pl : ∃ (p : Addr) (w : Str), w ∈ plainW ∧ atI [V.ref p1, .ref p2, .ref p3] d3 = some (.ref p) ∧ H4 p = some (.tup [.str w]) := by
        have kf := keepT_feed F3 B4
        rcases at_three (a := V.ref p1) (b := .ref p2) (c := .ref p3) a0 a3 with ⟨_, h⟩ | ⟨_, h⟩ | ⟨_, h⟩
        · exact ⟨p1, "round", by decide +kernel, h, kf _ _ (gL _ _ e1')⟩
        · exact ⟨p2, "due", by decide +kernel, h, kf _ _ (gL _ _ e2')⟩
        · exact ⟨p3, "asked", by decide +kernel, h, kf _ _ (gL _ _ e3)⟩
      obtain ⟨p, pw, pwm, hp, ep⟩ := pl
      refine ⟨L, _, _, _, rfl, rfl, SqL.of eL4, hp, ?_⟩
      have B14 : SameBut f H H4 := B1.trans ((SameBut.of S14).trans B4)
      refine ⟨_, rfl, f, rfl, F4, fun wn H5 w0 w1 F5 B5 => ?_⟩
      have ep5 := keepT_feed F4 B5 _ _ ep
      refine ⟨(by show 2 ≤ sizeLine; decide), fun t1 ht1 => ?_⟩
      have gt1 := Same.new ht1 (.tup [.str "num", .int wn])
      have et1 : upd H5 t1 (.tup [.str "num", .int wn]) t1 = some (.tup [.str "num", .int wn]) := upd_same
      have hb5 := gt1 _ _ (B5 _ _ nb (B14 _ _ nb hb))
      refine ⟨_, rfl, _, rfl, f, b, bs, rfl, F5.same gt1, hb5, nb, bx.1, bx.2.1, fun x H6 xm F6 B6 => ?_⟩
      have k6 := keepT_feed (F5.same gt1) B6
      refine ⟨(by show 2 ≤ sizeLine; decide), fun t2 ht2 => ?_⟩
      have gt2 := Same.new ht2 (.tup [.str "box", .str x])
      have et2 : upd H6 t2 (.tup [.str "box", .str x]) t2 = some (.tup [.str "box", .str x]) := upd_same
      refine ⟨_, rfl, (by show 3 ≤ sizeLine; decide), fun L2 hL2 => ?_⟩
      have gL2 := Same.new hL2 (.lst [.ref t1, .ref t2, .ref p])
      have B16 : SameBut f H (upd (upd H6 t2 (.tup [.str "box", .str x])) L2 (.lst [.ref t1, .ref t2, .ref p])) := B14.trans (B5.trans ((SameBut.of gt1).trans (B6.trans (SameBut.of (gt2.trans gL2)))))
      have F16 := F6.same (gt2.trans gL2)
      refine ⟨_, rfl, _, _, rfl, rfl, (by show (0 : Int) < 3; decide), ?_⟩
      have m3 := Int.emod_nonneg fm (show (3 : Int) ≠ 0 by decide)
      have m4 := Int.emod_lt_of_pos fm (show (0 : Int) < 3 by decide)
      have one : ((1 : Nat) : Int) ≤ room ∧ ((1 : Nat) : Int) ≤ deep := ⟨by omega, by omega⟩
      rcases at_three (a := V.ref t1) (b := .ref t2) (c := .ref p) m3 m4 with ⟨_, h⟩ | ⟨_, h⟩ | ⟨_, h⟩
      · exact ⟨L2, _, _, _, rfl, rfl, SqL.of upd_same, h, q _ (.num wn) _ (.num (gL2 _ _ (gt2 _ _ (k6 _ _ et1)))) ⟨w0, w1⟩ one.1 one.2 F16 B16⟩
      · exact ⟨L2, _, _, _, rfl, rfl, SqL.of upd_same, h, q _ (.box x) _ (.box (gL2 _ _ et2)) (bx.2.2 x xm) one.1 one.2 F16 B16⟩
      · exact ⟨L2, _, _, _, rfl, rfl, SqL.of upd_same, h, q _ (.plain pw) _ (.plain (gL2 _ _ (gt2 _ _ (k6 _ _ (gt1 _ _ ep5))))) pwm one.1 one.2 F16 B16⟩
  · have c1 : ¬ room < 2 := fun z => cc (.inl z)
    have c2 : ¬ deep < 2 := fun z => cc (.inr (.inl z))
    have c3 : ¬ fm < 3 := fun z => cc (.inr (.inr z))
    refine ⟨_, rfl, _, _, rfl, rfl, _, rfl, ?_⟩
    refine iteDF c1 ?_
    refine ⟨_, rfl, _, _, rfl, rfl, _, rfl, ?_⟩
    refine iteDF c2 ?_
    refine ⟨_, rfl, _, _, rfl, rfl, _, rfl, ?_⟩
    refine iteDF c3 ?_
    by_cases cd : fm < 5 ∨ room < 3
    · refine ⟨_, rfl, _, _, rfl, rfl, _, rfl, ?_⟩
      refine ite2 (fun _ => ?k1) (fun e1 => ?k2)
      case' k2 =>
        have e1' : ¬ fm < 5 := by simpa using e1
        refine ⟨_, rfl, _, _, rfl, rfl, _, rfl, ?_⟩
        refine iteD (by omega) ?_
      all_goals
        try refine iteT ?_
        refine ⟨(by show 2 ≤ sizeLine; decide), fun L hL => ?_⟩
        have gL := Same.new hL (.lst [.str "coin", .str "true"])
        have F2 := F1.same gL
        have m3 := Int.emod_nonneg fm (show (2 : Int) ≠ 0 by decide)
        have m4 := Int.emod_lt_of_pos fm (show (0 : Int) < 2 by decide)
        have aw : ∃ aw : Str, aw ∈ askW ∧ atI [V.str "coin", .str "true"] (fm % 2) = some (.str aw) := by
          have : fm % 2 = 0 ∨ fm % 2 = 1 := by omega
          rcases this with h | h
          · exact ⟨"coin", by decide +kernel, by rw [h]; exact at0 ..⟩
          · exact ⟨"true", by decide +kernel, by rw [h]; exact at1 ..⟩
        obtain ⟨aw, awm, haw⟩ := aw
        refine ⟨_, rfl, _, _, rfl, rfl, (by show (0 : Int) < 2; decide), L, _, _, _, rfl, rfl, SqL.of upd_same, haw, ?_⟩
        refine ⟨_, rfl, _, rfl, _, rfl, _, _, rfl, rfl, _, rfl, _, _, rfl, rfl, f, b, bs, room - 1, deep - 1, rfl, F2, gL _ _ hb1, nb, bx, by omega, by omega, by omega, by omega, fun v t H3 T3 ok3 sz3 dp3 F3 B3 => ?_⟩
        refine ⟨(by show 2 ≤ sizeLine; decide), fun p hp => ?_⟩
        have gp := Same.new hp (.tup [.str aw, v])
        have es : ((Tm.ask aw t).size : Int) = (t.size : Int) + 1 := by show ((t.size + 1 : Nat) : Int) = _; omega
        have ed : ((Tm.ask aw t).depth : Int) = (t.depth : Int) + 1 := by show ((t.depth + 1 : Nat) : Int) = _; omega
        exact q _ (.ask aw t) _ (.ask upd_same (T3.mono (keepT_same gp))) ⟨awm, ok3⟩ (by omega) (by omega) (F3.same gp) (B1.trans ((SameBut.of gL).trans (B3.trans (SameBut.of gp))))
    · have f5 : ¬ fm < 5 := fun z => cd (.inl z)
      have r3 : ¬ room < 3 := fun z => cd (.inr z)
      refine ⟨_, rfl, _, _, rfl, rfl, _, rfl, ?_⟩
      refine iteDF f5 ?_
      refine ⟨_, rfl, _, _, rfl, rfl, _, rfl, ?_⟩
      refine iteDF r3 ?_
      refine ⟨_, rfl, _, rfl, _, _, rfl, rfl, f, room - 2, rfl, F1, by omega, by omega, fun d3 H2 a0 a1 F2 B2 => ?_⟩
      refine ⟨_, _, rfl, rfl, ?_⟩
      have hb2 := B2 _ _ nb hb1
      refine ⟨_, rfl, _, rfl, _, rfl, _, rfl, _, _, rfl, rfl, f, b, bs, 1 + d3, deep - 1, rfl, F2, hb2, nb, bx, by omega, by omega, by omega, by omega, fun v1 t1 H3 T1 ok1 sz1 dp1 F3 B3 => ?_⟩
      have hb3 := B3 _ _ nb hb2
      refine ⟨_, rfl, f, 6, rfl, F3, by decide, by decide, fun d4 H4 g0 g1 F4 B4 => ?_⟩
      obtain ⟨c, hc, hm⟩ := at_in (l := (("+-*/=<" : Str)).cps.toList) (i := d4) g0 (by rw [sign_len]; exact g1)
      have hb4 := B4 _ _ nb hb3
      refine ⟨_, _, _, rfl, rfl, small (by decide +kernel), hc, _, rfl, ?_⟩
      refine ⟨_, rfl, _, rfl, _, rfl, _, _, rfl, rfl, _, rfl, _, _, rfl, rfl, _, rfl, _, _, rfl, rfl, f, b, bs, room - 1 - (1 + d3), deep - 1, rfl, F4, hb4, nb, bx, by omega, by omega, by omega, by omega, fun v2 t2 H5 T2 ok2 sz2 dp2 F5 B5 => ?_⟩
      have k35 : KeepT H3 H5 := fun a ys e => keepT_feed F4 B5 _ _ (keepT_feed F3 B4 _ _ e)
      refine ⟨(by show 4 ≤ sizeLine; decide), fun p hp => ?_⟩
      have gp := Same.new hp (.tup [.str "op", .str ⟨#[c]⟩, v1, v2])
      have es : ((Tm.op ⟨#[c]⟩ t1 t2).size : Int) = (t1.size : Int) + (t2.size : Int) + 1 := by show ((t1.size + t2.size + 1 : Nat) : Int) = _; omega
      have ed : ((Tm.op ⟨#[c]⟩ t1 t2).depth : Int) ≤ deep := by
        show ((max t1.depth t2.depth + 1 : Nat) : Int) ≤ deep
        omega
      exact q _ (.op ⟨#[c]⟩ t1 t2) _ (.op upd_same ((T1.mono k35).mono (keepT_same gp)) (T2.mono (keepT_same gp))) ⟨sign_of c hm, ok1, ok2⟩ (by omega) ed (F5.same gp) (B1.trans (B2.trans (B3.trans (B4.trans (B5.trans (SameBut.of gp))))))
theorem an_zero {f : Addr} {fd : FuncData} : FnOk P w K mg base CX0 3 f fd ["_law_feed_here", "_law_boxes", "_law_room", "_law_deep"] (spTerm 0) := by
  have no : ∀ vs H Q E, ¬ spTerm 0 vs H Q E := fun vs H Q E h => by
    obtain ⟨_, _, _, _, _, _, _, _, _, _, _, _, h1, h2, _⟩ := h
    omega
  exact ⟨fun vs H Q E h => absurd h (no vs H Q E), fun A outer s H args us vs Q E _ _ _ _ h => absurd h (no vs H Q E)⟩
theorem ok_l_any_term {f : Addr} {fd : FuncData} (F : Fun K "_law_any_term" "_law_any_term" s_l_any_term f fd) (m : mg "_law_any_term" = some (.ref f)) (C_l_take : Cal P w K mg base 1 "_law_take" ["_law_feed_here", "_law_many"] spTake) (C_l_some : Cal P w K mg base 2 "_law_some" ["_law_feed_here", "_law_pool"] spSome) (C_l_whole : Cal P w K mg base 2 "_law_whole" ["_law_feed_here"] spWhole) :
    ∀ n : Nat, FnOk P w K mg base CX0 (n + 3) f fd ["_law_feed_here", "_law_boxes", "_law_room", "_law_deep"] (spTerm n)
  | 0 => an_zero
  | n + 1 => an_step F C_l_take C_l_some C_l_whole (Cal.of F (ok_l_any_term F m C_l_take C_l_some C_l_whole n) m (fun _ _ _ _ _ _ us hl => by obtain ⟨u0, u1, u2, u3, rfl⟩ := len4 hl; rfl))
/-! ### rows of helpers -/
inductive Hr where
  | fin | go (n : Int) | iff (t : Tm) (n : Int) | set (x : Str) (t : Tm) | say (t : Tm)
def Tm.fit (m : Nat) (t : Tm) : Prop := t.ok ∧ t.size ≤ m ∧ t.depth ≤ 8
def Hr.ok (m : Nat) : Hr → Prop
  | .fin => True | .go n => 0 ≤ n ∧ n < 1000000000000 | .iff t n => t.fit m ∧ 0 ≤ n ∧ n < 1000000000000 | .set x t => NmK x ∧ t.fit m | .say t => t.fit m
inductive HrAt (H : Hp) : V → Hr → Prop
  | fin {a : Addr} : H a = some (.tup [.str "end"]) → HrAt H (.ref a) .fin
  | go {a : Addr} {n : Int} : H a = some (.tup [.str "go", .int n]) → HrAt H (.ref a) (.go n)
  | iff {a : Addr} {v : V} {t : Tm} {n : Int} : H a = some (.tup [.str "if", v, .int n]) → TmAt H v t → HrAt H (.ref a) (.iff t n)
  | set {a : Addr} {x : Str} {v : V} {t : Tm} : H a = some (.tup [.str "set", .str x, v]) → TmAt H v t → HrAt H (.ref a) (.set x t)
  | say {a : Addr} {v : V} {t : Tm} : H a = some (.tup [.str "say", v]) → TmAt H v t → HrAt H (.ref a) (.say t)
theorem HrAt.mono {H H' : Hp} (k : KeepT H H') {v : V} {r : Hr} (h : HrAt H v r) : HrAt H' v r := by
  cases h with
  | fin e => exact .fin (k _ _ e)
  | go e => exact .go (k _ _ e)
  | iff e t => exact .iff (k _ _ e) (t.mono k)
  | set e t => exact .set (k _ _ e) (t.mono k)
  | say e t => exact .say (k _ _ e) (t.mono k)
def spRow : Sp := fun vs H Q _ => ∃ (f b : Addr) (bs : List Str) (room : Nat), vs = [.ref f, .ref b, .int (room : Int)] ∧ FeedAt H f ∧ H b = some (.lst (bs.map V.str)) ∧ b ≠ f ∧ Boxes bs ∧ 4 ≤ room ∧ room ≤ 100 ∧
  ∀ (v : V) (r : Hr) (H' : Hp), HrAt H' v r → r.ok room → FeedAt H' f → SameBut f H H' → Q v H'
theorem sc_l_any_row : FnScope ["_law_feed_here", "_law_boxes", "_law_room", "_law_form", "_law_term"] ["_law_feed_here", "_law_boxes", "_law_room"] (defScope s_l_any_row) := ⟨rfl, rfl, rfl, by decide +kernel, rfl, by decide +kernel, by decide +kernel⟩
theorem ok_l_any_row {f : Addr} {fd : FuncData} (F : Fun K "_law_any_row" "_law_any_row" s_l_any_row f fd) (C_l_take : Cal P w K mg base 1 "_law_take" ["_law_feed_here", "_law_many"] spTake) (C_l_some : Cal P w K mg base 2 "_law_some" ["_law_feed_here", "_law_pool"] spSome) (C_l_whole : Cal P w K mg base 2 "_law_whole" ["_law_feed_here"] spWhole) (C_l_any_term : Cal P w K mg base 11 "_law_any_term" ["_law_feed_here", "_law_boxes", "_law_room", "_law_deep"] (spTerm 8)) : FnOk P w K mg base CX0 12 f fd ["_law_feed_here", "_law_boxes", "_law_room"] spRow := by
  refine F.ok sc_l_any_row (fun vs H Q E h => ?_) (fun cdv A outer s H vs Q E hr h => ?_)
  · obtain ⟨f, b, bs, room, rfl, _⟩ := h
    rfl
  obtain ⟨f, b, bs, room, rfl, F0, hb, nb, bx, r1, r2, q⟩ := h
  refine ⟨_, (pss_cons (ps_set (i := 3) sc_l_any_row.nd rfl (Or.inl rfl) (pe_cal C_l_take hr (by decide) rfl (pa_cons (pv 0) (pa_cons pe_int pa_nil))))
      (pss_cons (ps_if (pt_cmpR op_eq (pv 3) pe_int (nomark _)) (pss_one (ps_ret (pe_tup (pa_cons pe_str pa_nil)))) pss_nil)
      (pss_cons (ps_if (pt_cmpR op_eq (pv 3) pe_int (nomark _)) (pss_one (ps_ret (pe_tup (pa_cons pe_str (pa_cons (pe_cal C_l_whole hr (by decide) rfl (pa_cons (pv 0) pa_nil)) pa_nil))))) pss_nil)
      (pss_cons (ps_set (i := 4) sc_l_any_row.nd rfl (Or.inl rfl) (pe_cal C_l_any_term hr (by decide) rfl (pa_cons (pv 0) (pa_cons (pv 1) (pa_cons (pe_ix ix_list (pe_lst (pa_cons pe_int (pa_cons pe_int (pa_cons (pv 2) pa_nil)))) (pe_cal C_l_take hr (by decide) rfl (pa_cons (pv 0) (pa_cons pe_int pa_nil))) (fun _ _ => rfl)) (pa_cons pe_int pa_nil))))))
      (pss_cons (ps_if (pt_cmpR op_eq (pv 3) pe_int (nomark _)) (pss_one (ps_ret (pe_tup (pa_cons pe_str (pa_cons (pv 4) (pa_cons (pe_cal C_l_whole hr (by decide) rfl (pa_cons (pv 0) pa_nil)) pa_nil)))))) pss_nil)
      (pss_one (ps_ret (pe_ix ix_list (pe_lst (pa_cons (pe_tup (pa_cons pe_str (pa_cons (pe_cal C_l_some hr (by decide) rfl (pa_cons (pv 0) (pa_cons (pv 1) pa_nil))) (pa_cons (pv 4) pa_nil)))) (pa_cons (pe_tup (pa_cons pe_str (pa_cons (pv 4) pa_nil))) pa_nil))) (pe_op op_mod (pv 3) pe_int) (fun _ _ => rfl))))))))), ?_⟩
  refine ⟨_, rfl, f, 6, rfl, F0, by decide, by decide, fun fm H1 m0 m1 F1 B1 => ?_⟩
  have hb1 := B1 _ _ nb hb
  refine ⟨_, rfl, rfl, _, rfl, ?_⟩
  refine ite2 (fun _ => ?_) (fun _ => ?_)
  · refine ⟨(by show 1 ≤ sizeLine; decide), fun p hp => ?_⟩
    exact q _ .fin _ (.fin upd_same) trivial (F1.same (Same.new hp _)) (SameBut.new B1 hp)
  refine ⟨_, rfl, rfl, _, rfl, ?_⟩
  refine ite2 (fun _ => ?_) (fun _ => ?_)
  · refine ⟨_, rfl, f, rfl, F1, fun n H2 n0 n1 F2 B2 => ⟨(by show 2 ≤ sizeLine; decide), fun p hp => ?_⟩⟩
    exact q _ (.go n) _ (.go upd_same) ⟨n0, n1⟩ (F2.same (Same.new hp _)) (SameBut.new (B1.trans B2) hp)
  refine ⟨_, rfl, _, rfl, _, rfl, (by show 3 ≤ sizeLine; decide), fun L hL => ?_⟩
  have gL := Same.new hL (.lst ([1, 4, (room : Int)].map V.int))
  have eL : upd H1 L (.lst ([1, 4, (room : Int)].map V.int)) L = some (.lst ([1, 4, (room : Int)].map V.int)) := upd_same
  have Lf : L ≠ f := F1.ne hL
  refine ⟨_, rfl, f, 3, rfl, F1.same gL, by decide, by decide, fun d H2 a0 a1 F2 B2 => ?_⟩
  obtain ⟨rm, hrm, mm⟩ := atI_mem (ns := [1, 4, (room : Int)]) a0 a1
  have mr : 1 ≤ rm ∧ rm ≤ (room : Int) := by
    simp only [List.mem_cons, List.not_mem_nil, or_false] at mm
    omega
  have hb2 := B2 _ _ nb (gL _ _ hb1)
  refine ⟨L, _, _, _, rfl, rfl, SqL.of (B2 _ _ Lf eL), hrm, f, b, bs, rm, 8, rfl, F2, hb2, nb, bx, mr.1, by omega, by decide, by decide, fun v t H3 T3 ok3 sz3 dp3 F3 B3 => ?_⟩
  have B13 : SameBut f H H3 := B1.trans ((SameBut.of gL).trans (B2.trans B3))
  have tf : t.fit room := ⟨ok3, by omega, by omega⟩
  refine ⟨_, rfl, rfl, _, rfl, ?_⟩
  refine ite2 (fun _ => ?_) (fun _ => ?_)
  · refine ⟨_, rfl, _, rfl, f, rfl, F3, fun n H4 n0 n1 F4 B4 => ⟨(by show 3 ≤ sizeLine; decide), fun p hp => ?_⟩⟩
    have gp := Same.new hp (.tup [.str "if", v, .int n])
    exact q _ (.iff t n) _ (.iff upd_same ((T3.mono (keepT_feed F3 B4)).mono (keepT_same gp))) ⟨tf, n0, n1⟩ (F4.same gp) (SameBut.new (B13.trans B4) hp)
  have hb3 := B3 _ _ nb hb2
  refine ⟨_, rfl, _, rfl, f, b, bs, rfl, F3, hb3, nb, bx.1, bx.2.1, fun x H4 xm F4 B4 => ?_⟩
  have T4 := T3.mono (keepT_feed F3 B4)
  refine ⟨_, rfl, (by show 3 ≤ sizeLine; decide), fun p hp => ?_⟩
  have gp := Same.new hp (.tup [.str "set", .str x, v])
  refine ⟨_, rfl, (by show 2 ≤ sizeLine; decide), fun p2 hp2 => ?_⟩
  have gp2 := Same.new hp2 (.tup [.str "say", v])
  refine ⟨(by show 2 ≤ sizeLine; decide), fun L2 hL2 => ?_⟩
  have gL2 := Same.new hL2 (.lst [.ref p, .ref p2])
  have e1 : upd (upd (upd H4 p (.tup [.str "set", .str x, v])) p2 (.tup [.str "say", v])) L2 (.lst [.ref p, .ref p2]) p = some (.tup [.str "set", .str x, v]) := gL2 _ _ (gp2 _ _ upd_same)
  have e2 : upd (upd (upd H4 p (.tup [.str "set", .str x, v])) p2 (.tup [.str "say", v])) L2 (.lst [.ref p, .ref p2]) p2 = some (.tup [.str "say", v]) := gL2 _ _ upd_same
  have S4 := gp.trans (gp2.trans gL2)
  have T5 := T4.mono (keepT_same S4)
  refine ⟨_, rfl, _, _, rfl, rfl, (by show (0 : Int) < 2; decide), ?_⟩
  have m3 := Int.emod_nonneg fm (show (2 : Int) ≠ 0 by decide)
  have m4 := Int.emod_lt_of_pos fm (show (0 : Int) < 2 by decide)
  have : fm % 2 = 0 ∨ fm % 2 = 1 := by omega
  rcases this with h | h
  · refine ⟨L2, _, _, .ref p, rfl, rfl, SqL.of upd_same, by rw [h]; exact at0 .., ?_⟩
    exact q _ (.set x t) _ (.set e1 T5) ⟨bx.2.2 x xm, tf⟩ (F4.same S4) (B13.trans (B4.trans (SameBut.of S4)))
  · refine ⟨L2, _, _, .ref p2, rfl, rfl, SqL.of upd_same, by rw [h]; exact at1 .., ?_⟩
    exact q _ (.say t) _ (.say e2 T5) tf (F4.same S4) (B13.trans (B4.trans (SameBut.of S4)))
def ifBody : Stmt → List Stmt
  | .If _ b _ _ => b
  | _ => []
def ifTest : Stmt → Expr
  | .If c _ _ _ => c
  | _ => .Constant .none 0 ⟨0, 0, 0, 0⟩
def valOf : Stmt → Expr
  | .Assign _ v _ => v
  | .Return (some v) _ => v
  | _ => .Constant .none 0 ⟨0, 0, 0, 0⟩
def eltsOf : Expr → List Expr
  | .List es _ => es
  | .Subscript (.BinOp _ _ (.List es _) _) _ _ => es
  | _ => []
def ixOf : Expr → Expr
  | .Subscript _ i _ => i
  | _ => .Constant .none 0 ⟨0, 0, 0, 0⟩
abbrev stm (s : Stmt) (i : Nat) : Stmt := (defBody s).getD i (.Pass ⟨0, 0, 0, 0⟩)
abbrev stmI (s : Stmt) (i j : Nat) : Stmt := (ifBody (stm s i)).getD j (.Pass ⟨0, 0, 0, 0⟩)
def wordsA : List Str := ["set", "say", "if", "go", "end", "num", "box", "op", "is", "rounds", "duex", "askedx", "coins"]
def wordsB : List Str := ["trues", "sets", "sayx", "iff", "gox", "ends"]
@[irreducible] def namesK : List Expr := eltsOf (valOf (stm s_l_name 1))
@[irreducible] def namesA : List Expr := eltsOf (valOf (stmI s_l_name 2 0))
@[irreducible] def namesB : List Expr := eltsOf (valOf (stmI s_l_name 2 1))
theorem namesK_w : Consts namesK kept := by
  unfold namesK
  exact .cons (.cons (.cons (.cons (.cons (.cons (.cons (.cons (.cons (.cons (.cons (.cons .nil)))))))))))
theorem namesA_w : Consts namesA wordsA := by
  unfold namesA
  exact .cons (.cons (.cons (.cons (.cons (.cons (.cons (.cons (.cons (.cons (.cons (.cons (.cons .nil))))))))))))
theorem namesB_w : Consts namesB wordsB := by
  unfold namesB
  exact .cons (.cons (.cons (.cons (.cons (.cons .nil)))))
theorem name_body : ∃ p1 p2 p3 p4 p5 p6 p7 p8 p9 q1 q2 q3, defBody s_l_name = [stm s_l_name 0, .Assign [.Name "_law_taken" p1] (.List namesK p2) p3,
    .If (ifTest (stm s_l_name 2)) [.Assign [.Name "_law_some_here" p4] (.List namesA p5) p6, .Return (some (.Subscript (.BinOp (.Name "_law_some_here" p7) .Add (.List namesB p8) p9) (ixOf (valOf (stmI s_l_name 2 1))) q1)) q2] [] q3, stm s_l_name 3, stm s_l_name 4, stm s_l_name 5] :=
  ⟨_, _, _, _, _, _, _, _, _, _, _, _, by with_unfolding_all rfl⟩
def LTR : Str := "abcdefghijklmnopqrstuvwxyz"
theorem ltr_ok : ∀ c ∈ LTR.cps.toList, 97 ≤ c ∧ c ≤ 122 := by decide +kernel
def NmD (x : Str) : Prop := (∀ c ∈ x.cps.toList, 97 ≤ c ∧ c ≤ 122) ∧ 1 ≤ x.length ∧ x.length ≤ 6 ∧ x ∉ kept
theorem words_ok0 : ∀ x ∈ wordsA ++ wordsB, (∀ c ∈ x.cps.toList, 97 ≤ c ∧ c ≤ 122) ∧ 1 ≤ x.length ∧ x.length ≤ 6 ∧ x ∉ kept := by decide +kernel
theorem words_ok (x : Str) (h : x ∈ wordsA ++ wordsB) : NmK x := words_ok0 x h
theorem kept_s0 : ∀ x ∈ kept, (∀ c ∈ (x ++ ("s" : Str)).cps.toList, 97 ≤ c ∧ c ≤ 122) ∧ 1 ≤ (x ++ ("s" : Str)).length ∧ (x ++ ("s" : Str)).length ≤ 6 ∧ (x ++ ("s" : Str)) ∉ kept := by decide +kernel
theorem kept_s (x : Str) (h : x ∈ kept) : NmK (x ++ ("s" : Str)) := kept_s0 x h
theorem sum_ones {zs : List Str} (h : ∀ z ∈ zs, z.length = 1 ∧ ∀ c ∈ z.cps.toList, c ∈ LTR.cps.toList) : (zs.map (·.length)).sum = zs.length := by
  induction zs with
  | nil => rfl
  | cons a r ih =>
    rw [List.map_cons, List.sum_cons, ih fun z hz => h z (List.mem_cons_of_mem _ hz), (h a List.mem_cons_self).1, List.length_cons]
    omega
theorem in_strs (x : Str) (ns : List Str) : inV (.str x) (ns.map V.str) = decide (x ∈ ns) := by
  unfold inV
  induction ns with
  | nil => rfl
  | cons a r ih =>
    rw [List.map_cons, List.any_cons, ih]
    have e : eqV (.str a) (.str x) = decide (x = a) := by
      show (a == x) = _
      by_cases c : x = a
      · subst c; simp
      · rw [decide_eq_false c]; simpa using fun h => c h.symm
    rw [e]
    by_cases c1 : x = a <;> by_cases c2 : x ∈ r <;> simp [c1, c2]
def spName : Sp := fun vs H Q _ => ∃ f : Addr, vs = [.ref f] ∧ FeedAt H f ∧ ∀ (x : Str) (H' : Hp), NmK x → FeedAt H' f → SameBut f H H' → Q (.str x) H'
theorem sc_l_name : FnScope ["_law_feed_here", "_law_letters", "_law_taken", "_law_some_here", "_law_name_here"] ["_law_feed_here"] (defScope s_l_name) := ⟨rfl, rfl, rfl, by decide +kernel, rfl, by decide +kernel, by decide +kernel⟩
theorem ok_l_name {f : Addr} {fd : FuncData} (F : Fun K "_law_name" "_law_name" s_l_name f fd) (B : Bl mg) (C_l_take : Cal P w K mg base 1 "_law_take" ["_law_feed_here", "_law_many"] spTake) : FnOk P w K mg base CX0 2 f fd ["_law_feed_here"] spName := by
  refine F.ok sc_l_name (fun vs H Q E h => ?_) (fun cdv A outer s H vs Q E hr h => ?_)
  · obtain ⟨f, rfl, _⟩ := h
    rfl
  obtain ⟨f, rfl, hF, q⟩ := h
  obtain ⟨p1, p2, p3, p4, p5, p6, p7, p8, p9, q1, q2, q3, ebody⟩ := name_body
  rw [ebody]
  refine ⟨_, (pss_cons (ps_set (i := 1) sc_l_name.nd rfl (Or.inr rfl) pe_str)
      (pss_cons (ps_set (i := 2) sc_l_name.nd rfl (Or.inl rfl) (pe_lst (pa_consts namesK_w)))
      (pss_cons (ps_if (pt_cmpR op_eq (pe_cal C_l_take hr (by decide) rfl (pa_cons (pv 0) (pa_cons pe_int pa_nil))) pe_int (nomark _)) (pss_cons (ps_set (i := 3) sc_l_name.nd rfl (Or.inl rfl) (pe_lst (pa_consts namesA_w)))
        (pss_one (ps_ret (pe_ix ix_list (pe_op op_cat (pv 3) (pe_lst (pa_consts namesB_w))) (pe_cal C_l_take hr (by decide) rfl (pa_cons (pv 0) (pa_cons pe_int pa_nil))) (fun _ _ => rfl))))) pss_nil)
      (pss_cons (ps_set (i := 4) sc_l_name.nd rfl (Or.inl rfl) (pe_bm PySem.F.plainAttrs_str PySem.F.slot_str_join PySem.F.type_str_join mt_join pe_str (pa_cons (pe_comp (N := ["_law_letters", "_law_feed_here"]) (ix := [1, 0]) rfl
          (CompScope.two (by with_unfolding_all rfl) (by decide) rfl (by decide) rfl (by decide +kernel) (by first | exact Or.inl rfl | exact Or.inr rfl) (by with_unfolding_all rfl) (by with_unfolding_all rfl) (by with_unfolding_all rfl) (by with_unfolding_all rfl) rfl rfl (by with_unfolding_all rfl) rfl rfl) rfl
          (pi_range1 rfl B.range (pa_cons (pe_op op_add pe_int (pe_cal C_l_take hr (by decide) rfl (pa_cons (pv 0) (pa_cons pe_int pa_nil)))) pa_nil))
          (fun _ _ _ => pb_all (pe_ix ix_str (pv 1) (pe_cal C_l_take hr (by decide) rfl (pa_cons (pv 2) (pa_cons pe_int pa_nil))) (fun _ _ => rfl)))) pa_nil)))
      (pss_cons (ps_if (pt_cmpR op_in_seq (pv 4) (pv 2) (by with_unfolding_all rfl)) (pss_one (ps_ret (pe_op op_add_str (pv 4) pe_str))) pss_nil)
      (pss_one (ps_ret (pv 4)))))))), ?_⟩
  refine ⟨(by show 12 ≤ sizeLine; decide), fun k1 h1 => ?_⟩
  have G1 := Same.new h1 (.lst (kept.map V.str))
  have e1 : upd H k1 (.lst (kept.map V.str)) k1 = some (.lst (kept.map V.str)) := upd_same
  have F1 := hF.same G1
  have k1f : k1 ≠ f := hF.ne h1
  generalize upd H k1 (.lst (kept.map V.str)) = H1 at G1 e1 F1
  refine ⟨_, rfl, f, 6, rfl, F1, by decide, by decide, fun d1 H2 a0 a1 F2 B2 => ?_⟩
  have B12 : SameBut f H H2 := (SameBut.of G1).trans B2
  have e2 := B2 _ _ k1f e1
  refine ⟨rfl, _, rfl, ?_⟩
  refine ite2 (fun _ => ?_) (fun _ => ?_)
  · refine ⟨(by show 13 ≤ sizeLine; decide), fun l1 g1 => ?_⟩
    refine ⟨_, rfl, (by show 6 ≤ sizeLine; decide), fun l2 g2 => ?_⟩
    refine ⟨l1, l2, wordsA.map V.str, wordsB.map V.str, rfl, rfl, Same.new g2 _ _ _ upd_same, upd_same, (by show 19 ≤ sizeLine; decide), fun l3 g3 => ?_⟩
    have G := (Same.new g1 (.lst (wordsA.map V.str))).trans ((Same.new g2 (.lst (wordsB.map V.str))).trans (Same.new g3 (.lst (wordsA.map V.str ++ wordsB.map V.str))))
    have F3 := F2.same G
    have n3 := (F2.same ((Same.new g1 (.lst (wordsA.map V.str))).trans (Same.new g2 (.lst (wordsB.map V.str))))).ne g3
    refine ⟨_, rfl, f, 19, rfl, F3, by decide, by decide, fun e H9 e0 e1 F9 S9 => ?_⟩
    obtain ⟨v, hv, vm⟩ := at_in (l := wordsA.map V.str ++ wordsB.map V.str) (i := e) e0 (by
      have : (wordsA.map V.str ++ wordsB.map V.str).length = 19 := by rfl
      omega)
    rw [← List.map_append] at vm
    obtain ⟨x, hx, rfl⟩ := List.mem_map.mp vm
    exact ⟨l3, _, e, _, rfl, rfl, SqL.of (S9 l3 _ n3 upd_same), hv, q x H9 (words_ok x hx) F9 (B12.trans ((SameBut.of G).trans S9))⟩
  refine ⟨rfl, _, rfl, f, 6, rfl, F2, by decide, by decide, fun d2 H3 b0 b1 F3 B3 => ?_⟩
  have B13 : SameBut f H H3 := B12.trans B3
  have e3 := B3 _ _ k1f e2
  refine ⟨_, _, rfl, rfl, _, rfl, by omega, by omega, fun D hD => ?_⟩
  have Df := F3.ne hD
  have L26 : LTR.cps.toList.length = 26 := by decide +kernel
  refine comp_range (n := (1 + d2).toNat) (fun i H' => ∃ zs : List Str, H' D = some (.lst (zs.map V.str)) ∧ zs.length = i ∧ (∀ z ∈ zs, z.length = 1 ∧ ∀ c ∈ z.cps.toList, c ∈ LTR.cps.toList) ∧ FeedAt H' f ∧ SameBut f H3 H') ⟨[], by rw [upd_same]; rfl, rfl, by simp, F3.same (Same.new hD _), SameBut.of (Same.new hD _)⟩ ?_ ?_
  · rintro i H4 hi ⟨zs, hl, zl, z1, F4, S4⟩
    refine ⟨_, rfl, _, rfl, f, 26, rfl, F4, by decide, by decide, fun d H5 d0 d26 F5 S5 => ?_⟩
    obtain ⟨c, hc, hm⟩ := at_in (l := LTR.cps.toList) (i := d) d0 (by rw [L26]; exact d26)
    have hD5 : H5 D = some (.lst (zs.map V.str)) := S5 D _ Df hl
    refine ⟨_, d, c, rfl, rfl, small (by decide +kernel), hc, _, hD5, ?_, Nx.of hi ⟨zs ++ [⟨#[c]⟩], ?_, ?_, ?_, feed_upd F5 Df, ?_⟩⟩
    · rw [List.length_map, zl]
      exact small1000 (by omega)
    · rw [upd_same, List.map_append]
      rfl
    · rw [List.length_append, List.length_singleton, zl]
    · intro z hz
      rcases List.mem_append.mp hz with h | h
      · exact z1 z h
      · rw [List.mem_singleton.mp h]
        refine ⟨rfl, fun c' hc' => ?_⟩
        have : c' = c := by simpa using hc'
        subst this
        exact hm
    · intro b o hb e
      rw [upd_ne (ne_of_none e hD)]
      exact S5 b o hb (S4 b o hb e)
  rintro H4 ⟨zs, hl, zl, z1, F4, S4⟩
  have sl := sum_ones z1
  refine ⟨_, D, zs, rfl, rfl, SqL.of hl, (by decide +kernel), by omega, ?_⟩
  have jl : (Txt.join "" zs).length = (1 + d2).toNat := by
    have := size_glued "" zs
    have e0 : (("" : Str)).length = 0 := by decide +kernel
    rw [e0, Nat.mul_zero] at this
    show (Builtin.Str.glued "" zs).length = _
    omega
  have jc : ∀ c ∈ (Txt.join "" zs).cps.toList, 97 ≤ c ∧ c ≤ 122 := fun c hc => by
    obtain ⟨z, hz, h⟩ := mem_join0 hc
    exact ltr_ok c ((z1 z hz).2 c h)
  generalize Txt.join "" zs = nm at jl jc
  have B14 := B13.trans S4
  refine ⟨_, rfl, _, rfl, k1, _, rfl, .inl (SqL.of (S4 _ _ k1f e3)), rfl, (by decide), _, rfl, ?_⟩
  show if inV (.str nm) (kept.map V.str) = true then _ else _
  rw [in_strs]
  by_cases ck : nm ∈ kept
  · refine iteD ck ?_
    have l1 : (("s" : Str)).length = 1 := by decide +kernel
    refine ⟨_, rfl, _, _, rfl, rfl, small (by rw [l1]; omega), ?_⟩
    exact q _ H4 (kept_s nm ck) F4 B14
  · refine iteDF ck ?_
    exact ⟨_, rfl, q _ H4 ⟨jc, by omega, by omega, ck⟩ F4 B14⟩
def LET : Str := "abcdefghijklmnopqrstuvwxyz"
def ENDS : Str := " ()"
def isIn (L : Str) (c : Nat) : Bool := !(Builtin.Str.occurrences L ⟨#[c]⟩ 0 L.length 1).isEmpty
def nameB (z : Str) : Bool := decide (1 ≤ z.length) && decide (z.length ≤ 6) && !inV (.str z) (kept.map V.str) && z.cps.toList.all (isIn LET)
def FIG : Str := "0123456789"
def figB (z : Str) : Bool := decide (1 ≤ z.length) && decide (z.length ≤ 12) && !(decide (1 < z.length) && Txt.startswith z "0") && z.cps.toList.all (isIn FIG)
theorem starts_zero {z : Str} {c : Nat} (h : z.cps.toList[0]? = some c) : Txt.startswith z "0" = decide (V.str ⟨#[c]⟩ = V.str "0") := by
  have q := StrLaws.subAt_one z 48 0
  have e0 : ("0" : Str) = ⟨#[48]⟩ := by decide +kernel
  unfold Txt.startswith
  rw [e0]
  by_cases hc : c = 48
  · subst hc
    have := q.mpr h
    rw [show decide (V.str (⟨#[48]⟩ : Str) = V.str ⟨#[48]⟩) = true from decide_eq_true rfl]
    simp only [Bool.and_eq_true, decide_eq_true_eq]
    exact this
  · have hne : ¬ (V.str (⟨#[c]⟩ : Str) = V.str ⟨#[48]⟩) := fun e => hc (by
      have := V.str.inj e
      injection this with this
      simpa using this)
    rw [show decide (V.str (⟨#[c]⟩ : Str) = V.str ⟨#[48]⟩) = false from decide_eq_false hne]
    rw [Bool.eq_false_iff]
    intro e
    simp only [Bool.and_eq_true, decide_eq_true_eq] at e
    have := q.mp e
    rw [h] at this
    exact hc (Option.some.inj this)
def spTxt (fB : Str → Bool) : Sp := fun vs H Q _ => ∃ z : Str, vs = [.str z] ∧ z.length ≤ 1000 ∧ ∀ H', Same H H' → Q (.bl (fB z)) H'
structure Tx (K : PySem.W.Frag) (mg : Str → Option Value) : Prop where
  letters : ∃ t, mg "LETTERS" = some (.str LET t)
  longest : ∃ t, mg "LONGEST_NAME" = some (.int 6 t)
  keptW : ∃ a, mg "KEPT_WORDS" = some (.ref a) ∧ ∀ H, SqT K H a (kept.map V.str)
  ends : ∃ t, mg "WORD_ENDS" = some (.str ENDS t)
  within : ∃ t, mg "MOST_WITHIN" = some (.int 8 t)
  parts : ∃ t, mg "MOST_PARTS" = some (.int 20 t)
  figures : ∃ t, mg "FIGURES" = some (.str FIG t)
  most : ∃ t, mg "MOST_FIGURES" = some (.int 12 t)
  rows : ∃ t, mg "MOST_ROWS" = some (.int 60 t)
  signs : ∃ a, mg "SIGNS" = some (.ref a) ∧ ∀ H, SqT K H a (signW.map V.str)
  asking : ∃ a, mg "ASKING_WORDS" = some (.ref a) ∧ ∀ H, SqT K H a (askW.map V.str)
  plain : ∃ a, mg "PLAIN_WORDS" = some (.ref a) ∧ ∀ H, SqT K H a (plainW.map V.str)
theorem len_size (z : Str) : z.cps.size = z.length := rfl
theorem boot_str' : bootBuiltins "str" = some (.type "str") := by decide +kernel
theorem sc_is_name : FnScope ["text"] ["text"] (defScope s_is_name) := ⟨rfl, rfl, rfl, by decide +kernel, rfl, by decide +kernel, by decide +kernel⟩
theorem ok_is_name {f : Addr} {fd : FuncData} (F : Fun K "is_name" "is_name" s_is_name f fd) (B : Bl mg) (T : Tx K mg) : FnOk P w K mg base CX0 1 f fd ["text"] (spTxt nameB) := by
  refine F.ok sc_is_name (fun vs H Q E h => ?_) (fun cdv A outer s H vs Q E hr h => ?_)
  · obtain ⟨z, rfl, _⟩ := h
    rfl
  obtain ⟨z, rfl, hz, q⟩ := h
  obtain ⟨t1, g1⟩ := T.letters
  obtain ⟨t3, g3⟩ := T.longest
  obtain ⟨ka, g5, hk⟩ := T.keptW
  refine ⟨_, (pss_cons (ps_if (PW.pt (pw_or (pt_cmpR op_lt (pe_callB call_len_str rfl B.len PySem.boot_len (pa_cons (pv 0) pa_nil)) pe_int (nomark _)) (pw_or (pt_cmpR op_gt (pe_callB call_len_str rfl B.len PySem.boot_len (pa_cons (pv 0) pa_nil)) (pe_glob (v := .int 6) rfl g3 ⟨_, rfl⟩) (nomark _)) (pw_or1 (pt_cmpR op_in_seq (pv 0) (pe_glob (v := .ref ka) rfl g5 rfl) (by with_unfolding_all rfl)))))) (pss_one (ps_ret pe_bl)) pss_nil)
      (pss_one (ps_ret (pe_callB (call_all rfl) rfl B.all PyProof.Rows.boot_all (pa_cons (pe_comp (N := []) (ix := []) (cl := []) rfl (CompScope.closed (by with_unfolding_all rfl) (by decide) rfl (by decide) rfl (by with_unfolding_all rfl)) rfl (pi_str (pv 0))
        (fun _ _ _ => pb_all (pe_cmpR op_in_str (pv 0) (pe_glob (v := .str LET) rfl g1 ⟨_, rfl⟩) (by with_unfolding_all rfl)))) pa_nil))))), ?_⟩
  have fls : nameB z = false → Q (.bl false) H := fun e => by
    have := q H (Same.refl H)
    rw [e] at this
    exact this
  refine ⟨_, rfl, z, rfl, small hz, _, _, rfl, rfl, _, rfl, ?_⟩
  by_cases c1 : (z.length : Int) < 1
  · refine iteD c1 (iteT ?_)
    exact fls (by unfold nameB; rw [decide_eq_false (show ¬ 1 ≤ z.length by omega)]; rfl)
  refine iteDF c1 ?_
  refine ⟨_, rfl, z, rfl, small hz, _, _, rfl, rfl, _, rfl, ?_⟩
  by_cases c2 : (6 : Int) < (z.length : Int)
  · refine iteD c2 (iteT ?_)
    exact fls (by unfold nameB; rw [decide_eq_false (show ¬ z.length ≤ 6 by omega)]; simp)
  refine iteDF c2 ?_
  refine ⟨_, rfl, ka, _, rfl, .inr (hk _), rfl, (by decide), _, rfl, ?_⟩
  cases c3 : inV (.str z) (kept.map V.str) with
  | true =>
    refine iteT ?_
    exact fls (by unfold nameB; rw [c3]; simp)
  | false =>
    refine iteF ?_
    refine ⟨_, rfl, z, rfl, fun D hD => ?_⟩
    refine comp_str (z := z) (fun i H' => H' D = some (.lst (((z.cps.toList.take i).map (isIn LET)).map V.bl)) ∧ Same H H') ⟨by rw [upd_same]; rfl, Same.new hD _⟩ ?_ ?_
    · rintro i c H' hc ⟨hl, s0⟩
      have hi : i < z.cps.size := (Array.getElem?_eq_some_iff.mp hc).1
      rw [len_size] at hi
      refine ⟨_, rfl, _, _, rfl, rfl, _, hl, ?_, Nx.of hi ⟨?_, ?_⟩⟩
      · rw [List.length_map, List.length_map, List.length_take]
        exact small1000 (by omega)
      · rw [upd_same]
        have ec : z.cps.toList[i]? = some c := by simpa using hc
        rw [List.take_add_one, ec, List.map_append, List.map_append]
        rfl
      · intro b o e
        rw [upd_ne (ne_of_none e hD)]
        exact s0 b o e
    · rintro H' ⟨hl, s0⟩
      rw [show z.cps.toList.take z.cps.size = z.cps.toList by rw [← Array.length_toList]; exact List.take_length] at hl
      refine ⟨D, _, rfl, SqL.of hl, ?_⟩
      have e : nameB z = (z.cps.toList.map (isIn LET)).all id := by
        unfold nameB
        rw [c3, decide_eq_true (show 1 ≤ z.length by omega), decide_eq_true (show z.length ≤ 6 by omega), List.all_map]
        rfl
      rw [← e]
      exact q H' s0
theorem sc_is_figures : FnScope ["text"] ["text"] (defScope s_is_figures) := ⟨rfl, rfl, rfl, by decide +kernel, rfl, by decide +kernel, by decide +kernel⟩
theorem ok_is_figures {f : Addr} {fd : FuncData} (F : Fun K "is_figures" "is_figures" s_is_figures f fd) (B : Bl mg) (T : Tx K mg) : FnOk P w K mg base CX0 1 f fd ["text"] (spTxt figB) := by
  refine F.ok sc_is_figures (fun vs H Q E h => ?_) (fun cdv A outer s H vs Q E hr h => ?_)
  · obtain ⟨z, rfl, _⟩ := h
    rfl
  obtain ⟨z, rfl, hz, q⟩ := h
  obtain ⟨t1, g1⟩ := T.figures
  obtain ⟨t3, g3⟩ := T.most
  refine ⟨_, (pss_cons (ps_if (PW.pt (pw_or (pt_cmpR op_lt (pe_callB call_len_str rfl B.len PySem.boot_len (pa_cons (pv 0) pa_nil)) pe_int (nomark _)) (pw_or1 (pt_cmpR op_gt (pe_callB call_len_str rfl B.len PySem.boot_len (pa_cons (pv 0) pa_nil)) (pe_glob (v := .int 12) rfl g3 ⟨_, rfl⟩) (nomark _))))) (pss_one (ps_ret pe_bl)) pss_nil)
      (pss_cons (ps_if (PW.pt (pw_and (pt_cmpR op_gt (pe_callB call_len_str rfl B.len PySem.boot_len (pa_cons (pv 0) pa_nil)) pe_int (nomark _)) (pw_and1 (pt_val (pe_bm PySem.F.plainAttrs_str PySem.F.slot_str_startswith PySem.F.type_str_startswith mt_startswith (pv 0) (pa_cons pe_str pa_nil)))))) (pss_one (ps_ret pe_bl)) pss_nil)
      (pss_one (ps_ret (pe_callB (call_all rfl) rfl B.all PyProof.Rows.boot_all (pa_cons (pe_comp (N := []) (ix := []) (cl := []) rfl (CompScope.closed (by with_unfolding_all rfl) (by decide) rfl (by decide) rfl (by with_unfolding_all rfl)) rfl (pi_str (pv 0))
        (fun _ _ _ => pb_all (pe_cmpR op_in_str (pv 0) (pe_glob (v := .str FIG) rfl g1 ⟨_, rfl⟩) (by with_unfolding_all rfl)))) pa_nil)))))), ?_⟩
  have fls : figB z = false → Q (.bl false) H := fun e => by
    have := q H (Same.refl H)
    rw [e] at this
    exact this
  refine ⟨_, rfl, z, rfl, small hz, _, _, rfl, rfl, _, rfl, ?_⟩
  by_cases c1 : (z.length : Int) < 1
  · refine iteD c1 (iteT ?_)
    exact fls (by unfold figB; rw [decide_eq_false (show ¬ 1 ≤ z.length by omega)]; rfl)
  refine iteDF c1 ?_
  refine ⟨_, rfl, z, rfl, small hz, _, _, rfl, rfl, _, rfl, ?_⟩
  by_cases c2 : (12 : Int) < (z.length : Int)
  · refine iteD c2 ?_
    exact fls (by unfold figB; rw [decide_eq_false (show ¬ z.length ≤ 12 by omega)]; simp)
  refine iteDF c2 ?_
  refine ⟨_, rfl, z, rfl, small hz, _, _, rfl, rfl, _, rfl, ?_⟩
  by_cases c4 : (1 : Int) < (z.length : Int)
  · refine iteD c4 ?_
    refine ⟨_, rfl, rfl, z, _, rfl, rfl, _, rfl, ?_⟩
    cases c5 : Txt.startswith z "0" with
    | true =>
      refine iteT ?_
      exact fls (by unfold figB; rw [c5, decide_eq_true (show 1 < z.length by omega)]; simp)
    | false =>
      refine iteF ?_
      have c3 : (decide (1 < z.length) && Txt.startswith z "0") = false := by rw [c5]; simp
      refine ⟨_, rfl, z, rfl, fun D hD => ?_⟩
      refine comp_str (z := z) (fun i H' => H' D = some (.lst (((z.cps.toList.take i).map (isIn FIG)).map V.bl)) ∧ Same H H') ⟨by rw [upd_same]; rfl, Same.new hD _⟩ ?_ ?_
      · rintro i c H' hc ⟨hl, s0⟩
        have hi : i < z.cps.size := (Array.getElem?_eq_some_iff.mp hc).1
        rw [len_size] at hi
        refine ⟨_, rfl, _, _, rfl, rfl, _, hl, ?_, Nx.of hi ⟨?_, ?_⟩⟩
        · rw [List.length_map, List.length_map, List.length_take]
          exact small1000 (by omega)
        · rw [upd_same]
          have ec : z.cps.toList[i]? = some c := by simpa using hc
          rw [List.take_add_one, ec, List.map_append, List.map_append]
          rfl
        · intro b o e
          rw [upd_ne (ne_of_none e hD)]
          exact s0 b o e
      · rintro H' ⟨hl, s0⟩
        rw [show z.cps.toList.take z.cps.size = z.cps.toList by rw [← Array.length_toList]; exact List.take_length] at hl
        refine ⟨D, _, rfl, SqL.of hl, ?_⟩
        have e : figB z = (z.cps.toList.map (isIn FIG)).all id := by
          unfold figB
          rw [c3, decide_eq_true (show 1 ≤ z.length by omega), decide_eq_true (show z.length ≤ 12 by omega), List.all_map]
          rfl
        rw [← e]
        exact q H' s0
  · refine iteDF c4 ?_
    refine iteF ?_
    have c3 : (decide (1 < z.length) && Txt.startswith z "0") = false := by rw [decide_eq_false (show ¬ 1 < z.length by omega)]; rfl
    refine ⟨_, rfl, z, rfl, fun D hD => ?_⟩
    refine comp_str (z := z) (fun i H' => H' D = some (.lst (((z.cps.toList.take i).map (isIn FIG)).map V.bl)) ∧ Same H H') ⟨by rw [upd_same]; rfl, Same.new hD _⟩ ?_ ?_
    · rintro i c H' hc ⟨hl, s0⟩
      have hi : i < z.cps.size := (Array.getElem?_eq_some_iff.mp hc).1
      rw [len_size] at hi
      refine ⟨_, rfl, _, _, rfl, rfl, _, hl, ?_, Nx.of hi ⟨?_, ?_⟩⟩
      · rw [List.length_map, List.length_map, List.length_take]
        exact small1000 (by omega)
      · rw [upd_same]
        have ec : z.cps.toList[i]? = some c := by simpa using hc
        rw [List.take_add_one, ec, List.map_append, List.map_append]
        rfl
      · intro b o e
        rw [upd_ne (ne_of_none e hD)]
        exact s0 b o e
    · rintro H' ⟨hl, s0⟩
      rw [show z.cps.toList.take z.cps.size = z.cps.toList by rw [← Array.length_toList]; exact List.take_length] at hl
      refine ⟨D, _, rfl, SqL.of hl, ?_⟩
      have e : figB z = (z.cps.toList.map (isIn FIG)).all id := by
        unfold figB
        rw [c3, decide_eq_true (show 1 ≤ z.length by omega), decide_eq_true (show z.length ≤ 12 by omega), List.all_map]
        rfl
      rw [← e]
      exact q H' s0
theorem let_in : ∀ c : Fin 26, isIn LET (97 + c.val) = true := by decide +kernel
theorem let_out : ∀ c : Fin 26, isIn ENDS (97 + c.val) = false := by decide +kernel
theorem ends_in : isIn ENDS 32 = true ∧ isIn ENDS 40 = true ∧ isIn ENDS 41 = true := by decide +kernel
theorem isIn_let {c : Nat} (h : 97 ≤ c ∧ c ≤ 122) : isIn LET c = true := by
  have := let_in ⟨c - 97, by omega⟩
  rwa [show 97 + (⟨c - 97, by omega⟩ : Fin 26).val = c by show 97 + (c - 97) = c; omega] at this
theorem isIn_ends {c : Nat} (h : 97 ≤ c ∧ c ≤ 122) : isIn ENDS c = false := by
  have := let_out ⟨c - 97, by omega⟩
  rwa [show 97 + (⟨c - 97, by omega⟩ : Fin 26).val = c by show 97 + (c - 97) = c; omega] at this
theorem nameB_K {x : Str} (h : NmK x) : nameB x = true := by
  obtain ⟨hl, h1, h6, hk⟩ := h
  unfold nameB
  rw [in_strs, decide_eq_true h1, decide_eq_true h6, decide_eq_false hk]
  simp only [Bool.and_self, Bool.not_false, Bool.true_and]
  rw [List.all_eq_true]
  exact fun c hc => isIn_let (hl c hc)
def stl (l : List Nat) : Str := ⟨l.toArray⟩
theorem str_ext {a b : Str} (h : a.cps.toList = b.cps.toList) : a = b := by
  cases a with
  | mk x =>
    cases b with
    | mk y =>
      have : x = y := Array.toList_inj.mp h
      rw [this]
theorem stl_of (x : Str) : stl x.cps.toList = x := rfl
theorem stl_len (l : List Nat) : (stl l).length = l.length := by
  show l.toArray.size = _
  simp
theorem cat_list (a b : Str) : (a ++ b).cps.toList = a.cps.toList ++ b.cps.toList := by simp [Str.cps_append]
theorem lit_po : (("(" : Str)).cps.toList = [40] := by decide +kernel
theorem lit_pc : ((")" : Str)).cps.toList = [41] := by decide +kernel
theorem lit_sp : ((" " : Str)).cps.toList = [32] := by decide +kernel
/-- a tree whose names are names -/
theorem str_inj {a b : Str} (h : V.str a = V.str b) : a = b := V.str.inj h
theorem ne_str {a b : Str} (h : a ≠ b) : ¬ V.str a = V.str b := fun z => h (str_inj z)
/-! ### lists of codes put together with a sign that stands in none of them -/
def jn (c : Nat) : List (List Nat) → List Nat
  | [] => []
  | [a] => a
  | a :: b :: r => a ++ c :: jn c (b :: r)
theorem cut_at {c : Nat} : ∀ {a b x y : List Nat}, c ∉ a → c ∉ b → a ++ c :: x = b ++ c :: y → a = b ∧ x = y
  | [], [], _, _, _, _, h => ⟨rfl, (List.cons.inj h).2⟩
  | [], d :: b, x, y, _, hb, h => by
    have := (List.cons.inj h).1
    exact absurd (by rw [this]; exact List.mem_cons_self) hb
  | d :: a, [], x, y, ha, _, h => by
    have := (List.cons.inj h).1
    exact absurd (by rw [← this]; exact List.mem_cons_self) ha
  | d :: a, e :: b, x, y, ha, hb, h => by
    have h' := List.cons.inj h
    have r := cut_at (fun z => ha (List.mem_cons_of_mem _ z)) (fun z => hb (List.mem_cons_of_mem _ z)) h'.2
    exact ⟨by rw [h'.1, r.1], r.2⟩
theorem jn_inj {c : Nat} : ∀ {l m : List (List Nat)}, l ≠ [] → m ≠ [] → (∀ a ∈ l, c ∉ a) → (∀ a ∈ m, c ∉ a) → jn c l = jn c m → l = m
  | [], _, h, _, _, _, _ => absurd rfl h
  | _ :: _, [], _, h, _, _, _ => absurd rfl h
  | [a], [b], _, _, _, _, h => congrArg (fun z => [z]) h
  | [a], b :: d :: r, _, _, hl, _, h => by
    have : c ∈ a := by
      rw [show a = b ++ c :: jn c (d :: r) from h]
      simp
    exact absurd this (hl a List.mem_cons_self)
  | a :: d :: r, [b], _, _, _, hm, h => by
    have : c ∈ b := by
      rw [show b = a ++ c :: jn c (d :: r) from h.symm]
      simp
    exact absurd this (hm b List.mem_cons_self)
  | a :: d :: r, b :: e :: s, _, _, hl, hm, h => by
    have q := cut_at (hl a List.mem_cons_self) (hm b List.mem_cons_self) (show a ++ c :: jn c (d :: r) = b ++ c :: jn c (e :: s) from h)
    have := jn_inj (by simp) (by simp) (fun z hz => hl z (List.mem_cons_of_mem _ hz)) (fun z hz => hm z (List.mem_cons_of_mem _ hz)) q.2
    rw [q.1, this]
def cd (x : Str) : List Nat := x.cps.toList
theorem cd_inj {x y : Str} (h : cd x = cd y) : x = y := by
  have : x.cps = y.cps := Array.toList_inj.mp h
  cases x
  cases y
  exact congrArg Str.mk this
theorem cd_append (x y : Str) : cd (x ++ y) = cd x ++ cd y := by
  unfold cd
  rw [Str.cps_append]
  simp
theorem cd_join (c : Nat) : ∀ ps : List Str, cd (Str.join ⟨#[c]⟩ ps) = jn c (ps.map cd)
  | [] => rfl
  | [a] => rfl
  | a :: b :: r => by
    show cd (a ++ ⟨#[c]⟩ ++ Str.join ⟨#[c]⟩ (b :: r)) = cd a ++ c :: jn c ((b :: r).map cd)
    rw [cd_append, cd_append, cd_join c (b :: r)]
    simp [cd]
theorem join_tx (sep : Str) : ∀ ps : List Str, Txt.join sep ps = Str.join sep ps
  | [] => rfl
  | a :: r => StrLaws.glued_cons sep r a
theorem split_some (x y : Str) : Txt.split x y ≠ [] := by
  unfold Txt.split
  split
  · exact List.cons_ne_nil _ _
  · split
    · exact List.cons_ne_nil _ _
    · intro h
      have := length_partsBetween x (Builtin.Str.occurrences x y 0 x.length (x.length + 1)) y.length
      rw [h] at this
      simp at this
theorem map_cd_inj : ∀ {l m : List Str}, l.map cd = m.map cd → l = m
  | [], [], _ => rfl
  | [], _ :: _, h => by simp at h
  | _ :: _, [], h => by simp at h
  | a :: l, b :: m, h => by
    have h' := List.cons.inj h
    rw [cd_inj h'.1, map_cd_inj h'.2]
theorem split_join {c : Nat} {ps : List Str} (h0 : ps ≠ []) (hf : ∀ p ∈ ps, c ∉ cd p) : Txt.split (Str.join ⟨#[c]⟩ ps) ⟨#[c]⟩ = ps := by
  apply map_cd_inj
  refine jn_inj (c := c) (fun h => split_some _ _ (List.map_eq_nil_iff.mp h)) (fun h => h0 (List.map_eq_nil_iff.mp h)) ?_ ?_ ?_
  · intro a ha
    obtain ⟨p, hp, rfl⟩ := List.mem_map.mp ha
    exact StrLaws.split_free _ c p hp
  · intro a ha
    obtain ⟨p, hp, rfl⟩ := List.mem_map.mp ha
    exact hf p hp
  · rw [← cd_join, ← cd_join, StrLaws.join_split]
/-! ### numbers as texts -/
def numT (n : Int) : Str := toString n
theorem num_cd (m : Nat) : cd (numT (m : Int)) = (Nat.toDigits 10 m).map Char.toNat := PySem.W.KIN.signs_num m
theorem num_dig {n : Int} (h0 : 0 ≤ n) : ∀ c ∈ cd (numT n), 48 ≤ c ∧ c ≤ 57 := by
  obtain ⟨m, rfl⟩ := Int.eq_ofNat_of_zero_le h0
  intro c hc
  rw [num_cd] at hc
  obtain ⟨ch, hch, e⟩ := List.mem_map.mp hc
  rw [← e]
  exact PyProof.Rows.digit_range (Nat.isDigit_of_mem_toDigits (by decide) (by decide) hch)
theorem num_ne {n : Int} (h0 : 0 ≤ n) : cd (numT n) ≠ [] := by
  obtain ⟨m, rfl⟩ := Int.eq_ofNat_of_zero_le h0
  rw [num_cd]
  intro e
  have h := PySem.toDigits_len_ge 10 m
  rw [List.map_eq_nil_iff.mp e] at h
  exact absurd h (by decide)
theorem num_len {n : Int} (h0 : 0 ≤ n) (h1 : n < 1000000000000) : (numT n).length ≤ 12 := PyProof.Rows.toString_length_le h0 (by decide) (by show n < 10 ^ 12; omega)
theorem num_len1 {n : Int} (h0 : 0 ≤ n) : 1 ≤ (numT n).length := by
  have h := num_ne h0
  have e : (cd (numT n)).length = (numT n).length := rfl
  cases c : cd (numT n) with
  | nil => exact absurd c h
  | cons a r => rw [← e, c]; simp
theorem num_int {n : Int} (h0 : 0 ≤ n) (h1 : n < 1000000000000) : PySem.intText? (numT n) = some n := by
  have e := intText_digits (x := numT n) (num_dig h0) (num_ne h0) (Nat.le_trans (num_len h0 h1) (by decide))
  obtain ⟨m, rfl⟩ := Int.eq_ofNat_of_zero_le h0
  have e2 := num_cd m
  unfold cd at e2
  rw [e2, PySem.W.KIN.val_back] at e
  exact e
theorem head_ne (m : Nat) (h : 0 < m) : ∃ d r, Nat.toDigits 10 m = d :: r ∧ d.toNat ≠ 48 := by
  induction m using Nat.strongRecOn with
  | _ m ih =>
    by_cases c : m < 10
    · refine ⟨Nat.digitChar m, [], Nat.toDigits_of_lt_base c, ?_⟩
      have : ∀ d : Nat, d < 10 → 0 < d → (Nat.digitChar d).toNat ≠ 48 := by decide
      exact this m c h
    · have hm : m % 10 < 10 := Nat.mod_lt m (by decide)
      have t : Nat.toDigits 10 (m / 10) ++ Nat.toDigits 10 (m % 10) = Nat.toDigits 10 (10 * (m / 10) + m % 10) := Nat.toDigits_append_toDigits (by decide) (by omega) hm
      rw [Nat.div_add_mod] at t
      obtain ⟨d, r, e, hd⟩ := ih (m / 10) (by omega) (by omega)
      exact ⟨d, r ++ Nat.toDigits 10 (m % 10), by rw [← t, e]; rfl, hd⟩
theorem fig_in : ∀ c : Nat, c < 58 → 48 ≤ c → isIn FIG c = true := by decide +kernel
theorem num_fig {n : Int} (h0 : 0 ≤ n) (h1 : n < 1000000000000) : figB (numT n) = true := by
  unfold figB
  rw [decide_eq_true (num_len1 h0), decide_eq_true (num_len h0 h1)]
  have a : (cd (numT n)).all (isIn FIG) = true := List.all_eq_true.mpr fun c hc => by
    have := num_dig h0 c hc
    exact fig_in c (by omega) this.1
  have a' : (numT n).cps.toList.all (isIn FIG) = true := a
  rw [a']
  have b : (decide (1 < (numT n).length) && Txt.startswith (numT n) "0") = false := by
    by_cases c : 1 < (numT n).length
    · obtain ⟨m, rfl⟩ := Int.eq_ofNat_of_zero_le h0
      have hm : 0 < m := by
        apply Nat.pos_of_ne_zero
        intro z
        subst z
        revert c
        decide +kernel
      obtain ⟨d, r, e, hd⟩ := head_ne m hm
      have e0 : (numT (m : Int)).cps.toList[0]? = some d.toNat := by
        have := num_cd m
        unfold cd at this
        rw [this, e]
        rfl
      have z : decide (V.str (⟨#[d.toNat]⟩ : Str) = V.str "0") = false := decide_eq_false fun z => by
        have := V.str.inj z
        have e1 : ("0" : Str) = ⟨#[48]⟩ := by decide +kernel
        rw [e1] at this
        injection this with this
        have := congrArg Array.toList this
        simp at this
        exact hd this
      rw [starts_zero e0, z, Bool.and_false]
    · rw [decide_eq_false c]
      rfl
  rw [b]
  rfl
def SP : Str := ⟨#[32]⟩
def NL : Str := ⟨#[10]⟩
theorem nl_eq : ("\n" : Str) = NL := by decide +kernel
theorem sum_le {l : List Str} {b : Nat} (h : ∀ p ∈ l, p.length ≤ b) : (l.map (·.length)).sum ≤ l.length * b := by
  induction l with
  | nil => simp
  | cons a r ih =>
    have h1 := h a List.mem_cons_self
    have h2 := ih fun p hp => h p (List.mem_cons_of_mem _ hp)
    simp only [List.map_cons, List.sum_cons, List.length_cons]
    rw [Nat.succ_mul]
    omega
theorem log_small {n : Int} (h0 : 0 ≤ n) (h1 : n < 1000000000000) : n.natAbs.log2 < 1920 := by
  have h2 : n.natAbs < 2 ^ 40 := by omega
  by_cases c : n.natAbs = 0
  · rw [c]
    decide
  · have := (Nat.log2_lt c).mpr h2
    omega
theorem cut_from {xs : List V} {k : Nat} (hk : k ≤ xs.length) : cutV xs (some (k : Int)) none = xs.drop k := by
  unfold cutV
  rw [HT.sIx_none, HT.sIx_nat, Nat.min_eq_left hk]
  exact List.take_of_length_le (by rw [List.length_drop]; exact Nat.le_refl _)
/-! ### terms as texts -/
def Tm.txt : Tm → List Nat
  | .num n => cd (numT n)
  | .box x => cd x
  | .plain w => cd w
  | .ask w a => [40] ++ (cd w ++ ([32] ++ (a.txt ++ [41])))
  | .op s a b => [40] ++ (cd s ++ ([32] ++ (a.txt ++ ([32] ++ (b.txt ++ [41])))))
def Tm.str (t : Tm) : Str := stl t.txt
theorem plain_ok : ∀ w ∈ plainW, w.length ≤ 5 ∧ 1 ≤ w.length ∧ (∀ c ∈ w.cps.toList, 97 ≤ c ∧ c ≤ 122) ∧ w ≠ "num" ∧ w ≠ "box" ∧ w ≠ "op" := by decide +kernel
theorem ask_ok : ∀ w ∈ askW, w.length ≤ 4 ∧ 1 ≤ w.length ∧ (∀ c ∈ w.cps.toList, 97 ≤ c ∧ c ≤ 122) ∧ w ≠ "num" ∧ w ≠ "box" ∧ w ≠ "op" ∧ w ∉ plainW := by decide +kernel
theorem sign_ok : ∀ w ∈ signW, w.length = 1 ∧ (∀ c ∈ w.cps.toList, 42 ≤ c ∧ c ≤ 61) ∧ w ∉ askW := by decide +kernel
theorem cd_len (x : Str) : (cd x).length = x.length := by unfold cd; rw [Array.length_toList]; rfl
theorem Tm.txt_len : ∀ t : Tm, t.ok → t.txt.length ≤ 14 * t.size
  | .num n, h => by
    have := num_len h.1 h.2
    show (cd (numT n)).length ≤ 14
    rw [cd_len]
    omega
  | .box x, h => by
    show (cd x).length ≤ 14
    rw [cd_len]
    have := h.2.2.1
    omega
  | .plain w, h => by
    show (cd w).length ≤ 14
    rw [cd_len]
    have := (plain_ok w h).1
    omega
  | .ask w a, ⟨h, h1⟩ => by
    have := Tm.txt_len a h1
    have e4 := (ask_ok w h).1
    show ([40] ++ (cd w ++ ([32] ++ (a.txt ++ [41])))).length ≤ 14 * (a.size + 1)
    simp only [List.length_append, List.length_cons, List.length_nil, cd_len]
    omega
  | .op o a b, ⟨h, h1, h2⟩ => by
    have e1 := Tm.txt_len a h1
    have e2 := Tm.txt_len b h2
    have e4 := (sign_ok o h).1
    show ([40] ++ (cd o ++ ([32] ++ (a.txt ++ ([32] ++ (b.txt ++ [41])))))).length ≤ 14 * (a.size + b.size + 1)
    simp only [List.length_append, List.length_cons, List.length_nil, cd_len]
    omega
theorem Tm.str_len {t : Tm} (h : t.ok) : t.str.length ≤ 14 * t.size := by
  unfold Tm.str
  rw [stl_len]
  exact t.txt_len h
theorem str_num (n : Int) : (Tm.num n).str = numT n := stl_of _
theorem str_box (x : Str) : (Tm.box x).str = x := stl_of _
theorem str_plain (x : Str) : (Tm.plain x).str = x := stl_of _
def brT (wd : Str) (ts : List Tm) : Str := ((Str.empty ++ ("(" : Str)) ++ Txt.join (" " : Str) (wd :: ts.map Tm.str)) ++ (")" : Str)
theorem br_ask (wd : Str) (a : Tm) : brT wd [a] = (Tm.ask wd a).str := by
  refine str_ext ?_
  unfold brT
  rw [show Txt.join (" " : Str) (wd :: [a].map Tm.str) = (wd ++ (" " : Str)) ++ a.str from rfl]
  simp only [cat_list, lit_po, lit_sp, lit_pc]
  show ((([] : List Nat) ++ [40]) ++ ((cd wd ++ [32]) ++ a.txt)) ++ [41] = [40] ++ (cd wd ++ ([32] ++ (a.txt ++ [41])))
  simp
theorem br_op (wd : Str) (a b : Tm) : brT wd [a, b] = (Tm.op wd a b).str := by
  refine str_ext ?_
  unfold brT
  rw [show Txt.join (" " : Str) (wd :: [a, b].map Tm.str) = (((wd ++ (" " : Str)) ++ a.str) ++ (" " : Str)) ++ b.str from rfl]
  simp only [cat_list, lit_po, lit_sp, lit_pc]
  show ((([] : List Nat) ++ [40]) ++ ((((cd wd ++ [32]) ++ a.txt) ++ [32]) ++ b.txt)) ++ [41] = [40] ++ (cd wd ++ ([32] ++ (a.txt ++ ([32] ++ (b.txt ++ [41])))))
  simp
theorem law_ask (wd : Str) (a : Tm) : ((((("(" : Str) ++ wd) ++ (" " : Str)) ++ a.str) ++ (")" : Str)) = (Tm.ask wd a).str := by
  refine str_ext ?_
  simp only [cat_list, lit_po, lit_sp, lit_pc]
  show ((([40] ++ cd wd) ++ [32]) ++ a.txt) ++ [41] = [40] ++ (cd wd ++ ([32] ++ (a.txt ++ [41])))
  simp
theorem law_op (wd : Str) (a b : Tm) : ((((((("(" : Str) ++ wd) ++ (" " : Str)) ++ a.str) ++ (" " : Str)) ++ b.str) ++ (")" : Str)) = (Tm.op wd a b).str := by
  refine str_ext ?_
  simp only [cat_list, lit_po, lit_sp, lit_pc]
  show ((((([40] ++ cd wd) ++ [32]) ++ a.txt) ++ [32]) ++ b.txt) ++ [41] = [40] ++ (cd wd ++ ([32] ++ (a.txt ++ ([32] ++ (b.txt ++ [41])))))
  simp
def TmsAt (H : Hp) (tv : List V) (ts : List Tm) : Prop := tv.length = ts.length ∧ ∀ (i : Nat) (v : V) (t : Tm), tv[i]? = some v → ts[i]? = some t → TmAt H v t
theorem TmsAt.one {H : Hp} {v : V} {t : Tm} (h : TmAt H v t) : TmsAt H [v] [t] := ⟨rfl, fun i a b ha hb => by
  match i, ha, hb with
  | 0, ha, hb => cases ha; cases hb; exact h
  | i + 1, ha, _ => simp at ha⟩
theorem TmsAt.two {H : Hp} {v u : V} {t r : Tm} (h : TmAt H v t) (h2 : TmAt H u r) : TmsAt H [v, u] [t, r] := ⟨rfl, fun i a b ha hb => by
  match i, ha, hb with
  | 0, ha, hb => cases ha; cases hb; exact h
  | 1, ha, hb => cases ha; cases hb; exact h2
  | i + 2, ha, _ => simp at ha⟩
def spTTm (n : Nat) : Sp := fun vs H Q _ => ∃ (v : V) (t : Tm), vs = [v] ∧ TmAt H v t ∧ t.ok ∧ t.depth ≤ n ∧ t.size ≤ 40 ∧ ∀ H', Same H H' → Q (.str t.str) H'
def spIB (n : Nat) : Sp := fun vs H Q _ => ∃ (wd : Str) (a : Addr) (tv : List V) (ts : List Tm), vs = [.str wd, .ref a] ∧ H a = some (.tup tv) ∧ TmsAt H tv ts ∧ ts.length ≤ 2 ∧ wd.length ≤ 10 ∧ (∀ t ∈ ts, t.ok ∧ t.depth ≤ n ∧ t.size ≤ 40) ∧ ∀ H', Same H H' → Q (.str (brT wd ts)) H'
theorem sc_in_bracket : FnScope ["word", "terms", "inside"] ["word", "terms"] (defScope s_in_bracket) := ⟨rfl, rfl, rfl, by decide +kernel, rfl, by decide +kernel, by decide +kernel⟩
theorem ok_in_bracket {n : Nat} {f : Addr} {fd : FuncData} (F : Fun K "in_bracket" "in_bracket" s_in_bracket f fd) (C_term_text : Cal P w K mg base (2 * n + 1) "term_text" ["term"] (spTTm n)) : FnOk P w K mg base CX0 (2 * n + 2) f fd ["word", "terms"] (spIB n) := by
  refine F.ok sc_in_bracket (fun vs H Q E h => ?_) (fun cdv A outer s H vs Q E hr h => ?_)
  · obtain ⟨wd, a, tv, ts, rfl, _⟩ := h
    rfl
  obtain ⟨wd, a, tv, ts, rfl, ha, TA, tl, wl, tk, k⟩ := h
  refine ⟨_, (pss_cons (ps_set (i := 2) sc_in_bracket.nd rfl (Or.inl rfl) (pe_bm PySem.F.plainAttrs_str PySem.F.slot_str_join PySem.F.type_str_join mt_join pe_str (pa_cons (pe_op op_cat (pe_lst (pa_cons (pv 0) pa_nil)) (pe_comp (N := []) (ix := []) (cl := []) rfl (CompScope.closed (by with_unfolding_all rfl) (by decide) rfl (by decide) rfl (by with_unfolding_all rfl)) rfl (pi_tup (pv 1))
          (fun _ _ _ => pb_all (pe_cal C_term_text hr (by omega) rfl (pa_cons (pv 0) pa_nil))))) pa_nil)))
      (pss_one (ps_ret (pe_fstr (pj_cons pe_str (pj_cons (pe_fmt (pv 2)) (pj_cons pe_str pj_nil))))))), ?_⟩
  have ttl := TA.1
  refine ⟨rfl, _, rfl, (by show 1 ≤ sizeLine; decide), fun L hL => ?_⟩
  have GL := Same.new hL (.lst [.str wd])
  have eL : upd H L (.lst [.str wd]) L = some (.lst [.str wd]) := upd_same
  generalize upd H L (.lst [.str wd]) = H1 at GL eL
  have ha1 := GL _ _ ha
  refine ⟨_, rfl, a, rfl, ⟨_, SqT.of ha1⟩, fun D hD => ?_⟩
  have LD : L ≠ D := ne_of_none eL hD
  refine comp_tup (K := K) (xs := tv) (fun i H' => H' D = some (.lst (((ts.take i).map Tm.str).map V.str)) ∧ Same H1 H') ⟨by rw [upd_same]; rfl, Same.new hD _⟩ (fun i H' _ h => SqT.of (h.2 _ _ ha1)) ?_ ?_
  · rintro i z H2 hz ⟨hD2, S2⟩
    have hi := (List.getElem?_eq_some_iff.mp hz).1
    have ht : ts[i]? = some (ts[i]'(by omega)) := List.getElem?_eq_getElem (by omega)
    obtain ⟨tok, td, tz⟩ := tk _ (List.mem_of_getElem? ht)
    refine ⟨_, rfl, z, _, rfl, (TA.2 i z _ hz ht).mono (keepT_same (GL.trans S2)), tok, td, tz, fun H3 S3 => ?_⟩
    refine ⟨_, S3 _ _ hD2, ?_, Nx.of hi ⟨?_, fun b' o' e' => ?_⟩⟩
    · rw [List.length_map, List.length_map, List.length_take]
      exact small1000 (by omega)
    · rw [upd_same, List.take_add_one, ht, List.map_append, List.map_append]
      rfl
    · rw [upd_ne (ne_of_none e' hD)]
      exact S3 _ _ (S2 _ _ e')
  rintro H2 ⟨hD2, S2⟩
  rw [show tv.length = ts.length from ttl, List.take_length] at hD2
  refine ⟨L, D, _, _, rfl, rfl, S2 _ _ eL, hD2, small (by rw [List.length_map, List.length_map, List.length_singleton]; omega), fun M hM => ?_⟩
  have GM := Same.new hM (.lst ([.str wd] ++ (ts.map Tm.str).map V.str))
  have eM : upd H2 M (.lst ([.str wd] ++ (ts.map Tm.str).map V.str)) M = some (.lst ((wd :: ts.map Tm.str).map V.str)) := upd_same
  have sl := sum_le (l := ts.map Tm.str) (b := 560) fun p hp => by
    obtain ⟨t, ht, rfl⟩ := List.mem_map.mp hp
    have := Tm.str_len (tk t ht).1
    have := (tk t ht).2.2
    omega
  rw [List.length_map] at sl
  have sl2 : ts.length * 560 ≤ 1120 := by omega
  have lsp : ((" " : Str)).length = 1 := by decide +kernel
  refine ⟨_, M, _, rfl, rfl, SqL.of eM, by rw [lsp]; decide, ?_, ?_⟩
  · rw [List.map_cons, List.sum_cons, List.length_cons, List.length_map]
    omega
  have jlen : (Txt.join (" " : Str) (wd :: ts.map Tm.str)).length ≤ 2000 := by
    have := size_glued (" " : Str) (wd :: ts.map Tm.str)
    rw [lsp, List.map_cons, List.sum_cons, List.length_cons, List.length_map] at this
    show (Builtin.Str.glued (" " : Str) (wd :: ts.map Tm.str)).length ≤ 2000
    omega
  have z0 : (Str.empty).length = 0 := by decide +kernel
  have l1 : (("(" : Str)).length = 1 := by decide +kernel
  have l3 : ((")" : Str)).length = 1 := by decide +kernel
  have big : ∀ {m : Nat}, m ≤ 3000 → m ≤ sizeLine := fun h => Nat.le_trans h (by decide)
  refine ⟨_, rfl, small (by rw [Str.length_append, z0, l1]; omega), _, rfl, _, rfl, big (by omega), _, rfl, big (by rw [Str.length_append, Str.length_append, z0, l1]; omega), _, rfl, big (by rw [Str.length_append, Str.length_append, Str.length_append, z0, l1, l3]; omega), big (by rw [Str.length_append, Str.length_append, Str.length_append, z0, l1, l3]; omega), ?_⟩
  exact k _ (GL.trans (S2.trans GM))
theorem sc_term_text : FnScope ["term", "word"] ["term"] (defScope s_term_text) := ⟨rfl, rfl, rfl, by decide +kernel, rfl, by decide +kernel, by decide +kernel⟩
theorem str_is (n : Int) : toString n = numT n := rfl
theorem ct1 (x : V) (xs : List V) : cutV (x :: xs) (some 1) none = xs := cut_from (xs := x :: xs) (k := 1) (by simp)
theorem ct2 (x y : V) (xs : List V) : cutV (x :: y :: xs) (some 2) none = xs := cut_from (xs := x :: y :: xs) (k := 2) (by simp)
theorem tm_step {n : Nat} {f : Addr} {fd : FuncData} (F : Fun K "term_text" "term_text" s_term_text f fd) (B : Bl mg) (X : Tx K mg) (C_in_bracket : Cal P w K mg base (2 * n + 2) "in_bracket" ["word", "terms"] (spIB n)) : FnOk P w K mg base CX0 (2 * (n + 1) + 1) f fd ["term"] (spTTm (n + 1)) := by
  refine F.ok sc_term_text (fun vs H Q E h => ?_) (fun cdv A outer s H vs Q E hr h => ?_)
  · obtain ⟨v, t, rfl, _⟩ := h
    rfl
  obtain ⟨v, t, rfl, T, ok, dn, sz, k⟩ := h
  obtain ⟨pa', gp, hp⟩ := X.plain
  refine ⟨_, (pss_cons (ps_set (i := 1) sc_term_text.nd rfl (Or.inl rfl) (pe_ix ix_tup (pv 0) pe_int (fun _ _ => rfl)))
      (pss_cons (ps_if (pt_cmpR op_eq (pv 1) pe_str (nomark _)) (pss_one (ps_ret (pe_callTy call_str_int rfl B.str boot_str' (pa_cons (pe_ix ix_tup (pv 0) pe_int (fun _ _ => rfl)) pa_nil)))) pss_nil)
      (pss_cons (ps_if (pt_cmpR op_eq (pv 1) pe_str (nomark _)) (pss_one (ps_ret (pe_ix ix_tup (pv 0) pe_int (fun _ _ => rfl)))) pss_nil)
      (pss_cons (ps_if (pt_cmpR op_in_seq (pv 1) (pe_glob (v := .ref pa') rfl gp rfl) (by with_unfolding_all rfl)) (pss_one (ps_ret (pv 1))) pss_nil)
      (pss_cons (ps_if (pt_cmpR op_eq (pv 1) pe_str (nomark _)) (pss_one (ps_ret (pe_cal C_in_bracket hr (by omega) rfl (pa_cons (pe_ix ix_tup (pv 0) pe_int (fun _ _ => rfl)) (pa_cons (pe_slice sl_tupA (pv 0) (po_some pe_int) po_none) pa_nil))))) pss_nil)
      (pss_one (ps_ret (pe_cal C_in_bracket hr (by omega) rfl (pa_cons (pv 1) (pa_cons (pe_slice sl_tupA (pv 0) (po_some pe_int) po_none) pa_nil)))))))))), ?_⟩
  cases T with
  | @num a m e =>
    refine ⟨_, rfl, a, _, 0, _, rfl, rfl, SqT.of e, at0 .., ?_⟩
    refine ⟨_, rfl, rfl, _, rfl, ?_⟩
    refine iteD rfl ?_
    refine ⟨_, rfl, a, _, 1, _, rfl, rfl, SqT.of e, at1 .., m, rfl, log_small ok.1 ok.2, ?_⟩
    have k' := k H (Same.refl H)
    rw [str_num] at k'
    exact k'
  | @box a x e =>
    refine ⟨_, rfl, a, _, 0, _, rfl, rfl, SqT.of e, at0 .., ?_⟩
    refine ⟨_, rfl, rfl, _, rfl, ?_⟩
    refine iteDF (ne_str (by decide +kernel)) ?_
    refine ⟨_, rfl, rfl, _, rfl, ?_⟩
    refine iteD rfl ?_
    have k' := k H (Same.refl H)
    rw [str_box] at k'
    exact ⟨_, rfl, a, _, 1, _, rfl, rfl, SqT.of e, at1 .., k'⟩
  | @plain a x e =>
    obtain ⟨_, _, _, n1, n2, n3⟩ := plain_ok x ok
    refine ⟨_, rfl, a, _, 0, .str x, rfl, rfl, SqT.of e, at0 .., ?_⟩
    refine ⟨_, rfl, rfl, _, rfl, ?_⟩
    refine iteDF (ne_str n1) ?_
    refine ⟨_, rfl, rfl, _, rfl, ?_⟩
    refine iteDF (ne_str n2) ?_
    refine ⟨_, rfl, pa', _, rfl, .inr (hp _), rfl, (by decide), _, rfl, ?_⟩
    have ein : inV (.str x) (plainW.map V.str) = true := by rw [in_strs, decide_eq_true (show x ∈ plainW from ok)]
    rw [ein]
    refine iteT ?_
    have k' := k H (Same.refl H)
    rw [str_plain] at k'
    exact ⟨_, rfl, k'⟩
  | @ask a x u r e g =>
    obtain ⟨okw, ok1⟩ := ok
    obtain ⟨l4, _, _, n1, n2, n3, n4⟩ := ask_ok x okw
    have dr : r.depth ≤ n := Nat.le_of_succ_le_succ dn
    have sr : r.size + 1 ≤ 40 := sz
    refine ⟨_, rfl, a, _, 0, .str x, rfl, rfl, SqT.of e, at0 .., ?_⟩
    refine ⟨_, rfl, rfl, _, rfl, ?_⟩
    refine iteDF (ne_str n1) ?_
    refine ⟨_, rfl, rfl, _, rfl, ?_⟩
    refine iteDF (ne_str n2) ?_
    refine ⟨_, rfl, pa', _, rfl, .inr (hp _), rfl, (by decide), _, rfl, ?_⟩
    have ein : inV (.str x) (plainW.map V.str) = false := by rw [in_strs, decide_eq_false n4]
    rw [ein]
    refine iteF ?_
    refine ⟨_, rfl, rfl, _, rfl, ?_⟩
    refine iteDF (ne_str n3) ?_
    refine ⟨_, rfl, _, rfl, 1, rfl, a, _, rfl, SqT.of e, e, fun p H1 S1 e1 => ?_⟩
    rw [ct1] at e1
    refine ⟨x, p, _, [r], rfl, e1, TmsAt.one (g.mono (keepT_same S1)), by simp, by omega, fun t ht => by rw [List.mem_singleton.mp ht]; exact ⟨ok1, dr, by omega⟩, fun H2 S2 => ?_⟩
    rw [br_ask]
    exact k H2 (S1.trans S2)
  | @op a x u u2 r r2 e g g2 =>
    obtain ⟨okw, ok1, ok2⟩ := ok
    obtain ⟨l4, _, _⟩ := sign_ok x okw
    have dd : r.depth ≤ n ∧ r2.depth ≤ n := by
      have : max r.depth r2.depth + 1 ≤ n + 1 := dn
      omega
    have sr : r.size + r2.size + 1 ≤ 40 := sz
    refine ⟨_, rfl, a, _, 0, .str "op", rfl, rfl, SqT.of e, at0 .., ?_⟩
    refine ⟨_, rfl, rfl, _, rfl, ?_⟩
    refine iteDF (ne_str (by decide +kernel)) ?_
    refine ⟨_, rfl, rfl, _, rfl, ?_⟩
    refine iteDF (ne_str (by decide +kernel)) ?_
    refine ⟨_, rfl, pa', _, rfl, .inr (hp _), rfl, (by decide), _, rfl, ?_⟩
    have ein : inV (.str "op") (plainW.map V.str) = false := by rw [in_strs, decide_eq_false (by decide +kernel)]
    rw [ein]
    refine iteF ?_
    refine ⟨_, rfl, rfl, _, rfl, ?_⟩
    refine iteD rfl ?_
    refine ⟨_, rfl, a, _, 1, .str x, rfl, rfl, SqT.of e, at1 .., _, rfl, 2, rfl, a, _, rfl, SqT.of e, e, fun p H1 S1 e1 => ?_⟩
    rw [ct2] at e1
    refine ⟨x, p, _, [r, r2], rfl, e1, TmsAt.two (g.mono (keepT_same S1)) (g2.mono (keepT_same S1)), by simp, by omega, fun t ht => ?_, fun H2 S2 => ?_⟩
    · rcases List.mem_cons.mp ht with rfl | ht
      · exact ⟨ok1, dd.1, by omega⟩
      · rw [List.mem_singleton.mp ht]
        exact ⟨ok2, dd.2, by omega⟩
    rw [br_op]
    exact k H2 (S1.trans S2)
theorem tm_zero {f : Addr} {fd : FuncData} : FnOk P w K mg base CX0 1 f fd ["term"] (spTTm 0) := by
  have no : ∀ vs H Q E, ¬ spTTm 0 vs H Q E := fun vs H Q E h => by
    obtain ⟨v, t, _, _, _, h1, _⟩ := h
    have := t.depth_pos
    omega
  exact ⟨fun vs H Q E h => absurd h (no vs H Q E), fun A outer s H args us vs Q E _ _ _ _ h => absurd h (no vs H Q E)⟩
theorem ok_term_text {f f2 : Addr} {fd fd2 : FuncData} (F : Fun K "term_text" "term_text" s_term_text f fd) (F2 : Fun K "in_bracket" "in_bracket" s_in_bracket f2 fd2) (B : Bl mg) (X : Tx K mg) (m : mg "term_text" = some (.ref f)) (m2 : mg "in_bracket" = some (.ref f2)) :
    ∀ n : Nat, FnOk P w K mg base CX0 (2 * n + 1) f fd ["term"] (spTTm n)
  | 0 => tm_zero
  | n + 1 => tm_step F B X (Cal.of F2 (ok_in_bracket F2 (Cal.of F (ok_term_text F F2 B X m m2 n) m (fun _ _ _ _ _ _ us hl => by obtain ⟨u0, rfl⟩ := len1 hl; rfl))) m2 (fun _ _ _ _ _ _ us hl => by obtain ⟨u0, u1, rfl⟩ := len2 hl; rfl))
theorem at3 (x y z u : V) (xs : List V) : atI (x :: y :: z :: u :: xs) 3 = some u := atI_nat (j := 3) rfl
theorem sc_l_text : FnScope ["_law_term"] ["_law_term"] (defScope s_l_text) := ⟨rfl, rfl, rfl, by decide +kernel, rfl, by decide +kernel, by decide +kernel⟩
theorem lt_step {n : Nat} {f : Addr} {fd : FuncData} (F : Fun K "_law_text" "_law_text" s_l_text f fd) (B : Bl mg) (C_l_text : Cal P w K mg base (n + 1) "_law_text" ["_law_term"] (spTTm n)) : FnOk P w K mg base CX0 (n + 2) f fd ["_law_term"] (spTTm (n + 1)) := by
  refine F.ok sc_l_text (fun vs H Q E h => ?_) (fun cdv A outer s H vs Q E hr h => ?_)
  · obtain ⟨v, t, rfl, _⟩ := h
    rfl
  obtain ⟨v, t, rfl, T, ok, dn, sz, k⟩ := h
  refine ⟨_, (pss_cons (ps_if (PW.pt (pw_or (pt_cmpR op_eq (pe_ix ix_tup (pv 0) pe_int (fun _ _ => rfl)) pe_str (nomark _)) (pw_or1 (pt_cmpR op_eq (pe_ix ix_tup (pv 0) pe_int (fun _ _ => rfl)) pe_str (nomark _))))) (pss_one (ps_ret (pe_callTy call_strV rfl B.str boot_str' (pa_cons (pe_ix ix_tup (pv 0) pe_int (fun _ _ => rfl)) pa_nil)))) pss_nil)
      (pss_cons (ps_if (pt_cmpR op_eq (pe_ix ix_tup (pv 0) pe_int (fun _ _ => rfl)) pe_str (nomark _)) (pss_one (ps_ret (pe_op op_add_str (pe_op op_add_str (pe_op op_add_str (pe_op op_add_str (pe_op op_add_str (pe_op op_add_str pe_str (pe_ix ix_tup (pv 0) pe_int (fun _ _ => rfl))) pe_str) (pe_cal C_l_text hr (Nat.le_refl _) rfl (pa_cons (pe_ix ix_tup (pv 0) pe_int (fun _ _ => rfl)) pa_nil))) pe_str) (pe_cal C_l_text hr (Nat.le_refl _) rfl (pa_cons (pe_ix ix_tup (pv 0) pe_int (fun _ _ => rfl)) pa_nil))) pe_str))) pss_nil)
      (pss_cons (ps_if (pt_cmpR op_eq (pe_callB call_len_seq rfl B.len PySem.boot_len (pa_cons (pv 0) pa_nil)) pe_int (nomark _)) (pss_one (ps_ret (pe_op op_add_str (pe_op op_add_str (pe_op op_add_str (pe_op op_add_str pe_str (pe_ix ix_tup (pv 0) pe_int (fun _ _ => rfl))) pe_str) (pe_cal C_l_text hr (Nat.le_refl _) rfl (pa_cons (pe_ix ix_tup (pv 0) pe_int (fun _ _ => rfl)) pa_nil))) pe_str))) pss_nil)
      (pss_one (ps_ret (pe_ix ix_tup (pv 0) pe_int (fun _ _ => rfl))))))), ?_⟩
  have l1 : (("(" : Str)).length = 1 := by decide +kernel
  have l2 : ((" " : Str)).length = 1 := by decide +kernel
  have l3 : ((")" : Str)).length = 1 := by decide +kernel
  cases T with
  | @num a m e =>
    refine ⟨_, rfl, a, _, 0, _, rfl, rfl, SqT.of e, at0 .., rfl, _, rfl, ?_⟩
    refine iteD rfl ?_
    refine iteT ?_
    refine ⟨_, rfl, a, _, 1, _, rfl, rfl, SqT.of e, at1 .., .inl ⟨m, rfl, log_small ok.1 ok.2, ?_⟩⟩
    have k' := k H (Same.refl H)
    rw [str_num] at k'
    exact k'
  | @box a x e =>
    refine ⟨_, rfl, a, _, 0, _, rfl, rfl, SqT.of e, at0 .., rfl, _, rfl, ?_⟩
    refine iteDF (ne_str (by decide +kernel)) ?_
    refine ⟨_, rfl, a, _, 0, _, rfl, rfl, SqT.of e, at0 .., rfl, _, rfl, ?_⟩
    refine iteD rfl ?_
    refine ⟨_, rfl, a, _, 1, _, rfl, rfl, SqT.of e, at1 .., .inr ⟨x, rfl, ?_⟩⟩
    have k' := k H (Same.refl H)
    rw [str_box] at k'
    exact k'
  | @plain a x e =>
    obtain ⟨_, _, _, n1, n2, n3⟩ := plain_ok x ok
    refine ⟨_, rfl, a, _, 0, .str x, rfl, rfl, SqT.of e, at0 .., rfl, _, rfl, ?_⟩
    refine iteDF (ne_str n1) ?_
    refine ⟨_, rfl, a, _, 0, .str x, rfl, rfl, SqT.of e, at0 .., rfl, _, rfl, ?_⟩
    refine iteDF (ne_str n2) ?_
    refine ⟨_, rfl, a, _, 0, .str x, rfl, rfl, SqT.of e, at0 .., rfl, _, rfl, ?_⟩
    refine iteDF (ne_str n3) ?_
    refine ⟨_, rfl, a, _, rfl, .inr (SqT.of e), rfl, _, rfl, ?_⟩
    refine iteDF (fun z => by have := V.int.inj z; simp at this) ?_
    have k' := k H (Same.refl H)
    rw [str_plain] at k'
    exact ⟨_, rfl, a, _, 0, .str x, rfl, rfl, SqT.of e, at0 .., k'⟩
  | @ask a x u r e g =>
    obtain ⟨okw, ok1⟩ := ok
    obtain ⟨l4, _, _, n1, n2, n3, n4⟩ := ask_ok x okw
    have dr : r.depth ≤ n := Nat.le_of_succ_le_succ dn
    have sr : r.size + 1 ≤ 40 := sz
    have lr := Tm.str_len (t := r) ok1
    refine ⟨_, rfl, a, _, 0, .str x, rfl, rfl, SqT.of e, at0 .., rfl, _, rfl, ?_⟩
    refine iteDF (ne_str n1) ?_
    refine ⟨_, rfl, a, _, 0, .str x, rfl, rfl, SqT.of e, at0 .., rfl, _, rfl, ?_⟩
    refine iteDF (ne_str n2) ?_
    refine ⟨_, rfl, a, _, 0, .str x, rfl, rfl, SqT.of e, at0 .., rfl, _, rfl, ?_⟩
    refine iteDF (ne_str n3) ?_
    refine ⟨_, rfl, a, _, rfl, .inr (SqT.of e), rfl, _, rfl, ?_⟩
    refine iteD rfl ?_
    refine ⟨_, rfl, a, _, 0, .str x, rfl, rfl, SqT.of e, at0 .., _, _, rfl, rfl, small (by rw [l1]; omega), _, _, rfl, rfl, small (by rw [Str.length_append, l1, l2]; omega), ?_⟩
    refine ⟨_, rfl, a, _, 1, u, rfl, rfl, SqT.of e, at1 .., u, r, rfl, g, ok1, dr, by omega, fun H1 S1 => ?_⟩
    refine ⟨_, _, rfl, rfl, small (by simp only [Str.length_append, l1, l2]; omega), _, _, rfl, rfl, small (by simp only [Str.length_append, l1, l2, l3]; omega), ?_⟩
    rw [law_ask]
    exact k H1 S1
  | @op a x u u2 r r2 e g g2 =>
    obtain ⟨okw, ok1, ok2⟩ := ok
    obtain ⟨l4, _, _⟩ := sign_ok x okw
    have dd : r.depth ≤ n ∧ r2.depth ≤ n := by
      have : max r.depth r2.depth + 1 ≤ n + 1 := dn
      omega
    have sr : r.size + r2.size + 1 ≤ 40 := sz
    have lr := Tm.str_len (t := r) ok1
    have lr2 := Tm.str_len (t := r2) ok2
    refine ⟨_, rfl, a, _, 0, .str "op", rfl, rfl, SqT.of e, at0 .., rfl, _, rfl, ?_⟩
    refine iteDF (ne_str (by decide +kernel)) ?_
    refine ⟨_, rfl, a, _, 0, .str "op", rfl, rfl, SqT.of e, at0 .., rfl, _, rfl, ?_⟩
    refine iteDF (ne_str (by decide +kernel)) ?_
    refine ⟨_, rfl, a, _, 0, .str "op", rfl, rfl, SqT.of e, at0 .., rfl, _, rfl, ?_⟩
    refine iteD rfl ?_
    refine ⟨_, rfl, a, _, 1, .str x, rfl, rfl, SqT.of e, at1 .., _, _, rfl, rfl, small (by rw [l1]; omega), _, _, rfl, rfl, small (by rw [Str.length_append, l1, l2]; omega), ?_⟩
    refine ⟨_, rfl, a, _, 2, u, rfl, rfl, SqT.of e, at2 .., u, r, rfl, g, ok1, dd.1, by omega, fun H1 S1 => ?_⟩
    refine ⟨_, _, rfl, rfl, small (by simp only [Str.length_append, l1, l2]; omega), _, _, rfl, rfl, small (by simp only [Str.length_append, l1, l2]; omega), ?_⟩
    refine ⟨_, rfl, a, _, 3, u2, rfl, rfl, SqT.of (S1 _ _ e), at3 .., u2, r2, rfl, g2.mono (keepT_same S1), ok2, dd.2, by omega, fun H2 S2 => ?_⟩
    refine ⟨_, _, rfl, rfl, small (by simp only [Str.length_append, l1, l2]; omega), _, _, rfl, rfl, small (by simp only [Str.length_append, l1, l2, l3]; omega), ?_⟩
    rw [law_op]
    exact k H2 (S1.trans S2)
theorem lt_zero {f : Addr} {fd : FuncData} : FnOk P w K mg base CX0 1 f fd ["_law_term"] (spTTm 0) := by
  have no : ∀ vs H Q E, ¬ spTTm 0 vs H Q E := fun vs H Q E h => by
    obtain ⟨v, t, _, _, _, h1, _⟩ := h
    have := t.depth_pos
    omega
  exact ⟨fun vs H Q E h => absurd h (no vs H Q E), fun A outer s H args us vs Q E _ _ _ _ h => absurd h (no vs H Q E)⟩
theorem ok_l_text {f : Addr} {fd : FuncData} (F : Fun K "_law_text" "_law_text" s_l_text f fd) (B : Bl mg) (m : mg "_law_text" = some (.ref f)) :
    ∀ n : Nat, FnOk P w K mg base CX0 (n + 1) f fd ["_law_term"] (spTTm n)
  | 0 => lt_zero
  | n + 1 => lt_step F B (Cal.of F (ok_l_text F B m n) m (fun _ _ _ _ _ _ us hl => by obtain ⟨u0, rfl⟩ := len1 hl; rfl))
/-! ### rows as texts -/
def Hr.ws : Hr → List Str
  | .fin => ["end"] | .go n => ["go", numT n] | .iff t n => ["if", t.str, numT n] | .set x t => ["set", x, t.str] | .say t => ["say", t.str]
def Hr.str (r : Hr) : Str := Txt.join (" " : Str) r.ws
theorem str_fin : Hr.fin.str = "end" := by decide +kernel
theorem ws_len {r : Hr} (h : r.ok 20) : r.ws.length ≤ 3 ∧ ∀ z ∈ r.ws, z.length ≤ 280 := by
  have fixed : ∀ z ∈ (["end", "go", "if", "set", "say"] : List Str), z.length ≤ 280 := by decide +kernel
  have ft : ∀ {t : Tm}, t.fit 20 → t.str.length ≤ 280 := fun {t} h => by
    have := Tm.str_len h.1
    have := h.2.1
    omega
  cases r with
  | fin => exact ⟨by decide, fun z hz => fixed z (by rw [List.mem_singleton.mp hz]; decide +kernel)⟩
  | go n =>
    refine ⟨by show 2 ≤ 3; decide, fun z hz => ?_⟩
    rcases List.mem_cons.mp (show z ∈ [("go" : Str), numT n] from hz) with rfl | hz
    · exact fixed _ (by decide +kernel)
    · rw [List.mem_singleton.mp hz]
      have := num_len h.1 h.2
      omega
  | iff t n =>
    refine ⟨by show 3 ≤ 3; decide, fun z hz => ?_⟩
    rcases List.mem_cons.mp (show z ∈ [("if" : Str), t.str, numT n] from hz) with rfl | hz
    · exact fixed _ (by decide +kernel)
    rcases List.mem_cons.mp hz with rfl | hz
    · exact ft h.1
    · rw [List.mem_singleton.mp hz]
      have := num_len h.2.1 h.2.2
      omega
  | set x t =>
    refine ⟨by show 3 ≤ 3; decide, fun z hz => ?_⟩
    rcases List.mem_cons.mp (show z ∈ [("set" : Str), x, t.str] from hz) with rfl | hz
    · exact fixed _ (by decide +kernel)
    rcases List.mem_cons.mp hz with rfl | hz
    · have := h.1.2.2.1
      omega
    · rw [List.mem_singleton.mp hz]
      exact ft h.2
  | say t =>
    refine ⟨by show 2 ≤ 3; decide, fun z hz => ?_⟩
    rcases List.mem_cons.mp (show z ∈ [("say" : Str), t.str] from hz) with rfl | hz
    · exact fixed _ (by decide +kernel)
    · rw [List.mem_singleton.mp hz]
      exact ft h
theorem len_join (sep : Str) (zs : List Str) (h : sep.length = 1) : (Txt.join sep zs).length ≤ (zs.map (·.length)).sum + zs.length := by
  have := size_glued sep zs
  rw [h] at this
  show (Builtin.Str.glued sep zs).length ≤ _
  omega
theorem ws_sum {r : Hr} (h : r.ok 20) : (r.ws.map (·.length)).sum + r.ws.length ≤ 900 := by
  obtain ⟨h1, h2⟩ := ws_len h
  have := sum_le h2
  have : r.ws.length * 280 ≤ 840 := by omega
  omega
theorem Hr.str_len {r : Hr} (h : r.ok 20) : r.str.length ≤ 900 := Nat.le_trans (len_join _ _ (by decide +kernel)) (ws_sum h)
def spRT : Sp := fun vs H Q _ => ∃ (v : V) (r : Hr), vs = [v] ∧ HrAt H v r ∧ r.ok 20 ∧ ∀ H', Same H H' → Q (.str r.str) H'
theorem sc_row_text : FnScope ["row", "word"] ["row"] (defScope s_row_text) := ⟨rfl, rfl, rfl, by decide +kernel, rfl, by decide +kernel, by decide +kernel⟩
theorem ok_row_text {f : Addr} {fd : FuncData} (F : Fun K "row_text" "row_text" s_row_text f fd) (B : Bl mg) (C_term_text : Cal P w K mg base 17 "term_text" ["term"] (spTTm 8)) : FnOk P w K mg base CX0 18 f fd ["row"] spRT := by
  refine F.ok sc_row_text (fun vs H Q E h => ?_) (fun cdv A outer s H vs Q E hr h => ?_)
  · obtain ⟨v, r, rfl, _⟩ := h
    rfl
  obtain ⟨v, r, rfl, T, ok, k⟩ := h
  refine ⟨_, (pss_cons (ps_set (i := 1) sc_row_text.nd rfl (Or.inl rfl) (pe_ix ix_tup (pv 0) pe_int (fun _ _ => rfl)))
      (pss_cons (ps_if (pt_cmpR op_eq (pv 1) pe_str (nomark _)) (pss_one (ps_ret (pe_bm PySem.F.plainAttrs_str PySem.F.slot_str_join PySem.F.type_str_join mt_join pe_str (pa_cons (pe_lst (pa_cons (pv 1) (pa_cons (pe_ix ix_tup (pv 0) pe_int (fun _ _ => rfl)) (pa_cons (pe_cal C_term_text hr (by decide) rfl (pa_cons (pe_ix ix_tup (pv 0) pe_int (fun _ _ => rfl)) pa_nil)) pa_nil)))) pa_nil)))) pss_nil)
      (pss_cons (ps_if (pt_cmpR op_eq (pv 1) pe_str (nomark _)) (pss_one (ps_ret (pe_bm PySem.F.plainAttrs_str PySem.F.slot_str_join PySem.F.type_str_join mt_join pe_str (pa_cons (pe_lst (pa_cons (pv 1) (pa_cons (pe_cal C_term_text hr (by decide) rfl (pa_cons (pe_ix ix_tup (pv 0) pe_int (fun _ _ => rfl)) pa_nil)) pa_nil))) pa_nil)))) pss_nil)
      (pss_cons (ps_if (pt_cmpR op_eq (pv 1) pe_str (nomark _)) (pss_one (ps_ret (pe_bm PySem.F.plainAttrs_str PySem.F.slot_str_join PySem.F.type_str_join mt_join pe_str (pa_cons (pe_lst (pa_cons (pv 1) (pa_cons (pe_cal C_term_text hr (by decide) rfl (pa_cons (pe_ix ix_tup (pv 0) pe_int (fun _ _ => rfl)) pa_nil)) (pa_cons (pe_callTy call_str_int rfl B.str boot_str' (pa_cons (pe_ix ix_tup (pv 0) pe_int (fun _ _ => rfl)) pa_nil)) pa_nil)))) pa_nil)))) pss_nil)
      (pss_cons (ps_if (pt_cmpR op_eq (pv 1) pe_str (nomark _)) (pss_one (ps_ret (pe_bm PySem.F.plainAttrs_str PySem.F.slot_str_join PySem.F.type_str_join mt_join pe_str (pa_cons (pe_lst (pa_cons (pv 1) (pa_cons (pe_callTy call_str_int rfl B.str boot_str' (pa_cons (pe_ix ix_tup (pv 0) pe_int (fun _ _ => rfl)) pa_nil)) pa_nil))) pa_nil)))) pss_nil)
      (pss_one (ps_ret (pv 1)))))))), ?_⟩
  have l2 : ((" " : Str)).length ≤ 16 := by decide +kernel
  have big : ∀ {m : Nat}, m ≤ 900 → m ≤ 1048576 := fun h => Nat.le_trans h (by decide)
  have wsum := ws_sum ok
  cases T with
  | @fin a e =>
    refine ⟨_, rfl, a, _, 0, .str "end", rfl, rfl, SqT.of e, at0 .., ?_⟩
    refine ⟨_, rfl, rfl, _, rfl, ?_⟩
    refine iteDF (ne_str (by decide +kernel)) ?_
    refine ⟨_, rfl, rfl, _, rfl, ?_⟩
    refine iteDF (ne_str (by decide +kernel)) ?_
    refine ⟨_, rfl, rfl, _, rfl, ?_⟩
    refine iteDF (ne_str (by decide +kernel)) ?_
    refine ⟨_, rfl, rfl, _, rfl, ?_⟩
    refine iteDF (ne_str (by decide +kernel)) ?_
    have k' := k H (Same.refl H)
    rw [str_fin] at k'
    exact ⟨_, rfl, k'⟩
  | @go a n e =>
    refine ⟨_, rfl, a, _, 0, .str "go", rfl, rfl, SqT.of e, at0 .., ?_⟩
    refine ⟨_, rfl, rfl, _, rfl, ?_⟩
    refine iteDF (ne_str (by decide +kernel)) ?_
    refine ⟨_, rfl, rfl, _, rfl, ?_⟩
    refine iteDF (ne_str (by decide +kernel)) ?_
    refine ⟨_, rfl, rfl, _, rfl, ?_⟩
    refine iteDF (ne_str (by decide +kernel)) ?_
    refine ⟨_, rfl, rfl, _, rfl, ?_⟩
    refine iteD rfl ?_
    refine ⟨rfl, _, rfl, _, rfl, a, _, 1, _, rfl, rfl, SqT.of e, at1 .., n, rfl, log_small ok.1 ok.2, (by show 2 ≤ sizeLine; decide), fun L hL => ?_⟩
    have eL : upd H L (.lst [.str "go", .str (toString n)]) L = some (.lst ((Hr.go n).ws.map V.str)) := upd_same
    exact ⟨_, L, _, rfl, rfl, SqL.of eL, l2, big wsum, k _ (Same.new hL _)⟩
  | @iff a v t n e g =>
    refine ⟨_, rfl, a, _, 0, .str "if", rfl, rfl, SqT.of e, at0 .., ?_⟩
    refine ⟨_, rfl, rfl, _, rfl, ?_⟩
    refine iteDF (ne_str (by decide +kernel)) ?_
    refine ⟨_, rfl, rfl, _, rfl, ?_⟩
    refine iteDF (ne_str (by decide +kernel)) ?_
    refine ⟨_, rfl, rfl, _, rfl, ?_⟩
    refine iteD rfl ?_
    refine ⟨rfl, _, rfl, _, rfl, a, _, 1, _, rfl, rfl, SqT.of e, at1 .., v, t, rfl, g, ok.1.1, ok.1.2.2, by have := ok.1.2.1; omega, fun H1 S1 => ?_⟩
    refine ⟨_, rfl, a, _, 2, _, rfl, rfl, SqT.of (S1 _ _ e), at2 .., n, rfl, log_small ok.2.1 ok.2.2, (by show 3 ≤ sizeLine; decide), fun L hL => ?_⟩
    have eL : upd H1 L (.lst [.str "if", .str t.str, .str (toString n)]) L = some (.lst ((Hr.iff t n).ws.map V.str)) := upd_same
    exact ⟨_, L, _, rfl, rfl, SqL.of eL, l2, big wsum, k _ (S1.trans (Same.new hL _))⟩
  | @set a x v t e g =>
    refine ⟨_, rfl, a, _, 0, .str "set", rfl, rfl, SqT.of e, at0 .., ?_⟩
    refine ⟨_, rfl, rfl, _, rfl, ?_⟩
    refine iteD rfl ?_
    refine ⟨rfl, _, rfl, _, rfl, a, _, 1, .str x, rfl, rfl, SqT.of e, at1 .., _, rfl, a, _, 2, v, rfl, rfl, SqT.of e, at2 .., v, t, rfl, g, ok.2.1, ok.2.2.2, by have := ok.2.2.1; omega, fun H1 S1 => ?_⟩
    refine ⟨(by show 3 ≤ sizeLine; decide), fun L hL => ?_⟩
    have eL : upd H1 L (.lst [.str "set", .str x, .str t.str]) L = some (.lst ((Hr.set x t).ws.map V.str)) := upd_same
    exact ⟨_, L, _, rfl, rfl, SqL.of eL, l2, big wsum, k _ (S1.trans (Same.new hL _))⟩
  | @say a v t e g =>
    refine ⟨_, rfl, a, _, 0, .str "say", rfl, rfl, SqT.of e, at0 .., ?_⟩
    refine ⟨_, rfl, rfl, _, rfl, ?_⟩
    refine iteDF (ne_str (by decide +kernel)) ?_
    refine ⟨_, rfl, rfl, _, rfl, ?_⟩
    refine iteD rfl ?_
    refine ⟨rfl, _, rfl, _, rfl, a, _, 1, v, rfl, rfl, SqT.of e, at1 .., v, t, rfl, g, ok.1, ok.2.2, by have := ok.2.1; omega, fun H1 S1 => ?_⟩
    refine ⟨(by show 2 ≤ sizeLine; decide), fun L hL => ?_⟩
    have eL : upd H1 L (.lst [.str "say", .str t.str]) L = some (.lst ((Hr.say t).ws.map V.str)) := upd_same
    exact ⟨_, L, _, rfl, rfl, SqL.of eL, l2, big wsum, k _ (S1.trans (Same.new hL _))⟩
theorem kit_int_tup (K : PySem.W.Frag) : PySem.W.kitOne K (.type "int") (.type "tuple") = some false := by
  show (if ((Value.type "int" == Value.type "tuple") = true) then some true else if PySem.W.kitMeta "tuple" = true then ((fastBuiltinMro "int").map (·.contains (.type "tuple"))) else none) = some false
  decide +kernel
theorem kit_str_tup (K : PySem.W.Frag) : PySem.W.kitOne K (.type "str") (.type "tuple") = some false := by
  show (if ((Value.type "str" == Value.type "tuple") = true) then some true else if PySem.W.kitMeta "tuple" = true then ((fastBuiltinMro "str").map (·.contains (.type "tuple"))) else none) = some false
  decide +kernel
theorem kit_str_int (K : PySem.W.Frag) : PySem.W.kitOne K (.type "str") (.type "int") = some false := by
  show (if ((Value.type "str" == Value.type "int") = true) then some true else if PySem.W.kitMeta "int" = true then ((fastBuiltinMro "str").map (·.contains (.type "int"))) else none) = some false
  decide +kernel
theorem kit_str_bool (K : PySem.W.Frag) : PySem.W.kitOne K (.type "str") (.type "bool") = some false := by
  show (if ((Value.type "str" == Value.type "bool") = true) then some true else if PySem.W.kitMeta "bool" = true then ((fastBuiltinMro "str").map (·.contains (.type "bool"))) else none) = some false
  decide +kernel
/-- a piece of a row, and its text -/
def PtAt (H : Hp) (v : V) (z : Str) : Prop := (∃ (a : Addr) (xs : List V) (t : Tm), v = .ref a ∧ H a = some (.tup xs) ∧ TmAt H v t ∧ t.fit 20 ∧ z = t.str) ∨ (∃ n : Int, v = .int n ∧ 0 ≤ n ∧ n < 1000000000000 ∧ z = numT n) ∨ (v = .str z)
theorem TmAt.is_tup {H : Hp} {v : V} {t : Tm} (h : TmAt H v t) : ∃ (a : Addr) (xs : List V), v = .ref a ∧ H a = some (.tup xs) := by
  cases h with
  | num e => exact ⟨_, _, rfl, e⟩
  | box e => exact ⟨_, _, rfl, e⟩
  | plain e => exact ⟨_, _, rfl, e⟩
  | ask e _ => exact ⟨_, _, rfl, e⟩
  | op e _ _ => exact ⟨_, _, rfl, e⟩
theorem PtAt.tm {H : Hp} {v : V} {t : Tm} (h : TmAt H v t) (f : t.fit 20) : PtAt H v t.str := by
  obtain ⟨a, xs, e, h'⟩ := h.is_tup
  exact .inl ⟨a, xs, t, e, h', h, f, rfl⟩
theorem PtAt.mono {H H' : Hp} (k : KeepT H H') {v : V} {z : Str} (h : PtAt H v z) : PtAt H' v z := by
  rcases h with ⟨a, xs, t, e, h1, h2, h3, h4⟩ | h | h
  · exact .inl ⟨a, xs, t, e, k _ _ h1, h2.mono k, h3, h4⟩
  · exact .inr (.inl h)
  · exact .inr (.inr h)
theorem HrAt.parts {H : Hp} {v : V} {r : Hr} (h : HrAt H v r) (ok : r.ok 20) : ∃ (a : Addr) (wd : Str) (tv : List V) (zs : List Str), v = .ref a ∧ H a = some (.tup (.str wd :: tv)) ∧ r.ws = wd :: zs ∧ tv.length = zs.length ∧ tv.length ≤ 2 ∧ ∀ (i : Nat) (u : V) (z : Str), tv[i]? = some u → zs[i]? = some z → PtAt H u z := by
  have one : ∀ {x : V} {y : Str}, PtAt H x y → ∀ (i : Nat) (u : V) (z : Str), [x][i]? = some u → [y][i]? = some z → PtAt H u z := fun {x y} h i u z hu hz => by
    match i, hu, hz with
    | 0, hu, hz => cases hu; cases hz; exact h
    | i + 1, hu, _ => simp at hu
  have two : ∀ {x x2 : V} {y y2 : Str}, PtAt H x y → PtAt H x2 y2 → ∀ (i : Nat) (u : V) (z : Str), [x, x2][i]? = some u → [y, y2][i]? = some z → PtAt H u z := fun {x x2 y y2} h h2 i u z hu hz => by
    match i, hu, hz with
    | 0, hu, hz => cases hu; cases hz; exact h
    | 1, hu, hz => cases hu; cases hz; exact h2
    | i + 2, hu, _ => simp at hu
  cases h with
  | @fin a e => exact ⟨a, "end", [], [], rfl, e, rfl, rfl, by simp, fun i u z hu => by simp at hu⟩
  | @go a n e => exact ⟨a, "go", [.int n], [numT n], rfl, e, rfl, rfl, by simp, one (.inr (.inl ⟨n, rfl, ok.1, ok.2, rfl⟩))⟩
  | @iff a u t n e g => exact ⟨a, "if", [u, .int n], [t.str, numT n], rfl, e, rfl, rfl, by simp, two (PtAt.tm g ok.1) (.inr (.inl ⟨n, rfl, ok.2.1, ok.2.2, rfl⟩))⟩
  | @set a x u t e g => exact ⟨a, "set", [.str x, u], [x, t.str], rfl, e, rfl, rfl, by simp, two (.inr (.inr rfl)) (PtAt.tm g ok.2)⟩
  | @say a u t e g => exact ⟨a, "say", [u], [t.str], rfl, e, rfl, rfl, by simp, one (PtAt.tm g ok)⟩
theorem keepT_lst {H : Hp} {b : Addr} {ys zs : List V} (h : H b = some (.lst ys)) : KeepT H (upd H b (.lst zs)) := fun a xs e => by
  rw [upd_ne (fun z => by rw [z, h] at e; cases e)]
  exact e
theorem sc_l_line : FnScope ["_law_row", "_law_words", "_law_part"] ["_law_row"] (defScope s_l_line) := ⟨rfl, rfl, rfl, by decide +kernel, rfl, by decide +kernel, by decide +kernel⟩
theorem ok_l_line {f : Addr} {fd : FuncData} (F : Fun K "_law_line" "_law_line" s_l_line f fd) (B : Bl mg) (C_l_text : Cal P w K mg base 9 "_law_text" ["_law_term"] (spTTm 8)) : FnOk P w K mg base CX0 10 f fd ["_law_row"] spRT := by
  refine F.ok sc_l_line (fun vs H Q E h => ?_) (fun cdv A outer s H vs Q E hr h => ?_)
  · obtain ⟨v, r, rfl, _⟩ := h
    rfl
  obtain ⟨v, r, rfl, T, ok, k⟩ := h
  refine ⟨_, (pss_cons (ps_set (i := 1) sc_l_line.nd rfl (Or.inl rfl) (pe_lst (pa_cons (pe_ix ix_tup (pv 0) pe_int (fun _ _ => rfl)) pa_nil)))
      (pss_cons (ps_for PassesOwn.never rfl (pi_tup (pe_slice sl_tupA (pv 0) (po_some pe_int) po_none)) (pg_name (i := 2) sc_l_line.nd rfl (Or.inl rfl)) (pss_one (ps_expr (pe_bm PySem.F.plainAttrs_list PySem.F.slot_list_append PySem.F.type_list_append mt_append (pv 1) (pa_cons (pe_ifExp (pt_val (pe_callB call_isinst rfl B.isinstance PyProof.Rows.boot_isinstance (pa_cons (pv 2) (pa_cons (pe_bltn (v := V.ty "tuple") rfl B.tuple boot_tuple' rfl) pa_nil)))) (pe_cal C_l_text hr (by decide) rfl (pa_cons (pv 2) pa_nil)) (pe_callTy call_strV rfl B.str boot_str' (pa_cons (pv 2) pa_nil))) pa_nil)))))
      (pss_one (ps_ret (pe_bm PySem.F.plainAttrs_str PySem.F.slot_str_join PySem.F.type_str_join mt_join pe_str (pa_cons (pv 1) pa_nil)))))), ?_⟩
  obtain ⟨a, wd, tv, zs, rfl, e, ews, tz, t2, pts⟩ := T.parts ok
  refine ⟨_, rfl, a, _, 0, .str wd, rfl, rfl, SqT.of e, at0 .., (by show 1 ≤ sizeLine; decide), fun L hL => ?_⟩
  have GL := Same.new hL (.lst [.str wd])
  have eL : upd H L (.lst [.str wd]) L = some (.lst [.str wd]) := upd_same
  generalize upd H L (.lst [.str wd]) = H1 at GL eL
  refine ⟨_, rfl, 1, rfl, a, _, rfl, SqT.of (GL _ _ e), GL _ _ e, fun p H2 S2 ep => ?_⟩
  rw [ct1] at ep
  have eL2 := S2 _ _ eL
  have S02 := GL.trans S2
  have pL : p ≠ L := fun z => by rw [z, eL2] at ep; cases ep
  refine ⟨p, rfl, ⟨_, SqT.of ep⟩, for_tup (K := K) (xs := tv) (fun i σ H' => ∃ x2 : Option V, σ = [some (.ref a), some (.ref L), x2] ∧ H' L = some (.lst ((wd :: zs.take i).map V.str)) ∧ SameBut L H2 H') ⟨_, rfl, eL2, SameBut.refl _ _⟩ (fun i σ H' _ hst => by obtain ⟨_, _, _, h⟩ := hst; exact SqT.of (h _ _ pL ep)) ?_ ?_⟩
  · rintro i u σ H3 hu ⟨x2, rfl, hL3, B3⟩
    have hi := (List.getElem?_eq_some_iff.mp hu).1
    have hz : zs[i]? = some (zs[i]'(by omega)) := List.getElem?_eq_getElem (by omega)
    have k3 : KeepT H H3 := fun c xs h => B3 _ _ (ne_of_none h hL) (S02 _ _ h)
    have pt := (pts i u _ hu hz).mono k3
    have fin : ∀ H4, Same H3 H4 → (∃ l xs y, V.ref L = .ref l ∧ [V.str (zs[i]'(by omega))] = [y] ∧ H4 l = some (.lst xs) ∧ xs.length < sizeLine ∧ (∃ x2 : Option V, [some (V.ref a), some (V.ref L), some u] = [some (.ref a), some (.ref L), x2] ∧ upd H4 l (.lst (xs ++ [y])) L = some (.lst ((wd :: zs.take (i + 1)).map V.str)) ∧ SameBut L H2 (upd H4 l (.lst (xs ++ [y]))))) := fun H4 S4 => by
      refine ⟨L, _, _, rfl, rfl, S4 _ _ hL3, small1000 (by rw [List.length_map, List.length_cons, List.length_take]; omega), _, rfl, ?_, fun b o hb eb => ?_⟩
      · rw [upd_same, show wd :: zs.take (i + 1) = (wd :: zs.take i) ++ [zs[i]'(by omega)] from by rw [List.take_add_one, hz]; rfl, List.map_append]
        rfl
      · rw [upd_ne hb]
        exact S4 _ _ (B3 b o hb eb)
    rcases pt with ⟨c, xs, t, rfl, hc, ht, tf, ez⟩ | ⟨n, rfl, n0, n1, ez⟩ | rfl
    · refine ⟨_, rfl, .inl ⟨rfl, _, SqL.of hL3⟩, _, rfl, _, _, "tuple", true, rfl, TyOf.tup hc, kit_self _ _, _, rfl, ?_⟩
      refine iteT ?_
      refine ⟨_, rfl, _, t, rfl, ht, tf.1, tf.2.2, by have := tf.2.1; omega, fun H4 S4 => ?_⟩
      rw [← ez]
      exact fin H4 S4
    · refine ⟨_, rfl, .inl ⟨rfl, _, SqL.of hL3⟩, _, rfl, _, _, "tuple", false, rfl, TyOf.int _, kit_int_tup _, _, rfl, ?_⟩
      refine iteF ?_
      refine ⟨_, rfl, .inl ⟨n, rfl, log_small n0 n1, ?_⟩⟩
      rw [str_is, ← ez]
      exact fin H3 (Same.refl _)
    · refine ⟨_, rfl, .inl ⟨rfl, _, SqL.of hL3⟩, _, rfl, _, _, "tuple", false, rfl, TyOf.str _, kit_str_tup _, _, rfl, ?_⟩
      refine iteF ?_
      refine ⟨_, rfl, .inr ⟨_, rfl, ?_⟩⟩
      exact fin H3 (Same.refl _)
  · rintro σ H3 ⟨x2, rfl, hL3, B3⟩
    rw [tz, List.take_length, ← ews] at hL3
    refine ⟨rfl, _, rfl, _, L, _, rfl, rfl, SqL.of hL3, (by decide +kernel), Nat.le_trans (ws_sum ok) (by decide), ?_⟩
    exact k H3 fun b o h => B3 _ _ (ne_of_none h hL) (S02 _ _ h)
def RsAt (H : Hp) (tv : List V) (rs : List Hr) : Prop := tv.length = rs.length ∧ ∀ (i : Nat) (v : V) (r : Hr), tv[i]? = some v → rs[i]? = some r → HrAt H v r
theorem RsAt.mono {H H' : Hp} {tv : List V} {rs : List Hr} (h : RsAt H tv rs) (k : KeepT H H') : RsAt H' tv rs := ⟨h.1, fun i v r hv hr => (h.2 i v r hv hr).mono k⟩
theorem RsAt.nil {H : Hp} : RsAt H [] [] := ⟨rfl, fun i v r h => by simp at h⟩
theorem RsAt.snoc {H : Hp} {tv : List V} {rs : List Hr} {v : V} {r : Hr} (h : RsAt H tv rs) (a : HrAt H v r) : RsAt H (tv ++ [v]) (rs ++ [r]) := by
  refine ⟨by rw [List.length_append, List.length_append, h.1]; rfl, fun i u s hu hs => ?_⟩
  have hl := h.1
  by_cases c : i < tv.length
  · rw [List.getElem?_append_left c] at hu
    rw [List.getElem?_append_left (by omega)] at hs
    exact h.2 i u s hu hs
  · rw [List.getElem?_append_right (by omega)] at hu
    rw [List.getElem?_append_right (by omega)] at hs
    have e1 : i - tv.length = 0 := by
      have := (List.getElem?_eq_some_iff.mp hu).1
      rw [List.length_singleton] at this
      omega
    have e2 : i - rs.length = 0 := by omega
    rw [e1] at hu
    rw [e2] at hs
    cases hu
    cases hs
    exact a
def GoodR (rs : List Hr) : Prop := rs.length ≤ 60 ∧ ∀ r ∈ rs, r.ok 20
def helpT (rs : List Hr) : Str := Txt.join ("\n" : Str) (rs.map Hr.str)
theorem help_sum {rs : List Hr} (g : GoodR rs) : ((rs.map Hr.str).map (·.length)).sum + (rs.map Hr.str).length ≤ 60000 := by
  have := sum_le (l := rs.map Hr.str) (b := 900) fun p hp => by
    obtain ⟨r, hr, rfl⟩ := List.mem_map.mp hp
    exact Hr.str_len (g.2 r hr)
  rw [List.length_map] at this ⊢
  have h1 := g.1
  have : rs.length * 900 ≤ 60 * 900 := Nat.mul_le_mul_right _ h1
  omega
theorem help_len {rs : List Hr} (g : GoodR rs) : (helpT rs).length ≤ 60000 := Nat.le_trans (len_join _ _ (by decide +kernel)) (help_sum g)
def spHT : Sp := fun vs H Q _ => ∃ (a : Addr) (tv : List V) (rs : List Hr), vs = [.ref a] ∧ H a = some (.tup tv) ∧ RsAt H tv rs ∧ GoodR rs ∧ ∀ H', Same H H' → Q (.str (helpT rs)) H'
theorem sc_helper_text : FnScope ["helper"] ["helper"] (defScope s_helper_text) := ⟨rfl, rfl, rfl, by decide +kernel, rfl, by decide +kernel, by decide +kernel⟩
theorem ok_helper_text {f : Addr} {fd : FuncData} (F : Fun K "helper_text" "helper_text" s_helper_text f fd) (C_row_text : Cal P w K mg base 18 "row_text" ["row"] spRT) : FnOk P w K mg base CX0 19 f fd ["helper"] spHT := by
  refine F.ok sc_helper_text (fun vs H Q E h => ?_) (fun cdv A outer s H vs Q E hr h => ?_)
  · obtain ⟨a, tv, rs, rfl, _⟩ := h
    rfl
  obtain ⟨a, tv, rs, rfl, ha, RA, gr, k⟩ := h
  refine ⟨_, (pss_one (ps_ret (pe_bm PySem.F.plainAttrs_str PySem.F.slot_str_join PySem.F.type_str_join mt_join pe_str (pa_cons (pe_comp (N := []) (ix := []) (cl := []) rfl (CompScope.closed (by with_unfolding_all rfl) (by decide) rfl (by decide) rfl (by with_unfolding_all rfl)) rfl (pi_tup (pv 0))
          (fun _ _ _ => pb_all (pe_cal C_row_text hr (by decide) rfl (pa_cons (pv 0) pa_nil)))) pa_nil)))), ?_⟩
  have rl := RA.1
  have r60 := gr.1
  refine ⟨rfl, _, rfl, a, rfl, ⟨_, SqT.of ha⟩, fun D hD => ?_⟩
  refine comp_tup (K := K) (xs := tv) (fun i H' => H' D = some (.lst (((rs.take i).map Hr.str).map V.str)) ∧ Same H H') ⟨by rw [upd_same]; rfl, Same.new hD _⟩ (fun i H' _ h => SqT.of (h.2 _ _ ha)) ?_ ?_
  · rintro i z H2 hz ⟨hD2, S2⟩
    have hi := (List.getElem?_eq_some_iff.mp hz).1
    have ht : rs[i]? = some (rs[i]'(by omega)) := List.getElem?_eq_getElem (by omega)
    refine ⟨_, rfl, z, _, rfl, (RA.2 i z _ hz ht).mono (keepT_same S2), gr.2 _ (List.mem_of_getElem? ht), fun H3 S3 => ?_⟩
    refine ⟨_, S3 _ _ hD2, ?_, Nx.of hi ⟨?_, fun b' o' e' => ?_⟩⟩
    · rw [List.length_map, List.length_map, List.length_take]
      exact small1000 (by omega)
    · rw [upd_same, List.take_add_one, ht, List.map_append, List.map_append]
      rfl
    · rw [upd_ne (ne_of_none e' hD)]
      exact S3 _ _ (S2 _ _ e')
  rintro H2 ⟨hD2, S2⟩
  rw [rl, List.take_length] at hD2
  exact ⟨_, D, _, rfl, rfl, SqL.of hD2, (by decide +kernel), Nat.le_trans (help_sum gr) (by decide), k H2 S2⟩
def spAnyH : Sp := fun vs H Q _ => ∃ (f b : Addr) (bs : List Str), vs = [.ref f, .ref b] ∧ FeedAt H f ∧ H b = some (.lst (bs.map V.str)) ∧ b ≠ f ∧ Boxes bs ∧
  ∀ (a : Addr) (tv : List V) (rs : List Hr) (H' : Hp), H' a = some (.tup tv) → RsAt H' tv rs → GoodR rs → FeedAt H' f → SameBut f H H' → Q (.ref a) H'
theorem sc_l_any_helper : FnScope ["_law_feed_here", "_law_boxes", "_law_many"] ["_law_feed_here", "_law_boxes"] (defScope s_l_any_helper) := ⟨rfl, rfl, rfl, by decide +kernel, rfl, by decide +kernel, by decide +kernel⟩
theorem ok_l_any_helper {f : Addr} {fd : FuncData} (F : Fun K "_law_any_helper" "_law_any_helper" s_l_any_helper f fd) (B : Bl mg) (C_l_take : Cal P w K mg base 1 "_law_take" ["_law_feed_here", "_law_many"] spTake) (C_l_any_row : Cal P w K mg base 12 "_law_any_row" ["_law_feed_here", "_law_boxes", "_law_room"] spRow) : FnOk P w K mg base CX0 13 f fd ["_law_feed_here", "_law_boxes"] spAnyH := by
  refine F.ok sc_l_any_helper (fun vs H Q E h => ?_) (fun cdv A outer s H vs Q E hr h => ?_)
  · obtain ⟨f, b, bs, rfl, _⟩ := h
    rfl
  obtain ⟨f, b, bs, rfl, F0, hb, nb, bx, q⟩ := h
  refine ⟨_, (pss_cons (ps_set (i := 2) sc_l_any_helper.nd rfl (Or.inl rfl) (pe_ix ix_list (pe_lst (pa_cons (pe_cal C_l_take hr (by decide) rfl (pa_cons (pv 0) (pa_cons pe_int pa_nil))) (pa_cons (pe_cal C_l_take hr (by decide) rfl (pa_cons (pv 0) (pa_cons pe_int pa_nil))) pa_nil))) (pe_op op_fdivL (pe_cal C_l_take hr (by decide) rfl (pa_cons (pv 0) (pa_cons pe_int pa_nil))) pe_int) (fun _ _ => rfl)))
      (pss_one (ps_ret (pe_callTy call_tuple_of rfl B.tuple boot_tuple' (pa_cons (pe_comp (N := ["_law_feed_here", "_law_boxes"]) (ix := [0, 1]) rfl
          (CompScope.two (by with_unfolding_all rfl) (by decide) rfl (by decide) rfl (by decide +kernel) (by first | exact Or.inl rfl | exact Or.inr rfl) (by with_unfolding_all rfl) (by with_unfolding_all rfl) (by with_unfolding_all rfl) (by with_unfolding_all rfl) rfl rfl (by with_unfolding_all rfl) rfl rfl) rfl
          (pi_range1 rfl B.range (pa_cons (pv 2) pa_nil))
          (fun _ _ _ => pb_all (pe_cal C_l_any_row hr (by decide) rfl (pa_cons (pv 1) (pa_cons (pv 2) (pa_cons pe_int pa_nil)))))) pa_nil))))), ?_⟩
  refine ⟨_, rfl, f, 9, rfl, F0, by decide, by decide, fun d1 H1 a0 a1 F1 B1 => ?_⟩
  refine ⟨_, rfl, f, 61, rfl, F1, by decide, by decide, fun d2 H2 b0 b1 F2 B2 => ?_⟩
  refine ⟨(by show 2 ≤ sizeLine; decide), fun L hL => ?_⟩
  have GL := Same.new hL (.lst ([d1, d2].map V.int))
  have eL : upd H2 L (.lst ([d1, d2].map V.int)) L = some (.lst ([d1, d2].map V.int)) := upd_same
  have Lf := F2.ne hL
  refine ⟨_, rfl, f, 8, rfl, F2.same GL, by decide, by decide, fun d3 H3 c0 c1 F3 B3 => ?_⟩
  obtain ⟨m, hm, mm⟩ := atI_mem (ns := [d1, d2]) (k := d3 / 7) (by omega) (by show d3 / 7 < 2; omega)
  have mr : 0 ≤ m ∧ m ≤ 60 := by
    simp only [List.mem_cons, List.not_mem_nil, or_false] at mm
    omega
  have B13 : SameBut f H H3 := B1.trans (B2.trans ((SameBut.of GL).trans B3))
  refine ⟨_, _, rfl, rfl, ⟨by decide, by decide⟩, L, _, _, _, rfl, rfl, SqL.of (B3 _ _ Lf eL), hm, ?_⟩
  refine ⟨_, rfl, m, rfl, by omega, by omega, fun D hD => ?_⟩
  have Df := F3.ne hD
  have D0 : H D = none := by
    cases e : H D with
    | none => rfl
    | some o => rw [B13 D o Df e] at hD; cases hD
  have bD : b ≠ D := ne_of_none hb D0
  refine comp_range (n := m.toNat) (fun i H' => ∃ (tv : List V) (rs : List Hr), H' D = some (.lst tv) ∧ RsAt H' tv rs ∧ rs.length = i ∧ (∀ r ∈ rs, r.ok 20) ∧ FeedAt H' f ∧ SameBut f H H') ⟨[], [], upd_same, RsAt.nil, rfl, (fun r hr => by cases hr), F3.same (Same.new hD _), SameBut.new B13 hD⟩ ?_ ?_
  · rintro i H4 hi ⟨tv, rs, hD4, R4, rl, rk, F4, B4⟩
    refine ⟨_, rfl, _, rfl, f, b, bs, 20, rfl, F4, B4 _ _ nb hb, nb, bx, by decide, by decide, fun v r H5 hv hk F5 B5 => ?_⟩
    have hD5 := B5 _ _ Df hD4
    have k5 : KeepT H5 (upd H5 D (.lst (tv ++ [v]))) := keepT_lst hD5
    have tvl := R4.1
    refine ⟨_, hD5, small1000 (by omega), Nx.of hi ⟨tv ++ [v], rs ++ [r], upd_same, ((R4.mono (keepT_feed F4 B5)).mono k5).snoc (hv.mono k5), ?_, ?_, feed_upd F5 Df, fun c o hc e => ?_⟩⟩
    · rw [List.length_append, List.length_singleton, rl]
    · intro r' hr'
      rcases List.mem_append.mp hr' with h | h
      · exact rk r' h
      · rw [List.mem_singleton.mp h]
        exact hk
    · rw [upd_ne (ne_of_none e D0)]
      exact B5 c o hc (B4 c o hc e)
  rintro H4 ⟨tv, rs, hD4, R4, rl, rk, F4, B4⟩
  refine ⟨D, _, rfl, .inl ⟨SqL.of hD4, fun t ht => ?_⟩⟩
  have G := Same.new ht (.tup tv)
  exact q t tv rs _ upd_same (R4.mono (keepT_same G)) ⟨by omega, rk⟩ (F4.same G) (SameBut.new B4 ht)
abbrev s_scan : Stmt := top 5
abbrev s_sinit : Stmt := inClass s_scan 0
abbrev s_senter : Stmt := inClass s_scan 1
abbrev s_ssees : Stmt := inClass s_scan 2
abbrev s_stake : Stmt := inClass s_scan 3
abbrev s_sword : Stmt := inClass s_scan 4
abbrev s_sfinish : Stmt := inClass s_scan 5
structure STxt (K : PySem.W.Frag) (mg : Str → Option Value) (C : Addr) : Prop where
  cl : Cls K C
  nX : NoAttr K C "text"
  nR : NoAttr K C "row"
  nW : NoAttr K C "most_within"
  nP : NoAttr K C "most_parts"
  nL : NoAttr K C "place"
  nN : NoAttr K C "parts"
  mgC : mg "Scan" = some (.ref C)
theorem putF_has (f : Str) (v : V) : ∀ (fs : List (Str × V)) (u : V), fs.lookup f = some u → (putF f v fs).length = fs.length
  | [], u, h => by cases h
  | (g, x) :: r, u, h => by
    unfold putF
    by_cases e : g = f
    · rw [if_pos e]
      rfl
    · rw [if_neg e]
      have e' : (f == g) = false := by simpa using fun z => e z.symm
      simp only [List.lookup, e'] at h
      rw [List.length_cons, List.length_cons, putF_has f v r u h]
theorem putF_len (f : Str) (v : V) : ∀ fs : List (Str × V), (putF f v fs).length ≤ fs.length + 1
  | [] => Nat.le_refl _
  | (g, u) :: r => by
    have := putF_len f v r
    unfold putF
    split
    · simp
    · simp only [List.length_cons]
      omega
structure SF (T : Str) (p n : Nat) (fs : List (Str × V)) : Prop where
  text : fs.lookup ("text" : Str) = some (.str T)
  mw : fs.lookup ("most_within" : Str) = some (.int 8)
  mp : fs.lookup ("most_parts" : Str) = some (.int 20)
  place : fs.lookup ("place" : Str) = some (.int (p : Int))
  parts : fs.lookup ("parts" : Str) = some (.int (n : Int))
  no1 : fs.lookup ("enter" : Str) = none
  no2 : fs.lookup ("sees" : Str) = none
  no3 : fs.lookup ("take" : Str) = none
  no4 : fs.lookup ("word" : Str) = none
  no5 : fs.lookup ("finish" : Str) = none
  len : fs.length ≤ 6
theorem SF.toPlace {T : Str} {p n : Nat} {fs : List (Str × V)} (h : SF T p n fs) (p' : Nat) : SF T p' n (putF "place" (.int (p' : Int)) fs) := by
  refine ⟨?_, ?_, ?_, ?_, ?_, ?_, ?_, ?_, ?_, ?_, ?_⟩
  · rw [lookup_putF, if_neg (by decide +kernel)]; exact h.text
  · rw [lookup_putF, if_neg (by decide +kernel)]; exact h.mw
  · rw [lookup_putF, if_neg (by decide +kernel)]; exact h.mp
  · rw [lookup_putF, if_pos rfl]
  · rw [lookup_putF, if_neg (by decide +kernel)]; exact h.parts
  · rw [lookup_putF, if_neg (by decide +kernel)]; exact h.no1
  · rw [lookup_putF, if_neg (by decide +kernel)]; exact h.no2
  · rw [lookup_putF, if_neg (by decide +kernel)]; exact h.no3
  · rw [lookup_putF, if_neg (by decide +kernel)]; exact h.no4
  · rw [lookup_putF, if_neg (by decide +kernel)]; exact h.no5
  · rw [putF_has _ _ _ _ h.place]; exact h.len
theorem SF.toParts {T : Str} {p n : Nat} {fs : List (Str × V)} (h : SF T p n fs) (n' : Nat) : SF T p n' (putF "parts" (.int (n' : Int)) fs) := by
  refine ⟨?_, ?_, ?_, ?_, ?_, ?_, ?_, ?_, ?_, ?_, ?_⟩
  · rw [lookup_putF, if_neg (by decide +kernel)]; exact h.text
  · rw [lookup_putF, if_neg (by decide +kernel)]; exact h.mw
  · rw [lookup_putF, if_neg (by decide +kernel)]; exact h.mp
  · rw [lookup_putF, if_neg (by decide +kernel)]; exact h.place
  · rw [lookup_putF, if_pos rfl]
  · rw [lookup_putF, if_neg (by decide +kernel)]; exact h.no1
  · rw [lookup_putF, if_neg (by decide +kernel)]; exact h.no2
  · rw [lookup_putF, if_neg (by decide +kernel)]; exact h.no3
  · rw [lookup_putF, if_neg (by decide +kernel)]; exact h.no4
  · rw [lookup_putF, if_neg (by decide +kernel)]; exact h.no5
  · rw [putF_has _ _ _ _ h.parts]; exact h.len
def sfs (T : Str) (k : Int) : List (Str × V) := putF "parts" (.int 0) (putF "place" (.int 0) (putF "most_parts" (.int 20) (putF "most_within" (.int 8) (putF "row" (.int k) (putF "text" (.str T) [])))))
theorem sfs_ok (T : Str) (k : Int) : SF T 0 0 (sfs T k) := by
  have no : ∀ m : Str, m ≠ "parts" → m ≠ "place" → m ≠ "most_parts" → m ≠ "most_within" → m ≠ "row" → m ≠ "text" → (sfs T k).lookup m = none := fun m h1 h2 h3 h4 h5 h6 => by
    unfold sfs
    rw [lookup_putF, if_neg h1, lookup_putF, if_neg h2, lookup_putF, if_neg h3, lookup_putF, if_neg h4, lookup_putF, if_neg h5, lookup_putF, if_neg h6]
    rfl
  refine ⟨?_, ?_, ?_, ?_, ?_, no _ (by decide +kernel) (by decide +kernel) (by decide +kernel) (by decide +kernel) (by decide +kernel) (by decide +kernel), no _ (by decide +kernel) (by decide +kernel) (by decide +kernel) (by decide +kernel) (by decide +kernel) (by decide +kernel), no _ (by decide +kernel) (by decide +kernel) (by decide +kernel) (by decide +kernel) (by decide +kernel) (by decide +kernel), no _ (by decide +kernel) (by decide +kernel) (by decide +kernel) (by decide +kernel) (by decide +kernel) (by decide +kernel), no _ (by decide +kernel) (by decide +kernel) (by decide +kernel) (by decide +kernel) (by decide +kernel) (by decide +kernel), ?_⟩
  · unfold sfs
    rw [lookup_putF, if_neg (by decide +kernel), lookup_putF, if_neg (by decide +kernel), lookup_putF, if_neg (by decide +kernel), lookup_putF, if_neg (by decide +kernel), lookup_putF, if_neg (by decide +kernel), lookup_putF, if_pos rfl]
  · unfold sfs
    rw [lookup_putF, if_neg (by decide +kernel), lookup_putF, if_neg (by decide +kernel), lookup_putF, if_neg (by decide +kernel), lookup_putF, if_pos rfl]
  · unfold sfs
    rw [lookup_putF, if_neg (by decide +kernel), lookup_putF, if_neg (by decide +kernel), lookup_putF, if_pos rfl]
  · unfold sfs
    rw [lookup_putF, if_neg (by decide +kernel), lookup_putF, if_pos rfl]
    rfl
  · unfold sfs
    rw [lookup_putF, if_pos rfl]
    rfl
  · unfold sfs
    refine Nat.le_trans (putF_len _ _ _) (Nat.succ_le_succ (Nat.le_trans (putF_len _ _ _) (Nat.succ_le_succ (Nat.le_trans (putF_len _ _ _) (Nat.succ_le_succ (Nat.le_trans (putF_len _ _ _) (Nat.succ_le_succ (Nat.le_trans (putF_len _ _ _) (Nat.succ_le_succ (putF_len _ _ _))))))))))
def ScanAt (C : Addr) (H : Hp) (sc : Addr) (T : Str) (p n : Nat) : Prop := ∃ dx fs, H sc = some (.ins C dx fs) ∧ SF T p n fs
def spSInit (C : Addr) : Sp := fun vs H Q _ => ∃ (g dx : Addr) (T : Str) (k : Int), vs = [.ref g, .str T, .int k, .int 8, .int 20] ∧ H g = some (.ins C dx []) ∧ ∀ H', ScanAt C H' g T 0 0 → SameBut g H H' → Q .non H'
theorem sc_sinit : FnScope ["self", "text", "row", "most_within", "most_parts"] ["self", "text", "row", "most_within", "most_parts"] (defScope s_sinit) := ⟨rfl, rfl, rfl, by decide +kernel, rfl, by decide +kernel, by decide +kernel⟩
theorem ok_sinit {f C : Addr} {fd : FuncData} (F : Fun K "__init__" "Scan.__init__" s_sinit f fd) (T : STxt K mg C) : FnOk P w K mg base CX0 1 f fd ["self", "text", "row", "most_within", "most_parts"] (spSInit C) := by
  refine F.ok sc_sinit (fun vs H Q E h => ?_) (fun cdv A outer s H vs Q E hr h => ?_)
  · obtain ⟨g, dx, Tx, kr, rfl, _⟩ := h
    rfl
  obtain ⟨g, dx, Tx, kr, rfl, hg, q⟩ := h
  refine ⟨_, (pss_cons (ps_fld (pv 0) (pv 1) rfl) (pss_cons (ps_fld (pv 0) (pv 2) rfl) (pss_cons (ps_fld (pv 0) (pv 3) rfl) (pss_cons (ps_fld (pv 0) (pv 4) rfl) (pss_cons (ps_fld (pv 0) pe_int rfl) (pss_one (ps_fld (pv 0) pe_int rfl))))))), ?_⟩
  refine ⟨_, rfl, _, rfl, g, C, dx, [], rfl, hg, T.cl, T.nX, (by show 0 < 1000; decide), ?_⟩
  refine ⟨_, rfl, _, rfl, g, C, dx, _, rfl, upd_same, T.cl, T.nR, (Nat.lt_of_le_of_lt (putF_len _ _ _) (by show 1 < 1000; decide)), ?_⟩
  refine ⟨_, rfl, _, rfl, g, C, dx, _, rfl, upd_same, T.cl, T.nW, (Nat.lt_of_le_of_lt (putF_len _ _ _) (Nat.lt_of_le_of_lt (Nat.succ_le_succ (putF_len _ _ _)) (by show 2 < 1000; decide))), ?_⟩
  refine ⟨_, rfl, _, rfl, g, C, dx, _, rfl, upd_same, T.cl, T.nP, (Nat.lt_of_le_of_lt (putF_len _ _ _) (Nat.lt_of_le_of_lt (Nat.succ_le_succ (Nat.le_trans (putF_len _ _ _) (Nat.succ_le_succ (putF_len _ _ _)))) (by show 3 < 1000; decide))), ?_⟩
  refine ⟨_, rfl, g, C, dx, _, rfl, upd_same, T.cl, T.nL, (Nat.lt_of_le_of_lt (putF_len _ _ _) (Nat.lt_of_le_of_lt (Nat.succ_le_succ (Nat.le_trans (putF_len _ _ _) (Nat.succ_le_succ (Nat.le_trans (putF_len _ _ _) (Nat.succ_le_succ (putF_len _ _ _)))))) (by show 4 < 1000; decide))), ?_⟩
  refine ⟨_, rfl, g, C, dx, _, rfl, upd_same, T.cl, T.nN, (Nat.lt_of_le_of_lt (putF_len _ _ _) (Nat.lt_of_le_of_lt (Nat.succ_le_succ (Nat.le_trans (putF_len _ _ _) (Nat.succ_le_succ (Nat.le_trans (putF_len _ _ _) (Nat.succ_le_succ (Nat.le_trans (putF_len _ _ _) (Nat.succ_le_succ (putF_len _ _ _)))))))) (by show 5 < 1000; decide))), ?_⟩
  exact q _ ⟨dx, sfs Tx kr, upd_same, sfs_ok Tx kr⟩ ((SameBut.upd _).trans ((SameBut.upd _).trans ((SameBut.upd _).trans ((SameBut.upd _).trans ((SameBut.upd _).trans (SameBut.upd _))))))
theorem SF.size {T : Str} {p n : Nat} {fs : List (Str × V)} (h : SF T p n fs) : fs.length < 1000 := Nat.lt_of_le_of_lt h.len (by decide)
def spEnter (C : Addr) : Sp := fun vs H Q _ => ∃ (sc : Addr) (T : Str) (p n : Nat) (wi : Int), vs = [.ref sc, .int wi] ∧ ScanAt C H sc T p n ∧ wi ≤ 8 ∧ n + 1 ≤ 20 ∧ ∀ H', ScanAt C H' sc T p (n + 1) → SameBut sc H H' → Q .non H'
theorem sc_senter : FnScope ["self", "within"] ["self", "within"] (defScope s_senter) := ⟨rfl, rfl, rfl, by decide +kernel, rfl, by decide +kernel, by decide +kernel⟩
theorem ok_senter {f C : Addr} {fd : FuncData} (F : Fun K "enter" "Scan.enter" s_senter f fd) (T : STxt K mg C) : FnOk P w K mg base CX0 1 f fd ["self", "within"] (spEnter C) := by
  refine F.ok sc_senter (fun vs H Q E h => ?_) (fun cdv A outer s H vs Q E hr h => ?_)
  · obtain ⟨sc, Tx, p, n, wi, rfl, _⟩ := h
    rfl
  obtain ⟨sc, Tx, p, n, wi, rfl, ⟨dx, fs, hs, sf⟩, w10, n30, q⟩ := h
  refine ⟨_, (pss_cons (ps_fld (pv 0) (pe_op op_add (pe_fld (pv 0) rfl) pe_int) rfl)
      (pss_one (ps_if (PW.pt (pw_or (pt_cmpR op_gt (pv 1) (pe_fld (pv 0) rfl) (nomark _)) (pw_or1 (pt_cmpR op_gt (pe_fld (pv 0) rfl) (pe_fld (pv 0) rfl) (nomark _))))) pss_never pss_nil))), ?_⟩
  have sf' := sf.toParts (n + 1)
  refine ⟨_, rfl, sc, C, dx, fs, _, rfl, hs, T.cl, T.nN, sf.parts, _, _, rfl, rfl, _, rfl, sc, C, dx, fs, rfl, hs, T.cl, T.nN, sf.size, ?_⟩
  have hs' : upd H sc (.ins C dx (putF "parts" (.int ((n : Int) + 1)) fs)) sc = some (.ins C dx (putF "parts" (.int ((n + 1 : Nat) : Int)) fs)) := upd_same
  refine ⟨_, rfl, _, rfl, sc, C, dx, _, _, rfl, hs', T.cl, T.nW, sf'.mw, _, _, rfl, rfl, _, rfl, ?_⟩
  refine iteDF (by omega) ?_
  refine ⟨_, rfl, sc, C, dx, _, _, rfl, hs', T.cl, T.nN, sf'.parts, _, rfl, sc, C, dx, _, _, rfl, hs', T.cl, T.nP, sf'.mp, _, _, rfl, rfl, _, rfl, ?_⟩
  refine iteDF (by omega) ?_
  exact q _ ⟨dx, _, hs', sf'⟩ (SameBut.upd _)
def spSees (C : Addr) : Sp := fun vs H Q _ => ∃ (sc : Addr) (T u : Str) (p n : Nat), vs = [.ref sc, .str u] ∧ ScanAt C H sc T p n ∧ Q (.bl (startsAt T u p)) H
theorem sc_ssees : FnScope ["self", "signs"] ["self", "signs"] (defScope s_ssees) := ⟨rfl, rfl, rfl, by decide +kernel, rfl, by decide +kernel, by decide +kernel⟩
theorem ok_ssees {f C : Addr} {fd : FuncData} (F : Fun K "sees" "Scan.sees" s_ssees f fd) (T : STxt K mg C) : FnOk P w K mg base CX0 1 f fd ["self", "signs"] (spSees C) := by
  refine F.ok sc_ssees (fun vs H Q E h => ?_) (fun cdv A outer s H vs Q E hr h => ?_)
  · obtain ⟨sc, Tx, u, p, n, rfl, _⟩ := h
    rfl
  obtain ⟨sc, Tx, u, p, n, rfl, ⟨dx, fs, hs, sf⟩, q⟩ := h
  refine ⟨_, (pss_one (ps_ret (pe_bm PySem.F.plainAttrs_str PySem.F.slot_str_startswith PySem.F.type_str_startswith mt_startsAt (pe_fld (pv 0) rfl) (pa_cons (pv 1) (pa_cons (pe_fld (pv 0) rfl) pa_nil))))), ?_⟩
  exact ⟨_, rfl, sc, C, dx, fs, _, rfl, hs, T.cl, T.nX, sf.text, rfl, _, rfl, _, rfl, sc, C, dx, fs, _, rfl, hs, T.cl, T.nL, sf.place, Tx, u, _, rfl, rfl, q⟩
def spTake' (C : Addr) : Sp := fun vs H Q _ => ∃ (sc : Addr) (T u : Str) (p n : Nat), vs = [.ref sc, .str u] ∧ ScanAt C H sc T p n ∧ startsAt T u p = true ∧ u.length ≤ 10 ∧ ∀ H', ScanAt C H' sc T (p + u.length) n → SameBut sc H H' → Q .non H'
theorem sc_stake : FnScope ["self", "signs"] ["self", "signs"] (defScope s_stake) := ⟨rfl, rfl, rfl, by decide +kernel, rfl, by decide +kernel, by decide +kernel⟩
theorem ok_stake {f C fS : Addr} {fd fdS : FuncData} (F : Fun K "take" "Scan.take" s_stake f fd) (B : Bl mg) (T : STxt K mg C) (mS : Meth K C "sees" fS) (GS : FnOk P w K mg base CX0 1 fS fdS ["self", "signs"] (spSees C)) (bS : Binds K fdS ["self", "signs"] []) : FnOk P w K mg base CX0 2 f fd ["self", "signs"] (spTake' C) := by
  refine F.ok sc_stake (fun vs H Q E h => ?_) (fun cdv A outer s H vs Q E hr h => ?_)
  · obtain ⟨sc, Tx, u, p, n, rfl, _⟩ := h
    rfl
  obtain ⟨sc, Tx, u, p, n, rfl, S, hu, u10, q⟩ := h
  have hr1 : Room 1 _ := hr.mono (by decide)
  refine ⟨_, (pss_cons (ps_if (pt_not (pt_val (pe_meth (pv 0) T.cl mS GS hr1 bS .nil pass0 (pa_cons (pv 1) pa_nil)))) pss_never pss_nil)
      (pss_one (ps_fld (pv 0) (pe_op op_add (pe_fld (pv 0) rfl) (pe_callB call_len_str rfl B.len PySem.boot_len (pa_cons (pv 1) pa_nil))) rfl))), ?_⟩
  obtain ⟨dx, fs, hs, sf⟩ := id S
  refine ⟨_, rfl, sc, dx, fs, rfl, hs, sf.no2, _, rfl, sc, Tx, u, p, n, rfl, S, _, rfl, ?_⟩
  rw [hu]
  refine iteF ?_
  refine ⟨_, rfl, sc, C, dx, fs, _, rfl, hs, T.cl, T.nL, sf.place, _, rfl, u, rfl, small (by omega), _, _, rfl, rfl, _, rfl, sc, C, dx, fs, rfl, hs, T.cl, T.nL, sf.size, ?_⟩
  have hs' : upd H sc (.ins C dx (putF "place" (.int ((p : Int) + (u.length : Int))) fs)) sc = some (.ins C dx (putF "place" (.int ((p + u.length : Nat) : Int)) fs)) := by rw [upd_same, Int.natCast_add]
  exact q _ ⟨dx, _, hs', sf.toPlace _⟩ (SameBut.upd _)
def EndOk (r : List Nat) : Prop := r = [] ∨ ∃ c r', r = c :: r' ∧ (c = 32 ∨ c = 40 ∨ c = 41)
def spWord (C : Addr) : Sp := fun vs H Q _ => ∃ (sc : Addr) (T : Str) (p n : Nat) (x r : List Nat), vs = [.ref sc] ∧ ScanAt C H sc T p n ∧ T.length ≤ 1000 ∧ p ≤ T.length ∧ T.cps.toList.drop p = x ++ r ∧ (∀ c ∈ x, isIn ENDS c = false) ∧ EndOk r ∧ ∀ H', ScanAt C H' sc T (p + x.length) n → SameBut sc H H' → Q (.str (stl x)) H'
theorem sc_sword : FnScope ["self", "start"] ["self"] (defScope s_sword) := ⟨rfl, rfl, rfl, by decide +kernel, rfl, by decide +kernel, by decide +kernel⟩
theorem ok_sword {f C : Addr} {fd : FuncData} (F : Fun K "word" "Scan.word" s_sword f fd) (B : Bl mg) (X : Tx K mg) (T : STxt K mg C) : FnOk P w K mg base CX0 1 f fd ["self"] (spWord C) := by
  refine F.ok sc_sword (fun vs H Q E h => ?_) (fun cdv A outer s H vs Q E hr h => ?_)
  · obtain ⟨sc, Tx, p, n, x, r, rfl, _⟩ := h
    rfl
  obtain ⟨sc, Tx, p, n, x, r, rfl, ⟨dx, fs, hs, sf⟩, tl, pl, hd, xl, er, q⟩ := h
  obtain ⟨te, ge⟩ := X.ends
  refine ⟨_, (pss_cons (ps_set (i := 1) sc_sword.nd rfl (Or.inl rfl) (pe_fld (pv 0) rfl))
      (pss_cons (ps_while PassesOwn.never (PW.pt (pw_and (pt_cmpR op_lt (pe_fld (pv 0) rfl) (pe_callB call_len_str rfl B.len PySem.boot_len (pa_cons (pe_fld (pv 0) rfl) pa_nil)) (nomark _)) (pw_and1 (pt_cmpR op_notIn_str (pe_ix ix_str (pe_fld (pv 0) rfl) (pe_fld (pv 0) rfl) (fun _ _ => rfl)) (pe_glob (v := .str ENDS) rfl ge ⟨_, rfl⟩) (by with_unfolding_all rfl))))) (pss_one (ps_fld (pv 0) (pe_op op_add (pe_fld (pv 0) rfl) pe_int) rfl)))
      (pss_one (ps_ret (pe_slice sl_str (pe_fld (pv 0) rfl) (po_some (pv 1)) (po_some (pe_fld (pv 0) rfl))))))), ?_⟩
  have L : Tx.cps.toList.length = Tx.length := by rw [Array.length_toList]; rfl
  have hlen : Tx.length = p + (x.length + r.length) := by
    have := congrArg List.length hd
    rw [List.length_drop, List.length_append, L] at this
    omega
  refine ⟨_, rfl, sc, C, dx, fs, _, rfl, hs, T.cl, T.nL, sf.place, ?_⟩
  refine ⟨fun m σ H' => ∃ j : Nat, j ≤ x.length ∧ σ = [some (.ref sc), some (.int (p : Int))] ∧ ScanAt C H' sc Tx (p + j) n ∧ SameBut sc H H' ∧ m = x.length - j, ⟨_, 0, Nat.zero_le _, rfl, ⟨dx, fs, hs, sf⟩, SameBut.refl _ _, rfl⟩, ?_⟩
  rintro m σ H1 ⟨j, hj, rfl, ⟨dx1, fs1, hs1, sf1⟩, S1, rfl⟩
  refine ⟨_, rfl, sc, C, dx1, fs1, _, rfl, hs1, T.cl, T.nL, sf1.place, _, rfl, sc, C, dx1, fs1, _, rfl, hs1, T.cl, T.nX, sf1.text, Tx, rfl, small tl, _, _, rfl, rfl, _, rfl, ?_⟩
  have sl : j = x.length → Txt.slice Tx (some (p : Int)) (some ((p + j : Nat) : Int)) = stl x := fun ej => by
    have es : Txt.slice Tx (some (p : Int)) (some ((p + j : Nat) : Int)) = _ := StrLaws.sliceText_plain (i := (p : Int)) (j := ((p + j : Nat) : Int)) ⟨by omega, by omega, by rw [L]; omega⟩
    rw [es]
    refine str_ext ?_
    show (Tx.cps.toList.drop (p : Int).toNat).take (((p + j : Nat) : Int) - (p : Int)).toNat = x
    rw [show (p : Int).toNat = p by omega, show (((p + j : Nat) : Int) - (p : Int)).toNat = x.length by omega, hd, List.take_left']
    rfl
  by_cases c1 : (((p + j : Nat) : Int)) < (Tx.length : Int)
  · refine iteD c1 ?_
    have hk : p + j < Tx.cps.toList.length := by rw [L]; omega
    have ha : atI Tx.cps.toList ((p + j : Nat) : Int) = some Tx.cps.toList[p + j] := atI_nat (List.getElem?_eq_getElem hk)
    have hx : Tx.cps.toList[p + j]? = (x ++ r)[j]? := by rw [← hd, List.getElem?_drop]
    refine ⟨_, rfl, sc, C, dx1, fs1, _, rfl, hs1, T.cl, T.nX, sf1.text, _, rfl, sc, C, dx1, fs1, _, rfl, hs1, T.cl, T.nL, sf1.place, Tx, _, _, rfl, rfl, small tl, ha, _, _, rfl, rfl, _, rfl, ?_⟩
    by_cases c2 : j < x.length
    · have ec : Tx.cps.toList[p + j] = x[j] := by
        rw [List.getElem?_eq_getElem hk, List.getElem?_append_left c2, List.getElem?_eq_getElem c2] at hx
        exact Option.some.inj hx
      have en : (!isIn ENDS Tx.cps.toList[p + j]) = true := by rw [ec, xl _ (List.getElem_mem c2)]; rfl
      have en' : (!(!(Builtin.Str.occurrences ENDS ⟨#[Tx.cps.toList[p + j]]⟩ 0 ENDS.length 1).isEmpty)) = true := en
      rw [en']
      refine ⟨_, fun _ _ h => h, ?_⟩
      refine ⟨_, rfl, sc, C, dx1, fs1, _, rfl, hs1, T.cl, T.nL, sf1.place, _, _, rfl, rfl, _, rfl, sc, C, dx1, fs1, rfl, hs1, T.cl, T.nL, sf1.size, ?_⟩
      have hs' : upd H1 sc (.ins C dx1 (putF "place" (.int (((p + j : Nat) : Int) + 1)) fs1)) sc = some (.ins C dx1 (putF "place" (.int ((p + (j + 1) : Nat) : Int)) fs1)) := by
        rw [upd_same, show ((p + j : Nat) : Int) + 1 = ((p + (j + 1) : Nat) : Int) by omega]
      exact ⟨_, by omega, j + 1, by omega, rfl, ⟨dx1, _, hs', sf1.toPlace _⟩, S1.trans (SameBut.upd _), rfl⟩
    · have ej : j = x.length := by omega
      have en : (!isIn ENDS Tx.cps.toList[p + j]) = false := by
        rcases er with rfl | ⟨c, r', rfl, hc⟩
        · rw [List.length_nil] at hlen
          omega
        · rw [List.getElem?_eq_getElem hk, List.getElem?_append_right (by omega), show j - x.length = 0 by omega] at hx
          have ec : Tx.cps.toList[p + j] = c := Option.some.inj hx
          rw [ec]
          rcases hc with rfl | rfl | rfl
          · rw [ends_in.1]; rfl
          · rw [ends_in.2.1]; rfl
          · rw [ends_in.2.2]; rfl
      have en' : (!(!(Builtin.Str.occurrences ENDS ⟨#[Tx.cps.toList[p + j]]⟩ 0 ENDS.length 1).isEmpty)) = false := en
      rw [en']
      refine ⟨_, rfl, sc, C, dx1, fs1, _, rfl, hs1, T.cl, T.nX, sf1.text, _, rfl, _, rfl, _, rfl, sc, C, dx1, fs1, _, rfl, hs1, T.cl, T.nL, sf1.place, _, rfl, Tx, rfl, small tl, ?_⟩
      rw [sl ej]
      rw [ej] at sf1
      exact q H1 ⟨dx1, fs1, hs1, sf1⟩ S1
  · refine iteDF c1 ?_
    have ej : j = x.length := by omega
    refine ⟨_, rfl, sc, C, dx1, fs1, _, rfl, hs1, T.cl, T.nX, sf1.text, _, rfl, _, rfl, _, rfl, sc, C, dx1, fs1, _, rfl, hs1, T.cl, T.nL, sf1.place, _, rfl, Tx, rfl, small tl, ?_⟩
    rw [sl ej]
    rw [ej] at sf1
    exact q H1 ⟨dx1, fs1, hs1, sf1⟩ S1
def spFinish (C : Addr) : Sp := fun vs H Q _ => ∃ (sc : Addr) (T : Str) (n : Nat), vs = [.ref sc] ∧ ScanAt C H sc T T.length n ∧ T.length ≤ 1000 ∧ Q .non H
theorem sc_sfinish : FnScope ["self"] ["self"] (defScope s_sfinish) := ⟨rfl, rfl, rfl, by decide +kernel, rfl, by decide +kernel, by decide +kernel⟩
theorem ok_sfinish {f C : Addr} {fd : FuncData} (F : Fun K "finish" "Scan.finish" s_sfinish f fd) (B : Bl mg) (T : STxt K mg C) : FnOk P w K mg base CX0 1 f fd ["self"] (spFinish C) := by
  refine F.ok sc_sfinish (fun vs H Q E h => ?_) (fun cdv A outer s H vs Q E hr h => ?_)
  · obtain ⟨sc, Tx, n, rfl, _⟩ := h
    rfl
  obtain ⟨sc, Tx, n, rfl, ⟨dx, fs, hs, sf⟩, tl, q⟩ := h
  refine ⟨_, (pss_one (ps_if (pt_cmpR op_ne (pe_fld (pv 0) rfl) (pe_callB call_len_str rfl B.len PySem.boot_len (pa_cons (pe_fld (pv 0) rfl) pa_nil)) (nomark _)) pss_never pss_nil)), ?_⟩
  refine ⟨_, rfl, sc, C, dx, fs, _, rfl, hs, T.cl, T.nL, sf.place, _, rfl, sc, C, dx, fs, _, rfl, hs, T.cl, T.nX, sf.text, Tx, rfl, small tl, rfl, _, rfl, ?_⟩
  show if (!decide (V.int (Tx.length : Int) = V.int (Tx.length : Int))) = true then _ else _
  rw [decide_eq_true rfl]
  exact iteF q
theorem fi_nat (n p : Nat) : PySem.fromIndex n (p : Int) = p := by
  unfold PySem.fromIndex
  rw [if_neg (by omega)]
  omega
theorem sub_iff (T u : Str) (p : Nat) : Builtin.Str.subAt T u p = decide ((T.cps.toList.drop p).take u.length = u.cps.toList) := by
  unfold Builtin.Str.subAt
  have e : (T.cps.extract p (p + u.length)).toList = (T.cps.toList.drop p).take u.length := by
    rw [Array.toList_extract, List.extract_eq_drop_take]
    congr 1
    omega
  by_cases c : (T.cps.toList.drop p).take u.length = u.cps.toList
  · rw [decide_eq_true c]
    have : T.cps.extract p (p + u.length) = u.cps := Array.toList_inj.mp (e.trans c)
    rw [this]
    simp
  · rw [decide_eq_false c]
    have : ¬ T.cps.extract p (p + u.length) = u.cps := fun z => c (by rw [← e, z])
    simpa using this
theorem len_list (T : Str) : T.cps.toList.length = T.length := by rw [Array.length_toList]; rfl
theorem len_app {T : Str} {p : Nat} {u v : List Nat} (h : T.cps.toList.drop p = u ++ v) (hp : p ≤ T.length) : p + u.length + v.length = T.length := by
  have := congrArg List.length h
  rw [List.length_drop, List.length_append, len_list] at this
  omega
theorem drop_app {T : Str} {p : Nat} {u v : List Nat} (h : T.cps.toList.drop p = u ++ v) : T.cps.toList.drop (p + u.length) = v := by
  rw [← List.drop_drop, h, List.drop_left]
theorem starts_yes {T u : Str} {p : Nat} {r : List Nat} (h : T.cps.toList.drop p = u.cps.toList ++ r) (hp : p ≤ T.length) : startsAt T u (p : Int) = true := by
  unfold startsAt
  have hl := len_app h hp
  rw [len_list] at hl
  rw [fi_nat, sub_iff, decide_eq_true (by omega), h, ← len_list u, List.take_left, decide_eq_true rfl]
  rfl
theorem starts_no {T : Str} {p : Nat} {c : Nat} {r : List Nat} (h : T.cps.toList.drop p = c :: r) (hc : c ≠ 40) : startsAt T ("(" : Str) (p : Int) = false := by
  unfold startsAt
  have l1 : (("(" : Str)).length = 1 := by decide +kernel
  rw [fi_nat, sub_iff, h, lit_po, l1]
  have : ¬ (c :: r).take 1 = [40] := fun z => hc (by simpa using z)
  rw [decide_eq_false this, Bool.and_false]
theorem keepT_scan {C : Addr} {H H' : Hp} {sc : Addr} {T : Str} {p n : Nat} (S : ScanAt C H sc T p n) (s : SameBut sc H H') : KeepT H H' := fun a xs h => s a _ (fun z => by
  obtain ⟨dx, fs, e, _⟩ := S
  rw [z, e] at h
  cases h) h
theorem ScanAt.same {C : Addr} {H H' : Hp} {sc : Addr} {T : Str} {p n : Nat} (S : ScanAt C H sc T p n) (s : Same H H') : ScanAt C H' sc T p n := by
  obtain ⟨dx, fs, e, sf⟩ := S
  exact ⟨dx, fs, s _ _ e, sf⟩
structure Mths (P : Program) (w : World) (K : PySem.W.Frag) (mg : Str → Option Value) (base : Heap) (C fE fS fT fW fF : Addr) (dE dS dT dW dF : FuncData) : Prop where
  mE : Meth K C "enter" fE
  gE : FnOk P w K mg base CX0 1 fE dE ["self", "within"] (spEnter C)
  bE : Binds K dE ["self", "within"] []
  mS : Meth K C "sees" fS
  gS : FnOk P w K mg base CX0 1 fS dS ["self", "signs"] (spSees C)
  bS : Binds K dS ["self", "signs"] []
  mT : Meth K C "take" fT
  gT : FnOk P w K mg base CX0 2 fT dT ["self", "signs"] (spTake' C)
  bT : Binds K dT ["self", "signs"] []
  mW : Meth K C "word" fW
  gW : FnOk P w K mg base CX0 1 fW dW ["self"] (spWord C)
  bW : Binds K dW ["self"] []
  mF : Meth K C "finish" fF
  gF : FnOk P w K mg base CX0 1 fF dF ["self"] (spFinish C)
  bF : Binds K dF ["self"] []
theorem ends_mid : ∀ c : Nat, c < 62 → 42 ≤ c → isIn ENDS c = false := by decide +kernel
theorem fig_no : ∀ c : Fin 26, isIn FIG (97 + c.val) = false := by decide +kernel
theorem isIn_fig {c : Nat} (h : 97 ≤ c ∧ c ≤ 122) : isIn FIG c = false := by
  have := fig_no ⟨c - 97, by omega⟩
  rwa [show 97 + (⟨c - 97, by omega⟩ : Fin 26).val = c by show 97 + (c - 97) = c; omega] at this
theorem figB_name {x : Str} (h : NmK x) : figB x = false := by
  unfold figB
  obtain ⟨hl, h1, _, _⟩ := h
  have : x.cps.toList.all (isIn FIG) = false := by
    cases e : x.cps.toList with
    | nil =>
      have := cd_len x
      unfold cd at this
      rw [e] at this
      simp at this
      omega
    | cons c r =>
      have := isIn_fig (hl c (by rw [e]; exact List.mem_cons_self))
      rw [List.all_cons, this]
      rfl
  rw [this, Bool.and_false]
def PlainC (l : List Nat) : Prop := ∀ c ∈ l, isIn ENDS c = false
theorem plainC_let {l : List Nat} (h : ∀ c ∈ l, 97 ≤ c ∧ c ≤ 122) : PlainC l := fun c hc => isIn_ends (h c hc)
theorem plainC_mid {l : List Nat} (h : ∀ c ∈ l, 42 ≤ c ∧ c ≤ 61) : PlainC l := fun c hc => ends_mid c (by have := h c hc; omega) (h c hc).1
theorem plainC_num {n : Int} (h : 0 ≤ n) : PlainC (cd (numT n)) := plainC_mid fun c hc => by have := num_dig h c hc; omega
theorem plainC_ne {l : List Nat} (h : PlainC l) (h1 : 1 ≤ l.length) (r : List Nat) : ∃ c r', l ++ r = c :: r' ∧ c ≠ 40 := by
  cases l with
  | nil => cases h1
  | cons c l' =>
    refine ⟨c, l' ++ r, rfl, fun e => ?_⟩
    have := h c List.mem_cons_self
    rw [e, ends_in.2.1] at this
    cases this
def spNextT (C : Addr) (n : Nat) : Sp := fun vs H Q _ => ∃ (sc : Addr) (wi : Int) (T : Str) (p k : Nat) (t : Tm) (r : List Nat), vs = [.ref sc, .int wi] ∧ ScanAt C H sc T p k ∧ T.length ≤ 1000 ∧ p ≤ T.length ∧ T.cps.toList.drop p = [32] ++ (t.txt ++ r) ∧ EndOk r ∧ t.ok ∧ t.depth ≤ n ∧ wi + (t.depth : Int) ≤ 9 ∧ k + t.size ≤ 20 ∧
  ∀ (v : V) (H' : Hp), TmAt H' v t → ScanAt C H' sc T (p + 1 + t.txt.length) (k + t.size) → SameBut sc H H' → Q v H'
def spTB (C : Addr) (n : Nat) : Sp := fun vs H Q _ => ∃ (sc : Addr) (wi : Int) (T : Str) (p k : Nat) (t : Tm) (r : List Nat), vs = [.ref sc, .int wi] ∧ ScanAt C H sc T p (k + 1) ∧ T.length ≤ 1000 ∧ p ≤ T.length ∧ T.cps.toList.drop p = t.txt ++ r ∧ t.ok ∧ ((∃ w a, t = .ask w a) ∨ ∃ s a b, t = .op s a b) ∧ t.depth ≤ n + 1 ∧ wi + (t.depth : Int) ≤ 9 ∧ k + t.size ≤ 20 ∧
  ∀ (v : V) (H' : Hp), TmAt H' v t → ScanAt C H' sc T (p + t.txt.length) (k + t.size) → SameBut sc H H' → Q v H'
theorem sc_term_in_bracket : FnScope ["scan", "within", "word", "first", "term"] ["scan", "within"] (defScope s_term_in_bracket) := ⟨rfl, rfl, rfl, by decide +kernel, rfl, by decide +kernel, by decide +kernel⟩
theorem tb_step {n : Nat} {f C fE fS fT fW fF : Addr} {fd dE dS dT dW dF : FuncData} (F : Fun K "term_in_bracket" "term_in_bracket" s_term_in_bracket f fd) (X : Tx K mg) (T : STxt K mg C) (M : Mths P w K mg base C fE fS fT fW fF dE dS dT dW dF) (C_next_term : Cal P w K mg base (2 * n + 3) "next_term" ["scan", "within"] (spNextT C n)) : FnOk P w K mg base CX0 (2 * n + 4) f fd ["scan", "within"] (spTB C n) := by
  refine F.ok sc_term_in_bracket (fun vs H Q E h => ?_) (fun cdv A outer s H vs Q E hr h => ?_)
  · obtain ⟨sc, wi, Tx, p, k, t, r, rfl, _⟩ := h
    rfl
  obtain ⟨sc, wi, Tx, p, k, t, r, rfl, S0, tl, pl, hd, ok, kind, dn, wd, k20, q⟩ := h
  obtain ⟨ja, gj, hj⟩ := X.asking
  obtain ⟨sa, gs, hs⟩ := X.signs
  have hr1 : Room 1 _ := hr.mono (by omega)
  have hr2 : Room 2 _ := hr.mono (by omega)
  refine ⟨_, (pss_cons (ps_expr (pe_meth (pv 0) T.cl M.mT M.gT hr2 M.bT .nil pass0 (pa_cons pe_str pa_nil)))
      (pss_cons (ps_set (i := 2) sc_term_in_bracket.nd rfl (Or.inl rfl) (pe_meth0 (pv 0) T.cl M.mW M.gW hr1 M.bW .nil pass0))
      (pss_cons (ps_set (i := 3) sc_term_in_bracket.nd rfl (Or.inl rfl) (pe_cal C_next_term hr (by omega) rfl (pa_cons (pv 0) (pa_cons (pe_op op_add (pv 1) pe_int) pa_nil))))
      (pss_cons (ps_if (pt_cmpR op_in_seq (pv 2) (pe_glob (v := .ref ja) rfl gj rfl) (by with_unfolding_all rfl)) (pss_one (ps_set (i := 4) sc_term_in_bracket.nd rfl (Or.inl rfl) (pe_tup (pa_cons (pv 2) (pa_cons (pv 3) pa_nil))))) (pss_one (ps_if (pt_cmpR op_in_seq (pv 2) (pe_glob (v := .ref sa) rfl gs rfl) (by with_unfolding_all rfl)) (pss_one (ps_set (i := 4) sc_term_in_bracket.nd rfl (Or.inl rfl) (pe_tup (pa_cons pe_str (pa_cons (pv 2) (pa_cons (pv 3) (pa_cons (pe_cal C_next_term hr (by omega) rfl (pa_cons (pv 0) (pa_cons (pe_op op_add (pv 1) pe_int) pa_nil))) pa_nil))))))) pss_never)))
      (pss_cons (ps_expr (pe_meth (pv 0) T.cl M.mT M.gT hr2 M.bT .nil pass0 (pa_cons pe_str pa_nil)))
      (pss_one (ps_ret (pv 4)))))))), ?_⟩
  have l1 : (("(" : Str)).length = 1 := by decide +kernel
  have l3 : ((")" : Str)).length = 1 := by decide +kernel
  obtain ⟨dx0, fs0, hs0, sf0⟩ := id S0
  rcases kind with ⟨wd', a, rfl⟩ | ⟨o, a, b, rfl⟩
  · obtain ⟨okw, oka⟩ := ok
    obtain ⟨_, w1, wl, _⟩ := ask_ok wd' okw
    have da : a.depth ≤ n := Nat.le_of_succ_le_succ dn
    have ed : (((Tm.ask wd' a).depth : Nat) : Int) = (a.depth : Int) + 1 := by show ((a.depth + 1 : Nat) : Int) = _; omega
    have es : (Tm.ask wd' a).size = a.size + 1 := rfl
    have wlen : (cd wd').length = wd'.length := cd_len _
    have hd0 : Tx.cps.toList.drop p = [40] ++ (cd wd' ++ ([32] ++ (a.txt ++ ([41] ++ r)))) := by
      rw [hd]
      show ([40] ++ (cd wd' ++ ([32] ++ (a.txt ++ [41])))) ++ r = _
      simp
    have tlen : (Tm.ask wd' a).txt.length = 1 + (wd'.length + (1 + (a.txt.length + 1))) := by
      show ([40] ++ (cd wd' ++ ([32] ++ (a.txt ++ [41])))).length = _
      simp only [List.length_append, List.length_cons, List.length_nil, wlen]
    have hl0 := len_app hd0 pl
    simp only [List.length_append, List.length_cons, List.length_nil, wlen] at hl0
    have hd1 := drop_app hd0
    have hd2 := drop_app hd1
    have hd3 := drop_app hd2
    have hd4 := drop_app hd3
    simp only [List.length_cons, List.length_nil, wlen] at hd1 hd2 hd3 hd4
    refine ⟨_, rfl, sc, dx0, fs0, rfl, hs0, sf0.no3, sc, Tx, _, p, _, rfl, S0, starts_yes (r := cd wd' ++ ([32] ++ (a.txt ++ ([41] ++ r)))) (by rw [lit_po]; exact hd0) pl, by rw [l1]; decide, fun H1 S1 B1 => ?_⟩
    rw [l1] at S1
    obtain ⟨dx1, fs1, hs1, sf1⟩ := id S1
    refine ⟨_, rfl, sc, dx1, fs1, rfl, hs1, sf1.no4, sc, Tx, _, _, cd wd', _, rfl, S1, tl, by omega, hd1, plainC_let wl, .inr ⟨32, _, rfl, .inl rfl⟩, fun H2 S2 B2 => ?_⟩
    rw [wlen] at S2
    refine ⟨_, rfl, _, rfl, _, _, rfl, rfl, sc, wi + 1, Tx, _, _, a, _, rfl, S2, tl, by omega, hd2, .inr ⟨41, r, rfl, .inr (.inr rfl)⟩, oka, da, by omega, by omega, fun v1 H3 T3 S3 B3 => ?_⟩
    refine ⟨_, rfl, ja, _, rfl, .inr (hj _), rfl, (by decide), _, rfl, ?_⟩
    have einj : inV (.str (stl (cd wd'))) (askW.map V.str) = true := by rw [show stl (cd wd') = wd' from stl_of _, in_strs, decide_eq_true okw]
    rw [einj]
    refine iteT ?_
    refine ⟨_, rfl, _, rfl, (by show 2 ≤ sizeLine; decide), fun c hc => ?_⟩
    have G := Same.new hc (.tup [.str (stl (cd wd')), v1])
    have S4 := S3.same G
    have ec : upd H3 c (.tup [.str (stl (cd wd')), v1]) c = some (.tup [.str wd', v1]) := upd_same
    have T4 := T3.mono (keepT_same G)
    generalize upd H3 c (.tup [.str (stl (cd wd')), v1]) = H4 at G S4 ec T4
    obtain ⟨dx4, fs4, hs4, sf4⟩ := id S4
    refine ⟨_, rfl, sc, dx4, fs4, rfl, hs4, sf4.no3, sc, Tx, _, _, _, rfl, S4, starts_yes (r := r) (by rw [lit_pc, show p + 1 + wd'.length + 1 + a.txt.length = p + (0 + 1) + wd'.length + (0 + 1) + a.txt.length by omega]; exact hd4) (by omega), by rw [l3]; decide, fun H5 S5 B5 => ?_⟩
    rw [l3] at S5
    have k5 := keepT_scan S4 B5
    refine ⟨_, rfl, ?_⟩
    rw [show p + 1 + wd'.length + 1 + a.txt.length + 1 = p + (Tm.ask wd' a).txt.length by rw [tlen]; omega, show k + 1 + a.size = k + (Tm.ask wd' a).size by rw [es]; omega] at S5
    exact q _ _ (.ask (k5 _ _ ec) (T4.mono k5)) S5 (B1.trans (B2.trans (B3.trans ((SameBut.of G).trans B5))))
  · obtain ⟨oko, oka, okb⟩ := ok
    obtain ⟨o1, ol, no⟩ := sign_ok o oko
    have dd : a.depth ≤ n ∧ b.depth ≤ n ∧ wi + (a.depth : Int) ≤ 8 ∧ wi + (b.depth : Int) ≤ 8 := by
      have e1 : (Tm.op o a b).depth = max a.depth b.depth + 1 := rfl
      rw [e1] at dn wd
      omega
    have es : (Tm.op o a b).size = a.size + b.size + 1 := rfl
    have wlen : (cd o).length = o.length := cd_len _
    have hd0 : Tx.cps.toList.drop p = [40] ++ (cd o ++ ([32] ++ (a.txt ++ ([32] ++ (b.txt ++ ([41] ++ r)))))) := by
      rw [hd]
      show ([40] ++ (cd o ++ ([32] ++ (a.txt ++ ([32] ++ (b.txt ++ [41])))))) ++ r = _
      simp
    have tlen : (Tm.op o a b).txt.length = 1 + (o.length + (1 + (a.txt.length + (1 + (b.txt.length + 1))))) := by
      show ([40] ++ (cd o ++ ([32] ++ (a.txt ++ ([32] ++ (b.txt ++ [41])))))).length = _
      simp only [List.length_append, List.length_cons, List.length_nil, wlen]
    have hl0 := len_app hd0 pl
    simp only [List.length_append, List.length_cons, List.length_nil, wlen] at hl0
    have hd1 := drop_app hd0
    have hd2 := drop_app hd1
    have hd3 := drop_app hd2
    have hd4 := drop_app hd3
    have hd5 := drop_app hd4
    have hd6 := drop_app hd5
    simp only [List.length_cons, List.length_nil, wlen] at hd1 hd2 hd3 hd4 hd5 hd6
    refine ⟨_, rfl, sc, dx0, fs0, rfl, hs0, sf0.no3, sc, Tx, _, p, _, rfl, S0, starts_yes (r := cd o ++ ([32] ++ (a.txt ++ ([32] ++ (b.txt ++ ([41] ++ r)))))) (by rw [lit_po]; exact hd0) pl, by rw [l1]; decide, fun H1 S1 B1 => ?_⟩
    rw [l1] at S1
    obtain ⟨dx1, fs1, hs1, sf1⟩ := id S1
    refine ⟨_, rfl, sc, dx1, fs1, rfl, hs1, sf1.no4, sc, Tx, _, _, cd o, _, rfl, S1, tl, by omega, hd1, plainC_mid ol, .inr ⟨32, _, rfl, .inl rfl⟩, fun H2 S2 B2 => ?_⟩
    rw [wlen] at S2
    refine ⟨_, rfl, _, rfl, _, _, rfl, rfl, sc, wi + 1, Tx, _, _, a, _, rfl, S2, tl, by omega, hd2, .inr ⟨32, _, rfl, .inl rfl⟩, oka, dd.1, by omega, by omega, fun v1 H3 T3 S3 B3 => ?_⟩
    refine ⟨_, rfl, ja, _, rfl, .inr (hj _), rfl, (by decide), _, rfl, ?_⟩
    have einj : inV (.str (stl (cd o))) (askW.map V.str) = false := by rw [show stl (cd o) = o from stl_of _, in_strs, decide_eq_false no]
    rw [einj]
    refine iteF ?_
    refine ⟨_, rfl, sa, _, rfl, .inr (hs _), rfl, (by decide), _, rfl, ?_⟩
    have eins : inV (.str (stl (cd o))) (signW.map V.str) = true := by rw [show stl (cd o) = o from stl_of _, in_strs, decide_eq_true oko]
    rw [eins]
    refine iteT ?_
    have hd4' : Tx.cps.toList.drop (p + 1 + o.length + 1 + a.txt.length) = [32] ++ (b.txt ++ ([41] ++ r)) := by
      rw [show p + 1 + o.length + 1 + a.txt.length = p + (0 + 1) + o.length + (0 + 1) + a.txt.length by omega]
      exact hd4
    refine ⟨_, rfl, _, rfl, _, rfl, _, rfl, _, _, rfl, rfl, sc, wi + 1, Tx, _, _, b, _, rfl, S3, tl, by omega, hd4', .inr ⟨41, r, rfl, .inr (.inr rfl)⟩, okb, dd.2.1, by omega, by omega, fun v2 H4 T4 S4 B4 => ?_⟩
    have T3' := T3.mono (keepT_scan S3 B4)
    refine ⟨(by show 4 ≤ sizeLine; decide), fun c hc => ?_⟩
    have G := Same.new hc (.tup [.str "op", .str (stl (cd o)), v1, v2])
    have S5 := S4.same G
    have ec : upd H4 c (.tup [.str "op", .str (stl (cd o)), v1, v2]) c = some (.tup [.str "op", .str o, v1, v2]) := upd_same
    have T5 := T4.mono (keepT_same G)
    have T5' := T3'.mono (keepT_same G)
    generalize upd H4 c (.tup [.str "op", .str (stl (cd o)), v1, v2]) = H5 at G S5 ec T5 T5'
    obtain ⟨dx5, fs5, hs5, sf5⟩ := id S5
    refine ⟨_, rfl, sc, dx5, fs5, rfl, hs5, sf5.no3, sc, Tx, _, _, _, rfl, S5, starts_yes (r := r) (by rw [lit_pc, show p + 1 + o.length + 1 + a.txt.length + 1 + b.txt.length = p + (0 + 1) + o.length + (0 + 1) + a.txt.length + (0 + 1) + b.txt.length by omega]; exact hd6) (by omega), by rw [l3]; decide, fun H6 S6 B6 => ?_⟩
    rw [l3] at S6
    have k6 := keepT_scan S5 B6
    refine ⟨_, rfl, ?_⟩
    rw [show p + 1 + o.length + 1 + a.txt.length + 1 + b.txt.length + 1 = p + (Tm.op o a b).txt.length by rw [tlen]; omega, show k + 1 + a.size + b.size = k + (Tm.op o a b).size by rw [es]; omega] at S6
    exact q _ _ (.op (k6 _ _ ec) (T5'.mono k6) (T5.mono k6)) S6 (B1.trans (B2.trans (B3.trans (B4.trans ((SameBut.of G).trans B6)))))
theorem sc_next_term : FnScope ["scan", "within", "word"] ["scan", "within"] (defScope s_next_term) := ⟨rfl, rfl, rfl, by decide +kernel, rfl, by decide +kernel, by decide +kernel⟩
theorem num_notplain {n : Int} (h : 0 ≤ n) : numT n ∉ plainW := fun hm => by
  obtain ⟨_, w1, wl, _⟩ := plain_ok _ hm
  cases e : cd (numT n) with
  | nil =>
    have := cd_len (numT n)
    rw [e] at this
    simp at this
    omega
  | cons c r =>
    have h1 := num_dig h c (by rw [e]; exact List.mem_cons_self)
    have h2 := wl c (by show c ∈ cd (numT n); rw [e]; exact List.mem_cons_self)
    omega
theorem plain_kept : ∀ w ∈ plainW, w ∈ kept := by decide +kernel
theorem nt_step {n : Nat} {f C fE fS fT fW fF : Addr} {fd dE dS dT dW dF : FuncData} (F : Fun K "next_term" "next_term" s_next_term f fd) (B : Bl mg) (X : Tx K mg) (T : STxt K mg C) (M : Mths P w K mg base C fE fS fT fW fF dE dS dT dW dF) (C_is_name : Cal P w K mg base 1 "is_name" ["text"] (spTxt nameB)) (C_is_figures : Cal P w K mg base 1 "is_figures" ["text"] (spTxt figB)) (C_term_in_bracket : Cal P w K mg base (2 * n + 4) "term_in_bracket" ["scan", "within"] (spTB C n)) : FnOk P w K mg base CX0 (2 * (n + 1) + 3) f fd ["scan", "within"] (spNextT C (n + 1)) := by
  refine F.ok sc_next_term (fun vs H Q E h => ?_) (fun cdv A outer s H vs Q E hr h => ?_)
  · obtain ⟨sc, wi, Tx, p, k, t, r, rfl, _⟩ := h
    rfl
  obtain ⟨sc, wi, Tx, p, k, t, r, rfl, S0, tl, pl, hd, er, ok, dn, wd, k20, q⟩ := h
  obtain ⟨ja, gj, hj⟩ := X.plain
  have hr1 : Room 1 _ := hr.mono (by omega)
  have hr2 : Room 2 _ := hr.mono (by omega)
  refine ⟨_, (pss_cons (ps_expr (pe_meth (pv 0) T.cl M.mT M.gT hr2 M.bT .nil pass0 (pa_cons pe_str pa_nil)))
      (pss_cons (ps_expr (pe_meth (pv 0) T.cl M.mE M.gE hr1 M.bE .nil pass0 (pa_cons (pv 1) pa_nil)))
      (pss_cons (ps_if (pt_val (pe_meth (pv 0) T.cl M.mS M.gS hr1 M.bS .nil pass0 (pa_cons pe_str pa_nil))) (pss_one (ps_ret (pe_cal C_term_in_bracket hr (by omega) rfl (pa_cons (pv 0) (pa_cons (pv 1) pa_nil))))) pss_nil)
      (pss_cons (ps_set (i := 2) sc_next_term.nd rfl (Or.inl rfl) (pe_meth0 (pv 0) T.cl M.mW M.gW hr1 M.bW .nil pass0))
      (pss_cons (ps_if (pt_cmpR op_in_seq (pv 2) (pe_glob (v := .ref ja) rfl gj rfl) (by with_unfolding_all rfl)) (pss_one (ps_ret (pe_tup (pa_cons (pv 2) pa_nil)))) pss_nil)
      (pss_cons (ps_if (pt_val (pe_cal C_is_figures hr (by omega) rfl (pa_cons (pv 2) pa_nil))) (pss_one (ps_ret (pe_tup (pa_cons pe_str (pa_cons (pe_callTy call_int_text rfl B.int boot_int' (pa_cons (pv 2) pa_nil)) pa_nil))))) pss_nil)
      (pss_cons (ps_if (pt_not (pt_val (pe_cal C_is_name hr (by omega) rfl (pa_cons (pv 2) pa_nil)))) pss_never pss_nil)
      (pss_one (ps_ret (pe_tup (pa_cons pe_str (pa_cons (pv 2) pa_nil)))))))))))), ?_⟩
  have l2 : ((" " : Str)).length = 1 := by decide +kernel
  have dp := t.depth_pos
  have sp := t.size_pos
  have hl0 := len_app hd pl
  have hd1 := drop_app hd
  simp only [List.length_append, List.length_cons, List.length_nil] at hl0 hd1
  obtain ⟨dx0, fs0, hs0, sf0⟩ := id S0
  refine ⟨_, rfl, sc, dx0, fs0, rfl, hs0, sf0.no3, sc, Tx, _, p, _, rfl, S0, starts_yes (r := t.txt ++ r) (by rw [lit_sp]; exact hd) pl, by rw [l2]; decide, fun H1 S1 B1 => ?_⟩
  rw [l2] at S1
  obtain ⟨dx1, fs1, hs1, sf1⟩ := id S1
  refine ⟨_, rfl, sc, dx1, fs1, rfl, hs1, sf1.no1, _, rfl, sc, Tx, _, k, wi, rfl, S1, by omega, by omega, fun H2 S2 B2 => ?_⟩
  obtain ⟨dx2, fs2, hs2, sf2⟩ := id S2
  refine ⟨_, rfl, sc, dx2, fs2, rfl, hs2, sf2.no2, sc, Tx, _, _, _, rfl, S2, _, rfl, ?_⟩
  have shape : (((∃ w a, t = .ask w a) ∨ ∃ s a b, t = .op s a b) ∧ ∃ z, t.txt = 40 :: z) ∨ ∃ x : Str, t.txt = cd x ∧ PlainC (cd x) ∧ 1 ≤ x.length ∧ t.size = 1 ∧ ((t = .plain x ∧ x ∈ plainW) ∨ (∃ m, t = .num m ∧ x = numT m ∧ 0 ≤ m ∧ m < 1000000000000) ∨ (t = .box x ∧ NmK x)) := by
    cases t with
    | ask w a => exact .inl ⟨.inl ⟨w, a, rfl⟩, _, rfl⟩
    | op s a b => exact .inl ⟨.inr ⟨s, a, b, rfl⟩, _, rfl⟩
    | plain x =>
      have okx : x ∈ plainW := ok
      obtain ⟨_, w1, wl, _⟩ := plain_ok x okx
      exact .inr ⟨x, rfl, plainC_let wl, w1, rfl, .inl ⟨rfl, okx⟩⟩
    | num m => exact .inr ⟨numT m, rfl, plainC_num ok.1, num_len1 ok.1, rfl, .inr (.inl ⟨m, rfl, rfl, ok.1, ok.2⟩)⟩
    | box x =>
      have okx : NmK x := ok
      exact .inr ⟨x, rfl, plainC_let okx.1, okx.2.1, rfl, .inr (.inr ⟨rfl, okx⟩)⟩
  rcases shape with ⟨kind, z, ez⟩ | ⟨x, et, pc, x1, s1, kd⟩
  · have hs : startsAt Tx ("(" : Str) ((p + 1 : Nat) : Int) = true := starts_yes (r := z ++ r) (by rw [lit_po]; show _ = 40 :: (z ++ r); rw [hd1, ez]; rfl) (by omega)
    rw [hs]
    refine iteT ?_
    refine ⟨_, rfl, _, rfl, sc, wi, Tx, p + 1, k, t, r, rfl, S2, tl, by omega, hd1, ok, kind, dn, wd, k20, fun v H3 T3 S3 B3 => ?_⟩
    exact q v H3 T3 S3 (B1.trans (B2.trans B3))
  obtain ⟨c, r', hc, c40⟩ := plainC_ne pc (by rw [cd_len]; exact x1) r
  have hd' : Tx.cps.toList.drop (p + 1) = cd x ++ r := by rw [hd1, et]
  rw [starts_no (hd'.trans hc) c40]
  refine iteF ?_
  refine ⟨_, rfl, sc, dx2, fs2, rfl, hs2, sf2.no4, sc, Tx, _, _, cd x, r, rfl, S2, tl, by omega, hd', pc, er, fun H3 S3 B3' => ?_⟩
  rw [show stl (cd x) = x from stl_of _]
  rw [← et, ← s1] at S3
  have B3 : SameBut sc H H3 := B1.trans (B2.trans B3')
  refine ⟨_, rfl, ja, _, rfl, .inr (hj _), rfl, (by decide), _, rfl, ?_⟩
  show if inV (.str x) (plainW.map V.str) = true then _ else _
  rw [in_strs]
  rcases kd with ⟨rfl, okx⟩ | ⟨m, rfl, rfl, m0, m1⟩ | ⟨rfl, okx⟩
  · refine iteD okx ?_
    refine ⟨_, rfl, (by show 1 ≤ sizeLine; decide), fun c hc => ?_⟩
    have G := Same.new hc (.tup [.str x])
    exact q _ _ (.plain upd_same) (S3.same G) (B3.trans (SameBut.of G))
  · refine iteDF (num_notplain m0) ?_
    have nl := num_len m0 m1
    refine ⟨_, rfl, numT m, rfl, by omega, fun H4 S4 => ⟨_, rfl, ?_⟩⟩
    rw [num_fig m0 m1]
    refine iteT ?_
    refine ⟨_, rfl, numT m, m, rfl, num_int m0 m1, by omega, (by show 2 ≤ sizeLine; decide), fun c hc => ?_⟩
    have G := Same.new hc (.tup [.str "num", .int m])
    exact q _ _ (.num upd_same) ((S3.same S4).same G) (B3.trans (SameBut.of (S4.trans G)))
  · obtain ⟨xl, _, x6, xk⟩ := id okx
    refine iteDF (fun h => xk (plain_kept x h)) ?_
    refine ⟨_, rfl, x, rfl, by omega, fun H4 S4 => ⟨_, rfl, ?_⟩⟩
    rw [figB_name okx]
    refine iteF ?_
    refine ⟨_, rfl, x, rfl, by omega, fun H5 S5 => ⟨_, rfl, ?_⟩⟩
    rw [nameB_K okx]
    refine iteF ?_
    refine ⟨_, rfl, (by show 2 ≤ sizeLine; decide), fun c hc => ?_⟩
    have G := Same.new hc (.tup [.str "box", .str x])
    exact q _ _ (.box upd_same) (((S3.same S4).same S5).same G) (B3.trans (SameBut.of (S4.trans (S5.trans G))))
theorem nt_zero {f C : Addr} {fd : FuncData} : FnOk P w K mg base CX0 3 f fd ["scan", "within"] (spNextT C 0) := by
  have no : ∀ vs H Q E, ¬ spNextT C 0 vs H Q E := fun vs H Q E h => by
    obtain ⟨_, _, _, _, _, t, _, _, _, _, _, _, _, _, h1, _⟩ := h
    have := t.depth_pos
    omega
  exact ⟨fun vs H Q E h => absurd h (no vs H Q E), fun A outer s H args us vs Q E _ _ _ _ h => absurd h (no vs H Q E)⟩
theorem ok_next_term {f fj C fE fS fT fW fF : Addr} {fd fdj dE dS dT dW dF : FuncData} (F : Fun K "next_term" "next_term" s_next_term f fd) (m : mg "next_term" = some (.ref f)) (Fj : Fun K "term_in_bracket" "term_in_bracket" s_term_in_bracket fj fdj) (mj : mg "term_in_bracket" = some (.ref fj)) (B : Bl mg) (X : Tx K mg) (T : STxt K mg C) (M : Mths P w K mg base C fE fS fT fW fF dE dS dT dW dF) (C_is_name : Cal P w K mg base 1 "is_name" ["text"] (spTxt nameB)) (C_is_figures : Cal P w K mg base 1 "is_figures" ["text"] (spTxt figB)) :
    ∀ n : Nat, FnOk P w K mg base CX0 (2 * n + 3) f fd ["scan", "within"] (spNextT C n)
  | 0 => nt_zero
  | n + 1 =>
    have c1 := Cal.of F (ok_next_term F m Fj mj B X T M C_is_name C_is_figures n) m (fun _ _ _ _ _ _ us hl => by obtain ⟨u0, u1, rfl⟩ := len2 hl; rfl)
    nt_step F B X T M C_is_name C_is_figures (Cal.of Fj (tb_step Fj X T M c1) mj (fun _ _ _ _ _ _ us hl => by obtain ⟨u0, u1, rfl⟩ := len2 hl; rfl))
def spNextN (C : Addr) : Sp := fun vs H Q _ => ∃ (sc : Addr) (T : Str) (p k : Nat) (x : Str) (r : List Nat), vs = [.ref sc] ∧ ScanAt C H sc T p k ∧ T.length ≤ 1000 ∧ p ≤ T.length ∧ T.cps.toList.drop p = [32] ++ (cd x ++ r) ∧ EndOk r ∧ NmK x ∧ ∀ H', ScanAt C H' sc T (p + 1 + x.length) k → SameBut sc H H' → Q (.str x) H'
theorem sc_next_name : FnScope ["scan", "word"] ["scan"] (defScope s_next_name) := ⟨rfl, rfl, rfl, by decide +kernel, rfl, by decide +kernel, by decide +kernel⟩
theorem ok_next_name {f C fE fS fT fW fF : Addr} {fd dE dS dT dW dF : FuncData} (F : Fun K "next_name" "next_name" s_next_name f fd) (T : STxt K mg C) (M : Mths P w K mg base C fE fS fT fW fF dE dS dT dW dF) (C_is_name : Cal P w K mg base 1 "is_name" ["text"] (spTxt nameB)) : FnOk P w K mg base CX0 3 f fd ["scan"] (spNextN C) := by
  refine F.ok sc_next_name (fun vs H Q E h => ?_) (fun cdv A outer s H vs Q E hr h => ?_)
  · obtain ⟨sc, Tx, p, k, x, r, rfl, _⟩ := h
    rfl
  obtain ⟨sc, Tx, p, k, x, r, rfl, S0, tl, pl, hd, er, ok, q⟩ := h
  have hr1 : Room 1 _ := hr.mono (by omega)
  have hr2 : Room 2 _ := hr.mono (by omega)
  refine ⟨_, (pss_cons (ps_expr (pe_meth (pv 0) T.cl M.mT M.gT hr2 M.bT .nil pass0 (pa_cons pe_str pa_nil)))
      (pss_cons (ps_set (i := 1) sc_next_name.nd rfl (Or.inl rfl) (pe_meth0 (pv 0) T.cl M.mW M.gW hr1 M.bW .nil pass0))
      (pss_cons (ps_if (pt_not (pt_val (pe_cal C_is_name hr (by omega) rfl (pa_cons (pv 1) pa_nil)))) pss_never pss_nil)
      (pss_one (ps_ret (pv 1)))))), ?_⟩
  have l2 : ((" " : Str)).length = 1 := by decide +kernel
  have hl0 := len_app hd pl
  have hd1 := drop_app hd
  simp only [List.length_append, List.length_cons, List.length_nil] at hl0 hd1
  obtain ⟨dx0, fs0, hs0, sf0⟩ := id S0
  refine ⟨_, rfl, sc, dx0, fs0, rfl, hs0, sf0.no3, sc, Tx, _, p, _, rfl, S0, starts_yes (r := cd x ++ r) (by rw [lit_sp]; exact hd) pl, by rw [l2]; decide, fun H1 S1 B1 => ?_⟩
  rw [l2] at S1
  obtain ⟨dx1, fs1, hs1, sf1⟩ := id S1
  refine ⟨_, rfl, sc, dx1, fs1, rfl, hs1, sf1.no4, sc, Tx, _, _, cd x, r, rfl, S1, tl, by omega, hd1, plainC_let ok.1, er, fun H2 S2 B2 => ?_⟩
  rw [show stl (cd x) = x from stl_of _]
  rw [cd_len] at S2
  have x6 := ok.2.2.1
  refine ⟨_, rfl, x, rfl, by omega, fun H3 S3 => ⟨_, rfl, ?_⟩⟩
  rw [nameB_K ok]
  refine iteF ?_
  exact ⟨_, rfl, q H3 (S2.same S3) (B1.trans (B2.trans (SameBut.of S3)))⟩
def spNextF (C : Addr) : Sp := fun vs H Q _ => ∃ (sc : Addr) (T : Str) (p k : Nat) (m : Int) (r : List Nat), vs = [.ref sc] ∧ ScanAt C H sc T p k ∧ T.length ≤ 1000 ∧ p ≤ T.length ∧ T.cps.toList.drop p = [32] ++ (cd (numT m) ++ r) ∧ EndOk r ∧ 0 ≤ m ∧ m < 1000000000000 ∧ ∀ H', ScanAt C H' sc T (p + 1 + (numT m).length) k → SameBut sc H H' → Q (.int m) H'
theorem sc_next_figures : FnScope ["scan", "word"] ["scan"] (defScope s_next_figures) := ⟨rfl, rfl, rfl, by decide +kernel, rfl, by decide +kernel, by decide +kernel⟩
theorem ok_next_figures {f C fE fS fT fW fF : Addr} {fd dE dS dT dW dF : FuncData} (F : Fun K "next_figures" "next_figures" s_next_figures f fd) (B : Bl mg) (T : STxt K mg C) (M : Mths P w K mg base C fE fS fT fW fF dE dS dT dW dF) (C_is_figures : Cal P w K mg base 1 "is_figures" ["text"] (spTxt figB)) : FnOk P w K mg base CX0 3 f fd ["scan"] (spNextF C) := by
  refine F.ok sc_next_figures (fun vs H Q E h => ?_) (fun cdv A outer s H vs Q E hr h => ?_)
  · obtain ⟨sc, Tx, p, k, m, r, rfl, _⟩ := h
    rfl
  obtain ⟨sc, Tx, p, k, m, r, rfl, S0, tl, pl, hd, er, m0, m1, q⟩ := h
  have hr1 : Room 1 _ := hr.mono (by omega)
  have hr2 : Room 2 _ := hr.mono (by omega)
  refine ⟨_, (pss_cons (ps_expr (pe_meth (pv 0) T.cl M.mT M.gT hr2 M.bT .nil pass0 (pa_cons pe_str pa_nil)))
      (pss_cons (ps_set (i := 1) sc_next_figures.nd rfl (Or.inl rfl) (pe_meth0 (pv 0) T.cl M.mW M.gW hr1 M.bW .nil pass0))
      (pss_cons (ps_if (pt_not (pt_val (pe_cal C_is_figures hr (by omega) rfl (pa_cons (pv 1) pa_nil)))) pss_never pss_nil)
      (pss_one (ps_ret (pe_callTy call_int_text rfl B.int boot_int' (pa_cons (pv 1) pa_nil))))))), ?_⟩
  have l2 : ((" " : Str)).length = 1 := by decide +kernel
  have hl0 := len_app hd pl
  have hd1 := drop_app hd
  simp only [List.length_append, List.length_cons, List.length_nil] at hl0 hd1
  have nl := num_len m0 m1
  obtain ⟨dx0, fs0, hs0, sf0⟩ := id S0
  refine ⟨_, rfl, sc, dx0, fs0, rfl, hs0, sf0.no3, sc, Tx, _, p, _, rfl, S0, starts_yes (r := cd (numT m) ++ r) (by rw [lit_sp]; exact hd) pl, by rw [l2]; decide, fun H1 S1 B1 => ?_⟩
  rw [l2] at S1
  obtain ⟨dx1, fs1, hs1, sf1⟩ := id S1
  refine ⟨_, rfl, sc, dx1, fs1, rfl, hs1, sf1.no4, sc, Tx, _, _, cd (numT m), r, rfl, S1, tl, by omega, hd1, plainC_num m0, er, fun H2 S2 B2 => ?_⟩
  rw [show stl (cd (numT m)) = numT m from stl_of _]
  rw [cd_len] at S2
  refine ⟨_, rfl, numT m, rfl, by omega, fun H3 S3 => ⟨_, rfl, ?_⟩⟩
  rw [num_fig m0 m1]
  refine iteF ?_
  exact ⟨_, rfl, numT m, m, rfl, num_int m0 m1, by omega, q H3 (S2.same S3) (B1.trans (B2.trans (SameBut.of S3)))⟩
theorem iteNT {c A B : Prop} [Decidable c] (hc : c) (h : B) : if (!decide c) = true then A else B := by
  rw [decide_eq_true hc]
  exact iteF h
def Hr.wd : Hr → Str
  | .fin => "end" | .go _ => "go" | .iff _ _ => "if" | .set _ _ => "set" | .say _ => "say"
def Hr.rest : Hr → List Nat
  | .fin => [] | .go n => [32] ++ cd (numT n) | .iff t n => [32] ++ (t.txt ++ ([32] ++ cd (numT n))) | .set x t => [32] ++ (cd x ++ ([32] ++ t.txt)) | .say t => [32] ++ t.txt
theorem Hr.codes (r : Hr) : r.str.cps.toList = cd r.wd ++ r.rest := by
  cases r with
  | fin => decide +kernel
  | go n =>
    rw [show (Hr.go n).str = (("go" : Str) ++ (" " : Str)) ++ numT n from rfl, cat_list, cat_list, lit_sp]
    show (cd "go" ++ [32]) ++ cd (numT n) = cd "go" ++ ([32] ++ cd (numT n))
    simp
  | iff t n =>
    rw [show (Hr.iff t n).str = (((("if" : Str) ++ (" " : Str)) ++ t.str) ++ (" " : Str)) ++ numT n from rfl]
    simp only [cat_list, lit_sp]
    show (((cd "if" ++ [32]) ++ t.txt) ++ [32]) ++ cd (numT n) = cd "if" ++ ([32] ++ (t.txt ++ ([32] ++ cd (numT n))))
    simp
  | set x t =>
    rw [show (Hr.set x t).str = (((("set" : Str) ++ (" " : Str)) ++ x) ++ (" " : Str)) ++ t.str from rfl]
    simp only [cat_list, lit_sp]
    show (((cd "set" ++ [32]) ++ cd x) ++ [32]) ++ t.txt = cd "set" ++ ([32] ++ (cd x ++ ([32] ++ t.txt)))
    simp
  | say t =>
    rw [show (Hr.say t).str = (("say" : Str) ++ (" " : Str)) ++ t.str from rfl, cat_list, cat_list, lit_sp]
    show (cd "say" ++ [32]) ++ t.txt = cd "say" ++ ([32] ++ t.txt)
    simp
theorem five_ok : ∀ x ∈ (["end", "go", "if", "set", "say"] : List Str), ∀ c ∈ x.cps.toList, 97 ≤ c ∧ c ≤ 122 := by decide +kernel
theorem Hr.wd_ok (r : Hr) : PlainC (cd r.wd) := by
  cases r with
  | fin => exact plainC_let (five_ok "end" (by decide +kernel))
  | go n => exact plainC_let (five_ok "go" (by decide +kernel))
  | iff t n => exact plainC_let (five_ok "if" (by decide +kernel))
  | set x t => exact plainC_let (five_ok "set" (by decide +kernel))
  | say t => exact plainC_let (five_ok "say" (by decide +kernel))
theorem Hr.rest_ok (r : Hr) : EndOk r.rest := by
  cases r with
  | fin => exact .inl rfl
  | go n => exact .inr ⟨32, _, rfl, .inl rfl⟩
  | iff t n => exact .inr ⟨32, _, rfl, .inl rfl⟩
  | set x t => exact .inr ⟨32, _, rfl, .inl rfl⟩
  | say t => exact .inr ⟨32, _, rfl, .inl rfl⟩
def spHRow : Sp := fun vs H Q _ => ∃ (r : Hr) (k : Int), vs = [.str r.str, .int k] ∧ r.ok 20 ∧ ∀ (v : V) (H' : Hp), HrAt H' v r → Same H H' → Q v H'
theorem sc_helper_row : FnScope ["text", "number", "scan", "word", "row"] ["text", "number"] (defScope s_helper_row) := ⟨rfl, rfl, rfl, by decide +kernel, rfl, by decide +kernel, by decide +kernel⟩
theorem ok_helper_row {f C fI fE fS fT fW fF : Addr} {fd fdI dE dS dT dW dF : FuncData} (F : Fun K "helper_row" "helper_row" s_helper_row f fd) (X : Tx K mg) (T : STxt K mg C) (M : Mths P w K mg base C fE fS fT fW fF dE dS dT dW dF) (MK : Mk K C fI) (GI : FnOk P w K mg base CX0 1 fI fdI ["self", "text", "row", "most_within", "most_parts"] (spSInit C)) (bI : Binds K fdI ["self", "text", "row", "most_within", "most_parts"] [])
    (C_next_name : Cal P w K mg base 3 "next_name" ["scan"] (spNextN C)) (C_next_figures : Cal P w K mg base 3 "next_figures" ["scan"] (spNextF C)) (C_next_term : Cal P w K mg base 19 "next_term" ["scan", "within"] (spNextT C 8)) : FnOk P w K mg base CX0 20 f fd ["text", "number"] spHRow := by
  refine F.ok sc_helper_row (fun vs H Q E h => ?_) (fun cdv A outer s H vs Q E hr h => ?_)
  · obtain ⟨r, k, rfl, _⟩ := h
    rfl
  obtain ⟨r, k, rfl, ok, q⟩ := h
  obtain ⟨tw, gw⟩ := X.within
  obtain ⟨tp, gp⟩ := X.parts
  have hr1 : Room 1 _ := hr.mono (by decide)
  have hr2 : Room 2 _ := hr.mono (by decide)
  refine ⟨_, (pss_cons (ps_set (i := 2) sc_helper_row.nd rfl (Or.inl rfl) (pe_make MK GI hr2 rfl T.mgC bI .nil pass0 (pa_cons (pv 0) (pa_cons (pv 1) (pa_cons (pe_glob (v := .int 8) rfl gw ⟨_, rfl⟩) (pa_cons (pe_glob (v := .int 20) rfl gp ⟨_, rfl⟩) pa_nil))))))
      (pss_cons (ps_set (i := 3) sc_helper_row.nd rfl (Or.inl rfl) (pe_meth0 (pv 2) T.cl M.mW M.gW hr1 M.bW .nil pass0))
      (pss_cons (ps_set (i := 4) sc_helper_row.nd rfl (Or.inl rfl) (pe_tup (pa_cons (pv 3) pa_nil)))
      (pss_cons (ps_if (pt_cmpR op_eq (pv 3) pe_str (nomark _)) (pss_one (ps_set (i := 4) sc_helper_row.nd rfl (Or.inl rfl) (pe_op op_catT (pv 4) (pe_tup (pa_cons (pe_cal C_next_name hr (by decide) rfl (pa_cons (pv 2) pa_nil)) (pa_cons (pe_cal C_next_term hr (by decide) rfl (pa_cons (pv 2) (pa_cons pe_int pa_nil))) pa_nil)))))) (pss_one (ps_if (pt_cmpR op_eq (pv 3) pe_str (nomark _)) (pss_one (ps_set (i := 4) sc_helper_row.nd rfl (Or.inl rfl) (pe_op op_catT (pv 4) (pe_tup (pa_cons (pe_cal C_next_term hr (by decide) rfl (pa_cons (pv 2) (pa_cons pe_int pa_nil))) pa_nil))))) (pss_one (ps_if (pt_cmpR op_eq (pv 3) pe_str (nomark _)) (pss_one (ps_set (i := 4) sc_helper_row.nd rfl (Or.inl rfl) (pe_op op_catT (pv 4) (pe_tup (pa_cons (pe_cal C_next_term hr (by decide) rfl (pa_cons (pv 2) (pa_cons pe_int pa_nil))) (pa_cons (pe_cal C_next_figures hr (by decide) rfl (pa_cons (pv 2) pa_nil)) pa_nil)))))) (pss_one (ps_if (pt_cmpR op_eq (pv 3) pe_str (nomark _)) (pss_one (ps_set (i := 4) sc_helper_row.nd rfl (Or.inl rfl) (pe_op op_catT (pv 4) (pe_tup (pa_cons (pe_cal C_next_figures hr (by decide) rfl (pa_cons (pv 2) pa_nil)) pa_nil))))) (pss_one (ps_if (pt_cmpR op_ne (pv 3) pe_str (nomark _)) pss_never pss_nil)))))))))
      (pss_cons (ps_expr (pe_meth0 (pv 2) T.cl M.mF M.gF hr1 M.bF .nil pass0))
      (pss_one (ps_ret (pv 4)))))))), ?_⟩
  refine ⟨_, rfl, _, rfl, fun g dx nx ndx nex => ?_⟩
  have s3 : Same H (upd (upd H dx (.own g)) g (.ins C dx [])) := fun b o e => by
    rw [upd_ne (ne_of_none e nx), upd_ne (ne_of_none e ndx)]
    exact e
  refine ⟨g, dx, r.str, k, rfl, upd_same, fun H1 S1 B1 => ⟨rfl, ?_⟩⟩
  have N1 : Same H H1 := fun b o e => B1 b o (ne_of_none e nx) (s3 b o e)
  have tl : r.str.length ≤ 1000 := Nat.le_trans (Hr.str_len ok) (by decide)
  have hc := r.codes
  have hlen : r.str.length = r.wd.length + r.rest.length := by
    have := congrArg List.length hc
    rw [len_list, List.length_append, cd_len] at this
    exact this
  have hd0 : r.str.cps.toList.drop 0 = cd r.wd ++ r.rest := by rw [List.drop_zero]; exact hc
  obtain ⟨dx1, fs1, hs1, sf1⟩ := id S1
  refine ⟨_, rfl, g, dx1, fs1, rfl, hs1, sf1.no4, g, r.str, 0, 0, cd r.wd, r.rest, rfl, S1, tl, Nat.zero_le _, hd0, r.wd_ok, r.rest_ok, fun H2 S2 B2 => ?_⟩
  rw [show stl (cd r.wd) = r.wd from stl_of _]
  have hd1 := drop_app hd0
  rw [cd_len] at S2 hd1
  have N2 : Same H H2 := fun b o e => B2 b o (ne_of_none e nx) (N1 b o e)
  refine ⟨_, rfl, (by show 1 ≤ sizeLine; decide), fun a ha => ?_⟩
  have Ga := Same.new ha (.tup [.str r.wd])
  have ea : upd H2 a (.tup [.str r.wd]) a = some (.tup [.str r.wd]) := upd_same
  have S3 := S2.same Ga
  generalize upd H2 a (.tup [.str r.wd]) = H3 at Ga ea S3
  have N3 := N2.trans Ga
  have isF : ∀ {x y : Str}, x ≠ y → ¬ V.str x = V.str y := fun h => ne_str h
  cases r with
  | fin =>
    refine ⟨_, rfl, rfl, _, rfl, ?_⟩
    refine iteDF (isF (x := "end") (by decide +kernel)) ?_
    refine ⟨_, rfl, rfl, _, rfl, ?_⟩
    refine iteDF (isF (x := "end") (by decide +kernel)) ?_
    refine ⟨_, rfl, rfl, _, rfl, ?_⟩
    refine iteDF (isF (x := "end") (by decide +kernel)) ?_
    refine ⟨_, rfl, rfl, _, rfl, ?_⟩
    refine iteDF (isF (x := "end") (by decide +kernel)) ?_
    refine ⟨_, rfl, rfl, _, rfl, ?_⟩
    refine iteNT rfl ?_
    obtain ⟨dx3, fs3, hs3, sf3⟩ := id S3
    have el : 0 + (Hr.fin).wd.length = (Hr.fin).str.length := by rw [hlen]; show 0 + _ = _ + 0; omega
    rw [el] at S3
    refine ⟨_, rfl, g, dx3, fs3, rfl, hs3, sf3.no5, g, _, _, rfl, S3, tl, ?_⟩
    exact ⟨_, rfl, q _ H3 (.fin ea) N3⟩
  | go n =>
    refine ⟨_, rfl, rfl, _, rfl, ?_⟩
    refine iteDF (isF (x := "go") (by decide +kernel)) ?_
    refine ⟨_, rfl, rfl, _, rfl, ?_⟩
    refine iteDF (isF (x := "go") (by decide +kernel)) ?_
    refine ⟨_, rfl, rfl, _, rfl, ?_⟩
    refine iteDF (isF (x := "go") (by decide +kernel)) ?_
    refine ⟨_, rfl, rfl, _, rfl, ?_⟩
    refine iteD rfl ?_
    have hrl : (Hr.go n).rest.length = 1 + (numT n).length := by
      show ([32] ++ cd (numT n)).length = _
      rw [List.length_append, cd_len]
      rfl
    refine ⟨_, rfl, _, rfl, g, _, _, _, n, [], rfl, S3, tl, by omega, by rw [hd1]; show [32] ++ cd (numT n) = [32] ++ (cd (numT n) ++ []); rw [List.append_nil], .inl rfl, ok.1, ok.2, fun H4 S4 B4 => ?_⟩
    have ea4 := keepT_scan S3 B4 _ _ ea
    refine ⟨(by show 1 ≤ sizeLine; decide), fun b hb => ?_⟩
    have Gb := Same.new hb (.tup [.int n])
    refine ⟨a, b, _, _, rfl, rfl, SqT.of (Gb _ _ ea4), SqT.of upd_same, by simp, (by show 2 ≤ sizeLine; decide), fun z => (by cases z), fun _ p hp => ?_⟩
    have Gp := Same.new hp (.tup ([V.str (Hr.go n).wd] ++ [V.int n]))
    have S5 := (S4.same Gb).same Gp
    have ep : upd (upd H4 b (.tup [.int n])) p (.tup ([V.str (Hr.go n).wd] ++ [V.int n])) p = some (.tup [.str "go", .int n]) := upd_same
    have N5 := Gb.trans Gp
    generalize upd (upd H4 b (.tup [.int n])) p (.tup ([V.str (Hr.go n).wd] ++ [V.int n])) = H5 at S5 ep N5
    rw [show 0 + (Hr.go n).wd.length + 1 + (numT n).length = (Hr.go n).str.length by omega] at S5
    obtain ⟨dx5, fs5, hs5, sf5⟩ := id S5
    refine ⟨_, rfl, g, dx5, fs5, rfl, hs5, sf5.no5, g, _, _, rfl, S5, tl, ?_⟩
    exact ⟨_, rfl, q _ H5 (.go ep) fun c o e => N5 _ _ (B4 c o (ne_of_none e nx) (N3 c o e))⟩
  | say t =>
    refine ⟨_, rfl, rfl, _, rfl, ?_⟩
    refine iteDF (isF (x := "say") (by decide +kernel)) ?_
    refine ⟨_, rfl, rfl, _, rfl, ?_⟩
    refine iteD rfl ?_
    have hrl : (Hr.say t).rest.length = 1 + t.txt.length := by
      show ([32] ++ t.txt).length = _
      rw [List.length_append]
      rfl
    have ok' : t.fit 20 := ok
    refine ⟨_, rfl, _, rfl, g, 1, _, _, _, t, [], rfl, S3, tl, by omega, by rw [hd1]; show [32] ++ t.txt = [32] ++ (t.txt ++ []); rw [List.append_nil], .inl rfl, ok'.1, ok'.2.2, by have := ok'.2.2; omega, by have := ok'.2.1; omega, fun v H4 T4 S4 B4 => ?_⟩
    have ea4 := keepT_scan S3 B4 _ _ ea
    refine ⟨(by show 1 ≤ sizeLine; decide), fun b hb => ?_⟩
    have Gb := Same.new hb (.tup [v])
    refine ⟨a, b, _, _, rfl, rfl, SqT.of (Gb _ _ ea4), SqT.of upd_same, by simp, (by show 2 ≤ sizeLine; decide), fun z => (by cases z), fun _ p hp => ?_⟩
    have Gp := Same.new hp (.tup ([V.str (Hr.say t).wd] ++ [v]))
    have S5 := (S4.same Gb).same Gp
    have ep : upd (upd H4 b (.tup [v])) p (.tup ([V.str (Hr.say t).wd] ++ [v])) p = some (.tup [.str "say", v]) := upd_same
    have N5 := Gb.trans Gp
    generalize upd (upd H4 b (.tup [v])) p (.tup ([V.str (Hr.say t).wd] ++ [v])) = H5 at S5 ep N5
    rw [show 0 + (Hr.say t).wd.length + 1 + t.txt.length = (Hr.say t).str.length by omega] at S5
    obtain ⟨dx5, fs5, hs5, sf5⟩ := id S5
    refine ⟨_, rfl, g, dx5, fs5, rfl, hs5, sf5.no5, g, _, _, rfl, S5, tl, ?_⟩
    exact ⟨_, rfl, q _ H5 (.say ep (T4.mono (keepT_same N5))) fun c o e => N5 _ _ (B4 c o (ne_of_none e nx) (N3 c o e))⟩
  | iff t n =>
    refine ⟨_, rfl, rfl, _, rfl, ?_⟩
    refine iteDF (isF (x := "if") (by decide +kernel)) ?_
    refine ⟨_, rfl, rfl, _, rfl, ?_⟩
    refine iteDF (isF (x := "if") (by decide +kernel)) ?_
    refine ⟨_, rfl, rfl, _, rfl, ?_⟩
    refine iteD rfl ?_
    have hrl : (Hr.iff t n).rest.length = 1 + (t.txt.length + (1 + (numT n).length)) := by
      show ([32] ++ (t.txt ++ ([32] ++ cd (numT n)))).length = _
      simp only [List.length_append, List.length_cons, List.length_nil, cd_len]
    obtain ⟨ok', n0, n1⟩ := ok
    have hd2 : (Hr.iff t n).str.cps.toList.drop (0 + (Hr.iff t n).wd.length) = [32] ++ (t.txt ++ ([32] ++ (cd (numT n) ++ []))) := by rw [hd1, List.append_nil]; rfl
    have hd3 := drop_app (drop_app hd2)
    simp only [List.length_cons, List.length_nil] at hd3
    refine ⟨_, rfl, _, rfl, g, 1, _, _, _, t, _, rfl, S3, tl, by omega, hd2, .inr ⟨32, _, rfl, .inl rfl⟩, ok'.1, ok'.2.2, by have := ok'.2.2; omega, by have := ok'.2.1; omega, fun v H4 T4 S4 B4 => ?_⟩
    have ea4 := keepT_scan S3 B4 _ _ ea
    refine ⟨_, rfl, g, _, _, _, n, [], rfl, S4, tl, by omega, hd3, .inl rfl, n0, n1, fun H5 S5 B5 => ?_⟩
    have ea5 := keepT_scan S4 B5 _ _ ea4
    have T5 := T4.mono (keepT_scan S4 B5)
    refine ⟨(by show 2 ≤ sizeLine; decide), fun b hb => ?_⟩
    have Gb := Same.new hb (.tup [v, .int n])
    refine ⟨a, b, _, _, rfl, rfl, SqT.of (Gb _ _ ea5), SqT.of upd_same, by simp, (by show 3 ≤ sizeLine; decide), fun z => (by cases z), fun _ p hp => ?_⟩
    have Gp := Same.new hp (.tup ([V.str (Hr.iff t n).wd] ++ [v, V.int n]))
    have S6 := (S5.same Gb).same Gp
    have ep : upd (upd H5 b (.tup [v, .int n])) p (.tup ([V.str (Hr.iff t n).wd] ++ [v, V.int n])) p = some (.tup [.str "if", v, .int n]) := upd_same
    have N6 := Gb.trans Gp
    generalize upd (upd H5 b (.tup [v, .int n])) p (.tup ([V.str (Hr.iff t n).wd] ++ [v, V.int n])) = H6 at S6 ep N6
    rw [show 0 + (Hr.iff t n).wd.length + 1 + t.txt.length + 1 + (numT n).length = (Hr.iff t n).str.length by omega] at S6
    obtain ⟨dx6, fs6, hs6, sf6⟩ := id S6
    refine ⟨_, rfl, g, dx6, fs6, rfl, hs6, sf6.no5, g, _, _, rfl, S6, tl, ?_⟩
    exact ⟨_, rfl, q _ H6 (.iff ep (T5.mono (keepT_same N6))) fun c o e => N6 _ _ (B5 c o (ne_of_none e nx) (B4 c o (ne_of_none e nx) (N3 c o e)))⟩
  | set x t =>
    refine ⟨_, rfl, rfl, _, rfl, ?_⟩
    refine iteD rfl ?_
    have hrl : (Hr.set x t).rest.length = 1 + (x.length + (1 + t.txt.length)) := by
      show ([32] ++ (cd x ++ ([32] ++ t.txt))).length = _
      simp only [List.length_append, List.length_cons, List.length_nil, cd_len]
    obtain ⟨okx, ok'⟩ := ok
    have hd2 : (Hr.set x t).str.cps.toList.drop (0 + (Hr.set x t).wd.length) = [32] ++ (cd x ++ ([32] ++ (t.txt ++ []))) := by rw [hd1, List.append_nil]; rfl
    have hd3 := drop_app (drop_app hd2)
    simp only [List.length_cons, List.length_nil, cd_len] at hd3
    refine ⟨_, rfl, _, rfl, g, _, _, _, x, _, rfl, S3, tl, by omega, hd2, .inr ⟨32, _, rfl, .inl rfl⟩, okx, fun H4 S4 B4 => ?_⟩
    have ea4 := keepT_scan S3 B4 _ _ ea
    refine ⟨_, rfl, g, 1, _, _, _, t, [], rfl, S4, tl, by omega, hd3, .inl rfl, ok'.1, ok'.2.2, by have := ok'.2.2; omega, by have := ok'.2.1; omega, fun v H5 T5 S5 B5 => ?_⟩
    have ea5 := keepT_scan S4 B5 _ _ ea4
    refine ⟨(by show 2 ≤ sizeLine; decide), fun b hb => ?_⟩
    have Gb := Same.new hb (.tup [.str x, v])
    refine ⟨a, b, _, _, rfl, rfl, SqT.of (Gb _ _ ea5), SqT.of upd_same, by simp, (by show 3 ≤ sizeLine; decide), fun z => (by cases z), fun _ p hp => ?_⟩
    have Gp := Same.new hp (.tup ([V.str (Hr.set x t).wd] ++ [.str x, v]))
    have S6 := (S5.same Gb).same Gp
    have ep : upd (upd H5 b (.tup [.str x, v])) p (.tup ([V.str (Hr.set x t).wd] ++ [.str x, v])) p = some (.tup [.str "set", .str x, v]) := upd_same
    have N6 := Gb.trans Gp
    generalize upd (upd H5 b (.tup [.str x, v])) p (.tup ([V.str (Hr.set x t).wd] ++ [.str x, v])) = H6 at S6 ep N6
    rw [show 0 + (Hr.set x t).wd.length + 1 + x.length + 1 + t.txt.length = (Hr.set x t).str.length by omega] at S6
    obtain ⟨dx6, fs6, hs6, sf6⟩ := id S6
    refine ⟨_, rfl, g, dx6, fs6, rfl, hs6, sf6.no5, g, _, _, rfl, S6, tl, ?_⟩
    exact ⟨_, rfl, q _ H6 (.set ep (T5.mono (keepT_same N6))) fun c o e => N6 _ _ (B5 c o (ne_of_none e nx) (B4 c o (ne_of_none e nx) (N3 c o e)))⟩
theorem Tm.txt_hi : ∀ t : Tm, t.ok → ∀ c ∈ t.txt, 32 ≤ c
  | .num n, h, c, hc => by have := num_dig h.1 c hc; omega
  | .box x, h, c, hc => by have := h.1 c hc; omega
  | .plain w, h, c, hc => by have := (plain_ok w h).2.2.1 c hc; omega
  | .ask w a, ⟨h, h1⟩, c, hc => by
    have hc' : c ∈ [40] ++ (cd w ++ ([32] ++ (a.txt ++ [41]))) := hc
    simp only [List.mem_append, List.mem_singleton] at hc'
    rcases hc' with e | e | e | e | e
    · omega
    · have := (ask_ok w h).2.2.1 c e; omega
    · omega
    · exact Tm.txt_hi a h1 c e
    · omega
  | .op o a b, ⟨h, h1, h2⟩, c, hc => by
    have hc' : c ∈ [40] ++ (cd o ++ ([32] ++ (a.txt ++ ([32] ++ (b.txt ++ [41]))))) := hc
    simp only [List.mem_append, List.mem_singleton] at hc'
    rcases hc' with e | e | e | e | e | e | e
    · omega
    · have := (sign_ok o h).2.1 c e; omega
    · omega
    · exact Tm.txt_hi a h1 c e
    · omega
    · exact Tm.txt_hi b h2 c e
    · omega
theorem row_hi {r : Hr} (ok : r.ok 20) : ∀ c ∈ cd r.str, 32 ≤ c := by
  intro c hc
  have hc1 : c ∈ cd r.wd ++ r.rest := by rw [← r.codes]; exact hc
  have nm : ∀ {n : Int}, 0 ≤ n → c ∈ cd (numT n) → 32 ≤ c := fun h0 h => by have := num_dig h0 c h; omega
  rcases List.mem_append.mp hc1 with h | h
  · have := r.wd_ok
    have h5 : ∀ x ∈ (["end", "go", "if", "set", "say"] : List Str), c ∈ cd x → 32 ≤ c := fun x hx hc => by have := five_ok x hx c hc; omega
    cases r with
    | fin => exact h5 "end" (by decide +kernel) h
    | go n => exact h5 "go" (by decide +kernel) h
    | iff t n => exact h5 "if" (by decide +kernel) h
    | set x t => exact h5 "set" (by decide +kernel) h
    | say t => exact h5 "say" (by decide +kernel) h
  · cases r with
    | fin => cases h
    | go n =>
      have h' : c ∈ [32] ++ cd (numT n) := h
      simp only [List.mem_append, List.mem_singleton] at h'
      rcases h' with e | e
      · omega
      · exact nm ok.1 e
    | iff t n =>
      have h' : c ∈ [32] ++ (t.txt ++ ([32] ++ cd (numT n))) := h
      simp only [List.mem_append, List.mem_singleton] at h'
      rcases h' with e | e | e | e
      · omega
      · exact Tm.txt_hi t ok.1.1 c e
      · omega
      · exact nm ok.2.1 e
    | set x t =>
      have h' : c ∈ [32] ++ (cd x ++ ([32] ++ t.txt)) := h
      simp only [List.mem_append, List.mem_singleton] at h'
      rcases h' with e | e | e | e
      · omega
      · have := ok.1.1 c e; omega
      · omega
      · exact Tm.txt_hi t ok.2.1 c e
    | say t =>
      have h' : c ∈ [32] ++ t.txt := h
      simp only [List.mem_append, List.mem_singleton] at h'
      rcases h' with e | e
      · omega
      · exact Tm.txt_hi t (show t.fit 20 from ok).1 c e
theorem help_split {rs : List Hr} (g : GoodR rs) (h0 : rs ≠ []) : Txt.split (helpT rs) ("\n" : Str) = rs.map Hr.str := by
  unfold helpT
  rw [nl_eq, join_tx]
  refine split_join (c := 10) (fun z => h0 (List.map_eq_nil_iff.mp z)) fun p hp hc => ?_
  obtain ⟨r, hr, rfl⟩ := List.mem_map.mp hp
  have := row_hi (g.2 r hr) 10 hc
  omega
theorem help_some {rs : List Hr} (g : GoodR rs) (h0 : rs ≠ []) : helpT rs ≠ "" := fun e => by
  have h1 := help_split g h0
  rw [e, show Txt.split ("" : Str) ("\n" : Str) = [("" : Str)] from by decide +kernel] at h1
  cases rs with
  | nil => exact h0 rfl
  | cons r l =>
    have h2 := (List.cons.inj h1).1
    have h3 := r.codes
    rw [← h2] at h3
    have h4 : cd r.wd = [] := (List.append_eq_nil_iff.mp h3.symm).1
    have h5 : ∀ x ∈ (["end", "go", "if", "set", "say"] : List Str), cd x ≠ [] := by decide +kernel
    cases r with
    | fin => exact h5 "end" (by decide +kernel) h4
    | go n => exact h5 "go" (by decide +kernel) h4
    | iff t n => exact h5 "if" (by decide +kernel) h4
    | set x t => exact h5 "set" (by decide +kernel) h4
    | say t => exact h5 "say" (by decide +kernel) h4
def spReadH : Sp := fun vs H Q _ => ∃ rs : List Hr, vs = [.str (helpT rs)] ∧ GoodR rs ∧ ∀ (a : Addr) (tv : List V) (H' : Hp), H' a = some (.tup tv) → RsAt H' tv rs → Same H H' → Q (.ref a) H'
theorem sc_read_helper : FnScope ["text", "helper", "number", "row"] ["text"] (defScope s_read_helper) := ⟨rfl, rfl, rfl, by decide +kernel, rfl, by decide +kernel, by decide +kernel⟩
theorem ok_read_helper {f : Addr} {fd : FuncData} (F : Fun K "read_helper" "read_helper" s_read_helper f fd) (B : Bl mg) (X : Tx K mg) (C_helper_row : Cal P w K mg base 20 "helper_row" ["text", "number"] spHRow) : FnOk P w K mg base CX0 21 f fd ["text"] spReadH := by
  refine F.ok sc_read_helper (fun vs H Q E h => ?_) (fun cdv A outer s H vs Q E hr h => ?_)
  · obtain ⟨rs, rfl, _⟩ := h
    rfl
  obtain ⟨rs, rfl, g, q⟩ := h
  obtain ⟨tm, gm⟩ := X.rows
  refine ⟨_, (pss_cons (ps_if (pt_cmpR op_eq (pv 0) pe_str (nomark _)) (pss_one (ps_ret (pe_tup pa_nil))) pss_nil)
      (pss_cons (ps_set (i := 1) sc_read_helper.nd rfl (Or.inl rfl) (pe_lst pa_nil))
      (pss_cons (ps_for PassesOwn.never rfl (pi_enum rfl B.enumerate (pe_bm PySem.F.plainAttrs_str PySem.F.slot_str_split PySem.F.type_str_split mt_split (pv 0) (pa_cons pe_str pa_nil))) (pg_tup rfl (pgs_cons (pg_name (i := 2) sc_read_helper.nd rfl (Or.inl rfl)) (pgs_cons (pg_name (i := 3) sc_read_helper.nd rfl (Or.inl rfl)) pgs_nil))) (pss_cons (ps_if (pt_cmpR op_eq (pv 2) (pe_glob (v := .int 60) rfl gm ⟨_, rfl⟩) (nomark _)) pss_never pss_nil)
        (pss_one (ps_expr (pe_bm PySem.F.plainAttrs_list PySem.F.slot_list_append PySem.F.type_list_append mt_append (pv 1) (pa_cons (pe_cal C_helper_row hr (by decide) rfl (pa_cons (pv 3) (pa_cons (pv 2) pa_nil))) pa_nil))))))
      (pss_one (ps_ret (pe_callTy call_tuple_of rfl B.tuple boot_tuple' (pa_cons (pv 1) pa_nil))))))), ?_⟩
  have tl := help_len g
  have r60 := g.1
  refine ⟨_, rfl, rfl, _, rfl, ?_⟩
  by_cases c0 : rs = []
  · subst c0
    refine iteD (by show V.str (helpT []) = V.str ""; decide +kernel) ?_
    refine ⟨Nat.zero_le _, fun t ht => ?_⟩
    exact q t [] _ upd_same RsAt.nil (Same.new ht _)
  refine iteDF (fun z => help_some g c0 (str_inj z)) ?_
  refine ⟨Nat.zero_le _, fun L hL => ?_⟩
  have GL := Same.new hL (.lst [])
  have gL : upd H L (.lst []) L = some (.lst []) := upd_same
  generalize upd H L (.lst []) = H1 at GL gL
  have ts := help_split g c0
  refine ⟨_, rfl, rfl, _, _, rfl, rfl, (by decide +kernel), by omega, by rw [ts, List.length_map]; omega, fun a ha => ?_⟩
  rw [ts]
  have Ga := Same.new ha (.lst ((rs.map Hr.str).map V.str))
  have ga : upd H1 a (.lst ((rs.map Hr.str).map V.str)) a = some (.lst ((rs.map Hr.str).map V.str)) := upd_same
  have aL : a ≠ L := fun z => by rw [z, gL] at ha; cases ha
  generalize upd H1 a (.lst ((rs.map Hr.str).map V.str)) = H2 at Ga ga
  have gL2 := Ga _ _ gL
  refine ⟨a, rfl, ⟨_, SqL.of ga⟩, for_enum (K := K) (xs := (rs.map Hr.str).map V.str) (fun i σ H' => ∃ (x2 x3 : Option V) (tv : List V), σ = [some (.str (helpT rs)), some (.ref L), x2, x3] ∧ H' L = some (.lst tv) ∧ RsAt H' tv (rs.take i) ∧ SameBut L H2 H')
    ⟨_, _, [], rfl, gL2, RsAt.nil, SameBut.refl _ _⟩ (fun i σ H' _ hst => by obtain ⟨_, _, _, _, _, _, h⟩ := hst; exact SqL.of (h _ _ aL ga)) ?_ ?_⟩
  · rintro i z σ H3 t hz ⟨x2, x3, tv, rfl, hL3, R3, S3⟩ ht
    have hi := (List.getElem?_eq_some_iff.mp hz).1
    rw [List.length_map, List.length_map] at hi
    rw [List.getElem?_map, List.getElem?_map, Option.map_map] at hz
    obtain ⟨r, hr', rfl⟩ := Option.map_eq_some_iff.mp hz
    have Gt := Same.new ht (.tup [.int (i : Int), .str r.str])
    have hL4 := Gt _ _ hL3
    have vl := R3.1
    rw [List.length_take] at vl
    refine ⟨t, _, rfl, SqT.of upd_same, rfl, _, _, rfl, _, _, rfl, rfl, ?_⟩
    refine ⟨_, rfl, rfl, _, rfl, ?_⟩
    refine iteDF (fun z => by have := V.int.inj z; omega) ?_
    refine ⟨_, rfl, .inl ⟨rfl, _, SqL.of hL4⟩, _, rfl, _, rfl, r, _, rfl, g.2 r (List.mem_of_getElem? hr'), fun v H4 ra S4 => ?_⟩
    have S34 : Same H3 H4 := Gt.trans S4
    have hL5 := S34 _ _ hL3
    have kp : KeepT H4 (upd H4 L (.lst (tv ++ [v]))) := keepT_lst hL5
    refine ⟨L, _, _, rfl, rfl, hL5, small1000 (by omega), ?_⟩
    refine ⟨_, _, tv ++ [v], rfl, upd_same, ?_, ?_⟩
    · rw [List.take_add_one, hr']
      exact ((R3.mono (keepT_same S34)).mono kp).snoc (ra.mono kp)
    · exact S3.trans ((SameBut.of S34).trans (SameBut.upd _))
  · rintro σ H3 ⟨x2, x3, tv, rfl, hL3, R3, S3⟩
    rw [List.length_map, List.length_map, List.take_length] at R3
    refine ⟨_, rfl, L, _, rfl, .inl ⟨SqL.of hL3, fun t ht => ?_⟩⟩
    have S03 : Same H H3 := fun b o e => S3 b o (ne_of_none e hL) (Ga _ _ (GL _ _ e))
    exact q t tv _ upd_same (R3.mono (keepT_same (Same.new ht _))) (S03.trans (Same.new ht _))
/-! ### alike -/
inductive Ak (H : Hp) : Nat → V → V → Prop
  | str (x : Str) : Ak H 1 (.str x) (.str x)
  | int (n : Int) : Ak H 1 (.int n) (.int n)
  | tup {a b : Addr} {xs ys : List V} {ms : List Nat} : H a = some (.tup xs) → H b = some (.tup ys) → xs.length = ys.length → ms.length = xs.length → (∀ (i : Nat) (x y : V) (m : Nat), xs[i]? = some x → ys[i]? = some y → ms[i]? = some m → Ak H m x y) → Ak H (ms.sum + 1) (.ref a) (.ref b)
theorem Ak.mono {H H' : Hp} (k : KeepT H H') {m : Nat} {v u : V} (h : Ak H m v u) : Ak H' m v u := by
  induction h with
  | str x => exact .str x
  | int n => exact .int n
  | tup h1 h2 h3 h4 _ ih => exact .tup (k _ _ h1) (k _ _ h2) h3 h4 ih
theorem Ak.pos {H : Hp} {m : Nat} {v u : V} (h : Ak H m v u) : 1 ≤ m := by
  cases h with
  | str x => exact Nat.le_refl _
  | int n => exact Nat.le_refl _
  | tup => exact Nat.le_add_left _ _
theorem sum_pos {ms : List Nat} (h : ∀ m ∈ ms, 1 ≤ m) : ms.length ≤ ms.sum := by
  induction ms with
  | nil => exact Nat.le_refl _
  | cons a r ih =>
    have h1 := h a List.mem_cons_self
    have h2 := ih fun m hm => h m (List.mem_cons_of_mem _ hm)
    rw [List.length_cons, List.sum_cons]
    omega
def StAt (H : Hp) (cs : List Addr) (ms : List Nat) : Prop := cs.length = ms.length ∧ ∀ (j : Nat) (c : Addr) (m : Nat), cs[j]? = some c → ms[j]? = some m → ∃ x y, H c = some (.tup [x, y]) ∧ Ak H m x y
theorem StAt.mono {H H' : Hp} (k : KeepT H H') {cs : List Addr} {ms : List Nat} (h : StAt H cs ms) : StAt H' cs ms := ⟨h.1, fun j c m hc hm => by
  obtain ⟨x, y, e, a⟩ := h.2 j c m hc hm
  exact ⟨x, y, k _ _ e, a.mono k⟩⟩
theorem StAt.short {H : Hp} {cs : List Addr} {ms : List Nat} (h : StAt H cs ms) : cs.length ≤ ms.sum := by
  rw [h.1]
  refine sum_pos fun m hm => ?_
  obtain ⟨j, hj, e⟩ := List.getElem_of_mem hm
  obtain ⟨x, y, _, a⟩ := h.2 j _ m (List.getElem?_eq_getElem (by rw [h.1]; exact hj)) (by rw [List.getElem?_eq_getElem hj, e])
  exact a.pos
theorem StAt.app {H : Hp} {cs ds : List Addr} {ms ns : List Nat} (h : StAt H cs ms) (g : StAt H ds ns) : StAt H (cs ++ ds) (ms ++ ns) := by
  refine ⟨by rw [List.length_append, List.length_append, h.1, g.1], fun j c m hc hm => ?_⟩
  have hl := h.1
  by_cases q : j < cs.length
  · rw [List.getElem?_append_left q] at hc
    rw [List.getElem?_append_left (by omega)] at hm
    exact h.2 j c m hc hm
  · rw [List.getElem?_append_right (by omega)] at hc
    rw [List.getElem?_append_right (by omega)] at hm
    rw [hl] at hc
    exact g.2 _ c m hc hm
theorem StAt.last {H : Hp} {cs : List Addr} {ms : List Nat} (h : StAt H cs ms) (h0 : cs ≠ []) : ∃ cs' c ms' m, cs = cs' ++ [c] ∧ ms = ms' ++ [m] ∧ StAt H cs' ms' ∧ ∃ x y, H c = some (.tup [x, y]) ∧ Ak H m x y := by
  have m0 : ms ≠ [] := fun e => h0 (List.eq_nil_of_length_eq_zero (by rw [h.1, e]; rfl))
  obtain ⟨cs', c, rfl⟩ : ∃ cs' c, cs = cs' ++ [c] := ⟨_, _, (List.dropLast_concat_getLast h0).symm⟩
  obtain ⟨ms', m, rfl⟩ : ∃ ms' m, ms = ms' ++ [m] := ⟨_, _, (List.dropLast_concat_getLast m0).symm⟩
  have l1 : cs'.length = ms'.length := by
    have := h.1
    rw [List.length_append, List.length_append, List.length_singleton, List.length_singleton] at this
    omega
  refine ⟨cs', c, ms', m, rfl, rfl, ⟨l1, fun j d n hd hn => h.2 j d n ?_ ?_⟩, h.2 cs'.length c m ?_ ?_⟩
  · rw [List.getElem?_append_left (List.getElem?_eq_some_iff.mp hd).1]
    exact hd
  · rw [List.getElem?_append_left (List.getElem?_eq_some_iff.mp hn).1]
    exact hn
  · rw [List.getElem?_append_right (Nat.le_refl _), Nat.sub_self]
    rfl
  · rw [l1, List.getElem?_append_right (Nat.le_refl _), Nat.sub_self]
    rfl
def spAk : Sp := fun vs H Q _ => ∃ (v u : V) (m : Nat), vs = [v, u] ∧ Ak H m v u ∧ m ≤ 100000 ∧ ∀ H', Same H H' → Q (.bl true) H'
theorem sc_l_alike : FnScope ["_law_found", "_law_due", "_law_left", "_law_one", "_law_other"] ["_law_found", "_law_due"] (defScope s_l_alike) := ⟨rfl, rfl, rfl, by decide +kernel, rfl, by decide +kernel, by decide +kernel⟩
theorem ok_l_alike {f : Addr} {fd : FuncData} (F : Fun K "_law_alike" "_law_alike" s_l_alike f fd) (B : Bl mg) : FnOk P w K mg base CX0 1 f fd ["_law_found", "_law_due"] spAk := by
  refine F.ok sc_l_alike (fun vs H Q E h => ?_) (fun cdv A outer s H vs Q E hr h => ?_)
  · obtain ⟨v, u, m, rfl, _⟩ := h
    rfl
  obtain ⟨v, u, m, rfl, ak, mb, q⟩ := h
  refine ⟨_, (pss_cons (ps_set (i := 2) sc_l_alike.nd rfl (Or.inl rfl) (pe_lst (pa_cons (pe_tup (pa_cons (pv 0) (pa_cons (pv 1) pa_nil))) pa_nil)))
      (pss_cons (ps_while PassesOwn.never (pt_cmpR (op_neNil hr.units0) (pv 2) (pe_lst pa_nil) (nomark _)) (pss_cons (ps_asg (pe_bm0 PySem.F.plainAttrs_list PySem.F.slot_list_pop PySem.F.type_list_pop mt_pop (pv 2)) (pg_tup rfl (pgs_cons (pg_name (i := 3) sc_l_alike.nd rfl (Or.inl rfl)) (pgs_cons (pg_name (i := 4) sc_l_alike.nd rfl (Or.inl rfl)) pgs_nil))))
        (pss_one (ps_if (pt_val (pe_callB call_isinst rfl B.isinstance PyProof.Rows.boot_isinstance (pa_cons (pv 4) (pa_cons (pe_bltn (v := V.ty "tuple") rfl B.tuple boot_tuple' rfl) pa_nil)))) (pss_cons (ps_if (PW.pt (pw_or (pt_not (pt_val (pe_callB call_isinst rfl B.isinstance PyProof.Rows.boot_isinstance (pa_cons (pv 3) (pa_cons (pe_bltn (v := V.ty "tuple") rfl B.tuple boot_tuple' rfl) pa_nil))))) (pw_or1 (pt_cmpR op_ne (pe_callB call_len_seq rfl B.len PySem.boot_len (pa_cons (pv 3) pa_nil)) (pe_callB call_len_seq rfl B.len PySem.boot_len (pa_cons (pv 4) pa_nil)) (nomark _))))) (pss_one (ps_ret pe_bl)) pss_nil)
          (pss_one (ps_set (i := 2) sc_l_alike.nd rfl (Or.inl rfl) (pe_op op_cat (pv 2) (pe_listzip rfl rfl B.list rfl B.zip (pa_cons (pv 3) (pa_cons (pv 4) pa_nil))))))) (pss_one (ps_if (PW.pt (pw_or (pt_val (pe_callB call_isinst rfl B.isinstance PyProof.Rows.boot_isinstance (pa_cons (pv 3) (pa_cons (pe_bltn (v := V.ty "bool") rfl B.bool boot_bool' rfl) pa_nil)))) (pw_or (pt_cmpR op_ne (pe_callB call_isinst rfl B.isinstance PyProof.Rows.boot_isinstance (pa_cons (pv 3) (pa_cons (pe_bltn (v := V.ty "int") rfl B.int boot_int' rfl) pa_nil))) (pe_callB call_isinst rfl B.isinstance PyProof.Rows.boot_isinstance (pa_cons (pv 4) (pa_cons (pe_bltn (v := V.ty "int") rfl B.int boot_int' rfl) pa_nil))) (nomark _)) (pw_or1 (pt_cmpR op_ne (pv 3) (pv 4) (nomark _)))))) (pss_one (ps_ret pe_bl)) pss_nil))))))
      (pss_one (ps_ret pe_bl)))), ?_⟩
  refine ⟨_, rfl, _, rfl, (by show 2 ≤ sizeLine; decide), fun c0 hc0 => ?_⟩
  have G0 := Same.new hc0 (.tup [v, u])
  refine ⟨(by show 1 ≤ sizeLine; decide), fun L0 hL0 => ?_⟩
  have GL := Same.new hL0 (.lst ([c0].map V.ref))
  have S0 := G0.trans GL
  have ec0 : upd (upd H c0 (.tup [v, u])) L0 (.lst ([c0].map V.ref)) c0 = some (.tup [v, u]) := GL _ _ upd_same
  refine ⟨fun mm σ H' => ∃ (L : Addr) (x3 x4 : Option V) (cs : List Addr) (ms : List Nat), σ = [some v, some u, some (.ref L), x3, x4] ∧ H L = none ∧ H' L = some (.lst (cs.map V.ref)) ∧ StAt H' cs ms ∧ Same H H' ∧ ms.sum ≤ 100000 ∧ mm = ms.sum,
    ⟨_, L0, _, _, [c0], [m], rfl, G0.free hL0, upd_same, ⟨rfl, fun j c m' hc hm => ?_⟩, S0, by simpa using mb, rfl⟩, ?_⟩
  · match j, hc, hm with
    | 0, hc, hm =>
      cases hc
      cases hm
      exact ⟨v, u, ec0, ak.mono (keepT_same S0)⟩
    | j + 1, hc, _ => simp at hc
  rintro mm σ H1 ⟨L, x3, x4, cs, ms, rfl, hL, hL1, st, S1, mb1, rfl⟩
  refine ⟨_, rfl, Nat.zero_le _, fun N hN => ?_⟩
  have GN := Same.new hN (.lst [])
  have eN : upd H1 N (.lst []) N = some (.lst []) := upd_same
  generalize upd H1 N (.lst []) = H2 at GN eN
  have hL2 := GN _ _ hL1
  refine ⟨L, N, _, rfl, rfl, SqL.of hL2, SqL.of eN, _, rfl, ?_⟩
  have st2 := st.mono (keepT_same GN)
  have S2 := S1.trans GN
  by_cases h0 : cs = []
  · subst h0
    refine iteF ?_
    exact q H2 S2
  obtain ⟨cs', c, ms', m', rfl, rfl, st', x, y, ec, ak'⟩ := st2.last h0
  have ne : (!((cs' ++ [c]).map V.ref).isEmpty) = true := by rw [List.map_append]; simp
  rw [ne]
  refine iteT ⟨_, fun _ _ h => h, ?_⟩
  have sl := st.short
  rw [List.sum_append] at mb1 sl
  have m1 := ak'.pos
  have ms1 : [m'].sum = m' := by simp
  rw [ms1] at mb1 sl
  rw [List.length_append, List.length_singleton] at sl
  have hlast : ((cs' ++ [c]).map V.ref)[((cs' ++ [c]).map V.ref).length - 1]? = some (.ref c) := by
    rw [List.map_append, List.length_append, List.length_map]
    show (List.map V.ref cs' ++ [V.ref c])[cs'.length + 1 - 1]? = _
    rw [Nat.add_sub_cancel, List.getElem?_append_right (by rw [List.length_map]; exact Nat.le_refl _), List.length_map, Nat.sub_self]
    rfl
  have hdrop : ((cs' ++ [c]).map V.ref).dropLast = cs'.map V.ref := by rw [List.map_append]; exact List.dropLast_concat
  refine ⟨_, rfl, .inl ⟨rfl, _, SqL.of hL2⟩, L, _, _, rfl, rfl, hL2, hlast, ?_⟩
  rw [hdrop]
  have kL : KeepT H2 (upd H2 L (.lst (cs'.map V.ref))) := keepT_lst hL2
  have eL3 : upd H2 L (.lst (cs'.map V.ref)) L = some (.lst (cs'.map V.ref)) := upd_same
  have S3 : Same H (upd H2 L (.lst (cs'.map V.ref))) := fun b o e => by
    rw [upd_ne (ne_of_none e hL)]
    exact S2 _ _ e
  have st3 := st'.mono kL
  have ak3 := ak'.mono kL
  have ec3 := kL _ _ ec
  generalize upd H2 L (.lst (cs'.map V.ref)) = H3 at kL eL3 S3 st3 ak3 ec3
  refine ⟨c, _, rfl, SqT.of ec3, rfl, _, _, rfl, _, _, rfl, rfl, ?_⟩
  have nx : ∃ m'' < ms'.sum + m', ∃ (L' : Addr) (z3 z4 : Option V) (ds : List Addr) (ns : List Nat), [some v, some u, some (V.ref L), some x, some y] = [some v, some u, some (.ref L'), z3, z4] ∧ H L' = none ∧ H3 L' = some (.lst (ds.map V.ref)) ∧ StAt H3 ds ns ∧ Same H H3 ∧ ns.sum ≤ 100000 ∧ m'' = ns.sum := ⟨ms'.sum, by omega, L, _, _, cs', ms', rfl, hL, eL3, st3, S3, by omega, rfl⟩
  cases ak3 with
  | str z =>
    refine ⟨_, rfl, _, _, "tuple", false, rfl, TyOf.str _, kit_str_tup _, _, rfl, ?_⟩
    refine iteF ?_
    refine ⟨_, rfl, _, _, "bool", false, rfl, TyOf.str _, kit_str_bool _, _, rfl, ?_⟩
    refine iteF ?_
    refine ⟨_, rfl, _, _, "int", false, rfl, TyOf.str _, kit_str_int _, _, rfl, _, _, "int", false, rfl, TyOf.str _, kit_str_int _, rfl, _, rfl, ?_⟩
    refine iteNT rfl ?_
    refine ⟨_, rfl, _, rfl, rfl, _, rfl, ?_⟩
    refine iteNT rfl ?_
    rw [List.sum_append, ms1]
    exact nx
  | int z =>
    refine ⟨_, rfl, _, _, "tuple", false, rfl, TyOf.int _, kit_int_tup _, _, rfl, ?_⟩
    refine iteF ?_
    refine ⟨_, rfl, _, _, "bool", false, rfl, TyOf.int _, kit_int_bool _, _, rfl, ?_⟩
    refine iteF ?_
    refine ⟨_, rfl, _, _, "int", true, rfl, TyOf.int _, kit_self _ _, _, rfl, _, _, "int", true, rfl, TyOf.int _, kit_self _ _, rfl, _, rfl, ?_⟩
    refine iteNT rfl ?_
    refine ⟨_, rfl, _, rfl, rfl, _, rfl, ?_⟩
    refine iteNT rfl ?_
    rw [List.sum_append, ms1]
    exact nx
  | @tup a b xs ys ns h1 h2 h3 h4 h5 =>
    refine ⟨_, rfl, _, _, "tuple", true, rfl, TyOf.tup h2, kit_self _ _, _, rfl, ?_⟩
    refine iteT ?_
    refine ⟨_, rfl, _, _, "tuple", true, rfl, TyOf.tup h1, kit_self _ _, _, rfl, ?_⟩
    refine iteF ?_
    refine ⟨_, rfl, a, _, rfl, .inr (SqT.of h1), _, rfl, b, _, rfl, .inr (SqT.of h2), rfl, _, rfl, ?_⟩
    rw [h3]
    refine iteNT rfl ?_
    have ln : ns.length ≤ ns.sum := sum_pos fun z hz => by
      obtain ⟨j, hj, e⟩ := List.getElem_of_mem hz
      exact (h5 j _ _ z (List.getElem?_eq_getElem (by omega)) (List.getElem?_eq_getElem (by omega)) (by rw [List.getElem?_eq_getElem hj, e])).pos
    have sz : ∀ {n : Nat}, n ≤ 200000 → n ≤ sizeLine := fun h => Nat.le_trans h (by decide)
    refine ⟨_, rfl, _, rfl, _, rfl, a, b, false, false, xs, ys, rfl, SqT.of h1, SqT.of h2, h3, sz (by omega), fun Z ds H4 hZ eZ dl pa fr S4 => ?_⟩
    have st4 : StAt H4 ds ns := ⟨by omega, fun j d n hd hn => by
      have hj := (List.getElem?_eq_some_iff.mp hd).1
      have hx : xs[j]? = some (xs[j]'(by omega)) := List.getElem?_eq_getElem (by omega)
      have hy : ys[j]? = some (ys[j]'(by omega)) := List.getElem?_eq_getElem (by omega)
      exact ⟨_, _, pa j d _ _ hd hx hy, (h5 j _ _ n hx hy hn).mono (keepT_same S4)⟩⟩
    refine ⟨L, Z, _, _, rfl, rfl, S4 _ _ eL3, eZ, sz (by rw [List.length_map, List.length_map]; omega), fun p hp => ?_⟩
    have Gp := Same.new hp (.lst (cs'.map V.ref ++ ds.map V.ref))
    have S34 := S4.trans Gp
    have ep : upd H4 p (.lst (cs'.map V.ref ++ ds.map V.ref)) p = some (.lst ((cs' ++ ds).map V.ref)) := by rw [upd_same, List.map_append]
    refine ⟨ms'.sum + ns.sum, by rw [List.sum_append, ms1]; omega, p, _, _, cs' ++ ds, ms' ++ ns, rfl, (S3.trans S4).free hp, ep, ((st3.mono (keepT_same S4)).app st4).mono (keepT_same Gp), S3.trans S34, by rw [List.sum_append]; omega, by rw [List.sum_append]⟩
theorem Ak.t1 {H : Hp} {a b : Addr} {x y : V} {m : Nat} (h1 : H a = some (.tup [x])) (h2 : H b = some (.tup [y])) (k : Ak H m x y) : Ak H (m + 1) (.ref a) (.ref b) := by
  have := Ak.tup (ms := [m]) h1 h2 rfl rfl fun i u v n hu hv hn => by
    match i, hu, hv, hn with
    | 0, hu, hv, hn => cases hu; cases hv; cases hn; exact k
    | i + 1, hu, _, _ => simp at hu
  simpa using this
theorem Ak.t2 {H : Hp} {a b : Addr} {x y x2 y2 : V} {m m2 : Nat} (h1 : H a = some (.tup [x, x2])) (h2 : H b = some (.tup [y, y2])) (k : Ak H m x y) (k2 : Ak H m2 x2 y2) : Ak H (m + m2 + 1) (.ref a) (.ref b) := by
  have := Ak.tup (ms := [m, m2]) h1 h2 rfl rfl fun i u v n hu hv hn => by
    match i, hu, hv, hn with
    | 0, hu, hv, hn => cases hu; cases hv; cases hn; exact k
    | 1, hu, hv, hn => cases hu; cases hv; cases hn; exact k2
    | i + 2, hu, _, _ => simp at hu
  simpa using this
theorem Ak.t3 {H : Hp} {a b : Addr} {x y x2 y2 x3 y3 : V} {m m2 m3 : Nat} (h1 : H a = some (.tup [x, x2, x3])) (h2 : H b = some (.tup [y, y2, y3])) (k : Ak H m x y) (k2 : Ak H m2 x2 y2) (k3 : Ak H m3 x3 y3) : Ak H (m + (m2 + m3) + 1) (.ref a) (.ref b) := by
  have := Ak.tup (ms := [m, m2, m3]) h1 h2 rfl rfl fun i u v n hu hv hn => by
    match i, hu, hv, hn with
    | 0, hu, hv, hn => cases hu; cases hv; cases hn; exact k
    | 1, hu, hv, hn => cases hu; cases hv; cases hn; exact k2
    | 2, hu, hv, hn => cases hu; cases hv; cases hn; exact k3
    | i + 3, hu, _, _ => simp at hu
  simpa using this
theorem Ak.t4 {H : Hp} {a b : Addr} {x y x2 y2 x3 y3 x4 y4 : V} {m m2 m3 m4 : Nat} (h1 : H a = some (.tup [x, x2, x3, x4])) (h2 : H b = some (.tup [y, y2, y3, y4])) (k : Ak H m x y) (k2 : Ak H m2 x2 y2) (k3 : Ak H m3 x3 y3) (k4 : Ak H m4 x4 y4) : Ak H (m + (m2 + (m3 + m4)) + 1) (.ref a) (.ref b) := by
  have := Ak.tup (ms := [m, m2, m3, m4]) h1 h2 rfl rfl fun i u v n hu hv hn => by
    match i, hu, hv, hn with
    | 0, hu, hv, hn => cases hu; cases hv; cases hn; exact k
    | 1, hu, hv, hn => cases hu; cases hv; cases hn; exact k2
    | 2, hu, hv, hn => cases hu; cases hv; cases hn; exact k3
    | 3, hu, hv, hn => cases hu; cases hv; cases hn; exact k4
    | i + 4, hu, _, _ => simp at hu
  simpa using this
theorem tm_ak {H : Hp} : ∀ (t : Tm) {v u : V}, TmAt H v t → TmAt H u t → ∃ m, m ≤ 3 * t.size ∧ Ak H m v u
  | .num n, _, _, .num e1, .num e2 => ⟨_, by show 1 + 1 + 1 ≤ 3; decide, Ak.t2 e1 e2 (.str _) (.int _)⟩
  | .box x, _, _, .box e1, .box e2 => ⟨_, by show 1 + 1 + 1 ≤ 3; decide, Ak.t2 e1 e2 (.str _) (.str _)⟩
  | .plain w, _, _, .plain e1, .plain e2 => ⟨_, by show 1 + 1 ≤ 3; decide, Ak.t1 e1 e2 (.str _)⟩
  | .ask w a, _, _, .ask e1 g1, .ask e2 g2 => by
    obtain ⟨m, hm, k⟩ := tm_ak a g1 g2
    exact ⟨_, by show 1 + m + 1 ≤ 3 * (a.size + 1); omega, Ak.t2 e1 e2 (.str _) k⟩
  | .op o a b, _, _, .op e1 g1 f1, .op e2 g2 f2 => by
    obtain ⟨m, hm, k⟩ := tm_ak a g1 g2
    obtain ⟨m2, hm2, k2⟩ := tm_ak b f1 f2
    exact ⟨_, by show 1 + (1 + (m + m2)) + 1 ≤ 3 * (a.size + b.size + 1); omega, Ak.t4 e1 e2 (.str _) (.str _) k k2⟩
theorem row_ak {H : Hp} {r : Hr} {v u : V} (ok : r.ok 20) (h1 : HrAt H v r) (h2 : HrAt H u r) : ∃ m, m ≤ 70 ∧ Ak H m v u := by
  have tz : ∀ {t : Tm} {a b : V}, t.fit 20 → TmAt H a t → TmAt H b t → ∃ m, m ≤ 60 ∧ Ak H m a b := fun {t a b} f g1 g2 => by
    obtain ⟨m, hm, k⟩ := tm_ak t g1 g2
    have := f.2.1
    exact ⟨m, by omega, k⟩
  cases h1 with
  | fin e1 => cases h2 with | fin e2 => exact ⟨_, by show 1 + 1 ≤ 70; decide, Ak.t1 e1 e2 (.str _)⟩
  | go e1 => cases h2 with | go e2 => exact ⟨_, by show 1 + 1 + 1 ≤ 70; decide, Ak.t2 e1 e2 (.str _) (.int _)⟩
  | iff e1 g1 =>
    cases h2 with
    | iff e2 g2 =>
      obtain ⟨m, hm, k⟩ := tz ok.1 g1 g2
      exact ⟨_, by show 1 + (m + 1) + 1 ≤ 70; omega, Ak.t3 e1 e2 (.str _) k (.int _)⟩
  | set e1 g1 =>
    cases h2 with
    | set e2 g2 =>
      obtain ⟨m, hm, k⟩ := tz ok.2 g1 g2
      exact ⟨_, by show 1 + (1 + m) + 1 ≤ 70; omega, Ak.t3 e1 e2 (.str _) (.str _) k⟩
  | say e1 g1 =>
    cases h2 with
    | say e2 g2 =>
      obtain ⟨m, hm, k⟩ := tz (show _ from ok) g1 g2
      exact ⟨_, by show 1 + m + 1 ≤ 70; omega, Ak.t2 e1 e2 (.str _) k⟩
theorem list_ak {H : Hp} : ∀ {rs : List Hr} {tv uv : List V}, (∀ r ∈ rs, r.ok 20) → RsAt H tv rs → RsAt H uv rs → ∃ ms : List Nat, ms.length = tv.length ∧ ms.sum ≤ 70 * rs.length ∧ ∀ (i : Nat) (x y : V) (m : Nat), tv[i]? = some x → uv[i]? = some y → ms[i]? = some m → Ak H m x y
  | [], tv, uv, _, h1, h2 => ⟨[], by rw [h1.1]; rfl, by simp, fun i x y m _ _ hm => by simp at hm⟩
  | r :: rs, [], _, _, h1, _ => by have := h1.1; simp at this
  | r :: rs, _ :: _, [], _, _, h2 => by have := h2.1; simp at this
  | r :: rs, v :: tv, u :: uv, ok, h1, h2 => by
    obtain ⟨ms, e1, e2, e3⟩ := list_ak (fun x hx => ok x (List.mem_cons_of_mem _ hx)) (show RsAt H tv rs from ⟨by have := h1.1; simpa using this, fun i a b ha hb => h1.2 (i + 1) a b ha hb⟩) (show RsAt H uv rs from ⟨by have := h2.1; simpa using this, fun i a b ha hb => h2.2 (i + 1) a b ha hb⟩)
    obtain ⟨m, hm, k⟩ := row_ak (ok r List.mem_cons_self) (h1.2 0 v r rfl rfl) (h2.2 0 u r rfl rfl)
    refine ⟨m :: ms, by rw [List.length_cons, List.length_cons, e1], by rw [List.sum_cons, List.length_cons]; omega, fun i x y n hx hy hn => ?_⟩
    match i, hx, hy, hn with
    | 0, hx, hy, hn => cases hx; cases hy; cases hn; exact k
    | i + 1, hx, hy, hn => exact e3 i x y n hx hy hn
theorem help_ak {H : Hp} {rs : List Hr} {tv uv : List V} {a b : Addr} (g : GoodR rs) (ha : H a = some (.tup tv)) (hb : H b = some (.tup uv)) (h1 : RsAt H tv rs) (h2 : RsAt H uv rs) : ∃ m, m ≤ 100000 ∧ Ak H m (.ref a) (.ref b) := by
  obtain ⟨ms, e1, e2, e3⟩ := list_ak g.2 h1 h2
  have := g.1
  exact ⟨ms.sum + 1, by omega, .tup ha hb (h1.1.trans h2.1.symm) e1 e3⟩
def HelpAt (H : Hp) (v : V) : Prop := ∃ (a : Addr) (tv : List V) (rs : List Hr), v = .ref a ∧ H a = some (.tup tv) ∧ RsAt H tv rs ∧ GoodR rs
theorem HelpAt.mono {H H' : Hp} {v : V} (h : HelpAt H v) (k : KeepT H H') : HelpAt H' v := by
  obtain ⟨a, tv, rs, h1, h2, h3, h4⟩ := h
  exact ⟨a, tv, rs, h1, k _ _ h2, h3.mono k, h4⟩
def LST : Str := "qxzjb"
theorem lst_ok : ∀ c ∈ LST.cps.toList, 97 ≤ c ∧ c ≤ 122 := by decide +kernel
theorem lst_len : LST.cps.toList.length = 5 := by decide +kernel
theorem lst_not : ∀ x ∈ kept, ∀ c ∈ LST.cps.toList, x.cps.toList.getLast? ≠ some c := by decide +kernel
theorem new_name {x : Str} {c : Nat} (h : NmK x) (hc : c ∈ LST.cps.toList) : NmK (Txt.slice x none (some 5) ++ ⟨#[c]⟩) := by
  have zl : ((⟨#[c]⟩ : Str)).length = 1 := rfl
  have e5 : (Txt.slice x none (some 5)).length ≤ 5 := by
    by_cases c5 : (5 : Int) ≤ (x.cps.toList.length : Int)
    · have es : Txt.slice x none (some 5) = ⟨((x.cps.toList.drop 0).take ((5 : Int) - 0).toNat).toArray⟩ := StrLaws.sliceText_to ⟨by decide, c5⟩
      rw [es]
      show (List.toArray _).size ≤ 5
      simp only [List.size_toArray, List.length_take]
      omega
    · have := Txt.slice_le x none (some 5)
      have := cd_len x
      unfold cd at this
      omega
  refine ⟨fun d hd => ?_, by rw [Str.length_append, zl]; omega, by rw [Str.length_append, zl]; omega, fun hk => ?_⟩
  · rcases mem_append hd with h' | h'
    · exact h.1 d (mem_slice h')
    · have : d = c := by simpa using h'
      rw [this]
      exact lst_ok c hc
  · refine lst_not _ hk c hc ?_
    rw [Str.cps_append]
    simp
theorem sc_law : FnScope ["_law_script", "_law_feed_here", "_law_boxes", "_law_one", "_law_other", "_law_helper", "_law_text_here"] ["_law_script"] (defScope s_law) := ⟨rfl, rfl, rfl, by decide +kernel, rfl, by decide +kernel, by decide +kernel⟩
theorem ok_law {f : Addr} {fd : FuncData} (F : Fun K "law" "law" s_law f fd) (B : Bl mg) (C_l_feed : Cal P w K mg base 1 "_law_feed" ["_law_script", "_law_k"] (spFeed K)) (C_l_take : Cal P w K mg base 1 "_law_take" ["_law_feed_here", "_law_many"] spTake) (C_l_name : Cal P w K mg base 2 "_law_name" ["_law_feed_here"] spName) (C_l_any_helper : Cal P w K mg base 13 "_law_any_helper" ["_law_feed_here", "_law_boxes"] spAnyH) (C_l_line : Cal P w K mg base 10 "_law_line" ["_law_row"] spRT) (C_helper_text : Cal P w K mg base 19 "helper_text" ["helper"] spHT) (C_read_helper : Cal P w K mg base 21 "read_helper" ["text"] spReadH) (C_l_alike : Cal P w K mg base 1 "_law_alike" ["_law_found", "_law_due"] spAk) : FnOk P w K mg base CX0 22 f fd ["_law_script"] (spLaw K) := by
  refine F.ok sc_law (fun vs H Q E h => ?_) (fun cdv A outer s H vs Q E hr h => ?_)
  · obtain ⟨a, ns, rfl, _⟩ := h
    rfl
  obtain ⟨a, ns, rfl, hS, h63, q⟩ := h
  refine ⟨_, (pss_cons (ps_set (i := 1) sc_law.nd rfl (Or.inr rfl) (pe_cal C_l_feed hr (by decide) rfl (pa_cons (pv 0) (pa_cons pe_int pa_nil))))
      (pss_cons (ps_comp (i := 2) (N := ["_law_feed_here"]) (ix := [1]) sc_law.nd rfl (Or.inl rfl) rfl
        (CompScope.one (by with_unfolding_all rfl) (by decide) rfl (by decide) rfl (by decide +kernel) (by with_unfolding_all rfl) (by with_unfolding_all rfl) (by with_unfolding_all rfl) rfl rfl) rfl
        (pi_range1 rfl B.range (pa_cons pe_int pa_nil))
        (fun _ _ _ => pb_all (pe_cal C_l_name hr (by decide) rfl (pa_cons (pv 1) pa_nil))))
      (pss_cons (ps_if (pt_cmpR op_eq (pe_cal C_l_take hr (by decide) rfl (pa_cons (pv 1) (pa_cons pe_int pa_nil))) pe_int (nomark _)) (pss_one (ps_asg (pe_op op_add_str (pe_slice sl_str (pe_ix ix_list (pv 2) pe_int (fun _ _ => rfl)) po_none (po_some pe_int)) (pe_ix ix_str pe_str (pe_cal C_l_take hr (by decide) rfl (pa_cons (pv 1) (pa_cons pe_int pa_nil))) (fun _ _ => rfl))) (pg_sub (pv 2) pe_int set_list))) pss_nil)
      (pss_cons (ps_set (i := 3) sc_law.nd rfl (Or.inl rfl) (pe_cal C_l_any_helper hr (by decide) rfl (pa_cons (pe_cal C_l_feed hr (by decide) rfl (pa_cons (pv 0) (pa_cons pe_int pa_nil))) (pa_cons (pv 2) pa_nil))))
      (pss_cons (ps_set (i := 4) sc_law.nd rfl (Or.inl rfl) (pe_cal C_l_any_helper hr (by decide) rfl (pa_cons (pe_cal C_l_feed hr (by decide) rfl (pa_cons (pv 0) (pa_cons pe_int pa_nil))) (pa_cons (pv 2) pa_nil))))
      (pss_cons (ps_for PassesOwn.never rfl (pi_tup (pe_tup (pa_cons (pv 3) (pa_cons (pv 4) (pa_cons (pv 3) (pa_cons (pe_tup pa_nil) pa_nil)))))) (pg_name (i := 5) sc_law.nd rfl (Or.inl rfl)) (pss_cons (ps_set (i := 6) sc_law.nd rfl (Or.inl rfl) (pe_bm PySem.F.plainAttrs_str PySem.F.slot_str_join PySem.F.type_str_join mt_join pe_str (pa_cons (pe_comp (N := []) (ix := []) (cl := []) rfl (CompScope.closed (by with_unfolding_all rfl) (by decide) rfl (by decide) rfl (by with_unfolding_all rfl)) rfl (pi_tup (pv 5))
          (fun _ _ _ => pb_all (pe_cal C_l_line hr (by decide) rfl (pa_cons (pv 0) pa_nil)))) pa_nil)))
        (pss_one (ps_if (PW.pt (pw_or (pt_cmpR op_ne (pe_cal C_helper_text hr (by decide) rfl (pa_cons (pv 5) pa_nil)) (pv 6) (nomark _)) (pw_or1 (pt_not (pt_val (pe_cal C_l_alike hr (by decide) rfl (pa_cons (pe_cal C_read_helper hr (by decide) rfl (pa_cons (pv 6) pa_nil)) (pa_cons (pv 5) pa_nil)))))))) (pss_one (ps_ret pe_bl)) pss_nil))))
      (pss_one (ps_ret pe_bl)))))))), ?_⟩
  refine ⟨_, rfl, a, ns, 1, rfl, hS, h63, by decide, by decide, fun f0 H1 f00 s1 F1 => ?_⟩
  refine ⟨5, rfl, by decide, by decide, fun D hD => ?_⟩
  have Df := F1.ne hD
  refine comp_range (n := 5) (fun i H' => ∃ bs : List Str, H' D = some (.lst (bs.map V.str)) ∧ bs.length = i ∧ (∀ x ∈ bs, NmK x) ∧ FeedAt H' f0 ∧ SameBut f0 H1 H') ⟨[], by rw [upd_same]; rfl, rfl, (fun x hx => by cases hx), F1.same (Same.new hD _), SameBut.of (Same.new hD _)⟩ ?_ ?_
  · rintro i H2 hi ⟨bs, hD2, bl, bk, F2, B2⟩
    refine ⟨_, rfl, f0, rfl, F2, fun x H3 xk F3 B3 => ?_⟩
    have hD3 := B3 _ _ Df hD2
    refine ⟨_, hD3, small1000 (by rw [List.length_map]; omega), Nx.of hi ⟨bs ++ [x], ?_, ?_, ?_, feed_upd F3 Df, fun c o hc e => ?_⟩⟩
    · rw [upd_same, List.map_append]
      rfl
    · rw [List.length_append, List.length_singleton, bl]
    · intro y hy
      rcases List.mem_append.mp hy with h | h
      · exact bk y h
      · rw [List.mem_singleton.mp h]
        exact xk
    · rw [upd_ne (ne_of_none e hD)]
      exact B3 c o hc (B2 c o hc e)
  rintro H2 ⟨bs, hD2, bl, bk, F2, B2⟩
  have S2 : Same H H2 := fun b o e => B2 b o (ne_of_none e f00) (s1 b o e)
  have D0 : H D = none := s1.free hD
  refine ⟨_, rfl, f0, 2, rfl, F2, by decide, by decide, fun d1 H3 a0 a1 F3 B3 => ?_⟩
  have hD3 := B3 _ _ Df hD2
  have S3 : Same H H3 := fun b o e => B3 b o (ne_of_none e f00) (S2 b o e)
  refine ⟨rfl, _, rfl, ?_⟩
  refine ite2 (fun _ => ?b1) (fun _ => ?b2)
  case' b1 =>
    obtain ⟨b0, b1, bs', rfl⟩ : ∃ b0 b1 bs', bs = b0 :: b1 :: bs' := by
      match bs, bl with
      | b0 :: b1 :: bs', _ => exact ⟨b0, b1, bs', rfl⟩
    have nb0 := bk b0 List.mem_cons_self
    refine ⟨_, rfl, D, _, 0, .str b0, rfl, rfl, SqL.of hD3, at0 .., 5, rfl, b0, rfl, small (by have := nb0.2.2.1; omega), ?_⟩
    refine ⟨_, rfl, f0, 5, rfl, F3, by decide, by decide, fun d2 H3' c0 c1 F3' B3' => ?_⟩
    obtain ⟨c, hc, hm⟩ := at_in (l := LST.cps.toList) (i := d2) c0 (by rw [lst_len]; exact c1)
    have hD3' := B3' _ _ Df hD3
    have sl5 : (Txt.slice b0 none (some 5)).length ≤ b0.length := Txt.slice_le b0 none (some 5)
    refine ⟨_, _, c, rfl, rfl, small (by decide +kernel), hc, _, _, rfl, rfl, small (by have := nb0.2.2.1; show _ + 1 ≤ _; omega), ?_⟩
    have ix1 : ixN (List.map V.str (b0 :: b1 :: bs')).length 1 = some 1 := by
      unfold ixN
      rw [if_pos (by decide), if_pos (by rw [List.length_map, List.length_cons, List.length_cons]; omega)]
      rfl
    refine ⟨_, rfl, D, _, 1, 1, rfl, rfl, hD3', ix1, ?_⟩
    obtain ⟨bs4, hD4, bx, S4⟩ : ∃ bs4 : List Str, upd H3' D (.lst ((((b0 :: b1 :: bs').map V.str)).set 1 (.str (Txt.slice b0 none (some 5) ++ ⟨#[c]⟩)))) D = some (.lst (bs4.map V.str)) ∧ Boxes bs4 ∧ Same H (upd H3' D (.lst ((((b0 :: b1 :: bs').map V.str)).set 1 (.str (Txt.slice b0 none (some 5) ++ ⟨#[c]⟩))))) := by
      refine ⟨b0 :: (Txt.slice b0 none (some 5) ++ ⟨#[c]⟩) :: bs', upd_same, ⟨?_, ?_, fun x hx => ?_⟩, fun b o e => ?_⟩
      · simp
      · rw [List.length_cons, List.length_cons] at bl ⊢
        omega
      · rcases List.mem_cons.mp hx with rfl | hx
        · exact nb0
        rcases List.mem_cons.mp hx with rfl | hx
        · exact new_name nb0 hm
        · exact bk x (List.mem_cons_of_mem _ (List.mem_cons_of_mem _ hx))
      · rw [upd_ne (ne_of_none e D0)]
        exact B3' b o (ne_of_none e f00) (S3 b o e)
  case' b2 =>
    obtain ⟨bs4, hD4, bx, S4⟩ : ∃ bs4 : List Str, H3 D = some (.lst (bs4.map V.str)) ∧ Boxes bs4 ∧ Same H H3 := ⟨bs, hD3, ⟨by omega, by omega, bk⟩, S3⟩
  all_goals
    refine ⟨_, rfl, a, ns, 2, rfl, S4.seq hS, h63, by decide, by decide, fun f2 H5 f20 s5 F5 => ?_⟩
    have D2 : D ≠ f2 := ne_of_none hD4 f20
    refine ⟨_, rfl, f2, D, bs4, rfl, F5, s5 _ _ hD4, D2, bx, fun h1 tv1 rs1 H6 e6 R6 g6 F6 B6 => ?_⟩
    have hD6 := B6 _ _ D2 (s5 _ _ hD4)
    have S6 : Same H H6 := fun b o e => B6 b o (ne_of_none (S4 b o e) f20) (s5 _ _ (S4 b o e))
    refine ⟨_, rfl, a, ns, 3, rfl, S6.seq hS, h63, by decide, by decide, fun f3 H7 f30 s7 F7 => ?_⟩
    have D3 : D ≠ f3 := ne_of_none hD6 f30
    refine ⟨_, rfl, f3, D, bs4, rfl, F7, s7 _ _ hD6, D3, bx, fun h2 tv2 rs2 H8 e8 R8 g8 F8 B8 => ?_⟩
    have S68 : Same H6 H8 := fun b o e => B8 b o (ne_of_none e f30) (s7 _ _ e)
    have A1 : HelpAt H8 (.ref h1) := HelpAt.mono ⟨h1, tv1, rs1, rfl, e6, R6, g6⟩ (keepT_same S68)
    have A2 : HelpAt H8 (.ref h2) := ⟨h2, tv2, rs2, rfl, e8, R8, g8⟩
    refine ⟨_, rfl, _, rfl, _, rfl, Nat.zero_le _, fun t0 ht0 => ?_⟩
    have G0 := Same.new ht0 (.tup [])
    have A0 : HelpAt (upd H8 t0 (.tup [])) (.ref t0) := ⟨t0, [], [], rfl, upd_same, RsAt.nil, by simp, fun r hr => by cases hr⟩
    refine ⟨(by show 4 ≤ sizeLine; decide), fun t1 ht1 => ?_⟩
    have G1 := Same.new ht1 (.tup [.ref h1, .ref h2, .ref h1, .ref t0])
    have e1 : upd (upd H8 t0 (.tup [])) t1 (.tup [.ref h1, .ref h2, .ref h1, .ref t0]) t1 = some (.tup [.ref h1, .ref h2, .ref h1, .ref t0]) := upd_same
    have all : ∀ v ∈ [V.ref h1, .ref h2, .ref h1, .ref t0], HelpAt (upd (upd H8 t0 (.tup [])) t1 (.tup [.ref h1, .ref h2, .ref h1, .ref t0])) v := fun v hv => by
      simp only [List.mem_cons, List.not_mem_nil, or_false] at hv
      rcases hv with rfl | rfl | rfl | rfl
      · exact A1.mono (keepT_same (G0.trans G1))
      · exact A2.mono (keepT_same (G0.trans G1))
      · exact A1.mono (keepT_same (G0.trans G1))
      · exact A0.mono (keepT_same G1)
    generalize upd (upd H8 t0 (.tup [])) t1 (.tup [.ref h1, .ref h2, .ref h1, .ref t0]) = H9 at e1 all
    generalize [V.ref h1, .ref h2, .ref h1, .ref t0] = ws at e1 all
    refine ⟨t1, rfl, ⟨_, SqT.of e1⟩, for_tup (K := K) (xs := ws) (fun i σ H' => ∃ (x5 x6 : Option V), σ = [some (.ref a), some (.ref f0), some (.ref D), some (.ref h1), some (.ref h2), x5, x6] ∧ Same H9 H') ⟨_, _, rfl, Same.refl _⟩ (fun i σ H' _ hst => by obtain ⟨_, _, _, h⟩ := hst; exact SqT.of (h _ _ e1)) ?_ ?_⟩
    · rintro i v σ H10 hv ⟨x5, x6, rfl, S10⟩
      obtain ⟨h, tv, rs, rfl, eh, RA, gr⟩ := (all v (List.mem_of_getElem? hv)).mono (keepT_same S10)
      have rl := RA.1
      have r60 := gr.1
      refine ⟨rfl, _, rfl, h, rfl, ⟨_, SqT.of eh⟩, fun D5 hD5 => ?_⟩
      refine comp_tup (K := K) (xs := tv) (fun i H' => H' D5 = some (.lst (((rs.take i).map Hr.str).map V.str)) ∧ Same H10 H') ⟨by rw [upd_same]; rfl, Same.new hD5 _⟩ (fun i H' _ h => SqT.of (h.2 _ _ eh)) ?_ ?_
      · rintro j z H11 hz ⟨hD11, S11⟩
        have hj := (List.getElem?_eq_some_iff.mp hz).1
        have ht : rs[j]? = some (rs[j]'(by omega)) := List.getElem?_eq_getElem (by omega)
        refine ⟨_, rfl, z, _, rfl, (RA.2 j z _ hz ht).mono (keepT_same S11), gr.2 _ (List.mem_of_getElem? ht), fun H12 S12 => ?_⟩
        refine ⟨_, S12 _ _ hD11, ?_, Nx.of hj ⟨?_, fun b' o' e' => ?_⟩⟩
        · rw [List.length_map, List.length_map, List.length_take]
          exact small1000 (by omega)
        · rw [upd_same, List.take_add_one, ht, List.map_append, List.map_append]
          rfl
        · rw [upd_ne (ne_of_none e' hD5)]
          exact S12 _ _ (S11 _ _ e')
      rintro H11 ⟨hD11, S11⟩
      rw [rl, List.take_length] at hD11
      refine ⟨_, D5, _, rfl, rfl, SqL.of hD11, (by decide +kernel), Nat.le_trans (help_sum gr) (by decide), ?_⟩
      refine ⟨_, rfl, h, tv, rs, rfl, S11 _ _ eh, RA.mono (keepT_same S11), gr, fun H12 S12 => ?_⟩
      refine ⟨_, rfl, rfl, _, rfl, ?_⟩
      refine iteNT rfl ?_
      refine ⟨_, rfl, rs, rfl, gr, fun h' tv' H13 e13 R13 S13 => ?_⟩
      have S11_13 := S11.trans (S12.trans S13)
      obtain ⟨m, hm, ak⟩ := help_ak gr e13 (S11_13 _ _ eh) R13 (RA.mono (keepT_same S11_13))
      refine ⟨_, rfl, _, _, m, rfl, ak, hm, fun H14 S14 => ⟨_, rfl, ?_⟩⟩
      refine iteF ?_
      exact ⟨_, _, rfl, S10.trans (S11_13.trans S14)⟩
    · rintro σ H10 ⟨x5, x6, rfl, S10⟩
      exact q H10
theorem kept_vals {a b c d e f g h i j k l : Tok} : Vals (kept.map V.str) [.str "yes" a, .str "no" b, .str "not" c, .str "and" d, .str "or" e, .str "odd" f, .str "same" g, .str "round" h, .str "due" i, .str "asked" j, .str "true" k, .str "coin" l] :=
  .cons ⟨_, rfl⟩ (.cons ⟨_, rfl⟩ (.cons ⟨_, rfl⟩ (.cons ⟨_, rfl⟩ (.cons ⟨_, rfl⟩ (.cons ⟨_, rfl⟩ (.cons ⟨_, rfl⟩ (.cons ⟨_, rfl⟩ (.cons ⟨_, rfl⟩ (.cons ⟨_, rfl⟩ (.cons ⟨_, rfl⟩ (.cons ⟨_, rfl⟩ .nil)))))))))))
theorem sign_vals {a b c d e f : Tok} : Vals (signW.map V.str) [.str "+" a, .str "-" b, .str "*" c, .str "/" d, .str "=" e, .str "<" f] :=
  .cons ⟨_, rfl⟩ (.cons ⟨_, rfl⟩ (.cons ⟨_, rfl⟩ (.cons ⟨_, rfl⟩ (.cons ⟨_, rfl⟩ (.cons ⟨_, rfl⟩ .nil)))))
theorem ask_vals {a b : Tok} : Vals (askW.map V.str) [.str "coin" a, .str "true" b] := .cons ⟨_, rfl⟩ (.cons ⟨_, rfl⟩ .nil)
theorem plain_vals {a b c : Tok} : Vals (plainW.map V.str) [.str "round" a, .str "due" b, .str "asked" c] := .cons ⟨_, rfl⟩ (.cons ⟨_, rfl⟩ (.cons ⟨_, rfl⟩ .nil))
end
theorem all_mk {l : PySem.W.OpenLaw} {w : World} {K : PySem.W.Frag} {h : Heap} {mg : Str → Option Value} {fa f0 f1 f2 f3 f4 f5 f6 f7 f8 f9 f10 f11 f12 f13 f14 f15 f16 f17 f18 f19 f20 f21 f22 f23 : Addr} (X : K.In h) (G : h.Ns mainGlobals mg) (hfa : mg "law" = some (.ref fa))
    {od0 an0 od1 an1 od2 an2 od3 an3 od4 an4 od5 an5 od6 an6 od7 an7 od8 an8 od9 an9 od10 an10 od11 an11 od12 an12 od13 an13 od14 an14 od15 an15 od16 an16 od17 an17 od18 an18 od19 an19 od20 an20 od21 an21 od22 an22 od23 an23 : Option Addr} {sl0 sl1 sl2 sl3 sl4 sl5 sl6 sl7 sl8 sl9 sl10 sl11 sl12 sl13 sl14 sl15 sl16 sl17 sl18 sl19 sl20 sl21 sl22 sl23 : Array (Option Value)} {oc0 kV0 dc0 pm0 cd0 ct0 oc1 kV1 dc1 pm1 cd1 ct1 oc2 kV2 dc2 pm2 cd2 ct2 oc3 kV3 dc3 pm3 cd3 ct3 oc4 kV4 dc4 pm4 cd4 ct4 oc5 kV5 dc5 pm5 cd5 ct5 oc6 kV6 dc6 pm6 cd6 ct6 oc7 kV7 dc7 pm7 cd7 ct7 oc8 kV8 dc8 pm8 cd8 ct8 oc9 kV9 dc9 pm9 cd9 ct9 oc10 kV10 dc10 pm10 cd10 ct10 oc11 kV11 dc11 pm11 cd11 ct11 oc12 kV12 dc12 pm12 cd12 ct12 oc13 kV13 dc13 pm13 cd13 ct13 oc14 kV14 dc14 pm14 cd14 ct14 oc15 kV15 dc15 pm15 cd15 ct15 oc16 kV16 dc16 pm16 cd16 ct16 oc17 kV17 dc17 pm17 cd17 ct17 oc18 kV18 dc18 pm18 cd18 ct18 oc19 kV19 dc19 pm19 cd19 ct19 oc20 kV20 dc20 pm20 cd20 ct20 oc21 kV21 dc21 pm21 cd21 ct21 oc22 kV22 dc22 pm22 cd22 ct22 oc23 kV23 dc23 pm23 cd23 ct23 : Value}
    (a0 : PySem.W.nsIn K mainGlobals "is_name" = some (some (.ref f0))) (l0 : K.lookup f0 = some ⟨oc0, od0, .func (PySem.W.fnOf "is_name" "is_name" (defArgs s_is_name) (defBody s_is_name) (defScope s_is_name) .none kV0 dc0 pm0 an0 cd0 ct0), sl0⟩) (c0 : PySem.W.codeIn K cd0 "is_name" = true) (k0 : PySem.W.keepIn K (.ref f0) = true)
    (a1 : PySem.W.nsIn K mainGlobals "is_figures" = some (some (.ref f1))) (l1 : K.lookup f1 = some ⟨oc1, od1, .func (PySem.W.fnOf "is_figures" "is_figures" (defArgs s_is_figures) (defBody s_is_figures) (defScope s_is_figures) .none kV1 dc1 pm1 an1 cd1 ct1), sl1⟩) (c1 : PySem.W.codeIn K cd1 "is_figures" = true) (k1 : PySem.W.keepIn K (.ref f1) = true)
    (a2 : PySem.W.nsIn K mainGlobals "read_helper" = some (some (.ref f2))) (l2 : K.lookup f2 = some ⟨oc2, od2, .func (PySem.W.fnOf "read_helper" "read_helper" (defArgs s_read_helper) (defBody s_read_helper) (defScope s_read_helper) .none kV2 dc2 pm2 an2 cd2 ct2), sl2⟩) (c2 : PySem.W.codeIn K cd2 "read_helper" = true) (k2 : PySem.W.keepIn K (.ref f2) = true)
    (a3 : PySem.W.nsIn K mainGlobals "helper_row" = some (some (.ref f3))) (l3 : K.lookup f3 = some ⟨oc3, od3, .func (PySem.W.fnOf "helper_row" "helper_row" (defArgs s_helper_row) (defBody s_helper_row) (defScope s_helper_row) .none kV3 dc3 pm3 an3 cd3 ct3), sl3⟩) (c3 : PySem.W.codeIn K cd3 "helper_row" = true) (k3 : PySem.W.keepIn K (.ref f3) = true)
    (a4 : PySem.W.nsIn K mainGlobals "next_name" = some (some (.ref f4))) (l4 : K.lookup f4 = some ⟨oc4, od4, .func (PySem.W.fnOf "next_name" "next_name" (defArgs s_next_name) (defBody s_next_name) (defScope s_next_name) .none kV4 dc4 pm4 an4 cd4 ct4), sl4⟩) (c4 : PySem.W.codeIn K cd4 "next_name" = true) (k4 : PySem.W.keepIn K (.ref f4) = true)
    (a5 : PySem.W.nsIn K mainGlobals "next_figures" = some (some (.ref f5))) (l5 : K.lookup f5 = some ⟨oc5, od5, .func (PySem.W.fnOf "next_figures" "next_figures" (defArgs s_next_figures) (defBody s_next_figures) (defScope s_next_figures) .none kV5 dc5 pm5 an5 cd5 ct5), sl5⟩) (c5 : PySem.W.codeIn K cd5 "next_figures" = true) (k5 : PySem.W.keepIn K (.ref f5) = true)
    (a6 : PySem.W.nsIn K mainGlobals "next_term" = some (some (.ref f6))) (l6 : K.lookup f6 = some ⟨oc6, od6, .func (PySem.W.fnOf "next_term" "next_term" (defArgs s_next_term) (defBody s_next_term) (defScope s_next_term) .none kV6 dc6 pm6 an6 cd6 ct6), sl6⟩) (c6 : PySem.W.codeIn K cd6 "next_term" = true) (k6 : PySem.W.keepIn K (.ref f6) = true)
    (a7 : PySem.W.nsIn K mainGlobals "term_in_bracket" = some (some (.ref f7))) (l7 : K.lookup f7 = some ⟨oc7, od7, .func (PySem.W.fnOf "term_in_bracket" "term_in_bracket" (defArgs s_term_in_bracket) (defBody s_term_in_bracket) (defScope s_term_in_bracket) .none kV7 dc7 pm7 an7 cd7 ct7), sl7⟩) (c7 : PySem.W.codeIn K cd7 "term_in_bracket" = true) (k7 : PySem.W.keepIn K (.ref f7) = true)
    (a8 : PySem.W.nsIn K mainGlobals "helper_text" = some (some (.ref f8))) (l8 : K.lookup f8 = some ⟨oc8, od8, .func (PySem.W.fnOf "helper_text" "helper_text" (defArgs s_helper_text) (defBody s_helper_text) (defScope s_helper_text) .none kV8 dc8 pm8 an8 cd8 ct8), sl8⟩) (c8 : PySem.W.codeIn K cd8 "helper_text" = true) (k8 : PySem.W.keepIn K (.ref f8) = true)
    (a9 : PySem.W.nsIn K mainGlobals "row_text" = some (some (.ref f9))) (l9 : K.lookup f9 = some ⟨oc9, od9, .func (PySem.W.fnOf "row_text" "row_text" (defArgs s_row_text) (defBody s_row_text) (defScope s_row_text) .none kV9 dc9 pm9 an9 cd9 ct9), sl9⟩) (c9 : PySem.W.codeIn K cd9 "row_text" = true) (k9 : PySem.W.keepIn K (.ref f9) = true)
    (a10 : PySem.W.nsIn K mainGlobals "term_text" = some (some (.ref f10))) (l10 : K.lookup f10 = some ⟨oc10, od10, .func (PySem.W.fnOf "term_text" "term_text" (defArgs s_term_text) (defBody s_term_text) (defScope s_term_text) .none kV10 dc10 pm10 an10 cd10 ct10), sl10⟩) (c10 : PySem.W.codeIn K cd10 "term_text" = true) (k10 : PySem.W.keepIn K (.ref f10) = true)
    (a11 : PySem.W.nsIn K mainGlobals "in_bracket" = some (some (.ref f11))) (l11 : K.lookup f11 = some ⟨oc11, od11, .func (PySem.W.fnOf "in_bracket" "in_bracket" (defArgs s_in_bracket) (defBody s_in_bracket) (defScope s_in_bracket) .none kV11 dc11 pm11 an11 cd11 ct11), sl11⟩) (c11 : PySem.W.codeIn K cd11 "in_bracket" = true) (k11 : PySem.W.keepIn K (.ref f11) = true)
    (a12 : PySem.W.nsIn K mainGlobals "_law_feed" = some (some (.ref f12))) (l12 : K.lookup f12 = some ⟨oc12, od12, .func (PySem.W.fnOf "_law_feed" "_law_feed" (defArgs s_l_feed) (defBody s_l_feed) (defScope s_l_feed) .none kV12 dc12 pm12 an12 cd12 ct12), sl12⟩) (c12 : PySem.W.codeIn K cd12 "_law_feed" = true) (k12 : PySem.W.keepIn K (.ref f12) = true)
    (a13 : PySem.W.nsIn K mainGlobals "_law_take" = some (some (.ref f13))) (l13 : K.lookup f13 = some ⟨oc13, od13, .func (PySem.W.fnOf "_law_take" "_law_take" (defArgs s_l_take) (defBody s_l_take) (defScope s_l_take) .none kV13 dc13 pm13 an13 cd13 ct13), sl13⟩) (c13 : PySem.W.codeIn K cd13 "_law_take" = true) (k13 : PySem.W.keepIn K (.ref f13) = true)
    (a14 : PySem.W.nsIn K mainGlobals "_law_name" = some (some (.ref f14))) (l14 : K.lookup f14 = some ⟨oc14, od14, .func (PySem.W.fnOf "_law_name" "_law_name" (defArgs s_l_name) (defBody s_l_name) (defScope s_l_name) .none kV14 dc14 pm14 an14 cd14 ct14), sl14⟩) (c14 : PySem.W.codeIn K cd14 "_law_name" = true) (k14 : PySem.W.keepIn K (.ref f14) = true)
    (a15 : PySem.W.nsIn K mainGlobals "_law_some" = some (some (.ref f15))) (l15 : K.lookup f15 = some ⟨oc15, od15, .func (PySem.W.fnOf "_law_some" "_law_some" (defArgs s_l_some) (defBody s_l_some) (defScope s_l_some) .none kV15 dc15 pm15 an15 cd15 ct15), sl15⟩) (c15 : PySem.W.codeIn K cd15 "_law_some" = true) (k15 : PySem.W.keepIn K (.ref f15) = true)
    (a16 : PySem.W.nsIn K mainGlobals "_law_whole" = some (some (.ref f16))) (l16 : K.lookup f16 = some ⟨oc16, od16, .func (PySem.W.fnOf "_law_whole" "_law_whole" (defArgs s_l_whole) (defBody s_l_whole) (defScope s_l_whole) .none kV16 dc16 pm16 an16 cd16 ct16), sl16⟩) (c16 : PySem.W.codeIn K cd16 "_law_whole" = true) (k16 : PySem.W.keepIn K (.ref f16) = true)
    (a17 : PySem.W.nsIn K mainGlobals "_law_any_term" = some (some (.ref f17))) (l17 : K.lookup f17 = some ⟨oc17, od17, .func (PySem.W.fnOf "_law_any_term" "_law_any_term" (defArgs s_l_any_term) (defBody s_l_any_term) (defScope s_l_any_term) .none kV17 dc17 pm17 an17 cd17 ct17), sl17⟩) (c17 : PySem.W.codeIn K cd17 "_law_any_term" = true) (k17 : PySem.W.keepIn K (.ref f17) = true)
    (a18 : PySem.W.nsIn K mainGlobals "_law_any_row" = some (some (.ref f18))) (l18 : K.lookup f18 = some ⟨oc18, od18, .func (PySem.W.fnOf "_law_any_row" "_law_any_row" (defArgs s_l_any_row) (defBody s_l_any_row) (defScope s_l_any_row) .none kV18 dc18 pm18 an18 cd18 ct18), sl18⟩) (c18 : PySem.W.codeIn K cd18 "_law_any_row" = true) (k18 : PySem.W.keepIn K (.ref f18) = true)
    (a19 : PySem.W.nsIn K mainGlobals "_law_text" = some (some (.ref f19))) (l19 : K.lookup f19 = some ⟨oc19, od19, .func (PySem.W.fnOf "_law_text" "_law_text" (defArgs s_l_text) (defBody s_l_text) (defScope s_l_text) .none kV19 dc19 pm19 an19 cd19 ct19), sl19⟩) (c19 : PySem.W.codeIn K cd19 "_law_text" = true) (k19 : PySem.W.keepIn K (.ref f19) = true)
    (a20 : PySem.W.nsIn K mainGlobals "_law_line" = some (some (.ref f20))) (l20 : K.lookup f20 = some ⟨oc20, od20, .func (PySem.W.fnOf "_law_line" "_law_line" (defArgs s_l_line) (defBody s_l_line) (defScope s_l_line) .none kV20 dc20 pm20 an20 cd20 ct20), sl20⟩) (c20 : PySem.W.codeIn K cd20 "_law_line" = true) (k20 : PySem.W.keepIn K (.ref f20) = true)
    (a21 : PySem.W.nsIn K mainGlobals "_law_alike" = some (some (.ref f21))) (l21 : K.lookup f21 = some ⟨oc21, od21, .func (PySem.W.fnOf "_law_alike" "_law_alike" (defArgs s_l_alike) (defBody s_l_alike) (defScope s_l_alike) .none kV21 dc21 pm21 an21 cd21 ct21), sl21⟩) (c21 : PySem.W.codeIn K cd21 "_law_alike" = true) (k21 : PySem.W.keepIn K (.ref f21) = true)
    (a22 : PySem.W.nsIn K mainGlobals "_law_any_helper" = some (some (.ref f22))) (l22 : K.lookup f22 = some ⟨oc22, od22, .func (PySem.W.fnOf "_law_any_helper" "_law_any_helper" (defArgs s_l_any_helper) (defBody s_l_any_helper) (defScope s_l_any_helper) .none kV22 dc22 pm22 an22 cd22 ct22), sl22⟩) (c22 : PySem.W.codeIn K cd22 "_law_any_helper" = true) (k22 : PySem.W.keepIn K (.ref f22) = true)
    (a23 : PySem.W.nsIn K mainGlobals "law" = some (some (.ref f23))) (l23 : K.lookup f23 = some ⟨oc23, od23, .func (PySem.W.fnOf "law" "law" (defArgs s_law) (defBody s_law) (defScope s_law) .none kV23 dc23 pm23 an23 cd23 ct23), sl23⟩) (c23 : PySem.W.codeIn K cd23 "law" = true) (k23 : PySem.W.keepIn K (.ref f23) = true)
    {C gI gE gS gT gW gF : Addr} {odI anI odE anE odS anS odT anT odW anW odF anF : Option Addr} {slI slE slS slT slW slF : Array (Option Value)} {ocI kVI dcI pmI cdI ctI ocE kVE dcE pmE cdE ctE ocS kVS dcS pmS cdS ctS ocT kVT dcT pmT cdT ctT ocW kVW dcW pmW cdW ctW ocF kVF dcF pmF cdF ctF : Value} {t1 t3 t4 t5 t6 u1 u2 u3 : Tok} {ka ja qa pa : Addr} {kd jd qd pd : Option Addr} {kits jits qits pits : Array Value} {kn jn qn pn : Nat} {ksl jsl qsl psl : Array (Option Value)}
    (gg : PySem.W.nsIn K mainGlobals "Scan" = some (some (.ref C)))
    (aI : PySem.W.findIn K (.ref C) "__init__" = some (some (.ref gI)))
    (iI : PySem.W.isFn K (.ref gI) = true)
    (lI : K.lookup gI = some ⟨ocI, odI, .func (PySem.W.fnOf "__init__" "Scan.__init__" (defArgs s_sinit) (defBody s_sinit) (defScope s_sinit) .none kVI dcI pmI anI cdI ctI), slI⟩)
    (cI : PySem.W.codeIn K cdI "Scan.__init__" = true)
    (kI : PySem.W.keepIn K (.ref gI) = true)
    (aE : PySem.W.findIn K (.ref C) "enter" = some (some (.ref gE)))
    (iE : PySem.W.isFn K (.ref gE) = true)
    (lE : K.lookup gE = some ⟨ocE, odE, .func (PySem.W.fnOf "enter" "Scan.enter" (defArgs s_senter) (defBody s_senter) (defScope s_senter) .none kVE dcE pmE anE cdE ctE), slE⟩)
    (cE : PySem.W.codeIn K cdE "Scan.enter" = true)
    (kE : PySem.W.keepIn K (.ref gE) = true)
    (aS : PySem.W.findIn K (.ref C) "sees" = some (some (.ref gS)))
    (iS : PySem.W.isFn K (.ref gS) = true)
    (lS : K.lookup gS = some ⟨ocS, odS, .func (PySem.W.fnOf "sees" "Scan.sees" (defArgs s_ssees) (defBody s_ssees) (defScope s_ssees) .none kVS dcS pmS anS cdS ctS), slS⟩)
    (cS : PySem.W.codeIn K cdS "Scan.sees" = true)
    (kS : PySem.W.keepIn K (.ref gS) = true)
    (aT : PySem.W.findIn K (.ref C) "take" = some (some (.ref gT)))
    (iT : PySem.W.isFn K (.ref gT) = true)
    (lT : K.lookup gT = some ⟨ocT, odT, .func (PySem.W.fnOf "take" "Scan.take" (defArgs s_stake) (defBody s_stake) (defScope s_stake) .none kVT dcT pmT anT cdT ctT), slT⟩)
    (cT : PySem.W.codeIn K cdT "Scan.take" = true)
    (kT : PySem.W.keepIn K (.ref gT) = true)
    (aW : PySem.W.findIn K (.ref C) "word" = some (some (.ref gW)))
    (iW : PySem.W.isFn K (.ref gW) = true)
    (lW : K.lookup gW = some ⟨ocW, odW, .func (PySem.W.fnOf "word" "Scan.word" (defArgs s_sword) (defBody s_sword) (defScope s_sword) .none kVW dcW pmW anW cdW ctW), slW⟩)
    (cW : PySem.W.codeIn K cdW "Scan.word" = true)
    (kW : PySem.W.keepIn K (.ref gW) = true)
    (aF : PySem.W.findIn K (.ref C) "finish" = some (some (.ref gF)))
    (iF : PySem.W.isFn K (.ref gF) = true)
    (lF : K.lookup gF = some ⟨ocF, odF, .func (PySem.W.fnOf "finish" "Scan.finish" (defArgs s_sfinish) (defBody s_sfinish) (defScope s_sfinish) .none kVF dcF pmF anF cdF ctF), slF⟩)
    (cF : PySem.W.codeIn K cdF "Scan.finish" = true)
    (kF : PySem.W.keepIn K (.ref gF) = true)
    (pg : PySem.W.plainGet K C Str.empty = true)
    (hdi : PySem.W.hasDictIn K C = true)
    (pov : PySem.W.plainOver K C = true)
    (sat : PySem.W.findIn K (.ref C) "__setattr__" = some (some (.builtin "object.__setattr__")))
    (mki : PySem.W.makesIn K C = true)
    (kcl : PySem.W.keepIn K (.ref C) = true)
    (nX : PySem.W.findIn K (.ref C) "text" = some none)
    (nR : PySem.W.findIn K (.ref C) "row" = some none)
    (nW : PySem.W.findIn K (.ref C) "most_within" = some none)
    (nP : PySem.W.findIn K (.ref C) "most_parts" = some none)
    (nL : PySem.W.findIn K (.ref C) "place" = some none)
    (nN : PySem.W.findIn K (.ref C) "parts" = some none)
    (g1 : PySem.W.nsIn K mainGlobals "LETTERS" = some (some (.str LET t1)))
    (g3 : PySem.W.nsIn K mainGlobals "LONGEST_NAME" = some (some (.int 6 t3)))
    (g5 : PySem.W.nsIn K mainGlobals "KEPT_WORDS" = some (some (.ref ka)))
    (g6 : K.lookup ka = some ⟨.type "tuple", kd, .seq kits kn, ksl⟩)
    (g7 : kits.size ≤ 100)
    (g8 : Vals (kept.map V.str) kits.toList)
    (e1 : PySem.W.nsIn K mainGlobals "WORD_ENDS" = some (some (.str ENDS t4)))
    (e2 : PySem.W.nsIn K mainGlobals "MOST_WITHIN" = some (some (.int 8 t5)))
    (e3 : PySem.W.nsIn K mainGlobals "MOST_PARTS" = some (some (.int 20 t6)))
    (w1 : PySem.W.nsIn K mainGlobals "FIGURES" = some (some (.str FIG u1)))
    (w2 : PySem.W.nsIn K mainGlobals "MOST_FIGURES" = some (some (.int 12 u2)))
    (w3 : PySem.W.nsIn K mainGlobals "MOST_ROWS" = some (some (.int 60 u3)))
    (j5 : PySem.W.nsIn K mainGlobals "SIGNS" = some (some (.ref ja)))
    (j6 : K.lookup ja = some ⟨.type "tuple", jd, .seq jits jn, jsl⟩)
    (j7 : jits.size ≤ 100)
    (j8 : Vals (signW.map V.str) jits.toList)
    (q5 : PySem.W.nsIn K mainGlobals "ASKING_WORDS" = some (some (.ref qa)))
    (q6 : K.lookup qa = some ⟨.type "tuple", qd, .seq qits qn, qsl⟩)
    (q7 : qits.size ≤ 100)
    (q8 : Vals (askW.map V.str) qits.toList)
    (p5 : PySem.W.nsIn K mainGlobals "PLAIN_WORDS" = some (some (.ref pa)))
    (p6 : K.lookup pa = some ⟨.type "tuple", pd, .seq pits pn, psl⟩)
    (p7 : pits.size ≤ 100)
    (p8 : Vals (plainW.map V.str) pits.toList)
    (z0 : PySem.W.nsIn K mainGlobals "len" = some none) (z1 : PySem.W.nsIn K mainGlobals "range" = some none) (z2 : PySem.W.nsIn K mainGlobals "isinstance" = some none) (z3 : PySem.W.nsIn K mainGlobals "int" = some none) (z4 : PySem.W.nsIn K mainGlobals "bool" = some none) (z5 : PySem.W.nsIn K mainGlobals "list" = some none) (z6 : PySem.W.nsIn K mainGlobals "tuple" = some none) (z7 : PySem.W.nsIn K mainGlobals "str" = some none) (z8 : PySem.W.nsIn K mainGlobals "all" = some none) (z9 : PySem.W.nsIn K mainGlobals "zip" = some none) (z10 : PySem.W.nsIn K mainGlobals "enumerate" = some none) :
    ∃ fd : FuncData, (∀ (s : Shared) (v : Value), BindsTo s fd ⟨[v], []⟩ [("_law_script", v)]) ∧ ∀ base : Heap, K.In base → base.Ns mainGlobals mg → FnOk l.prog w K mg base CX0 22 fa fd ["_law_script"] (spLaw K) := by
  have e := hfa.symm.trans (PySem.W.mg_of X G a23)
  cases e
  have F_is_name := fun_mk (st := s_is_name) l0 c0 k0
  have m_is_name := PySem.W.mg_of X G a0
  have F_is_figures := fun_mk (st := s_is_figures) l1 c1 k1
  have m_is_figures := PySem.W.mg_of X G a1
  have F_read_helper := fun_mk (st := s_read_helper) l2 c2 k2
  have m_read_helper := PySem.W.mg_of X G a2
  have F_helper_row := fun_mk (st := s_helper_row) l3 c3 k3
  have m_helper_row := PySem.W.mg_of X G a3
  have F_next_name := fun_mk (st := s_next_name) l4 c4 k4
  have m_next_name := PySem.W.mg_of X G a4
  have F_next_figures := fun_mk (st := s_next_figures) l5 c5 k5
  have m_next_figures := PySem.W.mg_of X G a5
  have F_next_term := fun_mk (st := s_next_term) l6 c6 k6
  have m_next_term := PySem.W.mg_of X G a6
  have F_term_in_bracket := fun_mk (st := s_term_in_bracket) l7 c7 k7
  have m_term_in_bracket := PySem.W.mg_of X G a7
  have F_helper_text := fun_mk (st := s_helper_text) l8 c8 k8
  have m_helper_text := PySem.W.mg_of X G a8
  have F_row_text := fun_mk (st := s_row_text) l9 c9 k9
  have m_row_text := PySem.W.mg_of X G a9
  have F_term_text := fun_mk (st := s_term_text) l10 c10 k10
  have m_term_text := PySem.W.mg_of X G a10
  have F_in_bracket := fun_mk (st := s_in_bracket) l11 c11 k11
  have m_in_bracket := PySem.W.mg_of X G a11
  have F_l_feed := fun_mk (st := s_l_feed) l12 c12 k12
  have m_l_feed := PySem.W.mg_of X G a12
  have F_l_take := fun_mk (st := s_l_take) l13 c13 k13
  have m_l_take := PySem.W.mg_of X G a13
  have F_l_name := fun_mk (st := s_l_name) l14 c14 k14
  have m_l_name := PySem.W.mg_of X G a14
  have F_l_some := fun_mk (st := s_l_some) l15 c15 k15
  have m_l_some := PySem.W.mg_of X G a15
  have F_l_whole := fun_mk (st := s_l_whole) l16 c16 k16
  have m_l_whole := PySem.W.mg_of X G a16
  have F_l_any_term := fun_mk (st := s_l_any_term) l17 c17 k17
  have m_l_any_term := PySem.W.mg_of X G a17
  have F_l_any_row := fun_mk (st := s_l_any_row) l18 c18 k18
  have m_l_any_row := PySem.W.mg_of X G a18
  have F_l_text := fun_mk (st := s_l_text) l19 c19 k19
  have m_l_text := PySem.W.mg_of X G a19
  have F_l_line := fun_mk (st := s_l_line) l20 c20 k20
  have m_l_line := PySem.W.mg_of X G a20
  have F_l_alike := fun_mk (st := s_l_alike) l21 c21 k21
  have m_l_alike := PySem.W.mg_of X G a21
  have F_l_any_helper := fun_mk (st := s_l_any_helper) l22 c22 k22
  have m_l_any_helper := PySem.W.mg_of X G a22
  have F_law := fun_mk (st := s_law) l23 c23 k23
  have B : Bl mg := ⟨PySem.W.mg_none_of X G z0, PySem.W.mg_none_of X G z1, PySem.W.mg_none_of X G z2, PySem.W.mg_none_of X G z3, PySem.W.mg_none_of X G z4, PySem.W.mg_none_of X G z5, PySem.W.mg_none_of X G z6, PySem.W.mg_none_of X G z7, PySem.W.mg_none_of X G z8, PySem.W.mg_none_of X G z9, PySem.W.mg_none_of X G z10⟩
  refine ⟨PySem.W.fnOf "law" "law" (defArgs s_law) (defBody s_law) (defScope s_law) .none kV23 dc23 pm23 an23 cd23 ct23, fun s v => .of_eq rfl, fun base _ _ => ?_⟩
  have T : STxt K mg C := ⟨⟨pg, hdi, pov, sat⟩, nX, nR, nW, nP, nL, nN, PySem.W.mg_of X G gg⟩
  have TX : Tx K mg := ⟨⟨t1, PySem.W.mg_of X G g1⟩, ⟨t3, PySem.W.mg_of X G g3⟩, ⟨ka, PySem.W.mg_of X G g5, fun _ => .inr ⟨_, kits, kn, g6, rfl, rfl, Nat.le_trans g7 (small (by decide)), g8⟩⟩, ⟨t4, PySem.W.mg_of X G e1⟩, ⟨t5, PySem.W.mg_of X G e2⟩, ⟨t6, PySem.W.mg_of X G e3⟩, ⟨u1, PySem.W.mg_of X G w1⟩, ⟨u2, PySem.W.mg_of X G w2⟩, ⟨u3, PySem.W.mg_of X G w3⟩, ⟨ja, PySem.W.mg_of X G j5, fun _ => .inr ⟨_, jits, jn, j6, rfl, rfl, Nat.le_trans j7 (small (by decide)), j8⟩⟩, ⟨qa, PySem.W.mg_of X G q5, fun _ => .inr ⟨_, qits, qn, q6, rfl, rfl, Nat.le_trans q7 (small (by decide)), q8⟩⟩, ⟨pa, PySem.W.mg_of X G p5, fun _ => .inr ⟨_, pits, pn, p6, rfl, rfl, Nat.le_trans p7 (small (by decide)), p8⟩⟩⟩
  have F_gI := fun_mk (st := s_sinit) lI cI kI
  have b_gI := F_gI.binds (ps := ["self", "text", "row", "most_within", "most_parts"]) fun _ _ _ _ _ _ us hl => by obtain ⟨u0, u1, u2, u3, u4, rfl⟩ := len5 hl; rfl
  have F_gE := fun_mk (st := s_senter) lE cE kE
  have b_gE := F_gE.binds (ps := ["self", "within"]) fun _ _ _ _ _ _ us hl => by obtain ⟨u0, u1, rfl⟩ := len2 hl; rfl
  have F_gS := fun_mk (st := s_ssees) lS cS kS
  have b_gS := F_gS.binds (ps := ["self", "signs"]) fun _ _ _ _ _ _ us hl => by obtain ⟨u0, u1, rfl⟩ := len2 hl; rfl
  have F_gT := fun_mk (st := s_stake) lT cT kT
  have b_gT := F_gT.binds (ps := ["self", "signs"]) fun _ _ _ _ _ _ us hl => by obtain ⟨u0, u1, rfl⟩ := len2 hl; rfl
  have F_gW := fun_mk (st := s_sword) lW cW kW
  have b_gW := F_gW.binds (ps := ["self"]) fun _ _ _ _ _ _ us hl => by obtain ⟨u0, rfl⟩ := len1 hl; rfl
  have F_gF := fun_mk (st := s_sfinish) lF cF kF
  have b_gF := F_gF.binds (ps := ["self"]) fun _ _ _ _ _ _ us hl => by obtain ⟨u0, rfl⟩ := len1 hl; rfl
  have G_gI := ok_sinit (P := l.prog) (w := w) (base := base) F_gI T
  have G_gE := ok_senter (P := l.prog) (w := w) (base := base) F_gE T
  have G_gS := ok_ssees (P := l.prog) (w := w) (base := base) F_gS T
  have G_gT := ok_stake (P := l.prog) (w := w) (base := base) F_gT B T ⟨aS, iS, kS⟩ G_gS b_gS
  have G_gW := ok_sword (P := l.prog) (w := w) (base := base) F_gW B TX T
  have G_gF := ok_sfinish (P := l.prog) (w := w) (base := base) F_gF B T
  have M : Mths l.prog w K mg base C gE gS gT gW gF _ _ _ _ _ := ⟨⟨aE, iE, kE⟩, G_gE, b_gE, ⟨aS, iS, kS⟩, G_gS, b_gS, ⟨aT, iT, kT⟩, G_gT, b_gT, ⟨aW, iW, kW⟩, G_gW, b_gW, ⟨aF, iF, kF⟩, G_gF, b_gF⟩
  have C_l_feed := Cal.of (P := l.prog) (w := w) (base := base) F_l_feed (ok_l_feed F_l_feed B.len) m_l_feed (fun _ _ _ _ _ _ us hl => by obtain ⟨u0, u1, rfl⟩ := len2 hl; rfl)
  have C_l_take := Cal.of (P := l.prog) (w := w) (base := base) F_l_take (ok_l_take F_l_take ) m_l_take (fun _ _ _ _ _ _ us hl => by obtain ⟨u0, u1, rfl⟩ := len2 hl; rfl)
  have C_l_name := Cal.of (P := l.prog) (w := w) (base := base) F_l_name (ok_l_name F_l_name B C_l_take) m_l_name (fun _ _ _ _ _ _ us hl => by obtain ⟨u0, rfl⟩ := len1 hl; rfl)
  have C_l_some := Cal.of (P := l.prog) (w := w) (base := base) F_l_some (ok_l_some F_l_some B C_l_take) m_l_some (fun _ _ _ _ _ _ us hl => by obtain ⟨u0, u1, rfl⟩ := len2 hl; rfl)
  have C_l_whole := Cal.of (P := l.prog) (w := w) (base := base) F_l_whole (ok_l_whole F_l_whole C_l_take) m_l_whole (fun _ _ _ _ _ _ us hl => by obtain ⟨u0, rfl⟩ := len1 hl; rfl)
  have C_l_any_term := Cal.of (P := l.prog) (w := w) (base := base) F_l_any_term (ok_l_any_term F_l_any_term m_l_any_term C_l_take C_l_some C_l_whole 8) m_l_any_term (fun _ _ _ _ _ _ us hl => by obtain ⟨u0, u1, u2, u3, rfl⟩ := len4 hl; rfl)
  have C_l_any_row := Cal.of (P := l.prog) (w := w) (base := base) F_l_any_row (ok_l_any_row F_l_any_row C_l_take C_l_some C_l_whole C_l_any_term) m_l_any_row (fun _ _ _ _ _ _ us hl => by obtain ⟨u0, u1, u2, rfl⟩ := len3 hl; rfl)
  have C_l_any_helper := Cal.of (P := l.prog) (w := w) (base := base) F_l_any_helper (ok_l_any_helper F_l_any_helper B C_l_take C_l_any_row) m_l_any_helper (fun _ _ _ _ _ _ us hl => by obtain ⟨u0, u1, rfl⟩ := len2 hl; rfl)
  have C_is_name := Cal.of (P := l.prog) (w := w) (base := base) F_is_name (ok_is_name F_is_name B TX) m_is_name (fun _ _ _ _ _ _ us hl => by obtain ⟨u0, rfl⟩ := len1 hl; rfl)
  have C_is_figures := Cal.of (P := l.prog) (w := w) (base := base) F_is_figures (ok_is_figures F_is_figures B TX) m_is_figures (fun _ _ _ _ _ _ us hl => by obtain ⟨u0, rfl⟩ := len1 hl; rfl)
  have C_term_text := Cal.of (P := l.prog) (w := w) (base := base) F_term_text (ok_term_text F_term_text F_in_bracket B TX m_term_text m_in_bracket 8) m_term_text (fun _ _ _ _ _ _ us hl => by obtain ⟨u0, rfl⟩ := len1 hl; rfl)
  have C_l_text := Cal.of (P := l.prog) (w := w) (base := base) F_l_text (ok_l_text F_l_text B m_l_text 8) m_l_text (fun _ _ _ _ _ _ us hl => by obtain ⟨u0, rfl⟩ := len1 hl; rfl)
  have C_row_text := Cal.of (P := l.prog) (w := w) (base := base) F_row_text (ok_row_text F_row_text B C_term_text) m_row_text (fun _ _ _ _ _ _ us hl => by obtain ⟨u0, rfl⟩ := len1 hl; rfl)
  have C_helper_text := Cal.of (P := l.prog) (w := w) (base := base) F_helper_text (ok_helper_text F_helper_text C_row_text) m_helper_text (fun _ _ _ _ _ _ us hl => by obtain ⟨u0, rfl⟩ := len1 hl; rfl)
  have C_l_line := Cal.of (P := l.prog) (w := w) (base := base) F_l_line (ok_l_line F_l_line B C_l_text) m_l_line (fun _ _ _ _ _ _ us hl => by obtain ⟨u0, rfl⟩ := len1 hl; rfl)
  have C_next_term := Cal.of (P := l.prog) (w := w) (base := base) F_next_term (ok_next_term F_next_term m_next_term F_term_in_bracket m_term_in_bracket B TX T M C_is_name C_is_figures 8) m_next_term (fun _ _ _ _ _ _ us hl => by obtain ⟨u0, u1, rfl⟩ := len2 hl; rfl)
  have C_next_name := Cal.of (P := l.prog) (w := w) (base := base) F_next_name (ok_next_name F_next_name T M C_is_name) m_next_name (fun _ _ _ _ _ _ us hl => by obtain ⟨u0, rfl⟩ := len1 hl; rfl)
  have C_next_figures := Cal.of (P := l.prog) (w := w) (base := base) F_next_figures (ok_next_figures F_next_figures B T M C_is_figures) m_next_figures (fun _ _ _ _ _ _ us hl => by obtain ⟨u0, rfl⟩ := len1 hl; rfl)
  have C_helper_row := Cal.of (P := l.prog) (w := w) (base := base) F_helper_row (ok_helper_row F_helper_row TX T M ⟨mki, aI, iI, kcl⟩ G_gI b_gI C_next_name C_next_figures C_next_term) m_helper_row (fun _ _ _ _ _ _ us hl => by obtain ⟨u0, u1, rfl⟩ := len2 hl; rfl)
  have C_read_helper := Cal.of (P := l.prog) (w := w) (base := base) F_read_helper (ok_read_helper F_read_helper B TX C_helper_row) m_read_helper (fun _ _ _ _ _ _ us hl => by obtain ⟨u0, rfl⟩ := len1 hl; rfl)
  have C_l_alike := Cal.of (P := l.prog) (w := w) (base := base) F_l_alike (ok_l_alike F_l_alike B) m_l_alike (fun _ _ _ _ _ _ us hl => by obtain ⟨u0, u1, rfl⟩ := len2 hl; rfl)
  exact ok_law F_law B C_l_feed C_l_take C_l_name C_l_any_helper C_l_line C_helper_text C_read_helper C_l_alike
theorem walk {l : PySem.W.OpenLaw} {q : Program} {loose : List Str} {XP : (Str → Option Value) → Heap → Prop} {YP : World → Heap → Prop} {d : DefRec} {K : Params → PySem.W.Frag} (hn : l.most = some 63) (hdf : d.params.defaults = [])
    (hY : ∀ (w : World) (h : Heap), YP w h → (K w.params).In h)
    (F : ∀ (w : World) (mg : Str → Option Value) (fa : Addr) (h : Heap), (K w.params).In h → h.Ns mainGlobals mg → mg d.name = some (.ref fa) →
      ∃ fd : FuncData, (∀ (s : Shared) (u : Value), BindsTo s fd ⟨[u], []⟩ [("_law_script", u)]) ∧ ∀ base : Heap, (K w.params).In base → base.Ns mainGlobals mg → FnOk l.prog w (K w.params) mg base CX0 22 fa fd ["_law_script"] (spLaw (K w.params))) :
    PySem.W.WalkO q loose XP YP l.row.toRowW d [] (fun f vs => PySem.call f vs) :=
  L2.walk_of (n := 63) (k := 22) (x := "_law_script") (CX := fun _ => CX0) (sp := fun w => spLaw (K w.params)) hn (by decide) hdf ⟨rfl, by decide, by decide⟩ hY F (fun _ _ a ns hl _ hS => ⟨a, ns, rfl, hS, hl, fun _ => rfl⟩) fun _ _ _ _ _ z => z
end Mine
def PySem.W.Fast.tw2399613117742693999 : Unit := ()
def PySem.W.Fast.tw13760061148491854789 : Unit := ()
def PySem.W.Fast.tw5596409605274511138 : Unit := ()
def PySem.W.Fast.tw18420161804542445904 : Unit := ()
def PySem.W.Fast.tw16535906727159462413 : Unit := ()
def PySem.W.Fast.tw4208790853570213927 : Unit := ()
def PySem.W.Fast.tw14617060033447209947 : Unit := ()
def PySem.W.Fast.tw11673913162745991393 : Unit := ()
def PySem.W.Fast.tw1738343606295168413 : Unit := ()
def PySem.W.Fast.tw15116615460455415955 : Unit := ()
def PySem.W.Fast.tw8244096810235228424 : Unit := ()
def PySem.W.Fast.tw8674516947181514110 : Unit := ()
def PySem.W.Fast.tw569664488893866697 : Unit := ()
def PySem.W.Fast.tw8000433927340199266 : Unit := ()
def PySem.W.Fast.tw12189850180821866252 : Unit := ()
def PySem.W.Fast.tw12881212241553390849 : Unit := ()
def PySem.W.Fast.tw7861059026124181360 : Unit := ()
def PySem.W.Fast.tw2736568264497060823 : Unit := ()
def PySem.W.Fast.tw18049760504357359227 : Unit := ()
def PySem.W.Fast.tw12083370072734738113 : Unit := ()
def PySem.W.Fast.tw12945191656902785344 : Unit := ()
def PySem.W.Fast.tw3943388292798420913 : Unit := ()
def PySem.W.Fast.tw15240829770799306307 : Unit := ()
def PySem.W.Fast.tw16825060202309949749 : Unit := ()
def PySem.W.Fast.tw10096277277240120306 : Unit := ()
def PySem.W.Fast.tw16529719779934078784 : Unit := ()
def PySem.W.Fast.tw11795816792441753023 : Unit := ()
def PySem.W.Fast.tw12446038792622396005 : Unit := ()
def PySem.W.Fast.tw1388513177296836760 : Unit := ()
def PySem.W.Fast.tw449954969159408403 : Unit := ()
def PySem.W.Fast.tw16950621358949828539 : Unit := ()
def PySem.W.Fast.tw7132351726011923870 : Unit := ()
def PySem.W.Fast.tw12562426193645920425 : Unit := ()
def PySem.W.Fast.tw9561935585108471998 : Unit := ()
def PySem.W.Fast.tw8570302990103144886 : Unit := ()
def PySem.W.Fast.tw15094618574100043778 : Unit := ()
def PySem.W.Fast.tw15574581954454549092 : Unit := ()
def PySem.W.Fast.tw11934554673481020540 : Unit := ()
def PySem.W.Fast.tw1749076049613222391 : Unit := ()
def PySem.W.Fast.tw7538875181410212694 : Unit := ()
def PySem.W.Fast.tw15892201292753394178 : Unit := ()
def PySem.W.Fast.tw4007841088995814543 : Unit := ()
def PySem.W.Fast.tw8965265846815244651 : Unit := ()
def PySem.W.Fast.tw4075683214574962287 : Unit := ()
def PySem.W.Fast.tw14785975599423329972 : Unit := ()
def PySem.W.Fast.tw8431337211436846266 : Unit := ()
def PySem.W.Fast.tw17669075100654172520 : Unit := ()
def PySem.W.Fast.tw1554854722634529376 : Unit := ()
def PySem.W.Fast.tw1939837588158482164 : Unit := ()
def PySem.W.Fast.tw11734817290736299975 : Unit := ()
def PySem.W.Fast.tw13506328907273643887 : Unit := ()
def PySem.W.Fast.tw15540515970950439748 : Unit := ()
def PySem.W.Fast.tw11074733358593733897 : Unit := ()
def PySem.W.Fast.tw4310234813462779931 : Unit := ()
def PySem.W.Fast.tw11691629422414788047 : Unit := ()
def PySem.W.Fast.tw14847703879993412811 : Unit := ()
def PySem.W.Fast.tw14961890342021205064 : Unit := ()
def PySem.W.Fast.tw8214998323196225058 : Unit := ()
def PySem.W.Fast.tw16234361911555102641 : Unit := ()
def PySem.W.Fast.tw4446011241114985964 : Unit := ()
def PySem.W.Fast.tw16131120259987064303 : Unit := ()
def PySem.W.Fast.tw2499833918223706804 : Unit := ()
def PySem.W.Fast.tw16325736659757104976 : Unit := ()
def PySem.W.Fast.tw10297271323774765123 : Unit := ()
def PySem.W.Fast.tw17129872974399936470 : Unit := ()
def PySem.W.Fast.tw4923911504902428301 : Unit := ()
def PySem.W.Fast.tw9397299943947377482 : Unit := ()
def PySem.W.Fast.tw5212857934861403437 : Unit := ()
def PySem.W.Fast.tw2677380270010763854 : Unit := ()
def PySem.W.Fast.tw18401207143824146377 : Unit := ()
def PySem.W.Fast.tw17649939411720145223 : Unit := ()
def PySem.W.Fast.tw5919444083918868802 : Unit := ()
def PySem.W.Fast.tw4194460421657188444 : Unit := ()
def PySem.W.Fast.tw9934763076697274157 : Unit := ()
def PySem.W.Fast.tw6021087371940927205 : Unit := ()
def PySem.W.Fast.tw15255914422668461396 : Unit := ()
def PySem.W.Fast.tw9277352723580995147 : Unit := ()
def PySem.W.Fast.tw12175287529004427331 : Unit := ()
def PySem.W.Fast.tw1640331266443740632 : Unit := ()
def PySem.W.Fast.tw1903805518592433686 : Unit := ()
def PySem.W.Fast.tw18296264815652672910 : Unit := ()
def PySem.W.Fast.tw2373718313817590929 : Unit := ()
def PySem.W.Fast.tw4316728257532238548 : Unit := ()
def PySem.W.Fast.tw17632254315499981084 : Unit := ()
def PySem.W.Fast.tw93247120490392025 : Unit := ()
def PySem.W.Fast.tw18105171339426994123 : Unit := ()
def PySem.W.Fast.tw16871322264641931590 : Unit := ()
def PySem.W.Fast.tw16819795175366680232 : Unit := ()
def PySem.W.Fast.tw1516762418552552069 : Unit := ()
def PySem.W.Fast.tw14110712786026816262 : Unit := ()
def PySem.W.Fast.tw483934544286417199 : Unit := ()
def PySem.W.Fast.tw6450978088853287711 : Unit := ()
def PySem.W.Fast.tw3349208646850187991 : Unit := ()
def PySem.W.Fast.tw8100657465596385302 : Unit := ()
def PySem.W.Fast.tw5155335264193832060 : Unit := ()
def PySem.W.Fast.tw5607503836555704417 : Unit := ()
def PySem.W.Fast.tw2604768480146400567 : Unit := ()
def PySem.W.Fast.tw17318990771649843851 : Unit := ()
def PySem.W.Fast.tw2723537933983709555 : Unit := ()
def PySem.W.Fast.tw17766035795744253702 : Unit := ()
def PySem.W.Fast.tw12758898417767381728 : Unit := ()
def PySem.W.Fast.tw6533712600236976847 : Unit := ()
def PySem.W.Fast.tw6148035621154073572 : Unit := ()
def PySem.W.Fast.tw6486934140818077012 : Unit := ()
def PySem.W.Fast.tw5968129192012030793 : Unit := ()
def PySem.W.Fast.tw9575263566124396540 : Unit := ()
def PySem.W.Fast.tw2580370594271232159 : Unit := ()
def PySem.W.Fast.tw16908194623427338583 : Unit := ()
def PySem.W.Fast.tw5907347499458338499 : Unit := ()
def PySem.W.Fast.tw6215953564072126056 : Unit := ()
def PySem.W.Fast.tw16131700982352485008 : Unit := ()
def PySem.W.Fast.tw17544736854108249022 : Unit := ()
def PySem.W.Fast.tw13398703496667785791 : Unit := ()
def PySem.W.Fast.tw10787774605356858011 : Unit := ()
def PySem.W.Fast.tw9632022972756046358 : Unit := ()
def PySem.W.Fast.tw15483199965972262616 : Unit := ()
def PySem.W.Fast.tw14950049514552612248 : Unit := ()
def PySem.W.Fast.tw6256120952793660897 : Unit := ()
def PySem.W.Fast.tw2574689985853082666 : Unit := ()
def PySem.W.Fast.tw2770200683182012946 : Unit := ()
def PySem.W.Fast.tw15877017098150193751 : Unit := ()
def PySem.W.Fast.tw2934754502842215451 : Unit := ()
def PySem.W.Fast.tw17081011195269226961 : Unit := ()
def PySem.W.Fast.tw988560081354951975 : Unit := ()
def PySem.W.Fast.tw6750054554904476207 : Unit := ()
def PySem.W.Fast.tw563191036163201699 : Unit := ()
def PySem.W.Fast.tw11227282471694374955 : Unit := ()
def PySem.W.Fast.tw4076336155653020675 : Unit := ()
def PySem.W.Fast.tw8660205771611412879 : Unit := ()
def PySem.W.Fast.tw14302692012293053376 : Unit := ()
def PySem.W.Fast.tw7203720696598120686 : Unit := ()
def PySem.W.Fast.tw2066528457708985526 : Unit := ()
def PySem.W.Fast.tw14141465828232386114 : Unit := ()
def PySem.W.Fast.tw11254240222365439672 : Unit := ()
def PySem.W.Fast.tw8047538538699749976 : Unit := ()
def PySem.W.Fast.tw15824319287748110846 : Unit := ()
def PySem.W.Fast.tw16294868107614716334 : Unit := ()
def PySem.W.Fast.tw7327527136466621256 : Unit := ()
def PySem.W.Fast.tw662194524718940651 : Unit := ()
def PySem.W.Fast.tw11413386464355450270 : Unit := ()
def PySem.W.Fast.tw16369339255196473152 : Unit := ()
def PySem.W.Fast.tw7624042723862321614 : Unit := ()
def PySem.W.Fast.tw257544806390595894 : Unit := ()
def PySem.W.Fast.tw17554659809753084387 : Unit := ()
def PySem.W.Fast.tw14700125324660842473 : Unit := ()
def PySem.W.Fast.tw13963364548390543805 : Unit := ()
def PySem.W.Fast.tw2151790021606418790 : Unit := ()
def PySem.W.Fast.tw7396729447915868322 : Unit := ()
def PySem.W.Fast.tw13587948653498160926 : Unit := ()
def PySem.W.Fast.tw6965372708754579197 : Unit := ()
def PySem.W.Fast.tw9110961137571699934 : Unit := ()
def PySem.W.Fast.tw6301431652160130810 : Unit := ()
def PySem.W.Fast.tw6794906083372794381 : Unit := ()
def PySem.W.Fast.tw3143369681699486351 : Unit := ()
def PySem.W.Fast.tw1015485704810202277 : Unit := ()
def PySem.W.Fast.tw11852119676614452735 : Unit := ()
def PySem.W.Fast.tw2942604852290458837 : Unit := ()
def PySem.W.Fast.tw9639859387007522036 : Unit := ()
def PySem.W.Fast.tw5073660991091657238 : Unit := ()
def PySem.W.Fast.tw7031753262406298218 : Unit := ()
def PySem.W.Fast.tw15345369549218052024 : Unit := ()
def PySem.W.Fast.tw16892850021111909081 : Unit := ()
def PySem.W.Fast.tw3958365955256362218 : Unit := ()
def PySem.W.Fast.tw6106421734745006132 : Unit := ()
def PySem.W.Fast.tw5297903053023569733 : Unit := ()
def PySem.W.Fast.tw17732103925474164517 : Unit := ()
def PySem.W.Fast.tw10330119660348719596 : Unit := ()
def PySem.W.Fast.tw9653932515792580471 : Unit := ()
def PySem.W.Fast.tw18250701909727361878 : Unit := ()
def PySem.W.Fast.tw2622073232707433759 : Unit := ()
def PySem.W.Fast.tw15539061439286169782 : Unit := ()
def PySem.W.Fast.tw16861732582147206261 : Unit := ()
def PySem.W.Fast.tw7593414369911582332 : Unit := ()
def PySem.W.Fast.tw6181425847449606690 : Unit := ()
def PySem.W.Fast.tw4037177769771990056 : Unit := ()
def PySem.W.Fast.tw13509860521599318634 : Unit := ()
def PySem.W.Fast.tw16980778072804880595 : Unit := ()
def PySem.W.Fast.tw873155422048931956 : Unit := ()
def PySem.W.Fast.tw5987081130351039016 : Unit := ()
def PySem.W.Fast.tw11723123009764582608 : Unit := ()
def PySem.W.Fast.tw8764869560876208720 : Unit := ()
def PySem.W.Fast.tw15893207060997842844 : Unit := ()
def PySem.W.Fast.tw18366854024849357198 : Unit := ()
def PySem.W.Fast.tw5528240601824910998 : Unit := ()
def PySem.W.Fast.tw12518030671535112589 : Unit := ()
def PySem.W.Fast.tw5338601640997211584 : Unit := ()
def PySem.W.Fast.tw2509228694011176721 : Unit := ()
def PySem.W.Fast.tw5442332294201140517 : Unit := ()
def PySem.W.Fast.tw3685414924682856566 : Unit := ()
def PySem.W.Fast.tw9302765343281530308 : Unit := ()
def PySem.W.Fast.tw5260107449001722180 : Unit := ()
def PySem.W.Fast.tw3480408410665112211 : Unit := ()
def PySem.W.Fast.tw257365142825125742 : Unit := ()
def PySem.W.Fast.tw1195218808849050940 : Unit := ()
def PySem.W.Fast.tw2469817796627924829 : Unit := ()
def PySem.W.Fast.tw5941910389569931413 : Unit := ()
def PySem.W.Fast.tw10529639803443944475 : Unit := ()
def PySem.W.Fast.tw16658186482068686169 : Unit := ()
def PySem.W.Fast.tw15221119941492768759 : Unit := ()
def PySem.W.Fast.tw4195598516685645705 : Unit := ()
def PySem.W.Fast.tw7098799025998442943 : Unit := ()
def PySem.W.Fast.tw1028254211916160196 : Unit := ()
def PySem.W.Fast.tw9893101168803752771 : Unit := ()
def PySem.W.Fast.tw6403433368801568096 : Unit := ()
def PySem.W.Fast.tw14957194310651317733 : Unit := ()
def PySem.W.Fast.tw17940443877493443288 : Unit := ()
def PySem.W.Fast.tw6622212024062433869 : Unit := ()
def PySem.W.Fast.tw15094513105680139804 : Unit := ()
def PySem.W.Fast.tw10896033399401971964 : Unit := ()
def PySem.W.Fast.tw9792616169387719755 : Unit := ()
def PySem.W.Fast.tw2763564711737762790 : Unit := ()
def PySem.W.Fast.tw9281715853518708282 : Unit := ()
def PySem.W.Fast.tw13585727949511646321 : Unit := ()
def PySem.W.Fast.tw10123010918529817582 : Unit := ()
def PySem.W.Fast.tw10152251477499909430 : Unit := ()
def PySem.W.Fast.tw5166979176593382939 : Unit := ()
def PySem.W.Fast.tw232885602476292475 : Unit := ()
def PySem.W.Fast.tw14949806240363202006 : Unit := ()
def PySem.W.Fast.tw17524453896755203419 : Unit := ()
def PySem.W.Fast.tw13456663806992003153 : Unit := ()
def PySem.W.Fast.tw5308191750911524877 : Unit := ()
def PySem.W.Fast.tw15981014824590011068 : Unit := ()
def PySem.W.Fast.tw4829976132088449981 : Unit := ()
def PySem.W.Fast.tw4424673267348369322 : Unit := ()
def PySem.W.Fast.tw13859377146407722553 : Unit := ()
def PySem.W.Fast.tw6006882355409704173 : Unit := ()
def PySem.W.Fast.tw16840987746531017678 : Unit := ()
def PySem.W.Fast.tw10674795078430216340 : Unit := ()
def PySem.W.Fast.tw8027735001816474609 : Unit := ()
def PySem.W.Fast.tw8174867570372672232 : Unit := ()
def PySem.W.Fast.tw12273060051122242445 : Unit := ()
def PySem.W.Fast.tw1529306185641593768 : Unit := ()
def PySem.W.Fast.tw2689194798147543830 : Unit := ()
def PySem.W.Fast.tw12026458041981548809 : Unit := ()
def PySem.W.Fast.tw10078866427280821716 : Unit := ()
def PySem.W.Fast.tw17634472167081937608 : Unit := ()
def PySem.W.Fast.tw9783777683914523306 : Unit := ()
def PySem.W.Fast.tw14554243799015200098 : Unit := ()
def PySem.W.Fast.tw3713318626967961061 : Unit := ()
def PySem.W.Fast.tw17445841581534170038 : Unit := ()
def PySem.W.Fast.tw1767901342767657737 : Unit := ()
def PySem.W.Fast.tw10113224131927745762 : Unit := ()
def PySem.W.Fast.tw5674942446520787149 : Unit := ()
def PySem.W.Fast.tw2603063978399084415 : Unit := ()
def PySem.W.Fast.tw12111797087002846637 : Unit := ()
def PySem.W.Fast.tw601473345575058706 : Unit := ()
def PySem.W.Fast.tw2985633665104843702 : Unit := ()
def PySem.W.Fast.tw6023747078261066501 : Unit := ()
def PySem.W.Fast.tw13791294875713323873 : Unit := ()
open PySem PySem.W PyProof.Rows
set_option maxRecDepth 100000 in
set_option maxHeartbeats 0 in
theorem PySem.Challenge.cw_asktally_k31_whole_helpers_written_and_r_holds : PySem.Challenge.rw_asktally_k31_whole_helpers_written_and_r.Holds := by
  w_on; o_law; k_head; (case hw => w_witness2)
  k_fill
  refine Mine.walk (l := PySem.Challenge.rw_asktally_k31_whole_helpers_written_and_r) rfl rfl (fun w h Y => PySem.W.kIn_of Y) ?F
  case F =>
    intro w mg fa h KX G hmg
    refine' Mine.all_mk KX G hmg ?a0 ?l0 ?c0 ?k0 ?a1 ?l1 ?c1 ?k1 ?a2 ?l2 ?c2 ?k2 ?a3 ?l3 ?c3 ?k3 ?a4 ?l4 ?c4 ?k4 ?a5 ?l5 ?c5 ?k5 ?a6 ?l6 ?c6 ?k6 ?a7 ?l7 ?c7 ?k7 ?a8 ?l8 ?c8 ?k8 ?a9 ?l9 ?c9 ?k9 ?a10 ?l10 ?c10 ?k10 ?a11 ?l11 ?c11 ?k11 ?a12 ?l12 ?c12 ?k12 ?a13 ?l13 ?c13 ?k13 ?a14 ?l14 ?c14 ?k14 ?a15 ?l15 ?c15 ?k15 ?a16 ?l16 ?c16 ?k16 ?a17 ?l17 ?c17 ?k17 ?a18 ?l18 ?c18 ?k18 ?a19 ?l19 ?c19 ?k19 ?a20 ?l20 ?c20 ?k20 ?a21 ?l21 ?c21 ?k21 ?a22 ?l22 ?c22 ?k22 ?a23 ?l23 ?c23 ?k23 ?gg ?aI ?iI ?lI ?cI ?kI ?aE ?iE ?lE ?cE ?kE ?aS ?iS ?lS ?cS ?kS ?aT ?iT ?lT ?cT ?kT ?aW ?iW ?lW ?cW ?kW ?aF ?iF ?lF ?cF ?kF ?pg ?hdi ?pov ?sat ?mki ?kcl ?nX ?nR ?nW ?nP ?nL ?nN ?g1 ?g3 ?g5 ?g6 ?g7 ?g8 ?e1 ?e2 ?e3 ?w1 ?w2 ?w3 ?j5 ?j6 ?j7 ?j8 ?q5 ?q6 ?q7 ?q8 ?p5 ?p6 ?p7 ?p8 ?z0 ?z1 ?z2 ?z3 ?z4 ?z5 ?z6 ?z7 ?z8 ?z9 ?z10
    (case a0 => k_is); (case l0 => k_is); (case c0 => k_is); (case k0 => k_is)
    (case a1 => k_is); (case l1 => k_is); (case c1 => k_is); (case k1 => k_is)
    (case a2 => k_is); (case l2 => k_is); (case c2 => k_is); (case k2 => k_is)
    (case a3 => k_is); (case l3 => k_is); (case c3 => k_is); (case k3 => k_is)
    (case a4 => k_is); (case l4 => k_is); (case c4 => k_is); (case k4 => k_is)
    (case a5 => k_is); (case l5 => k_is); (case c5 => k_is); (case k5 => k_is)
    (case a6 => k_is); (case l6 => k_is); (case c6 => k_is); (case k6 => k_is)
    (case a7 => k_is); (case l7 => k_is); (case c7 => k_is); (case k7 => k_is)
    (case a8 => k_is); (case l8 => k_is); (case c8 => k_is); (case k8 => k_is)
    (case a9 => k_is); (case l9 => k_is); (case c9 => k_is); (case k9 => k_is)
    (case a10 => k_is); (case l10 => k_is); (case c10 => k_is); (case k10 => k_is)
    (case a11 => k_is); (case l11 => k_is); (case c11 => k_is); (case k11 => k_is)
    (case a12 => k_is); (case l12 => k_is); (case c12 => k_is); (case k12 => k_is)
    (case a13 => k_is); (case l13 => k_is); (case c13 => k_is); (case k13 => k_is)
    (case a14 => k_is); (case l14 => k_is); (case c14 => k_is); (case k14 => k_is)
    (case a15 => k_is); (case l15 => k_is); (case c15 => k_is); (case k15 => k_is)
    (case a16 => k_is); (case l16 => k_is); (case c16 => k_is); (case k16 => k_is)
    (case a17 => k_is); (case l17 => k_is); (case c17 => k_is); (case k17 => k_is)
    (case a18 => k_is); (case l18 => k_is); (case c18 => k_is); (case k18 => k_is)
    (case a19 => k_is); (case l19 => k_is); (case c19 => k_is); (case k19 => k_is)
    (case a20 => k_is); (case l20 => k_is); (case c20 => k_is); (case k20 => k_is)
    (case a21 => k_is); (case l21 => k_is); (case c21 => k_is); (case k21 => k_is)
    (case a22 => k_is); (case l22 => k_is); (case c22 => k_is); (case k22 => k_is)
    (case a23 => k_is); (case l23 => k_is); (case c23 => k_is); (case k23 => k_is)
    (case gg => k_is)
    (case aI => k_is)
    (case iI => k_is)
    (case lI => k_is)
    (case cI => k_is)
    (case kI => k_is)
    (case aE => k_is)
    (case iE => k_is)
    (case lE => k_is)
    (case cE => k_is)
    (case kE => k_is)
    (case aS => k_is)
    (case iS => k_is)
    (case lS => k_is)
    (case cS => k_is)
    (case kS => k_is)
    (case aT => k_is)
    (case iT => k_is)
    (case lT => k_is)
    (case cT => k_is)
    (case kT => k_is)
    (case aW => k_is)
    (case iW => k_is)
    (case lW => k_is)
    (case cW => k_is)
    (case kW => k_is)
    (case aF => k_is)
    (case iF => k_is)
    (case lF => k_is)
    (case cF => k_is)
    (case kF => k_is)
    (case pg => k_is)
    (case hdi => k_is)
    (case pov => k_is)
    (case sat => k_is)
    (case mki => k_is)
    (case kcl => k_is)
    (case nX => k_is)
    (case nR => k_is)
    (case nW => k_is)
    (case nP => k_is)
    (case nL => k_is)
    (case nN => k_is)
    (case g1 => k_is)
    (case g3 => k_is)
    (case g5 => k_is)
    (case g6 => k_is)
    (case g7 => decide)
    (case g8 => exact Mine.kept_vals)
    (case e1 => k_is)
    (case e2 => k_is)
    (case e3 => k_is)
    (case w1 => k_is)
    (case w2 => k_is)
    (case w3 => k_is)
    (case j5 => k_is)
    (case j6 => k_is)
    (case j7 => decide)
    (case j8 => exact Mine.sign_vals)
    (case q5 => k_is)
    (case q6 => k_is)
    (case q7 => decide)
    (case q8 => exact Mine.ask_vals)
    (case p5 => k_is)
    (case p6 => k_is)
    (case p7 => decide)
    (case p8 => exact Mine.plain_vals)
    (case z0 => k_is)
    (case z1 => k_is)
    (case z2 => k_is)
    (case z3 => k_is)
    (case z4 => k_is)
    (case z5 => k_is)
    (case z6 => k_is)
    (case z7 => k_is)
    (case z8 => k_is)
    (case z9 => k_is)
    (case z10 => k_is)
